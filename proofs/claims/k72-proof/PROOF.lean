import PyProof.Rows.All
import Wide.All
import OpenK.AllK
import Wide.FinOn
import HandS.ForMost
import HandS.IsInst
import HandS.Flow
import HandS.Style
import HandS.Text
import HandS.AnyAll
import HandS.EndTab
import HandS.More
import HandS.Walk
import HandS.Codes
import HandS.NoneIn
import HandS.ForExc
import HandS.Zip
import HandS.Iter
import HandS.RevRange
import HandS.WideBits
import HandS.Star
import PyProof.NoPylong
import Flt.Len
import HandS.TupAny
import HandS.Deep
import HandS.ExcIs
import HandS.TryOnly
import KE.LtData
import KE.DataCmp
import PySem.Challenge.RW_kindfill_k72_kinds_in_order
set_option Elab.async false
set_option maxRecDepth 100000
set_option linter.all false
set_option autoImplicit false
namespace Vl
open PySem L2
/-! a layer over the hand layer: defs over data, without a heap. Data stands still; lists that change stand in a store of their own. -/
abbrev D := PyData
/-- what stands in the store: a list; a dict of data; a dict whose values are lists of the store -/
inductive Ob where
  | l (ds : List D)
  | m (kvs : List (L2.Key × D))
  | mo (kvs : List (L2.Key × Nat))
/-- what a name holds: data; the j-th list of the store; a list that is only read -/
inductive Sl where
  | val (d : D)
  | obj (j : Nat)
  | kn (ds : List D)
  | exc (a : Addr)
/-- names and the store (none: given away) -/
structure En where
  sl : List (Option Sl)
  st : List (Option Ob)
mutual
inductive At (K : PySem.W.Frag) (F : Hp) : D → V → Prop
  | non : At K F .none .non
  | bl (b : Bool) : At K F (.bool b) (.bl b)
  | int (i : Int) : At K F (.int i) (.int i)
  | str (x : Str) : At K F (.str x) (.str x)
  | lst {a : Addr} {xs : List V} {ds : List D} : F a = some (.lst xs) → AtL K F ds xs → At K F (.list ds) (.ref a)
  | tup {a : Addr} {xs : List V} {ds : List D} : SqT K F a xs → AtL K F ds xs → At K F (.tuple ds) (.ref a)
  | dct {a : Addr} : F a = some (.dK []) → At K F (.dict []) (.ref a)
inductive AtL (K : PySem.W.Frag) (F : Hp) : List D → List V → Prop
  | nil : AtL K F [] []
  | cons {d : D} {ds : List D} {v : V} {vs : List V} : At K F d v → AtL K F ds vs → AtL K F (d :: ds) (v :: vs)
end
/-- what stood stands -/
def Le (F G : Hp) : Prop := ∀ b o, F b = some o → G b = some o
theorem Le.refl (F : Hp) : Le F F := fun _ _ e => e
theorem Le.trans {F G H : Hp} (a : Le F G) (b : Le G H) : Le F H := fun c o e => b c o (a c o e)
theorem Le.new {F : Hp} {p : Addr} {o : HO} (h : F p = none) : Le F (upd F p o) := fun b u e => by
  rw [upd_ne (ne_of_none e h)]
  exact e
theorem Le.free {F G : Hp} {p : Addr} (s : Le F G) (h : G p = none) : F p = none := by
  cases e : F p with
  | none => rfl
  | some o =>
    rw [s p o e] at h
    cases h
section
variable {K : PySem.W.Frag} {F G : Hp}
theorem sqT_le (s : Le F G) {a : Addr} {xs : List V} (h : SqT K F a xs) : SqT K G a xs := by
  rcases h with (h | ⟨o, h⟩) | h
  · exact .inl (.inl (s _ _ h))
  · exact .inl (.inr ⟨o, s _ _ h⟩)
  · exact .inr h
theorem sqL_le (s : Le F G) {a : Addr} {xs : List V} (h : SqL K F a xs) : SqL K G a xs := by
  rcases h with (h | ⟨o, h⟩) | h
  · exact .inl (.inl (s _ _ h))
  · exact .inl (.inr ⟨o, s _ _ h⟩)
  · exact .inr h
mutual
theorem At.le (s : Le F G) : ∀ (d : D) (v : V), At K F d v → At K G d v
  | .none, _, h => by
    cases h
    exact .non
  | .bool b, _, h => by
    cases h
    exact .bl b
  | .int i, _, h => by
    cases h
    exact .int i
  | .str x, _, h => by
    cases h
    exact .str x
  | .list ds, _, h => by
    cases h with
    | lst h1 h2 => exact .lst (s _ _ h1) (AtL.le s ds _ h2)
  | .tuple ds, _, h => by
    cases h with
    | tup h1 h2 => exact .tup (sqT_le s h1) (AtL.le s ds _ h2)
  | .dict _, _, h => by
    cases h with
    | dct h1 => exact .dct (s _ _ h1)
theorem AtL.le (s : Le F G) : ∀ (ds : List D) (vs : List V), AtL K F ds vs → AtL K G ds vs
  | [], _, h => by
    cases h
    exact .nil
  | d :: ds, _, h => by
    cases h with
    | cons h1 h2 => exact .cons (At.le s d _ h1) (AtL.le s ds _ h2)
end
theorem can_all1 {x : D} {xs : List D} (h : PyData.canLayAll0 (x :: xs) = true) : PyData.canLay0 x = true ∧ PyData.canLayAll0 xs = true := by
  rw [PyData.canLayAll0, Bool.and_eq_true] at h
  exact h
mutual
theorem At.dp (s : Le F G) : ∀ (d : D) (v : V), PyData.canLay0 d = true → At K F d v → Dp K G v d
  | .none, _, _, h => by
    cases h
    exact .non
  | .bool b, _, _, h => by
    cases h
    exact .bl b
  | .int i, _, _, h => by
    cases h
    exact .int i
  | .str x, _, _, h => by
    cases h
    exact .str x
  | .list ds, _, c, h => by
    cases h with
    | lst h1 h2 => exact .lst (SqL.of (s _ _ h1)) (AtL.dp s ds _ (by rw [PyData.canLay0] at c; exact c) h2)
  | .tuple ds, _, c, h => by
    cases h with
    | tup h1 h2 => exact .tup (sqT_le s h1) (AtL.dp s ds _ (by rw [PyData.canLay0] at c; exact c) h2)
  | .dict _, _, c, h => by
    rw [PyData.canLay0] at c
    cases c
theorem AtL.dp (s : Le F G) : ∀ (ds : List D) (vs : List V), PyData.canLayAll0 ds = true → AtL K F ds vs → DpAll K G vs ds
  | [], _, _, h => by
    cases h
    exact .nil
  | d :: ds, _, c, h => by
    cases h with
    | cons h1 h2 => exact .cons (At.dp s d _ (can_all1 c).1 h1) (AtL.dp s ds _ (can_all1 c).2 h2)
end
theorem AtL.len {ds : List D} {vs : List V} (h : AtL K F ds vs) : vs.length = ds.length := by
  induction ds generalizing vs with
  | nil =>
    cases h
    rfl
  | cons d ds ih =>
    cases h with
    | cons h1 h2 => simp [ih h2]
theorem AtL.app {ds es : List D} {vs us : List V} (h : AtL K F ds vs) (g : AtL K F es us) : AtL K F (ds ++ es) (vs ++ us) := by
  induction ds generalizing vs with
  | nil =>
    cases h
    exact g
  | cons d ds ih =>
    cases h with
    | cons h1 h2 => exact .cons h1 (ih h2)
theorem AtL.one {d : D} {v : V} (h : At K F d v) : AtL K F [d] [v] := .cons h .nil
theorem AtL.get {ds : List D} {vs : List V} {i : Nat} {d : D} (h : AtL K F ds vs) (e : ds[i]? = some d) : ∃ v, vs[i]? = some v ∧ At K F d v := by
  induction ds generalizing vs i with
  | nil => simp at e
  | cons c ds ih =>
    cases h with
    | cons h1 h2 =>
      cases i with
      | zero =>
        simp at e
        exact ⟨_, rfl, e ▸ h1⟩
      | succ i => exact ih (i := i) h2 (by simpa using e)
theorem AtL.getV {ds : List D} {vs : List V} {i : Nat} {v : V} (h : AtL K F ds vs) (e : vs[i]? = some v) : ∃ d, ds[i]? = some d ∧ At K F d v := by
  have hl := h.len
  have hi := (List.getElem?_eq_some_iff.mp e).1
  have e' : ds[i]? = some (ds[i]'(by omega)) := by simp [show i < ds.length by omega]
  obtain ⟨u, hu, a⟩ := h.get e'
  rw [e] at hu
  cases hu
  exact ⟨_, e', a⟩
theorem AtL.set {ds : List D} {vs : List V} {d : D} {v : V} (g : At K F d v) (j : Nat) (h : AtL K F ds vs) : AtL K F (ds.set j d) (vs.set j v) := by
  induction ds generalizing vs j with
  | nil =>
    cases h
    exact .nil
  | cons c ds ih =>
    cases h with
    | cons h1 h2 =>
      cases j with
      | zero => exact .cons g h2
      | succ j => exact .cons h1 (ih j h2)
theorem AtL.take {ds : List D} {vs : List V} (n : Nat) (h : AtL K F ds vs) : AtL K F (ds.take n) (vs.take n) := by
  induction ds generalizing vs n with
  | nil =>
    cases h
    simp
    exact .nil
  | cons c ds ih =>
    cases h with
    | cons h1 h2 =>
      cases n with
      | zero => exact .nil
      | succ n => exact .cons h1 (ih n h2)
theorem AtL.drop {ds : List D} {vs : List V} (n : Nat) (h : AtL K F ds vs) : AtL K F (ds.drop n) (vs.drop n) := by
  induction ds generalizing vs n with
  | nil =>
    cases h
    simp
    exact .nil
  | cons c ds ih =>
    cases h with
    | cons h1 h2 =>
      cases n with
      | zero => exact .cons h1 h2
      | succ n => exact ih n h2
theorem AtL.dropLast {ds : List D} {vs : List V} (h : AtL K F ds vs) : AtL K F ds.dropLast vs.dropLast := by
  rw [List.dropLast_eq_take, List.dropLast_eq_take, h.len]
  exact h.take _
end
/-- a name's value -/
def SlAt (K : PySem.W.Frag) (F : Hp) (A : List Addr) (v : V) : Sl → Prop
  | .val d => At K F d v
  | .obj j => ∃ a, A[j]? = some a ∧ v = .ref a
  | .kn ds => ∃ a xs, v = .ref a ∧ SqL K F a xs ∧ AtL K F ds xs
  | .exc a => v = .ref a
theorem SlAt.le {K : PySem.W.Frag} {F G : Hp} {A B : List Addr} (s : Le F G) (p : A <+: B) {v : V} : ∀ {x : Sl}, SlAt K F A v x → SlAt K G B v x
  | .val d, h => At.le s d v h
  | .obj j, ⟨a, e, h⟩ => ⟨a, by
      obtain ⟨t, rfl⟩ := p
      have hj := (List.getElem?_eq_some_iff.mp e).1
      rw [List.getElem?_append_left hj]
      exact e, h⟩
  | .kn ds, ⟨a, xs, e, h1, h2⟩ => ⟨a, xs, e, sqL_le s h1, AtL.le s ds xs h2⟩
  | .exc _, h => h
/-- a dict's pairs -/
inductive KvAt (K : PySem.W.Frag) (F : Hp) : List (L2.Key × D) → List (L2.Key × V) → Prop
  | nil : KvAt K F [] []
  | cons {k : L2.Key} {d : D} {v : V} {kvs : List (L2.Key × D)} {vs : List (L2.Key × V)} : At K F d v → KvAt K F kvs vs → KvAt K F ((k, d) :: kvs) ((k, v) :: vs)
theorem KvAt.le {K : PySem.W.Frag} {F G : Hp} (s : Le F G) {kvs : List (L2.Key × D)} {vs : List (L2.Key × V)} (h : KvAt K F kvs vs) : KvAt K G kvs vs := by
  induction h with
  | nil => exact .nil
  | cons h _ ih => exact .cons (At.le s _ _ h) ih
inductive MoAt (A : List Addr) : List (L2.Key × Nat) → List (L2.Key × V) → Prop
  | nil : MoAt A [] []
  | cons {k : L2.Key} {j : Nat} {a : Addr} {kvs : List (L2.Key × Nat)} {vs : List (L2.Key × V)} : A[j]? = some a → MoAt A kvs vs → MoAt A ((k, j) :: kvs) ((k, .ref a) :: vs)
theorem pfx_get {A B : List Addr} (p : A <+: B) {j : Nat} {a : Addr} (e : A[j]? = some a) : B[j]? = some a := by
  obtain ⟨t, rfl⟩ := p
  have hj := (List.getElem?_eq_some_iff.mp e).1
  rw [List.getElem?_append_left hj]
  exact e
theorem MoAt.le {A B : List Addr} (p : A <+: B) {kvs : List (L2.Key × Nat)} {vs : List (L2.Key × V)} (h : MoAt A kvs vs) : MoAt B kvs vs := by
  induction h with
  | nil => exact .nil
  | cons h _ ih => exact .cons (pfx_get p h) ih
/-- a thing of the store, by what stands at its address -/
def ObAt (K : PySem.W.Frag) (F : Hp) (A : List Addr) (h : Option HO) : Ob → Prop
  | .l ds => ∃ xs, h = some (.lst xs) ∧ AtL K F ds xs
  | .m kvs => ∃ vs, h = some (.dK vs) ∧ KvAt K F kvs vs
  | .mo kvs => ∃ vs, h = some (.dK vs) ∧ MoAt A kvs vs
theorem ObAt.le {K : PySem.W.Frag} {F G : Hp} {A B : List Addr} {h h' : Option HO} (s : Le F G) (p : A <+: B) (k : ∀ o, h = some o → h' = some o) : ∀ {ob : Ob}, ObAt K F A h ob → ObAt K G B h' ob
  | .l ds, ⟨xs, e, a⟩ => ⟨xs, k _ e, AtL.le s _ _ a⟩
  | .m kvs, ⟨vs, e, a⟩ => ⟨vs, k _ e, a.le s⟩
  | .mo kvs, ⟨vs, e, a⟩ => ⟨vs, k _ e, a.le p⟩
theorem ObAt.some {K : PySem.W.Frag} {F : Hp} {A : List Addr} {h : Option HO} : ∀ {ob : Ob}, ObAt K F A h ob → ∃ o, h = Option.some o
  | .l ds, ⟨xs, e, a⟩ => ⟨_, e⟩
  | .m kvs, ⟨vs, e, a⟩ => ⟨_, e⟩
  | .mo kvs, ⟨vs, e, a⟩ => ⟨_, e⟩
/-- how names, store and heap stand: F what stands still, R what the callers keep, A where the store's lists lie -/
structure Rep (K : PySem.W.Frag) (R F : Hp) (A : List Addr) (σ : List (Option V)) (H : Hp) (e : En) : Prop where
  sub : Le F H
  keep : Le R H
  apart : ∀ a o, R a = some o → F a = none ∧ a ∉ A
  len : e.sl.length = σ.length
  lenA : e.st.length = A.length
  nodup : A.Nodup
  live : ∀ a ∈ A, ∃ o, H a = some o
  slot : ∀ (i : Nat) (s : Sl), e.sl[i]? = some (some s) → ∃ v, σ[i]? = some (some v) ∧ SlAt K F A v s
  store : ∀ (j : Nat) (ob : Ob), e.st[j]? = some (some ob) → ∃ a, A[j]? = some a ∧ F a = none ∧ ObAt K F A (H a) ob
section
variable {K : PySem.W.Frag} {R F : Hp} {A : List Addr} {σ : L2.St} {H : Hp} {e : En}
theorem Rep.lst (r : Rep K R F A σ H e) {j : Nat} {ds : List D} (h : e.st[j]? = some (some (.l ds))) : ∃ a xs, A[j]? = some a ∧ F a = none ∧ H a = some (.lst xs) ∧ AtL K F ds xs := by
  obtain ⟨a, h1, h2, xs, h3, h4⟩ := r.store j _ h
  exact ⟨a, xs, h1, h2, h3, h4⟩
theorem pfx_refl (A : List Addr) : A <+: A := List.prefix_refl A
theorem nodup_at {A : List Addr} (h : A.Nodup) {i j : Nat} {a : Addr} (e : A[i]? = some a) (f : A[j]? = some a) : i = j := by
  obtain ⟨hi, ei⟩ := List.getElem?_eq_some_iff.mp e
  obtain ⟨hj, ej⟩ := List.getElem?_eq_some_iff.mp f
  exact (List.getElem_inj h).mp (ei.trans ej.symm)
/-- a new thing that stands still -/
theorem Rep.fresh (r : Rep K R F A σ H e) {p : Addr} (hp : H p = none) (o : HO) : Rep K R (upd F p o) A σ (upd H p o) e ∧ Le F (upd F p o) := by
  have hF : F p = none := r.sub.free hp
  have hR : R p = none := r.keep.free hp
  have hA : p ∉ A := fun hm => by
    obtain ⟨o, ho⟩ := r.live p hm
    rw [ho] at hp
    cases hp
  have l := Le.new (o := o) hF
  have l2 := Le.new (o := o) hp
  refine ⟨⟨fun b u z => ?_, Le.trans r.keep l2, fun a u z => ⟨?_, (r.apart a u z).2⟩, r.len, r.lenA, r.nodup, fun a ha => ?_, fun i s z => ?_, fun j ds z => ?_⟩, l⟩
  · by_cases hb : b = p
    · subst hb
      rw [upd_same] at z ⊢
      exact z
    · rw [upd_ne hb] at z ⊢
      exact r.sub _ _ z
  · rw [upd_ne (fun q => by rw [q, hR] at z; cases z)]
    exact (r.apart a u z).1
  · obtain ⟨u, hu⟩ := r.live a ha
    exact ⟨u, l2 _ _ hu⟩
  · obtain ⟨v, h1, h2⟩ := r.slot i s z
    exact ⟨v, h1, h2.le l (pfx_refl A)⟩
  · obtain ⟨a, h1, h2, h3⟩ := r.store j ds z
    refine ⟨a, h1, ?_, h3.le l (pfx_refl A) fun u e => l2 _ _ e⟩
    have n : a ≠ p := fun q => hA (by rw [← q]; exact List.mem_of_getElem? h1)
    rw [upd_ne n]
    exact h2
/-- a new thing of the store -/
theorem Rep.allocO (r : Rep K R F A σ H e) {p : Addr} (hp : H p = none) {o : HO} {ob : Ob} (hx : ObAt K F (A ++ [p]) (some o) ob) : Rep K R F (A ++ [p]) σ (upd H p o) ⟨e.sl, e.st ++ [some ob]⟩ ∧ A <+: A ++ [p] := by
  have hF : F p = none := r.sub.free hp
  have hR : R p = none := r.keep.free hp
  have hA : p ∉ A := fun hm => by
    obtain ⟨o, ho⟩ := r.live p hm
    rw [ho] at hp
    cases hp
  have l2 := Le.new (o := o) hp
  have pf : A <+: A ++ [p] := ⟨[p], rfl⟩
  refine ⟨⟨Le.trans r.sub l2, Le.trans r.keep l2, fun a u z => ⟨(r.apart a u z).1, fun hm => ?_⟩, r.len, ?_, ?_, fun a ha => ?_, fun i s z => ?_, fun j cs z => ?_⟩, pf⟩
  · rcases List.mem_append.mp hm with hm | hm
    · exact (r.apart a u z).2 hm
    · rw [List.mem_singleton.mp hm, hR] at z
      cases z
  · simp [r.lenA]
  · rw [List.nodup_append]
    exact ⟨r.nodup, by simp, fun a ha b hb q => hA (by rw [List.mem_singleton.mp hb] at q; exact q ▸ ha)⟩
  · rcases List.mem_append.mp ha with ha | ha
    · obtain ⟨u, hu⟩ := r.live a ha
      exact ⟨u, l2 _ _ hu⟩
    · rw [List.mem_singleton.mp ha]
      exact ⟨_, upd_same⟩
  · obtain ⟨v, h1, h2⟩ := r.slot i s z
    exact ⟨v, h1, h2.le (Le.refl F) pf⟩
  · have z' : (e.st ++ [some ob])[j]? = some (some cs) := z
    by_cases hj : j < e.st.length
    · rw [List.getElem?_append_left hj] at z'
      obtain ⟨a, h1, h2, h3⟩ := r.store j cs z'
      exact ⟨a, pfx_get pf h1, h2, h3.le (Le.refl F) pf fun u e => l2 _ _ e⟩
    · rw [List.getElem?_append_right (by omega)] at z'
      have hj0 : j - e.st.length = 0 := by
        rcases Nat.eq_zero_or_pos (j - e.st.length) with q | q
        · exact q
        · rw [List.getElem?_eq_none (by simp; omega)] at z'
          cases z'
      rw [hj0] at z'
      simp at z'
      subst z'
      refine ⟨p, ?_, hF, ?_⟩
      · rw [List.getElem?_append_right (by rw [← r.lenA]; omega), ← r.lenA, hj0] <;> rfl
      · rw [upd_same]
        exact hx
theorem Rep.alloc (r : Rep K R F A σ H e) {p : Addr} (hp : H p = none) {xs : List V} {ds : List D} (hx : AtL K F ds xs) : Rep K R F (A ++ [p]) σ (upd H p (.lst xs)) ⟨e.sl, e.st ++ [some (.l ds)]⟩ ∧ A <+: A ++ [p] := r.allocO hp (o := .lst xs) (ob := .l ds) ⟨xs, rfl, hx⟩
/-- the j-th thing of the store is changed -/
theorem Rep.writeO (r : Rep K R F A σ H e) {j : Nat} {a : Addr} {ob : Ob} (hj : A[j]? = some a) (hl : e.st[j]? = some (some ob)) {o : HO} {ob' : Ob} (hx : ObAt K F A (some o) ob') :
    Rep K R F A σ (upd H a o) ⟨e.sl, e.st.set j (some ob')⟩ := by
  obtain ⟨a', e1, hF, hH⟩ := r.store j ob hl
  rw [hj] at e1
  cases e1
  have hjl : j < e.st.length := (List.getElem?_eq_some_iff.mp hl).1
  have hm : a ∈ A := List.mem_of_getElem? hj
  refine ⟨fun b u z => ?_, fun b u z => ?_, r.apart, r.len, by simp [r.lenA], r.nodup, fun b hb => ?_, r.slot, fun i cs z => ?_⟩
  · rw [upd_ne (fun q => by rw [q, hF] at z; cases z)]
    exact r.sub _ _ z
  · have n : b ≠ a := fun q => (r.apart b u z).2 (by rw [q]; exact hm)
    rw [upd_ne n]
    exact r.keep _ _ z
  · by_cases q : b = a
    · subst q
      exact ⟨_, upd_same⟩
    · rw [upd_ne q]
      exact r.live b hb
  · have z' : (e.st.set j (some ob'))[i]? = some (some cs) := z
    by_cases q : i = j
    · subst q
      rw [List.getElem?_set_self hjl] at z'
      cases z'
      exact ⟨a, hj, hF, by rw [upd_same]; exact hx⟩
    · rw [List.getElem?_set_ne (Ne.symm q)] at z'
      obtain ⟨b, h1, h2, h3⟩ := r.store i cs z'
      have n : b ≠ a := fun w => q (nodup_at r.nodup (by rw [← w]; exact h1) hj)
      exact ⟨b, h1, h2, by rw [upd_ne n]; exact h3⟩
theorem Rep.write (r : Rep K R F A σ H e) {j : Nat} {a : Addr} {ds : List D} (hj : A[j]? = some a) (hl : e.st[j]? = some (some (.l ds))) {xs' : List V} {ds' : List D} (hx : AtL K F ds' xs') :
    Rep K R F A σ (upd H a (.lst xs')) ⟨e.sl, e.st.set j (some (.l ds'))⟩ := r.writeO hj hl (o := .lst xs') (ob' := .l ds') ⟨xs', rfl, hx⟩
/-- a name is given a value -/
theorem Rep.put (r : Rep K R F A σ H e) {i : Nat} {v : V} {s : Sl} (h : SlAt K F A v s) : Rep K R F A (σ.set i (some v)) H ⟨e.sl.set i (some s), e.st⟩ := by
  refine ⟨r.sub, r.keep, r.apart, by simp [r.len], r.lenA, r.nodup, r.live, fun k t z => ?_, r.store⟩
  have z' : (e.sl.set i (some s))[k]? = some (some t) := z
  by_cases q : k = i
  · subst q
    have hk : k < e.sl.length := by
      have := (List.getElem?_eq_some_iff.mp z').1
      simpa using this
    rw [List.getElem?_set_self hk] at z'
    cases z'
    exact ⟨v, by rw [List.getElem?_set_self (by rw [← r.len]; exact hk)], h⟩
  · rw [List.getElem?_set_ne (Ne.symm q)] at z'
    obtain ⟨u, h1, h2⟩ := r.slot k t z'
    exact ⟨u, by rw [List.getElem?_set_ne (Ne.symm q)]; exact h1, h2⟩
/-- the names that hold the j-th list hold data from now on -/
def thaw (j : Nat) (ds : List D) : Option Sl → Option Sl
  | some (.obj i) => if i = j then some (.val (.list ds)) else some (.obj i)
  | s => s
def En.kill (e : En) (j : Nat) (ds : List D) : En := ⟨e.sl.map (thaw j ds), e.st.set j none⟩
theorem Rep.freeze (r : Rep K R F A σ H e) {j : Nat} {ds : List D} (hl : e.st[j]? = some (some (.l ds))) :
    ∃ a xs, A[j]? = some a ∧ Rep K R (upd F a (.lst xs)) A σ H (e.kill j ds) ∧ Le F (upd F a (.lst xs)) ∧ At K (upd F a (.lst xs)) (.list ds) (.ref a) := by
  obtain ⟨a, xs, hj, hF, hH, hx⟩ := r.lst hl
  have hm : a ∈ A := List.mem_of_getElem? hj
  have l := Le.new (o := .lst xs) hF
  have hat : At K (upd F a (.lst xs)) (.list ds) (.ref a) := .lst upd_same (AtL.le l _ _ hx)
  refine ⟨a, xs, hj, ⟨fun b u z => ?_, r.keep, fun b u z => ⟨?_, (r.apart b u z).2⟩, by simp [En.kill, r.len], by simp [En.kill, r.lenA], r.nodup, r.live, fun i s z => ?_, fun i cs z => ?_⟩, l, hat⟩
  · by_cases hb : b = a
    · subst hb
      rw [upd_same] at z
      cases z
      exact hH
    · rw [upd_ne hb] at z
      exact r.sub _ _ z
  · have n : b ≠ a := fun q => (r.apart b u z).2 (by rw [q]; exact hm)
    rw [upd_ne n]
    exact (r.apart b u z).1
  · have z' : (e.sl.map (thaw j ds))[i]? = some (some s) := z
    rw [List.getElem?_map] at z'
    obtain ⟨t, ht, hs⟩ := Option.map_eq_some_iff.mp z'
    cases t with
    | none => cases hs
    | some t =>
      cases t with
      | val d =>
        cases hs
        obtain ⟨v, h1, h2⟩ := r.slot i _ ht
        exact ⟨v, h1, h2.le l (pfx_refl A)⟩
      | kn d =>
        cases hs
        obtain ⟨v, h1, h2⟩ := r.slot i _ ht
        exact ⟨v, h1, SlAt.le (x := .kn d) l (pfx_refl A) h2⟩
      | exc d =>
        cases hs
        obtain ⟨v, h1, h2⟩ := r.slot i _ ht
        exact ⟨v, h1, h2⟩
      | obj k =>
        obtain ⟨v, h1, b, hb, hv⟩ := r.slot i _ ht
        have hs' : (if k = j then some (Sl.val (.list ds)) else some (Sl.obj k)) = some s := hs
        split at hs'
        · rename_i q
          cases hs'
          subst q
          rw [hj] at hb
          cases hb
          exact ⟨v, h1, by rw [hv]; exact hat⟩
        · cases hs'
          exact ⟨v, h1, b, hb, hv⟩
  · have z' : (e.st.set j none)[i]? = some (some cs) := z
    have hjl : j < e.st.length := (List.getElem?_eq_some_iff.mp hl).1
    by_cases q : i = j
    · subst q
      rw [List.getElem?_set_self hjl] at z'
      cases z'
    · rw [List.getElem?_set_ne (Ne.symm q)] at z'
      obtain ⟨b, h1, h2, h3⟩ := r.store i cs z'
      refine ⟨b, h1, ?_, h3.le l (pfx_refl A) fun _ e => e⟩
      have n : b ≠ a := fun w => q (nodup_at r.nodup (by rw [← w]; exact h1) hj)
      rw [upd_ne n]
      exact h2
/-- a name's value is forgotten -/
theorem Rep.weak (r : Rep K R F A σ H e) {σ' : L2.St} {sl : List (Option Sl)} (hl : sl.length = σ'.length) (h : ∀ (i : Nat) (s : Sl), sl[i]? = some (some s) → ∃ v, σ'[i]? = some (some v) ∧ SlAt K F A v s) : Rep K R F A σ' H ⟨sl, e.st⟩ :=
  ⟨r.sub, r.keep, r.apart, hl, r.lenA, r.nodup, r.live, h, r.store⟩
end
end Vl
namespace Vl
open PySem L2
abbrev KE := Sl → En → Prop
abbrev VTE := En → KE → Prop
abbrev VTT := En → (Bool → En → Prop) → Prop
abbrev VTA := En → (List Sl → En → Prop) → Prop
def Fin (K : PySem.W.Frag) (R F : Hp) (A : List Addr) (σ : L2.St) (Kp : KE) (Q : VK) : Prop := ∀ s e' v F' A' H', Kp s e' → Le F F' → A <+: A' → Rep K R F' A' σ H' e' → SlAt K F' A' v s → Q v H'
def liftE (K : PySem.W.Frag) (t : VTE) : TE := fun σ H Q => ∃ R F A e Kp, Rep K R F A σ H e ∧ t e Kp ∧ Fin K R F A σ Kp Q
def FinT (K : PySem.W.Frag) (R F : Hp) (A : List Addr) (σ : L2.St) (Kp : Bool → En → Prop) (Q : Bool → Hp → Prop) : Prop := ∀ b e' F' A' H', Kp b e' → Le F F' → A <+: A' → Rep K R F' A' σ H' e' → Q b H'
def liftT (K : PySem.W.Frag) (t : VTT) : TT := fun σ H Q => ∃ R F A e Kp, Rep K R F A σ H e ∧ t e Kp ∧ FinT K R F A σ Kp Q
inductive SlAts (K : PySem.W.Frag) (F : Hp) (A : List Addr) : List V → List Sl → Prop
  | nil : SlAts K F A [] []
  | cons {v : V} {vs : List V} {s : Sl} {ss : List Sl} : SlAt K F A v s → SlAts K F A vs ss → SlAts K F A (v :: vs) (s :: ss)
theorem SlAts.le {K : PySem.W.Frag} {F G : Hp} {A B : List Addr} (s : Le F G) (p : A <+: B) {vs : List V} {ss : List Sl} (h : SlAts K F A vs ss) : SlAts K G B vs ss := by
  induction h with
  | nil => exact .nil
  | cons h _ ih => exact .cons (h.le s p) ih
theorem SlAts.len {K : PySem.W.Frag} {F : Hp} {A : List Addr} {vs : List V} {ss : List Sl} (h : SlAts K F A vs ss) : vs.length = ss.length := by
  induction h with
  | nil => rfl
  | cons h _ ih => simp [ih]
def FinA (K : PySem.W.Frag) (R F : Hp) (A : List Addr) (σ : L2.St) (Kp : List Sl → En → Prop) (Q : List V → Hp → Prop) : Prop := ∀ ss e' vs F' A' H', Kp ss e' → Le F F' → A <+: A' → Rep K R F' A' σ H' e' → SlAts K F' A' vs ss → Q vs H'
def liftA (K : PySem.W.Frag) (t : VTA) : TA := fun σ H Q => ∃ R F A e Kp, Rep K R F A σ H e ∧ t e Kp ∧ FinA K R F A σ Kp Q
/-- the judgements -/
def VE (X : Cx) (ex : Expr) (t : VTE) : Prop := PE X ex (liftE X.K t)
def VT (X : Cx) (ex : Expr) (t : VTT) : Prop := PT X ex (liftT X.K t)
def VW (X : Cx) (ex : Expr) (t : VTT) : Prop := PW X ex (liftT X.K t)
def VA (X : Cx) (es : List Expr) (t : VTA) : Prop := PA X es (liftA X.K t)
theorem PE.imp {X : Cx} {ex : Expr} {t t' : TE} (h : PE X ex t) (f : ∀ σ H Q, t' σ H Q → t σ H Q) : PE X ex t' := ⟨fun pins s σ H Q I q => h.run pins s σ H Q I (f σ H Q q)⟩
theorem PT.imp {X : Cx} {ex : Expr} {t t' : TT} (h : PT X ex t) (f : ∀ σ H Q, t' σ H Q → t σ H Q) : PT X ex t' := ⟨fun pins s σ H Q I q => h.run pins s σ H Q I (f σ H Q q)⟩
theorem PW.imp {X : Cx} {ex : Expr} {t t' : TT} (h : PW X ex t) (f : ∀ σ H Q, t' σ H Q → t σ H Q) : PW X ex t' := ⟨fun wh pins s σ H Q I q => h.run wh pins s σ H Q I (f σ H Q q)⟩
theorem PA.imp {X : Cx} {ex : List Expr} {t t' : TA} (h : PA X ex t) (f : ∀ σ H Q, t' σ H Q → t σ H Q) : PA X ex t' := ⟨fun pos pins s σ H Q I q => h.run pos pins s σ H Q I (f σ H Q q)⟩
theorem PS.imp {X : Cx} {ex : Stmt} {t t' : TS} (h : PS X ex t) (f : ∀ D σ H, t' D σ H → t D σ H) : PS X ex t' := ⟨fun pins s σ H D I q => h.run pins s σ H D I (f D σ H q)⟩
theorem PSs.imp {X : Cx} {ex : List Stmt} {t t' : TS} (h : PSs X ex t) (f : ∀ D σ H, t' D σ H → t D σ H) : PSs X ex t' := ⟨fun pins s σ H D I q => h.run pins s σ H D I (f D σ H q)⟩
section
variable {K : PySem.W.Frag} {R F : Hp} {A : List Addr} {σ : L2.St} {H : Hp} {e : En} {Kp : KE} {Q : VK}
theorem Fin.tr {F1 : Hp} {A1 : List Addr} (f : Fin K R F A σ Kp Q) (a : Le F F1) (b : A <+: A1) : Fin K R F1 A1 σ Kp Q := fun s e' v F' A' H' k h1 h2 => f s e' v F' A' H' k (a.trans h1) (b.trans h2)
theorem FinT.tr {Kp : Bool → En → Prop} {Q : Bool → Hp → Prop} {F1 : Hp} {A1 : List Addr} (f : FinT K R F A σ Kp Q) (a : Le F F1) (b : A <+: A1) : FinT K R F1 A1 σ Kp Q := fun s e' F' A' H' k h1 h2 => f s e' F' A' H' k (a.trans h1) (b.trans h2)
theorem FinA.tr {Kp : List Sl → En → Prop} {Q : List V → Hp → Prop} {F1 : Hp} {A1 : List Addr} (f : FinA K R F A σ Kp Q) (a : Le F F1) (b : A <+: A1) : FinA K R F1 A1 σ Kp Q := fun s e' v F' A' H' k h1 h2 => f s e' v F' A' H' k (a.trans h1) (b.trans h2)
/-- an answer is ready -/
theorem Fin.done (f : Fin K R F A σ Kp Q) (r : Rep K R F A σ H e) {s : Sl} {v : V} (k : Kp s e) (h : SlAt K F A v s) : Q v H := f s e v F A H k (Le.refl F) (pfx_refl A) r h
theorem Fin.val (f : Fin K R F A σ Kp Q) (r : Rep K R F A σ H e) {d : D} {v : V} (k : Kp (.val d) e) (h : At K F d v) : Q v H := f.done r (s := .val d) k h
theorem Fin.newT (f : Fin K R F A σ Kp Q) (r : Rep K R F A σ H e) {ds : List D} {xs : List V} {p : Addr} (hp : H p = none) (k : Kp (.val (.tuple ds)) e) (h : AtL K F ds xs) : Q (.ref p) (upd H p (.tup xs)) := by
  obtain ⟨r2, l⟩ := r.fresh hp (.tup xs)
  exact f (.val (.tuple ds)) e (.ref p) _ A _ k l (pfx_refl A) r2 (.tup (SqT.of upd_same) (AtL.le l _ _ h))
theorem Fin.newL (f : Fin K R F A σ Kp Q) (r : Rep K R F A σ H e) {ds : List D} {xs : List V} {p : Addr} (hp : H p = none) (k : Kp (.val (.list ds)) e) (h : AtL K F ds xs) : Q (.ref p) (upd H p (.lst xs)) := by
  obtain ⟨r2, l⟩ := r.fresh hp (.lst xs)
  exact f (.val (.list ds)) e (.ref p) _ A _ k l (pfx_refl A) r2 (.lst upd_same (AtL.le l _ _ h))
theorem Fin.newO (f : Fin K R F A σ Kp Q) (r : Rep K R F A σ H e) {ds : List D} {xs : List V} {p : Addr} (hp : H p = none) (k : Kp (.obj e.st.length) ⟨e.sl, e.st ++ [some (.l ds)]⟩) (h : AtL K F ds xs) : Q (.ref p) (upd H p (.lst xs)) := by
  obtain ⟨r2, l⟩ := r.alloc hp h
  refine f (.obj e.st.length) _ (.ref p) F _ _ k (Le.refl F) l r2 ⟨p, ?_, rfl⟩
  rw [r.lenA, List.getElem?_append_right (Nat.le_refl _), Nat.sub_self] <;> rfl
end
/-! reading a value -/
/-- what stands there now -/
def pk (s : Sl) (e : En) : Option D := match s with
  | .val d => some d
  | .kn ds => some (.list ds)
  | .exc _ => none
  | .obj j => match e.st[j]? with
    | some (some (.l ds)) => some (.list ds)
    | _ => none
/-- the same, of what may be put together -/
def pkm (s : Sl) (e : En) : Option D := match s with
  | .val d => some d
  | .kn _ => none
  | .exc _ => none
  | .obj j => match e.st[j]? with
    | some (some (.l ds)) => some (.list ds)
    | _ => none
def Pk (K : PySem.W.Frag) (F H : Hp) (v : V) : D → Prop
  | .list ds => ∃ a xs, v = .ref a ∧ SqL K H a xs ∧ AtL K F ds xs
  | d => At K F d v
def Pkm (K : PySem.W.Frag) (F H : Hp) (v : V) : D → Prop
  | .list ds => ∃ a xs, v = .ref a ∧ H a = some (.lst xs) ∧ AtL K F ds xs
  | d => At K F d v
section
variable {K : PySem.W.Frag} {R F : Hp} {A : List Addr} {σ : L2.St} {H : Hp} {e : En}
theorem Pk.of_at (s : Le F H) {v : V} : ∀ {d : D}, At K F d v → Pk K F H v d
  | .list ds, h => by
    cases h with
    | lst h1 h2 => exact ⟨_, _, rfl, SqL.of (s _ _ h1), h2⟩
  | .none, h => h
  | .bool _, h => h
  | .int _, h => h
  | .str _, h => h
  | .tuple _, h => h
  | .dict _, h => h
theorem Pkm.of_at (s : Le F H) {v : V} : ∀ {d : D}, At K F d v → Pkm K F H v d
  | .list ds, h => by
    cases h with
    | lst h1 h2 => exact ⟨_, _, rfl, s _ _ h1, h2⟩
  | .none, h => h
  | .bool _, h => h
  | .int _, h => h
  | .str _, h => h
  | .tuple _, h => h
  | .dict _, h => h
theorem Rep.pk (r : Rep K R F A σ H e) {v : V} {s : Sl} (h : SlAt K F A v s) {d : D} (q : pk s e = some d) : Pk K F H v d := by
  cases s with
  | val c =>
    cases q
    exact Pk.of_at r.sub h
  | kn ds =>
    cases q
    obtain ⟨a, xs, e1, h1, h2⟩ := h
    exact ⟨a, xs, e1, sqL_le r.sub h1, h2⟩
  | exc d => cases q
  | obj j =>
    obtain ⟨a, e1, e2⟩ := h
    replace q : (match e.st[j]? with | some (some (.l ds)) => some (PyData.list ds) | _ => none) = some d := q
    split at q
    · rename_i ds hd
      cases q
      obtain ⟨b, xs, h1, h2, h3, h4⟩ := r.lst hd
      rw [e1] at h1
      cases h1
      exact ⟨a, xs, e2, SqL.of h3, h4⟩
    · cases q
theorem Rep.pkm (r : Rep K R F A σ H e) {v : V} {s : Sl} (h : SlAt K F A v s) {d : D} (q : pkm s e = some d) : Pkm K F H v d := by
  cases s with
  | val c =>
    cases q
    exact Pkm.of_at r.sub h
  | kn ds => cases q
  | exc d => cases q
  | obj j =>
    obtain ⟨a, e1, e2⟩ := h
    replace q : (match e.st[j]? with | some (some (.l ds)) => some (PyData.list ds) | _ => none) = some d := q
    split at q
    · rename_i ds hd
      cases q
      obtain ⟨b, xs, h1, h2, h3, h4⟩ := r.lst hd
      rw [e1] at h1
      cases h1
      exact ⟨a, xs, e2, h3, h4⟩
    · cases q
theorem Pk.int {v : V} {i : Int} (h : Pk K F H v (.int i)) : v = .int i := by
  cases (show At K F (.int i) v from h)
  rfl
theorem Pk.str {v : V} {i : Str} (h : Pk K F H v (.str i)) : v = .str i := by
  cases (show At K F (.str i) v from h)
  rfl
theorem Pk.bool {v : V} {i : Bool} (h : Pk K F H v (.bool i)) : v = .bl i := by
  cases (show At K F (.bool i) v from h)
  rfl
theorem Pk.none {v : V} (h : Pk K F H v .none) : v = .non := by
  cases (show At K F .none v from h)
  rfl
theorem Pk.tup {v : V} {ds : List D} (h : Pk K F H v (.tuple ds)) : ∃ a xs, v = .ref a ∧ SqT K F a xs ∧ AtL K F ds xs := by
  cases (show At K F (.tuple ds) v from h) with
  | tup h1 h2 => exact ⟨_, _, rfl, h1, h2⟩
theorem Pkm.int {v : V} {i : Int} (h : Pkm K F H v (.int i)) : v = .int i := by
  cases (show At K F (.int i) v from h)
  rfl
theorem Pkm.str {v : V} {i : Str} (h : Pkm K F H v (.str i)) : v = .str i := by
  cases (show At K F (.str i) v from h)
  rfl
theorem Pkm.tup {v : V} {ds : List D} (h : Pkm K F H v (.tuple ds)) : ∃ a xs, v = .ref a ∧ SqT K F a xs ∧ AtL K F ds xs := by
  cases (show At K F (.tuple ds) v from h) with
  | tup h1 h2 => exact ⟨_, _, rfl, h1, h2⟩
theorem Pk.dp (s : Le F H) {v : V} : ∀ {d : D}, PyData.canLay0 d = true → Pk K F H v d → Dp K H v d
  | .list ds, c, ⟨a, xs, e, h1, h2⟩ => by
    subst e
    exact .lst h1 (AtL.dp s _ _ (by rw [PyData.canLay0] at c; exact c) h2)
  | .none, c, h => At.dp s _ _ c h
  | .bool _, c, h => At.dp s _ _ c h
  | .int _, c, h => At.dp s _ _ c h
  | .str _, c, h => At.dp s _ _ c h
  | .tuple _, c, h => At.dp s _ _ c h
  | .dict _, c, h => At.dp s _ _ c h
end
/-! making data of a value: a list of the store is given away -/
def asD (s : Sl) (e : En) (Kd : D → En → Prop) : Prop := match s with
  | .val d => Kd d e
  | .kn _ => False
  | .exc _ => False
  | .obj j => match e.st[j]? with
    | some (some (.l ds)) => Kd (.list ds) (e.kill j ds)
    | _ => False
def asDs : List Sl → En → (List D → En → Prop) → Prop
  | [], e, Kd => Kd [] e
  | s :: ss, e, Kd => asD s e fun d e1 => asDs ss e1 fun ds e2 => Kd (d :: ds) e2
section
variable {K : PySem.W.Frag} {R F : Hp} {A : List Addr} {σ : L2.St} {H : Hp} {e : En}
theorem Rep.asD (r : Rep K R F A σ H e) {v : V} {s : Sl} (h : SlAt K F A v s) {Kd : D → En → Prop} (q : asD s e Kd) : ∃ d e' F', Kd d e' ∧ Rep K R F' A σ H e' ∧ Le F F' ∧ At K F' d v := by
  cases s with
  | val d => exact ⟨d, e, F, q, r, Le.refl F, h⟩
  | kn ds => exact q.elim
  | exc d => exact q.elim
  | obj j =>
    obtain ⟨a, e1, e2⟩ := h
    replace q : (match e.st[j]? with | some (some (.l ds)) => Kd (.list ds) (e.kill j ds) | _ => False) := q
    split at q
    · rename_i ds hd
      obtain ⟨b, xs, h1, h2, h3, h4⟩ := r.freeze hd
      rw [e1] at h1
      cases h1
      exact ⟨_, _, _, q, h2, h3, by rw [e2]; exact h4⟩
    · exact q.elim
theorem Rep.asDs {vs : List V} {ss : List Sl} : ∀ {F : Hp} {e : En}, Rep K R F A σ H e → SlAts K F A vs ss → ∀ {Kd : List D → En → Prop}, asDs ss e Kd → ∃ ds e' F', Kd ds e' ∧ Rep K R F' A σ H e' ∧ Le F F' ∧ AtL K F' ds vs := by
  induction ss generalizing vs with
  | nil =>
    intro F e r h Kd q
    cases h
    exact ⟨[], e, F, q, r, Le.refl F, .nil⟩
  | cons s ss ih =>
    intro F e r h Kd q
    cases h with
    | cons h1 h2 =>
      obtain ⟨d, e1, F1, q1, r1, l1, a1⟩ := r.asD h1 q
      obtain ⟨ds, e2, F2, q2, r2, l2, a2⟩ := ih r1 (h2.le l1 (pfx_refl A)) q1
      exact ⟨d :: ds, e2, F2, q2, r2, l1.trans l2, .cons (At.le l2 _ _ a1) a2⟩
end
/-! two operands -/
def v2 (op : Sl → Sl → En → KE → Prop) (ta tb : VTE) : VTE := fun e Kp => ta e fun s1 e1 => tb e1 fun s2 e2 => op s1 s2 e2 Kp
def v1 (op : Sl → En → KE → Prop) (ta : VTE) : VTE := fun e Kp => ta e fun s1 e1 => op s1 e1 Kp
def Prim2 (K : PySem.W.Frag) (r : R2) (op : Sl → Sl → En → KE → Prop) : Prop := ∀ {R F : Hp} {A : List Addr} {σ : L2.St} {H : Hp} {e : En} {x y : V} {s1 s2 : Sl} {Kp : KE} {Q : VK}, Rep K R F A σ H e → SlAt K F A x s1 → SlAt K F A y s2 → op s1 s2 e Kp → Fin K R F A σ Kp Q → r x y H Q
def Prim1 (K : PySem.W.Frag) (r : V → Hp → VK → Prop) (op : Sl → En → KE → Prop) : Prop := ∀ {R F : Hp} {A : List Addr} {σ : L2.St} {H : Hp} {e : En} {x : V} {s1 : Sl} {Kp : KE} {Q : VK}, Rep K R F A σ H e → SlAt K F A x s1 → op s1 e Kp → Fin K R F A σ Kp Q → r x H Q
def PrimN (K : PySem.W.Frag) (r : List V → Hp → VK → Prop) (op : List Sl → En → KE → Prop) : Prop := ∀ {R F : Hp} {A : List Addr} {σ : L2.St} {H : Hp} {e : En} {xs : List V} {ss : List Sl} {Kp : KE} {Q : VK}, Rep K R F A σ H e → SlAts K F A xs ss → op ss e Kp → Fin K R F A σ Kp Q → r xs H Q
section
variable {X : Cx} {a b : Expr} {ta tb : VTE} {pos : Pos}
theorem lift2 {r : R2} {op : Sl → Sl → En → KE → Prop} (p : Prim2 X.K r op) (σ : L2.St) (H : Hp) (Q : VK) (h : liftE X.K (v2 op ta tb) σ H Q) : tOp r (liftE X.K ta) (liftE X.K tb) σ H Q := by
  obtain ⟨R, F, A, e, Kp, rep, ht, fin⟩ := h
  exact ⟨R, F, A, e, _, rep, ht, fun s1 e1 x F1 A1 H1 k1 f1 p1 rep1 at1 => ⟨R, F1, A1, e1, _, rep1, k1, fun s2 e2 y F2 A2 H2 k2 f2 p2 rep2 at2 => p rep2 (at1.le f2 p2) at2 k2 (fin.tr (f1.trans f2) (p1.trans p2))⟩⟩
theorem lift1 {r : V → Hp → VK → Prop} {op : Sl → En → KE → Prop} (p : Prim1 X.K r op) (σ : L2.St) (H : Hp) (Q : VK) (h : liftE X.K (v1 op ta) σ H Q) : liftE X.K ta σ H fun x H1 => r x H1 Q := by
  obtain ⟨R, F, A, e, Kp, rep, ht, fin⟩ := h
  exact ⟨R, F, A, e, _, rep, ht, fun s1 e1 x F1 A1 H1 k1 f1 p1 rep1 at1 => p rep1 at1 k1 (fin.tr f1 p1)⟩
def vN (op : List Sl → En → KE → Prop) (t : VTA) : VTE := fun e Kp => t e fun ss e1 => op ss e1 Kp
theorem liftN {r : List V → Hp → VK → Prop} {op : List Sl → En → KE → Prop} {t : VTA} (p : PrimN X.K r op) (σ : L2.St) (H : Hp) (Q : VK) (h : liftE X.K (vN op t) σ H Q) : liftA X.K t σ H fun xs H1 => r xs H1 Q := by
  obtain ⟨R, F, A, e, Kp, rep, ht, fin⟩ := h
  exact ⟨R, F, A, e, _, rep, ht, fun s1 e1 x F1 A1 H1 k1 f1 p1 rep1 at1 => p rep1 at1 k1 (fin.tr f1 p1)⟩
theorem ve_op {op : Operator} {r : R2} {o : Sl → Sl → En → KE → Prop} (p : Prim2 X.K r o) (ho : OpR X (binaryOp op) r) (ha : VE X a ta) (hb : VE X b tb) : VE X (.BinOp a op b pos) (v2 o ta tb) := PE.imp (pe_op ho ha hb) (lift2 p)
theorem ve_cmp {op : CmpOp} {r : R2} {o : Sl → Sl → En → KE → Prop} (p : Prim2 X.K r o) (ho : OpR X (compareOp op) r) (ha : VE X a ta) (hb : VE X b tb) (hm : behindInMarks op b = false) : VE X (.Compare a [op] [b] pos) (v2 o ta tb) := PE.imp (pe_cmpR ho ha hb hm) (lift2 p)
theorem ve_ixR {r : R2} {o : Sl → Sl → En → KE → Prop} (p : Prim2 X.K r o) (hr : IxR X r) (ha : VE X a ta) (hb : VE X b tb) (hs : PlainIx b) : VE X (.Subscript a b pos) (v2 o ta tb) := PE.imp (pe_ix hr ha hb hs) (lift2 p)
theorem ve_unR {op : UnaryOp} {r : V → Hp → VK → Prop} {o : Sl → En → KE → Prop} (p : Prim1 X.K r o) (ho : UnR X (unaryOp op) r) (ha : VE X a ta) : VE X (.UnaryOp op a pos) (v1 o ta) := PE.imp (pe_un ho ha) (lift1 p)
/-! tests -/
def vTest (t : VTE) : VTT := fun e Kp => t e fun s e1 => match pk s e1 with
  | some (.bool b) => Kp b e1
  | _ => False
theorem lift_test {t : VTE} (σ : L2.St) (H : Hp) (Q : Bool → Hp → Prop) (h : liftT X.K (vTest t) σ H Q) : liftE X.K t σ H fun x H' => ∃ k, x = .bl k ∧ Q k H' := by
  obtain ⟨R, F, A, e, Kp, rep, ht, fin⟩ := h
  refine ⟨R, F, A, e, _, rep, ht, fun s1 e1 x F1 A1 H1 k1 f1 p1 rep1 at1 => ?_⟩
  split at k1
  · rename_i b hb
    exact ⟨b, (rep1.pk at1 hb).bool, fin b e1 F1 A1 H1 k1 f1 p1 rep1⟩
  · exact k1.elim
theorem vt_cmp {op : CmpOp} {r : R2} {o : Sl → Sl → En → KE → Prop} (p : Prim2 X.K r o) (ho : OpR X (compareOp op) r) (ha : VE X a ta) (hb : VE X b tb) (hm : behindInMarks op b = false) : VT X (.Compare a [op] [b] pos) (vTest (v2 o ta tb)) :=
  PT.imp (pt_cmpR ho ha hb hm) fun σ H Q h => lift2 p σ H _ (by
    obtain ⟨R, F, A, e, Kp, rep, ht, fin⟩ := h
    refine ⟨R, F, A, e, _, rep, ht, fun s1 e1 x F1 A1 H1 k1 f1 p1 rep1 at1 => ?_⟩
    split at k1
    · rename_i b hb
      exact ⟨b, (rep1.pk at1 hb).bool, fin b e1 F1 A1 H1 k1 f1 p1 rep1⟩
    · exact k1.elim)
/-- an expression that gives a truth -/
theorem vt_val {ex : Expr} {t : VTE} (h : VE X ex t) (he : ∀ whole, isTrue ex X.env whole = (do let v ← whole; standAt ex.pos; holding [v] (truthy v)) := by intro _; rfl) : VT X ex (vTest t) := PT.imp (pt_val h he) fun σ H Q q => lift_test σ H Q q
/-- any value's truth -/
def truth : D → Option Bool
  | .none => some false
  | .bool b => some b
  | .int i => some (i != 0)
  | .str s => some ((s.length : Int) != 0)
  | .list ds => some (!ds.isEmpty)
  | .tuple ds => some (!ds.isEmpty)
  | .dict _ => none
def vTruth (t : VTE) : VTT := fun e Kp => t e fun s e1 => match pk s e1 with
  | some (.str x) => x.length ≤ sizeLine ∧ Kp ((x.length : Int) != 0) e1
  | some d => (match truth d with
    | some b => Kp b e1
    | none => False)
  | none => False
theorem empty_at {F : Hp} {ds : List D} {xs : List V} (h : AtL X.K F ds xs) : (!ds.isEmpty) = !xs.isEmpty := by
  cases h <;> rfl
theorem vt_truth {ex : Expr} {t : VTE} (h : VE X ex t) (he : ∀ whole, isTrue ex X.env whole = (do let v ← whole; standAt ex.pos; holding [v] (truthy v)) := by intro _; rfl) : VT X ex (vTruth t) := PT.imp (pt_truth h he) fun σ H Q q => by
  obtain ⟨R, F, A, e, Kp, rep, ht, fin⟩ := q
  refine ⟨R, F, A, e, _, rep, ht, fun s1 e1 x F1 A1 H1 k1 f1 p1 rep1 at1 => ?_⟩
  cases hp : pk s1 e1 with
  | none => rw [hp] at k1; exact k1.elim
  | some d =>
    rw [hp] at k1
    have pk1 := rep1.pk at1 hp
    cases d with
    | none => exact ⟨false, by rw [pk1.none]; rfl, fin _ e1 F1 A1 H1 k1 f1 p1 rep1⟩
    | bool b => exact ⟨b, by rw [pk1.bool]; rfl, fin _ e1 F1 A1 H1 k1 f1 p1 rep1⟩
    | int i => exact ⟨_, by rw [pk1.int]; rfl, fin _ e1 F1 A1 H1 k1 f1 p1 rep1⟩
    | str z => exact ⟨_, by rw [pk1.str]; exact ⟨k1.1, rfl⟩, fin _ e1 F1 A1 H1 k1.2 f1 p1 rep1⟩
    | list ds =>
      obtain ⟨a, xs, rfl, h1, h2⟩ := pk1
      exact ⟨_, .inl ⟨xs, h1, rfl⟩, by rw [← empty_at h2]; exact fin _ e1 F1 A1 H1 k1 f1 p1 rep1⟩
    | tuple ds =>
      obtain ⟨a, xs, rfl, h1, h2⟩ := pk1.tup
      exact ⟨_, .inr (.inl ⟨xs, sqT_le rep1.sub h1, rfl⟩), by rw [← empty_at h2]; exact fin _ e1 F1 A1 H1 k1 f1 p1 rep1⟩
    | dict _ => exact k1.elim
def vNotT (t : VTT) : VTT := fun e Kp => t e fun b e1 => Kp (!b) e1
theorem vt_not {t : VTT} (h : VT X a t) : VT X (.UnaryOp .Not a pos) (vNotT t) := PT.imp (pt_not h) fun σ H Q q => by
  obtain ⟨R, F, A, e, Kp, rep, ht, fin⟩ := q
  exact ⟨R, F, A, e, _, rep, ht, fun b e1 F1 A1 H1 k1 f1 p1 rep1 => fin _ e1 F1 A1 H1 k1 f1 p1 rep1⟩
def vAndT (t u : VTT) : VTT := fun e Kp => t e fun b e1 => if b = true then u e1 Kp else Kp false e1
def vOrT (t u : VTT) : VTT := fun e Kp => t e fun b e1 => if b = true then Kp true e1 else u e1 Kp
theorem vw_and1 {t : VTT} (h : VT X a t) : VW X (.BoolOp .And [a] pos) t := pw_and1 h
theorem vw_or1 {t : VTT} (h : VT X a t) : VW X (.BoolOp .Or [a] pos) t := pw_or1 h
theorem vw_and {t u : VTT} {rest : List Expr} (h : VT X a t) (g : VW X (.BoolOp .And (b :: rest) pos) u) : VW X (.BoolOp .And (a :: b :: rest) pos) (vAndT t u) := PW.imp (pw_and h g) fun σ H Q q => by
  obtain ⟨R, F, A, e, Kp, rep, ht, fin⟩ := q
  refine ⟨R, F, A, e, _, rep, ht, fun b e1 F1 A1 H1 k1 f1 p1 rep1 => ?_⟩
  cases b with
  | true => exact ⟨R, F1, A1, e1, Kp, rep1, k1, fin.tr f1 p1⟩
  | false => exact fin _ e1 F1 A1 H1 k1 f1 p1 rep1
theorem vw_or {t u : VTT} {rest : List Expr} (h : VT X a t) (g : VW X (.BoolOp .Or (b :: rest) pos) u) : VW X (.BoolOp .Or (a :: b :: rest) pos) (vOrT t u) := PW.imp (pw_or h g) fun σ H Q q => by
  obtain ⟨R, F, A, e, Kp, rep, ht, fin⟩ := q
  refine ⟨R, F, A, e, _, rep, ht, fun b e1 F1 A1 H1 k1 f1 p1 rep1 => ?_⟩
  cases b with
  | true => exact fin _ e1 F1 A1 H1 k1 f1 p1 rep1
  | false => exact ⟨R, F1, A1, e1, Kp, rep1, k1, fin.tr f1 p1⟩
theorem VW.vt {ex : Expr} {t : VTT} (h : VW X ex t) : VT X ex t := PW.pt h
/-! values by truth -/
def vAndV (ta tb : VTE) : VTE := fun e Kp => ta e fun s e1 => match pk s e1 with
  | some (.bool c) => if c = true then tb e1 Kp else Kp (.val (.bool false)) e1
  | _ => False
def vOrV (ta tb : VTE) : VTE := fun e Kp => ta e fun s e1 => match pk s e1 with
  | some (.bool c) => if c = true then Kp (.val (.bool true)) e1 else tb e1 Kp
  | _ => False
def opNot (s : Sl) (e : En) (Kp : KE) : Prop := match pk s e with
  | some (.bool c) => Kp (.val (.bool (!c))) e
  | _ => False
theorem ve_one {op} (h : VE X a ta) : VE X (.BoolOp op [a] pos) ta := pe_one h
theorem ve_and {rest : List Expr} (ha : VE X a ta) (hb : VE X (.BoolOp .And (b :: rest) pos) tb) : VE X (.BoolOp .And (a :: b :: rest) pos) (vAndV ta tb) := PE.imp (pe_and ha hb) fun σ H Q q => by
  obtain ⟨R, F, A, e, Kp, rep, ht, fin⟩ := q
  refine ⟨R, F, A, e, _, rep, ht, fun s1 e1 x F1 A1 H1 k1 f1 p1 rep1 at1 => ?_⟩
  split at k1
  · rename_i c hc
    refine ⟨c, (rep1.pk at1 hc).bool, ?_⟩
    cases c with
    | true => exact ⟨R, F1, A1, e1, Kp, rep1, k1, fin.tr f1 p1⟩
    | false => exact (fin.tr f1 p1).val rep1 k1 (.bl false)
  · exact k1.elim
theorem ve_or {rest : List Expr} (ha : VE X a ta) (hb : VE X (.BoolOp .Or (b :: rest) pos) tb) : VE X (.BoolOp .Or (a :: b :: rest) pos) (vOrV ta tb) := PE.imp (pe_or ha hb) fun σ H Q q => by
  obtain ⟨R, F, A, e, Kp, rep, ht, fin⟩ := q
  refine ⟨R, F, A, e, _, rep, ht, fun s1 e1 x F1 A1 H1 k1 f1 p1 rep1 at1 => ?_⟩
  split at k1
  · rename_i c hc
    refine ⟨c, (rep1.pk at1 hc).bool, ?_⟩
    cases c with
    | false => exact ⟨R, F1, A1, e1, Kp, rep1, k1, fin.tr f1 p1⟩
    | true => exact (fin.tr f1 p1).val rep1 k1 (.bl true)
  · exact k1.elim
theorem ve_not (ha : VE X a ta) : VE X (.UnaryOp .Not a pos) (v1 opNot ta) := PE.imp (pe_not ha) fun σ H Q q => by
  obtain ⟨R, F, A, e, Kp, rep, ht, fin⟩ := q
  refine ⟨R, F, A, e, _, rep, ht, fun s1 e1 x F1 A1 H1 k1 f1 p1 rep1 at1 => ?_⟩
  dsimp only [opNot] at k1
  split at k1
  · rename_i c hc
    exact ⟨c, (rep1.pk at1 hc).bool, (fin.tr f1 p1).val rep1 k1 (.bl _)⟩
  · exact k1.elim
def vIfE (t : VTT) (ta tb : VTE) : VTE := fun e Kp => t e fun b e1 => if b = true then ta e1 Kp else tb e1 Kp
theorem ve_ifExp {c : Expr} {t : VTT} (hc : VT X c t) (ha : VE X a ta) (hb : VE X b tb) : VE X (.IfExp c a b pos) (vIfE t ta tb) := PE.imp (pe_ifExp hc ha hb) fun σ H Q q => by
  obtain ⟨R, F, A, e, Kp, rep, ht, fin⟩ := q
  refine ⟨R, F, A, e, _, rep, ht, fun b e1 F1 A1 H1 k1 f1 p1 rep1 => ?_⟩
  cases b with
  | true => exact ⟨R, F1, A1, e1, Kp, rep1, k1, fin.tr f1 p1⟩
  | false => exact ⟨R, F1, A1, e1, Kp, rep1, k1, fin.tr f1 p1⟩
/-! names, constants, arguments -/
def vVar (i : Nat) : VTE := fun e Kp => match e.sl[i]? with
  | some (some s) => Kp s e
  | _ => False
def vC (d : D) : VTE := fun e Kp => Kp (.val d) e
theorem vp (i : Nat) {x : Str} {pos : Pos} (hN : X.N[i]? = some x := by rfl) (hv : Vis X.env.scope x := by first | exact Or.inl rfl | exact Or.inr (Or.inl rfl) | exact Or.inr (Or.inr rfl)) (hd : (x == ("__debug__" : Str)) = false := by decide)
    (hcd : (x == ("__classdict__" : Str)) = false := by decide) : VE X (.Name x pos) (vVar i) := PE.imp (pe_var hN hv hd hcd) fun σ H Q q => by
  obtain ⟨R, F, A, e, Kp, rep, ht, fin⟩ := q
  have ht' : (match e.sl[i]? with | some (some s) => Kp s e | _ => False) := ht
  split at ht'
  · rename_i s hs
    obtain ⟨v, h1, h2⟩ := rep.slot i s hs
    exact ⟨v, h1, fin.done rep ht' h2⟩
  · exact ht'.elim
theorem ve_c {ex : Expr} {v : V} {d : D} (h : PE X ex (tC v)) (hd : ∀ F, At X.K F d v) : VE X ex (vC d) := PE.imp h fun σ H Q q => by
  obtain ⟨R, F, A, e, Kp, rep, ht, fin⟩ := q
  exact fin.val rep ht (hd F)
theorem ve_int {i j pos} : VE X (.Constant (.int i) j pos) (vC (.int i)) := ve_c pe_int fun _ => .int i
theorem ve_bl {b j pos} : VE X (.Constant (.bool b) j pos) (vC (.bool b)) := ve_c pe_bl fun _ => .bl b
theorem ve_non {j pos} : VE X (.Constant .none j pos) (vC .none) := ve_c pe_non fun _ => .non
theorem ve_str {x j pos} : VE X (.Constant (.str x) j pos) (vC (.str x)) := ve_c pe_str fun _ => .str x
theorem ve_glob {x : Str} {v : V} {d : D} {u : Value} {pos : Pos} (hg : Gl X x) (hm : X.mg x = some u) (r : RelV v u) (hd : ∀ F, At X.K F d v) (hdb : (x == ("__debug__" : Str)) = false := by decide) : VE X (.Name x pos) (vC d) := ve_c (pe_glob hg hm r hdb) hd
def vNil : VTA := fun e Kp => Kp [] e
def vCons (ta : VTE) (tr : VTA) : VTA := fun e Kp => ta e fun s e1 => tr e1 fun ss e2 => Kp (s :: ss) e2
theorem va_nil : VA X [] vNil := PA.imp pa_nil fun σ H Q q => by
  obtain ⟨R, F, A, e, Kp, rep, ht, fin⟩ := q
  exact fin [] e [] F A H ht (Le.refl F) (pfx_refl A) rep .nil
theorem va_cons {es : List Expr} {t : VTA} (ha : VE X a ta) (hr : VA X es t) (hs : starEach (a :: es) X.env = (false, eval a X.env) :: starEach es X.env := by rfl) : VA X (a :: es) (vCons ta t) := PA.imp (pa_cons ha hr hs) fun σ H Q q => by
  obtain ⟨R, F, A, e, Kp, rep, ht, fin⟩ := q
  exact ⟨R, F, A, e, _, rep, ht, fun s1 e1 x F1 A1 H1 k1 f1 p1 rep1 at1 => ⟨R, F1, A1, e1, _, rep1, k1, fun ss e2 xs F2 A2 H2 k2 f2 p2 rep2 at2 => fin _ e2 _ F2 A2 H2 k2 (f1.trans f2) (p1.trans p2) rep2 (.cons (at1.le f2 p2) at2)⟩⟩
/-! tuples and lists -/
def opTup (ss : List Sl) (e : En) (Kp : KE) : Prop := asDs ss e fun ds e1 => ds.length ≤ sizeLine ∧ Kp (.val (.tuple ds)) e1
def opLst (ss : List Sl) (e : En) (Kp : KE) : Prop := asDs ss e fun ds e1 => ds.length ≤ sizeLine ∧ Kp (.val (.list ds)) e1
def opLstO (ss : List Sl) (e : En) (Kp : KE) : Prop := asDs ss e fun ds e1 => ds.length ≤ sizeLine ∧ Kp (.obj e1.st.length) ⟨e1.sl, e1.st ++ [some (.l ds)]⟩
theorem ve_tup {es : List Expr} {t : VTA} {x1} (h : VA X es t) : VE X (.Tuple es x1 pos) (vN opTup t) := PE.imp (pe_tup h) (liftN fun {R F A σ H e xs ss Kp Q} rep ha ho fin => by
  obtain ⟨ds, e1, F1, ⟨hl, k⟩, rep1, l1, a1⟩ := rep.asDs ha ho
  exact ⟨by rw [a1.len]; exact hl, fun p hp => (fin.tr l1 (pfx_refl A)).newT rep1 hp k a1⟩)
theorem ve_lst {es : List Expr} {t : VTA} (h : VA X es t) : VE X (.List es pos) (vN opLst t) := PE.imp (pe_lst h) (liftN fun {R F A σ H e xs ss Kp Q} rep ha ho fin => by
  obtain ⟨ds, e1, F1, ⟨hl, k⟩, rep1, l1, a1⟩ := rep.asDs ha ho
  exact ⟨by rw [a1.len]; exact hl, fun p hp => (fin.tr l1 (pfx_refl A)).newL rep1 hp k a1⟩)
theorem ve_lstO {es : List Expr} {t : VTA} (h : VA X es t) : VE X (.List es pos) (vN opLstO t) := PE.imp (pe_lst h) (liftN fun {R F A σ H e xs ss Kp Q} rep ha ho fin => by
  obtain ⟨ds, e1, F1, ⟨hl, k⟩, rep1, l1, a1⟩ := rep.asDs ha ho
  exact ⟨by rw [a1.len]; exact hl, fun p hp => (fin.tr l1 (pfx_refl A)).newO rep1 hp k a1⟩)
end
end Vl
namespace Vl
open PySem L2
theorem u190 {k : Nat} {A : Around} (r : Room k A) : A.units + 190 < cLine := by
  have := r.un
  omega
/-- data that == may go into -/
def shp (d : D) : Bool := d.canLay0 && decide (d.depth ≤ 190)
theorem shp_can {d : D} (h : shp d = true) : PyData.canLay0 d = true := (Bool.and_eq_true_iff.mp h).1
def rEqW (K : PySem.W.Frag) (neg : Bool) : R2 := fun x y H Q => ∃ d e, Dp K H x d ∧ Dp K H y e ∧ shp d = true ∧ shp e = true ∧ Q (.bl (if neg then !PyData.eqv d e else PyData.eqv d e)) H
section
variable {X : Cx}
theorem op_eqW (hu : X.A.units + 190 < cLine) : OpR X (compareOp .Eq) (rEqW X.K false) := by
  intro pins s σ H x y v u Q I rx ry h
  obtain ⟨d, e, hd, he, sd, se, q⟩ := h
  obtain ⟨as, r1⟩ := Dp.reads I d x v hd rx
  obtain ⟨bs, r2⟩ := Dp.reads I e y u he ry
  obtain ⟨l1, l2⟩ := Bool.and_eq_true_iff.mp sd
  obtain ⟨l3, l4⟩ := Bool.and_eq_true_iff.mp se
  have := of_decide_eq_true l2
  exact SeqAt.compareEq_reads r1 r2 l1 l3 (by omega) ⟨.bl _, H, I, rfl, q⟩
theorem op_neW (hu : X.A.units + 190 < cLine) : OpR X (compareOp .NotEq) (rEqW X.K true) := by
  intro pins s σ H x y v u Q I rx ry h
  obtain ⟨d, e, hd, he, sd, se, q⟩ := h
  obtain ⟨as, r1⟩ := Dp.reads I d x v hd rx
  obtain ⟨bs, r2⟩ := Dp.reads I e y u he ry
  obtain ⟨l1, l2⟩ := Bool.and_eq_true_iff.mp sd
  obtain ⟨l3, l4⟩ := Bool.and_eq_true_iff.mp se
  have := of_decide_eq_true l2
  exact SeqAt.compareNe_reads r1 r2 l1 l3 (by omega) ⟨.bl _, H, I, rfl, q⟩
end
/-! arithmetic -/
def opAdd (s1 s2 : Sl) (e : En) (Kp : KE) : Prop := match pkm s1 e, pkm s2 e with
  | some (.int i), some (.int j) => Kp (.val (.int (i + j))) e
  | some (.str i), some (.str j) => i.length + j.length ≤ sizeLine ∧ Kp (.val (.str (i ++ j))) e
  | some (.list ds), some (.list es) => ds.length + es.length ≤ sizeLine ∧ Kp (.val (.list (ds ++ es))) e
  | some (.tuple ds), some (.tuple es) => ds.length + es.length ≤ sizeLine ∧ Kp (.val (.tuple (ds ++ es))) e
  | _, _ => False
def rAdd4 (K : PySem.W.Frag) : R2 := fun x y H Q => (rI0 (fun i j => .int (i + j)) x y H Q ∨ ∃ i j, x = .str i ∧ y = .str j ∧ i.length + j.length ≤ sizeLine ∧ Q (.str (i ++ j)) H) ∨ (rCat x y H Q ∨ rCatA K x y H Q)
theorem op_add4 {X : Cx} : OpR X (binaryOp .Add) (rAdd4 X.K) := (op_add.or op_add_str).or (op_cat.or op_catA)
theorem AtL.nil_iff {K : PySem.W.Frag} {F : Hp} {ds : List D} {xs : List V} (h : AtL K F ds xs) : ds = [] ↔ xs = [] := by
  cases h <;> simp
section
variable {K : PySem.W.Frag}
theorem p_add : Prim2 K (rAdd4 K) opAdd := by
  intro R F A σ H e x y s1 s2 Kp Q rep a1 a2 ho fin
  unfold opAdd at ho
  split at ho
  · rename_i i j h1 h2
    exact .inl (.inl ⟨i, j, (rep.pkm a1 h1).int, (rep.pkm a2 h2).int, fin.val rep ho (.int _)⟩)
  · rename_i i j h1 h2
    exact .inl (.inr ⟨i, j, (rep.pkm a1 h1).str, (rep.pkm a2 h2).str, ho.1, fin.val rep ho.2 (.str _)⟩)
  · rename_i ds es h1 h2
    obtain ⟨a, xs, rfl, q1, q2⟩ := rep.pkm a1 h1
    obtain ⟨b, ys, rfl, q3, q4⟩ := rep.pkm a2 h2
    exact .inr (.inl ⟨a, b, xs, ys, rfl, rfl, q1, q3, by rw [q2.len, q4.len]; exact ho.1, fun p hp => fin.newL rep hp ho.2 (q2.app q4)⟩)
  · rename_i ds es h1 h2
    obtain ⟨a, xs, rfl, q1, q2⟩ := (rep.pkm a1 h1).tup
    obtain ⟨b, ys, rfl, q3, q4⟩ := (rep.pkm a2 h2).tup
    refine .inr (.inr ⟨a, b, xs, ys, rfl, rfl, sqT_le rep.sub q1, sqT_le rep.sub q3, by rw [q2.len, q4.len]; exact ho.1, fun z => ?_, fun _ z => ?_, fun _ _ p hp => fin.newT rep hp ho.2 (q2.app q4)⟩)
    · have z' := q2.nil_iff.mpr z
      subst z'
      exact fin.val rep ho.2 (.tup q3 q4)
    · have z' := q4.nil_iff.mpr z
      subst z'
      have k := ho.2
      rw [List.append_nil] at k
      exact fin.val rep k (.tup q1 q2)
  · exact ho.elim
/-- the sum of two lists is a list of the store -/
def opAddO (s1 s2 : Sl) (e : En) (Kp : KE) : Prop := match pkm s1 e, pkm s2 e with
  | some (.list ds), some (.list es) => ds.length + es.length ≤ sizeLine ∧ Kp (.obj e.st.length) ⟨e.sl, e.st ++ [some (.l (ds ++ es))]⟩
  | _, _ => False
theorem p_addO : Prim2 K rCat opAddO := by
  intro R F A σ H e x y s1 s2 Kp Q rep a1 a2 ho fin
  unfold opAddO at ho
  split at ho
  · rename_i ds es h1 h2
    obtain ⟨a, xs, rfl, q1, q2⟩ := rep.pkm a1 h1
    obtain ⟨b, ys, rfl, q3, q4⟩ := rep.pkm a2 h2
    exact ⟨a, b, xs, ys, rfl, rfl, q1, q3, by rw [q2.len, q4.len]; exact ho.1, fun p hp => fin.newO rep hp ho.2 (q2.app q4)⟩
  · exact ho.elim
/-- two whole numbers -/
def opI (C : Int → Int → Prop) (g : Int → Int → D) (s1 s2 : Sl) (e : En) (Kp : KE) : Prop := match pk s1 e, pk s2 e with
  | some (.int i), some (.int j) => C i j ∧ Kp (.val (g i j)) e
  | _, _ => False
def opI0 (g : Int → Int → D) (s1 s2 : Sl) (e : En) (Kp : KE) : Prop := match pk s1 e, pk s2 e with
  | some (.int i), some (.int j) => Kp (.val (g i j)) e
  | _, _ => False
def sV : D → V
  | .none => .non
  | .bool b => .bl b
  | .int i => .int i
  | .str x => .str x
  | _ => .non
theorem p_i {C : Int → Int → Prop} {g : Int → Int → D} (hg : ∀ i j F, At K F (g i j) (sV (g i j))) : Prim2 K (rI C fun i j => sV (g i j)) (opI C g) := by
  intro R F A σ H e x y s1 s2 Kp Q rep a1 a2 ho fin
  unfold opI at ho
  split at ho
  · rename_i i j h1 h2
    exact ⟨i, j, (rep.pk a1 h1).int, (rep.pk a2 h2).int, ho.1, fin.val rep ho.2 (hg i j F)⟩
  · exact ho.elim
theorem p_i0 {g : Int → Int → D} (hg : ∀ i j F, At K F (g i j) (sV (g i j))) : Prim2 K (rI0 fun i j => sV (g i j)) (opI0 g) := by
  intro R F A σ H e x y s1 s2 Kp Q rep a1 a2 ho fin
  unfold opI0 at ho
  split at ho
  · rename_i i j h1 h2
    exact ⟨i, j, (rep.pk a1 h1).int, (rep.pk a2 h2).int, fin.val rep ho (hg i j F)⟩
  · exact ho.elim
end
section
variable {X : Cx} {a b : Expr} {ta tb : VTE} {pos : Pos}
theorem ve_add (ha : VE X a ta) (hb : VE X b tb) : VE X (.BinOp a .Add b pos) (v2 opAdd ta tb) := ve_op p_add op_add4 ha hb
theorem ve_addO (ha : VE X a ta) (hb : VE X b tb) : VE X (.BinOp a .Add b pos) (v2 opAddO ta tb) := ve_op p_addO op_cat ha hb
def gSubI (i j : Int) : D := .int (i - j)
def gMulI (i j : Int) : D := .int (i * j)
def gModI (i j : Int) : D := .int (i.fmod j)
def gDivI (i j : Int) : D := .int (i.fdiv j)
def gPowI (i j : Int) : D := .int (i ^ j.toNat)
abbrev opSub := opI0 gSubI
abbrev opMul := opI CMul gMulI
abbrev opMod := opI (fun _ j => j ≠ 0) gModI
def CDiv6 (_ j : Int) : Prop := 0 < j ∧ j < 2 ^ 120
abbrev opDiv := opI CDiv6 gDivI
abbrev opPow := opI CPow gPowI
theorem ve_sub (ha : VE X a ta) (hb : VE X b tb) : VE X (.BinOp a .Sub b pos) (v2 opSub ta tb) := ve_op (p_i0 (g := gSubI) fun _ _ _ => .int _) op_sub ha hb
theorem ve_mul (ha : VE X a ta) (hb : VE X b tb) : VE X (.BinOp a .Mult b pos) (v2 opMul ta tb) := ve_op (p_i (g := gMulI) fun _ _ _ => .int _) op_mul ha hb
theorem ve_mod (ha : VE X a ta) (hb : VE X b tb) : VE X (.BinOp a .Mod b pos) (v2 opMod ta tb) := ve_op (p_i (g := gModI) fun _ _ _ => .int _) op_modN ha hb
theorem CDiv6.log {i j : Int} (h : CDiv6 i j) : j.natAbs.log2 < 9000 := Nat.lt_of_lt_of_le (PySem.Flt.log2_lt_of (k := 120) (by decide) (by
  have h1 := h.1
  have h2 := h.2
  omega)) (by decide)
theorem op_fdiv6 : OpR X (binaryOp .FloorDiv) (rI CDiv6 fun i j => .int (i.fdiv j)) := L2.opI fun i j _ _ _ _ _ hc q => PyProof.Rows.floordiv_int (by have := hc.1; omega) q (.inl (PyProof.noPylong_of_log2 hc.log))
theorem ve_div (ha : VE X a ta) (hb : VE X b tb) : VE X (.BinOp a .FloorDiv b pos) (v2 opDiv ta tb) := ve_op (p_i (g := gDivI) fun _ _ _ => .int _) op_fdiv6 ha hb
theorem ve_pow (ha : VE X a ta) (hb : VE X b tb) : VE X (.BinOp a .Pow b pos) (v2 opPow ta tb) := ve_op (p_i (g := gPowI) fun _ _ _ => .int _) op_pow ha hb
/-! comparisons -/
def gLt (i j : Int) : D := .bool (decide (i < j))
def gLe (i j : Int) : D := .bool (decide (i ≤ j))
def gGt (i j : Int) : D := .bool (decide (j < i))
def gGe (i j : Int) : D := .bool (decide (j ≤ i))
abbrev opLe := opI0 gLe
abbrev opGt := opI0 gGt
abbrev opGe := opI0 gGe
def opLt (s1 s2 : Sl) (e : En) (Kp : KE) : Prop := match pk s1 e, pk s2 e with
  | some (.int i), some (.int j) => Kp (.val (gLt i j)) e
  | some (.str i), some (.str j) => Kp (.val (.bool (decide (i.cps.toList < j.cps.toList)))) e
  | _, _ => False
def rLt2 : R2 := fun x y H Q => rI0 (fun i j => .bl (decide (i < j))) x y H Q ∨ ∃ i j, x = .str i ∧ y = .str j ∧ Q (.bl (decide (i.cps.toList < j.cps.toList))) H
theorem p_lt {K : PySem.W.Frag} : Prim2 K rLt2 opLt := by
  intro R F A σ H e x y s1 s2 Kp Q rep a1 a2 ho fin
  unfold opLt at ho
  split at ho
  · rename_i i j h1 h2
    exact .inl ⟨i, j, (rep.pk a1 h1).int, (rep.pk a2 h2).int, fin.val rep ho (.bl _)⟩
  · rename_i i j h1 h2
    exact .inr ⟨i, j, (rep.pk a1 h1).str, (rep.pk a2 h2).str, fin.val rep ho (.bl _)⟩
  · exact ho.elim
/-- == -/
def opEq (neg : Bool) (s1 s2 : Sl) (e : En) (Kp : KE) : Prop := match pk s1 e, pk s2 e with
  | some (.int i), some (.int j) => Kp (.val (.bool (if neg then !decide (i = j) else decide (i = j)))) e
  | some (.str i), some (.str j) => Kp (.val (.bool (if neg then !decide (i = j) else decide (i = j)))) e
  | some d, some c => shp d = true ∧ shp c = true ∧ Kp (.val (.bool (if neg then !PyData.eqv d c else PyData.eqv d c))) e
  | _, _ => False
def rEq2 (K : PySem.W.Frag) (neg : Bool) : R2 := fun x y H Q => (scal x y = true ∧ Q (.bl (if neg then !decide (x = y) else decide (x = y))) H) ∨ rEqW K neg x y H Q
theorem p_eq {K : PySem.W.Frag} {neg : Bool} : Prim2 K (rEq2 K neg) (opEq neg) := by
  intro R F A σ H e x y s1 s2 Kp Q rep a1 a2 ho fin
  unfold opEq at ho
  split at ho
  · rename_i i j h1 h2
    have e1 := (rep.pk a1 h1).int
    have e2 := (rep.pk a2 h2).int
    subst e1 e2
    refine .inl ⟨rfl, ?_⟩
    have z : decide (V.int i = V.int j) = decide (i = j) := by
      by_cases q : i = j <;> simp [q]
    rw [z]
    exact fin.val rep ho (.bl _)
  · rename_i i j h1 h2
    have e1 := (rep.pk a1 h1).str
    have e2 := (rep.pk a2 h2).str
    subst e1 e2
    refine .inl ⟨rfl, ?_⟩
    have z : decide (V.str i = V.str j) = decide (i = j) := by
      by_cases q : i = j <;> simp [q]
    rw [z]
    exact fin.val rep ho (.bl _)
  · rename_i d c _ _ h1 h2
    exact .inr ⟨d, c, (rep.pk a1 h1).dp rep.sub (shp_can ho.1), (rep.pk a2 h2).dp rep.sub (shp_can ho.2.1), ho.1, ho.2.1, fin.val rep ho.2.2 (.bl _)⟩
  · exact ho.elim
theorem op_eq2 (hu : X.A.units + 190 < cLine) : OpR X (compareOp .Eq) (rEq2 X.K false) := op_eq.or (op_eqW hu)
theorem op_ne2 (hu : X.A.units + 190 < cLine) : OpR X (compareOp .NotEq) (rEq2 X.K true) := op_ne.or (op_neW hu)
/-- in -/
def opIn (neg : Bool) (s1 s2 : Sl) (e : En) (Kp : KE) : Prop := match pk s1 e, pk s2 e with
  | some (.str i), some (.str j) => Kp (.val (.bool (if neg then !(!(Builtin.Str.occurrences j i 0 j.length 1).isEmpty) else !(Builtin.Str.occurrences j i 0 j.length 1).isEmpty))) e
  | some d, some (.list ds) => SeqAt.shaped d = true ∧ SeqAt.shaped (.list ds) = true ∧ Kp (.val (.bool (if neg then !ds.any (fun z => PyData.eqv z d) else ds.any fun z => PyData.eqv z d))) e
  | _, _ => False
def rIn2 (K : PySem.W.Frag) : R2 := fun x y H Q => (∃ i j, x = .str i ∧ y = .str j ∧ Q (.bl (!(Builtin.Str.occurrences j i 0 j.length 1).isEmpty)) H) ∨ rInD K x y H Q
def rNotIn2 (K : PySem.W.Frag) : R2 := fun x y H Q => (∃ i j, x = .str i ∧ y = .str j ∧ Q (.bl (!(!(Builtin.Str.occurrences j i 0 j.length 1).isEmpty))) H) ∨ rNotInD K x y H Q
theorem Pk.lst_dp {K : PySem.W.Frag} {F H : Hp} (s : Le F H) {v : V} {ds : List D} (c : PyData.canLay0 (.list ds) = true) (h : Pk K F H v (.list ds)) : Dp K H v (.list ds) := Pk.dp s (d := .list ds) c h
theorem p_in {K : PySem.W.Frag} : Prim2 K (rIn2 K) (opIn false) := by
  intro R F A σ H e x y s1 s2 Kp Q rep a1 a2 ho fin
  unfold opIn at ho
  split at ho
  · rename_i i j h1 h2
    exact .inl ⟨i, j, (rep.pk a1 h1).str, (rep.pk a2 h2).str, fin.val rep ho (.bl _)⟩
  · rename_i d ds h1 h2
    exact .inr ⟨d, ds, (rep.pk a1 h1).dp rep.sub (SeqAt.canLay_of_shaped ho.1), (rep.pk a2 h2).dp rep.sub (SeqAt.canLay_of_shaped ho.2.1), ho.1, ho.2.1, fin.val rep ho.2.2 (.bl _)⟩
  · exact ho.elim
theorem p_notIn {K : PySem.W.Frag} : Prim2 K (rNotIn2 K) (opIn true) := by
  intro R F A σ H e x y s1 s2 Kp Q rep a1 a2 ho fin
  unfold opIn at ho
  split at ho
  · rename_i i j h1 h2
    exact .inl ⟨i, j, (rep.pk a1 h1).str, (rep.pk a2 h2).str, fin.val rep ho (.bl _)⟩
  · rename_i d ds h1 h2
    exact .inr ⟨d, ds, (rep.pk a1 h1).dp rep.sub (SeqAt.canLay_of_shaped ho.1), (rep.pk a2 h2).dp rep.sub (SeqAt.canLay_of_shaped ho.2.1), ho.1, ho.2.1, fin.val rep ho.2.2 (.bl _)⟩
  · exact ho.elim
theorem op_in2 (hu : X.A.units + 190 < cLine) : OpR X (compareOp .In) (rIn2 X.K) := op_in_str.or (op_inD (by omega))
theorem op_notIn2 (hu : X.A.units + 190 < cLine) : OpR X (compareOp .NotIn) (rNotIn2 X.K) := op_notIn_str.or (op_notInD (by omega))
/-- is None -/
def opIsN (neg : Bool) (s1 s2 : Sl) (e : En) (Kp : KE) : Prop := match pk s1 e, pk s2 e with
  | some .none, some .none => Kp (.val (.bool (!neg))) e
  | some _, some .none => Kp (.val (.bool neg)) e
  | _, _ => False
theorem Pk.ne_non {K : PySem.W.Frag} {F H : Hp} {v : V} : ∀ {d : D}, d ≠ .none → Pk K F H v d → v ≠ .non
  | .none, n, _ => absurd rfl n
  | .bool b, _, h => by
    rw [h.bool]
    intro z
    cases z
  | .int b, _, h => by
    rw [h.int]
    intro z
    cases z
  | .str b, _, h => by
    rw [h.str]
    intro z
    cases z
  | .list ds, _, ⟨a, xs, e, _⟩ => by
    rw [e]
    intro z
    cases z
  | .tuple ds, _, h => by
    obtain ⟨a, xs, e, _⟩ := h.tup
    rw [e]
    intro z
    cases z
  | .dict _, _, h => by
    have h' : At K F (.dict _) v := h
    cases h'
    intro z
    cases z
theorem p_isN {K : PySem.W.Frag} : Prim2 K (fun x y H Q => y = .non ∧ Q (.bl (decide (x = .non))) H) (opIsN false) := by
  intro R F A σ H e x y s1 s2 Kp Q rep a1 a2 ho fin
  unfold opIsN at ho
  split at ho
  · rename_i h1 h2
    refine ⟨(rep.pk a2 h2).none, ?_⟩
    rw [(rep.pk a1 h1).none]
    exact fin.val rep ho (.bl _)
  · rename_i d n h1 h2
    refine ⟨(rep.pk a2 h2).none, ?_⟩
    have nd : d ≠ .none := fun z => by
      subst z
      exact n rfl
    rw [decide_eq_false ((rep.pk a1 h1).ne_non nd)]
    exact fin.val rep ho (.bl _)
  · exact ho.elim
theorem p_notN {K : PySem.W.Frag} : Prim2 K (fun x y H Q => y = .non ∧ Q (.bl (!decide (x = .non))) H) (opIsN true) := by
  intro R F A σ H e x y s1 s2 Kp Q rep a1 a2 ho fin
  unfold opIsN at ho
  split at ho
  · rename_i h1 h2
    refine ⟨(rep.pk a2 h2).none, ?_⟩
    rw [(rep.pk a1 h1).none]
    exact fin.val rep ho (.bl _)
  · rename_i d n h1 h2
    refine ⟨(rep.pk a2 h2).none, ?_⟩
    have nd : d ≠ .none := fun z => by
      subst z
      exact n rfl
    rw [decide_eq_false ((rep.pk a1 h1).ne_non nd)]
    exact fin.val rep ho (.bl _)
  · exact ho.elim
theorem ve_lt (ha : VE X a ta) (hb : VE X b tb) (hm : behindInMarks .Lt b = false := by exact nomark _) : VE X (.Compare a [.Lt] [b] pos) (v2 opLt ta tb) := ve_cmp p_lt (op_lt.or op_lt_str) ha hb hm
theorem ve_le (ha : VE X a ta) (hb : VE X b tb) (hm : behindInMarks .LtE b = false := by exact nomark _) : VE X (.Compare a [.LtE] [b] pos) (v2 opLe ta tb) := ve_cmp (p_i0 (g := gLe) fun _ _ _ => .bl _) op_le ha hb hm
theorem ve_gt (ha : VE X a ta) (hb : VE X b tb) (hm : behindInMarks .Gt b = false := by exact nomark _) : VE X (.Compare a [.Gt] [b] pos) (v2 opGt ta tb) := ve_cmp (p_i0 (g := gGt) fun _ _ _ => .bl _) op_gt ha hb hm
theorem ve_ge (ha : VE X a ta) (hb : VE X b tb) (hm : behindInMarks .GtE b = false := by exact nomark _) : VE X (.Compare a [.GtE] [b] pos) (v2 opGe ta tb) := ve_cmp (p_i0 (g := gGe) fun _ _ _ => .bl _) op_ge ha hb hm
theorem ve_eq (hu : X.A.units + 190 < cLine) (ha : VE X a ta) (hb : VE X b tb) (hm : behindInMarks .Eq b = false := by exact nomark _) : VE X (.Compare a [.Eq] [b] pos) (v2 (opEq false) ta tb) := ve_cmp p_eq (op_eq2 hu) ha hb hm
theorem ve_ne (hu : X.A.units + 190 < cLine) (ha : VE X a ta) (hb : VE X b tb) (hm : behindInMarks .NotEq b = false := by exact nomark _) : VE X (.Compare a [.NotEq] [b] pos) (v2 (opEq true) ta tb) := ve_cmp p_eq (op_ne2 hu) ha hb hm
theorem ve_in (hu : X.A.units + 190 < cLine) (ha : VE X a ta) (hb : VE X b tb) (hm : behindInMarks .In b = false := by first | rfl | exact nomark _) : VE X (.Compare a [.In] [b] pos) (v2 (opIn false) ta tb) := ve_cmp p_in (op_in2 hu) ha hb hm
theorem ve_notIn (hu : X.A.units + 190 < cLine) (ha : VE X a ta) (hb : VE X b tb) (hm : behindInMarks .NotIn b = false := by first | rfl | exact nomark _) : VE X (.Compare a [.NotIn] [b] pos) (v2 (opIn true) ta tb) := ve_cmp p_notIn (op_notIn2 hu) ha hb hm
theorem ve_isN (ha : VE X a ta) (hb : VE X b tb) (hm : behindInMarks .Is b = false := by exact nomark _) : VE X (.Compare a [.Is] [b] pos) (v2 (opIsN false) ta tb) := ve_cmp p_isN op_isN ha hb hm
theorem ve_notN (ha : VE X a ta) (hb : VE X b tb) (hm : behindInMarks .IsNot b = false := by exact nomark _) : VE X (.Compare a [.IsNot] [b] pos) (v2 (opIsN true) ta tb) := ve_cmp p_notN op_notN ha hb hm
/-! a sign ahead -/
def opNeg (s : Sl) (e : En) (Kp : KE) : Prop := match pk s e with
  | some (.int i) => Kp (.val (.int (-i))) e
  | _ => False
theorem p_neg {K : PySem.W.Frag} : Prim1 K (rU fun i => .int (-i)) opNeg := by
  intro R F A σ H e x s1 Kp Q rep a1 ho fin
  unfold opNeg at ho
  split at ho
  · rename_i i h1
    exact ⟨i, (rep.pk a1 h1).int, fin.val rep ho (.int _)⟩
  · exact ho.elim
theorem ve_neg (ha : VE X a ta) : VE X (.UnaryOp .USub a pos) (v1 opNeg ta) := ve_unR p_neg un_neg ha
/-! places -/
def opIx (s1 s2 : Sl) (e : En) (Kp : KE) : Prop := match pk s1 e, pk s2 e with
  | some (.tuple ds), some (.int i) => ∃ d, atI ds i = some d ∧ Kp (.val d) e
  | some (.list ds), some (.int i) => ∃ d, atI ds i = some d ∧ Kp (.val d) e
  | some (.str z), some (.int i) => ∃ c, z.length ≤ sizeLine ∧ atI z.cps.toList i = some c ∧ Kp (.val (.str ⟨#[c]⟩)) e
  | _, _ => False
theorem AtL.atI {K : PySem.W.Frag} {F : Hp} {ds : List D} {xs : List V} (h : AtL K F ds xs) {i : Int} {d : D} (e : atI ds i = some d) : ∃ v, L2.atI xs i = some v ∧ At K F d v := by
  unfold L2.atI at e ⊢
  rw [h.len]
  cases q : ixN ds.length i with
  | none =>
    rw [q] at e
    cases e
  | some j =>
    rw [q] at e
    exact h.get e
theorem p_ix {K : PySem.W.Frag} : Prim2 K (rIx K) opIx := by
  intro R F A σ H e x y s1 s2 Kp Q rep a1 a2 ho fin
  unfold opIx at ho
  split at ho
  · rename_i ds i h1 h2
    obtain ⟨d, hd, k⟩ := ho
    obtain ⟨a, xs, rfl, q1, q2⟩ := (rep.pk a1 h1).tup
    obtain ⟨v, hv, av⟩ := q2.atI hd
    exact .inr (.inl ⟨a, xs, i, v, rfl, (rep.pk a2 h2).int, sqT_le rep.sub q1, hv, fin.val rep k av⟩)
  · rename_i ds i h1 h2
    obtain ⟨d, hd, k⟩ := ho
    obtain ⟨a, xs, rfl, q1, q2⟩ := rep.pk a1 h1
    obtain ⟨v, hv, av⟩ := q2.atI hd
    exact .inl ⟨a, xs, i, v, rfl, (rep.pk a2 h2).int, q1, hv, fin.val rep k av⟩
  · rename_i z i h1 h2
    obtain ⟨c, hz, hc, k⟩ := ho
    exact .inr (.inr ⟨z, i, c, (rep.pk a1 h1).str, (rep.pk a2 h2).int, hz, hc, fin.val rep k (.str _)⟩)
  · exact ho.elim
theorem ve_ix (ha : VE X a ta) (hb : VE X b tb) (hs : PlainIx b := by exact fun _ _ => rfl) : VE X (.Subscript a b pos) (v2 opIx ta tb) := ve_ixR p_ix ix_seq ha hb hs
end
end Vl
namespace Vl
open PySem L2
/-! slices -/
abbrev VTO := En → (Option Int → En → Prop) → Prop
def liftO (K : PySem.W.Frag) (t : VTO) : TO := fun σ H Q => ∃ R F A e Kp, Rep K R F A σ H e ∧ t e Kp ∧ ∀ i e' F' A' H', Kp i e' → Le F F' → A <+: A' → Rep K R F' A' σ H' e' → Q i H'
def VO (X : Cx) (ex : Option Expr) (t : VTO) : Prop := PO X ex (liftO X.K t)
def vNoPart : VTO := fun e Kp => Kp none e
def vPart (t : VTE) : VTO := fun e Kp => t e fun s e1 => match pk s e1 with
  | some (.int i) => Kp (some i) e1
  | _ => False
theorem PO.imp {X : Cx} {ex : Option Expr} {t t' : TO} (h : PO X ex t) (f : ∀ σ H Q, t' σ H Q → t σ H Q) : PO X ex t' := by
  obtain ⟨run⟩ := h
  constructor
  intros
  apply run <;> first | assumption | (apply f; assumption)
section
variable {X : Cx} {a b : Expr} {ta tb : VTE} {pos : Pos}
theorem vo_none : VO X none vNoPart := PO.imp po_none fun σ H Q h => by
  obtain ⟨R, F, A, e, Kp, rep, ht, fin⟩ := h
  exact fin none e F A H ht (Le.refl F) (pfx_refl A) rep
theorem vo_some (h : VE X a ta) : VO X (some a) (vPart ta) := PO.imp (po_some h) fun σ H Q h => by
  obtain ⟨R, F, A, e, Kp, rep, ht, fin⟩ := h
  refine ⟨R, F, A, e, _, rep, ht, fun s1 e1 x F1 A1 H1 k1 f1 p1 rep1 at1 => ?_⟩
  split at k1
  · rename_i i hi
    exact ⟨i, (rep1.pk at1 hi).int, fin _ e1 F1 A1 H1 k1 f1 p1 rep1⟩
  · exact k1.elim
def cut (ds : List D) (lo hi : Option Int) : List D := (ds.drop (HT.sIx ds.length 0 lo)).take (HT.sIx ds.length ds.length hi - HT.sIx ds.length 0 lo)
theorem AtL.cut {K : PySem.W.Frag} {F : Hp} {ds : List D} {xs : List V} (h : AtL K F ds xs) (lo hi : Option Int) : AtL K F (Vl.cut ds lo hi) (cutV xs lo hi) := by
  unfold Vl.cut cutV
  rw [h.len]
  exact (h.drop _).take _
def opSl (s : Sl) (lo hi : Option Int) (e : En) (Kp : KE) : Prop := match pk s e with
  | some (.list ds) => Kp (.val (.list (cut ds lo hi))) e
  | some (.tuple ds) => Kp (.val (.tuple (cut ds lo hi))) e
  | some (.str z) => z.length ≤ sizeLine ∧ Kp (.val (.str (cutS z lo hi))) e
  | _ => False
def opSlO (s : Sl) (lo hi : Option Int) (e : En) (Kp : KE) : Prop := match pk s e with
  | some (.list ds) => Kp (.obj e.st.length) ⟨e.sl, e.st ++ [some (.l (cut ds lo hi))]⟩
  | _ => False
def vSl (op : Sl → Option Int → Option Int → En → KE → Prop) (ta : VTE) (tl th : VTO) : VTE := fun e Kp => ta e fun s e1 => tl e1 fun l e2 => th e2 fun u e3 => op s l u e3 Kp
def rSl3 (K : PySem.W.Frag) : V → Option Int → Option Int → Hp → VK → Prop := fun x lo hi H Q => rSlL K x lo hi H Q ∨ rSlA K x lo hi H Q ∨ rSlS x lo hi H Q
theorem cut_whole {K : PySem.W.Frag} {F : Hp} {ds : List D} {xs : List V} (h : AtL K F ds xs) {lo hi : Option Int} (z : HT.sIx xs.length 0 lo = 0 ∧ HT.sIx xs.length xs.length hi = xs.length) : Vl.cut ds lo hi = ds := by
  unfold Vl.cut
  rw [← h.len, z.1, z.2, List.drop_zero, Nat.sub_zero, h.len, List.take_length]
theorem liftSl {r : V → Option Int → Option Int → Hp → VK → Prop} {op : Sl → Option Int → Option Int → En → KE → Prop} {tl th : VTO}
    (p : ∀ {R F : Hp} {A : List Addr} {σ : L2.St} {H : Hp} {e : En} {x : V} {s : Sl} {lo hi : Option Int} {Kp : KE} {Q : VK}, Rep X.K R F A σ H e → SlAt X.K F A x s → op s lo hi e Kp → Fin X.K R F A σ Kp Q → r x lo hi H Q)
    (σ : L2.St) (H : Hp) (Q : VK) (h : liftE X.K (vSl op ta tl th) σ H Q) : tSl r (liftE X.K ta) (liftO X.K tl) (liftO X.K th) σ H Q := by
  obtain ⟨R, F, A, e, Kp, rep, ht, fin⟩ := h
  exact ⟨R, F, A, e, _, rep, ht, fun s1 e1 x F1 A1 H1 k1 f1 p1 rep1 at1 => ⟨R, F1, A1, e1, _, rep1, k1, fun l e2 F2 A2 H2 k2 f2 p2 rep2 => ⟨R, F2, A2, e2, _, rep2, k2, fun u e3 F3 A3 H3 k3 f3 p3 rep3 =>
    p rep3 (at1.le (f2.trans f3) (p2.trans p3)) k3 (fin.tr (f1.trans (f2.trans f3)) (p1.trans (p2.trans p3)))⟩⟩⟩
theorem ve_slice {lo hi : Option Expr} {tl th : VTO} {p2 : Pos} (ha : VE X a ta) (hl : VO X lo tl) (hu : VO X hi th) : VE X (.Subscript a (.Slice lo hi none p2) pos) (vSl opSl ta tl th) :=
  PE.imp (pe_slice (r := rSl3 X.K) (sl_list.or (sl_tupA.or sl_str)) ha hl hu) (liftSl fun {R F A σ H e x s lo hi Kp Q} rep a1 ho fin => by
    unfold opSl at ho
    split at ho
    · rename_i ds h1
      obtain ⟨a, xs, rfl, q1, q2⟩ := rep.pk a1 h1
      exact .inl ⟨a, xs, rfl, q1, fun p hp => fin.newL rep hp ho (q2.cut lo hi)⟩
    · rename_i ds h1
      obtain ⟨a, xs, rfl, q1, q2⟩ := (rep.pk a1 h1).tup
      refine .inr (.inl ⟨a, xs, rfl, sqT_le rep.sub q1, fun z => ?_, fun _ p hp => fin.newT rep hp ho (q2.cut lo hi)⟩)
      rw [cut_whole q2 z] at ho
      exact fin.val rep ho (.tup q1 q2)
    · rename_i z h1
      exact .inr (.inr ⟨z, (rep.pk a1 h1).str, ho.1, fin.val rep ho.2 (.str _)⟩)
    · exact ho.elim)
theorem ve_sliceO {lo hi : Option Expr} {tl th : VTO} {p2 : Pos} (ha : VE X a ta) (hl : VO X lo tl) (hu : VO X hi th) : VE X (.Subscript a (.Slice lo hi none p2) pos) (vSl opSlO ta tl th) :=
  PE.imp (pe_slice (r := rSlL X.K) sl_list ha hl hu) (liftSl fun {R F A σ H e x s lo hi Kp Q} rep a1 ho fin => by
    unfold opSlO at ho
    split at ho
    · rename_i ds h1
      obtain ⟨a, xs, rfl, q1, q2⟩ := rep.pk a1 h1
      exact ⟨a, xs, rfl, q1, fun p hp => fin.newO rep hp ho (q2.cut lo hi)⟩
    · exact ho.elim)
/-! built-ins -/
theorem ve_blt {id : String} {r : List V → Hp → VK → Prop} {op : List Sl → En → KE → Prop} {x : Str} {p : Pos} {es : List Expr} {t : VTA} (pr : PrimN X.K r op) (hc : CallR X (.builtin id) r) (hg : Gl X x) (hm : X.mg x = none) (hv : bootBuiltins x = some (.builtin id)) (ha : VA X (a :: es) t)
    (hn : x ≠ "__name__" := by decide) (hdb : (x == ("__debug__" : Str)) = false := by decide) (he : starEach (a :: es) X.env = (false, eval a X.env) :: starEach es X.env := by rfl) (hpl : (backTo pos (starEach es X.env)).any (·.1) = false := by rfl) :
    VE X (.Call (.Name x p) (a :: es) [] pos) (vN op t) := PE.imp (pe_callB hc hg hm hv ha hn hdb he hpl) (liftN pr)
theorem ve_typ {T : String} {r : List V → Hp → VK → Prop} {op : List Sl → En → KE → Prop} {x : Str} {p : Pos} {es : List Expr} {t : VTA} (pr : PrimN X.K r op) (hc : CallR X (.type T) r) (hg : Gl X x) (hm : X.mg x = none) (hv : bootBuiltins x = some (.type T)) (ha : VA X (a :: es) t)
    (hn : x ≠ "__name__" := by decide) (hdb : (x == ("__debug__" : Str)) = false := by decide) (he : starEach (a :: es) X.env = (false, eval a X.env) :: starEach es X.env := by rfl) (hpl : (backTo pos (starEach es X.env)).any (·.1) = false := by rfl) :
    VE X (.Call (.Name x p) (a :: es) [] pos) (vN op t) := PE.imp (pe_callTy hc hg hm hv ha hn hdb he hpl) (liftN pr)
def opLen (ss : List Sl) (e : En) (Kp : KE) : Prop := match ss with
  | [s] => (match pk s e with
    | some (.list ds) => Kp (.val (.int (ds.length : Nat))) e
    | some (.tuple ds) => Kp (.val (.int (ds.length : Nat))) e
    | some (.str z) => z.length ≤ sizeLine ∧ Kp (.val (.int (z.length : Nat))) e
    | _ => False)
  | _ => False
theorem SlAts.one {K : PySem.W.Frag} {F : Hp} {A : List Addr} {xs : List V} {s : Sl} (h : SlAts K F A xs [s]) : ∃ x, xs = [x] ∧ SlAt K F A x s := by
  cases h with
  | cons h1 h2 =>
    cases h2
    exact ⟨_, rfl, h1⟩
theorem SlAts.two {K : PySem.W.Frag} {F : Hp} {A : List Addr} {xs : List V} {s t : Sl} (h : SlAts K F A xs [s, t]) : ∃ x y, xs = [x, y] ∧ SlAt K F A x s ∧ SlAt K F A y t := by
  cases h with
  | cons h1 h2 =>
    obtain ⟨y, rfl, h3⟩ := h2.one
    exact ⟨_, _, rfl, h1, h3⟩
theorem p_len {K : PySem.W.Frag} : PrimN K (fun xs H Q => ∃ x n, xs = [x] ∧ LenV K x H n ∧ Q (.int n) H) opLen := by
  intro R F A σ H e xs ss Kp Q rep a1 ho fin
  unfold opLen at ho
  split at ho
  · rename_i s
    obtain ⟨x, rfl, a2⟩ := a1.one
    split at ho
    · rename_i ds h1
      obtain ⟨a, ys, rfl, q1, q2⟩ := rep.pk a2 h1
      exact ⟨_, ds.length, rfl, .inl ⟨ys, q1, q2.len.symm⟩, fin.val rep ho (.int _)⟩
    · rename_i ds h1
      obtain ⟨a, ys, rfl, q1, q2⟩ := (rep.pk a2 h1).tup
      exact ⟨_, ds.length, rfl, .inr ⟨ys, sqT_le rep.sub q1, q2.len.symm⟩, fin.val rep ho (.int _)⟩
    · rename_i z h1
      have e1 := (rep.pk a2 h1).str
      subst e1
      exact ⟨_, z.length, rfl, ⟨ho.1, rfl⟩, fin.val rep ho.2 (.int _)⟩
    · exact ho.elim
  · exact ho.elim
theorem ve_len {p : Pos} {t : VTA} (hg : Gl X "len") (hm : X.mg "len" = none) (ha : VA X [a] t) (he : starEach [a] X.env = (false, eval a X.env) :: starEach [] X.env := by rfl) : VE X (.Call (.Name "len" p) [a] [] pos) (vN opLen t) :=
  ve_blt p_len call_len hg hm PySem.boot_len ha (by decide) (by decide) he
def opII (g : Int → Int → Int) (ss : List Sl) (e : En) (Kp : KE) : Prop := match ss with
  | [s, t] => (match pk s e, pk t e with
    | some (.int i), some (.int j) => Kp (.val (.int (g i j))) e
    | _, _ => False)
  | _ => False
theorem p_ii {K : PySem.W.Frag} {g : Int → Int → Int} : PrimN K (fun xs H Q => ∃ i j, xs = [.int i, .int j] ∧ Q (.int (g i j)) H) (opII g) := by
  intro R F A σ H e xs ss Kp Q rep a1 ho fin
  unfold opII at ho
  split at ho
  · rename_i s t
    obtain ⟨x, y, rfl, a2, a3⟩ := a1.two
    split at ho
    · rename_i i j h1 h2
      exact ⟨i, j, by rw [(rep.pk a2 h1).int, (rep.pk a3 h2).int], fin.val rep ho (.int _)⟩
    · exact ho.elim
  · exact ho.elim
def gMax (i j : Int) : Int := if j > i then j else i
def gMin (i j : Int) : Int := if j < i then j else i
theorem ve_max {p : Pos} {t : VTA} (hc : X.calm = true) (hg : Gl X "max") (hm : X.mg "max" = none) (ha : VA X [a, b] t) (he : starEach [a, b] X.env = (false, eval a X.env) :: starEach [b] X.env := by rfl) (hpl : (backTo pos (starEach [b] X.env)).any (·.1) = false := by rfl) : VE X (.Call (.Name "max" p) [a, b] [] pos) (vN (opII gMax) t) := ve_blt (p_ii (g := gMax)) (call_max2 hc) hg hm (by decide +kernel) ha (by decide) (by decide) he hpl
theorem ve_min {p : Pos} {t : VTA} (hc : X.calm = true) (hg : Gl X "min") (hm : X.mg "min" = none) (ha : VA X [a, b] t) (he : starEach [a, b] X.env = (false, eval a X.env) :: starEach [b] X.env := by rfl) (hpl : (backTo pos (starEach [b] X.env)).any (·.1) = false := by rfl) : VE X (.Call (.Name "min" p) [a, b] [] pos) (vN (opII gMin) t) := ve_blt (p_ii (g := gMin)) (call_min2 hc) hg hm (by decide +kernel) ha (by decide) (by decide) he hpl
/-- int(x) of a number or a truth -/
def opInt (ss : List Sl) (e : En) (Kp : KE) : Prop := match ss with
  | [s] => (match pk s e with
    | some (.int i) => Kp (.val (.int i)) e
    | some (.bool b) => Kp (.val (.int (if b then 1 else 0))) e
    | _ => False)
  | _ => False
theorem ve_intB {p : Pos} {t : VTA} (hg : Gl X "int") (hm : X.mg "int" = none) (ha : VA X [a] t) (he : starEach [a] X.env = (false, eval a X.env) :: starEach [] X.env := by rfl) : VE X (.Call (.Name "int" p) [a] [] pos) (vN opInt t) := ve_typ (fun {R F A σ H e xs ss Kp Q} rep a1 ho fin => by
  unfold opInt at ho
  split at ho
  · rename_i s
    obtain ⟨x, rfl, a2⟩ := a1.one
    split at ho
    · rename_i i h1
      exact .inl ⟨i, by rw [(rep.pk a2 h1).int], fin.val rep ho (.int _)⟩
    · rename_i b h1
      exact .inr ⟨b, by rw [(rep.pk a2 h1).bool], fin.val rep ho (.int _)⟩
    · exact ho.elim
  · exact ho.elim) call_int1 hg hm (by decide +kernel) ha (by decide) (by decide) he
/-- str(n) -/
def opStr (ss : List Sl) (e : En) (Kp : KE) : Prop := match ss with
  | [s] => (match pk s e with
    | some (.int i) => i.natAbs.log2 < 1920 ∧ Kp (.val (.str (toString i))) e
    | _ => False)
  | _ => False
theorem ve_strI {p : Pos} {t : VTA} (hg : Gl X "str") (hm : X.mg "str" = none) (ha : VA X [a] t) (he : starEach [a] X.env = (false, eval a X.env) :: starEach [] X.env := by rfl) : VE X (.Call (.Name "str" p) [a] [] pos) (vN opStr t) := ve_typ (fun {R F A σ H e xs ss Kp Q} rep a1 ho fin => by
  unfold opStr at ho
  split at ho
  · rename_i s
    obtain ⟨x, rfl, a2⟩ := a1.one
    split at ho
    · rename_i i h1
      exact ⟨i, by rw [(rep.pk a2 h1).int], ho.1, fin.val rep ho.2 (.str _)⟩
    · exact ho.elim
  · exact ho.elim) call_str_int hg hm (by decide +kernel) ha (by decide) (by decide) he
/-- list(xs), tuple(xs) -/
def opList (ss : List Sl) (e : En) (Kp : KE) : Prop := match ss with
  | [s] => (match pk s e with
    | some (.list ds) => Kp (.val (.list ds)) e
    | some (.tuple ds) => Kp (.val (.list ds)) e
    | _ => False)
  | _ => False
def opListO (ss : List Sl) (e : En) (Kp : KE) : Prop := match ss with
  | [s] => (match pk s e with
    | some (.list ds) => Kp (.obj e.st.length) ⟨e.sl, e.st ++ [some (.l ds)]⟩
    | some (.tuple ds) => Kp (.obj e.st.length) ⟨e.sl, e.st ++ [some (.l ds)]⟩
    | _ => False)
  | _ => False
def opTuple (ss : List Sl) (e : En) (Kp : KE) : Prop := match ss with
  | [s] => (match pk s e with
    | some (.list ds) => Kp (.val (.tuple ds)) e
    | some (.tuple ds) => Kp (.val (.tuple ds)) e
    | _ => False)
  | _ => False
theorem ve_list {p : Pos} {t : VTA} (hg : Gl X "list") (hm : X.mg "list" = none) (ha : VA X [a] t) (he : starEach [a] X.env = (false, eval a X.env) :: starEach [] X.env := by rfl) : VE X (.Call (.Name "list" p) [a] [] pos) (vN opList t) := ve_typ (fun {R F A σ H e xs ss Kp Q} rep a1 ho fin => by
  unfold opList at ho
  split at ho
  · rename_i s
    obtain ⟨x, rfl, a2⟩ := a1.one
    split at ho
    · rename_i ds h1
      obtain ⟨a, ys, rfl, q1, q2⟩ := rep.pk a2 h1
      exact ⟨a, ys, rfl, .inl q1, fun l hl => fin.newL rep hl ho q2⟩
    · rename_i ds h1
      obtain ⟨a, ys, rfl, q1, q2⟩ := (rep.pk a2 h1).tup
      exact ⟨a, ys, rfl, .inr (sqT_le rep.sub q1), fun l hl => fin.newL rep hl ho q2⟩
    · exact ho.elim
  · exact ho.elim) call_list_of hg hm (by decide +kernel) ha (by decide) (by decide) he
theorem ve_listO {p : Pos} {t : VTA} (hg : Gl X "list") (hm : X.mg "list" = none) (ha : VA X [a] t) (he : starEach [a] X.env = (false, eval a X.env) :: starEach [] X.env := by rfl) : VE X (.Call (.Name "list" p) [a] [] pos) (vN opListO t) := ve_typ (fun {R F A σ H e xs ss Kp Q} rep a1 ho fin => by
  unfold opListO at ho
  split at ho
  · rename_i s
    obtain ⟨x, rfl, a2⟩ := a1.one
    split at ho
    · rename_i ds h1
      obtain ⟨a, ys, rfl, q1, q2⟩ := rep.pk a2 h1
      exact ⟨a, ys, rfl, .inl q1, fun l hl => fin.newO rep hl ho q2⟩
    · rename_i ds h1
      obtain ⟨a, ys, rfl, q1, q2⟩ := (rep.pk a2 h1).tup
      exact ⟨a, ys, rfl, .inr (sqT_le rep.sub q1), fun l hl => fin.newO rep hl ho q2⟩
    · exact ho.elim
  · exact ho.elim) call_list_of hg hm (by decide +kernel) ha (by decide) (by decide) he
theorem ve_tuple {p : Pos} {t : VTA} (hg : Gl X "tuple") (hm : X.mg "tuple" = none) (ha : VA X [a] t) (he : starEach [a] X.env = (false, eval a X.env) :: starEach [] X.env := by rfl) : VE X (.Call (.Name "tuple" p) [a] [] pos) (vN opTuple t) := ve_typ (fun {R F A σ H e xs ss Kp Q} rep a1 ho fin => by
  unfold opTuple at ho
  split at ho
  · rename_i s
    obtain ⟨x, rfl, a2⟩ := a1.one
    split at ho
    · rename_i ds h1
      obtain ⟨a, ys, rfl, q1, q2⟩ := rep.pk a2 h1
      exact ⟨a, ys, rfl, .inl ⟨q1, fun l hl => fin.newT rep hl ho q2⟩⟩
    · rename_i ds h1
      obtain ⟨a, ys, rfl, q1, q2⟩ := (rep.pk a2 h1).tup
      exact ⟨a, ys, rfl, .inr ⟨sqT_le rep.sub q1, fin.val rep ho (.tup q1 q2)⟩⟩
    · exact ho.elim
  · exact ho.elim) call_tuple_of hg hm (by decide +kernel) ha (by decide) (by decide) he
/-! methods -/
def PrimM (K : PySem.W.Frag) (T : String) (r : V → List V → Hp → VK → Prop) (op : Sl → List Sl → En → KE → Prop) : Prop := ∀ {R F : Hp} {A : List Addr} {σ : L2.St} {H : Hp} {e : En} {x : V} {s : Sl} {xs : List V} {ss : List Sl} {Kp : KE} {Q : VK}, Rep K R F A σ H e → SlAt K F A x s → SlAts K F A xs ss → op s ss e Kp → Fin K R F A σ Kp Q → r x xs H Q
/-- the receiver is of the type, when its name is read -/
def isT (T : String) (s : Sl) (e : En) : Prop := match pk s e with
  | some (.str _) => T = "str"
  | some (.list _) => T = "list"
  | _ => False
theorem isT_ty {K : PySem.W.Frag} {R F : Hp} {A : List Addr} {σ : L2.St} {H : Hp} {e : En} {T : String} {x : V} {s : Sl} (rep : Rep K R F A σ H e) (a : SlAt K F A x s) (h : isT T s e) : tyV K T x H := by
  unfold isT at h
  split at h
  · rename_i z hz
    rw [(rep.pk a hz).str]
    exact h
  · rename_i ds hz
    obtain ⟨p, xs, rfl, q1, q2⟩ := rep.pk a hz
    exact .inl ⟨h, xs, q1⟩
  · exact h.elim
def vM (T : String) (op : Sl → List Sl → En → KE → Prop) (ta : VTE) (t : VTA) : VTE := fun e Kp => ta e fun s e1 => isT T s e1 ∧ t e1 fun ss e2 => op s ss e2 Kp
def vM0 (T : String) (op : Sl → List Sl → En → KE → Prop) (ta : VTE) : VTE := fun e Kp => ta e fun s e1 => isT T s e1 ∧ op s [] e1 Kp
variable {o : Expr} {to : VTE}
theorem ve_m {T id : String} {name : Str} {apos cpos : Pos} {r : V → List V → Hp → VK → Prop} {op : Sl → List Sl → En → KE → Prop} {es : List Expr} {t : VTA} (pr : PrimM X.K T r op) (pa : PlainAttrs T) (slot : Slot T name id) (hty : typeOf (.builtin id) = pure (.type "method_descriptor")) (hm : MtR X id r) (ho : VE X o to) (ha : VA X (a :: es) t)
    (hbase : attributeBase o name X.env (eval o X.env) = eval o X.env := by rfl)
    (hfew : ((backTo cpos (starEach (a :: es) X.env)).all (fun x => !x.1) && (backToKw cpos (keywordEach [] X.env)).all (fun x => x.1.isSome)
      && decide ((a :: es).length + ([] : List Keyword).length + (if ([] : List Keyword).isEmpty then 0 else 1) < 30)) = true := by rfl)
    (hline : (apos.endLine == cpos.line) = true := by rfl) (hs : starEach (a :: es) X.env = (false, eval a X.env) :: starEach es X.env := by rfl) (hplain : (backTo cpos (starEach es X.env)).any (·.1) = false := by rfl) :
    VE X (.Call (.Attribute o name apos) (a :: es) [] cpos) (vM T op to t) := PE.imp (pe_bm pa slot hty hm ho ha hbase hfew hline hs hplain) fun σ H Q h => by
  obtain ⟨R, F, A, e, Kp, rep, ht, fin⟩ := h
  exact ⟨R, F, A, e, _, rep, ht, fun s1 e1 x F1 A1 H1 k1 f1 p1 rep1 at1 => ⟨isT_ty rep1 at1 k1.1, R, F1, A1, e1, _, rep1, k1.2, fun ss e2 xs F2 A2 H2 k2 f2 p2 rep2 at2 => pr rep2 (at1.le f2 p2) at2 k2 (fin.tr (f1.trans f2) (p1.trans p2))⟩⟩
theorem ve_m0 {T id : String} {name : Str} {apos cpos : Pos} {r : V → List V → Hp → VK → Prop} {op : Sl → List Sl → En → KE → Prop} (pr : PrimM X.K T r op) (pa : PlainAttrs T) (slot : Slot T name id) (hty : typeOf (.builtin id) = pure (.type "method_descriptor")) (hm : MtR X id r) (ho : VE X o to)
    (hbase : attributeBase o name X.env (eval o X.env) = eval o X.env := by rfl) (hline : (apos.endLine == cpos.line) = true := by rfl) : VE X (.Call (.Attribute o name apos) [] [] cpos) (vM0 T op to) := PE.imp (pe_bm0 pa slot hty hm ho hbase hline) fun σ H Q h => by
  obtain ⟨R, F, A, e, Kp, rep, ht, fin⟩ := h
  exact ⟨R, F, A, e, _, rep, ht, fun s1 e1 x F1 A1 H1 k1 f1 p1 rep1 at1 => ⟨isT_ty rep1 at1 k1.1, pr rep1 at1 .nil k1.2 (fin.tr f1 p1)⟩⟩
/-- xs.append(x) -/
def opAppend (s : Sl) (ss : List Sl) (e : En) (Kp : KE) : Prop := match ss with
  | [t] => asD t e fun d e1 => match s with
    | .obj j => (match e1.st[j]? with
      | some (some (.l ds)) => ds.length < sizeLine ∧ Kp (.val .none) ⟨e1.sl, e1.st.set j (some (.l (ds ++ [d])))⟩
      | _ => False)
    | _ => False
  | _ => False
theorem Fin.chg {K : PySem.W.Frag} {R F : Hp} {A : List Addr} {σ : L2.St} {H : Hp} {e : En} {Kp : KE} {Q : VK} (f : Fin K R F A σ Kp Q) (r : Rep K R F A σ H e) {j : Nat} {a : Addr} {ds : List D} (hj : A[j]? = some a) (hl : e.st[j]? = some (some (.l ds))) {xs' : List V} {ds' : List D} (hx : AtL K F ds' xs') {v : V} {d : D} (hv : At K F d v)
    (k : Kp (.val d) ⟨e.sl, e.st.set j (some (.l ds'))⟩) : Q v (upd H a (.lst xs')) := f (.val d) _ v F A _ k (Le.refl F) (pfx_refl A) (r.write hj hl hx) hv
theorem p_append {K : PySem.W.Frag} : PrimM K "list" rAppend opAppend := by
  intro R F A σ H e x s xs ss Kp Q rep a0 a1 ho fin
  unfold opAppend at ho
  split at ho
  · rename_i t
    obtain ⟨y, rfl, a2⟩ := a1.one
    obtain ⟨d, e1, F1, ho, rep1, l1, at1⟩ := rep.asD a2 ho
    cases s with
    | val _ => exact False.elim ho
    | kn _ => exact False.elim ho
    | exc _ => exact False.elim ho
    | obj j =>
      replace ho : (match e1.st[j]? with | some (some (.l ds)) => ds.length < sizeLine ∧ Kp (.val .none) ⟨e1.sl, e1.st.set j (some (.l (ds ++ [d])))⟩ | _ => False) := ho
      split at ho
      · rename_i ds hd
        obtain ⟨a, ea, rfl⟩ := a0
        obtain ⟨b, ys, q1, q2, q3, q4⟩ := rep1.lst hd
        rw [ea] at q1
        cases q1
        exact ⟨a, ys, y, rfl, rfl, q3, by rw [q4.len]; exact ho.1, (fin.tr l1 (pfx_refl A)).chg rep1 ea hd (q4.app (AtL.one at1)) .non ho.2⟩
      · exact ho.elim
  · exact ho.elim
/-- xs.extend(ys) -/
def opExtend (s : Sl) (ss : List Sl) (e : En) (Kp : KE) : Prop := match s, ss with
  | .obj j, [t] => (match e.st[j]?, pkm t e with
    | some (some (.l ds)), some (.list es) => ds.length + es.length ≤ sizeLine ∧ Kp (.val .none) ⟨e.sl, e.st.set j (some (.l (ds ++ es)))⟩
    | _, _ => False)
  | _, _ => False
theorem p_extend {K : PySem.W.Frag} : PrimM K "list" rExtend opExtend := by
  intro R F A σ H e x s xs ss Kp Q rep a0 a1 ho fin
  unfold opExtend at ho
  split at ho
  · rename_i j t
    obtain ⟨y, rfl, a2⟩ := a1.one
    split at ho
    · rename_i ds es hd he
      obtain ⟨a, ea, rfl⟩ := a0
      obtain ⟨b, ys, q1, q2, q3, q4⟩ := rep.lst hd
      rw [ea] at q1
      cases q1
      obtain ⟨c, zs, rfl, r1, r2⟩ := rep.pkm a2 he
      exact ⟨a, c, ys, zs, rfl, rfl, q3, r1, by rw [q4.len, r2.len]; exact ho.1, fin.chg rep ea hd (q4.app r2) .non ho.2⟩
    · exact ho.elim
  · exact ho.elim
/-- xs.pop() -/
def opPop (s : Sl) (ss : List Sl) (e : En) (Kp : KE) : Prop := match s with
  | .obj j => (match e.st[j]? with
    | some (some (.l ds)) => ∃ d, ds.getLast? = some d ∧ Kp (.val d) ⟨e.sl, e.st.set j (some (.l ds.dropLast))⟩
    | _ => False)
  | _ => False
theorem p_pop {K : PySem.W.Frag} : PrimM K "list" (fun x vs H Q => vs = [] → rPop x vs H Q) opPop := by
  intro R F A σ H e x s xs ss Kp Q rep a0 a1 ho fin hv
  subst hv
  unfold opPop at ho
  split at ho
  · rename_i j
    split at ho
    · rename_i ds hd
      obtain ⟨d, hl, k⟩ := ho
      obtain ⟨a, ea, rfl⟩ := a0
      obtain ⟨b, ys, q1, q2, q3, q4⟩ := rep.lst hd
      rw [ea] at q1
      cases q1
      rw [List.getLast?_eq_getElem?] at hl
      obtain ⟨v, hv, av⟩ := q4.get hl
      refine ⟨a, ys, v, rfl, rfl, q3, by rw [q4.len]; exact hv, fin.chg rep ea hd q4.dropLast av k⟩
    · exact ho.elim
  · exact ho.elim
theorem ve_append {apos cpos : Pos} {t : VTA} (ho : VE X o to) (ha : VA X [a] t) (hbase : attributeBase o "append" X.env (eval o X.env) = eval o X.env := by rfl) (hline : (apos.endLine == cpos.line) = true := by rfl) (hfew : ((backTo cpos (starEach [a] X.env)).all (fun x => !x.1) && (backToKw cpos (keywordEach [] X.env)).all (fun x => x.1.isSome)
      && decide ([a].length + ([] : List Keyword).length + (if ([] : List Keyword).isEmpty then 0 else 1) < 30)) = true := by rfl) (hs : starEach [a] X.env = (false, eval a X.env) :: starEach [] X.env := by rfl) :
    VE X (.Call (.Attribute o "append" apos) [a] [] cpos) (vM "list" opAppend to t) := ve_m p_append PySem.F.plainAttrs_list PySem.F.slot_list_append PySem.F.type_list_append mt_append ho ha hbase hfew hline hs
theorem ve_extend {apos cpos : Pos} {t : VTA} (ho : VE X o to) (ha : VA X [a] t) (hbase : attributeBase o "extend" X.env (eval o X.env) = eval o X.env := by rfl) (hline : (apos.endLine == cpos.line) = true := by rfl) (hfew : ((backTo cpos (starEach [a] X.env)).all (fun x => !x.1) && (backToKw cpos (keywordEach [] X.env)).all (fun x => x.1.isSome)
      && decide ([a].length + ([] : List Keyword).length + (if ([] : List Keyword).isEmpty then 0 else 1) < 30)) = true := by rfl) (hs : starEach [a] X.env = (false, eval a X.env) :: starEach [] X.env := by rfl) :
    VE X (.Call (.Attribute o "extend" apos) [a] [] cpos) (vM "list" opExtend to t) := ve_m p_extend PySem.F.plainAttrs_list PySem.F.slot_list_extend PySem.F.type_list_extend mt_extend ho ha hbase hfew hline hs
theorem ve_pop {apos cpos : Pos} (ho : VE X o to) (hbase : attributeBase o "pop" X.env (eval o X.env) = eval o X.env := by rfl) (hline : (apos.endLine == cpos.line) = true := by rfl) :
    VE X (.Call (.Attribute o "pop" apos) [] [] cpos) (vM0 "list" opPop to) := PE.imp (pe_bm0 PySem.F.plainAttrs_list PySem.F.slot_list_pop PySem.F.type_list_pop mt_pop ho hbase hline) fun σ H Q h => by
  obtain ⟨R, F, A, e, Kp, rep, ht, fin⟩ := h
  exact ⟨R, F, A, e, _, rep, ht, fun s1 e1 x F1 A1 H1 k1 f1 p1 rep1 at1 => ⟨isT_ty rep1 at1 k1.1, p_pop rep1 at1 .nil k1.2 (fin.tr f1 p1) rfl⟩⟩
end
end Vl
namespace Vl
open PySem L2
/-- an exception: its class's name, its fields -/
structure Xv where
  C : Str
  fs : List (Str × D) := []
structure VEnds where
  nx : En → Prop
  rt : Sl → En → Prop
  bk : En → Prop := fun _ => False
  ct : En → Prop := fun _ => False
  ex : Xv → En → Prop := fun _ _ => False
def XAt (K : PySem.W.Frag) (mg : Str → Option Value) (F H : Hp) (x : Xv) (cls : Value) (d : Option Addr) : Prop :=
  mg x.C = some cls ∧ ((x.fs = [] ∧ d = none) ∨ x.fs ≠ [] ∧ ∃ dx vs, d = some dx ∧ H dx = some (.xd ((x.fs.map (·.1)).zip vs)) ∧ AtL K F (x.fs.map (·.2)) vs)
/-- what is wanted of an exception that leaves here -/
def FinX (X : Cx) (R F : Hp) (A : List Addr) (P : Xv → En → Prop) : Prop := ∃ W : WX, Takes X W ∧ ∀ x e' cls d σ' F' A' H', P x e' → Le F F' → A <+: A' → Rep X.K R F' A' σ' H' e' → XAt X.K X.mg F' H' x cls d → W cls d σ' H'
theorem FinX.tr {X : Cx} {R F F1 : Hp} {A A1 : List Addr} {P : Xv → En → Prop} (f : FinX X R F A P) (a : Le F F1) (b : A <+: A1) : FinX X R F1 A1 P := by
  obtain ⟨W, t, h⟩ := f
  exact ⟨W, t, fun x e' cls d σ' F' A' H' p h1 h2 => h x e' cls d σ' F' A' H' p (a.trans h1) (b.trans h2)⟩
theorem FinX.no {X : Cx} {R F : Hp} {A : List Addr} : FinX X R F A fun _ _ => False :=
  ⟨fun _ _ _ _ => False, fun u s' ⟨a, B, sI, pins, σ, H, cls, d, e, I, nb, up, sky, na, os, ag, w⟩ => w.elim, fun _ _ _ _ _ _ _ _ p => p.elim⟩
abbrev VTS := VEnds → En → Prop
structure FinS (X : Cx) (R F : Hp) (A : List Addr) (DV : VEnds) (D : Ends) : Prop where
  nx : ∀ e' σ' F' A' H', DV.nx e' → Le F F' → A <+: A' → Rep X.K R F' A' σ' H' e' → D.nx σ' H'
  bk : ∀ e' σ' F' A' H', DV.bk e' → Le F F' → A <+: A' → Rep X.K R F' A' σ' H' e' → D.bk σ' H'
  ct : ∀ e' σ' F' A' H', DV.ct e' → Le F F' → A <+: A' → Rep X.K R F' A' σ' H' e' → D.ct σ' H'
  rt : ∀ s e' v σ' F' A' H', DV.rt s e' → Le F F' → A <+: A' → Rep X.K R F' A' σ' H' e' → SlAt X.K F' A' v s → D.rt v H'
  ex : FinX X R F A DV.ex
theorem FinS.tr {X : Cx} {R F F1 : Hp} {A A1 : List Addr} {DV : VEnds} {D : Ends} (f : FinS X R F A DV D) (a : Le F F1) (b : A <+: A1) : FinS X R F1 A1 DV D :=
  ⟨fun e' σ' F' A' H' k h1 h2 => f.nx e' σ' F' A' H' k (a.trans h1) (b.trans h2), fun e' σ' F' A' H' k h1 h2 => f.bk e' σ' F' A' H' k (a.trans h1) (b.trans h2), fun e' σ' F' A' H' k h1 h2 => f.ct e' σ' F' A' H' k (a.trans h1) (b.trans h2),
    fun s e' v σ' F' A' H' k h1 h2 => f.rt s e' v σ' F' A' H' k (a.trans h1) (b.trans h2), f.ex.tr a b⟩
def liftS (X : Cx) (t : VTS) : TS := fun D σ H => ∃ R F A e DV, Rep X.K R F A σ H e ∧ t DV e ∧ FinS X R F A DV D
def VS (X : Cx) (st : Stmt) (t : VTS) : Prop := PS X st (liftS X t)
def VSs (X : Cx) (st : List Stmt) (t : VTS) : Prop := PSs X st (liftS X t)
def vNext : VTS := fun D e => D.nx e
def vSeq (t u : VTS) : VTS := fun D e => t { D with nx := u D } e
/-! targets -/
/-- the names outside ws are as they were -/
def Off (ws : List Nat) (σ σ' : L2.St) : Prop := σ'.length = σ.length ∧ ∀ i : Nat, i ∉ ws → σ'[i]? = σ[i]?
theorem Off.refl (ws : List Nat) (σ : L2.St) : Off ws σ σ := ⟨rfl, fun _ _ => rfl⟩
theorem Off.app {ws us : List Nat} {σ σ1 σ2 : L2.St} (a : Off ws σ σ1) (b : Off us σ1 σ2) : Off (ws ++ us) σ σ2 :=
  ⟨b.1.trans a.1, fun i h => (b.2 i fun z => h (List.mem_append_right _ z)).trans (a.2 i fun z => h (List.mem_append_left _ z))⟩
abbrev VTG := Sl → En → (En → Prop) → Prop
abbrev VTGs := List D → En → (En → Prop) → Prop
def FinG (K : PySem.W.Frag) (R F : Hp) (A : List Addr) (ws : List Nat) (σ : L2.St) (Kp : En → Prop) (Q : L2.St → Hp → Prop) : Prop := ∀ e' σ' F' A' H', Kp e' → Le F F' → A <+: A' → Off ws σ σ' → Rep K R F' A' σ' H' e' → Q σ' H'
def liftG (K : PySem.W.Frag) (ws : List Nat) (g : VTG) : TG := fun v σ H Q => ∃ R F A e s Kp, Rep K R F A σ H e ∧ SlAt K F A v s ∧ g s e Kp ∧ FinG K R F A ws σ Kp Q
def liftGs (K : PySem.W.Frag) (ws : List Nat) (g : VTGs) : TGs := fun vs σ H Q => ∃ R F A e ds Kp, Rep K R F A σ H e ∧ AtL K F ds vs ∧ g ds e Kp ∧ FinG K R F A ws σ Kp Q
def VG (X : Cx) (ex : Expr) (ws : List Nat) (g : VTG) : Prop := PG X ex (liftG X.K ws g)
def VGs (X : Cx) (ex : List Expr) (ws : List Nat) (g : VTGs) : Prop := PGs X ex (liftGs X.K ws g)
theorem PG.imp {X : Cx} {ex : Expr} {t t' : TG} (h : PG X ex t) (f : ∀ v σ H Q, t' v σ H Q → t v σ H Q) : PG X ex t' := by
  obtain ⟨run⟩ := h
  constructor
  intros
  apply run <;> first | assumption | (apply f; assumption)
theorem PGs.imp {X : Cx} {ex : List Expr} {t t' : TGs} (h : PGs X ex t) (f : ∀ v σ H Q, t' v σ H Q → t v σ H Q) : PGs X ex t' := by
  obtain ⟨run⟩ := h
  constructor
  intros
  apply run <;> first | assumption | (apply f; assumption)
theorem PI.imp {X : Cx} {tg ex : Expr} {t t' : TI} (h : PI X tg ex t) (f : ∀ σ H Q, t' σ H Q → t σ H Q) : PI X tg ex t' := by
  obtain ⟨run⟩ := h
  constructor
  intros
  apply run <;> first | assumption | (apply f; assumption)
def vgName (i : Nat) : VTG := fun s e Kp => Kp ⟨e.sl.set i (some s), e.st⟩
def vgNil : VTGs := fun ds e Kp => match ds with
  | [] => Kp e
  | _ => False
def vgCons (g : VTG) (u : VTGs) : VTGs := fun ds e Kp => match ds with
  | d :: r => g (.val d) e fun e1 => u r e1 Kp
  | [] => False
def vgTup (n : Nat) (u : VTGs) : VTG := fun s e Kp => match pk s e with
  | some (.tuple ds) => ds.length = n ∧ u ds e Kp
  | _ => False
def vgSub (to ti : VTE) : VTG := fun s e Kp => to e fun so e1 => ti e1 fun si e2 => asD s e2 fun d e3 => match so with
  | .obj j => (match pk si e3 with
    | some (.int k) => (match e3.st[j]? with
      | some (some (.l ds)) => ∃ n, ixN ds.length k = some n ∧ Kp ⟨e3.sl, e3.st.set j (some (.l (ds.set n d)))⟩
      | _ => False)
    | _ => False)
  | _ => False
section
variable {X : Cx} {pos : Pos}
theorem off_set (i : Nat) (v : Option V) (σ : L2.St) : Off [i] σ (σ.set i v) := ⟨List.length_set, fun k h => List.getElem?_set_ne (fun z => h (by simp [z]))⟩
theorem vg_name {i : Nat} {x : Str} (hN : X.N.Nodup) (hi : X.N[i]? = some x) (hx : Loc X.env.scope x) (hf : X.fn x = true ∨ X.env.scope.names.lookup x = some .local := by first | exact .inl rfl | exact .inr rfl | assumption) : VG X (.Name x pos) [i] (vgName i) :=
  PG.imp (pg_name hN hi hx hf) fun v σ H Q h => by
    obtain ⟨R, F, A, e, s, Kp, rep, a, k, fin⟩ := h
    exact fin _ _ F A H k (Le.refl F) (pfx_refl A) (off_set i _ σ) (rep.put a)
theorem vgs_nil : VGs X [] [] vgNil := PGs.imp pgs_nil fun vs σ H Q h => by
  obtain ⟨R, F, A, e, ds, Kp, rep, a, k, fin⟩ := h
  unfold vgNil at k
  split at k
  · cases a
    exact ⟨rfl, fin _ _ F A H k (Le.refl F) (pfx_refl A) (Off.refl _ _) rep⟩
  · exact k.elim
theorem vgs_cons {ex : Expr} {es : List Expr} {ws us : List Nat} {g : VTG} {u : VTGs} (h1 : VG X ex ws g) (h2 : VGs X es us u) (hs : (assignEach (ex :: es) X.env).map (·.2) = assign ex X.env :: (assignEach es X.env).map (·.2) := by rfl) : VGs X (ex :: es) (ws ++ us) (vgCons g u) := PGs.imp (pgs_cons h1 h2 hs) fun vs σ H Q h => by
  obtain ⟨R, F, A, e, ds, Kp, rep, a, k, fin⟩ := h
  unfold vgCons at k
  split at k
  · rename_i d r
    cases a with
    | cons a1 a2 => exact ⟨_, _, rfl, R, F, A, e, .val d, _, rep, a1, k, fun e1 σ1 F1 A1 H1 k1 l1 p1 o1 rep1 => ⟨R, F1, A1, e1, r, Kp, rep1, AtL.le l1 _ _ a2, k1, fun e2 σ2 F2 A2 H2 k2 l2 p2 o2 rep2 => fin _ _ _ _ _ k2 (l1.trans l2) (p1.trans p2) (o1.app o2) rep2⟩⟩
  · exact k.elim
theorem vg_tup {es : List Expr} {k : Nat} {t : VTGs} {n : Nat} {ws : List Nat} (hc : X.calm = true) (h : VGs X es ws t) (hn : (assignEach es X.env).length = n := by rfl) (hst : (assignEach es X.env).findIdx? (·.1) = none := by rfl) : VG X (.Tuple es k pos) ws (vgTup n t) := PG.imp (pg_tup hc h hn hst) fun v σ H Q h => by
  obtain ⟨R, F, A, e, s, Kp, rep, a, k, fin⟩ := h
  unfold vgTup at k
  split at k
  · rename_i ds hd
    obtain ⟨p, xs, rfl, q1, q2⟩ := (rep.pk a hd).tup
    exact ⟨p, xs, rfl, sqT_le rep.sub q1, by rw [q2.len]; exact k.1, R, F, A, e, ds, Kp, rep, q2, k.2, fin⟩
  · exact k.elim
theorem vg_sub {o i : Expr} {to ti : VTE} (ho : VE X o to) (hi : VE X i ti) (hp : ∀ {u w : TE}, PE X o u → PE X i w → PG X (.Subscript o i pos) (gSub u w rSetL)) : VG X (.Subscript o i pos) [] (vgSub to ti) := PG.imp (hp ho hi) fun v σ H Q h => by
  obtain ⟨R, F, A, e, s, Kp, rep, a, k, fin⟩ := h
  refine ⟨R, F, A, e, _, rep, k, fun so e1 x F1 A1 H1 k1 l1 p1 rep1 a1 => ⟨R, F1, A1, e1, _, rep1, k1, fun si e2 y F2 A2 H2 k2 l2 p2 rep2 a2 => ?_⟩⟩
  obtain ⟨d, e3, F3, k3, rep3, l3, a3⟩ := rep2.asD (a.le (l1.trans l2) (p1.trans p2)) k2
  have a2' := a2.le l3 (pfx_refl A2)
  have a1' := a1.le (l2.trans l3) p2
  have lz := (l1.trans l2).trans l3
  have pz := p1.trans p2
  cases so with
  | val _ => exact False.elim k3
  | kn _ => exact False.elim k3
  | exc _ => exact False.elim k3
  | obj j =>
    replace k3 : (match pk si e3 with | some (.int k) => (match e3.st[j]? with | some (some (.l ds)) => ∃ n, ixN ds.length k = some n ∧ Kp ⟨e3.sl, e3.st.set j (some (.l (ds.set n d)))⟩ | _ => False) | _ => False) := k3
    split at k3
    · rename_i k hk
      split at k3
      · rename_i ds hd
        obtain ⟨n, hn, k4⟩ := k3
        obtain ⟨b, eb, rfl⟩ := a1'
        obtain ⟨b', xs, q1, q2, q3, q4⟩ := rep3.lst hd
        rw [eb] at q1
        cases q1
        refine ⟨b, xs, k, n, rfl, (rep3.pk a2' hk).int, q3, by rw [q4.len]; exact hn, fin _ _ _ _ _ k4 lz pz (Off.refl _ _) (rep3.write eb hd (q4.set a3 n))⟩
      · exact k3.elim
    · exact k3.elim
/-! statements -/
theorem vss_nil : VSs X [] vNext := PSs.imp pss_nil fun D σ H h => by
  obtain ⟨R, F, A, e, DV, rep, k, fin⟩ := h
  exact fin.nx e σ F A H k (Le.refl F) (pfx_refl A) rep
theorem vss_one {st : Stmt} {t : VTS} (h : VS X st t) : VSs X [st] t := pss_one h
theorem vss_cons {st : Stmt} {rest : List Stmt} {t u : VTS} (h1 : VS X st t) (h2 : VSs X rest u) : VSs X (st :: rest) (vSeq t u) := PSs.imp (pss_cons h1 h2) fun D σ H h => by
  obtain ⟨R, F, A, e, DV, rep, k, fin⟩ := h
  exact ⟨R, F, A, e, _, rep, k, fun e1 σ1 F1 A1 H1 k1 l1 p1 rep1 => ⟨R, F1, A1, e1, DV, rep1, k1, fin.tr l1 p1⟩, fin.bk, fin.ct, fin.rt, fin.ex⟩
def vBreak : VTS := fun D e => D.bk e
def vCont : VTS := fun D e => D.ct e
theorem vs_pass : VS X (.Pass pos) vNext := PS.imp ps_pass fun D σ H h => by
  obtain ⟨R, F, A, e, DV, rep, k, fin⟩ := h
  exact fin.nx e σ F A H k (Le.refl F) (pfx_refl A) rep
theorem vs_break : VS X (.Break pos) vBreak := PS.imp ps_break fun D σ H h => by
  obtain ⟨R, F, A, e, DV, rep, k, fin⟩ := h
  exact fin.bk e σ F A H k (Le.refl F) (pfx_refl A) rep
theorem vs_continue : VS X (.Continue pos) vCont := PS.imp ps_continue fun D σ H h => by
  obtain ⟨R, F, A, e, DV, rep, k, fin⟩ := h
  exact fin.ct e σ F A H k (Le.refl F) (pfx_refl A) rep
theorem vs_doc {x j pos'} : VS X (.Expr (.Constant (.str x) j pos) pos') vNext := PS.imp ps_doc fun D σ H h => by
  obtain ⟨R, F, A, e, DV, rep, k, fin⟩ := h
  exact fin.nx e σ F A H k (Le.refl F) (pfx_refl A) rep
def vDrop (t : VTE) : VTS := fun D e => t e fun _ e1 => D.nx e1
theorem vs_expr {ex : Expr} {t : VTE} (he : VE X ex t) (hs : swapsWith ex none pos.line X.env = pure false := by rfl) : VS X (.Expr ex pos) (vDrop t) := PS.imp (ps_expr he hs) fun D σ H h => by
  obtain ⟨R, F, A, e, DV, rep, k, fin⟩ := h
  exact ⟨R, F, A, e, _, rep, k, fun s e1 v F1 A1 H1 k1 l1 p1 rep1 a1 => fin.nx _ _ _ _ _ k1 l1 p1 rep1⟩
def vRet (t : VTE) : VTS := fun D e => t e D.rt
theorem vs_ret {ex : Expr} {t : VTE} (he : VE X ex t) : VS X (.Return (some ex) pos) (vRet t) := PS.imp (ps_ret he) fun D σ H h => by
  obtain ⟨R, F, A, e, DV, rep, k, fin⟩ := h
  exact ⟨R, F, A, e, _, rep, k, fun s e1 v F1 A1 H1 k1 l1 p1 rep1 a1 => fin.rt _ _ _ _ _ _ _ k1 l1 p1 rep1 a1⟩
def vRetN : VTS := fun D e => D.rt (.val .none) e
theorem vs_retN : VS X (.Return none pos) vRetN := PS.imp ps_retN fun D σ H h => by
  obtain ⟨R, F, A, e, DV, rep, k, fin⟩ := h
  exact fin.rt (.val .none) e .non σ F A H k (Le.refl F) (pfx_refl A) rep .non
def vIfS (c : VTT) (t u : VTS) : VTS := fun D e => c e fun b e1 => if b = true then t D e1 else u D e1
theorem vs_if {c : Expr} {a b : List Stmt} {tc : VTT} {t u : VTS} (hc : VT X c tc) (ha : VSs X a t) (hb : VSs X b u) : VS X (.If c a b pos) (vIfS tc t u) := PS.imp (ps_if hc ha hb) fun D σ H h => by
  obtain ⟨R, F, A, e, DV, rep, k, fin⟩ := h
  refine ⟨R, F, A, e, _, rep, k, fun b e1 F1 A1 H1 k1 l1 p1 rep1 => ?_⟩
  cases b with
  | true => exact ⟨R, F1, A1, e1, DV, rep1, k1, fin.tr l1 p1⟩
  | false => exact ⟨R, F1, A1, e1, DV, rep1, k1, fin.tr l1 p1⟩
def vSet (i : Nat) (t : VTE) : VTS := fun D e => t e fun s e1 => D.nx ⟨e1.sl.set i (some s), e1.st⟩
theorem lift_set {i : Nat} {t : VTE} {te : TE} (D : Ends) (σ : L2.St) (H : Hp) (hte : ∀ Q, liftE X.K t σ H Q → te σ H Q) (h : liftS X (vSet i t) D σ H) : tAsg te (gName i) D σ H := by
  obtain ⟨R, F, A, e, DV, rep, k, fin⟩ := h
  exact hte _ ⟨R, F, A, e, _, rep, k, fun s e1 v F1 A1 H1 k1 l1 p1 rep1 a1 => fin.nx _ _ _ _ _ k1 l1 p1 (rep1.put a1)⟩
theorem vs_set {i : Nat} {x : Str} {ex : Expr} {t : VTE} {pos' : Pos} (hN : X.N.Nodup) (hi : X.N[i]? = some x) (hx : Loc X.env.scope x) (he : VE X ex t) (hs : swapsWith ex (some (.Name x pos')) pos.line X.env = pure false := by rfl) (hf : X.fn x = true ∨ X.env.scope.names.lookup x = some .local := by first | exact .inl rfl | exact .inr rfl | assumption) :
    VS X (.Assign [.Name x pos'] ex pos) (vSet i t) := PS.imp (ps_set hN hi hx he hs hf) fun D σ H h => lift_set D σ H (fun _ q => q) h
def vAsg (t : VTE) (g : VTG) : VTS := fun D e => t e fun s e1 => g s e1 D.nx
theorem vs_asg {tg ex : Expr} {t : VTE} {g : VTG} {ws : List Nat} (he : VE X ex t) (hg : VG X tg ws g) (hs : swapsWithSole [tg] ex pos.line X.env = pure false := by rfl) (hw : swappedStores [tg] ex X.env = pure none := by rfl) (h1 : (assignEach [tg] X.env).map (·.2) = [assign tg X.env] := by rfl) : VS X (.Assign [tg] ex pos) (vAsg t g) := PS.imp (ps_asg he hg hs hw h1) fun D σ H h => by
  obtain ⟨R, F, A, e, DV, rep, k, fin⟩ := h
  exact ⟨R, F, A, e, _, rep, k, fun s e1 v F1 A1 H1 k1 l1 p1 rep1 a1 => ⟨R, F1, A1, e1, s, DV.nx, rep1, a1, k1, fun e2 σ2 F2 A2 H2 k2 l2 p2 o2 rep2 => fin.nx _ _ _ _ _ k2 (l1.trans l2) (p1.trans p2) rep2⟩⟩
end
/-! at a turn's end what was given away behind the first n lists is dropped -/
def dropNone {α : Type} : List (Option α) → List (Option α)
  | [] => []
  | x :: xs => match x, dropNone xs with
    | none, [] => []
    | x, r => x :: r
theorem dropNone_pre {α : Type} : ∀ l : List (Option α), dropNone l <+: l
  | [] => List.prefix_refl _
  | x :: xs => by
    have ih := dropNone_pre xs
    unfold dropNone
    split
    · exact List.nil_prefix
    · exact (List.prefix_cons_inj _).mpr ih
def clr (m : Nat) : Option Sl → Option Sl
  | some (.obj j) => if j < m then some (.obj j) else none
  | s => s
theorem clr_n (m : Nat) : clr m none = none := rfl
theorem clr_v (m : Nat) (d : D) : clr m (some (.val d)) = some (.val d) := rfl
theorem clr_k (m : Nat) (d : List D) : clr m (some (.kn d)) = some (.kn d) := rfl
theorem clr_o (m j : Nat) : clr m (some (.obj j)) = if j < m then some (.obj j) else none := rfl
def isMo : Option Ob → Bool
  | some (.mo _) => true
  | _ => false
def trimS (n : Nat) (st : List (Option Ob)) : List (Option Ob) := st.take n ++ dropNone (st.drop n)
def En.trim (n : Nat) (e : En) : En := if e.st.any isMo = true then e else ⟨e.sl.map (clr (trimS n e.st).length), trimS n e.st⟩
theorem trimS_pre (n : Nat) (st : List (Option Ob)) : trimS n st <+: st := by
  obtain ⟨t, ht⟩ := dropNone_pre (st.drop n)
  refine ⟨t, ?_⟩
  show st.take n ++ dropNone (st.drop n) ++ t = st
  rw [List.append_assoc, ht, List.take_append_drop]
theorem ObAt.noMo {K : PySem.W.Frag} {F : Hp} {A B : List Addr} {h : Option HO} : ∀ {ob : Ob}, isMo (Option.some ob) = false → ObAt K F A h ob → ObAt K F B h ob
  | .l _, _, x => x
  | .m _, _, x => x
  | .mo _, n, _ => by cases n
theorem Rep.trim {K : PySem.W.Frag} {R F : Hp} {A A1 : List Addr} {σ : L2.St} {H : Hp} {e : En} (r : Rep K R F A σ H e) {n : Nat} (p : A1 <+: A) (hn : A1.length = n) : ∃ A', A1 <+: A' ∧ Rep K R F A' σ H (e.trim n) := by
  by_cases hmo : e.st.any isMo = true
  · refine ⟨A, p, ?_⟩
    unfold En.trim
    rw [if_pos hmo]
    exact r
  have et : e.trim n = ⟨e.sl.map (clr (trimS n e.st).length), trimS n e.st⟩ := by
    unfold En.trim
    rw [if_neg hmo]
  rw [et]
  have pre := trimS_pre n e.st
  have hm : (trimS n e.st).length ≤ e.st.length := pre.length_le
  have pa : A.take (trimS n e.st).length <+: A := List.take_prefix _ _
  refine ⟨A.take (trimS n e.st).length, ?_, r.sub, r.keep, fun a o z => ⟨(r.apart a o z).1, fun hm => (r.apart a o z).2 (List.mem_of_mem_take hm)⟩, by simp [r.len], ?_, ?_, fun a ha => r.live a (List.mem_of_mem_take ha), fun i s z => ?_, fun j ob z => ?_⟩
  · have h1 : A1.length ≤ A.length := p.length_le
    have h2 : n ≤ (trimS n e.st).length := by
      show n ≤ (e.st.take n ++ dropNone (e.st.drop n)).length
      rw [List.length_append, List.length_take, r.lenA]
      omega
    exact List.prefix_of_prefix_length_le p pa (by rw [List.length_take, ← r.lenA]; have := r.lenA; omega)
  · show (trimS n e.st).length = _
    rw [List.length_take, ← r.lenA]
    omega
  · exact (List.take_sublist _ _).nodup r.nodup
  · have z' : (e.sl.map (clr (trimS n e.st).length))[i]? = some (some s) := z
    rw [List.getElem?_map] at z'
    obtain ⟨t, ht, hs⟩ := Option.map_eq_some_iff.mp z'
    cases t with
    | none => cases hs
    | some t =>
      obtain ⟨v, h1, h2⟩ := r.slot i t ht
      cases t with
      | val d =>
        cases hs
        exact ⟨v, h1, h2⟩
      | kn d =>
        cases hs
        exact ⟨v, h1, h2⟩
      | exc d =>
        cases hs
        exact ⟨v, h1, h2⟩
      | obj j =>
        replace hs : (if j < (trimS n e.st).length then some (Sl.obj j) else none) = some s := hs
        split at hs
        · rename_i hj
          cases hs
          obtain ⟨a, e1, e2⟩ := h2
          exact ⟨v, h1, a, by rw [List.getElem?_take_of_lt hj]; exact e1, e2⟩
        · cases hs
  · have z' : (trimS n e.st)[j]? = some (some ob) := z
    have hj := (List.getElem?_eq_some_iff.mp z').1
    have z2 : e.st[j]? = some (some ob) := by
      obtain ⟨t, ht⟩ := pre
      rw [← ht, List.getElem?_append_left hj]
      exact z'
    obtain ⟨a, h1, h2, h3⟩ := r.store j ob z2
    refine ⟨a, by rw [List.getElem?_take_of_lt hj]; exact h1, h2, h3.noMo ?_⟩
    cases q : isMo (some ob) with
    | false => rfl
    | true => exact absurd (List.any_eq_true.mpr ⟨_, List.mem_of_getElem? z2, q⟩) hmo
/-! while -/
def wl (c : VTT) (tb : VTS) (n : Nat) : Nat → VEnds → En → Prop
  | 0, _, _ => False
  | m + 1, D, e => c e fun b e1 => if b = true then tb { D with nx := fun e' => wl c tb n m D (e'.trim n), ct := fun e' => wl c tb n m D (e'.trim n), bk := D.nx } e1 else D.nx e1
def vWhile (c : VTT) (tb : VTS) : VTS := fun D e => ∃ m, wl c tb e.st.length m D e
theorem vs_while {X : Cx} {pos : Pos} {c : Expr} {body : List Stmt} {tc : VTT} {tb : VTS} (hp : PassesOwn (model X.prog X.w) X.A X.env X.xe) (hc : VT X c tc) (hb : VSs X body tb) : VS X (.While c body [] pos) (vWhile tc tb) := PS.imp (ps_while hp hc hb) fun D σ H h => by
  obtain ⟨R, F, A, e, DV, rep, ⟨m, k⟩, fin⟩ := h
  refine ⟨fun m σ' H' => ∃ F' A' e', Le F F' ∧ A <+: A' ∧ Rep X.K R F' A' σ' H' e' ∧ wl tc tb e.st.length m DV e', ⟨m, F, A, e, Le.refl F, pfx_refl A, rep, k⟩, ?_⟩
  rintro m σ' H' ⟨F', A', e', l, p, rep', k⟩
  cases m with
  | zero => exact False.elim k
  | succ m =>
    refine ⟨R, F', A', e', _, rep', k, fun b e1 F1 A1 H1 k1 l1 p1 rep1 => ?_⟩
    cases b with
    | false => exact fin.nx _ _ _ _ _ k1 (l.trans l1) (p.trans p1) rep1
    | true =>
      have nxt : ∀ e2 σ2 F2 A2 H2, wl tc tb e.st.length m DV (e2.trim e.st.length) → Le F1 F2 → A1 <+: A2 → Rep X.K R F2 A2 σ2 H2 e2 → ∃ F' A' e', Le F F' ∧ A <+: A' ∧ Rep X.K R F' A' σ2 H2 e' ∧ wl tc tb e.st.length m DV e' := fun e2 σ2 F2 A2 H2 k2 l2 p2 rep2 => by
        obtain ⟨A3, p3, rep3⟩ := rep2.trim (A1 := A) (n := e.st.length) ((p.trans p1).trans p2) rep.lenA.symm
        exact ⟨F2, A3, _, (l.trans l1).trans l2, p3, rep3, k2⟩
      refine ⟨fun σ2 H2 => ∃ F' A' e', Le F F' ∧ A <+: A' ∧ Rep X.K R F' A' σ2 H2 e' ∧ wl tc tb e.st.length m DV e', fun σ2 H2 q => ⟨m, Nat.lt_succ_self m, q⟩, ?_⟩
      exact ⟨R, F1, A1, e1, _, rep1, k1, nxt, fun e2 σ2 F2 A2 H2 k2 l2 p2 rep2 => fin.nx _ _ _ _ _ k2 ((l.trans l1).trans l2) ((p.trans p1).trans p2) rep2, nxt, fun s e2 v σ2 F2 A2 H2 k2 l2 p2 rep2 a2 => fin.rt _ _ _ _ _ _ _ k2 ((l.trans l1).trans l2) ((p.trans p1).trans p2) rep2 a2, fin.ex.tr (l.trans l1) (p.trans p1)⟩
/-! what is walked -/
def okc (c : Option (En → Prop)) (e : En) : Prop := match c with
  | none => True
  | some c => c e
def wth (c : Option (En → Prop)) (e : En) (p : Prop) : Prop := match c with
  | none => p
  | some c => c e ∧ p
theorem wth_ok {c : Option (En → Prop)} {e : En} {p : Prop} (h : wth c e p) : okc c e ∧ p := by
  cases c with
  | none => exact ⟨trivial, h⟩
  | some c => exact h
structure ItOk (K : PySem.W.Frag) (F : Hp) (A : List Addr) (chk : Option (En → Prop)) (ds : List D) (J : It) : Prop where
  go : ∀ {R F' : Hp} {A' : List Addr} {σ' : L2.St} {H' : Hp} {e' : En} (i : Nat) (d : D), ds[i]? = some d → Le F F' → A <+: A' → Rep K R F' A' σ' H' e' → okc chk e' → J.go i H' ∧ ∀ x H3, J.yld i H' x H3 → ∃ F3, Le F' F3 ∧ Rep K R F3 A' σ' H3 e' ∧ At K F3 d x
  stop : ∀ {R F' : Hp} {A' : List Addr} {σ' : L2.St} {H' : Hp} {e' : En}, Le F F' → A <+: A' → Rep K R F' A' σ' H' e' → okc chk e' → J.stop ds.length H'
abbrev VTI := En → (List D → Option (En → Prop) → En → Prop) → Prop
def liftI (K : PySem.W.Frag) (w : VTI) : TI := fun σ H Q => ∃ R F A e Kp, Rep K R F A σ H e ∧ w e Kp ∧ ∀ ds chk e' F' A' H' J, Kp ds chk e' → Le F F' → A <+: A' → Rep K R F' A' σ H' e' → ItOk K F' A' chk ds J → Q J H'
def VI (X : Cx) (tg it : Expr) (w : VTI) : Prop := PI X tg it (liftI X.K w)
def fl (g : VTG) (tb : VTS) (chk : Option (En → Prop)) (n : Nat) : List D → VEnds → En → Prop
  | [], D, e => wth chk e (D.nx e)
  | d :: ds, D, e => wth chk e (g (.val d) e fun e1 => tb { D with nx := fun e' => fl g tb chk n ds D (e'.trim n), ct := fun e' => fl g tb chk n ds D (e'.trim n), bk := D.nx } e1)
def vFor (w : VTI) (g : VTG) (tb : VTS) : VTS := fun D e => w e fun ds chk e1 => fl g tb chk e1.st.length ds D e1
theorem vs_for {X : Cx} {pos : Pos} {tg it : Expr} {body : List Stmt} {w : VTI} {g : VTG} {ws : List Nat} {tb : VTS} (hi : VI X tg it w) (hg : VG X tg ws g) (hb : VSs X body tb) (hp : ∀ {wi : TI} {tgg : TG} {tbb : TS}, PI X tg it wi → PG X tg tgg → PSs X body tbb → PS X (.For tg it body [] pos) (tFor wi tgg tbb)) :
    VS X (.For tg it body [] pos) (vFor w g tb) := PS.imp (hp hi hg hb) fun D σ H h => by
  obtain ⟨R, F, A, e, DV, rep, k, fin⟩ := h
  refine ⟨R, F, A, e, _, rep, k, fun ds chk e1 F1 A1 H1 J k1 l1 p1 rep1 it => ?_⟩
  refine ⟨fun i m σ' H' => ∃ F' A' e', m = ds.length - i ∧ i ≤ ds.length ∧ Le F1 F' ∧ A1 <+: A' ∧ Rep X.K R F' A' σ' H' e' ∧ fl g tb chk e1.st.length (ds.drop i) DV e', ⟨_, F1, A1, e1, rfl, Nat.zero_le _, Le.refl _, pfx_refl _, rep1, k1⟩, ?_⟩
  rintro i m σ' H' ⟨F', A', e', rfl, hi, l, p, rep', k⟩
  rcases Nat.lt_or_ge i ds.length with hlt | hge
  · right
    obtain ⟨d, hd⟩ : ∃ d, ds[i]? = some d := ⟨ds[i], by simp [hlt]⟩
    have hdr : ds.drop i = d :: ds.drop (i + 1) := by
      rw [List.drop_eq_getElem_cons hlt]
      rw [List.getElem?_eq_getElem hlt] at hd
      cases hd
      rfl
    rw [hdr] at k
    obtain ⟨kc, k⟩ := wth_ok k
    obtain ⟨g1, g2⟩ := it.go i d hd l p rep' kc
    have nxt : ∀ e2 σ2 F2 A2 H2, fl g tb chk e1.st.length (ds.drop (i + 1)) DV (e2.trim e1.st.length) → Le F1 F2 → A1 <+: A2 → Rep X.K R F2 A2 σ2 H2 e2 → ∃ F' A' e', ds.length - (i + 1) = ds.length - (i + 1) ∧ i + 1 ≤ ds.length ∧ Le F1 F' ∧ A1 <+: A' ∧ Rep X.K R F' A' σ2 H2 e' ∧ fl g tb chk e1.st.length (ds.drop (i + 1)) DV e' := fun e2 σ2 F2 A2 H2 k2 l2 p2 rep2 => by
      obtain ⟨A3, p3, rep3⟩ := rep2.trim (A1 := A1) (n := e1.st.length) p2 rep1.lenA.symm
      exact ⟨F2, A3, _, rfl, hlt, l2, p3, rep3, k2⟩
    refine ⟨g1, fun σ2 H2 => ∃ F' A' e', ds.length - (i + 1) = ds.length - (i + 1) ∧ i + 1 ≤ ds.length ∧ Le F1 F' ∧ A1 <+: A' ∧ Rep X.K R F' A' σ2 H2 e' ∧ fl g tb chk e1.st.length (ds.drop (i + 1)) DV e', fun σ2 H2 q => ⟨ds.length - (i + 1), by omega, q⟩, fun x H3 y => ?_⟩
    obtain ⟨F3, l3, rep3, a3⟩ := g2 x H3 y
    refine ⟨R, F3, A', e', .val d, _, rep3, a3, k, fun e2 σ2 F2 A2 H2 k2 l2 p2 o2 rep2 => ⟨R, F2, A2, e2, _, rep2, k2, ?_⟩⟩
    have lf := (l.trans l3).trans l2
    have pf := p.trans p2
    exact ⟨fun e3 σ3 F4 A3 H4 k3 l4 p3 rep4 => nxt _ _ _ _ _ k3 (lf.trans l4) (pf.trans p3) rep4, fun e3 σ3 F4 A3 H4 k3 l4 p3 rep4 => fin.nx _ _ _ _ _ k3 (l1.trans (lf.trans l4)) (p1.trans (pf.trans p3)) rep4,
      fun e3 σ3 F4 A3 H4 k3 l4 p3 rep4 => nxt _ _ _ _ _ k3 (lf.trans l4) (pf.trans p3) rep4, fun s e3 v σ3 F4 A3 H4 k3 l4 p3 rep4 a4 => fin.rt _ _ _ _ _ _ _ k3 (l1.trans (lf.trans l4)) (p1.trans (pf.trans p3)) rep4 a4, fin.ex.tr (l1.trans lf) (p1.trans pf)⟩
  · left
    have e0 : i = ds.length := by omega
    subst e0
    rw [List.drop_length] at k
    obtain ⟨kc, k⟩ := wth_ok k
    exact ⟨it.stop l p rep' kc, fin.nx _ _ _ _ _ k (l1.trans l) (p1.trans p) rep'⟩
/-! lists, tuples, ranges -/
def chkOf (s : Sl) (ds : List D) : Option (En → Prop) := match s with
  | .obj j => some fun e => e.st[j]? = some (some (.l ds))
  | _ => none
def vSeqI (t : VTE) : VTI := fun e Kp => t e fun s e1 => match pk s e1 with
  | some (.list ds) => Kp ds (chkOf s ds) e1
  | _ => False
def vTupI (t : VTE) : VTI := fun e Kp => t e fun s e1 => match pk s e1 with
  | some (.tuple ds) => Kp ds none e1
  | _ => False
section
variable {X : Cx} {tg a b : Expr} {ta : VTE} {pos : Pos}
/-- a list that is walked stands as it did -/
theorem seq_at {K : PySem.W.Frag} {R R' F F' : Hp} {A A' : List Addr} {σ σ' : L2.St} {H H' : Hp} {e e' : En} {s : Sl} {v : V} {ds : List D} (rep : Rep K R F A σ H e) (a : SlAt K F A v s) (h : pk s e = some (.list ds)) (l : Le F F') (p : A <+: A') (rep' : Rep K R' F' A' σ' H' e') (c : okc (chkOf s ds) e') :
    ∃ q xs, v = .ref q ∧ SqL K H' q xs ∧ AtL K F' ds xs := by
  cases s with
  | val d =>
    cases h
    exact rep'.pk (s := .val (.list ds)) (d := .list ds) (a.le l p) rfl
  | kn d =>
    cases h
    exact rep'.pk (s := .kn ds) (d := .list ds) (SlAt.le (x := .kn ds) l p a) rfl
  | exc d => cases h
  | obj j =>
    have c' : e'.st[j]? = some (some (.l ds)) := c
    refine rep'.pk (s := .obj j) (d := .list ds) (SlAt.le (x := .obj j) l p a) ?_
    show (match e'.st[j]? with | some (some (.l ds)) => some (PyData.list ds) | _ => none) = _
    rw [c']
theorem vi_list (ha : VE X a ta) : VI X tg a (vSeqI ta) := PI.imp (pi_list ha) fun σ H Q h => by
  obtain ⟨R, F, A, e, Kp, rep, k, fin⟩ := h
  refine ⟨R, F, A, e, _, rep, k, fun s e1 v F1 A1 H1 k1 l1 p1 rep1 a1 => ?_⟩
  split at k1
  · rename_i ds hd
    obtain ⟨q, xs, rfl, q1, q2⟩ := rep1.pk a1 hd
    refine ⟨q, rfl, ⟨xs, q1⟩, fin _ _ _ _ _ _ _ k1 l1 p1 rep1 ⟨fun {R' F' A' σ' H' e'} i d hi l p rep' c => ?_, fun {R' F' A' σ' H' e'} l p rep' c => ?_⟩⟩
    · obtain ⟨q', ys, ev, r1, r2⟩ := seq_at rep1 a1 hd l p rep' c
      cases ev
      obtain ⟨u, hu, au⟩ := r2.get hi
      refine ⟨⟨ys, u, r1, hu⟩, fun x H3 y => ?_⟩
      obtain ⟨rfl, y⟩ := y
      have := y ys r1
      rw [hu] at this
      cases this
      exact ⟨F', Le.refl _, rep', au⟩
    · obtain ⟨q', ys, ev, r1, r2⟩ := seq_at rep1 a1 hd l p rep' c
      cases ev
      exact ⟨ys, r1, by rw [r2.len]; exact Nat.le_refl _⟩
  · exact k1.elim
theorem vi_tup (ha : VE X a ta) : VI X tg a (vTupI ta) := PI.imp (pi_tup ha) fun σ H Q h => by
  obtain ⟨R, F, A, e, Kp, rep, k, fin⟩ := h
  refine ⟨R, F, A, e, _, rep, k, fun s e1 v F1 A1 H1 k1 l1 p1 rep1 a1 => ?_⟩
  split at k1
  · rename_i ds hd
    obtain ⟨q, xs, rfl, q1, q2⟩ := (rep1.pk a1 hd).tup
    refine ⟨q, rfl, ⟨xs, sqT_le rep1.sub q1⟩, fin _ _ _ _ _ _ _ k1 l1 p1 rep1 ⟨fun {R' F' A' σ' H' e'} i d hi l p rep' c => ?_, fun {R' F' A' σ' H' e'} l p rep' c => ?_⟩⟩
    · obtain ⟨u, hu, au⟩ := q2.get hi
      have sq := sqT_le rep'.sub (sqT_le l q1)
      refine ⟨⟨xs, u, sq, hu⟩, fun x H3 y => ?_⟩
      obtain ⟨rfl, y⟩ := y
      have := y xs sq
      rw [hu] at this
      cases this
      exact ⟨F', Le.refl _, rep', At.le l _ _ au⟩
    · exact ⟨xs, sqT_le rep'.sub (sqT_le l q1), by rw [q2.len]; exact Nat.le_refl _⟩
  · exact k1.elim
def rng (lo : Int) (n : Nat) : List D := (List.range n).map fun i => PyData.int (lo + (i : Nat))
theorem rng_len (lo : Int) (n : Nat) : (rng lo n).length = n := by simp [rng]
theorem rng_get {lo : Int} {n i : Nat} {d : D} (h : (rng lo n)[i]? = some d) : i < n ∧ d = .int (lo + (i : Nat)) := by
  have hi := (List.getElem?_eq_some_iff.mp h).1
  rw [rng_len] at hi
  refine ⟨hi, ?_⟩
  unfold rng at h
  rw [List.getElem?_map, List.getElem?_range hi] at h
  simp at h
  exact h.symm
theorem it_rng {K : PySem.W.Frag} {F : Hp} {A : List Addr} {lo : Int} {n : Nat} : ItOk K F A none (rng lo n) (Itr lo n) :=
  ⟨fun {R' F' A' σ' H' e'} i d hi l p rep' c => by
    obtain ⟨h1, rfl⟩ := rng_get hi
    refine ⟨h1, fun x H3 y => ?_⟩
    obtain ⟨rfl, rfl⟩ := y
    exact ⟨F', Le.refl _, rep', .int _⟩,
   fun {R' F' A' σ' H' e'} l p rep' c => by
    show n ≤ (rng lo n).length
    rw [rng_len]
    exact Nat.le_refl _⟩
def vRng1 (t : VTA) : VTI := fun e Kp => t e fun ss e1 => match ss with
  | [s] => (match pk s e1 with
    | some (.int j) => -(2 ^ 62) ≤ j ∧ j < 2 ^ 62 ∧ Kp (rng 0 j.toNat) none e1
    | _ => False)
  | _ => False
def vRng2 (t : VTA) : VTI := fun e Kp => t e fun ss e1 => match ss with
  | [s, u] => (match pk s e1, pk u e1 with
    | some (.int i), some (.int j) => (-(2 ^ 62) ≤ i ∧ i < 2 ^ 62 ∧ -(2 ^ 62) ≤ j ∧ j < 2 ^ 62) ∧ Kp (rng i (j - i).toNat) none e1
    | _, _ => False)
  | _ => False
theorem vi_range1 {t : VTA} {p pos : Pos} (hg : Gl X "range") (hm : X.mg "range" = none) (ha : VA X [a] t) (hs : starEach [a] X.env = [(false, eval a X.env)] := by rfl) : VI X tg (.Call (.Name "range" p) [a] [] pos) (vRng1 t) := PI.imp (pi_range1 hg hm ha hs) fun σ H Q h => by
  obtain ⟨R, F, A, e, Kp, rep, k, fin⟩ := h
  refine ⟨R, F, A, e, _, rep, k, fun ss e1 vs F1 A1 H1 k1 l1 p1 rep1 a1 => ?_⟩
  split at k1
  · obtain ⟨x, rfl, a2⟩ := a1.one
    split at k1
    · rename_i j hj
      exact ⟨j, by rw [(rep1.pk a2 hj).int], k1.1, k1.2.1, fin _ _ _ _ _ _ _ k1.2.2 l1 p1 rep1 it_rng⟩
    · exact k1.elim
  · exact k1.elim
theorem vi_range2 {t : VTA} {p pos : Pos} (hg : Gl X "range") (hm : X.mg "range" = none) (ha : VA X [a, b] t) (hs : starEach [a, b] X.env = [(false, eval a X.env), (false, eval b X.env)] := by rfl) (hs2 : starEach [b] X.env = [(false, eval b X.env)] := by rfl) : VI X tg (.Call (.Name "range" p) [a, b] [] pos) (vRng2 t) := PI.imp (pi_range2 hg hm ha hs hs2) fun σ H Q h => by
  obtain ⟨R, F, A, e, Kp, rep, k, fin⟩ := h
  refine ⟨R, F, A, e, _, rep, k, fun ss e1 vs F1 A1 H1 k1 l1 p1 rep1 a1 => ?_⟩
  split at k1
  · obtain ⟨x, y, rfl, a2, a3⟩ := a1.two
    split at k1
    · rename_i i j hi hj
      exact ⟨i, j, by rw [(rep1.pk a2 hi).int, (rep1.pk a3 hj).int], k1.1, fin _ _ _ _ _ _ _ k1.2 l1 p1 rep1 it_rng⟩
    · exact k1.elim
  · exact k1.elim
/-- pairs: a place and a thing; two things -/
def enumD : Nat → List D → List D
  | _, [] => []
  | k, d :: ds => .tuple [.int (k : Nat), d] :: enumD (k + 1) ds
def zipD : List D → List D → List D
  | d :: ds, c :: cs => .tuple [d, c] :: zipD ds cs
  | _, _ => []
theorem enumD_len : ∀ (ds : List D) (k : Nat), (enumD k ds).length = ds.length
  | [], _ => rfl
  | d :: ds, k => by
    show (enumD (k + 1) ds).length + 1 = ds.length + 1
    rw [enumD_len ds]
theorem enumD_get : ∀ {ds : List D} {k i : Nat} {c : D}, (enumD k ds)[i]? = some c → ∃ d, ds[i]? = some d ∧ c = .tuple [.int ((k + i : Nat) : Int), d]
  | [], _, _, _, h => by simp [enumD] at h
  | d :: ds, k, 0, c, h => by
    simp [enumD] at h
    exact ⟨d, rfl, h.symm⟩
  | d :: ds, k, i + 1, c, h => by
    obtain ⟨d', h1, h2⟩ := enumD_get (ds := ds) (k := k + 1) (i := i) (c := c) (by simpa [enumD] using h)
    exact ⟨d', by simpa using h1, by rw [h2, show k + 1 + i = k + (i + 1) from by omega]⟩
theorem zipD_len : ∀ (ds cs : List D), (zipD ds cs).length = min ds.length cs.length
  | [], _ => by simp [zipD]
  | d :: ds, [] => by simp [zipD]
  | d :: ds, c :: cs => by
    show (zipD ds cs).length + 1 = _
    rw [zipD_len ds cs]
    simp only [List.length_cons]
    omega
theorem zipD_get : ∀ {ds cs : List D} {i : Nat} {c : D}, (zipD ds cs)[i]? = some c → ∃ x y, ds[i]? = some x ∧ cs[i]? = some y ∧ c = .tuple [x, y]
  | [], _, _, _, h => by simp [zipD] at h
  | d :: ds, [], _, _, h => by simp [zipD] at h
  | d :: ds, c' :: cs, 0, c, h => by
    simp [zipD] at h
    exact ⟨d, c', rfl, rfl, h.symm⟩
  | d :: ds, c' :: cs, i + 1, c, h => by
    obtain ⟨x, y, h1, h2, h3⟩ := zipD_get (ds := ds) (cs := cs) (i := i) (c := c) (by simpa [zipD] using h)
    exact ⟨x, y, by simpa using h1, by simpa using h2, h3⟩
def vEnum (t : VTA) : VTI := fun e Kp => t e fun ss e1 => match ss with
  | [s] => (match pk s e1 with
    | some (.list ds) => Kp (enumD 0 ds) (chkOf s ds) e1
    | _ => False)
  | _ => False
def both (c d : Option (En → Prop)) : Option (En → Prop) := match c, d with
  | none, x => x
  | x, none => x
  | some c, some d => some fun e => c e ∧ d e
theorem both_ok {c d : Option (En → Prop)} {e : En} (h : okc (both c d) e) : okc c e ∧ okc d e := by
  cases c <;> cases d
  · exact ⟨trivial, trivial⟩
  · exact ⟨trivial, h⟩
  · exact ⟨h, trivial⟩
  · exact h
def vZip (t : VTA) : VTI := fun e Kp => t e fun ss e1 => match ss with
  | [s, u] => (match pk s e1, pk u e1 with
    | some (.list ds), some (.list cs) => Kp (zipD ds cs) (both (chkOf s ds) (chkOf u cs)) e1
    | _, _ => False)
  | _ => False
theorem vi_enum {t : VTA} {p pos tpos : Pos} {elts : List Expr} {kk : Nat} (hg : Gl X "enumerate") (hm : X.mg "enumerate" = none) (ha : VA X [a] t) (hs : starEach [a] X.env = [(false, eval a X.env)] := by rfl) : VI X (.Tuple elts kk tpos) (.Call (.Name "enumerate" p) [a] [] pos) (vEnum t) := PI.imp (pi_enum hg hm ha hs) fun σ H Q h => by
  obtain ⟨R, F, A, e, Kp, rep, k, fin⟩ := h
  refine ⟨R, F, A, e, _, rep, k, fun ss e1 vs F1 A1 H1 k1 l1 p1 rep1 a1 => ?_⟩
  split at k1
  · obtain ⟨x, rfl, a2⟩ := a1.one
    split at k1
    · rename_i ds hd
      obtain ⟨q, xs, rfl, q1, q2⟩ := rep1.pk a2 hd
      refine ⟨q, xs, rfl, q1, fin _ _ _ _ _ _ _ k1 l1 p1 rep1 ⟨fun {R' F' A' σ' H' e'} i d hi l p rep' c => ?_, fun {R' F' A' σ' H' e'} l p rep' c => ?_⟩⟩
      · obtain ⟨q', ys, ev, r1, r2⟩ := seq_at rep1 a2 hd l p rep' c
        cases ev
        obtain ⟨d', hd', rfl⟩ := enumD_get hi
        obtain ⟨u, hu, au⟩ := r2.get hd'
        refine ⟨⟨ys, u, r1, hu⟩, fun x H3 y => ?_⟩
        obtain ⟨T, z, rfl, hT, rfl, y⟩ := y
        have := y ys r1
        rw [hu] at this
        cases this
        obtain ⟨rep3, l3⟩ := rep'.fresh hT (.tup [.int (i : Nat), u])
        rw [Nat.zero_add]
        exact ⟨_, l3, rep3, .tup (SqT.of upd_same) (.cons (.int _) (.cons (At.le l3 _ _ au) .nil))⟩
      · obtain ⟨q', ys, ev, r1, r2⟩ := seq_at rep1 a2 hd l p rep' c
        cases ev
        exact ⟨ys, r1, by rw [r2.len, enumD_len]; exact Nat.le_refl _⟩
    · exact k1.elim
  · exact k1.elim
theorem vi_zip {t : VTA} {p pos tpos : Pos} {elts : List Expr} {kk : Nat} (hg : Gl X "zip") (hm : X.mg "zip" = none) (ha : VA X [a, b] t) (hs : starEach [a, b] X.env = (false, eval a X.env) :: starEach [b] X.env := by rfl) (hpl : (backTo pos (starEach [b] X.env)).any (·.1) = false := by rfl) :
    VI X (.Tuple elts kk tpos) (.Call (.Name "zip" p) [a, b] [] pos) (vZip t) := PI.imp (pi_zip hg hm ha hs hpl) fun σ H Q h => by
  obtain ⟨R, F, A, e, Kp, rep, k, fin⟩ := h
  refine ⟨R, F, A, e, _, rep, k, fun ss e1 vs F1 A1 H1 k1 l1 p1 rep1 a1 => ?_⟩
  split at k1
  · obtain ⟨x, y, rfl, a2, a3⟩ := a1.two
    split at k1
    · rename_i ds cs hd hc
      obtain ⟨q, xs, rfl, q1, q2⟩ := rep1.pk a2 hd
      obtain ⟨q', xs', rfl, q1', q2'⟩ := rep1.pk a3 hc
      refine ⟨q, q', xs, xs', rfl, q1, q1', fin _ _ _ _ _ _ _ k1 l1 p1 rep1 ⟨fun {R' F' A' σ' H' e'} i d hi l p rep' c => ?_, fun {R' F' A' σ' H' e'} l p rep' c => ?_⟩⟩
      · obtain ⟨c1, c2⟩ := both_ok c
        obtain ⟨_, ys, ev, r1, r2⟩ := seq_at rep1 a2 hd l p rep' c1
        cases ev
        obtain ⟨_, ys', ev, r1', r2'⟩ := seq_at rep1 a3 hc l p rep' c2
        cases ev
        obtain ⟨d1, d2, h1, h2, rfl⟩ := zipD_get hi
        obtain ⟨u, hu, au⟩ := r2.get h1
        obtain ⟨u', hu', au'⟩ := r2'.get h2
        refine ⟨⟨ys, ys', u, u', r1, r1', hu, hu'⟩, fun x H3 y => ?_⟩
        obtain ⟨T, z, z', rfl, hT, rfl, y, y'⟩ := y
        have e1 := y ys r1
        rw [hu] at e1
        cases e1
        have e1 := y' ys' r1'
        rw [hu'] at e1
        cases e1
        obtain ⟨rep3, l3⟩ := rep'.fresh hT (.tup [u, u'])
        exact ⟨_, l3, rep3, .tup (SqT.of upd_same) (.cons (At.le l3 _ _ au) (.cons (At.le l3 _ _ au') .nil))⟩
      · obtain ⟨c1, c2⟩ := both_ok c
        obtain ⟨_, ys, ev, r1, r2⟩ := seq_at rep1 a2 hd l p rep' c1
        cases ev
        obtain ⟨_, ys', ev, r1', r2'⟩ := seq_at rep1 a3 hc l p rep' c2
        cases ev
        have e1 := r2.len
        have e2 := r2'.len
        refine ⟨ys, ys', r1, r1', ?_⟩
        rw [zipD_len]
        omega
    · exact k1.elim
  · exact k1.elim
end
end Vl
namespace Vl
open PySem L2
/-! list comprehensions -/
theorem wipe_not {σ : L2.St} {i : Nat} : ∀ {vs : List Nat}, i ∉ vs → (wipe σ vs)[i]? = σ[i]?
  | [], _ => rfl
  | v :: vs, h => by
    have h1 : v ≠ i := fun z => h (by simp [z])
    show ((wipe σ vs).set v none)[i]? = _
    rw [List.getElem?_set_ne h1]
    exact wipe_not fun z => h (List.mem_cons_of_mem _ z)
theorem wipe_is {σ : L2.St} {i : Nat} : ∀ {vs : List Nat}, i ∈ vs → i < σ.length → (wipe σ vs)[i]? = some none
  | [], h, _ => by cases h
  | v :: vs, h, hl => by
    show ((wipe σ vs).set v none)[i]? = _
    by_cases q : v = i
    · subst q
      rw [List.getElem?_set_self (by rw [wipe_length]; exact hl)]
    · rw [List.getElem?_set_ne q]
      refine wipe_is ?_ hl
      rcases List.mem_cons.mp h with z | z
      · exact absurd z.symm q
      · exact z
theorem wipe_off {ws vs : List Nat} {σ σ2 : L2.St} (o : Off ws (wipe σ vs) σ2) (hw : ∀ i ∈ ws, i ∈ vs) : wipe σ2 vs = wipe σ vs := by
  have hl : σ2.length = σ.length := by rw [o.1, wipe_length]
  refine List.ext_getElem? fun i => ?_
  by_cases q : i ∈ vs
  · rcases Nat.lt_or_ge i σ.length with h | h
    · rw [wipe_is q h, wipe_is q (by omega)]
    · rw [List.getElem?_eq_none (by rw [wipe_length]; omega), List.getElem?_eq_none (by rw [wipe_length]; omega)]
  · rw [wipe_not q]
    exact o.2 i fun z => q (hw i z)
def wipeE (sl : List (Option Sl)) : List Nat → List (Option Sl)
  | [] => sl
  | v :: vs => (wipeE sl vs).set v none
def En.wipe (e : En) (vs : List Nat) : En := ⟨wipeE e.sl vs, e.st⟩
theorem wipeE_len (sl : List (Option Sl)) : ∀ vs, (wipeE sl vs).length = sl.length
  | [] => rfl
  | v :: vs => by
    show ((wipeE sl vs).set v none).length = _
    rw [List.length_set, wipeE_len sl vs]
theorem wipeE_at {sl : List (Option Sl)} {i : Nat} {s : Sl} : ∀ {vs : List Nat}, (wipeE sl vs)[i]? = some (some s) → i ∉ vs ∧ sl[i]? = some (some s)
  | [], h => ⟨by simp, h⟩
  | v :: vs, h => by
    have h' : ((wipeE sl vs).set v none)[i]? = some (some s) := h
    by_cases q : v = i
    · subst q
      have hl : v < (wipeE sl vs).length := by
        have := (List.getElem?_eq_some_iff.mp h').1
        simpa using this
      rw [List.getElem?_set_self hl] at h'
      cases h'
    · rw [List.getElem?_set_ne q] at h'
      obtain ⟨h1, h2⟩ := wipeE_at h'
      exact ⟨fun z => by
        rcases List.mem_cons.mp z with z | z
        · exact q z.symm
        · exact h1 z, h2⟩
/-- no name of vs has a value -/
def Bare (vs : List Nat) (e : En) : Prop := ∀ (i : Nat) (s : Sl), e.sl[i]? = some (some s) → i ∉ vs
theorem bare_wipe (vs : List Nat) (e : En) : Bare vs (e.wipe vs) := fun i s h => (wipeE_at h).1
theorem bare_trim {vs : List Nat} {e : En} (b : Bare vs e) (n : Nat) : Bare vs (e.trim n) := fun i s h => by
  by_cases hmo : e.st.any isMo = true
  · unfold En.trim at h
    rw [if_pos hmo] at h
    exact b i s h
  have h' : (e.sl.map (clr (trimS n e.st).length))[i]? = some (some s) := by
    unfold En.trim at h
    rw [if_neg hmo] at h
    exact h
  rw [List.getElem?_map] at h'
  obtain ⟨t, ht, hs⟩ := Option.map_eq_some_iff.mp h'
  cases t with
  | none => cases hs
  | some t => exact b i t ht
section
variable {K : PySem.W.Frag} {R F : Hp} {A : List Addr} {σ : L2.St} {H : Hp} {e : En}
theorem Rep.wiped (r : Rep K R F A σ H e) (vs : List Nat) : Rep K R F A (wipe σ vs) H (e.wipe vs) := by
  refine r.weak (by rw [wipeE_len, wipe_length]; exact r.len) fun i s h => ?_
  obtain ⟨h1, h2⟩ := wipeE_at h
  obtain ⟨v, h3, h4⟩ := r.slot i s h2
  exact ⟨v, by rw [wipe_not h1]; exact h3, h4⟩
theorem Rep.wiped2 {ws vs : List Nat} {σ2 : L2.St} (r : Rep K R F A σ2 H e) (o : Off ws (wipe σ vs) σ2) (hw : ∀ i ∈ ws, i ∈ vs) : Rep K R F A (wipe σ vs) H (e.wipe vs) := by
  refine r.weak (by rw [wipeE_len, r.len, o.1]) fun i s h => ?_
  obtain ⟨h1, h2⟩ := wipeE_at h
  obtain ⟨v, h3, h4⟩ := r.slot i s h2
  exact ⟨v, by rw [← o.2 i fun z => h1 (hw i z)]; exact h3, h4⟩
theorem Rep.unwipe {vs : List Nat} (r : Rep K R F A (wipe σ vs) H e) (b : Bare vs e) : Rep K R F A σ H e := by
  refine r.weak (by rw [r.len, wipe_length]) fun i s h => ?_
  obtain ⟨v, h3, h4⟩ := r.slot i s h
  exact ⟨v, by rw [← wipe_not (b i s h)]; exact h3, h4⟩
/-- a new list that is kept -/
theorem Rep.hold (r : Rep K R F A σ H e) {p : Addr} (hp : H p = none) (o : HO) : Rep K (upd R p o) F A σ (upd H p o) e := by
  have hF : F p = none := r.sub.free hp
  have hA : p ∉ A := fun hm => by
    obtain ⟨u, hu⟩ := r.live p hm
    rw [hu] at hp
    cases hp
  have l2 := Le.new (o := o) hp
  refine ⟨r.sub.trans l2, fun b u z => ?_, fun a u z => ?_, r.len, r.lenA, r.nodup, fun a ha => ?_, r.slot, fun j ds z => ?_⟩
  · by_cases q : b = p
    · subst q
      rw [upd_same] at z ⊢
      exact z
    · rw [upd_ne q] at z ⊢
      exact r.keep _ _ z
  · by_cases q : a = p
    · subst q
      exact ⟨hF, hA⟩
    · rw [upd_ne q] at z
      exact r.apart a u z
  · obtain ⟨u, hu⟩ := r.live a ha
    exact ⟨u, l2 _ _ hu⟩
  · obtain ⟨a, h1, h2, h3⟩ := r.store j ds z
    exact ⟨a, h1, h2, h3.le (Le.refl F) (pfx_refl A) fun u e => l2 _ _ e⟩
/-- what is kept is changed by its keeper -/
theorem Rep.rehold {p : Addr} {o o' : HO} (r : Rep K (upd R p o) F A σ H e) : Rep K (upd R p o') F A σ (upd H p o') e := by
  obtain ⟨hF, hA⟩ := r.apart p o upd_same
  refine ⟨fun b u z => ?_, fun b u z => ?_, fun a u z => ?_, r.len, r.lenA, r.nodup, fun a ha => ?_, r.slot, fun j ds z => ?_⟩
  · have q : b ≠ p := fun q => by
      rw [q, hF] at z
      cases z
    rw [upd_ne q]
    exact r.sub _ _ z
  · by_cases q : b = p
    · subst q
      rw [upd_same] at z ⊢
      exact z
    · rw [upd_ne q] at z ⊢
      exact r.keep b u (by rw [upd_ne q]; exact z)
  · by_cases q : a = p
    · subst q
      exact ⟨hF, hA⟩
    · rw [upd_ne q] at z
      exact r.apart a u (by rw [upd_ne q]; exact z)
  · have q : a ≠ p := fun q => hA (q ▸ ha)
    obtain ⟨u, hu⟩ := r.live a ha
    exact ⟨u, by rw [upd_ne q]; exact hu⟩
  · obtain ⟨a, h1, h2, h3⟩ := r.store j ds z
    have q : a ≠ p := fun q => hA (by rw [← q]; exact List.mem_of_getElem? h1)
    exact ⟨a, h1, h2, by rw [upd_ne q]; exact h3⟩
/-- what is kept stands still from now on -/
theorem Rep.give {p : Addr} {o : HO} (r : Rep K (upd R p o) F A σ H e) (hR : R p = none) : Rep K R (upd F p o) A σ H e ∧ Le F (upd F p o) := by
  obtain ⟨hF, hA⟩ := r.apart p o upd_same
  have l := Le.new (o := o) hF
  have kR : Le R (upd R p o) := Le.new hR
  refine ⟨⟨fun b u z => ?_, kR.trans r.keep, fun a u z => ?_, r.len, r.lenA, r.nodup, r.live, fun i s z => ?_, fun j ds z => ?_⟩, l⟩
  · by_cases q : b = p
    · subst q
      rw [upd_same] at z
      cases z
      exact r.keep _ _ upd_same
    · rw [upd_ne q] at z
      exact r.sub _ _ z
  · have q : a ≠ p := fun q => by
      rw [q, hR] at z
      cases z
    obtain ⟨h1, h2⟩ := r.apart a u (kR _ _ z)
    exact ⟨by rw [upd_ne q]; exact h1, h2⟩
  · obtain ⟨v, h1, h2⟩ := r.slot i s z
    exact ⟨v, h1, h2.le l (pfx_refl A)⟩
  · obtain ⟨a, h1, h2, h3⟩ := r.store j ds z
    have q : a ≠ p := fun q => hA (by rw [← q]; exact List.mem_of_getElem? h1)
    exact ⟨a, h1, by rw [upd_ne q]; exact h2, h3.le l (pfx_refl A) fun _ e => e⟩
/-- what is kept goes into the store -/
theorem Rep.giveOb {p : Addr} {o : HO} {ob : Ob} (r : Rep K (upd R p o) F A σ H e) (hR : R p = none) (hx : ObAt K F (A ++ [p]) (some o) ob) : Rep K R F (A ++ [p]) σ H ⟨e.sl, e.st ++ [some ob]⟩ ∧ A <+: A ++ [p] := by
  obtain ⟨hF, hA⟩ := r.apart p _ upd_same
  have hH : H p = some o := r.keep _ _ upd_same
  have kR : Le R (upd R p o) := Le.new hR
  have pf : A <+: A ++ [p] := ⟨[p], rfl⟩
  refine ⟨⟨r.sub, kR.trans r.keep, fun a u z => ⟨(r.apart a u (kR _ _ z)).1, fun hm => ?_⟩, r.len, ?_, ?_, fun a ha => ?_, fun i s z => ?_, fun j cs z => ?_⟩, pf⟩
  · rcases List.mem_append.mp hm with hm | hm
    · exact (r.apart a u (kR _ _ z)).2 hm
    · rw [List.mem_singleton.mp hm, hR] at z
      cases z
  · simp [r.lenA]
  · rw [List.nodup_append]
    exact ⟨r.nodup, by simp, fun a ha b hb q => hA (by rw [List.mem_singleton.mp hb] at q; exact q ▸ ha)⟩
  · rcases List.mem_append.mp ha with ha | ha
    · exact r.live a ha
    · rw [List.mem_singleton.mp ha]
      exact ⟨_, hH⟩
  · obtain ⟨v, h1, h2⟩ := r.slot i s z
    exact ⟨v, h1, h2.le (Le.refl F) pf⟩
  · have z' : (e.st ++ [some ob])[j]? = some (some cs) := z
    by_cases hj : j < e.st.length
    · rw [List.getElem?_append_left hj] at z'
      obtain ⟨a, h1, h2, h3⟩ := r.store j cs z'
      exact ⟨a, pfx_get pf h1, h2, h3.le (Le.refl F) pf fun _ e => e⟩
    · rw [List.getElem?_append_right (by omega)] at z'
      have hj0 : j - e.st.length = 0 := by
        rcases Nat.eq_zero_or_pos (j - e.st.length) with q | q
        · exact q
        · rw [List.getElem?_eq_none (by simp; omega)] at z'
          cases z'
      rw [hj0] at z'
      simp at z'
      subst z'
      refine ⟨p, ?_, hF, by rw [hH]; exact hx⟩
      rw [List.getElem?_append_right (by rw [← r.lenA]; omega), ← r.lenA, hj0] <;> rfl
theorem Rep.giveO {p : Addr} {xs : List V} {ds : List D} (r : Rep K (upd R p (.lst xs)) F A σ H e) (hR : R p = none) (hx : AtL K F ds xs) : Rep K R F (A ++ [p]) σ H ⟨e.sl, e.st ++ [some (.l ds)]⟩ ∧ A <+: A ++ [p] := r.giveOb hR (ob := .l ds) ⟨xs, rfl, hx⟩
end
/-- the turns of a comprehension: what is left, what is made -/
def cl (g : VTG) (tt : VTT) (te : VTE) (chk : Option (En → Prop)) (vs : List Nat) (n : Nat) : List D → List D → En → (List D → En → Prop) → Prop
  | [], acc, e, Kp => wth chk e (Kp acc e)
  | d :: ds, acc, e, Kp => wth chk e (g (.val d) e fun e1 => tt e1 fun b e2 => if b = true then te e2 fun s e3 => asD s e3 fun y e4 => acc.length < sizeLine ∧ cl g tt te chk vs n ds (acc ++ [y]) ((e4.wipe vs).trim n) Kp
      else cl g tt te chk vs n ds acc ((e2.wipe vs).trim n) Kp)
def vLcK (w : VTI) (g : VTG) (tt : VTT) (te : VTE) (vs : List Nat) (fin : List D → En → KE → Prop) : VTE := fun e Kp => w e fun ds chk e1 => cl g tt te chk vs e1.st.length ds [] (e1.wipe vs) fun acc e2 => fin acc e2 Kp
def finD (acc : List D) (e : En) (Kp : KE) : Prop := Kp (.val (.list acc)) e
def finO (acc : List D) (e : En) (Kp : KE) : Prop := Kp (.obj e.st.length) ⟨e.sl, e.st ++ [some (.l acc)]⟩
abbrev vLc (w : VTI) (g : VTG) (tt : VTT) (te : VTE) (vs : List Nat) : VTE := vLcK w g tt te vs finD
abbrev vLcO (w : VTI) (g : VTG) (tt : VTT) (te : VTE) (vs : List Nat) : VTE := vLcK w g tt te vs finO
def VTs (X : Cx) (ifs : List Expr) (t : VTT) : Prop := PTs X ifs (liftT X.K t)
def vYes : VTT := fun e Kp => Kp true e
theorem PTs.imp {X : Cx} {ex : List Expr} {t t' : TT} (h : PTs X ex t) (f : ∀ σ H Q, t' σ H Q → t σ H Q) : PTs X ex t' := ⟨fun pins s σ H Q I q => h.run pins s σ H Q I (f σ H Q q)⟩
theorem vts_nil {X : Cx} : VTs X [] vYes := PTs.imp pts_nil fun σ H Q h => by
  obtain ⟨R, F, A, e, Kp, rep, k, fin⟩ := h
  exact fin true e F A H k (Le.refl F) (pfx_refl A) rep
theorem vts_one {X : Cx} {c : Expr} {t : VTT} (h : VT X c t) : VTs X [c] t := pts_one h
def FinL (K : PySem.W.Frag) (f : List D → En → KE → Prop) : Prop := ∀ {R F : Hp} {A : List Addr} {σ : L2.St} {H : Hp} {e : En} {p : Addr} {xs : List V} {acc : List D} {Kp : KE} {Q : VK}, Rep K (upd R p (.lst xs)) F A σ H e → R p = none → AtL K F acc xs → f acc e Kp → Fin K R F A σ Kp Q → Q (.ref p) H
theorem finD_ok {K : PySem.W.Frag} : FinL K finD := by
  intro R F A σ H e p xs acc Kp Q rep hR hx k fin
  obtain ⟨r2, l⟩ := rep.give hR
  exact (fin.tr l (pfx_refl A)).val r2 k (.lst upd_same (AtL.le l _ _ hx))
theorem finO_ok {K : PySem.W.Frag} : FinL K finO := by
  intro R F A σ H e p xs acc Kp Q rep hR hx k fin
  obtain ⟨r2, l⟩ := rep.giveO hR hx
  refine fin (.obj e.st.length) _ (.ref p) F _ H k (Le.refl F) l r2 ⟨p, ?_, rfl⟩
  rw [rep.lenA, List.getElem?_append_right (Nat.le_refl _), Nat.sub_self] <;> rfl
theorem lift_lc {K : PySem.W.Frag} {w : VTI} {g : VTG} {ws : List Nat} {tt : VTT} {te : VTE} {vs : List Nat} {f : List D → En → KE → Prop} (hf : FinL K f) (hw : ∀ i ∈ ws, i ∈ vs) (σ : L2.St) (H : Hp) (Q : VK) (h : liftE K (vLcK w g tt te vs f) σ H Q) :
    tLc (liftI K w) (liftG K ws g) (liftT K tt) (liftE K te) vs σ H Q := by
  obtain ⟨R, F, A, e, Kp, rep, k, fin⟩ := h
  refine ⟨R, F, A, e, _, rep, k, fun ds chk e1 F1 A1 H1 J k1 l1 p1 rep1 it => fun Dd hD => ?_⟩
  have hR : R Dd = none := rep1.keep.free hD
  refine ⟨fun i m H' => ∃ F' A' e' acc accV, m = ds.length - i ∧ i ≤ ds.length ∧ Le F1 F' ∧ A1 <+: A' ∧ Rep K (upd R Dd (.lst accV)) F' A' (wipe σ vs) H' e' ∧ Bare vs e' ∧ AtL K F' acc accV ∧ cl g tt te chk vs e1.st.length (ds.drop i) acc e' (fun acc e2 => f acc e2 Kp),
    ⟨_, F1, A1, e1.wipe vs, [], [], rfl, Nat.zero_le _, Le.refl _, pfx_refl _, (rep1.wiped vs).hold hD _, bare_wipe vs e1, .nil, k1⟩, ?_⟩
  rintro i m H' ⟨F', A', e', acc, accV, rfl, hi, l, p, rep', bare, hx, k⟩
  rcases Nat.lt_or_ge i ds.length with hlt | hge
  · right
    obtain ⟨d, hd⟩ : ∃ d, ds[i]? = some d := ⟨ds[i], by simp [hlt]⟩
    have hdr : ds.drop i = d :: ds.drop (i + 1) := by
      rw [List.drop_eq_getElem_cons hlt]
      rw [List.getElem?_eq_getElem hlt] at hd
      cases hd
      rfl
    rw [hdr] at k
    obtain ⟨kc, k⟩ := wth_ok k
    obtain ⟨g1, g2⟩ := it.go i d hd l p rep' kc
    refine ⟨g1, fun H2 => ∃ F' A' e' acc accV, ds.length - (i + 1) = ds.length - (i + 1) ∧ i + 1 ≤ ds.length ∧ Le F1 F' ∧ A1 <+: A' ∧ Rep K (upd R Dd (.lst accV)) F' A' (wipe σ vs) H2 e' ∧ Bare vs e' ∧ AtL K F' acc accV ∧ cl g tt te chk vs e1.st.length (ds.drop (i + 1)) acc e' (fun acc e2 => f acc e2 Kp),
      fun H2 q => ⟨ds.length - (i + 1), by omega, q⟩, fun x H3 y => ?_⟩
    obtain ⟨F3, l3, rep3, a3⟩ := g2 x H3 y
    refine ⟨_, F3, A', e', .val d, _, rep3, a3, k, fun e2 σ2 F2 A2 H2 k2 l2 p2 o2 rep2 => ⟨wipe_off o2 hw, _, F2, A2, e2, _, rep2, k2, fun b e3 F4 A4 H4 k4 l4 p4 rep4 => ?_⟩⟩
    have lf := ((l.trans l3).trans l2).trans l4
    have pf := (p.trans p2).trans p4
    cases b with
    | false =>
      have k4' : cl g tt te chk vs e1.st.length (ds.drop (i + 1)) acc ((e3.wipe vs).trim e1.st.length) (fun acc e2 => f acc e2 Kp) := k4
      obtain ⟨A5, p5, rep5⟩ := (rep4.wiped2 o2 hw).trim (A1 := A1) (n := e1.st.length) pf rep1.lenA.symm
      exact ⟨F4, A5, _, acc, accV, rfl, hlt, lf, p5, rep5, bare_trim (bare_wipe vs e3) _, AtL.le ((l3.trans l2).trans l4) _ _ hx, k4'⟩
    | true =>
      refine ⟨_, F4, A4, e3, _, rep4, k4, fun s e5 y5 F5 A5 H5 k5 l5 p5 rep5 a5 => ?_⟩
      obtain ⟨d', e6, F6, ⟨hl, k6⟩, rep6, l6, a6⟩ := rep5.asD a5 k5
      have lx := (((l3.trans l2).trans l4).trans l5).trans l6
      refine ⟨accV, rep6.keep _ _ upd_same, by rw [hx.len]; exact hl, ?_⟩
      obtain ⟨A7, p7, rep7⟩ := (rep6.wiped2 o2 hw).trim (A1 := A1) (n := e1.st.length) (pf.trans p5) rep1.lenA.symm
      exact ⟨F6, A7, _, acc ++ [d'], accV ++ [y5], rfl, hlt, l.trans lx, p7, rep7.rehold, bare_trim (bare_wipe vs e6) _, (AtL.le lx _ _ hx).app (AtL.one a6), k6⟩
  · left
    have e0 : i = ds.length := by omega
    subst e0
    rw [List.drop_length] at k
    obtain ⟨kc, k⟩ := wth_ok k
    refine ⟨it.stop l p rep' kc, ?_⟩
    exact hf (rep'.unwipe bare) hR hx k (fin.tr (l1.trans l) (p1.trans p))
section
variable {X : Cx} {elt tg iter : Expr} {ifs : List Expr} {scope : Scope} {own : List (Str × Nat)} {pos : Pos} {w : VTI} {g : VTG} {ws : List Nat} {tt : VTT} {te : VTE} {f : List D → En → KE → Prop}
theorem ve_lcK (hf : FinL X.K f) (hc : X.calm = true) (hN : X.N.Nodup) (hi : VI X tg iter w) (ok : BlkOk X.N X.env.scope scope own) (hw : ∀ i ∈ ws, i ∈ own.map (·.2))
    (hg : ∀ (s : Shared) (H : Hp) (C : Addr) (cl : List (Str × Addr)) (fp : List Addr), VG (X.blk s H scope (compEnvC scope cl C X.env) fp) tg ws g) (ht : ∀ (s : Shared) (H : Hp) (C : Addr) (cl : List (Str × Addr)) (fp : List Addr), VTs (X.blk s H scope (compEnvC scope cl C X.env) fp) ifs tt)
    (he : ∀ (s : Shared) (H : Hp) (C : Addr) (cl : List (Str × Addr)) (fp : List Addr), VE (X.blk s H scope (compEnvC scope cl C X.env) fp) elt te) (hs : ∀ x, foldedSetIterable iter X.env x = pure x := by intro _; rfl) :
    VE X (.ListComp elt [⟨tg, iter, ifs, 0⟩] scope pos) (vLcK w g tt te (own.map (·.2)) f) := PE.imp (pe_lc (g := liftG X.K ws g) (tt := liftT X.K tt) (te := liftE X.K te) hc hN hi ok hg ht he hs) fun σ H Q h => lift_lc hf hw σ H Q h
theorem vs_setLcK {i : Nat} {y : Str} {py spos : Pos} (hf : FinL X.K f) (hc : X.calm = true) (hN : X.N.Nodup) (hy : X.N[i]? = some y) (hyl : X.env.scope.names.lookup y = some .local)
    (hsw : swapsWith (.ListComp elt [⟨tg, iter, ifs, 0⟩] scope pos) (some (.Name y py)) spos.line X.env = pure true) (hi : VI X tg iter w) (ok : BlkOk X.N X.env.scope scope own) (hw : ∀ i ∈ ws, i ∈ own.map (·.2))
    (hg : ∀ (s : Shared) (H : Hp) (C : Addr) (cl : List (Str × Addr)) (fp : List Addr), VG (X.blk s H scope (compEnvC scope cl C X.env) fp) tg ws g) (ht : ∀ (s : Shared) (H : Hp) (C : Addr) (cl : List (Str × Addr)) (fp : List Addr), VTs (X.blk s H scope (compEnvC scope cl C X.env) fp) ifs tt)
    (he : ∀ (s : Shared) (H : Hp) (C : Addr) (cl : List (Str × Addr)) (fp : List Addr), VE (X.blk s H scope (compEnvC scope cl C X.env) fp) elt te) (hs : ∀ x, foldedSetIterable iter X.env x = pure x := by intro _; rfl) :
    VS X (.Assign [.Name y py] (.ListComp elt [⟨tg, iter, ifs, 0⟩] scope pos) spos) (vSet i (vLcK w g tt te (own.map (·.2)) f)) := PS.imp (ps_setLc (g := liftG X.K ws g) (tt := liftT X.K tt) (te := liftE X.K te) hc hN hy hyl hsw hi ok hg ht he hs) fun D σ H h => lift_set D σ H (fun Q q => lift_lc hf hw σ H Q q) h
end
end Vl
namespace Vl
open PySem L2 PySem.Spec PyProof.Rows
/-! a def's promise over data: its arguments, the lists that it may change, what it gives back and what these lists are then -/
abbrev VSp := List Sl → List Ob → (Sl → List Ob → Prop) → Prop
def spV (K : PySem.W.Frag) (p : VSp) : Sp := fun vs H Q _ => ∃ R F A ss st Kp, Rep K R F A (vs.map some) H ⟨ss.map some, st.map some⟩ ∧ p ss st Kp ∧
  ∀ s st' v F' A' H', Kp s st' → Le F F' → A <+: A' → Rep K R F' A' [some v] H' ⟨[some s], st'.map some⟩ → Q v H'
def mob : Ob → Bool
  | .mo _ => true
  | _ => false
def takeS : Nat → List (Option Ob) → Option (List Ob)
  | 0, _ => some []
  | n + 1, some ob :: r => if mob ob = true then none else (takeS n r).map (ob :: ·)
  | _ + 1, _ => none
def ret (n : Nat) (s : Sl) (e : En) (Kp : Sl → List Ob → Prop) : Prop := match takeS n e.st with
  | none => False
  | some st' => match s with
    | .val d => Kp (.val d) st'
    | .kn ds => Kp (.kn ds) st'
    | .exc _ => False
    | .obj j => if j < n then False else match e.st[j]? with
      | some (some ob) => if mob ob = true then False else Kp (.obj n) (st' ++ [ob])
      | _ => False
theorem takeS_step {n : Nat} {ob : Ob} {r : List (Option Ob)} {cs : List Ob} (h : takeS (n + 1) (some ob :: r) = some cs) : mob ob = false ∧ ∃ c, takeS n r = some c ∧ cs = ob :: c := by
  have h' : (if mob ob = true then none else (takeS n r).map (ob :: ·)) = some cs := h
  split at h'
  · cases h'
  · rename_i q
    obtain ⟨c, hc, rfl⟩ := Option.map_eq_some_iff.mp h'
    exact ⟨by simpa using q, c, hc, rfl⟩
theorem takeS_len : ∀ {n : Nat} {st : List (Option Ob)} {cs : List Ob}, takeS n st = some cs → cs.length = n
  | 0, _, _, h => by
    cases h
    rfl
  | n + 1, some ds :: r, cs, h => by
    obtain ⟨_, c, hc, rfl⟩ := takeS_step h
    rw [List.length_cons, takeS_len hc]
  | _ + 1, [], _, h => by cases h
  | _ + 1, none :: _, _, h => by cases h
theorem takeS_at : ∀ {n : Nat} {st : List (Option Ob)} {cs : List Ob} {j : Nat} {ds : Ob}, takeS n st = some cs → cs[j]? = some ds → st[j]? = some (some ds) ∧ mob ds = false
  | 0, _, _, _, _, h, g => by
    cases h
    simp at g
  | n + 1, some c :: r, cs, j, ds, h, g => by
    obtain ⟨q, b, hb, rfl⟩ := takeS_step h
    cases j with
    | zero =>
      simp at g
      subst g
      exact ⟨rfl, q⟩
    | succ j => exact takeS_at (j := j) hb (by simpa using g)
  | _ + 1, [], _, _, _, h, _ => by cases h
  | _ + 1, none :: _, _, _, _, h, _ => by cases h
theorem ObAt.noM {K : PySem.W.Frag} {F : Hp} {A B : List Addr} {h : Option HO} : ∀ {ob : Ob}, mob ob = false → ObAt K F A h ob → ObAt K F B h ob
  | .l _, _, x => x
  | .m _, _, x => x
  | .mo _, n, _ => by cases n
section
variable {K : PySem.W.Frag} {R F : Hp} {A : List Addr} {σ : L2.St} {H : Hp} {e : En}
/-- a def ends: what it gives back, and the lists that were handed in -/
theorem ret_ok {F0 : Hp} {A0 : List Addr} {n : Nat} {s : Sl} {v : V} {Kp : Sl → List Ob → Prop} {Q : VK} (rep : Rep K R F A σ H e) (a : SlAt K F A v s) (hn : A0.length = n) (l : Le F0 F) (p : A0 <+: A) (k : ret n s e Kp)
    (fin : ∀ s st' v F' A' H', Kp s st' → Le F0 F' → A0 <+: A' → Rep K R F' A' [some v] H' ⟨[some s], st'.map some⟩ → Q v H') : Q v H := by
  unfold ret at k
  split at k
  · exact k.elim
  · rename_i st' hst
    have hl := takeS_len hst
    have hA0 : ∀ {j : Nat}, j < n → A0[j]? = A[j]? := fun {j} hj => by
      obtain ⟨t, rfl⟩ := p
      rw [List.getElem?_append_left (by omega)]
    have slo : ∀ (A' : List Addr) (t : Sl), SlAt K F A' v t → ∀ (i : Nat) (u : Sl), ([some t] : List (Option Sl))[i]? = some (some u) → ∃ w, ([some v] : L2.St)[i]? = some (some w) ∧ SlAt K F A' w u := fun A' t ha i u hu => by
      cases i with
      | zero =>
        have hu' : some (some t) = some (some u) := hu
        cases hu'
        exact ⟨v, rfl, ha⟩
      | succ i => simp at hu
    have sto : ∀ (j : Nat) (ds : Ob), (st'.map some)[j]? = some (some ds) → ∃ b, A0[j]? = some b ∧ F b = none ∧ ObAt K F A0 (H b) ds ∧ mob ds = false := fun j ds hj => by
      rw [List.getElem?_map] at hj
      obtain ⟨c, hc, ec⟩ := Option.map_eq_some_iff.mp hj
      cases ec
      obtain ⟨hs, hm⟩ := takeS_at hst hc
      obtain ⟨b, h1, h2, h3⟩ := rep.store j _ hs
      have hjn : j < n := by
        have := (List.getElem?_eq_some_iff.mp hc).1
        omega
      exact ⟨b, by rw [hA0 hjn]; exact h1, h2, h3.noM hm, hm⟩
    have mem : ∀ a ∈ A0, a ∈ A := fun a ha => p.subset ha
    have base : ∀ t, SlAt K F A0 v t → Rep K R F A0 [some v] H ⟨[some t], st'.map some⟩ := fun t ha =>
      ⟨rep.sub, rep.keep, fun a o z => ⟨(rep.apart a o z).1, fun hm => (rep.apart a o z).2 (mem a hm)⟩, rfl, by simp [hl, hn], p.sublist.nodup rep.nodup, fun a ha => rep.live a (mem a ha), slo A0 t ha, fun j ds hj => by
        obtain ⟨b, h1, h2, h3, _⟩ := sto j ds hj
        exact ⟨b, h1, h2, h3⟩⟩
    cases s with
    | val d => exact fin (.val d) st' v F A0 H k l (pfx_refl A0) (base _ a)
    | kn ds => exact fin (.kn ds) st' v F A0 H k l (pfx_refl A0) (base _ a)
    | exc d => exact k.elim
    | obj j =>
      replace k : (if j < n then False else match e.st[j]? with | some (some ob) => if mob ob = true then False else Kp (.obj n) (st' ++ [ob]) | _ => False) := k
      split at k
      · exact k.elim
      · rename_i hj
        split at k
        · rename_i ob hd
          split at k
          · exact k.elim
          rename_i hmo
          have hmo' : mob ob = false := by simpa using hmo
          obtain ⟨b, e1, e2⟩ := a
          obtain ⟨b', h1, h2, h3⟩ := rep.store j ob hd
          rw [e1] at h1
          cases h1
          have hb : b ∉ A0 := fun hm => by
            obtain ⟨i, hi, ei⟩ := List.getElem_of_mem hm
            have e3 : A[i]? = some b := by
              rw [← hA0 (by omega)]
              rw [List.getElem?_eq_getElem hi, ei]
            have := nodup_at rep.nodup e3 e1
            omega
          have hbA : b ∈ A := List.mem_of_getElem? e1
          refine fin (.obj n) (st' ++ [ob]) v F (A0 ++ [b]) H k l ⟨[b], rfl⟩ ⟨rep.sub, rep.keep, fun a o z => ⟨(rep.apart a o z).1, fun hm => ?_⟩, rfl, by simp [hl, hn], ?_, fun a ha => ?_, slo (A0 ++ [b]) (.obj n) ⟨b, ?_, e2⟩, fun i cs z => ?_⟩
          · rcases List.mem_append.mp hm with hm | hm
            · exact (rep.apart a o z).2 (mem a hm)
            · rw [List.mem_singleton.mp hm] at z
              exact (rep.apart b o z).2 hbA
          · rw [List.nodup_append]
            exact ⟨p.sublist.nodup rep.nodup, by simp, fun a ha c hc q => hb (by rw [List.mem_singleton.mp hc] at q; exact q ▸ ha)⟩
          · rcases List.mem_append.mp ha with hm | hm
            · exact rep.live a (mem a hm)
            · rw [List.mem_singleton.mp hm]
              exact rep.live b hbA
          · rw [List.getElem?_append_right (by omega), hn, Nat.sub_self] <;> rfl
          · have z' : ((st' ++ [ob]).map some)[i]? = some (some cs) := z
            rw [List.map_append] at z'
            by_cases hi : i < st'.length
            · rw [List.getElem?_append_left (by rw [List.length_map]; exact hi)] at z'
              obtain ⟨c, q1, q2, q3, q4⟩ := sto i cs z'
              exact ⟨c, by rw [List.getElem?_append_left (by omega)]; exact q1, q2, q3.noM q4⟩
            · rw [List.getElem?_append_right (by rw [List.length_map]; omega), List.length_map] at z'
              have hi0 : i - st'.length = 0 := by
                rcases Nat.eq_zero_or_pos (i - st'.length) with q | q
                · exact q
                · rw [List.getElem?_eq_none (by simp; omega)] at z'
                  cases z'
              rw [hi0] at z'
              simp at z'
              subst z'
              refine ⟨b, ?_, h2, h3.noM hmo'⟩
              rw [List.getElem?_append_right (by omega), show i - A0.length = 0 from by omega] <;> rfl
        · exact k.elim
end
/-- the names at a def's entry -/
def startV (n : Nat) (ss : List Sl) : List (Option Sl) := ss.map some ++ List.replicate (n - ss.length) none
section
variable {P : Program} {w : World} {K : PySem.W.Frag} {mg : Str → Option Value} {base : Heap}
theorem okV {x qual : Str} {st : Stmt} {f : Addr} {fd : FuncData} {N ps : List Str} {k : Nat} {p : VSp} (F : Fun K x qual st f fd) (S : FnScope N ps (defScope st)) (len : ∀ ss st Kp, p ss st Kp → ss.length = ps.length)
    (hbody : ∀ (cdv : Value) (A : Around) (outer : List Env) (s : Shared) (H : Hp) (E : XK), Room k (A.deeper (envOfC qual (defScope st) s.heap.objs.size f cdv)) →
      ∃ t, VSs (cxOf CX0 P w K mg base N qual (defScope st) f cdv A outer s H E).nox (defBody st) t ∧
        ∀ ss cs Kp, p ss cs Kp → t { nx := fun e => ret cs.length (.val .none) e Kp, rt := fun s e => ret cs.length s e Kp } ⟨startV N.length ss, cs.map some⟩) : FnOk P w K mg base CX0 (k + 1) f fd ps (spV K p) := by
  have lenV : ∀ vs H Q E, spV K p vs H Q E → vs.length = ps.length := fun vs H Q E h => by
    obtain ⟨R, F, A, ss, st, Kp, rep, hp, _⟩ := h
    have := rep.len
    simp at this
    rw [← this]
    exact len _ _ _ hp
  refine F.ok S lenV fun cdv A outer s H vs Q E hr h => ?_
  obtain ⟨t, ht, hb⟩ := hbody cdv A outer s H E hr
  obtain ⟨R, F0, A0, ss, cs, Kp, rep, hp, fin⟩ := h
  have hl := rep.len
  simp at hl
  refine ⟨_, ht, R, F0, A0, ⟨startV N.length ss, cs.map some⟩, { nx := fun e => ret cs.length (.val .none) e Kp, rt := fun s e => ret cs.length s e Kp }, ?_, hb ss cs Kp hp, ?_⟩
  · refine rep.weak ?_ fun i u hu => ?_
    · show (ss.map some ++ List.replicate (N.length - ss.length) none).length = (vs.map some ++ List.replicate (N.length - vs.length) none).length
      simp only [List.length_append, List.length_map, List.length_replicate, hl]
    · replace hu : (ss.map some ++ List.replicate (N.length - ss.length) none)[i]? = some (some u) := hu
      rcases Nat.lt_or_ge i (ss.map some).length with hi | hi
      · rw [List.getElem?_append_left hi] at hu
        obtain ⟨v, h1, h2⟩ := rep.slot i u hu
        refine ⟨v, ?_, h2⟩
        show (vs.map some ++ List.replicate (N.length - vs.length) none)[i]? = _
        rw [List.getElem?_append_left (by rw [List.length_map] at hi ⊢; omega)]
        exact h1
      · rw [List.getElem?_append_right hi] at hu
        have := List.mem_of_getElem? hu
        have := (List.mem_replicate.mp this).2
        cases this
  · have hn : A0.length = cs.length := by
      have := rep.lenA
      simp at this
      exact this.symm
    exact ⟨fun e' σ' F' A' H' k l p r => ret_ok r (s := .val .none) (v := .non) .non hn l p k fin, fun _ _ _ _ _ k => k.elim, fun _ _ _ _ _ k => k.elim, fun s e' v σ' F' A' H' k l p r a => ret_ok r a hn l p k fin, FinX.no⟩
end
/-! calls -/
def objs : List Sl → List Nat
  | [] => []
  | .obj j :: r => j :: objs r
  | .val _ :: r => objs r
  | .kn _ :: r => objs r
  | .exc _ :: r => objs r
def renum : Nat → List Sl → List Sl
  | _, [] => []
  | k, .obj _ :: r => .obj k :: renum (k + 1) r
  | k, .val d :: r => .val d :: renum k r
  | k, .kn ds :: r => .kn ds :: renum k r
  | k, .exc a :: r => .exc a :: renum k r
def uniq : List Nat → Bool
  | [] => true
  | j :: r => r.all (fun i => !(i == j)) && uniq r
def getS : List Nat → List (Option Ob) → Option (List Ob)
  | [], _ => some []
  | j :: r, st => match st[j]? with
    | some (some ob) => if mob ob = true then none else (getS r st).map (ob :: ·)
    | _ => none
def putS : List Nat → List Ob → List (Option Ob) → List (Option Ob)
  | j :: r, c :: cs, st => (putS r cs st).set j (some c)
  | _, _, st => st
/-- a call: what the callee may change are the lists of the store that are handed in -/
def opCallK (own : Ob → En → KE → Prop) (p : VSp) (ss : List Sl) (e : En) (Kp : KE) : Prop := match uniq (objs ss), getS (objs ss) e.st with
  | true, some cs => p (renum 0 ss) cs fun s cs' => if cs'.any mob = true then False else match s with
    | .val d => Kp (.val d) ⟨e.sl, putS (objs ss) cs' e.st⟩
    | .kn ds => Kp (.kn ds) ⟨e.sl, putS (objs ss) cs' e.st⟩
    | .exc _ => False
    | .obj j => if j < (objs ss).length then False else match cs'[j]? with
      | some ob => own ob ⟨e.sl, putS (objs ss) cs' e.st⟩ Kp
      | none => False
  | _, _ => False
theorem uniq_nodup : ∀ {js : List Nat}, uniq js = true → js.Nodup
  | [], _ => List.nodup_nil
  | j :: r, h => by
    have h' : (r.all (fun i => !(i == j)) && uniq r) = true := h
    rw [Bool.and_eq_true, List.all_eq_true] at h'
    rw [List.nodup_cons]
    refine ⟨fun hm => ?_, uniq_nodup h'.2⟩
    have := h'.1 j hm
    simp at this
theorem getS_at : ∀ {js : List Nat} {st : List (Option Ob)} {cs : List Ob}, getS js st = some cs → cs.length = js.length ∧ ∀ (k : Nat) (j : Nat), js[k]? = some j → ∃ ds, cs[k]? = some ds ∧ st[j]? = some (some ds) ∧ mob ds = false
  | [], _, _, h => by
    cases h
    exact ⟨rfl, fun k j hj => by simp at hj⟩
  | j :: r, st, cs, h => by
    unfold getS at h
    split at h
    · rename_i ds hd
      split at h
      · cases h
      rename_i hmo
      obtain ⟨c, hc, rfl⟩ := Option.map_eq_some_iff.mp h
      obtain ⟨h1, h2⟩ := getS_at hc
      refine ⟨by simp [h1], fun k i hi => ?_⟩
      cases k with
      | zero =>
        simp at hi
        subst hi
        exact ⟨ds, rfl, hd, by simpa using hmo⟩
      | succ k => exact h2 k i (by simpa using hi)
    · cases h
theorem putS_len : ∀ (js : List Nat) (cs : List Ob) (st : List (Option Ob)), (putS js cs st).length = st.length
  | [], _, _ => by simp [putS]
  | _ :: _, [], _ => by simp [putS]
  | j :: r, c :: cs, st => by
    show ((putS r cs st).set j (some c)).length = _
    rw [List.length_set, putS_len r cs st]
theorem putS_at : ∀ {js : List Nat} {cs : List Ob} {st : List (Option Ob)} {i : Nat} {o : Option Ob}, (putS js cs st)[i]? = some o → js.Nodup → (∃ (k : Nat) (c : Ob), js[k]? = some i ∧ cs[k]? = some c ∧ o = some c) ∨ ((∀ k : Nat, js[k]? = some i → cs[k]? = none) ∧ st[i]? = some o)
  | [], _, _, _, _, h, _ => .inr ⟨fun k hk => by simp at hk, by simpa [putS] using h⟩
  | _ :: _, [], _, _, _, h, _ => .inr ⟨fun k _ => by simp, by simpa [putS] using h⟩
  | j :: r, c :: cs, st, i, o, h, nd => by
    have h' : ((putS r cs st).set j (some c))[i]? = some o := h
    obtain ⟨n1, n2⟩ := List.nodup_cons.mp nd
    by_cases q : j = i
    · subst q
      have hl : j < (putS r cs st).length := by
        have := (List.getElem?_eq_some_iff.mp h').1
        simpa using this
      rw [List.getElem?_set_self hl] at h'
      cases h'
      exact .inl ⟨0, c, rfl, rfl, rfl⟩
    · rw [List.getElem?_set_ne q] at h'
      rcases putS_at h' n2 with ⟨k, c', h1, h2, h3⟩ | ⟨h1, h2⟩
      · exact .inl ⟨k + 1, c', by simpa using h1, by simpa using h2, h3⟩
      · refine .inr ⟨fun k hk => ?_, h2⟩
        cases k with
        | zero =>
          simp at hk
          exact absurd hk q
        | succ k =>
          have := h1 k (by simpa using hk)
          simpa using this
theorem renum_at {K : PySem.W.Frag} {F : Hp} {A Ap : List Addr} : ∀ {ss : List Sl} {vs : List V} {k : Nat}, SlAts K F A vs ss → (∀ m j, (objs ss)[m]? = some j → ∀ a, A[j]? = some a → Ap[k + m]? = some a) → SlAts K F Ap vs (renum k ss)
  | [], _, _, h, _ => by
    cases h
    exact .nil
  | .val d :: r, _, k, h, g => by
    cases h with
    | cons h1 h2 => exact .cons (s := .val d) h1 (renum_at h2 g)
  | .kn d :: r, _, k, h, g => by
    cases h with
    | cons h1 h2 => exact .cons (s := .kn d) h1 (renum_at h2 g)
  | .exc d :: r, _, k, h, g => by
    cases h with
    | cons h1 h2 => exact .cons (s := .exc d) h1 (renum_at h2 g)
  | .obj j :: r, _, k, h, g => by
    cases h with
    | cons h1 h2 =>
      obtain ⟨a, e1, e2⟩ := h1
      refine .cons (s := .obj k) ⟨a, g 0 j rfl a e1, e2⟩ (renum_at h2 fun m i hm b hb => ?_)
      have := g (m + 1) i (by simpa [objs] using hm) b hb
      rw [show k + 1 + m = k + (m + 1) from by omega]
      exact this
theorem slAts_get {K : PySem.W.Frag} {F : Hp} {A : List Addr} {vs : List V} {ss : List Sl} (h : SlAts K F A vs ss) : ∀ {i : Nat} {s : Sl}, ss[i]? = some s → ∃ v, vs[i]? = some v ∧ SlAt K F A v s := by
  induction h with
  | nil =>
    intro i s hs
    simp at hs
  | cons h1 h2 ih =>
    intro i s hs
    cases i with
    | zero =>
      simp at hs
      subst hs
      exact ⟨_, rfl, h1⟩
    | succ i => exact ih (by simpa using hs)
/-- how a new list of the callee's is taken -/
def ownO (ob : Ob) (e : En) (Kp : KE) : Prop := Kp (.obj e.st.length) ⟨e.sl, e.st ++ [some ob]⟩
def ownD (ob : Ob) (e : En) (Kp : KE) : Prop := match ob with
  | .l ds => Kp (.val (.list ds)) e
  | _ => False
def FinW (K : PySem.W.Frag) (own : Ob → En → KE → Prop) : Prop := ∀ {R F : Hp} {A : List Addr} {σ : L2.St} {H : Hp} {e : En} {b : Addr} {o : HO} {ob : Ob} {Kp : KE} {Q : VK}, Rep K R F A σ H e → F b = none → R b = none → b ∉ A → H b = some o → ObAt K F A (some o) ob → mob ob = false → own ob e Kp → Fin K R F A σ Kp Q → Q (.ref b) H
theorem Rep.adopt {K : PySem.W.Frag} {R F : Hp} {A : List Addr} {σ : L2.St} {H : Hp} {e : En} (r : Rep K R F A σ H e) {b : Addr} {o : HO} (hF : F b = none) (hR : R b = none) (hA : b ∉ A) (hH : H b = some o) : Rep K (upd R b o) F A σ H e :=
  ⟨r.sub, fun c u z => by
    by_cases q : c = b
    · subst q
      rw [upd_same] at z
      cases z
      exact hH
    · rw [upd_ne q] at z
      exact r.keep _ _ z, fun c u z => by
    by_cases q : c = b
    · subst q
      exact ⟨hF, hA⟩
    · rw [upd_ne q] at z
      exact r.apart c u z, r.len, r.lenA, r.nodup, r.live, r.slot, r.store⟩
theorem finW_O {K : PySem.W.Frag} : FinW K ownO := by
  intro R F A σ H e b o ob Kp Q rep hF hR hA hH hx hm k fin
  obtain ⟨r2, l⟩ := (rep.adopt hF hR hA hH).giveOb hR (hx.noM hm)
  refine fin (.obj e.st.length) _ (.ref b) F _ H k (Le.refl F) l r2 ⟨b, ?_, rfl⟩
  rw [rep.lenA, List.getElem?_append_right (Nat.le_refl _), Nat.sub_self] <;> rfl
theorem finW_D {K : PySem.W.Frag} : FinW K ownD := by
  intro R F A σ H e b o ob Kp Q rep hF hR hA hH hx hm k fin
  cases ob with
  | l ds =>
    obtain ⟨xs, ex, hxs⟩ := hx
    cases ex
    exact finD_ok (rep.adopt hF hR hA hH) hR hxs k fin
  | m _ => exact False.elim k
  | mo _ => exact False.elim k
theorem p_call {K : PySem.W.Frag} {p : VSp} {own : Ob → En → KE → Prop} (hw : FinW K own) {E : XK} : PrimN K (fun vs H Q => spV K p (vs ++ []) H Q E) (opCallK own p) := by
  intro R F A σ H e vs ss Kp Q rep ats ho fin
  rw [List.append_nil]
  unfold opCallK at ho
  split at ho
  · rename_i cs hu hg
    have nd := uniq_nodup hu
    obtain ⟨gl, ga⟩ := getS_at hg
    -- the addresses of what is handed in
    have hA : ∀ (k j : Nat), (objs ss)[k]? = some j → ∃ a ds, A[j]? = some a ∧ cs[k]? = some ds ∧ F a = none ∧ ObAt K F A (H a) ds ∧ mob ds = false := fun k j hj => by
      obtain ⟨ds, h1, h2, hm⟩ := ga k j hj
      obtain ⟨a, q1, q2, q3⟩ := rep.store j ds h2
      exact ⟨a, ds, q1, h1, q2, q3, hm⟩
    let Ap : List Addr := (objs ss).map fun j => (A[j]?).getD 0
    have hAp : ∀ (k j : Nat) (a : Addr), (objs ss)[k]? = some j → A[j]? = some a → Ap[k]? = some a := fun k j a h1 h2 => by
      show ((objs ss).map fun j => (A[j]?).getD 0)[k]? = _
      rw [List.getElem?_map, h1]
      simp [h2]
    have hAp' : ∀ (k : Nat) (a : Addr), Ap[k]? = some a → ∃ j, (objs ss)[k]? = some j ∧ A[j]? = some a := fun k a h => by
      have h' : ((objs ss).map fun j => (A[j]?).getD 0)[k]? = some a := h
      rw [List.getElem?_map] at h'
      obtain ⟨j, h1, h2⟩ := Option.map_eq_some_iff.mp h'
      obtain ⟨b, _, q1, _⟩ := hA k j h1
      rw [q1] at h2
      simp at h2
      exact ⟨j, h1, by rw [q1, h2]⟩
    have hApl : Ap.length = (objs ss).length := List.length_map _
    have hsub : ∀ a ∈ Ap, a ∈ A := fun a ha => by
      obtain ⟨k, hk⟩ := List.getElem?_of_mem ha
      obtain ⟨j, _, h2⟩ := hAp' k a hk
      exact List.mem_of_getElem? h2
    have hApn : Ap.Nodup := by
      show ((objs ss).map fun j => (A[j]?).getD 0).Nodup
      refine List.pairwise_map.mpr (List.Pairwise.imp_of_mem (fun {i j} hi hj hne q => ?_) nd)
      obtain ⟨ki, hki⟩ := List.getElem?_of_mem hi
      obtain ⟨kj, hkj⟩ := List.getElem?_of_mem hj
      obtain ⟨a, _, q1, _⟩ := hA ki i hki
      obtain ⟨b, _, q2, _⟩ := hA kj j hkj
      rw [q1, q2] at q
      have q' : a = b := q
      subst q'
      exact hne (nodup_at rep.nodup q1 q2)
    let Rc : Hp := fun a => if (F a).isSome = true ∨ a ∈ Ap then none else H a
    have hRc : ∀ {a : Addr} {o : HO}, Rc a = some o → F a = none ∧ a ∉ Ap ∧ H a = some o := fun {a o} h => by
      have h' : (if (F a).isSome = true ∨ a ∈ Ap then none else H a) = some o := h
      split at h'
      · cases h'
      · rename_i q
        refine ⟨?_, fun z => q (.inr z), h'⟩
        cases hf : F a with
        | none => rfl
        | some u => exact absurd (.inl (by simp [hf])) q
    have hRc' : ∀ {a : Addr} {o : HO}, F a = none → a ∉ Ap → H a = some o → Rc a = some o := fun {a o} h1 h2 h3 => by
      show (if (F a).isSome = true ∨ a ∈ Ap then none else H a) = some o
      rw [if_neg]
      · exact h3
      · rintro (z | z)
        · rw [h1] at z
          cases z
        · exact h2 z
    have ren := renum_at (Ap := Ap) (k := 0) ats (fun m j hm a ha => by rw [Nat.zero_add]; exact hAp m j a hm ha)
    have repc : Rep K Rc F Ap (vs.map some) H ⟨(renum 0 ss).map some, cs.map some⟩ := by
      refine ⟨rep.sub, fun a o z => (hRc z).2.2, fun a o z => ⟨(hRc z).1, (hRc z).2.1⟩, ?_, ?_, hApn, fun a ha => rep.live a (hsub a ha), fun i s z => ?_, fun j ds z => ?_⟩
      · simp [ren.len]
      · simp [gl, hApl]
      · have z' : ((renum 0 ss).map some)[i]? = some (some s) := z
        rw [List.getElem?_map] at z'
        obtain ⟨t, ht, hs⟩ := Option.map_eq_some_iff.mp z'
        cases hs
        obtain ⟨v, h1, h2⟩ := slAts_get ren ht
        exact ⟨v, by rw [List.getElem?_map, h1] <;> rfl, h2⟩
      · have z' : (cs.map some)[j]? = some (some ds) := z
        rw [List.getElem?_map] at z'
        obtain ⟨t, ht, hs⟩ := Option.map_eq_some_iff.mp z'
        cases hs
        have hj : j < (objs ss).length := by
          have := (List.getElem?_eq_some_iff.mp ht).1
          omega
        obtain ⟨i, hi⟩ : ∃ i, (objs ss)[j]? = some i := ⟨(objs ss)[j], by simp [hj]⟩
        obtain ⟨a, ds', q1, q2, q3, q4, q5⟩ := hA j i hi
        rw [ht] at q2
        cases q2
        exact ⟨a, hAp j i a hi q1, q3, q4.noM q5⟩
    refine ⟨Rc, F, Ap, renum 0 ss, cs, _, repc, ho, fun s cs' v F' A' H' k l p rep' => ?_⟩
    split at k
    · exact k.elim
    rename_i hall
    have mobs : ∀ (i : Nat) (ob : Ob), cs'[i]? = some ob → mob ob = false := fun i ob h => by
      cases q : mob ob with
      | false => rfl
      | true => exact absurd (List.any_eq_true.mpr ⟨ob, List.mem_of_getElem? h, q⟩) hall
    have hR : ∀ {a : Addr} {o : HO}, R a = some o → Rc a = some o := fun {a o} z => hRc' (rep.apart a o z).1 (fun hm => (rep.apart a o z).2 (hsub a hm)) (rep.keep a o z)
    have hA' : ∀ {k : Nat}, k < Ap.length → A'[k]? = Ap[k]? := fun {k} hk => by
      obtain ⟨t, rfl⟩ := p
      rw [List.getElem?_append_left hk]
    have hApA' : ∀ a ∈ Ap, a ∈ A' := fun a ha => p.subset ha
    have lc : cs'.length = A'.length := by
      have := rep'.lenA
      simpa using this
    -- the caller's state behind the call
    have back : Rep K R F' A σ H' ⟨e.sl, putS (objs ss) cs' e.st⟩ := by
      refine ⟨rep'.sub, fun a o z => rep'.keep a o (hR z), fun a o z => ⟨(rep'.apart a o (hR z)).1, (rep.apart a o z).2⟩, rep.len, by rw [putS_len]; exact rep.lenA, rep.nodup, fun a ha => ?_, fun i t z => ?_, fun j ds z => ?_⟩
      · obtain ⟨o, ho⟩ := rep.live a ha
        cases hf : F a with
        | some u => exact ⟨u, rep'.sub _ _ (l _ _ hf)⟩
        | none =>
          by_cases hm : a ∈ Ap
          · exact rep'.live a (hApA' a hm)
          · exact ⟨o, rep'.keep _ _ (hRc' hf hm ho)⟩
      · obtain ⟨u, h1, h2⟩ := rep.slot i t z
        exact ⟨u, h1, h2.le l (pfx_refl A)⟩
      · rcases putS_at z nd with ⟨m, c, h1, h2, h3⟩ | ⟨h1, h2⟩
        · cases h3
          obtain ⟨a, ds', q1, q2, q3, q4, q5⟩ := hA m j h1
          obtain ⟨b, r1, r2, r3⟩ := rep'.store m ds (by rw [List.getElem?_map, h2] <;> rfl)
          have hm : m < Ap.length := by
            rw [hApl]
            exact (List.getElem?_eq_some_iff.mp h1).1
          rw [hA' hm, hAp m j a h1 q1] at r1
          cases r1
          exact ⟨a, q1, r2, r3.noM (mobs m ds h2)⟩
        · obtain ⟨a, q1, q2, q3⟩ := rep.store j ds h2
          have na : a ∉ Ap := fun hm => by
            obtain ⟨m, hm⟩ := List.getElem?_of_mem hm
            obtain ⟨j', r1, r2⟩ := hAp' m a hm
            have := nodup_at rep.nodup r2 q1
            subst this
            have hml : m < Ap.length := (List.getElem?_eq_some_iff.mp hm).1
            have := h1 m r1
            have h5 : Ap.length ≤ A'.length := p.length_le
            rw [List.getElem?_eq_none_iff] at this
            omega
          obtain ⟨o, ho⟩ := q3.some
          have zc := hRc' q2 na ho
          exact ⟨a, q1, (rep'.apart a _ zc).1, q3.le l (pfx_refl A) fun u e => by
            rw [ho] at e
            cases e
            exact rep'.keep _ _ zc⟩
    have fin' := fin.tr l (pfx_refl A)
    obtain ⟨v', hv', av⟩ := rep'.slot 0 s rfl
    have ev : some v = some v' := by simpa using hv'
    cases ev
    cases s with
    | val d => exact fin'.done back (s := .val d) k av
    | kn ds => exact fin'.done back (s := .kn ds) k av
    | exc d => exact k.elim
    | obj j =>
      replace k : (if j < (objs ss).length then False else match cs'[j]? with | some ds => own ds ⟨e.sl, putS (objs ss) cs' e.st⟩ Kp | none => False) := k
      split at k
      · exact k.elim
      · rename_i hj
        split at k
        · rename_i ds hd
          obtain ⟨b, e1, rfl⟩ := av
          obtain ⟨b', r1, r2, r3⟩ := rep'.store j ds (by rw [List.getElem?_map, hd] <;> rfl)
          rw [e1] at r1
          cases r1
          obtain ⟨o, ho⟩ := r3.some
          have nb : b ∉ Ap := fun hm => by
            obtain ⟨m, hm⟩ := List.getElem?_of_mem hm
            have hml : m < Ap.length := (List.getElem?_eq_some_iff.mp hm).1
            rw [← hA' hml] at hm
            have := nodup_at rep'.nodup hm e1
            omega
          have hbF : F b = none := by
            cases hf : F b with
            | none => rfl
            | some u =>
              rw [l _ _ hf] at r2
              cases r2
          have hH : H b = none := by
            cases hh : H b with
            | none => rfl
            | some u => exact absurd (List.mem_of_getElem? e1) (rep'.apart b u (hRc' hbF nb hh)).2
          exact hw back r2 (rep.keep.free hH) (fun hm => by
            obtain ⟨u, hu⟩ := rep.live b hm
            rw [hH] at hu
            cases hu) ho (by rw [← ho]; exact r3.noM (mobs j ds hd)) (mobs j ds hd) k fin'
        · exact k.elim
  · exact ho.elim
section
variable {X : Cx} {f : Addr} {fd : FuncData} {ps : List Str} {k : Nat} {p : VSp} {x : Str} {pp pos : Pos} {ex : Expr} {es : List Expr} {t : VTA}
theorem ve_callK {own : Ob → En → KE → Prop} (hw : FinW X.K own) (G : FnOk X.prog X.w X.K X.mg X.base CX0 k f fd ps (spV X.K p)) (hr : Room k X.A) (hg : Gl X x) (hm : X.mg x = some (.ref f)) (hk : PySem.W.keepIn X.K (.ref f) = true) (hb : Binds X.K fd ps [])
    (ha : VA X (ex :: es) t) (hdb : (x == ("__debug__" : Str)) = false := by decide) (he : starEach (ex :: es) X.env = (false, eval ex X.env) :: starEach es X.env := by rfl) (hpl : (backTo pos (starEach es X.env)).any (·.1) = false := by rfl) :
    VE X (.Call (.Name x pp) (ex :: es) [] pos) (vN (opCallK own p) t) := PE.imp (pe_call G hr hg hm hk hb .nil pass0 ha hdb he hpl) (liftN (p_call hw))
end
abbrev opCall := opCallK ownD
abbrev opCallO := opCallK ownO
end Vl
namespace Vl
open PySem L2 PySem.Spec PyProof.Rows
/-! x or y, x and y, not x, by truth -/
def truOk : D → Prop
  | .str x => x.length ≤ sizeLine
  | .dict _ => False
  | _ => True
def truB : D → Bool
  | .none => false
  | .bool b => b
  | .int i => i != 0
  | .str s => (s.length : Int) != 0
  | .list ds => !ds.isEmpty
  | .tuple ds => !ds.isEmpty
  | .dict _ => false
theorem tru_at {K : PySem.W.Frag} {R F : Hp} {A : List Addr} {σ : L2.St} {H : Hp} {e : En} {X : Cx} {x : V} {s : Sl} {d : D} (rep : Rep X.K R F A σ H e) (a : SlAt X.K F A x s) (h : pk s e = some d) (ok : truOk d) : TruV X.K x H (truB d) := by
  have p := rep.pk a h
  cases d with
  | none =>
    rw [p.none]
    rfl
  | bool b =>
    rw [p.bool]
    rfl
  | int i =>
    rw [p.int]
    rfl
  | str z =>
    rw [p.str]
    exact ⟨ok, rfl⟩
  | list ds =>
    obtain ⟨q, xs, rfl, h1, h2⟩ := p
    exact .inl ⟨xs, h1, empty_at (X := X) h2⟩
  | tuple ds =>
    obtain ⟨q, xs, rfl, h1, h2⟩ := p.tup
    exact .inr (.inl ⟨xs, sqT_le rep.sub h1, empty_at (X := X) h2⟩)
  | dict _ => exact ok.elim
def vOrG (ta tb : VTE) : VTE := fun e Kp => ta e fun s e1 => match pk s e1 with
  | some d => truOk d ∧ if truB d = true then Kp s e1 else tb e1 Kp
  | none => False
def vAndG (ta tb : VTE) : VTE := fun e Kp => ta e fun s e1 => match pk s e1 with
  | some d => truOk d ∧ if truB d = true then tb e1 Kp else Kp s e1
  | none => False
def opNotG (s : Sl) (e : En) (Kp : KE) : Prop := match pk s e with
  | some d => truOk d ∧ Kp (.val (.bool (!truB d))) e
  | none => False
section
variable {X : Cx} {a b c : Expr} {ta tb tc : VTE} {pos : Pos}
theorem ve_orG {rest : List Expr} (ha : VE X a ta) (hb : VE X (.BoolOp .Or (b :: rest) pos) tb) : VE X (.BoolOp .Or (a :: b :: rest) pos) (vOrG ta tb) := PE.imp (pe_orT ha hb) fun σ H Q q => by
  obtain ⟨R, F, A, e, Kp, rep, ht, fin⟩ := q
  refine ⟨R, F, A, e, _, rep, ht, fun s1 e1 x F1 A1 H1 k1 f1 p1 rep1 at1 => ?_⟩
  split at k1
  · rename_i d hd
    refine ⟨truB d, tru_at (K := X.K) rep1 at1 hd k1.1, ?_⟩
    have k2 := k1.2
    cases q : truB d with
    | true =>
      rw [q] at k2
      exact (fin.tr f1 p1).done rep1 k2 at1
    | false =>
      rw [q] at k2
      exact ⟨R, F1, A1, e1, Kp, rep1, k2, fin.tr f1 p1⟩
  · exact k1.elim
theorem ve_andG {rest : List Expr} (ha : VE X a ta) (hb : VE X (.BoolOp .And (b :: rest) pos) tb) : VE X (.BoolOp .And (a :: b :: rest) pos) (vAndG ta tb) := PE.imp (pe_andT ha hb) fun σ H Q q => by
  obtain ⟨R, F, A, e, Kp, rep, ht, fin⟩ := q
  refine ⟨R, F, A, e, _, rep, ht, fun s1 e1 x F1 A1 H1 k1 f1 p1 rep1 at1 => ?_⟩
  split at k1
  · rename_i d hd
    refine ⟨truB d, tru_at (K := X.K) rep1 at1 hd k1.1, ?_⟩
    have k2 := k1.2
    cases q : truB d with
    | false =>
      rw [q] at k2
      exact (fin.tr f1 p1).done rep1 k2 at1
    | true =>
      rw [q] at k2
      exact ⟨R, F1, A1, e1, Kp, rep1, k2, fin.tr f1 p1⟩
  · exact k1.elim
theorem ve_notG (ha : VE X a ta) : VE X (.UnaryOp .Not a pos) (v1 opNotG ta) := PE.imp (pe_notT ha) fun σ H Q q => by
  obtain ⟨R, F, A, e, Kp, rep, ht, fin⟩ := q
  refine ⟨R, F, A, e, _, rep, ht, fun s1 e1 x F1 A1 H1 k1 f1 p1 rep1 at1 => ?_⟩
  have k1' : (match pk s1 e1 with | some d => truOk d ∧ Kp (.val (.bool (!truB d))) e1 | none => False) := k1
  split at k1'
  · rename_i d hd
    exact ⟨truB d, tru_at (K := X.K) rep1 at1 hd k1'.1, (fin.tr f1 p1).val rep1 k1'.2 (.bl _)⟩
  · exact k1'.elim
/-! a < b < c -/
def vChain (o1 o2 : Sl → Sl → En → KE → Prop) (ta tb tc : VTE) : VTE := fun e Kp => ta e fun s1 e1 => tb e1 fun s2 e2 => o1 s1 s2 e2 fun s e3 => match pk s e3 with
  | some (.bool k) => if k = true then tc e3 fun s3 e4 => o2 s2 s3 e4 Kp else Kp (.val (.bool false)) e3
  | _ => False
theorem ve_chain {op op' : CmpOp} {r r' : R2} {o1 o2 : Sl → Sl → En → KE → Prop} (p1 : Prim2 X.K r o1) (p2 : Prim2 X.K r' o2) (ho : OpR X (compareOp op) r) (ho' : OpR X (compareOp op') r') (ha : VE X a ta) (hb : VE X b tb) (hc : VE X c tc)
    (hm : lastMarks [op, op'] [b, c] = false := by with_unfolding_all rfl) : VE X (.Compare a [op, op'] [b, c] pos) (vChain o1 o2 ta tb tc) := PE.imp (pe_chain ho ho' ha hb hc hm) fun σ H Q q => by
  obtain ⟨R, F, A, e, Kp, rep, ht, fin⟩ := q
  refine ⟨R, F, A, e, _, rep, ht, fun s1 e1 x F1 A1 H1 k1 f1 q1 rep1 at1 => ⟨R, F1, A1, e1, _, rep1, k1, fun s2 e2 y F2 A2 H2 k2 f2 q2 rep2 at2 => ?_⟩⟩
  refine p1 rep2 (at1.le f2 q2) at2 k2 fun s e3 z F3 A3 H3 k3 f3 q3 rep3 at3 => ?_
  split at k3
  · rename_i k hk
    refine ⟨k, (rep3.pk at3 hk).bool, ?_⟩
    have lf := (f1.trans f2).trans f3
    have pf := (q1.trans q2).trans q3
    cases k with
    | false => exact (fin.tr lf pf).val rep3 k3 (.bl false)
    | true => exact ⟨R, F3, A3, e3, _, rep3, k3, fun s4 e4 w F4 A4 H4 k4 f4 q4 rep4 at4 => p2 rep4 (at2.le (f3.trans f4) (q3.trans q4)) at4 k4 (fin.tr (lf.trans f4) (pf.trans q4))⟩
  · exact k3.elim
/-! tests by comparisons -/
theorem vt_eq (hu : X.A.units + 190 < cLine) (ha : VE X a ta) (hb : VE X b tb) (hm : behindInMarks .Eq b = false := by exact nomark _) : VT X (.Compare a [.Eq] [b] pos) (vTest (v2 (opEq false) ta tb)) := vt_cmp p_eq (op_eq2 hu) ha hb hm
theorem vt_ne (hu : X.A.units + 190 < cLine) (ha : VE X a ta) (hb : VE X b tb) (hm : behindInMarks .NotEq b = false := by exact nomark _) : VT X (.Compare a [.NotEq] [b] pos) (vTest (v2 (opEq true) ta tb)) := vt_cmp p_eq (op_ne2 hu) ha hb hm
theorem vt_lt (ha : VE X a ta) (hb : VE X b tb) (hm : behindInMarks .Lt b = false := by exact nomark _) : VT X (.Compare a [.Lt] [b] pos) (vTest (v2 opLt ta tb)) := vt_cmp p_lt (op_lt.or op_lt_str) ha hb hm
theorem vt_le (ha : VE X a ta) (hb : VE X b tb) (hm : behindInMarks .LtE b = false := by exact nomark _) : VT X (.Compare a [.LtE] [b] pos) (vTest (v2 opLe ta tb)) := vt_cmp (p_i0 (g := gLe) fun _ _ _ => .bl _) op_le ha hb hm
theorem vt_gt (ha : VE X a ta) (hb : VE X b tb) (hm : behindInMarks .Gt b = false := by exact nomark _) : VT X (.Compare a [.Gt] [b] pos) (vTest (v2 opGt ta tb)) := vt_cmp (p_i0 (g := gGt) fun _ _ _ => .bl _) op_gt ha hb hm
theorem vt_ge (ha : VE X a ta) (hb : VE X b tb) (hm : behindInMarks .GtE b = false := by exact nomark _) : VT X (.Compare a [.GtE] [b] pos) (vTest (v2 opGe ta tb)) := vt_cmp (p_i0 (g := gGe) fun _ _ _ => .bl _) op_ge ha hb hm
theorem vt_isN (ha : VE X a ta) (hb : VE X b tb) (hm : behindInMarks .Is b = false := by exact nomark _) : VT X (.Compare a [.Is] [b] pos) (vTest (v2 (opIsN false) ta tb)) := vt_cmp p_isN op_isN ha hb hm
theorem vt_notN (ha : VE X a ta) (hb : VE X b tb) (hm : behindInMarks .IsNot b = false := by exact nomark _) : VT X (.Compare a [.IsNot] [b] pos) (vTest (v2 (opIsN true) ta tb)) := vt_cmp p_notN op_notN ha hb hm
/-! in, also of a tuple of flat things -/
def flatD : D → Bool
  | .none => true
  | .bool _ => true
  | .int _ => true
  | .str _ => true
  | _ => false
theorem flat_at {K : PySem.W.Frag} {F : Hp} {v : V} : ∀ {d : D}, flatD d = true → At K F d v → v = sV d ∧ flatV v = true
  | .none, _, h => by
    cases h
    exact ⟨rfl, rfl⟩
  | .bool _, _, h => by
    cases h
    exact ⟨rfl, rfl⟩
  | .int _, _, h => by
    cases h
    exact ⟨rfl, rfl⟩
  | .str _, _, h => by
    cases h
    exact ⟨rfl, rfl⟩
theorem flat_eqv {c d : D} (h1 : flatD c = true) (h2 : flatD d = true) : eqV (sV c) (sV d) = PyData.eqv c d := by
  cases c <;> cases d <;> first | rfl | simp_all [flatD] | (simp only [sV, eqV, PyData.eqv])
theorem inV_at {K : PySem.W.Frag} {F : Hp} {d : D} {v : V} (hd : flatD d = true) (a : At K F d v) : ∀ {ds : List D} {vs : List V}, ds.all flatD = true → AtL K F ds vs → inV v vs = (ds.any fun z => PyData.eqv z d) ∧ vs.all flatV = true
  | [], _, _, h => by
    cases h
    exact ⟨rfl, rfl⟩
  | c :: ds, _, f, h => by
    cases h with
    | cons h1 h2 =>
      rw [List.all_cons, Bool.and_eq_true] at f
      obtain ⟨e1, e2⟩ := inV_at hd a f.2 h2
      obtain ⟨g1, g2⟩ := flat_at f.1 h1
      obtain ⟨g3, g4⟩ := flat_at hd a
      refine ⟨?_, by rw [List.all_cons, g2, e2] <;> rfl⟩
      show (eqV _ v || inV v _) = (PyData.eqv c d || _)
      rw [e1, g1, g3, flat_eqv f.1 hd]
def opIn3 (neg : Bool) (s1 s2 : Sl) (e : En) (Kp : KE) : Prop := match pk s1 e, pk s2 e with
  | some d, some (.tuple ds) => flatD d = true ∧ ds.all flatD = true ∧ Kp (.val (.bool (if neg then !ds.any (fun z => PyData.eqv z d) else ds.any fun z => PyData.eqv z d))) e
  | _, _ => opIn neg s1 s2 e Kp
def rIn3 (K : PySem.W.Frag) : R2 := fun x y H Q => rIn K false x y H Q ∨ rIn2 K x y H Q
def rNotIn3 (K : PySem.W.Frag) : R2 := fun x y H Q => rIn K true x y H Q ∨ rNotIn2 K x y H Q
theorem p_in3 {K : PySem.W.Frag} : Prim2 K (rIn3 K) (opIn3 false) := by
  intro R F A σ H e x y s1 s2 Kp Q rep a1 a2 ho fin
  unfold opIn3 at ho
  split at ho
  · rename_i d ds h1 h2
    obtain ⟨q, xs, rfl, q1, q2⟩ := (rep.pk a2 h2).tup
    have pd := rep.pk a1 h1
    have ad : At K F d x := by
      cases d <;> first | exact pd | exact absurd ho.1 (by simp [flatD])
    obtain ⟨g1, g2⟩ := inV_at ho.1 ad ho.2.1 q2
    refine .inl ⟨q, xs, rfl, .inr (sqT_le rep.sub q1), (flat_at ho.1 ad).2, g2, ?_⟩
    rw [g1]
    exact fin.val rep ho.2.2 (.bl _)
  · exact .inr (p_in rep a1 a2 ho fin)
theorem p_notIn3 {K : PySem.W.Frag} : Prim2 K (rNotIn3 K) (opIn3 true) := by
  intro R F A σ H e x y s1 s2 Kp Q rep a1 a2 ho fin
  unfold opIn3 at ho
  split at ho
  · rename_i d ds h1 h2
    obtain ⟨q, xs, rfl, q1, q2⟩ := (rep.pk a2 h2).tup
    have pd := rep.pk a1 h1
    have ad : At K F d x := by
      cases d <;> first | exact pd | exact absurd ho.1 (by simp [flatD])
    obtain ⟨g1, g2⟩ := inV_at ho.1 ad ho.2.1 q2
    refine .inl ⟨q, xs, rfl, .inr (sqT_le rep.sub q1), (flat_at ho.1 ad).2, g2, ?_⟩
    rw [g1]
    exact fin.val rep ho.2.2 (.bl _)
  · exact .inr (p_notIn rep a1 a2 ho fin)
theorem op_in3 (hu : X.A.units + 190 < cLine) : OpR X (compareOp .In) (rIn3 X.K) := op_in_seq.or (op_in2 hu)
theorem op_notIn3 (hu : X.A.units + 190 < cLine) : OpR X (compareOp .NotIn) (rNotIn3 X.K) := op_notIn_seq.or (op_notIn2 hu)
theorem ve_in3 (hu : X.A.units + 190 < cLine) (ha : VE X a ta) (hb : VE X b tb) (hm : behindInMarks .In b = false := by first | rfl | exact nomark _) : VE X (.Compare a [.In] [b] pos) (v2 (opIn3 false) ta tb) := ve_cmp p_in3 (op_in3 hu) ha hb hm
theorem ve_notIn3 (hu : X.A.units + 190 < cLine) (ha : VE X a ta) (hb : VE X b tb) (hm : behindInMarks .NotIn b = false := by first | rfl | exact nomark _) : VE X (.Compare a [.NotIn] [b] pos) (v2 (opIn3 true) ta tb) := ve_cmp p_notIn3 (op_notIn3 hu) ha hb hm
theorem vt_in (hu : X.A.units + 190 < cLine) (ha : VE X a ta) (hb : VE X b tb) (hm : behindInMarks .In b = false := by first | rfl | exact nomark _) : VT X (.Compare a [.In] [b] pos) (vTest (v2 (opIn3 false) ta tb)) := vt_cmp p_in3 (op_in3 hu) ha hb hm
theorem vt_notIn (hu : X.A.units + 190 < cLine) (ha : VE X a ta) (hb : VE X b tb) (hm : behindInMarks .NotIn b = false := by first | rfl | exact nomark _) : VT X (.Compare a [.NotIn] [b] pos) (vTest (v2 (opIn3 true) ta tb)) := vt_cmp p_notIn3 (op_notIn3 hu) ha hb hm
/-! xs[::-1]; xs * k -/
def opRev (s : Sl) (e : En) (Kp : KE) : Prop := match pk s e with
  | some (.list ds) => Kp (.val (.list ds.reverse)) e
  | _ => False
theorem AtL.rev {K : PySem.W.Frag} {F : Hp} {ds : List D} {vs : List V} (h : AtL K F ds vs) : AtL K F ds.reverse vs.reverse := by
  induction ds generalizing vs with
  | nil =>
    cases h
    exact .nil
  | cons d ds ih =>
    cases h with
    | cons h1 h2 =>
      rw [List.reverse_cons, List.reverse_cons]
      exact (ih h2).app (AtL.one h1)
theorem ve_rev {k : Nat} {p1 p2 p3 : Pos} (ha : VE X a ta) : VE X (.Subscript a (.Slice none none (some (.UnaryOp .USub (.Constant (.int 1) k p1) p2)) p3) pos) (v1 opRev ta) := PE.imp (pe_revL ha) (lift1 fun {R F A σ H e x s Kp Q} rep a1 ho fin => by
  unfold opRev at ho
  split at ho
  · rename_i ds h1
    obtain ⟨q, xs, rfl, q1, q2⟩ := rep.pk a1 h1
    exact ⟨q, xs, rfl, q1, fun p hp => fin.newL rep hp ho q2.rev⟩
  · exact ho.elim)
def reps (k : Nat) (ds : List D) : List D := (List.replicate k ds).flatten
theorem AtL.reps {K : PySem.W.Frag} {F : Hp} {ds : List D} {vs : List V} (h : AtL K F ds vs) : ∀ k : Nat, AtL K F (Vl.reps k ds) (List.replicate k vs).flatten
  | 0 => .nil
  | k + 1 => by
    show AtL K F (List.replicate (k + 1) ds).flatten _
    rw [List.replicate_succ, List.replicate_succ, List.flatten_cons, List.flatten_cons]
    exact h.app (AtL.reps h k)
def opMul2 (s1 s2 : Sl) (e : En) (Kp : KE) : Prop := match pkm s1 e, pk s2 e with
  | some (.int i), some (.int j) => CMul i j ∧ Kp (.val (.int (i * j))) e
  | some (.list ds), some (.int k) => -(2 ^ 63) ≤ k ∧ k < 2 ^ 63 ∧ ds.length * k.toNat ≤ sizeLine ∧ Kp (.val (.list (reps k.toNat ds))) e
  | _, _ => False
theorem p_mul2 {K : PySem.W.Frag} : Prim2 K (fun x y H Q => rI CMul (fun i j => .int (i * j)) x y H Q ∨ rRep x y H Q) opMul2 := by
  intro R F A σ H e x y s1 s2 Kp Q rep a1 a2 ho fin
  unfold opMul2 at ho
  split at ho
  · rename_i i j h1 h2
    exact .inl ⟨i, j, (rep.pkm a1 h1).int, (rep.pk a2 h2).int, ho.1, fin.val rep ho.2 (.int _)⟩
  · rename_i ds k h1 h2
    obtain ⟨l, xs, rfl, q1, q2⟩ := rep.pkm a1 h1
    exact .inr ⟨l, k, xs, rfl, (rep.pk a2 h2).int, q1, ho.1, ho.2.1, by rw [q2.len]; exact ho.2.2.1, fun p hp => fin.newL rep hp ho.2.2.2 (q2.reps _)⟩
  · exact ho.elim
theorem ve_mul2 (ha : VE X a ta) (hb : VE X b tb) : VE X (.BinOp a .Mult b pos) (v2 opMul2 ta tb) := ve_op p_mul2 (op_mul.or op_rep) ha hb
/-! isinstance -/
def tyD : D → String
  | .none => "NoneType"
  | .bool _ => "bool"
  | .int _ => "int"
  | .str _ => "str"
  | .list _ => "list"
  | .tuple _ => "tuple"
  | .dict _ => "dict"
theorem ty_at {K : PySem.W.Frag} {R F : Hp} {A : List Addr} {σ : L2.St} {H : Hp} {e : En} {x : V} {s : Sl} {d : D} (rep : Rep K R F A σ H e) (a : SlAt K F A x s) (h : pk s e = some d) : TyX K H x (.type (tyD d)) := by
  have p := rep.pk a h
  cases d with
  | none =>
    rw [p.none]
    exact .base .non
  | bool b =>
    rw [p.bool]
    exact .base (.bl b)
  | int i =>
    rw [p.int]
    exact .base (.int i)
  | str z =>
    rw [p.str]
    exact .base (.str z)
  | list ds =>
    obtain ⟨q, xs, rfl, h1, h2⟩ := p
    rcases h1 with (h1 | ⟨o, h1⟩) | ⟨o, its, n, h1, h3, _⟩
    · exact .base (.lst h1)
    · exact .base (.frz h1)
    · exact .kList h1 h3
  | tuple ds =>
    obtain ⟨q, xs, rfl, h1, h2⟩ := p.tup
    rcases sqT_le rep.sub h1 with (h1 | ⟨o, h1⟩) | ⟨o, its, n, h1, h3, _⟩
    · exact .base (.tup h1)
    · exact .fTuple h1
    · exact .kTuple h1 h3
  | dict _ =>
    have p' : At K F (.dict _) x := p
    cases p' with
    | dct h1 => exact .base (.dK (rep.sub _ _ h1))
def vIsi (T : String) (ta : VTE) : VTE := fun e Kp => ta e fun s e1 => match pk s e1 with
  | some d => ∃ b, kitB (tyD d) T = some b ∧ Kp (.val (.bool b)) e1
  | none => False
theorem ve_isi {T : String} {x : Str} {p p2 : Pos} (hg : Gl X "isinstance") (hm : X.mg "isinstance" = none) (hgT : Gl X x) (hmT : X.mg x = none) (hv : bootBuiltins x = some (.type T)) (ha : VE X a ta) (hn : x ≠ "__name__" := by decide) (hdb : (x == ("__debug__" : Str)) = false := by decide)
    (hs : starEach [a, .Name x p2] X.env = (false, eval a X.env) :: starEach [.Name x p2] X.env := by rfl) (hs2 : starEach [.Name x p2] X.env = (false, eval (.Name x p2) X.env) :: starEach [] X.env := by rfl) (hpl : (backTo pos (starEach [.Name x p2] X.env)).any (·.1) = false := by rfl) :
    VE X (.Call (.Name "isinstance" p) [a, .Name x p2] [] pos) (vIsi T ta) :=
  PE.imp (pe_callB call_isi hg hm (by decide +kernel) (pa_cons ha (pa_cons (pe_bltn (v := .ty T) (u := .type T) hgT hmT hv rfl hn hdb) pa_nil hs2) hs) (by decide) (by decide) hs hpl) fun σ H Q q => by
    obtain ⟨R, F, A, e, Kp, rep, ht, fin⟩ := q
    refine ⟨R, F, A, e, _, rep, ht, fun s1 e1 x F1 A1 H1 k1 f1 p1 rep1 at1 => ?_⟩
    split at k1
    · rename_i d hd
      obtain ⟨b, h1, h2⟩ := k1
      exact ⟨x, .ty T, .type (tyD d), .type T, b, rfl, .ty T, ty_at rep1 at1 hd, kit_ty h1, (fin.tr f1 p1).val rep1 h2 (.bl b)⟩
    · exact k1.elim
/-! x += n -/
def vAug (g : Int → Int → Int) (i : Nat) (t : VTE) : VTS := fun D e => match e.sl[i]? with
  | some (some (.val (.int k))) => t e fun s e1 => (match pk s e1 with
    | some (.int j) => D.nx ⟨e1.sl.set i (some (.val (.int (g k j)))), e1.st⟩
    | _ => False)
  | _ => False
theorem vs_aug {i : Nat} {x : Str} {ex : Expr} {t : VTE} {op : Operator} {g : Int → Int → Int} {pos' : Pos} (hN : X.N.Nodup) (hi : X.N[i]? = some x) (hx : Loc X.env.scope x) (he : VE X ex t) (ho : PIp X op (ipI g)) (hp : ∀ {te : TE}, PE X ex te → PS X (.AugAssign (.Name x pos') op ex pos) (tAug i te (ipI g))) :
    VS X (.AugAssign (.Name x pos') op ex pos) (vAug g i t) := PS.imp (hp he) fun D σ H h => by
  obtain ⟨R, F, A, e, DV, rep, k, fin⟩ := h
  have k' : (match e.sl[i]? with | some (some (.val (.int k))) => t e fun s e1 => (match pk s e1 with | some (.int j) => DV.nx ⟨e1.sl.set i (some (.val (.int (g k j)))), e1.st⟩ | _ => False) | _ => False) := k
  split at k'
  · rename_i n hn
    obtain ⟨v, h1, h2⟩ := rep.slot i _ hn
    cases (show At X.K F (.int n) v from h2)
    refine ⟨.int n, h1, R, F, A, e, _, rep, k', fun s e1 y F1 A1 H1 k1 l1 p1 rep1 a1 => ?_⟩
    split at k1
    · rename_i j hj
      exact ⟨n, j, rfl, (rep1.pk a1 hj).int, fin.nx _ _ _ _ _ k1 l1 p1 (rep1.put (s := .val (.int (g n j))) (.int _))⟩
    · exact k1.elim
  · exact k'.elim
/-! texts -/
def txts : List D → Option (List Str)
  | [] => some []
  | .str x :: ds => (txts ds).map (x :: ·)
  | _ => none
theorem txts_at {K : PySem.W.Frag} {F : Hp} : ∀ {ds : List D} {vs : List V} {ys : List Str}, txts ds = some ys → AtL K F ds vs → vs = ys.map V.str
  | [], _, _, h, a => by
    cases h
    cases a
    rfl
  | .str x :: ds, _, ys, h, a => by
    have h' : (txts ds).map (x :: ·) = some ys := h
    obtain ⟨zs, hz, rfl⟩ := Option.map_eq_some_iff.mp h'
    cases a with
    | cons a1 a2 =>
      cases a1
      rw [txts_at hz a2] <;> rfl
  | .none :: _, _, _, h, _ => by cases h
  | .bool _ :: _, _, _, h, _ => by cases h
  | .int _ :: _, _, _, h, _ => by cases h
  | .list _ :: _, _, _, h, _ => by cases h
  | .tuple _ :: _, _, _, h, _ => by cases h
  | .dict _ :: _, _, _, h, _ => by cases h
def opJoin (s : Sl) (ss : List Sl) (e : En) (Kp : KE) : Prop := match pk s e, ss with
  | some (.str z), [t] => (match pk t e with
    | some (.list ds) => ∃ ys, txts ds = some ys ∧ (ys.map (·.length)).sum + ys.length * z.length ≤ 16777216 ∧ Kp (.val (.str (Txt.join z ys))) e
    | _ => False)
  | _, _ => False
theorem p_join {K : PySem.W.Frag} : PrimM K "str" (fun x xs H Q => ∃ a p, ∃ ys : List Str, x = .str a ∧ xs = [.ref p] ∧ (SqL K H p (ys.map V.str) ∨ SqT K H p (ys.map V.str)) ∧ (ys.map (·.length)).sum + ys.length * a.length ≤ 16777216 ∧ Q (.str (Txt.join a ys)) H) opJoin := by
  intro R F A σ H e x s xs ss Kp Q rep a0 a1 ho fin
  unfold opJoin at ho
  split at ho
  · rename_i z t hz
    obtain ⟨y, rfl, a2⟩ := a1.one
    split at ho
    · rename_i ds hd
      obtain ⟨ys, h1, h2, h3⟩ := ho
      obtain ⟨p, vs, rfl, q1, q2⟩ := rep.pk a2 hd
      rw [txts_at h1 q2] at q1
      exact ⟨z, p, ys, (rep.pk a0 hz).str, rfl, .inl q1, h2, fin.val rep h3 (.str _)⟩
    · exact ho.elim
  · exact ho.elim
/-- sorted(xs) of texts -/
def opSortS (ss : List Sl) (e : En) (Kp : KE) : Prop := match ss with
  | [s] => (match pk s e with
    | some (.list ds) => ∃ xs, txts ds = some xs ∧ xs.length < 64 ∧ ∀ ys : List Str, ys.Perm xs → sortedS ys = true → Kp (.val (.list (ys.map .str))) e
    | _ => False)
  | _ => False
theorem strs_at {K : PySem.W.Frag} {F : Hp} : ∀ ys : List Str, AtL K F (ys.map PyData.str) (ys.map V.str)
  | [] => .nil
  | y :: ys => .cons (.str y) (strs_at ys)
theorem ve_sortS {p : Pos} {t : VTA} (hg : Gl X "sorted") (hm : X.mg "sorted" = none) (ha : VA X [a] t) (he : starEach [a] X.env = (false, eval a X.env) :: starEach [] X.env := by rfl) : VE X (.Call (.Name "sorted" p) [a] [] pos) (vN opSortS t) := ve_blt (fun {R F A σ H e xs ss Kp Q} rep a1 ho fin => by
  unfold opSortS at ho
  split at ho
  · obtain ⟨x, rfl, a2⟩ := a1.one
    split at ho
    · rename_i ds h1
      obtain ⟨zs, h2, h3, h4⟩ := ho
      obtain ⟨q, ys, rfl, q1, q2⟩ := rep.pk a2 h1
      rw [txts_at h2 q2] at q1
      exact ⟨q, zs, rfl, q1, h3, fun ys' p hp1 hp2 hp => fin.newL rep hp (h4 ys' hp1 hp2) (strs_at ys')⟩
    · exact ho.elim
  · exact ho.elim) cr_sortedS hg hm (by decide +kernel) ha (by decide) (by decide) he
/-! a def by its name -/
structure VFn (P : Program) (w : World) (K : PySem.W.Frag) (mg : Str → Option Value) (base : Heap) (k : Nat) (x : Str) (ps : List Str) (p : VSp) : Prop where
  ex : ∃ f fd, FnOk P w K mg base CX0 k f fd ps (spV K p) ∧ PySem.W.keepIn K (.ref f) = true ∧ Binds K fd ps [] ∧ mg x = some (.ref f)
theorem VFn.mono {P : Program} {w : World} {K : PySem.W.Frag} {mg : Str → Option Value} {base : Heap} {j k : Nat} {x : Str} {ps : List Str} {p : VSp} (h : VFn P w K mg base j x ps p) (l : j ≤ k) : VFn P w K mg base k x ps p := by
  obtain ⟨f, fd, a, b, c, d⟩ := h.ex
  exact ⟨f, fd, a.mono l, b, c, d⟩
theorem spV_imp {K : PySem.W.Frag} {p p' : VSp} (h : ∀ ss st Kp, p' ss st Kp → p ss st Kp) : ∀ vs H Q E, spV K p' vs H Q E → spV K p vs H Q E := fun vs H Q E ⟨R, F, A, ss, st, Kp, r, q, z⟩ => ⟨R, F, A, ss, st, Kp, r, h _ _ _ q, z⟩
/-- a weaker promise -/
theorem VFn.imp {P : Program} {w : World} {K : PySem.W.Frag} {mg : Str → Option Value} {base : Heap} {k : Nat} {x : Str} {ps : List Str} {p p' : VSp} (h : VFn P w K mg base k x ps p) (g : ∀ ss st Kp, p' ss st Kp → p ss st Kp) : VFn P w K mg base k x ps p' := by
  obtain ⟨f, fd, a, b, c, d⟩ := h.ex
  exact ⟨f, fd, a.imp (spV_imp g), b, c, d⟩
theorem ve_call {own : Ob → En → KE → Prop} {j k : Nat} {x : Str} {ps : List Str} {p : VSp} {pp : Pos} {es : List Expr} {t : VTA} (hw : FinW X.K own) (G : VFn X.prog X.w X.K X.mg X.base k x ps p) (hr : Room j X.A) (hk : k ≤ j) (hg : Gl X x)
    (ha : VA X (a :: es) t) (hdb : (x == ("__debug__" : Str)) = false := by decide) (he : starEach (a :: es) X.env = (false, eval a X.env) :: starEach es X.env := by rfl) (hpl : (backTo pos (starEach es X.env)).any (·.1) = false := by rfl) :
    VE X (.Call (.Name x pp) (a :: es) [] pos) (vN (opCallK own p) t) := by
  obtain ⟨f, fd, h1, h2, h3, h4⟩ := G.ex
  exact ve_callK hw h1 (hr.mono hk) hg h4 h2 h3 ha hdb he hpl
theorem opCall0 {K : PySem.W.Frag} {p : VSp} {own : Ob → En → KE → Prop} (hw : FinW K own) {E : XK} (σ : L2.St) (H : Hp) (Q : VK) (h : liftE K (fun e Kp => opCallK own p [] e Kp) σ H Q) : spV K p ([] ++ []) H Q E := by
  obtain ⟨R, F, A, e, Kp, rep, ht, fin⟩ := h
  exact p_call hw (xs := []) (ss := []) rep .nil ht fin
def vCall0 (own : Ob → En → KE → Prop) (p : VSp) : VTE := fun e Kp => opCallK own p [] e Kp
theorem ve_call0 {own : Ob → En → KE → Prop} {j k : Nat} {x : Str} {ps : List Str} {p : VSp} {pp : Pos} (hw : FinW X.K own) (G : VFn X.prog X.w X.K X.mg X.base k x ps p) (hr : Room j X.A) (hk : k ≤ j) (hg : Gl X x)
    (hdb : (x == ("__debug__" : Str)) = false := by decide) : VE X (.Call (.Name x pp) [] [] pos) (vCall0 own p) := by
  obtain ⟨f, fd, h1, h2, h3, h4⟩ := G.ex
  exact PE.imp (pe_call0 h1 (hr.mono hk) hg h4 h2 h3 .nil pass0 hdb) fun σ H Q h => opCall0 (E := E0) hw σ H Q h
/-- what built-in names mean in the module -/
structure Blt (mg : Str → Option Value) : Prop where
  len : mg "len" = none
  max : mg "max" = none
  min : mg "min" = none
  range : mg "range" = none
  int : mg "int" = none
  str : mg "str" = none
  list : mg "list" = none
  tuple : mg "tuple" = none
  bool : mg "bool" = none
  sorted : mg "sorted" = none
  enumerate : mg "enumerate" = none
  zip : mg "zip" = none
  isinstance : mg "isinstance" = none
  all : mg "all" = none
  any : mg "any" = none
  sum : mg "sum" = none
  dict : mg "dict" = none
  set : mg "set" = none
  divmod : mg "divmod" = none
  reversed : mg "reversed" = none
  repr : mg "repr" = none
end
end Vl
namespace Vl
open PySem L2 PySem.Spec PyProof.Rows
/-- a module's constant -/
structure VConst (K : PySem.W.Frag) (mg : Str → Option Value) (x : Str) (d : D) : Prop where
  ex : ∃ v u, mg x = some u ∧ RelV v u ∧ ∀ F, At K F d v
theorem ve_const {X : Cx} {x : Str} {d : D} {pos : Pos} (h : VConst X.K X.mg x d) (hg : Gl X x) (hdb : (x == ("__debug__" : Str)) = false := by decide) : VE X (.Name x pos) (vC d) := by
  obtain ⟨v, u, h1, h2, h3⟩ := h.ex
  exact ve_glob hg h1 h2 h3 hdb
/-- a def whose promise asks what can't be -/
theorem vac {P : Program} {w : World} {K : PySem.W.Frag} {mg : Str → Option Value} {base : Heap} {x qual : Str} {st : Stmt} {f : Addr} {fd : FuncData} {N ps : List Str} {k : Nat} {p : VSp} (F : Fun K x qual st f fd) (S : FnScope N ps (defScope st)) (no : ∀ ss st Kp, ¬ p ss st Kp) :
    FnOk P w K mg base CX0 (k + 1) f fd ps (spV K p) := by
  refine F.ok S (fun vs H Q E h => ?_) fun cdv A outer s H vs Q E hr h => ?_
  · obtain ⟨R, F, A, ss, st, Kp, rep, hp, _⟩ := h
    exact absurd hp (no _ _ _)
  · obtain ⟨R, F, A, ss, st, Kp, rep, hp, _⟩ := h
    exact absurd hp (no _ _ _)
end Vl
namespace Vl
open PySem L2 PySem.Spec PyProof.Rows
/-! readings that reckon -/
def kOpt (o : Option D) (k : D → Prop) : Prop := match o with
  | some d => k d
  | none => False
theorem kOpt_some {d : D} {k : D → Prop} : kOpt (some d) k = k d := rfl
theorem kOpt_none {k : D → Prop} : kOpt none k = False := rfl
theorem kOpt_ex {o : Option D} {k : D → Prop} (h : kOpt o k) : ∃ d, o = some d ∧ k d := by
  cases o with
  | none => exact h.elim
  | some d => exact ⟨d, rfl, h⟩
def xIx (s1 s2 : Sl) (e : En) (Kp : KE) : Prop := match pk s1 e, pk s2 e with
  | some (.tuple ds), some (.int i) => kOpt (atI ds i) fun d => Kp (.val d) e
  | some (.list ds), some (.int i) => kOpt (atI ds i) fun d => Kp (.val d) e
  | some (.str z), some (.int i) => ∃ c, z.length ≤ sizeLine ∧ atI z.cps.toList i = some c ∧ Kp (.val (.str ⟨#[c]⟩)) e
  | _, _ => False
theorem p_xix {K : PySem.W.Frag} : Prim2 K (rIx K) xIx := by
  intro R F A σ H e x y s1 s2 Kp Q rep a1 a2 ho fin
  refine p_ix rep a1 a2 ?_ fin
  unfold xIx at ho
  unfold opIx
  split at ho
  · rename_i ds i h1 h2
    first | exact kOpt_ex ho | (rw [h1, h2]; exact kOpt_ex ho)
  · rename_i ds i h1 h2
    first | exact kOpt_ex ho | (rw [h1, h2]; exact kOpt_ex ho)
  · rename_i z i h1 h2
    first | exact ho | (rw [h1, h2]; exact ho)
  · exact ho.elim
def xPop (s : Sl) (ss : List Sl) (e : En) (Kp : KE) : Prop := match s with
  | .obj j => (match e.st[j]? with
    | some (some (.l ds)) => kOpt ds.getLast? fun d => Kp (.val d) ⟨e.sl, e.st.set j (some (.l ds.dropLast))⟩
    | _ => False)
  | _ => False
theorem p_xpop {K : PySem.W.Frag} : PrimM K "list" (fun x vs H Q => vs = [] → rPop x vs H Q) xPop := by
  intro R F A σ H e x s xs ss Kp Q rep a0 a1 ho fin hv
  refine p_pop rep a0 a1 ?_ fin hv
  unfold xPop at ho
  unfold opPop
  split at ho
  · rename_i j
    split at ho
    · rename_i ds hd
      first | exact kOpt_ex ho | (dsimp only; rw [hd]; exact kOpt_ex ho)
    · exact ho.elim
  · exact ho.elim
def kOpn (o : Option Nat) (k : Nat → Prop) : Prop := match o with
  | some d => k d
  | none => False
theorem kOpn_some {d : Nat} {k : Nat → Prop} : kOpn (some d) k = k d := rfl
theorem kOpn_ex {o : Option Nat} {k : Nat → Prop} (h : kOpn o k) : ∃ d, o = some d ∧ k d := by
  cases o with
  | none => exact h.elim
  | some d => exact ⟨d, rfl, h⟩
def xgSub (to ti : VTE) : VTG := fun s e Kp => to e fun so e1 => ti e1 fun si e2 => asD s e2 fun d e3 => match so with
  | .obj j => (match pk si e3 with
    | some (.int k) => (match e3.st[j]? with
      | some (some (.l ds)) => kOpn (ixN ds.length k) fun n => Kp ⟨e3.sl, e3.st.set j (some (.l (ds.set n d)))⟩
      | _ => False)
    | _ => False)
  | _ => False
theorem asD_imp {s : Sl} {e : En} {k k' : D → En → Prop} (f : ∀ d e, k d e → k' d e) (h : asD s e k) : asD s e k' := by
  cases s with
  | val d => exact f _ _ h
  | kn ds => exact h.elim
  | exc d => exact h.elim
  | obj j =>
    have h' : (match e.st[j]? with | some (some (.l ds)) => k (.list ds) (e.kill j ds) | _ => False) := h
    show (match e.st[j]? with | some (some (.l ds)) => k' (.list ds) (e.kill j ds) | _ => False)
    split at h'
    · exact f _ _ h'
    · exact h'.elim
section
variable {X : Cx} {a b o i : Expr} {ta tb to ti : VTE} {pos : Pos}
theorem ve_xix (ha : VE X a ta) (hb : VE X b tb) (hs : PlainIx b := by exact fun _ _ => rfl) : VE X (.Subscript a b pos) (v2 xIx ta tb) := ve_ixR p_xix ix_seq ha hb hs
theorem ve_xpop {apos cpos : Pos} (ho : VE X o to) (hbase : attributeBase o "pop" X.env (eval o X.env) = eval o X.env := by rfl) (hline : (apos.endLine == cpos.line) = true := by rfl) :
    VE X (.Call (.Attribute o "pop" apos) [] [] cpos) (vM0 "list" xPop to) := PE.imp (pe_bm0 PySem.F.plainAttrs_list PySem.F.slot_list_pop PySem.F.type_list_pop mt_pop ho hbase hline) fun σ H Q h => by
  obtain ⟨R, F, A, e, Kp, rep, ht, fin⟩ := h
  exact ⟨R, F, A, e, _, rep, ht, fun s1 e1 x F1 A1 H1 k1 f1 p1 rep1 at1 => ⟨isT_ty rep1 at1 k1.1, p_xpop rep1 at1 .nil k1.2 (fin.tr f1 p1) rfl⟩⟩
def MonoE (t : VTE) : Prop := ∀ e (k k' : KE), (∀ s e, k s e → k' s e) → t e k → t e k'
theorem vg_xsub (mo : MonoE to) (mi : MonoE ti) (ho : VE X o to) (hi : VE X i ti) (hp : ∀ {u w : TE}, PE X o u → PE X i w → PG X (.Subscript o i pos) (gSub u w rSetL)) : VG X (.Subscript o i pos) [] (xgSub to ti) := PG.imp (vg_sub ho hi hp) fun v σ H Q h => by
  obtain ⟨R, F, A, e, s, Kp, rep, a, k, fin⟩ := h
  refine ⟨R, F, A, e, s, Kp, rep, a, ?_, fin⟩
  refine mo _ _ _ (fun so e1 k1 => mi _ _ _ (fun si e2 k2 => asD_imp (fun d e3 k3 => ?_) k2) k1) k
  cases so with
  | val _ => exact False.elim k3
  | kn _ => exact False.elim k3
  | exc _ => exact False.elim k3
  | obj j =>
    replace k3 : (match pk si e3 with | some (.int k) => (match e3.st[j]? with | some (some (.l ds)) => kOpn (ixN ds.length k) fun n => Kp ⟨e3.sl, e3.st.set j (some (.l (ds.set n d)))⟩ | _ => False) | _ => False) := k3
    show (match pk si e3 with | some (.int k) => (match e3.st[j]? with | some (some (.l ds)) => ∃ n, ixN ds.length k = some n ∧ Kp ⟨e3.sl, e3.st.set j (some (.l (ds.set n d)))⟩ | _ => False) | _ => False)
    split at k3
    · split at k3
      · exact kOpn_ex k3
      · exact k3.elim
    · exact k3.elim
theorem mono_var (i : Nat) : MonoE (vVar i) := fun e k k' f h => by
  have h' : (match e.sl[i]? with | some (some s) => k s e | _ => False) := h
  show (match e.sl[i]? with | some (some s) => k' s e | _ => False)
  split at h'
  · exact f _ _ h'
  · exact h'.elim
theorem mono_c (d : D) : MonoE (vC d) := fun e k k' f h => f _ _ h
end
end Vl
namespace Vl
open PySem L2 PySem.Spec PyProof.Rows
/-- how a def ends -/
def dV (n : Nat) (Kp : Sl → List Ob → Prop) : VEnds := { nx := fun e => ret n (.val .none) e Kp, rt := fun s e => ret n s e Kp }
theorem dV_nx (n Kp e) : (dV n Kp).nx e = ret n (.val .none) e Kp := rfl
theorem dV_rt (n Kp s e) : (dV n Kp).rt s e = ret n s e Kp := rfl
/-- a def of the module -/
structure Df (K : PySem.W.Frag) (mg : Str → Option Value) (x : Str) (st : Stmt) (ps : List Str) : Prop where
  ex : ∃ f fd, Fun K x x st f fd ∧ Binds K fd ps [] ∧ mg x = some (.ref f)
section
variable {P : Program} {w : World} {K : PySem.W.Frag} {mg : Str → Option Value} {base : Heap}
theorem okF {x : Str} {st : Stmt} {N ps : List Str} {k : Nat} {p : VSp} {t : VTS} (Fd : Df K mg x st ps) (S : FnScope N ps (defScope st)) (len : ∀ ss st Kp, p ss st Kp → ss.length = ps.length)
    (hb : ∀ {f : Addr} {cdv : Value} {A : Around} {outer : List Env} {s : Shared} {H : Hp} {E : XK}, Room k (A.deeper (envOfC x (defScope st) s.heap.objs.size f cdv)) → VSs (cxOf CX0 P w K mg base N x (defScope st) f cdv A outer s H E).nox (defBody st) t)
    (rd : ∀ ss cs Kp, p ss cs Kp → t (dV cs.length Kp) ⟨startV N.length ss, cs.map some⟩) : VFn P w K mg base (k + 1) x ps p := by
  obtain ⟨f, fd, F, b, g⟩ := Fd.ex
  exact ⟨f, fd, okV F S len fun cdv A outer s H E hr => ⟨t, hb hr, rd⟩, F.kp, b, g⟩
theorem vacF {x : Str} {st : Stmt} {N ps : List Str} {k : Nat} {p : VSp} (Fd : Df K mg x st ps) (S : FnScope N ps (defScope st)) (no : ∀ ss st Kp, ¬ p ss st Kp) : VFn P w K mg base (k + 1) x ps p := by
  obtain ⟨f, fd, F, b, g⟩ := Fd.ex
  exact ⟨f, fd, vac F S no, F.kp, b, g⟩
end
theorem at0 {x : D} {xs : List D} : atI (x :: xs) 0 = some x := atI_nat (j := 0) rfl
theorem at1 {x y : D} {xs : List D} : atI (x :: y :: xs) 1 = some y := atI_nat (j := 1) rfl
theorem at2 {x y z : D} {xs : List D} : atI (x :: y :: z :: xs) 2 = some z := atI_nat (j := 2) rfl
theorem at3 {x y z u : D} {xs : List D} : atI (x :: y :: z :: u :: xs) 3 = some u := atI_nat (j := 3) rfl
theorem ix20 : ixN 2 0 = some 0 := rfl
theorem ix21 : ixN 2 1 = some 1 := rfl
theorem map_inj' {α β : Type} {f : α → β} (h : ∀ x y, f x = f y → x = y) : ∀ {a b : List α}, a.map f = b.map f → a = b
  | [], [], _ => rfl
  | [], _ :: _, e => by simp at e
  | _ :: _, [], e => by simp at e
  | x :: a, y :: b, e => by
    simp only [List.map_cons, List.cons.injEq] at e
    rw [h _ _ e.1, map_inj' h e.2]
theorem ofs_inj (a b : String) : (Str.ofString a = Str.ofString b) = (a = b) := by
  refine propext ⟨fun h => ?_, fun h => by rw [h]⟩
  rw [Str.ofString_eq_toList, Str.ofString_eq_toList] at h
  have h1 : a.toList.map Char.toNat = b.toList.map Char.toNat := by
    have := congrArg (fun s => s.cps.toList) h
    simpa using this
  exact String.toList_inj.mp (map_inj' (fun x y e => Char.ext (UInt32.toNat_inj.mp e)) h1)
theorem ofs_app (a b : String) : Str.ofString a ++ Str.ofString b = Str.ofString (a ++ b) := by
  rw [Str.ofString_eq_toList, Str.ofString_eq_toList, Str.ofString_eq_toList, String.toList_append, List.map_append]
  show Str.mk _ = Str.mk _
  congr 1
  simp
theorem ofs_len (a : String) : (Str.ofString a).length = a.length := by
  rw [Str.ofString_eq_toList]
  show (a.toList.map Char.toNat).toArray.size = _
  simp [String.length_toList]
def okEq : D → D → Prop
  | .int _, .int _ => True
  | .str _, .str _ => True
  | d, c => shp d = true ∧ shp c = true
theorem okEq_of {d c : D} (h1 : shp d = true) (h2 : shp c = true) : okEq d c := by
  unfold okEq
  split <;> first | trivial | exact ⟨h1, h2⟩
def xEq (neg : Bool) (s1 s2 : Sl) (e : En) (Kp : KE) : Prop := match pk s1 e, pk s2 e with
  | some d, some c => okEq d c ∧ Kp (.val (.bool (if neg then !PyData.eqv d c else PyData.eqv d c))) e
  | _, _ => False
theorem xEq_of {neg : Bool} {s1 s2 : Sl} {e : En} {Kp : KE} (h : xEq neg s1 s2 e Kp) : opEq neg s1 s2 e Kp := by
  unfold xEq at h
  unfold opEq
  split at h
  · rename_i d c h1 h2
    rw [h1, h2]
    split
    · rename_i i j a1 a2
      cases a1
      cases a2
      have q := h.2
      have z : PyData.eqv (.int i) (.int j) = decide (i = j) := Bool.eq_iff_iff.mpr (by show (i == j) = true ↔ _; simp)
      rw [z] at q
      exact q
    · rename_i i j a1 a2
      cases a1
      cases a2
      have q := h.2
      have z : PyData.eqv (.str i) (.str j) = decide (i = j) := Bool.eq_iff_iff.mpr (by show (i == j) = true ↔ _; simp)
      rw [z] at q
      exact q
    · rename_i d' c' n1 n2 a1 a2
      cases a1
      cases a2
      have q := h.1
      unfold okEq at q
      split at q
      · exact absurd rfl (n1 _ _ rfl)
      · exact absurd rfl (n2 _ _ rfl)
      · exact ⟨q.1, q.2, h.2⟩
    · rename_i n1
      exact n1 _ _ rfl rfl
  · exact h.elim
theorem p_xeq {K : PySem.W.Frag} {neg : Bool} : Prim2 K (rEq2 K neg) (xEq neg) := fun rep a1 a2 ho fin => p_eq rep a1 a2 (xEq_of ho) fin
section
variable {X : Cx} {a b : Expr} {ta tb : VTE} {pos : Pos}
theorem ve_xeq (hu : X.A.units + 190 < cLine) (ha : VE X a ta) (hb : VE X b tb) (hm : behindInMarks .Eq b = false := by exact nomark _) : VE X (.Compare a [.Eq] [b] pos) (v2 (xEq false) ta tb) := ve_cmp p_xeq (op_eq2 hu) ha hb hm
theorem ve_xne (hu : X.A.units + 190 < cLine) (ha : VE X a ta) (hb : VE X b tb) (hm : behindInMarks .NotEq b = false := by exact nomark _) : VE X (.Compare a [.NotEq] [b] pos) (v2 (xEq true) ta tb) := ve_cmp p_xeq (op_ne2 hu) ha hb hm
theorem vt_xeq (hu : X.A.units + 190 < cLine) (ha : VE X a ta) (hb : VE X b tb) (hm : behindInMarks .Eq b = false := by exact nomark _) : VT X (.Compare a [.Eq] [b] pos) (vTest (v2 (xEq false) ta tb)) := vt_cmp p_xeq (op_eq2 hu) ha hb hm
theorem vt_xne (hu : X.A.units + 190 < cLine) (ha : VE X a ta) (hb : VE X b tb) (hm : behindInMarks .NotEq b = false := by exact nomark _) : VT X (.Compare a [.NotEq] [b] pos) (vTest (v2 (xEq true) ta tb)) := vt_cmp p_xeq (op_ne2 hu) ha hb hm
end
theorem okEq_str (a b : Str) : okEq (.str a) (.str b) = True := rfl
theorem okEq_int (a b : Int) : okEq (.int a) (.int b) = True := rfl
/-! data is equal just where it is the same -/
theorem eqv_str (a b : Str) : PyData.eqv (.str a) (.str b) = decide (a = b) := by
  show (a == b) = _
  exact Bool.eq_iff_iff.mpr (by simp)
theorem eqvAll_cons (a b : D) (as bs : List D) : PyData.eqvAll (a :: as) (b :: bs) = (PyData.eqv a b && PyData.eqvAll as bs) := by
  rw [PyData.eqvAll]
theorem eqvAll_nil : PyData.eqvAll [] [] = true := by rw [PyData.eqvAll]
theorem eqv_tup (as bs : List D) : PyData.eqv (.tuple as) (.tuple bs) = PyData.eqvAll as bs := by rw [PyData.eqv]
theorem eqvAll_nc (b : D) (bs : List D) : PyData.eqvAll [] (b :: bs) = false := by rw [PyData.eqvAll]
theorem eqvAll_cn (b : D) (bs : List D) : PyData.eqvAll (b :: bs) [] = false := by rw [PyData.eqvAll]
theorem depthAll_nil : PyData.depthAll [] = 0 := by rw [PyData.depthAll]
theorem depthAll_cons (x : D) (xs : List D) : PyData.depthAll (x :: xs) = max x.depth (PyData.depthAll xs) := by rw [PyData.depthAll]
theorem depth_tup (xs : List D) : PyData.depth (.tuple xs) = PyData.depthAll xs + 1 := by rw [PyData.depth]
theorem depth_lst (xs : List D) : PyData.depth (.list xs) = PyData.depthAll xs + 1 := by rw [PyData.depth]
theorem depth_str (x : Str) : PyData.depth (.str x) = 0 := by rw [PyData.depth]
theorem depth_int (x : Int) : PyData.depth (.int x) = 0 := by rw [PyData.depth]
theorem can_tup (xs : List D) : PyData.canLay0 (.tuple xs) = PyData.canLayAll0 xs := by rw [PyData.canLay0]
theorem can_lst (xs : List D) : PyData.canLay0 (.list xs) = PyData.canLayAll0 xs := by rw [PyData.canLay0]
theorem can_str (x : Str) : PyData.canLay0 (.str x) = PyData.strOk x := by rw [PyData.canLay0]
theorem can_int (x : Int) : PyData.canLay0 (.int x) = true := by rw [PyData.canLay0]
theorem canAll_nil : PyData.canLayAll0 [] = true := by rw [PyData.canLayAll0]
theorem canAll_cons (x : D) (xs : List D) : PyData.canLayAll0 (x :: xs) = (x.canLay0 && PyData.canLayAll0 xs) := by rw [PyData.canLayAll0]
theorem cut1 (x : D) (xs : List D) : Vl.cut (x :: xs) (some 1) none = xs := by
  unfold Vl.cut HT.sIx
  simp
theorem eqv_int (a b : Int) : PyData.eqv (.int a) (.int b) = decide (a = b) := by
  show (a == b) = _
  exact Bool.eq_iff_iff.mpr (by simp)
theorem sz0 : (0 ≤ sizeLine) = True := eq_true (by decide)
theorem sz1 : (1 ≤ sizeLine) = True := eq_true (by decide)
theorem sz2 : (2 ≤ sizeLine) = True := eq_true (by decide)
theorem sz3 : (3 ≤ sizeLine) = True := eq_true (by decide)
theorem sz4 : (4 ≤ sizeLine) = True := eq_true (by decide)
theorem sz5 : (5 ≤ sizeLine) = True := eq_true (by decide)
theorem sz6 : (6 ≤ sizeLine) = True := eq_true (by decide)
theorem sz7 : (7 ≤ sizeLine) = True := eq_true (by decide)
theorem sz8 : (8 ≤ sizeLine) = True := eq_true (by decide)
theorem sz9 : (9 ≤ sizeLine) = True := eq_true (by decide)
theorem sz10 : (10 ≤ sizeLine) = True := eq_true (by decide)
theorem sz11 : (11 ≤ sizeLine) = True := eq_true (by decide)
theorem sz12 : (12 ≤ sizeLine) = True := eq_true (by decide)
theorem sz13 : (13 ≤ sizeLine) = True := eq_true (by decide)
theorem sz14 : (14 ≤ sizeLine) = True := eq_true (by decide)
theorem sz15 : (15 ≤ sizeLine) = True := eq_true (by decide)
theorem sz16 : (16 ≤ sizeLine) = True := eq_true (by decide)
theorem sz17 : (17 ≤ sizeLine) = True := eq_true (by decide)
theorem sz18 : (18 ≤ sizeLine) = True := eq_true (by decide)
theorem sz19 : (19 ≤ sizeLine) = True := eq_true (by decide)
theorem sz20 : (20 ≤ sizeLine) = True := eq_true (by decide)
theorem sz21 : (21 ≤ sizeLine) = True := eq_true (by decide)
theorem sz22 : (22 ≤ sizeLine) = True := eq_true (by decide)
theorem sz23 : (23 ≤ sizeLine) = True := eq_true (by decide)
theorem sz24 : (24 ≤ sizeLine) = True := eq_true (by decide)
theorem sz25 : (25 ≤ sizeLine) = True := eq_true (by decide)
theorem cpow1018 : CPow 10 18 = True := eq_true ⟨by decide, by decide, by decide⟩
theorem cmul_l {i j : Int} (h : -(2 ^ 64) < i ∧ i < 2 ^ 64) : CMul i j := .inl h
theorem cmul_r {i j : Int} (h : -(2 ^ 64) < j ∧ j < 2 ^ 64) : CMul i j := .inr h
end Vl
namespace Vl
open PySem L2 PySem.Spec PyProof.Rows
/-! is None -/
def isNone : D → Bool
  | .none => true
  | _ => false
theorem isNone_n : isNone .none = true := rfl
theorem isNone_t (ds : List D) : isNone (.tuple ds) = false := rfl
theorem isNone_l (ds : List D) : isNone (.list ds) = false := rfl
theorem isNone_i (i : Int) : isNone (.int i) = false := rfl
theorem isNone_s (i : Str) : isNone (.str i) = false := rfl
theorem vNext_mk (n r b c x e) : vNext ⟨n, r, b, c, x⟩ e = n e := rfl
def xIsN (neg : Bool) (s1 s2 : Sl) (e : En) (Kp : KE) : Prop := match pk s1 e, pk s2 e with
  | some d, some .none => Kp (.val (.bool (if neg then !isNone d else isNone d))) e
  | _, _ => False
theorem xIsN_of {neg : Bool} {s1 s2 : Sl} {e : En} {Kp : KE} (h : xIsN neg s1 s2 e Kp) : opIsN neg s1 s2 e Kp := by
  unfold xIsN at h
  unfold opIsN
  cases h1 : pk s1 e with
  | none =>
    rw [h1] at h
    exact h.elim
  | some d =>
    rw [h1] at h
    cases h2 : pk s2 e with
    | none =>
      rw [h2] at h
      exact h.elim
    | some c =>
      rw [h2] at h
      cases c <;> first | exact h.elim | skip
      cases d <;> cases neg <;> exact h
section
variable {X : Cx} {a b : Expr} {ta tb : VTE} {pos : Pos}
theorem p_xisN {K : PySem.W.Frag} : Prim2 K (fun x y H Q => y = .non ∧ Q (.bl (decide (x = .non))) H) (xIsN false) := fun rep a1 a2 ho fin => p_isN rep a1 a2 (xIsN_of ho) fin
theorem p_xnotN {K : PySem.W.Frag} : Prim2 K (fun x y H Q => y = .non ∧ Q (.bl (!decide (x = .non))) H) (xIsN true) := fun rep a1 a2 ho fin => p_notN rep a1 a2 (xIsN_of ho) fin
theorem ve_xisN (ha : VE X a ta) (hb : VE X b tb) (hm : behindInMarks .Is b = false := by exact nomark _) : VE X (.Compare a [.Is] [b] pos) (v2 (xIsN false) ta tb) := ve_cmp p_xisN op_isN ha hb hm
theorem ve_xnotN (ha : VE X a ta) (hb : VE X b tb) (hm : behindInMarks .IsNot b = false := by exact nomark _) : VE X (.Compare a [.IsNot] [b] pos) (v2 (xIsN true) ta tb) := ve_cmp p_xnotN op_notN ha hb hm
theorem vt_xisN (ha : VE X a ta) (hb : VE X b tb) (hm : behindInMarks .Is b = false := by exact nomark _) : VT X (.Compare a [.Is] [b] pos) (vTest (v2 (xIsN false) ta tb)) := vt_cmp p_xisN op_isN ha hb hm
theorem vt_xnotN (ha : VE X a ta) (hb : VE X b tb) (hm : behindInMarks .IsNot b = false := by exact nomark _) : VT X (.Compare a [.IsNot] [b] pos) (vTest (v2 (xIsN true) ta tb)) := vt_cmp p_xnotN op_notN ha hb hm
end
/-! in a tuple of flat things, in a list -/
def okIn (d : D) : D → Prop
  | .tuple ds => flatD d = true ∧ ds.all flatD = true
  | .list ds => SeqAt.shaped d = true ∧ SeqAt.shaped (.list ds) = true
  | _ => False
def inD (d : D) : D → Bool
  | .tuple ds => ds.any fun z => PyData.eqv z d
  | .list ds => ds.any fun z => PyData.eqv z d
  | _ => false
def xIn (neg : Bool) (s1 s2 : Sl) (e : En) (Kp : KE) : Prop := match pk s1 e, pk s2 e with
  | some d, some c => okIn d c ∧ Kp (.val (.bool (if neg then !inD d c else inD d c))) e
  | _, _ => False
theorem xIn_of {neg : Bool} {s1 s2 : Sl} {e : En} {Kp : KE} (h : xIn neg s1 s2 e Kp) : opIn3 neg s1 s2 e Kp := by
  unfold xIn at h
  unfold opIn3 opIn
  cases h1 : pk s1 e with
  | none =>
    rw [h1] at h
    exact h.elim
  | some d =>
    rw [h1] at h
    cases h2 : pk s2 e with
    | none =>
      rw [h2] at h
      exact h.elim
    | some c =>
      rw [h2] at h
      have h' : okIn d c ∧ Kp (.val (.bool (if neg then !inD d c else inD d c))) e := h
      cases c with
      | tuple ds => exact ⟨h'.1.1, h'.1.2, h'.2⟩
      | list ds => cases d <;> exact ⟨h'.1.1, h'.1.2, h'.2⟩
      | _ => exact h'.1.elim
section
variable {X : Cx} {a b : Expr} {ta tb : VTE} {pos : Pos}
theorem p_xin {K : PySem.W.Frag} : Prim2 K (rIn3 K) (xIn false) := fun rep a1 a2 ho fin => p_in3 rep a1 a2 (xIn_of ho) fin
theorem p_xnotIn {K : PySem.W.Frag} : Prim2 K (rNotIn3 K) (xIn true) := fun rep a1 a2 ho fin => p_notIn3 rep a1 a2 (xIn_of ho) fin
theorem ve_xin (hu : X.A.units + 190 < cLine) (ha : VE X a ta) (hb : VE X b tb) (hm : behindInMarks .In b = false := by first | rfl | exact nomark _) : VE X (.Compare a [.In] [b] pos) (v2 (xIn false) ta tb) := ve_cmp p_xin (op_in3 hu) ha hb hm
theorem ve_xnotIn (hu : X.A.units + 190 < cLine) (ha : VE X a ta) (hb : VE X b tb) (hm : behindInMarks .NotIn b = false := by first | rfl | exact nomark _) : VE X (.Compare a [.NotIn] [b] pos) (v2 (xIn true) ta tb) := ve_cmp p_xnotIn (op_notIn3 hu) ha hb hm
theorem vt_xin (hu : X.A.units + 190 < cLine) (ha : VE X a ta) (hb : VE X b tb) (hm : behindInMarks .In b = false := by first | rfl | exact nomark _) : VT X (.Compare a [.In] [b] pos) (vTest (v2 (xIn false) ta tb)) := vt_cmp p_xin (op_in3 hu) ha hb hm
theorem vt_xnotIn (hu : X.A.units + 190 < cLine) (ha : VE X a ta) (hb : VE X b tb) (hm : behindInMarks .NotIn b = false := by first | rfl | exact nomark _) : VT X (.Compare a [.NotIn] [b] pos) (vTest (v2 (xIn true) ta tb)) := vt_cmp p_xnotIn (op_notIn3 hu) ha hb hm
end
/-! a statement that is never reached -/
def vNever : VTS := fun _ _ => False
theorem vs_never {X : Cx} {st : Stmt} : VS X st vNever := PS.imp ps_never fun D σ H h => by
  obtain ⟨R, F, A, e, DV, rep, k, fin⟩ := h
  exact k
/-! equal data, more -/
theorem eqv_ti (as : List D) (i : Int) : PyData.eqv (.tuple as) (.int i) = false := by rw [PyData.eqv]
theorem eqv_it (as : List D) (i : Int) : PyData.eqv (.int i) (.tuple as) = false := by rw [PyData.eqv]
theorem eqv_st (as : List D) (i : Str) : PyData.eqv (.str i) (.tuple as) = false := by rw [PyData.eqv]
theorem eqv_ts (as : List D) (i : Str) : PyData.eqv (.tuple as) (.str i) = false := by rw [PyData.eqv]
theorem eqv_lst (as bs : List D) : PyData.eqv (.list as) (.list bs) = PyData.eqvAll as bs := by rw [PyData.eqv]
theorem eqv_nil (xs : List D) : PyData.eqv (.list xs) (.list []) = xs.isEmpty := by
  cases xs with
  | nil => rw [PyData.eqv, eqvAll_nil]; rfl
  | cons x xs => rw [PyData.eqv, eqvAll_cn]; rfl
/-! loops by what holds at their heads -/
theorem fl_inv {g : VTG} {tb : VTS} {chk : Option (En → Prop)} {n : Nat} {ds : List D} {DV : VEnds} (I : Nat → En → Prop) (hc : ∀ i e, i ≤ ds.length → I i e → okc chk e)
    (hs : ∀ (i : Nat) (d : D) (e : En) (Nx : En → Prop), ds[i]? = some d → I i e → (∀ e', I (i + 1) (e'.trim n) → Nx e') → g (.val d) e fun e1 => tb { DV with nx := Nx, ct := Nx, bk := DV.nx } e1)
    (hd : ∀ e, I ds.length e → DV.nx e) {e : En} (h0 : I 0 e) : fl g tb chk n ds DV e := by
  have wc : ∀ {e : En} {p : Prop}, okc chk e → p → wth chk e p := fun {e p} h q => by
    cases chk with
    | none => exact q
    | some c => exact ⟨h, q⟩
  suffices h : ∀ (m i : Nat) (e : En), m = ds.length - i → i ≤ ds.length → I i e → fl g tb chk n (ds.drop i) DV e by
    have := h ds.length 0 e (by simp) (Nat.zero_le _) h0
    simpa using this
  intro m
  induction m with
  | zero =>
    intro i e hm hi h
    have : i = ds.length := by omega
    subst this
    rw [List.drop_length]
    exact wc (hc _ _ hi h) (hd e h)
  | succ m ih =>
    intro i e hm hi h
    have hlt : i < ds.length := by omega
    rw [List.drop_eq_getElem_cons hlt]
    exact wc (hc _ _ hi h) (hs i _ e _ (List.getElem?_eq_getElem hlt) h fun e' h' => ih (i + 1) _ (by omega) hlt h')
theorem cl_inv {g : VTG} {tt : VTT} {te : VTE} {chk : Option (En → Prop)} {vs : List Nat} {n : Nat} {ds : List D} {Kp : List D → En → Prop} (I : Nat → List D → En → Prop) (hc : ∀ i acc e, i ≤ ds.length → I i acc e → okc chk e)
    (hs : ∀ (i : Nat) (d : D) (acc : List D) (e : En) (Kt : List D → En → Prop), ds[i]? = some d → I i acc e → (∀ acc' e', I (i + 1) acc' e' → Kt acc' e') → g (.val d) e fun e1 => tt e1 fun b e2 => if b = true then te e2 fun s e3 => asD s e3 fun y e4 => acc.length < sizeLine ∧ Kt (acc ++ [y]) ((e4.wipe vs).trim n) else Kt acc ((e2.wipe vs).trim n))
    (hd : ∀ acc e, I ds.length acc e → Kp acc e) {acc : List D} {e : En} (h0 : I 0 acc e) : cl g tt te chk vs n ds acc e Kp := by
  have wc : ∀ {e : En} {p : Prop}, okc chk e → p → wth chk e p := fun {e p} h q => by
    cases chk with
    | none => exact q
    | some c => exact ⟨h, q⟩
  suffices h : ∀ (m i : Nat) (acc : List D) (e : En), m = ds.length - i → i ≤ ds.length → I i acc e → cl g tt te chk vs n (ds.drop i) acc e Kp by
    have := h ds.length 0 acc e (by simp) (Nat.zero_le _) h0
    simpa using this
  intro m
  induction m with
  | zero =>
    intro i acc e hm hi h
    have : i = ds.length := by omega
    subst this
    rw [List.drop_length]
    exact wc (hc _ _ _ hi h) (hd acc e h)
  | succ m ih =>
    intro i acc e hm hi h
    have hlt : i < ds.length := by omega
    rw [List.drop_eq_getElem_cons hlt]
    exact wc (hc _ _ _ hi h) (hs i _ acc e (fun acc' e' => cl g tt te chk vs n (ds.drop (i + 1)) acc' e' Kp) (List.getElem?_eq_getElem hlt) h fun acc' e' h' => ih (i + 1) acc' e' (by omega) hlt h')
/-- a comprehension that takes all, each by itself -/
theorem cl_map {g : VTG} {te : VTE} {vs : List Nat} {n : Nat} {ds : List D} {Kp : List D → En → Prop} (f : D → D) {e : En} {acc : List D} (hl : acc.length + ds.length ≤ sizeLine)
    (hs : ∀ (d : D) (Kt : D → En → Prop), d ∈ ds → (∀ e', (e'.wipe vs).trim n = e → Kt (f d) e') → g (.val d) e fun e1 => te e1 fun s e3 => asD s e3 Kt) (h : Kp (acc ++ ds.map f) e) : cl g vYes te none vs n ds acc e Kp := by
  refine cl_inv (chk := none) (fun i a e' => a = acc ++ (ds.take i).map f ∧ e' = e) (fun _ _ _ _ _ => trivial) ?_ ?_ ⟨by simp, rfl⟩
  · rintro i d a e' Kt hd ⟨rfl, rfl⟩ hk
    have hlt := (List.getElem?_eq_some_iff.mp hd).1
    unfold vYes
    simp only [if_true]
    refine hs d (fun y e4 => (acc ++ (ds.take i).map f).length < sizeLine ∧ Kt (acc ++ (ds.take i).map f ++ [y]) ((e4.wipe vs).trim n)) (List.mem_of_getElem? hd) fun e4 h4 => ⟨?_, hk _ _ ⟨?_, h4⟩⟩
    · rw [List.length_append, List.length_map, List.length_take]
      omega
    · rw [List.take_add_one, hd, List.map_append, List.append_assoc] <;> rfl
  · rintro a e' ⟨rfl, rfl⟩
    rw [List.take_length]
    exact h
theorem while_inv {c : VTT} {tb : VTS} {DV : VEnds} {e : En} (I : Nat → En → Prop)
    (hs : ∀ (m : Nat) (e' : En) (Nx : En → Prop), I m e' → (∀ m' e'', m' < m → I m' (e''.trim e.st.length) → Nx e'') → c e' fun b e1 => if b = true then tb { DV with nx := Nx, ct := Nx, bk := DV.nx } e1 else DV.nx e1)
    {m : Nat} (h0 : I m e) : vWhile c tb DV e := by
  suffices h : ∀ (f m : Nat) (e' : En), m < f → I m e' → wl c tb e.st.length f DV e' from ⟨m + 1, h (m + 1) m e (Nat.lt_succ_self m) h0⟩
  intro f
  induction f with
  | zero => intro m e' h; omega
  | succ f ih => exact fun m e' h hI => hs m e' (fun e'' => wl c tb e.st.length f DV (e''.trim e.st.length)) hI fun m' e'' hm' h' => ih m' _ (by omega) h'
end Vl
namespace Vl
open PySem L2
/-! a < b <= c as a test -/
section
variable {X : Cx} {a b c : Expr} {ta tb tc : VTE} {pos : Pos}
theorem lift_chain {r r' : R2} {o o' : Sl → Sl → En → KE → Prop} (p : Prim2 X.K r o) (p' : Prim2 X.K r' o') (σ : L2.St) (H : Hp) (Q : VK) (h : liftE X.K (vChain o o' ta tb tc) σ H Q) : tChain r r' (liftE X.K ta) (liftE X.K tb) (liftE X.K tc) σ H Q := by
  obtain ⟨R, F, A, e, Kp, rep, ht, fin⟩ := h
  refine ⟨R, F, A, e, _, rep, ht, fun s1 e1 x F1 A1 H1 k1 f1 p1 rep1 at1 => ⟨R, F1, A1, e1, _, rep1, k1, fun s2 e2 y F2 A2 H2 k2 f2 p2 rep2 at2 => p rep2 (at1.le f2 p2) at2 k2 fun z e3 v F3 A3 H3 k3 f3 p3 rep3 at3 => ?_⟩⟩
  have fin3 := fin.tr (f1.trans (f2.trans f3)) (p1.trans (p2.trans p3))
  split at k3
  · rename_i b hb
    refine ⟨b, (rep3.pk at3 hb).bool, ?_⟩
    split at k3
    · rename_i hb2
      rw [if_pos hb2]
      exact ⟨R, F3, A3, e3, _, rep3, k3, fun s3 e4 w F4 A4 H4 k4 f4 p4 rep4 at4 => p' rep4 (at2.le (f3.trans f4) (p3.trans p4)) at4 k4 (fin3.tr f4 p4)⟩
    · rename_i hb2
      rw [if_neg hb2]
      exact fin3.val rep3 k3 (.bl false)
  · exact k3.elim
theorem vt_chain {op op' : CmpOp} {r r' : R2} {o o' : Sl → Sl → En → KE → Prop} (p : Prim2 X.K r o) (p' : Prim2 X.K r' o') (ho : OpR X (compareOp op) r) (ho' : OpR X (compareOp op') r') (ha : VE X a ta) (hb : VE X b tb) (hc : VE X c tc)
    (hm : lastMarks [op, op'] [b, c] = false := by with_unfolding_all rfl) : VT X (.Compare a [op, op'] [b, c] pos) (vTest (vChain o o' ta tb tc)) :=
  PT.imp (pt_chain ho ho' ha hb hc hm) fun σ H Q h => lift_chain p p' σ H _ (by
    obtain ⟨R, F, A, e, Kp, rep, ht, fin⟩ := h
    refine ⟨R, F, A, e, _, rep, ht, fun s1 e1 x F1 A1 H1 k1 f1 p1 rep1 at1 => ?_⟩
    split at k1
    · rename_i b hb
      exact ⟨b, (rep1.pk at1 hb).bool, fin b e1 F1 A1 H1 k1 f1 p1 rep1⟩
    · exact k1.elim)
end
open PySem.Spec PyProof.Rows PySem.Calls
/-! xs[lo::k] -/
def stp {α : Type} (L : List α) (lo : Option Int) (k : Int) : List α := (sliceRange (sliceBounds lo none (some k) L.length).1 (sliceBounds lo none (some k) L.length).2.1 (sliceBounds lo none (some k) L.length).2.2).filterMap (L[·]?)
theorem vals_get : ∀ {xs : List V} {us : List Value}, Vals xs us → ∀ i : Nat, (xs[i]? = none ∧ us[i]? = none) ∨ ∃ x u, xs[i]? = some x ∧ us[i]? = some u ∧ RelV x u
  | _, _, .nil, i => .inl ⟨by simp, by simp⟩
  | _, _, .cons r t, 0 => .inr ⟨_, _, rfl, rfl, r⟩
  | _, _, .cons r t, i + 1 => by
    simpa using vals_get t i
theorem vals_pick {xs : List V} {us : List Value} (h : Vals xs us) : ∀ is : List Nat, Vals (is.filterMap (xs[·]?)) (is.filterMap (us[·]?))
  | [] => .nil
  | i :: is => by
    rcases vals_get h i with ⟨a, b⟩ | ⟨x, u, a, b, r⟩
    · rw [List.filterMap_cons_none a, List.filterMap_cons_none b]
      exact vals_pick h is
    · rw [List.filterMap_cons_some a, List.filterMap_cons_some b]
      exact .cons r (vals_pick h is)
theorem atL_get {K : PySem.W.Frag} {F : Hp} : ∀ {ds : List D} {vs : List V}, AtL K F ds vs → ∀ i : Nat, (ds[i]? = none ∧ vs[i]? = none) ∨ ∃ d v, ds[i]? = some d ∧ vs[i]? = some v ∧ At K F d v
  | _, _, .nil, i => .inl ⟨by simp, by simp⟩
  | _, _, .cons r t, 0 => .inr ⟨_, _, rfl, rfl, r⟩
  | _, _, .cons r t, i + 1 => by
    simpa using atL_get t i
theorem atL_pick {K : PySem.W.Frag} {F : Hp} {ds : List D} {vs : List V} (h : AtL K F ds vs) : ∀ is : List Nat, AtL K F (is.filterMap (ds[·]?)) (is.filterMap (vs[·]?))
  | [] => .nil
  | i :: is => by
    rcases atL_get h i with ⟨a, b⟩ | ⟨x, u, a, b, r⟩
    · rw [List.filterMap_cons_none a, List.filterMap_cons_none b]
      exact atL_pick h is
    · rw [List.filterMap_cons_some a, List.filterMap_cons_some b]
      exact .cons r (atL_pick h is)
def tStp (K : PySem.W.Frag) (i : Int) (te : TE) (tl : TO) : TE := fun σ H Q => te σ H fun x H1 => tl σ H1 fun lo H2 => ∃ a xs, x = .ref a ∧ SqL K H2 a xs ∧ (stp xs lo i).length ≤ sizeLine ∧ ∀ p, H2 p = none → Q (.ref p) (upd H2 p (.lst (stp xs lo i)))
section
variable {X : Cx}
theorem pe_stp {e : Expr} {lo : Option Expr} {te : TE} {tl : TO} {k : Nat} {i : Int} {p1 p3 pos : Pos} (he : PE X e te) (hl : PO X lo tl) (hi : i ≠ 0) : PE X (.Subscript e (.Slice lo none (some (.Constant (.int i) k p1)) p3) pos) (tStp X.K i te tl) := by
  refine ⟨fun pins s σ H Q I h => ?_⟩
  refine Subscript_ (thn (he.run pins s σ H _ I h) fun v s1 ⟨x, H1, I1, r1, q1⟩ => ?_)
  have hst : PO X (some (.Constant (.int i) k p1)) (tPart (tC (.int i))) := po_some pe_int
  refine wpAny_Slice (thn (hl.run pins s1 σ H1 _ I1 q1) fun vl s2 ⟨l, H2, I2, pl, q2⟩ => ?_)
  obtain ⟨a, xs, ex, hx, hln, q⟩ := q2
  subst ex
  cases r1
  refine thn (po_none.run pins s2 σ H2 (fun o H3 => o = none ∧ H3 = H2) I2 ⟨rfl, rfl⟩) fun vu s3 ⟨u, H3, I3, pu, eu, e3⟩ => ?_
  subst eu e3
  refine thn (hst.run pins s3 σ H3 (fun o H4 => o = some i ∧ H4 = H3) I3 ⟨i, rfl, rfl, rfl⟩) fun vs s4 ⟨o, H4, I4, ps, eo, e4⟩ => ?_
  subst eo e4
  have I5 : Inv X pins σ H4 { s4 with heap := s4.heap.push { cls := .type "slice", data := .fields #[vl, vu, vs] } } := I4.kept (t' := s4.toks) fun b ob q => Heap.get?_push_of_some _ q
  obtain ⟨its, r, ht, hz⟩ := I5.list hx
  have hlen := r.length
  show wpAny (model X.prog X.w) X.A (subscriptTail e (.Slice lo none (some (.Constant (.int i) k p1)) p3) (.ref a) (.ref s4.heap.objs.size)) (EP X pins σ Q) X.xe { s4 with heap := s4.heap.push { cls := .type "slice", data := .fields #[vl, vu, vs] } }
  refine tail_any (ops := [.ref a, .ref s4.heap.objs.size]) ht.isList.typeIs (PySem.slot_list_getitem.lookup) ?_ (by with_unfolding_all rfl)
  refine wpAny_getItem_list_slice ht.isList (Heap.IsSliceOf.new _ vl vu vs) pl pu ps (by simpa using hi) ?_ (by rw [List.size_toArray]; omega)
  have e6 : slicePick its.toArray l none (some i) = (stp its l i).toArray := by
    unfold slicePick stp
    simp
  rw [e6]
  have e7 : Vals (stp xs l i) (stp its l i) := by
    unfold stp
    rw [← hlen]
    exact vals_pick r _
  refine ⟨.ref _, _, I5.laid (t' := s4.toks) (o := .lst (stp xs l i)) (fun b ob q => Heap.get?_push_of_some _ q) (Nat.le_refl _) ?_, rfl, q _ (I5.hok.fresh (Nat.le_refl _))⟩
  exact ⟨hln, _, 0, e7, Heap.get?_push_size _ rfl⟩
end
theorem atL_stp {K : PySem.W.Frag} {F : Hp} {ds : List D} {xs : List V} (h : AtL K F ds xs) (lo : Option Int) (k : Int) : AtL K F (stp ds lo k) (stp xs lo k) := by
  unfold stp
  rw [h.len]
  exact atL_pick h _
def vStp (i : Int) (ta : VTE) (tl : VTO) : VTE := fun e Kp => ta e fun s e1 => tl e1 fun l e2 => match pk s e2 with
  | some (.list ds) => (stp ds l i).length ≤ sizeLine ∧ Kp (.val (.list (stp ds l i))) e2
  | _ => False
section
variable {X : Cx} {a : Expr} {ta : VTE} {pos : Pos}
theorem ve_stp {lo : Option Expr} {tl : VTO} {k : Nat} {i : Int} {p1 p3 : Pos} (ha : VE X a ta) (hl : VO X lo tl) (hi : i ≠ 0) : VE X (.Subscript a (.Slice lo none (some (.Constant (.int i) k p1)) p3) pos) (vStp i ta tl) := PE.imp (pe_stp ha hl hi) fun σ H Q h => by
  obtain ⟨R, F, A, e, Kp, rep, ht, fin⟩ := h
  refine ⟨R, F, A, e, _, rep, ht, fun s1 e1 x F1 A1 H1 k1 f1 q1 rep1 at1 => ⟨R, F1, A1, e1, _, rep1, k1, fun l e2 F2 A2 H2 k2 f2 q2 rep2 => ?_⟩⟩
  split at k2
  · rename_i ds hd
    obtain ⟨q, xs, rfl, h1, h2⟩ := rep2.pk (at1.le f2 q2) hd
    have z := atL_stp h2 l i
    exact ⟨q, xs, rfl, h1, by rw [z.len]; exact k2.1, fun p hp => (fin.tr (f1.trans f2) (q1.trans q2)).newL rep2 hp k2.2 z⟩
  · exact k2.elim
end
/-! {} -/
theorem Fin.newD {K : PySem.W.Frag} {R F : Hp} {A : List Addr} {σ : L2.St} {H : Hp} {e : En} {Kp : KE} {Q : VK} (f : Fin K R F A σ Kp Q) (r : Rep K R F A σ H e) {p : Addr} (hp : H p = none) (k : Kp (.val (.dict [])) e) : Q (.ref p) (upd H p (.dK [])) := by
  obtain ⟨r2, l⟩ := r.fresh hp (.dK [])
  exact f (.val (.dict [])) e (.ref p) _ A _ k l (pfx_refl A) r2 (.dct upd_same)
def vDct : VTE := fun e Kp => Kp (.val (.dict [])) e
theorem ve_dct {X : Cx} {pos : Pos} : VE X (.Dict [] [] pos) vDct := PE.imp pe_dnewK fun σ H Q h => by
  obtain ⟨R, F, A, e, Kp, rep, ht, fin⟩ := h
  exact fun p hp => fin.newD rep hp ht
end Vl
namespace Vl
open PySem L2 PySem.Spec PyProof.Rows
/-! sum, insert, index, divmod -/
def intsD : List D → Option (List Int)
  | [] => some []
  | .int x :: ds => (intsD ds).map (x :: ·)
  | _ => none
theorem intsD_map (ns : List Int) : intsD (ns.map .int) = some ns := by
  induction ns with
  | nil => rfl
  | cons n ns ih =>
    show (intsD (ns.map .int)).map (n :: ·) = _
    rw [ih] <;> rfl
theorem intsD_at {K : PySem.W.Frag} {F : Hp} : ∀ {ds : List D} {vs : List V} {ys : List Int}, intsD ds = some ys → AtL K F ds vs → vs = ys.map V.int
  | [], _, _, h, a => by
    cases h
    cases a
    rfl
  | .int x :: ds, _, ys, h, a => by
    have h' : (intsD ds).map (x :: ·) = some ys := h
    obtain ⟨zs, hz, rfl⟩ := Option.map_eq_some_iff.mp h'
    cases a with
    | cons a1 a2 =>
      cases a1
      rw [intsD_at hz a2] <;> rfl
  | .none :: _, _, _, h, _ => by cases h
  | .bool _ :: _, _, _, h, _ => by cases h
  | .str _ :: _, _, _, h, _ => by cases h
  | .list _ :: _, _, _, h, _ => by cases h
  | .tuple _ :: _, _, _, h, _ => by cases h
  | .dict _ :: _, _, _, h, _ => by cases h
def kOps {α : Type} (o : Option α) (k : α → Prop) : Prop := match o with
  | some d => k d
  | none => False
theorem kOps_some {α : Type} {d : α} {k : α → Prop} : kOps (some d) k = k d := rfl
theorem kOps_ex {α : Type} {o : Option α} {k : α → Prop} (h : kOps o k) : ∃ d, o = some d ∧ k d := by
  cases o with
  | none => exact h.elim
  | some d => exact ⟨d, rfl, h⟩
def opSum (ss : List Sl) (e : En) (Kp : KE) : Prop := match ss with
  | [s] => (match pk s e with
    | some (.list ds) => kOps (intsD ds) fun ns => Kp (.val (.int ns.sum)) e
    | _ => False)
  | _ => False
section
variable {X : Cx} {a b o : Expr} {ta tb to : VTE} {pos : Pos}
theorem ve_sum {p : Pos} {t : VTA} (hc : X.calm = true) (hg : Gl X "sum") (hm : X.mg "sum" = none) (ha : VA X [a] t) (he : starEach [a] X.env = (false, eval a X.env) :: starEach [] X.env := by rfl) : VE X (.Call (.Name "sum" p) [a] [] pos) (vN opSum t) := ve_blt (fun {R F A σ H e xs ss Kp Q} rep a1 ho fin => by
  unfold opSum at ho
  split at ho
  · rename_i s
    obtain ⟨x, rfl, a2⟩ := a1.one
    split at ho
    · rename_i ds h1
      obtain ⟨ns, h2, h3⟩ := kOps_ex ho
      obtain ⟨q, ys, rfl, q1, q2⟩ := rep.pk a2 h1
      rw [intsD_at h2 q2] at q1
      exact ⟨q, ns, rfl, q1, fin.val rep h3 (.int _)⟩
    · exact ho.elim
  · exact ho.elim) (cr_sum hc) hg hm (by decide +kernel) ha (by decide) (by decide) he
def opInsert (s : Sl) (ss : List Sl) (e : En) (Kp : KE) : Prop := match ss with
  | [si, t] => (match pk si e with
    | some (.int i) => asD t e fun d e1 => (match s with
      | .obj j => (match e1.st[j]? with
        | some (some (.l ds)) => (ds.length < sizeLine ∧ 0 ≤ i ∧ i < 2 ^ 63) ∧ Kp (.val .none) ⟨e1.sl, e1.st.set j (some (.l (ds.take i.toNat ++ [d] ++ ds.drop i.toNat)))⟩
        | _ => False)
      | _ => False)
    | _ => False)
  | _ => False
theorem p_insert {K : PySem.W.Frag} : PrimM K "list" (fun x vs H Q => ∃ (l : Addr) (xs : List V) (i : Int) (y : V), x = .ref l ∧ vs = [.int i, y] ∧ H l = some (.lst xs) ∧ xs.length < sizeLine ∧ 0 ≤ i ∧ i < 2 ^ 63 ∧ Q .non (upd H l (.lst (xs.take i.toNat ++ [y] ++ xs.drop i.toNat)))) opInsert := by
  intro R F A σ H e x s xs ss Kp Q rep a0 a1 ho fin
  unfold opInsert at ho
  split at ho
  · rename_i si t
    obtain ⟨u, y, rfl, a2, a3⟩ := a1.two
    split at ho
    · rename_i i hi
      have ei := (rep.pk a2 hi).int
      subst ei
      obtain ⟨d, e1, F1, ho, rep1, l1, at1⟩ := rep.asD a3 ho
      cases s with
      | val _ => exact False.elim ho
      | kn _ => exact False.elim ho
      | exc _ => exact False.elim ho
      | obj j =>
        replace ho : (match e1.st[j]? with | some (some (.l ds)) => (ds.length < sizeLine ∧ 0 ≤ i ∧ i < 2 ^ 63) ∧ Kp (.val .none) ⟨e1.sl, e1.st.set j (some (.l (ds.take i.toNat ++ [d] ++ ds.drop i.toNat)))⟩ | _ => False) := ho
        split at ho
        · rename_i ds hd
          obtain ⟨q, ea, rfl⟩ := a0
          obtain ⟨b, ys, q1, q2, q3, q4⟩ := rep1.lst hd
          rw [ea] at q1
          cases q1
          exact ⟨q, ys, i, y, rfl, rfl, q3, by rw [q4.len]; exact ho.1.1, ho.1.2.1, ho.1.2.2, (fin.tr l1 (pfx_refl A)).chg rep1 ea hd (((q4.take _).app (AtL.one at1)).app (q4.drop _)) .non ho.2⟩
        · exact ho.elim
    · exact ho.elim
  · exact ho.elim
/-- where data stands first -/
def ixD (d : D) : List D → Option Nat
  | [] => none
  | z :: ds => if PyData.eqv z d = true then some 0 else (ixD d ds).map (· + 1)
theorem ixD_ok {d : D} : ∀ {ds : List D} {j : Nat}, ixD d ds = some j → ∃ z, ds[j]? = some z ∧ PyData.eqv z d = true ∧ ∀ (m : Nat) (z' : D), m < j → ds[m]? = some z' → PyData.eqv z' d = false
  | [], j, h => by cases h
  | z :: ds, j, h => by
    have h' : (if PyData.eqv z d = true then some 0 else (ixD d ds).map (· + 1)) = some j := h
    split at h'
    · rename_i hz
      cases h'
      exact ⟨z, rfl, hz, fun m z' hm => absurd hm (Nat.not_lt_zero m)⟩
    · rename_i hz
      obtain ⟨i, hi, rfl⟩ := Option.map_eq_some_iff.mp h'
      obtain ⟨y, h1, h2, h3⟩ := ixD_ok hi
      refine ⟨y, by simpa using h1, h2, fun m z' hm hz' => ?_⟩
      cases m with
      | zero =>
        simp at hz'
        subst hz'
        simpa using hz
      | succ m => exact h3 m z' (by omega) (by simpa using hz')
def opIndex (s : Sl) (ss : List Sl) (e : En) (Kp : KE) : Prop := match ss with
  | [t] => (match pk s e, pk t e with
    | some (.list ds), some d => (SeqAt.shaped (.list ds) = true ∧ SeqAt.shaped d = true) ∧ kOps (ixD d ds) fun j => Kp (.val (.int (j : Nat))) e
    | _, _ => False)
  | _ => False
theorem p_index {K : PySem.W.Frag} : PrimM K "list" (rIndexD K) opIndex := by
  intro R F A σ H e x s xs ss Kp Q rep a0 a1 ho fin
  unfold opIndex at ho
  split at ho
  · obtain ⟨y, rfl, a2⟩ := a1.one
    split at ho
    · rename_i ds d h1 h2
      obtain ⟨⟨s1, s2⟩, ho⟩ := ho
      obtain ⟨j, hj, k⟩ := kOps_ex ho
      obtain ⟨z, z1, z2, z3⟩ := ixD_ok hj
      obtain ⟨q, ys, rfl, q1, q2⟩ := rep.pk a0 h1
      have hd := Pk.dp rep.sub (d := .list ds) (SeqAt.canLay_of_shaped s1) ⟨q, ys, rfl, q1, q2⟩
      exact ⟨q, y, d, ds, j, z, rfl, rfl, hd, (rep.pk a2 h2).dp rep.sub (SeqAt.canLay_of_shaped s2), s1, s2, z1, z2, z3, fin.val rep k (.int _)⟩
    · exact ho.elim
  · exact ho.elim
def opDivmod (ss : List Sl) (e : En) (Kp : KE) : Prop := match ss with
  | [s, t] => (match pk s e, pk t e with
    | some (.int i), some (.int j) => CDiv6 i j ∧ Kp (.val (.tuple [.int (i / j), .int (i % j)])) e
    | _, _ => False)
  | _ => False
theorem ve_divmod {p : Pos} {t : VTA} (hg : Gl X "divmod") (hm : X.mg "divmod" = none) (ha : VA X [a, b] t) (he : starEach [a, b] X.env = (false, eval a X.env) :: starEach [b] X.env := by rfl) (hpl : (backTo pos (starEach [b] X.env)).any (·.1) = false := by rfl) : VE X (.Call (.Name "divmod" p) [a, b] [] pos) (vN opDivmod t) := ve_blt (fun {R F A σ H e xs ss Kp Q} rep a1 ho fin => by
  unfold opDivmod at ho
  split at ho
  · obtain ⟨x, y, rfl, a2, a3⟩ := a1.two
    split at ho
    · rename_i i j h1 h2
      exact ⟨i, j, by rw [(rep.pk a2 h1).int, (rep.pk a3 h2).int], ⟨ho.1.1, PyProof.noPylong_of_log2 ho.1.log⟩, fun q hq => fin.newT rep hq ho.2 (.cons (.int _) (AtL.one (.int _)))⟩
    · exact ho.elim
  · exact ho.elim) call_divmodW hg hm (by decide +kernel) ha (by decide) (by decide) he hpl
end
end Vl
namespace Vl
open PySem L2 PySem.Spec PyProof.Rows
/-! loops over what is written by a function -/
theorem cl_mapE {α : Type} {g : VTG} {te : VTE} {vs : List Nat} {n : Nat} {Kp : List D → En → Prop} (enc f : α → D) (xs : List α) {e : En} {acc : List D} (hl : acc.length + xs.length ≤ sizeLine)
    (hs : ∀ (x : α) (Kt : D → En → Prop), x ∈ xs → (∀ e', (e'.wipe vs).trim n = e → Kt (f x) e') → g (.val (enc x)) e fun e1 => te e1 fun s e3 => asD s e3 Kt) (h : Kp (acc ++ xs.map f) e) : cl g vYes te none vs n (xs.map enc) acc e Kp := by
  refine cl_inv (chk := none) (fun i a e' => a = acc ++ (xs.take i).map f ∧ e' = e) (fun _ _ _ _ _ => trivial) ?_ ?_ ⟨by simp, rfl⟩
  · rintro i d a e' Kt hd ⟨rfl, rfl⟩ hk
    rw [List.getElem?_map] at hd
    obtain ⟨x, hx, rfl⟩ := Option.map_eq_some_iff.mp hd
    have hlt := (List.getElem?_eq_some_iff.mp hx).1
    unfold vYes
    simp only [if_true]
    refine hs x (fun y e4 => (acc ++ (xs.take i).map f).length < sizeLine ∧ Kt (acc ++ (xs.take i).map f ++ [y]) ((e4.wipe vs).trim n)) (List.mem_of_getElem? hx) fun e4 h4 => ⟨?_, hk _ _ ⟨?_, h4⟩⟩
    · rw [List.length_append, List.length_map, List.length_take]
      omega
    · rw [List.take_add_one, hx, List.map_append, List.append_assoc] <;> rfl
  · rintro a e' ⟨rfl, rfl⟩
    rw [List.length_map, List.take_length]
    exact h
/-- .. with a test -/
theorem cl_filE {α : Type} {g : VTG} {tt : VTT} {te : VTE} {vs : List Nat} {n : Nat} {Kp : List D → En → Prop} (enc f : α → D) (p : α → Bool) (xs : List α) {e : En} {acc : List D} (hl : acc.length + xs.length ≤ sizeLine)
    (hs : ∀ (x : α) (Kt : D → En → Prop) (Kf : En → Prop), x ∈ xs → (∀ e', p x = true → (e'.wipe vs).trim n = e → Kt (f x) e') → (∀ e', p x = false → (e'.wipe vs).trim n = e → Kf e') → g (.val (enc x)) e fun e1 => tt e1 fun b e2 => if b = true then te e2 fun s e3 => asD s e3 Kt else Kf e2)
    (h : Kp (acc ++ (xs.filter p).map f) e) : cl g tt te none vs n (xs.map enc) acc e Kp := by
  refine cl_inv (chk := none) (fun i a e' => a = acc ++ ((xs.take i).filter p).map f ∧ e' = e) (fun _ _ _ _ _ => trivial) ?_ ?_ ⟨by simp, rfl⟩
  · rintro i d a e' Kt hd ⟨rfl, rfl⟩ hk
    rw [List.getElem?_map] at hd
    obtain ⟨x, hx, rfl⟩ := Option.map_eq_some_iff.mp hd
    have hlt := (List.getElem?_eq_some_iff.mp hx).1
    have lf : ((xs.take i).filter p).length ≤ i := Nat.le_trans (List.length_filter_le _ _) (by rw [List.length_take]; omega)
    refine hs x (fun y e4 => (acc ++ ((xs.take i).filter p).map f).length < sizeLine ∧ Kt (acc ++ ((xs.take i).filter p).map f ++ [y]) ((e4.wipe vs).trim n)) (fun e2 => Kt (acc ++ ((xs.take i).filter p).map f) ((e2.wipe vs).trim n)) (List.mem_of_getElem? hx) (fun e4 hp h4 => ⟨?_, hk _ _ ⟨?_, h4⟩⟩) fun e4 hp h4 => hk _ _ ⟨?_, h4⟩
    · rw [List.length_append, List.length_map]
      omega
    · rw [List.take_add_one, hx, List.filter_append, List.map_append, List.append_assoc]
      simp [hp]
    · rw [List.take_add_one, hx, List.filter_append]
      simp [hp]
  · rintro a e' ⟨rfl, rfl⟩
    rw [List.length_map, List.take_length]
    exact h
/-- a loop by what holds behind the first ones -/
theorem fl_invE {α : Type} {g : VTG} {tb : VTS} {chk : Option (En → Prop)} {n : Nat} (enc : α → D) (xs : List α) {DV : VEnds} (I : List α → En → Prop) (hc : ∀ ys e, I ys e → okc chk e)
    (hs : ∀ (ys : List α) (x : α) (zs : List α) (e : En) (Nx : En → Prop), xs = ys ++ x :: zs → I ys e → (∀ e', I (ys ++ [x]) (e'.trim n) → Nx e') → g (.val (enc x)) e fun e1 => tb { DV with nx := Nx, ct := Nx, bk := DV.nx } e1)
    (hd : ∀ e, I xs e → DV.nx e) {e : En} (h0 : I [] e) : fl g tb chk n (xs.map enc) DV e := by
  refine fl_inv (chk := chk) (fun i e => i ≤ xs.length ∧ I (xs.take i) e) (fun i e _ h => hc _ _ h.2) ?_ ?_ ⟨Nat.zero_le _, by simpa using h0⟩
  · rintro i d e Nx hdd ⟨hle, hI⟩ hk
    rw [List.getElem?_map] at hdd
    obtain ⟨x, hx, rfl⟩ := Option.map_eq_some_iff.mp hdd
    have hlt := (List.getElem?_eq_some_iff.mp hx).1
    refine hs (xs.take i) x (xs.drop (i + 1)) e Nx ?_ hI fun e' h' => hk e' ⟨hlt, ?_⟩
    · have : xs.drop i = x :: xs.drop (i + 1) := by
        rw [List.drop_eq_getElem_cons hlt]
        rw [List.getElem?_eq_getElem hlt] at hx
        cases hx
        rfl
      rw [← this, List.take_append_drop]
    · rw [List.take_add_one, hx]
      exact h'
  · rintro e ⟨_, hI⟩
    rw [List.length_map, List.take_length] at hI
    exact hd e hI
theorem rng_eq (lo : Int) (n : Nat) : rng lo n = (List.range n).map fun (i : Nat) => PyData.int (lo + i) := rfl
end Vl
namespace Vl
open PySem L2 PySem.Spec PyProof.Rows
/-! a law -/
def spLaw (K : PySem.W.Frag) : Sp := fun vs H Q _ => ∃ (a : Addr) (ns : List Int), vs = [.ref a] ∧ SqL K H a (ns.map V.int) ∧ ns.length ≤ 63 ∧ ∀ H', Q (.bl true) H'
def pLaw : VSp := fun ss st Kp => ∃ ns : List Int, ss = [.kn (ns.map .int)] ∧ st = [] ∧ ns.length ≤ 63 ∧ Kp (.val (.bool true)) []
theorem atL_ints {K : PySem.W.Frag} {F : Hp} : ∀ ns : List Int, AtL K F (ns.map .int) (ns.map V.int)
  | [] => .nil
  | n :: ns => .cons (.int n) (atL_ints ns)
theorem law_sp {K : PySem.W.Frag} : ∀ vs H Q E, spLaw K vs H Q E → spV K pLaw vs H Q E := by
  rintro vs H Q E ⟨a, ns, rfl, hs, hl, hq⟩
  let F : Hp := fun b => if b = a then H b else none
  have hF : ∀ {b : Addr} {o : HO}, F b = some o → H b = some o := fun {b o} h => by
    have h' : (if b = a then H b else none) = some o := h
    split at h'
    · exact h'
    · cases h'
  have ha : F a = H a := if_pos rfl
  refine ⟨fun _ => none, F, [], [.kn (ns.map .int)], [], fun s st => s = .val (.bool true), ⟨fun b o h => hF h, fun _ _ h => (nomatch h), fun _ _ h => (nomatch h), rfl, rfl, List.nodup_nil, fun _ h => (nomatch h), fun i s h => ?_, fun j ob h => (by simp at h)⟩, ⟨ns, rfl, rfl, hl, rfl⟩, ?_⟩
  · cases i with
    | zero =>
      have h' : some (some (Sl.kn (ns.map .int))) = some (some s) := h
      cases h'
      refine ⟨.ref a, rfl, a, ns.map V.int, rfl, ?_, atL_ints ns⟩
      rcases hs with (h | ⟨o, h⟩) | h
      · exact .inl (.inl (ha.trans h))
      · exact .inl (.inr ⟨o, ha.trans h⟩)
      · exact .inr h
    | succ i => simp at h
  · rintro s st' v F' A' H' rfl l p rep
    obtain ⟨v', hv, av⟩ := rep.slot 0 _ rfl
    have e : some v = some v' := by simpa using hv
    cases e
    cases (show At K F' (.bool true) v from av)
    exact hq H'
end Vl
namespace Vl
open PySem L2
/-! loops at whose turns' ends names may be forgotten and lists let go -/
def En.wk (m : Nat) (fs : List Nat) (e : En) : En := if e.st.any isMo = true then ⟨wipeE e.sl fs, e.st⟩ else ⟨(wipeE e.sl fs).map (clr m), e.st.take m⟩
theorem Rep.wk {K : PySem.W.Frag} {R F : Hp} {A A1 : List Addr} {σ : L2.St} {H : Hp} {e : En} (r : Rep K R F A σ H e) {n : Nat} (p : A1 <+: A) (hn : A1.length = n) (m : Nat) (fs : List Nat) (hm : n ≤ m) : ∃ A', A1 <+: A' ∧ Rep K R F A' σ H (e.wk m fs) := by
  have r' : Rep K R F A σ H ⟨wipeE e.sl fs, e.st⟩ := r.weak (by rw [wipeE_len]; exact r.len) fun i s h => r.slot i s (wipeE_at h).2
  by_cases hmo : e.st.any isMo = true
  · refine ⟨A, p, ?_⟩
    unfold En.wk
    rw [if_pos hmo]
    exact r'
  have et : e.wk m fs = ⟨(wipeE e.sl fs).map (clr m), e.st.take m⟩ := by
    unfold En.wk
    rw [if_neg hmo]
  rw [et]
  have pa : A.take m <+: A := List.take_prefix _ _
  refine ⟨A.take m, ?_, r.sub, r.keep, fun a o z => ⟨(r.apart a o z).1, fun hm => (r.apart a o z).2 (List.mem_of_mem_take hm)⟩, by simp [r'.len], ?_, ?_, fun a ha => r.live a (List.mem_of_mem_take ha), fun i s z => ?_, fun j ob z => ?_⟩
  · have h1 : A1.length ≤ A.length := p.length_le
    exact List.prefix_of_prefix_length_le p pa (by rw [List.length_take]; omega)
  · show (e.st.take m).length = _
    rw [List.length_take, List.length_take, r.lenA]
  · exact (List.take_sublist _ _).nodup r.nodup
  · have z' : ((wipeE e.sl fs).map (clr m))[i]? = some (some s) := z
    rw [List.getElem?_map] at z'
    obtain ⟨t, ht, hs⟩ := Option.map_eq_some_iff.mp z'
    cases t with
    | none => cases hs
    | some t =>
      obtain ⟨v, h1, h2⟩ := r'.slot i t ht
      cases t with
      | val d =>
        cases hs
        exact ⟨v, h1, h2⟩
      | kn d =>
        cases hs
        exact ⟨v, h1, h2⟩
      | exc d =>
        cases hs
        exact ⟨v, h1, h2⟩
      | obj j =>
        replace hs : (if j < m then some (Sl.obj j) else none) = some s := hs
        split at hs
        · rename_i hj
          cases hs
          obtain ⟨a, e1, e2⟩ := h2
          exact ⟨v, h1, a, by rw [List.getElem?_take_of_lt hj]; exact e1, e2⟩
        · cases hs
  · have z' : (e.st.take m)[j]? = some (some ob) := z
    have hj : j < m := by
      have := (List.getElem?_eq_some_iff.mp z').1
      rw [List.length_take] at this
      omega
    rw [List.getElem?_take_of_lt hj] at z'
    obtain ⟨a, h1, h2, h3⟩ := r.store j ob z'
    refine ⟨a, by rw [List.getElem?_take_of_lt hj]; exact h1, h2, h3.noMo ?_⟩
    cases q : isMo (some ob) with
    | false => rfl
    | true => exact absurd (List.any_eq_true.mpr ⟨_, List.mem_of_getElem? z', q⟩) hmo
def wlW (c : VTT) (tb : VTS) (n : Nat) : Nat → VEnds → En → Prop
  | 0, _, _ => False
  | m + 1, D, e => c e fun b e1 => if b = true then tb { D with nx := fun e' => ∃ q fs, n ≤ q ∧ wlW c tb n m D (e'.wk q fs), ct := fun e' => ∃ q fs, n ≤ q ∧ wlW c tb n m D (e'.wk q fs), bk := D.nx } e1 else D.nx e1
def vWhileW (c : VTT) (tb : VTS) : VTS := fun D e => ∃ m, wlW c tb e.st.length m D e
theorem vs_whileW {X : Cx} {pos : Pos} {c : Expr} {body : List Stmt} {tc : VTT} {tb : VTS} (hp : PassesOwn (model X.prog X.w) X.A X.env X.xe) (hc : VT X c tc) (hb : VSs X body tb) : VS X (.While c body [] pos) (vWhileW tc tb) := PS.imp (ps_while hp hc hb) fun D σ H h => by
  obtain ⟨R, F, A, e, DV, rep, ⟨m, k⟩, fin⟩ := h
  refine ⟨fun m σ' H' => ∃ F' A' e', Le F F' ∧ A <+: A' ∧ Rep X.K R F' A' σ' H' e' ∧ wlW tc tb e.st.length m DV e', ⟨m, F, A, e, Le.refl F, pfx_refl A, rep, k⟩, ?_⟩
  rintro m σ' H' ⟨F', A', e', l, p, rep', k⟩
  cases m with
  | zero => exact False.elim k
  | succ m =>
    refine ⟨R, F', A', e', _, rep', k, fun b e1 F1 A1 H1 k1 l1 p1 rep1 => ?_⟩
    cases b with
    | false => exact fin.nx _ _ _ _ _ k1 (l.trans l1) (p.trans p1) rep1
    | true =>
      have nxt : ∀ e2 σ2 F2 A2 H2, (∃ q fs, e.st.length ≤ q ∧ wlW tc tb e.st.length m DV (e2.wk q fs)) → Le F1 F2 → A1 <+: A2 → Rep X.K R F2 A2 σ2 H2 e2 → ∃ F' A' e', Le F F' ∧ A <+: A' ∧ Rep X.K R F' A' σ2 H2 e' ∧ wlW tc tb e.st.length m DV e' := fun e2 σ2 F2 A2 H2 ⟨q, fs, hq, k2⟩ l2 p2 rep2 => by
        obtain ⟨A3, p3, rep3⟩ := rep2.wk (A1 := A) (n := e.st.length) ((p.trans p1).trans p2) rep.lenA.symm q fs hq
        exact ⟨F2, A3, _, (l.trans l1).trans l2, p3, rep3, k2⟩
      refine ⟨fun σ2 H2 => ∃ F' A' e', Le F F' ∧ A <+: A' ∧ Rep X.K R F' A' σ2 H2 e' ∧ wlW tc tb e.st.length m DV e', fun σ2 H2 q => ⟨m, Nat.lt_succ_self m, q⟩, ?_⟩
      exact ⟨R, F1, A1, e1, _, rep1, k1, nxt, fun e2 σ2 F2 A2 H2 k2 l2 p2 rep2 => fin.nx _ _ _ _ _ k2 ((l.trans l1).trans l2) ((p.trans p1).trans p2) rep2, nxt, fun s e2 v σ2 F2 A2 H2 k2 l2 p2 rep2 a2 => fin.rt _ _ _ _ _ _ _ k2 ((l.trans l1).trans l2) ((p.trans p1).trans p2) rep2 a2, fin.ex.tr (l.trans l1) (p.trans p1)⟩
def flW (g : VTG) (tb : VTS) (chk : Option (En → Prop)) (n : Nat) : List D → VEnds → En → Prop
  | [], D, e => wth chk e (D.nx e)
  | d :: ds, D, e => wth chk e (g (.val d) e fun e1 => tb { D with nx := fun e' => ∃ q fs, n ≤ q ∧ flW g tb chk n ds D (e'.wk q fs), ct := fun e' => ∃ q fs, n ≤ q ∧ flW g tb chk n ds D (e'.wk q fs), bk := D.nx } e1)
def vForW (w : VTI) (g : VTG) (tb : VTS) : VTS := fun D e => w e fun ds chk e1 => flW g tb chk e1.st.length ds D e1
theorem vs_forW {X : Cx} {pos : Pos} {tg it : Expr} {body : List Stmt} {w : VTI} {g : VTG} {ws : List Nat} {tb : VTS} (hi : VI X tg it w) (hg : VG X tg ws g) (hb : VSs X body tb) (hp : ∀ {wi : TI} {tgg : TG} {tbb : TS}, PI X tg it wi → PG X tg tgg → PSs X body tbb → PS X (.For tg it body [] pos) (tFor wi tgg tbb)) :
    VS X (.For tg it body [] pos) (vForW w g tb) := PS.imp (hp hi hg hb) fun D σ H h => by
  obtain ⟨R, F, A, e, DV, rep, k, fin⟩ := h
  refine ⟨R, F, A, e, _, rep, k, fun ds chk e1 F1 A1 H1 J k1 l1 p1 rep1 it => ?_⟩
  refine ⟨fun i m σ' H' => ∃ F' A' e', m = ds.length - i ∧ i ≤ ds.length ∧ Le F1 F' ∧ A1 <+: A' ∧ Rep X.K R F' A' σ' H' e' ∧ flW g tb chk e1.st.length (ds.drop i) DV e', ⟨_, F1, A1, e1, rfl, Nat.zero_le _, Le.refl _, pfx_refl _, rep1, k1⟩, ?_⟩
  rintro i m σ' H' ⟨F', A', e', rfl, hi, l, p, rep', k⟩
  rcases Nat.lt_or_ge i ds.length with hlt | hge
  · right
    obtain ⟨d, hd⟩ : ∃ d, ds[i]? = some d := ⟨ds[i], by simp [hlt]⟩
    have hdr : ds.drop i = d :: ds.drop (i + 1) := by
      rw [List.drop_eq_getElem_cons hlt]
      rw [List.getElem?_eq_getElem hlt] at hd
      cases hd
      rfl
    rw [hdr] at k
    obtain ⟨kc, k⟩ := wth_ok k
    obtain ⟨g1, g2⟩ := it.go i d hd l p rep' kc
    have nxt : ∀ e2 σ2 F2 A2 H2, (∃ q fs, e1.st.length ≤ q ∧ flW g tb chk e1.st.length (ds.drop (i + 1)) DV (e2.wk q fs)) → Le F1 F2 → A1 <+: A2 → Rep X.K R F2 A2 σ2 H2 e2 → ∃ F' A' e', ds.length - (i + 1) = ds.length - (i + 1) ∧ i + 1 ≤ ds.length ∧ Le F1 F' ∧ A1 <+: A' ∧ Rep X.K R F' A' σ2 H2 e' ∧ flW g tb chk e1.st.length (ds.drop (i + 1)) DV e' := fun e2 σ2 F2 A2 H2 ⟨q, fs, hq, k2⟩ l2 p2 rep2 => by
      obtain ⟨A3, p3, rep3⟩ := rep2.wk (A1 := A1) (n := e1.st.length) p2 rep1.lenA.symm q fs hq
      exact ⟨F2, A3, _, rfl, hlt, l2, p3, rep3, k2⟩
    refine ⟨g1, fun σ2 H2 => ∃ F' A' e', ds.length - (i + 1) = ds.length - (i + 1) ∧ i + 1 ≤ ds.length ∧ Le F1 F' ∧ A1 <+: A' ∧ Rep X.K R F' A' σ2 H2 e' ∧ flW g tb chk e1.st.length (ds.drop (i + 1)) DV e', fun σ2 H2 q => ⟨ds.length - (i + 1), by omega, q⟩, fun x H3 y => ?_⟩
    obtain ⟨F3, l3, rep3, a3⟩ := g2 x H3 y
    refine ⟨R, F3, A', e', .val d, _, rep3, a3, k, fun e2 σ2 F2 A2 H2 k2 l2 p2 o2 rep2 => ⟨R, F2, A2, e2, _, rep2, k2, ?_⟩⟩
    have lf := (l.trans l3).trans l2
    have pf := p.trans p2
    exact ⟨fun e3 σ3 F4 A3 H4 k3 l4 p3 rep4 => nxt _ _ _ _ _ k3 (lf.trans l4) (pf.trans p3) rep4, fun e3 σ3 F4 A3 H4 k3 l4 p3 rep4 => fin.nx _ _ _ _ _ k3 (l1.trans (lf.trans l4)) (p1.trans (pf.trans p3)) rep4,
      fun e3 σ3 F4 A3 H4 k3 l4 p3 rep4 => nxt _ _ _ _ _ k3 (lf.trans l4) (pf.trans p3) rep4, fun s e3 v σ3 F4 A3 H4 k3 l4 p3 rep4 a4 => fin.rt _ _ _ _ _ _ _ k3 (l1.trans (lf.trans l4)) (p1.trans (pf.trans p3)) rep4 a4, fin.ex.tr (l1.trans lf) (p1.trans pf)⟩
  · left
    have e0 : i = ds.length := by omega
    subst e0
    rw [List.drop_length] at k
    obtain ⟨kc, k⟩ := wth_ok k
    exact ⟨it.stop l p rep' kc, fin.nx _ _ _ _ _ k (l1.trans l) (p1.trans p) rep'⟩

theorem fl_invW {α : Type} {g : VTG} {tb : VTS} {chk : Option (En → Prop)} {n : Nat} (enc : α → D) (xs : List α) {DV : VEnds} (I : List α → En → Prop) (hc : ∀ ys e, I ys e → okc chk e)
    (hs : ∀ (ys : List α) (x : α) (zs : List α) (e : En) (Nx : En → Prop), xs = ys ++ x :: zs → I ys e → (∀ e' q fs, n ≤ q → I (ys ++ [x]) (e'.wk q fs) → Nx e') → g (.val (enc x)) e fun e1 => tb { DV with nx := Nx, ct := Nx, bk := DV.nx } e1)
    (hd : ∀ e, I xs e → DV.nx e) {e : En} (h0 : I [] e) : flW g tb chk n (xs.map enc) DV e := by
  have wc : ∀ {e : En} {p : Prop}, okc chk e → p → wth chk e p := fun {e p} h q => by
    cases chk with
    | none => exact q
    | some c => exact ⟨h, q⟩
  suffices h : ∀ (zs ys : List α) (e : En), xs = ys ++ zs → I ys e → flW g tb chk n (zs.map enc) DV e from h xs [] e rfl h0
  intro zs
  induction zs with
  | nil =>
    intro ys e h hI
    rw [List.append_nil] at h
    subst h
    exact wc (hc _ _ hI) (hd e hI)
  | cons z zs ih =>
    intro ys e h hI
    exact wc (hc _ _ hI) (hs ys z zs e _ h hI fun e' q fs hq h' => ⟨q, fs, hq, ih (ys ++ [z]) _ (by rw [h]; simp) h'⟩)
theorem while_invW {c : VTT} {tb : VTS} {DV : VEnds} {e : En} (I : Nat → En → Prop)
    (hs : ∀ (m : Nat) (e' : En) (Nx : En → Prop), I m e' → (∀ m' e'' q fs, m' < m → e.st.length ≤ q → I m' (e''.wk q fs) → Nx e'') → c e' fun b e1 => if b = true then tb { DV with nx := Nx, ct := Nx, bk := DV.nx } e1 else DV.nx e1)
    {m : Nat} (h0 : I m e) : vWhileW c tb DV e := by
  suffices h : ∀ (f m : Nat) (e' : En), m < f → I m e' → wlW c tb e.st.length f DV e' from ⟨m + 1, h (m + 1) m e (Nat.lt_succ_self m) h0⟩
  intro f
  induction f with
  | zero => intro m e' h; omega
  | succ f ih => exact fun m e' h hI => hs m e' (fun e'' => ∃ q fs, e.st.length ≤ q ∧ wlW c tb e.st.length f DV (e''.wk q fs)) hI fun m' e'' q fs hm' hq h' => ⟨q, fs, hq, ih m' _ (by omega) h'⟩
/-! (*xs, y), [*xs, y] -/
def vStar (ta : VTE) (t : VTA) : VTA := fun e Kp => ta e fun s e1 => match pk s e1 with
  | some (.tuple ds) => t e1 fun ss e2 => Kp (ds.map .val ++ ss) e2
  | some (.list ds) => t e1 fun ss e2 => Kp (ds.map .val ++ ss) e2
  | _ => False
theorem atL_slAts {K : PySem.W.Frag} {F : Hp} {A : List Addr} {ds : List D} {vs : List V} (h : AtL K F ds vs) : SlAts K F A vs (ds.map .val) := by
  induction ds generalizing vs with
  | nil =>
    cases h
    exact .nil
  | cons d ds ih =>
    cases h with
    | cons h1 h2 => exact .cons (s := .val d) h1 (ih h2)
theorem SlAts.app {K : PySem.W.Frag} {F : Hp} {A : List Addr} {vs us : List V} {ss ts : List Sl} (h : SlAts K F A vs ss) (g : SlAts K F A us ts) : SlAts K F A (vs ++ us) (ss ++ ts) := by
  induction h with
  | nil => exact g
  | cons h _ ih => exact .cons h ih
theorem va_star {X : Cx} {a : Expr} {es : List Expr} {ta : VTE} {t : VTA} {pos : Pos} (ha : VE X a ta) (hr : VA X es t) : VA X (.Starred a pos :: es) (vStar ta t) := PA.imp (StX.pa_star ha hr) fun σ H Q q => by
  obtain ⟨R, F, A, e, Kp, rep, ht, fin⟩ := q
  refine ⟨R, F, A, e, _, rep, ht, fun s1 e1 x F1 A1 H1 k1 f1 p1 rep1 at1 => ?_⟩
  have go : ∀ (ds : List D) (xs : List V), AtL X.K F1 ds xs → t e1 (fun ss e2 => Kp (ds.map .val ++ ss) e2) → liftA X.K t σ H1 fun ys H2 => Q (xs ++ ys) H2 := fun ds xs hx k => ⟨R, F1, A1, e1, _, rep1, k, fun ss e2 ys F2 A2 H2 k2 f2 p2 rep2 at2 => fin _ e2 _ F2 A2 H2 k2 (f1.trans f2) (p1.trans p2) rep2 ((atL_slAts (AtL.le f2 _ _ hx)).app at2)⟩
  split at k1
  · rename_i ds hd
    obtain ⟨q, xs, rfl, q1, q2⟩ := (rep1.pk at1 hd).tup
    exact ⟨q, xs, rfl, .inl (sqT_le rep1.sub q1), go ds xs q2 k1⟩
  · rename_i ds hd
    obtain ⟨q, xs, rfl, q1, q2⟩ := rep1.pk at1 hd
    exact ⟨q, xs, rfl, .inr q1, go ds xs q2 k1⟩
  · exact k1.elim
end Vl
namespace Vl
open PySem L2 PySem.Spec PyProof.Rows
/-! defs that may refuse -/
theorem call_core {K : PySem.W.Frag} {R F : Hp} {A : List Addr} {σ : L2.St} {H : Hp} {e : En} {vs : List V} {ss : List Sl} {cs : List Ob} (rep : Rep K R F A σ H e) (ats : SlAts K F A vs ss) (hu : uniq (objs ss) = true) (hg : getS (objs ss) e.st = some cs) :
    ∃ Rc Ap, Rep K Rc F Ap (vs.map some) H ⟨(renum 0 ss).map some, cs.map some⟩ ∧ ∀ (s : Sl) (cs' : List Ob) (v : V) (F' : Hp) (A' : List Addr) (H' : Hp), Le F F' → Ap <+: A' → Rep K Rc F' A' [some v] H' ⟨[some s], cs'.map some⟩ → ¬ cs'.any mob = true →
      Rep K R F' A σ H' ⟨e.sl, putS (objs ss) cs' e.st⟩ ∧ ∀ {own : Ob → En → KE → Prop} {Kp : KE} {Q : VK}, FinW K own → Fin K R F A σ Kp Q → (match s with
        | .val d => Kp (.val d) ⟨e.sl, putS (objs ss) cs' e.st⟩
        | .kn ds => Kp (.kn ds) ⟨e.sl, putS (objs ss) cs' e.st⟩
        | .exc _ => False
        | .obj j => if j < (objs ss).length then False else match cs'[j]? with
          | some ob => own ob ⟨e.sl, putS (objs ss) cs' e.st⟩ Kp
          | none => False) → Q v H' := by
  have nd := uniq_nodup hu
  obtain ⟨gl, ga⟩ := getS_at hg
  -- the addresses of what is handed in
  have hA : ∀ (k j : Nat), (objs ss)[k]? = some j → ∃ a ds, A[j]? = some a ∧ cs[k]? = some ds ∧ F a = none ∧ ObAt K F A (H a) ds ∧ mob ds = false := fun k j hj => by
    obtain ⟨ds, h1, h2, hm⟩ := ga k j hj
    obtain ⟨a, q1, q2, q3⟩ := rep.store j ds h2
    exact ⟨a, ds, q1, h1, q2, q3, hm⟩
  let Ap : List Addr := (objs ss).map fun j => (A[j]?).getD 0
  have hAp : ∀ (k j : Nat) (a : Addr), (objs ss)[k]? = some j → A[j]? = some a → Ap[k]? = some a := fun k j a h1 h2 => by
    show ((objs ss).map fun j => (A[j]?).getD 0)[k]? = _
    rw [List.getElem?_map, h1]
    simp [h2]
  have hAp' : ∀ (k : Nat) (a : Addr), Ap[k]? = some a → ∃ j, (objs ss)[k]? = some j ∧ A[j]? = some a := fun k a h => by
    have h' : ((objs ss).map fun j => (A[j]?).getD 0)[k]? = some a := h
    rw [List.getElem?_map] at h'
    obtain ⟨j, h1, h2⟩ := Option.map_eq_some_iff.mp h'
    obtain ⟨b, _, q1, _⟩ := hA k j h1
    rw [q1] at h2
    simp at h2
    exact ⟨j, h1, by rw [q1, h2]⟩
  have hApl : Ap.length = (objs ss).length := List.length_map _
  have hsub : ∀ a ∈ Ap, a ∈ A := fun a ha => by
    obtain ⟨k, hk⟩ := List.getElem?_of_mem ha
    obtain ⟨j, _, h2⟩ := hAp' k a hk
    exact List.mem_of_getElem? h2
  have hApn : Ap.Nodup := by
    show ((objs ss).map fun j => (A[j]?).getD 0).Nodup
    refine List.pairwise_map.mpr (List.Pairwise.imp_of_mem (fun {i j} hi hj hne q => ?_) nd)
    obtain ⟨ki, hki⟩ := List.getElem?_of_mem hi
    obtain ⟨kj, hkj⟩ := List.getElem?_of_mem hj
    obtain ⟨a, _, q1, _⟩ := hA ki i hki
    obtain ⟨b, _, q2, _⟩ := hA kj j hkj
    rw [q1, q2] at q
    have q' : a = b := q
    subst q'
    exact hne (nodup_at rep.nodup q1 q2)
  let Rc : Hp := fun a => if (F a).isSome = true ∨ a ∈ Ap then none else H a
  have hRc : ∀ {a : Addr} {o : HO}, Rc a = some o → F a = none ∧ a ∉ Ap ∧ H a = some o := fun {a o} h => by
    have h' : (if (F a).isSome = true ∨ a ∈ Ap then none else H a) = some o := h
    split at h'
    · cases h'
    · rename_i q
      refine ⟨?_, fun z => q (.inr z), h'⟩
      cases hf : F a with
      | none => rfl
      | some u => exact absurd (.inl (by simp [hf])) q
  have hRc' : ∀ {a : Addr} {o : HO}, F a = none → a ∉ Ap → H a = some o → Rc a = some o := fun {a o} h1 h2 h3 => by
    show (if (F a).isSome = true ∨ a ∈ Ap then none else H a) = some o
    rw [if_neg]
    · exact h3
    · rintro (z | z)
      · rw [h1] at z
        cases z
      · exact h2 z
  have ren := renum_at (Ap := Ap) (k := 0) ats (fun m j hm a ha => by rw [Nat.zero_add]; exact hAp m j a hm ha)
  have repc : Rep K Rc F Ap (vs.map some) H ⟨(renum 0 ss).map some, cs.map some⟩ := by
    refine ⟨rep.sub, fun a o z => (hRc z).2.2, fun a o z => ⟨(hRc z).1, (hRc z).2.1⟩, ?_, ?_, hApn, fun a ha => rep.live a (hsub a ha), fun i s z => ?_, fun j ds z => ?_⟩
    · simp [ren.len]
    · simp [gl, hApl]
    · have z' : ((renum 0 ss).map some)[i]? = some (some s) := z
      rw [List.getElem?_map] at z'
      obtain ⟨t, ht, hs⟩ := Option.map_eq_some_iff.mp z'
      cases hs
      obtain ⟨v, h1, h2⟩ := slAts_get ren ht
      exact ⟨v, by rw [List.getElem?_map, h1] <;> rfl, h2⟩
    · have z' : (cs.map some)[j]? = some (some ds) := z
      rw [List.getElem?_map] at z'
      obtain ⟨t, ht, hs⟩ := Option.map_eq_some_iff.mp z'
      cases hs
      have hj : j < (objs ss).length := by
        have := (List.getElem?_eq_some_iff.mp ht).1
        omega
      obtain ⟨i, hi⟩ : ∃ i, (objs ss)[j]? = some i := ⟨(objs ss)[j], by simp [hj]⟩
      obtain ⟨a, ds', q1, q2, q3, q4, q5⟩ := hA j i hi
      rw [ht] at q2
      cases q2
      exact ⟨a, hAp j i a hi q1, q3, q4.noM q5⟩
  refine ⟨Rc, Ap, repc, fun s cs' v F' A' H' l p rep' hall => ?_⟩
  have mobs : ∀ (i : Nat) (ob : Ob), cs'[i]? = some ob → mob ob = false := fun i ob h => by
    cases q : mob ob with
    | false => rfl
    | true => exact absurd (List.any_eq_true.mpr ⟨ob, List.mem_of_getElem? h, q⟩) hall
  have hR : ∀ {a : Addr} {o : HO}, R a = some o → Rc a = some o := fun {a o} z => hRc' (rep.apart a o z).1 (fun hm => (rep.apart a o z).2 (hsub a hm)) (rep.keep a o z)
  have hA' : ∀ {k : Nat}, k < Ap.length → A'[k]? = Ap[k]? := fun {k} hk => by
    obtain ⟨t, rfl⟩ := p
    rw [List.getElem?_append_left hk]
  have hApA' : ∀ a ∈ Ap, a ∈ A' := fun a ha => p.subset ha
  have lc : cs'.length = A'.length := by
    have := rep'.lenA
    simpa using this
  -- the caller's state behind the call
  have back : Rep K R F' A σ H' ⟨e.sl, putS (objs ss) cs' e.st⟩ := by
    refine ⟨rep'.sub, fun a o z => rep'.keep a o (hR z), fun a o z => ⟨(rep'.apart a o (hR z)).1, (rep.apart a o z).2⟩, rep.len, by rw [putS_len]; exact rep.lenA, rep.nodup, fun a ha => ?_, fun i t z => ?_, fun j ds z => ?_⟩
    · obtain ⟨o, ho⟩ := rep.live a ha
      cases hf : F a with
      | some u => exact ⟨u, rep'.sub _ _ (l _ _ hf)⟩
      | none =>
        by_cases hm : a ∈ Ap
        · exact rep'.live a (hApA' a hm)
        · exact ⟨o, rep'.keep _ _ (hRc' hf hm ho)⟩
    · obtain ⟨u, h1, h2⟩ := rep.slot i t z
      exact ⟨u, h1, h2.le l (pfx_refl A)⟩
    · rcases putS_at z nd with ⟨m, c, h1, h2, h3⟩ | ⟨h1, h2⟩
      · cases h3
        obtain ⟨a, ds', q1, q2, q3, q4, q5⟩ := hA m j h1
        obtain ⟨b, r1, r2, r3⟩ := rep'.store m ds (by rw [List.getElem?_map, h2] <;> rfl)
        have hm : m < Ap.length := by
          rw [hApl]
          exact (List.getElem?_eq_some_iff.mp h1).1
        rw [hA' hm, hAp m j a h1 q1] at r1
        cases r1
        exact ⟨a, q1, r2, r3.noM (mobs m ds h2)⟩
      · obtain ⟨a, q1, q2, q3⟩ := rep.store j ds h2
        have na : a ∉ Ap := fun hm => by
          obtain ⟨m, hm⟩ := List.getElem?_of_mem hm
          obtain ⟨j', r1, r2⟩ := hAp' m a hm
          have := nodup_at rep.nodup r2 q1
          subst this
          have hml : m < Ap.length := (List.getElem?_eq_some_iff.mp hm).1
          have := h1 m r1
          have h5 : Ap.length ≤ A'.length := p.length_le
          rw [List.getElem?_eq_none_iff] at this
          omega
        obtain ⟨o, ho⟩ := q3.some
        have zc := hRc' q2 na ho
        exact ⟨a, q1, (rep'.apart a _ zc).1, q3.le l (pfx_refl A) fun u e => by
          rw [ho] at e
          cases e
          exact rep'.keep _ _ zc⟩
  refine ⟨back, fun {own Kp Q} hw fin k => ?_⟩
  have fin' := fin.tr l (pfx_refl A)
  obtain ⟨v', hv', av⟩ := rep'.slot 0 s rfl
  have ev : some v = some v' := by simpa using hv'
  cases ev
  cases s with
  | val d => exact fin'.done back (s := .val d) k av
  | kn ds => exact fin'.done back (s := .kn ds) k av
  | exc d => exact k.elim
  | obj j =>
    replace k : (if j < (objs ss).length then False else match cs'[j]? with | some ds => own ds ⟨e.sl, putS (objs ss) cs' e.st⟩ Kp | none => False) := k
    split at k
    · exact k.elim
    · rename_i hj
      split at k
      · rename_i ds hd
        obtain ⟨b, e1, rfl⟩ := av
        obtain ⟨b', r1, r2, r3⟩ := rep'.store j ds (by rw [List.getElem?_map, hd] <;> rfl)
        rw [e1] at r1
        cases r1
        obtain ⟨o, ho⟩ := r3.some
        have nb : b ∉ Ap := fun hm => by
          obtain ⟨m, hm⟩ := List.getElem?_of_mem hm
          have hml : m < Ap.length := (List.getElem?_eq_some_iff.mp hm).1
          rw [← hA' hml] at hm
          have := nodup_at rep'.nodup hm e1
          omega
        have hbF : F b = none := by
          cases hf : F b with
          | none => rfl
          | some u =>
            rw [l _ _ hf] at r2
            cases r2
        have hH : H b = none := by
          cases hh : H b with
          | none => rfl
          | some u => exact absurd (List.mem_of_getElem? e1) (rep'.apart b u (hRc' hbF nb hh)).2
        exact hw back r2 (rep.keep.free hH) (fun hm => by
          obtain ⟨u, hu⟩ := rep.live b hm
          rw [hH] at hu
          cases hu) ho (by rw [← ho]; exact r3.noM (mobs j ds hd)) (mobs j ds hd) k fin'
      · exact k.elim
abbrev VSx := List Sl → List Ob → (Sl → List Ob → Prop) → (Xv → List Ob → Prop) → Prop
def spX (K : PySem.W.Frag) (mg : Str → Option Value) (p : VSx) : Sp := fun vs H Q E => ∃ R F A ss st Kp Ep, Rep K R F A (vs.map some) H ⟨ss.map some, st.map some⟩ ∧ p ss st Kp Ep ∧
  (∀ s st' v F' A' H', Kp s st' → Le F F' → A <+: A' → Rep K R F' A' [some v] H' ⟨[some s], st'.map some⟩ → Q v H') ∧
  (∀ x st' F' A' H' cls d, Ep x st' → Le F F' → A <+: A' → Rep K R F' A' [some .non] H' ⟨[some (.val .none)], st'.map some⟩ → XAt K mg F' H' x cls d → E cls d H')
def retX (n : Nat) (x : Xv) (e : En) (Ep : Xv → List Ob → Prop) : Prop := match takeS n e.st with
  | none => False
  | some st' => Ep x st'
def dX (n : Nat) (Kp : Sl → List Ob → Prop) (Ep : Xv → List Ob → Prop) : VEnds := { nx := fun e => ret n (.val .none) e Kp, rt := fun s e => ret n s e Kp, ex := fun x e => retX n x e Ep }
theorem dX_nx (n Kp Ep e) : (dX n Kp Ep).nx e = ret n (.val .none) e Kp := rfl
theorem dX_rt (n Kp Ep s e) : (dX n Kp Ep).rt s e = ret n s e Kp := rfl
theorem dX_ex (n Kp Ep x e) : (dX n Kp Ep).ex x e = retX n x e Ep := rfl
theorem retX_ok {K : PySem.W.Frag} {mg : Str → Option Value} {R F : Hp} {A : List Addr} {σ : L2.St} {H : Hp} {e : En} {F0 : Hp} {A0 : List Addr} {n : Nat} {x : Xv} {Ep : Xv → List Ob → Prop} {E : XK} {cls : Value} {d : Option Addr} (rep : Rep K R F A σ H e) (hn : A0.length = n) (l : Le F0 F) (p : A0 <+: A) (k : retX n x e Ep) (xa : XAt K mg F H x cls d)
    (fin : ∀ x st' F' A' H' cls d, Ep x st' → Le F0 F' → A0 <+: A' → Rep K R F' A' [some .non] H' ⟨[some (.val .none)], st'.map some⟩ → XAt K mg F' H' x cls d → E cls d H') : E cls d H := by
  unfold retX at k
  split at k
  · exact k.elim
  · rename_i st' hst
    have hl := takeS_len hst
    have hA0 : ∀ {j : Nat}, j < n → A0[j]? = A[j]? := fun {j} hj => by
      obtain ⟨t, rfl⟩ := p
      rw [List.getElem?_append_left (by omega)]
    have mem : ∀ a ∈ A0, a ∈ A := fun a ha => p.subset ha
    refine fin x st' F A0 H cls d k l (pfx_refl A0) ⟨rep.sub, rep.keep, fun a o z => ⟨(rep.apart a o z).1, fun hm => (rep.apart a o z).2 (mem a hm)⟩, rfl, by simp [hl, hn], p.sublist.nodup rep.nodup, fun a ha => rep.live a (mem a ha), fun i u hu => ?_, fun j ds hj => ?_⟩ xa
    · cases i with
      | zero =>
        have hu' : some (some (Sl.val .none)) = some (some u) := hu
        cases hu'
        exact ⟨.non, rfl, .non⟩
      | succ i => simp at hu
    · have hj' : (st'.map some)[j]? = some (some ds) := hj
      rw [List.getElem?_map] at hj'
      obtain ⟨c, hc, ec⟩ := Option.map_eq_some_iff.mp hj'
      cases ec
      obtain ⟨hs, hm⟩ := takeS_at hst hc
      obtain ⟨b, h1, h2, h3⟩ := rep.store j _ hs
      have hjn : j < n := by
        have := (List.getElem?_eq_some_iff.mp hc).1
        omega
      exact ⟨b, by rw [hA0 hjn]; exact h1, h2, h3.noM hm⟩
structure VFx (P : Program) (w : World) (K : PySem.W.Frag) (mg : Str → Option Value) (base : Heap) (k : Nat) (x : Str) (ps : List Str) (p : VSx) : Prop where
  ex : ∃ f fd, FnOk P w K mg base (L2.CX P w) k f fd ps (spX K mg p) ∧ PySem.W.keepIn K (.ref f) = true ∧ Binds K fd ps [] ∧ mg x = some (.ref f)
theorem VFx.mono {P : Program} {w : World} {K : PySem.W.Frag} {mg : Str → Option Value} {base : Heap} {j k : Nat} {x : Str} {ps : List Str} {p : VSx} (h : VFx P w K mg base j x ps p) (l : j ≤ k) : VFx P w K mg base k x ps p := by
  obtain ⟨f, fd, a, b, c, d⟩ := h.ex
  exact ⟨f, fd, a.mono l, b, c, d⟩
section
variable {P : Program} {w : World} {K : PySem.W.Frag} {mg : Str → Option Value} {base : Heap}
theorem okVX {x qual : Str} {st : Stmt} {f : Addr} {fd : FuncData} {N ps : List Str} {k : Nat} {p : VSx} (F : Fun K x qual st f fd) (S : FnScope N ps (defScope st)) (len : ∀ ss st Kp Ep, p ss st Kp Ep → ss.length = ps.length)
    (hbody : ∀ (cdv : Value) (A : Around) (outer : List Env) (s : Shared) (H : Hp) (E : XK), Room k (A.deeper (envOfC qual (defScope st) s.heap.objs.size f cdv)) →
      ∃ t, VSs (cxOf (L2.CX P w) P w K mg base N qual (defScope st) f cdv A outer s H E) (defBody st) t ∧
        ∀ ss cs Kp Ep, p ss cs Kp Ep → t (dX cs.length Kp Ep) ⟨startV N.length ss, cs.map some⟩) : FnOk P w K mg base (L2.CX P w) (k + 1) f fd ps (spX K mg p) := by
  have lenV : ∀ vs H Q E, spX K mg p vs H Q E → vs.length = ps.length := fun vs H Q E h => by
    obtain ⟨R, F, A, ss, st, Kp, Ep, rep, hp, _⟩ := h
    have := rep.len
    simp at this
    rw [← this]
    exact len _ _ _ _ hp
  refine F.okX S lenV fun cdv A outer s H vs Q E hr h => ?_
  obtain ⟨t, ht, hb⟩ := hbody cdv A outer s H E hr
  obtain ⟨R, F0, A0, ss, cs, Kp, Ep, rep, hp, fin, finx⟩ := h
  have hl := rep.len
  simp at hl
  refine ⟨_, ht, R, F0, A0, ⟨startV N.length ss, cs.map some⟩, dX cs.length Kp Ep, ?_, hb ss cs Kp Ep hp, ?_⟩
  · refine rep.weak ?_ fun i u hu => ?_
    · show (ss.map some ++ List.replicate (N.length - ss.length) none).length = (vs.map some ++ List.replicate (N.length - vs.length) none).length
      simp only [List.length_append, List.length_map, List.length_replicate, hl]
    · replace hu : (ss.map some ++ List.replicate (N.length - ss.length) none)[i]? = some (some u) := hu
      rcases Nat.lt_or_ge i (ss.map some).length with hi | hi
      · rw [List.getElem?_append_left hi] at hu
        obtain ⟨v, h1, h2⟩ := rep.slot i u hu
        refine ⟨v, ?_, h2⟩
        show (vs.map some ++ List.replicate (N.length - vs.length) none)[i]? = _
        rw [List.getElem?_append_left (by rw [List.length_map] at hi ⊢; omega)]
        exact h1
      · rw [List.getElem?_append_right hi] at hu
        have := List.mem_of_getElem? hu
        have := (List.mem_replicate.mp this).2
        cases this
  · have hn : A0.length = cs.length := by
      have := rep.lenA
      simp at this
      exact this.symm
    refine ⟨fun e' σ' F' A' H' k l p r => ret_ok r (s := .val .none) (v := .non) .non hn l p k fin, fun _ _ _ _ _ k => k.elim, fun _ _ _ _ _ k => k.elim, fun s e' v σ' F' A' H' k l p r a => ret_ok r a hn l p k fin, fun cls d _ H' => E cls d H', takes_of rfl rfl rfl rfl, ?_⟩
    intro x e' cls d σ' F' A' H' k l p r xa
    exact retX_ok r hn l p k xa finx
theorem okFX {x : Str} {st : Stmt} {N ps : List Str} {k : Nat} {p : VSx} {t : VTS} (Fd : Df K mg x st ps) (S : FnScope N ps (defScope st)) (len : ∀ ss st Kp Ep, p ss st Kp Ep → ss.length = ps.length)
    (hb : ∀ {f : Addr} {cdv : Value} {A : Around} {outer : List Env} {s : Shared} {H : Hp} {E : XK}, Room k (A.deeper (envOfC x (defScope st) s.heap.objs.size f cdv)) → VSs (cxOf (L2.CX P w) P w K mg base N x (defScope st) f cdv A outer s H E) (defBody st) t)
    (rd : ∀ ss cs Kp Ep, p ss cs Kp Ep → t (dX cs.length Kp Ep) ⟨startV N.length ss, cs.map some⟩) : VFx P w K mg base (k + 1) x ps p := by
  obtain ⟨f, fd, F, b, g⟩ := Fd.ex
  exact ⟨f, fd, okVX F S len fun cdv A outer s H E hr => ⟨t, hb hr, rd⟩, F.kp, b, g⟩
end
/-! expressions that may refuse -/
abbrev VTEx := En → KE → (Xv → En → Prop) → Prop
def liftX (X : Cx) (t : VTEx) : TE := fun σ H Q => ∃ R F A e Kp Ep, Rep X.K R F A σ H e ∧ t e Kp Ep ∧ Fin X.K R F A σ Kp Q ∧ FinX X R F A Ep
def VX (X : Cx) (ex : Expr) (t : VTEx) : Prop := PE X ex (liftX X t)
def xCallK (own : Ob → En → KE → Prop) (p : VSx) (ss : List Sl) (e : En) (Kp : KE) (Ep : Xv → En → Prop) : Prop := match uniq (objs ss), getS (objs ss) e.st with
  | true, some cs => p (renum 0 ss) cs (fun s cs' => if cs'.any mob = true then False else match s with
    | .val d => Kp (.val d) ⟨e.sl, putS (objs ss) cs' e.st⟩
    | .kn ds => Kp (.kn ds) ⟨e.sl, putS (objs ss) cs' e.st⟩
    | .exc _ => False
    | .obj j => if j < (objs ss).length then False else match cs'[j]? with
      | some ob => own ob ⟨e.sl, putS (objs ss) cs' e.st⟩ Kp
      | none => False) fun x cs' => if cs'.any mob = true then False else Ep x ⟨e.sl, putS (objs ss) cs' e.st⟩
  | _, _ => False
def xN (op : List Sl → En → KE → (Xv → En → Prop) → Prop) (t : VTA) : VTEx := fun e Kp Ep => t e fun ss e1 => op ss e1 Kp Ep
section
variable {X : Cx} {x : Str} {ps : List Str} {k j : Nat} {p : VSx} {pp pos : Pos} {ex : Expr} {es : List Expr} {t : VTA}
theorem vx_call {own : Ob → En → KE → Prop} (hw : FinW X.K own) (G : VFx X.prog X.w X.K X.mg X.base k x ps p) (hr : Room j X.A) (hk : k ≤ j) (hg : Gl X x)
    (ha : VA X (ex :: es) t) (hdb : (x == ("__debug__" : Str)) = false := by decide) (he : starEach (ex :: es) X.env = (false, eval ex X.env) :: starEach es X.env := by rfl) (hpl : (backTo pos (starEach es X.env)).any (·.1) = false := by rfl) :
    VX X (.Call (.Name x pp) (ex :: es) [] pos) (xN (xCallK own p) t) := by
  obtain ⟨f, fd, h1, h2, h3, h4⟩ := G.ex
  refine ⟨fun pins s σ H Q I h => ?_⟩
  obtain ⟨R, F, A, e, Kp, Ep, rep, ht, fin, W, tk, finx⟩ := h
  refine (pe_callS (E := WE W) h1 (hr.mono hk) hg h4 h2 h3 (fun σ => passAt tk σ) ha hdb he hpl).run pins s σ H Q I ?_
  refine ⟨R, F, A, e, _, rep, ht, fun ss e1 vs F1 A1 H1 k1 l1 p1 rep1 ats => ?_⟩
  unfold xCallK at k1
  split at k1
  · rename_i cs hu hg
    obtain ⟨Rc, Ap, repc, back⟩ := call_core rep1 ats hu hg
    refine ⟨Rc, F1, Ap, renum 0 ss, cs, _, _, repc, k1, fun s cs' v F' A' H' k l p rep' => ?_, fun x cs' F' A' H' cls d k l p rep' xa => ?_⟩
    · split at k
      · exact k.elim
      · rename_i hall
        exact (back s cs' v F' A' H' l p rep' hall).2 hw (fin.tr l1 p1) k
    · split at k
      · exact k.elim
      · rename_i hall
        exact finx x _ cls d σ F' A1 H' k (l1.trans l) p1 (back _ cs' _ F' A' H' l p rep' hall).1 xa
  · exact k1.elim
end
section
variable {X : Cx} {pos : Pos}
def xRet (t : VTEx) : VTS := fun D e => t e D.rt D.ex
theorem xs_ret {ex : Expr} {t : VTEx} (he : VX X ex t) : VS X (.Return (some ex) pos) (xRet t) := PS.imp (ps_ret he) fun D σ H h => by
  obtain ⟨R, F, A, e, DV, rep, k, fin⟩ := h
  exact ⟨R, F, A, e, _, _, rep, k, fun s e1 v F1 A1 H1 k1 l1 p1 rep1 a1 => fin.rt _ _ _ _ _ _ _ k1 l1 p1 rep1 a1, fin.ex⟩
def xDrop (t : VTEx) : VTS := fun D e => t e (fun _ e1 => D.nx e1) D.ex
theorem xs_expr {ex : Expr} {t : VTEx} (he : VX X ex t) (hs : swapsWith ex none pos.line X.env = pure false := by rfl) : VS X (.Expr ex pos) (xDrop t) := PS.imp (ps_expr he hs) fun D σ H h => by
  obtain ⟨R, F, A, e, DV, rep, k, fin⟩ := h
  exact ⟨R, F, A, e, _, _, rep, k, fun s e1 v F1 A1 H1 k1 l1 p1 rep1 a1 => fin.nx _ _ _ _ _ k1 l1 p1 rep1, fin.ex⟩
def xSet (i : Nat) (t : VTEx) : VTS := fun D e => t e (fun s e1 => D.nx ⟨e1.sl.set i (some s), e1.st⟩) D.ex
theorem xs_set {i : Nat} {x : Str} {ex : Expr} {t : VTEx} {pos' : Pos} (hN : X.N.Nodup) (hi : X.N[i]? = some x) (hx : Loc X.env.scope x) (he : VX X ex t) (hs : swapsWith ex (some (.Name x pos')) pos.line X.env = pure false := by rfl) (hf : X.fn x = true ∨ X.env.scope.names.lookup x = some .local := by first | exact .inl rfl | exact .inr rfl | assumption) :
    VS X (.Assign [.Name x pos'] ex pos) (xSet i t) := PS.imp (ps_set hN hi hx he hs hf) fun D σ H h => by
  obtain ⟨R, F, A, e, DV, rep, k, fin⟩ := h
  exact ⟨R, F, A, e, _, _, rep, k, fun s e1 v F1 A1 H1 k1 l1 p1 rep1 a1 => fin.nx _ _ _ _ _ k1 l1 p1 (rep1.put a1), fin.ex⟩
def xAsg (t : VTEx) (g : VTG) : VTS := fun D e => t e (fun s e1 => g s e1 D.nx) D.ex
theorem xs_asg {tg ex : Expr} {t : VTEx} {g : VTG} {ws : List Nat} (he : VX X ex t) (hg : VG X tg ws g) (hs : swapsWithSole [tg] ex pos.line X.env = pure false := by rfl) (hw : swappedStores [tg] ex X.env = pure none := by rfl) (h1 : (assignEach [tg] X.env).map (·.2) = [assign tg X.env] := by rfl) : VS X (.Assign [tg] ex pos) (xAsg t g) := PS.imp (ps_asg he hg hs hw h1) fun D σ H h => by
  obtain ⟨R, F, A, e, DV, rep, k, fin⟩ := h
  exact ⟨R, F, A, e, _, _, rep, k, fun s e1 v F1 A1 H1 k1 l1 p1 rep1 a1 => ⟨R, F1, A1, e1, s, DV.nx, rep1, a1, k1, fun e2 σ2 F2 A2 H2 k2 l2 p2 o2 rep2 => fin.nx _ _ _ _ _ k2 (l1.trans l2) (p1.trans p2) rep2⟩, fin.ex⟩
end
/-! raise -/
/-- a class of refusals -/
structure XCl (K : PySem.W.Frag) (mg : Str → Option Value) (C : Str) : Prop where
  ex : ∃ a, mg C = some (.ref a) ∧ PySem.W.excIn K a [.type "ValueError", .type "Exception", .type "BaseException", .type "object"] "ValueError.__new__" = true ∧ PySem.W.keepIn K (.ref a) = true ∧ PySem.W.subIn K (.ref a) (.type "BaseException") = some true ∧ PySem.W.typeIn K (.ref a) = some (.type "type")
def vRaise (C : Str) : VTS := fun D e => D.ex ⟨C, []⟩ e
theorem vs_raise {X : Cx} {C m : Str} {j : Nat} {p p2 pos pos' : Pos} (hc : X.calm = true) (B : XCl X.K X.mg C) (hg : Gl X C) (hdb : (C == ("__debug__" : Str)) = false := by decide) : VS X (.Raise (some (.Call (.Name C p) [.Constant (.str m) j p2] [] pos)) none pos') (vRaise C) := by
  obtain ⟨a, gC, xC, kC, bC, tC⟩ := B.ex
  refine ⟨fun pins s σ H D I h => ?_⟩
  obtain ⟨R, F, A, e, DV, rep, k, fin⟩ := h
  obtain ⟨W, tk, fx⟩ := fin.ex
  exact (ps_raise hc tk (pmk_own PySem.F.excBase_ValueError xC gC kC (raises_own bC tC) hg hdb)).run pins s σ H D I (fx ⟨C, []⟩ e (.ref a) none σ F A H k (Le.refl F) (pfx_refl A) rep ⟨gC, .inl ⟨rfl, rfl⟩⟩)
end Vl
namespace Vl
open PySem L2 PySem.Spec PyProof.Rows
/-! refusals: what class is under what class, by their names -/
def xsub (C1 C2 : Str) : Bool := C1 == C2 || C2 == ("KindError" : Str) || C2 == ("ValueError" : Str) || C2 == ("Exception" : Str)
/-- a class's name and what it stands for -/
def NmV (mg : Str → Option Value) (x : Str) (v : V) (c : Value) : Prop := ClsV v c ∧ (mg x = some c ∨ (mg x = none ∧ bootBuiltins x = some c ∧ x ≠ "__name__"))
structure XOf (K : PySem.W.Frag) (mg : Str → Option Value) (C1 : Str) (ds cs : List Str) : Prop where
  ex : ∃ a, mg C1 = some (.ref a) ∧ ExcC K a ∧ (∀ C2 ∈ ds, ∃ c, mg C2 = some c ∧ PySem.W.exmOne K (.ref a) c = some (xsub C1 C2)) ∧ (∀ C2 ∈ cs, ∃ v c, NmV mg C2 v c ∧ PySem.W.kitOne K (.ref a) c = some (xsub C1 C2))
/-! try -/
structure FinN (K : PySem.W.Frag) (R F : Hp) (A : List Addr) (DV : VEnds) (D : Ends) : Prop where
  nx : ∀ e' σ' F' A' H', DV.nx e' → Le F F' → A <+: A' → Rep K R F' A' σ' H' e' → D.nx σ' H'
  bk : ∀ e' σ' F' A' H', DV.bk e' → Le F F' → A <+: A' → Rep K R F' A' σ' H' e' → D.bk σ' H'
  ct : ∀ e' σ' F' A' H', DV.ct e' → Le F F' → A <+: A' → Rep K R F' A' σ' H' e' → D.ct σ' H'
  rt : ∀ s e' v σ' F' A' H', DV.rt s e' → Le F F' → A <+: A' → Rep K R F' A' σ' H' e' → SlAt K F' A' v s → D.rt v H'
def liftW (X : Cx) (t : VTS) (W : WX) : TS := fun D σ H => ∃ R F A e DV, Rep X.K R F A σ H e ∧ t DV e ∧ FinN X.K R F A DV D ∧ ∀ x e' cls d σ' F' A' H', DV.ex x e' → Le F F' → A <+: A' → Rep X.K R F' A' σ' H' e' → XAt X.K X.mg F' H' x cls d → W cls d σ' H'
def liftH (X : Cx) (ks : List Str) (ts : Str → Addr → VTS) (a : Addr) (cls : Value) (d : Option Addr) : TS := fun D σ H => ∃ C R F A e DV, C ∈ ks ∧ X.mg C = some cls ∧ d = none ∧ Rep X.K R F A σ H e ∧ ts C a DV e ∧ FinN X.K R F A DV D ∧ DV.ex = fun _ _ => False
def vTryAs (ks : List Str) (Cc : Str) (i : Nat) (tb : VTS) (ts : Str → Addr → VTS) : VTS := fun D e => tb { D with ex := fun x e1 => x.C ∈ ks ∧ x.fs = [] ∧ (xsub x.C Cc = true → ∀ a, ts x.C a { nx := fun e2 => D.nx ⟨e2.sl.set i none, e2.st⟩, rt := D.rt, bk := fun e2 => D.bk ⟨e2.sl.set i none, e2.st⟩, ct := fun e2 => D.ct ⟨e2.sl.set i none, e2.st⟩ } ⟨e1.sl.set i (some (.exc a)), e1.st⟩) ∧
  (xsub x.C Cc = false → D.ex x e1) } e
def vTryOnly (ks : List Str) (Cc : Str) (tb : VTS) (ts : Str → Addr → VTS) : VTS := fun D e => tb { D with ex := fun x e1 => x.C ∈ ks ∧ x.fs = [] ∧ (xsub x.C Cc = true → ∀ a, ts x.C a { nx := D.nx, rt := D.rt, bk := D.bk, ct := D.ct } e1) ∧
  (xsub x.C Cc = false → D.ex x e1) } e
section
variable {X : Cx} {x n : Str} {i : Nat} {body suite : List Stmt} {b₀ : Stmt} {np pos pos' : Pos} {tb : VTS} {ts : Str → Addr → VTS} {ks ds cs : List Str}
theorem rep_none {K : PySem.W.Frag} {R F : Hp} {A : List Addr} {σ : L2.St} {H : Hp} {e : En} (r : Rep K R F A σ H e) (i : Nat) : Rep K R F A (σ.set i none) H ⟨e.sl.set i none, e.st⟩ := by
  refine r.weak (by simp [r.len]) fun k s z => ?_
  by_cases q : i = k
  · subst q
    rcases Nat.lt_or_ge i e.sl.length with h | h
    · rw [List.getElem?_set_self h] at z
      cases z
    · rw [List.getElem?_eq_none (by simpa using h)] at z
      cases z
  · rw [List.getElem?_set_ne q] at z
    obtain ⟨v, h1, h2⟩ := r.slot k s z
    exact ⟨v, by rw [List.getElem?_set_ne q]; exact h1, h2⟩
theorem hb_W (hb : ∀ (pn : List (Addr × Obj)) (xe : Value → Shared → Prop), PassesOwn (model X.prog X.w) X.A X.env xe → VSs (X.tr pn xe) body tb) (W : WX) (pn : List (Addr × Obj)) (xe : Value → Shared → Prop) (tk : Takes (X.tr pn xe) W) (hp : PassesOwn (model X.prog X.w) X.A X.env xe) : PSs (X.tr pn xe) body (liftW X tb W) :=
  PSs.imp (hb pn xe hp) fun D σ H ⟨R, F, A, e, DV, rep, k, f, fx⟩ => ⟨R, F, A, e, DV, rep, k, f.nx, f.bk, f.ct, f.rt, W, tk, fx⟩
theorem hs_H (hs : ∀ (C : Str) (D a : Addr) (oe : Obj) (pn : List (Addr × Obj)), C ∈ ks → X.mg C = some (.ref D) → Zc (.ref D) none oe → (∃ vs, oe.data = .fields vs) → VSs (X.suite a ((a, oe) :: pn)) (b₀ :: suite) (ts C a))
    (XT : ∀ C ∈ ks, XOf X.K X.mg C ds cs) (a : Addr) (oe : Obj) (cls : Value) (d : Option Addr) (pn : List (Addr × Obj)) (hz : Zc cls d oe) (hf : ∃ vs, oe.data = .fields vs) : PSs (X.suite a ((a, oe) :: pn)) (b₀ :: suite) (liftH X ks ts a cls d) := by
  refine ⟨fun pins s σ H D I h => ?_⟩
  obtain ⟨C, R, F, A, e, DV, hC, gC, rfl, rep, k, f, hx⟩ := h
  obtain ⟨q, g1, _⟩ := (XT C hC).ex
  rw [gC] at g1
  cases g1
  exact (hs C q a oe pn hC gC hz hf).run pins s σ H D I ⟨R, F, A, e, DV, rep, k, f.nx, f.bk, f.ct, f.rt, by rw [hx]; exact FinX.no⟩
theorem vs_tryAs (hs : X.stack = X.env :: X.outer) (hf : X.env.frame = some X.env.locals) (hN : X.N.Nodup) (hi : X.N[i]? = some n) (hln : X.env.kindOf n = some .local) (gx : Gl X x) (XT : ∀ C ∈ ks, XOf X.K X.mg C ds cs) (hx : x ∈ ds) (gE : ∃ c, X.mg x = some c)
    (hb : ∀ (pn : List (Addr × Obj)) (xe : Value → Shared → Prop), PassesOwn (model X.prog X.w) X.A X.env xe → VSs (X.tr pn xe) body tb)
    (hsu : ∀ (C : Str) (D a : Addr) (oe : Obj) (pn : List (Addr × Obj)), C ∈ ks → X.mg C = some (.ref D) → Zc (.ref D) none oe → (∃ vs, oe.data = .fields vs) → VSs (X.suite a ((a, oe) :: pn)) (b₀ :: suite) (ts C a)) (hdb : (x == ("__debug__" : Str)) = false := by decide) :
    VS X (.Try body [.ExceptHandler (some (.Name x np)) (some n) (b₀ :: suite) pos'] [] [] pos) (vTryAs ks x i tb ts) := by
  obtain ⟨c, gE⟩ := gE
  refine ⟨fun pins s σ H D I h => ?_⟩
  obtain ⟨R, F, A, e, DV, rep, k, fin⟩ := h
  obtain ⟨W, tk, fx⟩ := fin.ex
  refine (ps_try_as (c := c) (Wout := W) hs hf hN hi hln ⟨gx, hdb, .inl gE⟩ tk (tb := liftW X tb) (ts := liftH X ks ts) (hb_W hb) (hs_H hsu XT)).run pins s σ H D I ?_
  refine ⟨R, F, A, e, _, rep, k, ⟨fin.nx, fin.bk, fin.ct, fin.rt⟩, fun y e1 cls d σ1 F1 A1 H1 hy l1 p1 rep1 xa => ?_⟩
  obtain ⟨hk, hfs, hy, hyn⟩ := hy
  obtain ⟨q, g1, _, g3, _⟩ := (XT _ hk).ex
  obtain ⟨c', g4, g5⟩ := g3 x hx
  rw [gE] at g4
  cases g4
  have ec : cls = .ref q := by
    have := xa.1
    rw [g1] at this
    cases this
    rfl
  subst ec
  have ed : d = none := by
    exact xa.2.elim (fun h => h.2) fun h => absurd hfs h.1
  refine ⟨_, g5, fun hb1 a ha => ?_, fun hb1 => ?_⟩
  · replace hy := hy hb1
    refine ⟨y.C, R, F1, A1, _, _, hk, xa.1, ed, rep1.put (s := .exc a) (v := .ref a) rfl, hy a, ⟨fun e2 σ2 F2 A2 H2 k2 l2 p2 rep2 => ?_, fun e2 σ2 F2 A2 H2 k2 l2 p2 rep2 => ?_, fun e2 σ2 F2 A2 H2 k2 l2 p2 rep2 => ?_, fun s2 e2 v σ2 F2 A2 H2 k2 l2 p2 rep2 a2 => ?_⟩, rfl⟩
    · exact fin.nx _ _ _ _ _ k2 (l1.trans l2) (p1.trans p2) (rep_none rep2 i)
    · exact fin.bk _ _ _ _ _ k2 (l1.trans l2) (p1.trans p2) (rep_none rep2 i)
    · exact fin.ct _ _ _ _ _ k2 (l1.trans l2) (p1.trans p2) (rep_none rep2 i)
    · exact fin.rt _ _ _ _ _ _ _ k2 (l1.trans l2) (p1.trans p2) rep2 a2
  · exact fx _ _ _ _ _ _ _ _ (hyn hb1) l1 p1 rep1 xa
theorem vs_tryOnly (hs : X.stack = X.env :: X.outer) (hf : X.env.frame = some X.env.locals) (gx : Gl X x) (XT : ∀ C ∈ ks, XOf X.K X.mg C ds cs) (hx : x ∈ ds) (gE : ∃ c, X.mg x = some c)
    (hb : ∀ (pn : List (Addr × Obj)) (xe : Value → Shared → Prop), PassesOwn (model X.prog X.w) X.A X.env xe → VSs (X.tr pn xe) body tb)
    (hsu : ∀ (C : Str) (D a : Addr) (oe : Obj) (pn : List (Addr × Obj)), C ∈ ks → X.mg C = some (.ref D) → Zc (.ref D) none oe → (∃ vs, oe.data = .fields vs) → VSs (X.suite a ((a, oe) :: pn)) (b₀ :: suite) (ts C a)) (hdb : (x == ("__debug__" : Str)) = false := by decide) :
    VS X (.Try body [.ExceptHandler (some (.Name x np)) none (b₀ :: suite) pos'] [] [] pos) (vTryOnly ks x tb ts) := by
  obtain ⟨c, gE⟩ := gE
  refine ⟨fun pins s σ H D I h => ?_⟩
  obtain ⟨R, F, A, e, DV, rep, k, fin⟩ := h
  obtain ⟨W, tk, fx⟩ := fin.ex
  refine (ps_try_only (c := c) (Wout := W) hs hf ⟨gx, hdb, .inl gE⟩ tk (tb := liftW X tb) (ts := liftH X ks ts) (hb_W hb) (hs_H hsu XT)).run pins s σ H D I ?_
  refine ⟨R, F, A, e, _, rep, k, ⟨fin.nx, fin.bk, fin.ct, fin.rt⟩, fun y e1 cls d σ1 F1 A1 H1 hy l1 p1 rep1 xa => ?_⟩
  obtain ⟨hk, hfs, hy, hyn⟩ := hy
  obtain ⟨q, g1, _, g3, _⟩ := (XT _ hk).ex
  obtain ⟨c', g4, g5⟩ := g3 x hx
  rw [gE] at g4
  cases g4
  have ec : cls = .ref q := by
    have := xa.1
    rw [g1] at this
    cases this
    rfl
  subst ec
  have ed : d = none := by
    exact xa.2.elim (fun h => h.2) fun h => absurd hfs h.1
  refine ⟨_, g5, fun hb1 a ha => ?_, fun hb1 => ?_⟩
  · replace hy := hy hb1
    exact ⟨y.C, R, F1, A1, _, _, hk, xa.1, ed, rep1, hy a, ⟨fun e2 σ2 F2 A2 H2 k2 l2 p2 rep2 => fin.nx _ _ _ _ _ k2 (l1.trans l2) (p1.trans p2) rep2, fun e2 σ2 F2 A2 H2 k2 l2 p2 rep2 => fin.bk _ _ _ _ _ k2 (l1.trans l2) (p1.trans p2) rep2,
      fun e2 σ2 F2 A2 H2 k2 l2 p2 rep2 => fin.ct _ _ _ _ _ k2 (l1.trans l2) (p1.trans p2) rep2, fun s2 e2 v σ2 F2 A2 H2 k2 l2 p2 rep2 a2 => fin.rt _ _ _ _ _ _ _ k2 (l1.trans l2) (p1.trans p2) rep2 a2⟩, rfl⟩
  · exact fx _ _ _ _ _ _ _ _ (hyn hb1) l1 p1 rep1 xa
end
/-! isinstance of what was caught -/
def vIsx (C1 : Str) (a : Addr) (i : Nat) (C2 : Str) : VTE := fun e Kp => e.sl[i]? = some (some (.exc a)) ∧ Kp (.val (.bool (xsub C1 C2))) e
def vIsxs (C1 : Str) (a : Addr) (i : Nat) (cs : List Str) : VTE := fun e Kp => e.sl[i]? = some (some (.exc a)) ∧ Kp (.val (.bool (cs.any (xsub C1)))) e
section
variable {X : Cx} {a D : Addr} {oe : Obj} {pn : List (Addr × Obj)} {C1 C2 n : Str} {ds cs : List Str} {i : Nat} {p q r pos : Pos}
theorem pe_nm {X : Cx} {x : Str} {v : V} {c : Value} {pos : Pos} (h : NmV X.mg x v c) (hg : Gl X x) (hd : (x == ("__debug__" : Str)) = false) : PE X (.Name x pos) (tC v) := by
  obtain ⟨hv, h⟩ := h
  have r : RelV v c := by cases hv <;> rfl
  rcases h with h | ⟨h1, h2, h3⟩
  · exact pe_glob hg h r hd
  · exact pe_bltn hg h1 h2 r h3 hd
theorem boot_isx : bootBuiltins "isinstance" = some (.builtin "isinstance") := by decide +kernel
theorem ve_isx (XO : XOf X.K X.mg C1 ds cs) (g1 : X.mg C1 = some (.ref D)) (hz : Zc (.ref D) none oe) (hf : ∃ vs, oe.data = .fields vs) (h2 : C2 ∈ cs) (hN : X.N[i]? = some n) (hv : Vis X.env.scope n) (hg : Gl X "isinstance") (hm : X.mg "isinstance" = none) (hg2 : Gl X C2)
    (hd : (n == ("__debug__" : Str)) = false := by decide) (hcd : (n == ("__classdict__" : Str)) = false := by decide) (hd2 : (C2 == ("__debug__" : Str)) = false := by decide) : VE (X.suite a ((a, oe) :: pn)) (.Call (.Name "isinstance" p) [.Name n q, .Name C2 r] [] pos) (vIsx C1 a i C2) := by
  obtain ⟨D', e1, hC, _, h4⟩ := XO.ex
  rw [g1] at e1
  cases e1
  obtain ⟨v, c, hn, hk⟩ := h4 C2 h2
  refine PE.imp (pe_callB (call_isE hC hz hf) hg hm boot_isx (pa_cons (pe_var hN hv hd hcd) (pa_cons (pe_nm (X := X.suite a ((a, oe) :: pn)) hn hg2 hd2) pa_nil))) fun σ H Q h => ?_
  obtain ⟨R, F, A, e, Kp, rep, ⟨hs, k⟩, fin⟩ := h
  obtain ⟨w, hw, ew⟩ := rep.slot i _ hs
  have ew' : w = .ref a := ew
  subst ew'
  exact ⟨_, hw, v, c, _, rfl, fun u hu => hn.1.eq hu, hk, fin.val rep k (.bl _)⟩
def rIsET (K : PySem.W.Frag) (D a : Addr) : List V → Hp → VK → Prop := fun xs H Q => ∃ (tp : Addr) (cs : List V) (us : List Value) (b : Bool), xs = [.ref a, .ref tp] ∧ H tp = some (.tup cs) ∧ Paired ClsV cs us ∧ PySem.W.kitAny K (.ref D) us = some b ∧ Q (.bl b) H
theorem call_isET (C : ExcC X.K D) (hz : Zc (.ref D) none oe) (hf : ∃ vs, oe.data = .fields vs) : CallR (X.suite a ((a, oe) :: pn)) (.builtin "isinstance") (rIsET X.K D a) := by
  intro pins s σ H xs us Q I r h
  obtain ⟨tp, cs, ws, b, rfl, ht, k, e, q⟩ := h
  obtain ⟨u1, u2, rfl, r1, r2⟩ := vals2 r
  cases r1
  cases (show u2 = Value.ref tp from r2)
  obtain ⟨hget, _⟩ := I.pin (a, oe) (List.mem_append.mpr (.inl List.mem_cons_self))
  obtain ⟨vs, hv⟩ := hf
  have J : PySem.W.InstAt s.heap a oe D none := by
    obtain ⟨oc, od, oda, osl⟩ := oe
    obtain ⟨h1, h2⟩ := hz
    dsimp only at h1 h2 hv
    subst h1 h2 hv
    exact ⟨hget, rfl, rfl, trivial⟩
  obtain ⟨_, its, rv, o, g1, g2, n, g3⟩ := (show ObjOk X.prog X.w H s.heap tp (.tup cs) from I.hok tp _ ht)
  have e3 := ClsV.all k rv
  subst e3
  obtain ⟨oc, od, dt, sl⟩ := o
  simp only at g2 g3
  subst g2 g3
  exact PySem.W.kia_tup (PySem.W.handS_kitx_exc C.hg C.hk C.hs C.hd C.ha C.hn C.ht C.hm) I.kIn J g1 e (fun z => nomatch z) fun tk => ⟨.bl b, H, I.tok tk, rfl, q⟩
/-- names of classes in a row -/
inductive NmL (X : Cx) : List Expr → List Str → Prop
  | nil : NmL X [] []
  | cons {x : Str} {p : Pos} {es : List Expr} {xs : List Str} : Gl X x → (x == ("__debug__" : Str)) = false → NmL X es xs → NmL X (.Name x p :: es) (x :: xs)
theorem NmL.pa {X : Cx} {K : PySem.W.Frag} {D : Addr} {cs : List Str} (h4 : ∀ C2 ∈ cs, ∃ v c, NmV X.mg C2 v c ∧ PySem.W.kitOne K (.ref D) c = some (xsub C1 C2)) {es : List Expr} {xs : List Str} (h : NmL X es xs) (hs : ∀ x ∈ xs, x ∈ cs) :
    ∃ vs us, Paired ClsV vs us ∧ PySem.W.kitAny K (.ref D) us = some (xs.any (xsub C1)) ∧ vs.length = xs.length ∧ PA X es (fun _ H Q => Q vs H) := by
  induction h with
  | nil => exact ⟨[], [], .nil, rfl, rfl, pa_nil⟩
  | @cons x p es xs g d h ih =>
    obtain ⟨vs, us, i1, i2, i4, i3⟩ := ih fun y hy => hs y (List.mem_cons_of_mem _ hy)
    obtain ⟨v, c, hn, hk⟩ := h4 x (hs x List.mem_cons_self)
    refine ⟨v :: vs, c :: us, .cons hn.1 i1, ?_, by simp [i4], pa_cons (pe_nm hn g d) i3⟩
    unfold PySem.W.kitAny
    rw [hk, List.any_cons]
    cases q : xsub C1 x with
    | true => rfl
    | false => exact i2
theorem ve_isxs {es : List Expr} {xs : List Str} {x1 : Nat} {p3 : Pos} (XO : XOf X.K X.mg C1 ds cs) (g1 : X.mg C1 = some (.ref D)) (hz : Zc (.ref D) none oe) (hf : ∃ vs, oe.data = .fields vs) (nm : NmL (X.suite a ((a, oe) :: pn)) es xs) (h2 : ∀ x ∈ xs, x ∈ cs) (hl : xs.length ≤ sizeLine) (hN : X.N[i]? = some n) (hv : Vis X.env.scope n) (hg : Gl X "isinstance") (hm : X.mg "isinstance" = none)
    (hd : (n == ("__debug__" : Str)) = false := by decide) (hcd : (n == ("__classdict__" : Str)) = false := by decide) : VE (X.suite a ((a, oe) :: pn)) (.Call (.Name "isinstance" p) [.Name n q, .Tuple es x1 p3] [] pos) (vIsxs C1 a i xs) := by
  obtain ⟨D', e1, hC, _, h4⟩ := XO.ex
  rw [g1] at e1
  cases e1
  obtain ⟨vs, us, i1, i2, i4, i3⟩ := NmL.pa (X := X.suite a ((a, oe) :: pn)) (K := X.K) (D := D) h4 nm h2
  refine PE.imp (pe_callB (call_isET hC hz hf) hg hm boot_isx (pa_cons (pe_var hN hv hd hcd) (pa_cons (pe_tup i3) pa_nil))) fun σ H Q h => ?_
  obtain ⟨R, F, A, e, Kp, rep, ⟨hs, k⟩, fin⟩ := h
  obtain ⟨w, hw, ew⟩ := rep.slot i _ hs
  have ew' : w = .ref a := ew
  subst ew'
  refine ⟨_, hw, by rw [i4]; exact hl, fun tp htp => ?_⟩
  obtain ⟨rep2, l2⟩ := rep.fresh htp (.tup vs)
  exact ⟨tp, vs, us, _, rfl, upd_same, i1, i2, (fin.tr l2 (pfx_refl A)).val rep2 k (.bl _)⟩
end
end Vl
namespace Vl
open PySem L2 PySem.Spec PyProof.Rows
/-- where it refuses nothing -/
theorem VFx.pure {P : Program} {w : World} {K : PySem.W.Frag} {mg : Str → Option Value} {base : Heap} {k : Nat} {x : Str} {ps : List Str} {p : VSx} (h : VFx P w K mg base k x ps p) : VFn P w K mg base k x ps (fun ss st Kp => p ss st Kp fun _ _ => False) := by
  obtain ⟨f, fd, a, b, c, d⟩ := h.ex
  have imp : ∀ vs H Q E, spV K (fun ss st Kp => p ss st Kp fun _ _ => False) vs H Q E → spX K mg p vs H Q (fun _ _ _ => False) := fun vs H Q E ⟨R, F, A, ss, st, Kp, r, q, z⟩ => ⟨R, F, A, ss, st, Kp, _, r, q, z, fun _ _ _ _ _ _ _ k => k.elim⟩
  refine ⟨f, fd, ⟨fun vs H Q E h => a.len _ _ _ _ (imp _ _ _ _ h), fun B outer s H args us vs Q E hr e0 bt r h => ?_⟩, b, c, d⟩
  refine codeAny_mono (a.run B outer s H args us vs Q _ hr e0 bt r (imp _ _ _ _ h)) fun rr s' hq => ?_
  cases rr with
  | error e =>
    obtain ⟨_, _, _, _, _, _, _, _, _, _, _, _, z⟩ := hq
    exact z.elim
  | ok fl => cases fl <;> exact hq
theorem vacFX {P : Program} {w : World} {K : PySem.W.Frag} {mg : Str → Option Value} {base : Heap} {x : Str} {st : Stmt} {N ps : List Str} {k : Nat} {p : VSx} (Fd : Df K mg x st ps) (S : FnScope N ps (defScope st)) (no : ∀ ss st Kp Ep, ¬ p ss st Kp Ep) : VFx P w K mg base (k + 1) x ps p := by
  obtain ⟨f, fd, F, b, g⟩ := Fd.ex
  refine ⟨f, fd, F.okX S (fun vs H Q E h => ?_) (fun cdv A outer s H vs Q E hr h => ?_), F.kp, b, g⟩
  · obtain ⟨R, F, A, ss, st, Kp, Ep, rep, hp, _⟩ := h
    exact absurd hp (no _ _ _ _)
  · obtain ⟨R, F, A, ss, st, Kp, Ep, rep, hp, _⟩ := h
    exact absurd hp (no _ _ _ _)
theorem cpow1030 : CPow 10 30 = True := eq_true ⟨by decide, by decide, by decide⟩
/-- a text once or not at all -/
def rMulS01 : R2 := fun x y H Q => ∃ z k, x = .str z ∧ y = .int k ∧ (k = 0 ∨ k = 1) ∧ Q (.str (if k = 1 then z else Str.empty)) H
theorem op_mulS01 {X : Cx} : OpR X (binaryOp .Mult) rMulS01 := by
  intro pins s σ H x y v u Q I rx ry h
  obtain ⟨z, k, rfl, rfl, hk, q⟩ := h
  obtain ⟨t, rfl⟩ := rx
  obtain ⟨t', rfl⟩ := ry
  rcases hk with rfl | rfl
  · exact P.mul_str_none (by decide) (by decide) ⟨.str Str.empty, H, I.tok _, ⟨_, rfl⟩, q⟩
  · exact P.mul_str (by decide) (fun _ e => absurd e (by simp)) (fun _ e => absurd e (by simp)) ⟨.str z, H, I, ⟨_, rfl⟩, q⟩
def opMulS (s1 s2 : Sl) (e : En) (Kp : KE) : Prop := match pk s1 e, pk s2 e with
  | some (.str z), some (.int k) => (k = 0 ∨ k = 1) ∧ Kp (.val (.str (if k = 1 then z else Str.empty))) e
  | _, _ => False
theorem p_mulS {K : PySem.W.Frag} : Prim2 K rMulS01 opMulS := by
  intro R F A σ H e x y s1 s2 Kp Q rep a1 a2 ho fin
  unfold opMulS at ho
  split at ho
  · rename_i z k h1 h2
    exact ⟨z, k, (rep.pk a1 h1).str, (rep.pk a2 h2).int, ho.1, fin.val rep ho.2 (.str _)⟩
  · exact ho.elim
theorem ve_mulS {X : Cx} {a b : Expr} {ta tb : VTE} {pos : Pos} (ha : VE X a ta) (hb : VE X b tb) : VE X (.BinOp a .Mult b pos) (v2 opMulS ta tb) := ve_op p_mulS op_mulS01 ha hb
end Vl
namespace Vl
open PySem L2 PySem.Spec PyProof.Rows
/-! (int, bool) < (int, bool) -/
theorem lt_ib (a c : Int) (p q : Bool) : PySem.W.dataLt (.tuple [.int a, .bool p]) (.tuple [.int c, .bool q]) = decide (a < c ∨ (a = c ∧ p = false ∧ q = true)) := by
  rw [PySem.W.dataLt_tuple]
  simp only [PySem.W.keyToksAll, PySem.W.keyToks, List.cons_append, List.nil_append]
  rw [PyProof.Rows.lex_self (O := PyProof.Rows.itemOrd)]
  by_cases h : a = c
  · subst h
    rw [PyProof.Rows.lex_self (O := PyProof.Rows.itemOrd), PyProof.Rows.lex_self (O := PyProof.Rows.itemOrd)]
    cases p <;> cases q
    · rw [PyProof.Rows.lex_self (O := PyProof.Rows.itemOrd), PySem.W.lex_one]
      simp [PyProof.Rows.itemLt]
    · rw [PyProof.Rows.lex_diff (O := PyProof.Rows.itemOrd) (by decide)]
      simp [PyProof.Rows.itemLt]
    · rw [PyProof.Rows.lex_diff (O := PyProof.Rows.itemOrd) (by decide)]
      simp [PyProof.Rows.itemLt]
    · rw [PyProof.Rows.lex_self (O := PyProof.Rows.itemOrd), PySem.W.lex_one]
      simp [PyProof.Rows.itemLt]
  · rw [PyProof.Rows.lex_diff (O := PyProof.Rows.itemOrd) (by simpa using h)]
    show decide (a < c) = _
    have e : (a < c ∨ (a = c ∧ p = false ∧ q = true)) ↔ a < c := ⟨fun z => z.elim id fun z => absurd z.1 h, .inl⟩
    exact decide_eq_decide.mpr e.symm
def rLtIb (K : PySem.W.Frag) : R2 := fun x y H Q => ∃ a p c q, Dp K H x (.tuple [.int a, .bool p]) ∧ Dp K H y (.tuple [.int c, .bool q]) ∧ Q (.bl (decide (a < c ∨ (a = c ∧ p = false ∧ q = true)))) H
theorem op_ltIb {X : Cx} (hu : X.A.units + 190 < cLine) : OpR X (compareOp .Lt) (rLtIb X.K) := by
  intro pins s σ H x y v u Q I rx ry h
  obtain ⟨a, p, c, q, hd, he, k⟩ := h
  obtain ⟨as, r1⟩ := Dp.reads I _ x v hd rx
  obtain ⟨bs, r2⟩ := Dp.reads I _ y u he ry
  refine PySem.W.lt_data r1 r2 (by rfl) (fun z => nomatch z) ?_ ⟨.bl _, H, I, by rw [lt_ib]; rfl, k⟩
  have e : (PyData.tuple [.int a, .bool p]).depth = 1 := by
    simp [PyData.depth, PyData.depthAll]
  rw [e]
  omega
def opLtIb (s1 s2 : Sl) (e : En) (Kp : KE) : Prop := match pk s1 e, pk s2 e with
  | some (.tuple [.int a, .bool p]), some (.tuple [.int c, .bool q]) => Kp (.val (.bool (decide (a < c ∨ (a = c ∧ p = false ∧ q = true))))) e
  | _, _ => False
theorem p_ltIb {K : PySem.W.Frag} : Prim2 K (rLtIb K) opLtIb := by
  intro R F A σ H e x y s1 s2 Kp Q rep a1 a2 ho fin
  unfold opLtIb at ho
  split at ho
  · rename_i a p c q h1 h2
    exact ⟨a, p, c, q, Pk.dp rep.sub (by simp [PyData.canLay0, PyData.canLayAll0]) (rep.pk a1 h1), Pk.dp rep.sub (by simp [PyData.canLay0, PyData.canLayAll0]) (rep.pk a2 h2), fin.val rep ho (.bl _)⟩
  · exact ho.elim
theorem ve_ltIb {X : Cx} {a b : Expr} {ta tb : VTE} {pos : Pos} (hu : X.A.units + 190 < cLine) (ha : VE X a ta) (hb : VE X b tb) (hm : behindInMarks .Lt b = false := by exact nomark _) : VE X (.Compare a [.Lt] [b] pos) (v2 opLtIb ta tb) := ve_cmp p_ltIb (op_ltIb hu) ha hb hm
end Vl
namespace Kf
open PySem L2 Vl PySem.Spec PyProof.Rows
/-- a row of numbers that is drawn from: what is left of the cell, and a number -/
def PoolK (n : Int) : Prop := 0 ≤ n ∧ n < 2147483647
def pTake : VSp := fun ss st Kp => match ss, st with
  | [.obj 0, .val (.int m)], [.l [.int c, .int n]] => PoolK n ∧ 0 < m ∧ m < 1329227995784915872903807060280344576 ∧ ∀ r c' n' : Int, 0 ≤ r → r < m → PoolK n' → Kp (.val (.int r)) [.l [.int c', .int n']]
  | _, _ => False
def pPool : VSp := fun ss st Kp => ∃ (ns : List Int) (k : Nat), ss = [.kn (ns.map .int), .val (.int (k : Int))] ∧ st = [] ∧ ns.length ≤ 63 ∧ k ≤ 63 ∧
  ∀ c n : Int, PoolK n → Kp (.obj 0) [.l [.int c, .int n]]
theorem nm_nat {x m : Int} (hm : 0 < m) : 0 ≤ x.fmod m ∧ x.fmod m < m := ⟨Int.fmod_nonneg_of_pos x hm, Int.fmod_lt_of_pos x hm⟩
theorem at_any {α : Type} {xs : List α} {r : Int} (h0 : 0 ≤ r) (h1 : r < xs.length) : ∃ x, atI xs r = some x ∧ x ∈ xs := by
  obtain ⟨j, rfl⟩ : ∃ j : Nat, r = j := ⟨r.toNat, by omega⟩
  have hj : j < xs.length := by omega
  exact ⟨xs[j], atI_nat (by simp [hj]), List.getElem_mem hj⟩
/-! kinds -/
inductive Kd where
  | mark (m : Str)
  | one
  | to (a b : Kd)
  | both (a b : Kd)
deriving DecidableEq
def Kd.enc : Kd → D
  | .mark m => .tuple [.str "mark", .str m]
  | .one => .tuple [.str "one"]
  | .to a b => .tuple [.str "to", a.enc, b.enc]
  | .both a b => .tuple [.str "both", a.enc, b.enc]
def Kd.leaves : Kd → Nat
  | .mark _ => 1
  | .one => 1
  | .to a b => a.leaves + b.leaves
  | .both a b => a.leaves + b.leaves
def Kd.over (ms : List Str) : Kd → Prop
  | .mark m => m ∈ ms
  | .one => True
  | .to a b => a.over ms ∧ b.over ms
  | .both a b => a.over ms ∧ b.over ms
theorem Kd.leaves_pos : ∀ k : Kd, 1 ≤ k.leaves
  | .mark _ => Nat.le_refl _
  | .one => Nat.le_refl _
  | .to a b => by
    have := a.leaves_pos
    simp only [Kd.leaves]
    omega
  | .both a b => by
    have := a.leaves_pos
    simp only [Kd.leaves]
    omega
def pKind (N : Nat) : VSp := fun ss st Kp => match ss, st with
  | [.obj 0, .val (.int l), .val (.list ds)], [.l [.int c, .int n]] => PoolK n ∧ 1 ≤ l ∧ l ≤ N ∧ l < 1000 ∧ ∃ ms : List Str, ds = ms.map .str ∧ 0 < ms.length ∧ ms.length < 1000 ∧
    ∀ (k : Kd) (c' n' : Int), (k.leaves : Int) = l → k.over ms → PoolK n' → Kp (.val k.enc) [.l [.int c', .int n']]
  | _, _ => False
theorem Kd.eqv_iff (a b : Kd) : PyData.eqv a.enc b.enc = true ↔ a = b := by
  induction a generalizing b with
  | mark m =>
    cases b <;> simp only [Kd.enc, eqv_tup, eqvAll_cons, eqvAll_nil, eqvAll_nc, eqvAll_cn, eqv_str, Bool.and_eq_true, decide_eq_true_eq, reduceCtorEq, Kd.mark.injEq, Bool.false_eq_true, and_false, and_true, iff_false, false_and]
    · exact ⟨fun h => h.2, fun h => ⟨by decide, h⟩⟩
  | one =>
    cases b <;> simp only [Kd.enc, eqv_tup, eqvAll_cons, eqvAll_nil, eqvAll_nc, eqvAll_cn, eqv_str, Bool.and_eq_true, decide_eq_true_eq, reduceCtorEq, Bool.false_eq_true, and_false, and_true]
  | to x y ihx ihy =>
    cases b <;> simp only [Kd.enc, eqv_tup, eqvAll_cons, eqvAll_nil, eqvAll_nc, eqvAll_cn, eqv_str, Bool.and_eq_true, decide_eq_true_eq, reduceCtorEq, Kd.to.injEq, Bool.false_eq_true, and_false, and_true, ihx, ihy, iff_false, false_and]
    · exact ⟨fun h => h.2, fun h => ⟨by decide, h⟩⟩
    · exact fun h => absurd h.1 (by decide)
  | both x y ihx ihy =>
    cases b <;> simp only [Kd.enc, eqv_tup, eqvAll_cons, eqvAll_nil, eqvAll_nc, eqvAll_cn, eqv_str, Bool.and_eq_true, decide_eq_true_eq, reduceCtorEq, Kd.both.injEq, Bool.false_eq_true, and_false, and_true, ihx, ihy, iff_false, false_and]
    · exact fun h => absurd h.1 (by decide)
    · exact ⟨fun h => h.2, fun h => ⟨by decide, h⟩⟩
theorem Kd.eqv [DecidableEq Kd] (a b : Kd) : PyData.eqv a.enc b.enc = decide (a = b) := Bool.eq_iff_iff.mpr (by rw [Kd.eqv_iff]; simp)
def Kd.deep : Kd → Nat
  | .mark _ => 0
  | .one => 0
  | .to a b => max a.deep b.deep + 1
  | .both a b => max a.deep b.deep + 1
theorem Kd.deep_lt : ∀ k : Kd, k.deep < k.leaves
  | .mark _ => Nat.lt_succ_self _
  | .one => Nat.lt_succ_self _
  | .to a b => by
    have h1 := a.deep_lt
    have h2 := b.deep_lt
    simp only [Kd.deep, Kd.leaves]
    omega
  | .both a b => by
    have h1 := a.deep_lt
    have h2 := b.deep_lt
    simp only [Kd.deep, Kd.leaves]
    omega
theorem Kd.depth_enc : ∀ k : Kd, k.enc.depth = k.deep + 1
  | .mark m => by simp only [Kd.enc, depth_tup, depthAll_cons, depthAll_nil, depth_str, Kd.deep]; rfl
  | .one => by simp only [Kd.enc, depth_tup, depthAll_cons, depthAll_nil, depth_str, Kd.deep]; rfl
  | .to a b => by
    simp only [Kd.enc, depth_tup, depthAll_cons, depthAll_nil, depth_str, Kd.deep, a.depth_enc, b.depth_enc]
    omega
  | .both a b => by
    simp only [Kd.enc, depth_tup, depthAll_cons, depthAll_nil, depth_str, Kd.deep, a.depth_enc, b.depth_enc]
    omega
theorem Kd.can_enc {ms : List Str} (hm : ∀ m ∈ ms, PyData.strOk m = true) : ∀ k : Kd, k.over ms → k.enc.canLay0 = true
  | .mark m, h => by
    simp only [Kd.enc, can_tup, canAll_cons, canAll_nil, can_str, Bool.and_eq_true]
    exact ⟨by decide +kernel, hm m h, trivial⟩
  | .one, h => by
    simp only [Kd.enc, can_tup, canAll_cons, canAll_nil, can_str, Bool.and_eq_true]
    exact ⟨by decide +kernel, trivial⟩
  | .to a b, h => by
    simp only [Kd.enc, can_tup, canAll_cons, canAll_nil, can_str, Bool.and_eq_true]
    exact ⟨by decide +kernel, a.can_enc hm h.1, b.can_enc hm h.2, trivial⟩
  | .both a b, h => by
    simp only [Kd.enc, can_tup, canAll_cons, canAll_nil, can_str, Bool.and_eq_true]
    exact ⟨by decide +kernel, a.can_enc hm h.1, b.can_enc hm h.2, trivial⟩
theorem Kd.shp {ms : List Str} (hm : ∀ m ∈ ms, PyData.strOk m = true) {k : Kd} (h : k.over ms) (hl : k.leaves ≤ 180) : Vl.shp k.enc = true := by
  unfold Vl.shp
  have := k.deep_lt
  rw [k.can_enc hm h, k.depth_enc, decide_eq_true (by omega)]
  rfl
/-! programs -/
inductive Pg where
  | name (x : Str)
  | take (x : Str) (k : Kd) (p : Pg)
  | give (p q : Pg)
  | pair (p q : Pg)
  | first (p : Pg)
  | second (p : Pg)
  | thing
def Pg.enc : Pg → D
  | .name x => .tuple [.str "name", .str x]
  | .take x k p => .tuple [.str "take", .str x, k.enc, p.enc]
  | .give p q => .tuple [.str "give", p.enc, q.enc]
  | .pair p q => .tuple [.str "pair", p.enc, q.enc]
  | .first p => .tuple [.str "first", p.enc]
  | .second p => .tuple [.str "second", p.enc]
  | .thing => .tuple [.str "thing"]
def Pg.size : Pg → Nat
  | .name _ => 1
  | .take _ _ p => p.size + 1
  | .give p q => p.size + q.size + 1
  | .pair p q => p.size + q.size + 1
  | .first p => p.size + 1
  | .second p => p.size + 1
  | .thing => 1
def Pg.deep : Pg → Nat
  | .name _ => 0
  | .take _ _ p => p.deep + 1
  | .give p q => max p.deep q.deep + 1
  | .pair p q => max p.deep q.deep + 1
  | .first p => p.deep + 1
  | .second p => p.deep + 1
  | .thing => 0
/-- a row of names with their kinds, the innermost last -/
def encB (r : Str × Kd) : D := .tuple [.str r.1, r.2.enc]
def look : List (Str × Kd) → Str → Option Kd
  | [], _ => none
  | (y, k) :: r, x => match look r x with
    | some l => some l
    | none => if y = x then some k else none
inductive HasK : List (Str × Kd) → Pg → Kd → Prop
  | name {r : List (Str × Kd)} {x : Str} {k : Kd} : look r x = some k → HasK r (.name x) k
  | take {r : List (Str × Kd)} {x : Str} {k l : Kd} {p : Pg} : HasK (r ++ [(x, k)]) p l → HasK r (.take x k p) (.to k l)
  | give {r : List (Str × Kd)} {k l : Kd} {p q : Pg} : HasK r p (.to k l) → HasK r q k → HasK r (.give p q) l
  | pair {r : List (Str × Kd)} {k l : Kd} {p q : Pg} : HasK r p k → HasK r q l → HasK r (.pair p q) (.both k l)
  | first {r : List (Str × Kd)} {k l : Kd} {p : Pg} : HasK r p (.both k l) → HasK r (.first p) k
  | second {r : List (Str × Kd)} {k l : Kd} {p : Pg} : HasK r p (.both k l) → HasK r (.second p) l
  | thing {r : List (Str × Kd)} : HasK r .thing .one
theorem look_app {r : List (Str × Kd)} {x y : Str} {k : Kd} : look (r ++ [(y, k)]) x = if y = x then some k else look r x := by
  induction r with
  | nil =>
    simp only [List.nil_append, look]
  | cons p r ih =>
    obtain ⟨z, l⟩ := p
    simp only [List.cons_append, look, ih]
    by_cases h : y = x <;> simp [h]
theorem look_mem {r : List (Str × Kd)} {x : Str} {k : Kd} (h : look r x = some k) : (x, k) ∈ r := by
  induction r with
  | nil => cases h
  | cons p r ih =>
    obtain ⟨z, l⟩ := p
    simp only [look] at h
    split at h
    · rename_i m hm
      cases h
      exact List.mem_cons_of_mem _ (ih hm)
    · split at h
      · rename_i hz
        cases h
        rw [hz]
        exact List.mem_cons_self
      · cases h
end Kf
namespace Kf
open PySem L2 Vl PySem.Spec PyProof.Rows
/- Lpool: _law_pool -/
def t_Lpool_1 : VTS := (vSet 2 (v2 xIx (vVar 0) (vVar 1)))
def t_Lpool_2 : VTS := (vSet 2 (vC (.int 0)))
def t_Lpool_3 : VTS := (vRet (vN opLstO (vCons (vVar 2) (vCons (vVar 3) vNil))))
def t_Lpool_4 : VTS := vSeq (vIfS (vTest (v2 opLt (vVar 2) (v2 opPow (vC (.int 10)) (vC (.int 18))))) (t_Lpool_2) vNext) (t_Lpool_3)
def t_Lpool_5 : VTS := vSeq (vSet 3 (v2 opMod (v2 opPow (v2 opAdd (v2 opAdd (v2 opMod (vVar 2) (vC (.int 2147483629))) (v2 opMul2 (v2 opMul2 (vC (.int 104729)) (vVar 1)) (vVar 1))) (vC (.int 11))) (vC (.int 3))) (vC (.int 2147483647)))) (t_Lpool_4)
def t_Lpool_6 : VTS := vSeq (vIfS (vTest (v2 opLt (vVar 1) (vN opLen (vCons (vVar 0) vNil)))) (t_Lpool_1) vNext) (t_Lpool_5)
def t_Lpool_7 : VTS := vSeq (vSet 2 (vC (.int 0))) (t_Lpool_6)
def t_Lpool : VTS := (t_Lpool_7)
/- Ltake: _law_take -/
def t_Ltake_1 : VTS := (vRet (vVar 2))
def t_Ltake_2 : VTS := vSeq (vAsg (v2 opDiv (v2 xIx (vVar 0) (vC (.int 0))) (vVar 1)) (xgSub (vVar 0) (vC (.int 0)))) (t_Ltake_1)
def t_Ltake_3 : VTS := vSeq (vSet 2 (v2 opMod (v2 xIx (vVar 0) (vC (.int 0))) (vVar 1))) (t_Ltake_2)
def t_Ltake_4 : VTS := (vRet (v2 opMod (v2 opDiv (v2 opMod (v2 opMul2 (v2 xIx (vVar 0) (vC (.int 1))) (v2 xIx (vVar 0) (vC (.int 1)))) (vC (.int 2147483629))) (vC (.int 64))) (vVar 1)))
def t_Ltake_5 : VTS := vSeq (vAsg (v2 opMod (v2 opAdd (v2 opMul2 (v2 xIx (vVar 0) (vC (.int 1))) (vC (.int 48271))) (vC (.int 11))) (vC (.int 2147483647))) (xgSub (vVar 0) (vC (.int 1)))) (t_Ltake_4)
def t_Ltake_6 : VTS := vSeq (vIfS (vTest (v2 opGt (v2 xIx (vVar 0) (vC (.int 0))) (vC (.int 0)))) (t_Ltake_3) vNext) (t_Ltake_5)
def t_Ltake : VTS := (t_Ltake_6)
/- Lmarks: _law_marks -/
def t_Lmarks_1 (p_Ltake : VSp) : VTS := (vDrop (vM "list" opAppend (vVar 4) (vCons (vM "str" opJoin (vC (.str "")) (vCons (vLcK (vSeqI (vVar 6)) (vgName 8) vYes (v2 xIx (vC (.str "abcdefghijklmnopqrstuvwxyz")) (vVar 8)) [8] finD) vNil)) vNil)))
def t_Lmarks_2 (p_Ltake : VSp) : VTS := vSeq (vSet 6 (vLcK (vRng1 (vCons (vVar 1) vNil)) (vgName 7) vYes (v2 opMod (v2 opAdd (v2 xIx (vVar 3) (vVar 7)) (v2 opMul2 (v2 opMul2 (vC (.int 5)) (vVar 5)) (vN opInt (vCons (v2 (xEq false) (vVar 7) (vVar 2)) vNil)))) (vC (.int 26))) [7] finD)) (t_Lmarks_1 p_Ltake)
def t_Lmarks_3 (p_Ltake : VSp) : VTS := (vRet (vVar 4))
def t_Lmarks_4 (p_Ltake : VSp) : VTS := vSeq (vForW (vRng1 (vCons (v2 opAdd (vC (.int 1)) (vN (opCallK ownD p_Ltake) (vCons (vVar 0) (vCons (vC (.int 4)) vNil)))) vNil)) (vgName 5)
      (t_Lmarks_2 p_Ltake)) (t_Lmarks_3 p_Ltake)
def t_Lmarks_5 (p_Ltake : VSp) : VTS := vSeq (vSet 4 (vN opLstO vNil)) (t_Lmarks_4 p_Ltake)
def t_Lmarks_6 (p_Ltake : VSp) : VTS := vSeq (vSet 3 (vLcK (vRng1 (vCons (vVar 1) vNil)) (vgName 7) vYes (vN (opCallK ownD p_Ltake) (vCons (vVar 0) (vCons (vC (.int 26)) vNil))) [7] finD)) (t_Lmarks_5 p_Ltake)
def t_Lmarks_7 (p_Ltake : VSp) : VTS := vSeq (vSet 2 (vN (opCallK ownD p_Ltake) (vCons (vVar 0) (vCons (vVar 1) vNil)))) (t_Lmarks_6 p_Ltake)
def t_Lmarks_8 (p_Ltake : VSp) : VTS := vSeq (vSet 1 (v2 opAdd (vC (.int 1)) (vN (opCallK ownD p_Ltake) (vCons (vVar 0) (vCons (vC (.int 6)) vNil))))) (t_Lmarks_7 p_Ltake)
def t_Lmarks (p_Ltake : VSp) : VTS := (t_Lmarks_8 p_Ltake)
/- Lunlike: _law_unlike -/
def t_Lunlike_1 (p_Ltake : VSp) : VTS := (vDrop (vM "list" opInsert (vVar 2) (vCons (vN (opCallK ownD p_Ltake) (vCons (vVar 0) (vCons (v2 opAdd (vN opLen (vCons (vVar 2) vNil)) (vC (.int 1))) vNil))) (vCons (vVar 3) vNil))))
def t_Lunlike_2 (p_Ltake : VSp) : VTS := (vRet (vVar 2))
def t_Lunlike_3 (p_Ltake : VSp) : VTS := vSeq (vForW (vSeqI (vVar 1)) (vgName 3)
      (t_Lunlike_1 p_Ltake)) (t_Lunlike_2 p_Ltake)
def t_Lunlike_4 (p_Ltake : VSp) : VTS := vSeq (vSet 2 (vN opLstO vNil)) (t_Lunlike_3 p_Ltake)
def t_Lunlike (p_Ltake : VSp) : VTS := (t_Lunlike_4 p_Ltake)
/- Lcounts: _law_counts -/
def t_Lcounts_1 : VTS := (vSet 3 (v2 opAdd (vVar 3) (v2 opMul2 (v2 opMul2 (vC (.int 2)) (v2 xIx (vVar 1) (vVar 4))) (v2 xIx (vVar 1) (v2 opSub (vVar 2) (vVar 4))))))
def t_Lcounts_2 : VTS := (vDrop (vM "list" opAppend (vVar 1) (vCons (vVar 3) vNil)))
def t_Lcounts_3 : VTS := vSeq (vForW (vRng2 (vCons (vC (.int 1)) (vCons (vVar 2) vNil))) (vgName 4)
        (t_Lcounts_1)) (t_Lcounts_2)
def t_Lcounts_4 : VTS := vSeq (vSet 3 (vC (.int 0))) (t_Lcounts_3)
def t_Lcounts_5 : VTS := (vRet (vVar 1))
def t_Lcounts_6 : VTS := vSeq (vForW (vRng2 (vCons (vC (.int 2)) (vCons (vC (.int 11)) vNil))) (vgName 2)
      (t_Lcounts_4)) (t_Lcounts_5)
def t_Lcounts_7 : VTS := vSeq (vSet 1 (vN opLstO (vCons (vC (.int 0)) (vCons (v2 opAdd (vVar 0) (vC (.int 1))) vNil)))) (t_Lcounts_6)
def t_Lcounts : VTS := (t_Lcounts_7)
/- manyto: many_to -/
def t_manyto_1 : VTS := (vDrop (vM "list" opAppend (vVar 2) (vCons (vN opSum (vCons (vLcK (vRng2 (vCons (vC (.int 1)) (vCons (vVar 3) vNil))) (vgName 4) vYes (v2 opMul2 (v2 opMul2 (vC (.int 2)) (v2 xIx (vVar 2) (vVar 4))) (v2 xIx (vVar 2) (v2 opSub (vVar 3) (vVar 4)))) [4] finD) vNil)) vNil)))
def t_manyto_2 : VTS := (vRet (vVar 2))
def t_manyto_3 : VTS := vSeq (vForW (vRng2 (vCons (vC (.int 2)) (vCons (v2 opAdd (vVar 1) (vC (.int 1))) vNil))) (vgName 3)
      (t_manyto_1)) (t_manyto_2)
def t_manyto_4 : VTS := vSeq (vSet 2 (vN opLstO (vCons (vC (.int 0)) (vCons (v2 opAdd (vN opLen (vCons (vVar 0) vNil)) (vC (.int 1))) vNil)))) (t_manyto_3)
def t_manyto : VTS := (t_manyto_4)
/- kindsmany: kinds_many -/
def t_kindsmany_1 (p_manyto : VSp) : VTS := (vRet (vIfE (vTest (v2 opGt (vVar 1) (vC (.int 0)))) (v2 xIx (vN (opCallK ownD p_manyto) (vCons (vVar 0) (vCons (vVar 1) vNil))) (vVar 1)) (vC (.int 0))))
def t_kindsmany (p_manyto : VSp) : VTS := (t_kindsmany_1 p_manyto)
/- lawk70: law -/
def t_lawk70_1 (p_Lpool p_Lunlike p_Lmarks p_Lcounts p_kindsmany : VSp) : VTS := (vRet (vC (.bool false)))
def t_lawk70_2 (p_Lpool p_Lunlike p_Lmarks p_Lcounts p_kindsmany : VSp) : VTS := (vIfS (vOrT (vNotT (vTest (vIsi "int" (vVar 7)))) (vOrT (vTest (vIsi "bool" (vVar 7))) (vOrT (vTest (v2 (xEq true) (vVar 7) (v2 xIx (vVar 4) (vVar 5)))) (vTest (v2 (xEq true) (vVar 6) (vVar 3)))))) (t_lawk70_1 p_Lpool p_Lunlike p_Lmarks p_Lcounts p_kindsmany) vNext)
def t_lawk70_3 (p_Lpool p_Lunlike p_Lmarks p_Lcounts p_kindsmany : VSp) : VTS := vSeq (vSet 7 (vN (opCallK ownD p_kindsmany) (vCons (vVar 6) (vCons (vVar 5) vNil)))) (t_lawk70_2 p_Lpool p_Lunlike p_Lmarks p_Lcounts p_kindsmany)
def t_lawk70_4 (p_Lpool p_Lunlike p_Lmarks p_Lcounts p_kindsmany : VSp) : VTS := vSeq (vSet 6 (vN opList (vCons (vVar 3) vNil))) (t_lawk70_3 p_Lpool p_Lunlike p_Lmarks p_Lcounts p_kindsmany)
def t_lawk70_5 (p_Lpool p_Lunlike p_Lmarks p_Lcounts p_kindsmany : VSp) : VTS := (vForW (vRng2 (vCons (vC (.int 1)) (vCons (vC (.int 11)) vNil))) (vgName 5)
        (t_lawk70_4 p_Lpool p_Lunlike p_Lmarks p_Lcounts p_kindsmany))
def t_lawk70_6 (p_Lpool p_Lunlike p_Lmarks p_Lcounts p_kindsmany : VSp) : VTS := vSeq (vSet 4 (vN (opCallK ownD p_Lcounts) (vCons (vN opLen (vCons (vVar 3) vNil)) vNil))) (t_lawk70_5 p_Lpool p_Lunlike p_Lmarks p_Lcounts p_kindsmany)
def t_lawk70_7 (p_Lpool p_Lunlike p_Lmarks p_Lcounts p_kindsmany : VSp) : VTS := vSeq (vSet 3 (vN (opCallK ownD p_Lunlike) (vCons (vVar 2) (vCons (vN (opCallK ownD p_Lmarks) (vCons (vVar 2) vNil)) vNil)))) (t_lawk70_6 p_Lpool p_Lunlike p_Lmarks p_Lcounts p_kindsmany)
def t_lawk70_8 (p_Lpool p_Lunlike p_Lmarks p_Lcounts p_kindsmany : VSp) : VTS := vSeq (vSet 2 (vN (opCallK ownO p_Lpool) (vCons (vVar 0) (vCons (vVar 1) vNil)))) (t_lawk70_7 p_Lpool p_Lunlike p_Lmarks p_Lcounts p_kindsmany)
def t_lawk70_9 (p_Lpool p_Lunlike p_Lmarks p_Lcounts p_kindsmany : VSp) : VTS := (vRet (vC (.bool true)))
def t_lawk70_10 (p_Lpool p_Lunlike p_Lmarks p_Lcounts p_kindsmany : VSp) : VTS := vSeq (vForW (vRng1 (vCons (vN (opII gMax) (vCons (vC (.int 1)) (vCons (vN (opII gMin) (vCons (vN opLen (vCons (vVar 0) vNil)) (vCons (vC (.int 12)) vNil))) vNil))) vNil)) (vgName 1)
      (t_lawk70_8 p_Lpool p_Lunlike p_Lmarks p_Lcounts p_kindsmany)) (t_lawk70_9 p_Lpool p_Lunlike p_Lmarks p_Lcounts p_kindsmany)
def t_lawk70 (p_Lpool p_Lunlike p_Lmarks p_Lcounts p_kindsmany : VSp) : VTS := (t_lawk70_10 p_Lpool p_Lunlike p_Lmarks p_Lcounts p_kindsmany)
end Kf
namespace Kf
open PySem L2 Vl PySem.Spec PyProof.Rows
theorem big {n : Nat} (h : n ≤ 16000000) : n ≤ sizeLine := Nat.le_trans h (by decide)
theorem bigl {n : Nat} (h : n < 16000000) : n < sizeLine := Nat.lt_of_lt_of_le h (by decide)
theorem i_take {ss st Kp} (h : pTake ss st Kp) : ∃ c n m : Int, ss = [.obj 0, .val (.int m)] ∧ st = [.l [.int c, .int n]] ∧ PoolK n ∧ 0 < m ∧ m < 1329227995784915872903807060280344576 ∧ ∀ r c' n' : Int, 0 ≤ r → r < m → PoolK n' → Kp (.val (.int r)) [.l [.int c', .int n']] := by
  unfold pTake at h
  split at h
  · exact ⟨_, _, _, rfl, rfl, h⟩
  · exact h.elim
theorem r_take {ss cs Kp} (h : pTake ss cs Kp) : t_Ltake (dV cs.length Kp) ⟨startV 3 ss, cs.map some⟩ := by
  obtain ⟨c, n, m, rfl, rfl, ⟨n0, n1⟩, m0, m1, k⟩ := i_take h
  have q1 := nm_nat (x := n * 48271 + 11) (m := 2147483647) (by decide)
  simp only [t_Ltake, t_Ltake_6, flatD, List.any_cons, List.any_nil, eqv_str, eqv_int, eqv_ti, eqv_it, eqv_st, eqv_ts, cut1, Bool.or_false, Bool.or_true, Bool.and_self, Bool.and_true, Bool.and_false, Bool.false_or, Bool.true_or, and_self, ofs_inj, ofs_app, ofs_len, String.reduceEq, String.reduceNe, String.reduceAppend, decide_true, decide_false, Bool.not_true, Bool.not_false, sz0, sz1, sz2, sz3, sz4, sz5, sz6, sz7, sz8, sz9, sz10, sz11, sz12, sz13, sz14, sz15, sz16, sz17, sz18, sz19, sz20, sz21, sz22, sz23, sz24, sz25, cpow1018, true_and, and_true, Nat.reduceAdd, Nat.reduceLT, Nat.reduceSub, Int.reduceNe, Int.reduceEq, Int.reduceLT, Int.reduceLE, Int.reduceToNat, ne_eq, not_false_eq_true, List.length_map, Nat.lt_irrefl, dV_nx, dV_rt, at0, at1, at2, at3, ix20, ix21, vSeq, vIfS, vTest, vTruth, truth, v2, v1, vN, vCons, vNil, vStar, vVar, vC, xIx, Vl.opI0, Vl.opI, pk, vSet, vAug, vAsg, xgSub, vRet, vRetN, vNext, vDrop, vBreak, vCont, asD, asDs, opMod, opDiv, opMul2, Vl.opAdd, Vl.opAddO, opSub, opPow, opLt, Vl.opLe, opGt, Vl.opGe, xEq, okEq_str, okEq_int, xIn, okIn, inD, xIsN, isNone_n, isNone_t, isNone_l, isNone_i, isNone_s, isMo, mob, pkm, gModI, gDivI, gSubI, gMulI, gPowI, gGt, gLt, gLe, gGe, vNotT, vAndT, vOrT, vAndV, vOrV, opNot, opNotG, vIfE, opTup, opLst, opLstO, Vl.opLen, Vl.opInt, opList, opListO, opTuple, opII, gMax, gMin, vM, vM0, isT, xPop, Vl.opAppend, opExtend, opJoin, vgName, vgTup, vgCons, vgNil, kOpt_some, kOpn_some, kOps_some, Vl.opSum, Vl.opInsert, Vl.opIndex, opDivmod, vSl, vPart, vNoPart, opSl, opSlO, opRev, opCallK, ownD, ownO, objs, renum, uniq, getS, putS, vCall0, vFor, vForW, En.wk, vSeqI, vTupI, vRng1, vRng2, vEnum, vZip, chkOf, vLcK, vYes, finD, finO, En.wipe, wipeE, En.trim, trimS, dropNone, clr_n, clr_v, clr_k, clr_o, wth, Vl.ret, takeS, startV,  List.map_cons, List.map_nil, List.length_cons, List.length_nil, List.cons_append, List.nil_append, List.replicate, List.getElem?_cons_succ, List.getElem?_cons_zero, List.getElem?_nil, List.set_cons_succ, List.set_cons_zero, List.set_nil, List.all_nil, List.all_cons, Bool.true_and, Option.map_some, Option.map_none, if_true, if_false, decide_eq_true_eq, Bool.false_eq_true, List.take_succ_cons, List.take_zero, List.take_nil, List.drop_succ_cons, List.drop_zero, List.drop_nil, reduceIte, reduceCtorEq]
  split
  · simp only [t_Ltake_1, t_Ltake_2, t_Ltake_3, t_Ltake_4, t_Ltake_5, t_Ltake_6, t_Ltake, flatD, List.any_cons, List.any_nil, eqv_str, eqv_int, eqv_ti, eqv_it, eqv_st, eqv_ts, cut1, Bool.or_false, Bool.or_true, Bool.and_self, Bool.and_true, Bool.and_false, Bool.false_or, Bool.true_or, and_self, ofs_inj, ofs_app, ofs_len, String.reduceEq, String.reduceNe, String.reduceAppend, decide_true, decide_false, Bool.not_true, Bool.not_false, sz0, sz1, sz2, sz3, sz4, sz5, sz6, sz7, sz8, sz9, sz10, sz11, sz12, sz13, sz14, sz15, sz16, sz17, sz18, sz19, sz20, sz21, sz22, sz23, sz24, sz25, cpow1018, true_and, and_true, Nat.reduceAdd, Nat.reduceLT, Nat.reduceSub, Int.reduceNe, Int.reduceEq, Int.reduceLT, Int.reduceLE, Int.reduceToNat, ne_eq, not_false_eq_true, List.length_map, Nat.lt_irrefl, dV_nx, dV_rt, at0, at1, at2, at3, ix20, ix21, vSeq, vIfS, vTest, vTruth, truth, v2, v1, vN, vCons, vNil, vStar, vVar, vC, xIx, Vl.opI0, Vl.opI, pk, vSet, vAug, vAsg, xgSub, vRet, vRetN, vNext, vDrop, vBreak, vCont, asD, asDs, opMod, opDiv, opMul2, Vl.opAdd, Vl.opAddO, opSub, opPow, opLt, Vl.opLe, opGt, Vl.opGe, xEq, okEq_str, okEq_int, xIn, okIn, inD, xIsN, isNone_n, isNone_t, isNone_l, isNone_i, isNone_s, isMo, mob, pkm, gModI, gDivI, gSubI, gMulI, gPowI, gGt, gLt, gLe, gGe, vNotT, vAndT, vOrT, vAndV, vOrV, opNot, opNotG, vIfE, opTup, opLst, opLstO, Vl.opLen, Vl.opInt, opList, opListO, opTuple, opII, gMax, gMin, vM, vM0, isT, xPop, Vl.opAppend, opExtend, opJoin, vgName, vgTup, vgCons, vgNil, kOpt_some, kOpn_some, kOps_some, Vl.opSum, Vl.opInsert, Vl.opIndex, opDivmod, vSl, vPart, vNoPart, opSl, opSlO, opRev, opCallK, ownD, ownO, objs, renum, uniq, getS, putS, vCall0, vFor, vForW, En.wk, vSeqI, vTupI, vRng1, vRng2, vEnum, vZip, chkOf, vLcK, vYes, finD, finO, En.wipe, wipeE, En.trim, trimS, dropNone, clr_n, clr_v, clr_k, clr_o, wth, Vl.ret, takeS, startV,  List.map_cons, List.map_nil, List.length_cons, List.length_nil, List.cons_append, List.nil_append, List.replicate, List.getElem?_cons_succ, List.getElem?_cons_zero, List.getElem?_nil, List.set_cons_succ, List.set_cons_zero, List.set_nil, List.all_nil, List.all_cons, Bool.true_and, Option.map_some, Option.map_none, if_true, if_false, decide_eq_true_eq, Bool.false_eq_true, List.take_succ_cons, List.take_zero, List.take_nil, List.drop_succ_cons, List.drop_zero, List.drop_nil, reduceIte, reduceCtorEq]
    exact ⟨by omega, ⟨by omega, by omega⟩, k _ _ _ (nm_nat m0).1 (nm_nat m0).2 ⟨n0, n1⟩⟩
  · simp only [t_Ltake_1, t_Ltake_2, t_Ltake_3, t_Ltake_4, t_Ltake_5, t_Ltake_6, t_Ltake, flatD, List.any_cons, List.any_nil, eqv_str, eqv_int, eqv_ti, eqv_it, eqv_st, eqv_ts, cut1, Bool.or_false, Bool.or_true, Bool.and_self, Bool.and_true, Bool.and_false, Bool.false_or, Bool.true_or, and_self, ofs_inj, ofs_app, ofs_len, String.reduceEq, String.reduceNe, String.reduceAppend, decide_true, decide_false, Bool.not_true, Bool.not_false, sz0, sz1, sz2, sz3, sz4, sz5, sz6, sz7, sz8, sz9, sz10, sz11, sz12, sz13, sz14, sz15, sz16, sz17, sz18, sz19, sz20, sz21, sz22, sz23, sz24, sz25, cpow1018, true_and, and_true, Nat.reduceAdd, Nat.reduceLT, Nat.reduceSub, Int.reduceNe, Int.reduceEq, Int.reduceLT, Int.reduceLE, Int.reduceToNat, ne_eq, not_false_eq_true, List.length_map, Nat.lt_irrefl, dV_nx, dV_rt, at0, at1, at2, at3, ix20, ix21, vSeq, vIfS, vTest, vTruth, truth, v2, v1, vN, vCons, vNil, vStar, vVar, vC, xIx, Vl.opI0, Vl.opI, pk, vSet, vAug, vAsg, xgSub, vRet, vRetN, vNext, vDrop, vBreak, vCont, asD, asDs, opMod, opDiv, opMul2, Vl.opAdd, Vl.opAddO, opSub, opPow, opLt, Vl.opLe, opGt, Vl.opGe, xEq, okEq_str, okEq_int, xIn, okIn, inD, xIsN, isNone_n, isNone_t, isNone_l, isNone_i, isNone_s, isMo, mob, pkm, gModI, gDivI, gSubI, gMulI, gPowI, gGt, gLt, gLe, gGe, vNotT, vAndT, vOrT, vAndV, vOrV, opNot, opNotG, vIfE, opTup, opLst, opLstO, Vl.opLen, Vl.opInt, opList, opListO, opTuple, opII, gMax, gMin, vM, vM0, isT, xPop, Vl.opAppend, opExtend, opJoin, vgName, vgTup, vgCons, vgNil, kOpt_some, kOpn_some, kOps_some, Vl.opSum, Vl.opInsert, Vl.opIndex, opDivmod, vSl, vPart, vNoPart, opSl, opSlO, opRev, opCallK, ownD, ownO, objs, renum, uniq, getS, putS, vCall0, vFor, vForW, En.wk, vSeqI, vTupI, vRng1, vRng2, vEnum, vZip, chkOf, vLcK, vYes, finD, finO, En.wipe, wipeE, En.trim, trimS, dropNone, clr_n, clr_v, clr_k, clr_o, wth, Vl.ret, takeS, startV,  List.map_cons, List.map_nil, List.length_cons, List.length_nil, List.cons_append, List.nil_append, List.replicate, List.getElem?_cons_succ, List.getElem?_cons_zero, List.getElem?_nil, List.set_cons_succ, List.set_cons_zero, List.set_nil, List.all_nil, List.all_cons, Bool.true_and, Option.map_some, Option.map_none, if_true, if_false, decide_eq_true_eq, Bool.false_eq_true, List.take_succ_cons, List.take_zero, List.take_nil, List.drop_succ_cons, List.drop_zero, List.drop_nil, reduceIte, reduceCtorEq]
    exact ⟨.inl ⟨by omega, by omega⟩, .inl ⟨by omega, by omega⟩, ⟨by decide, by decide⟩, by omega, k _ _ _ (nm_nat m0).1 (nm_nat m0).2 q1⟩
theorem r_pool {ss cs Kp} (h : pPool ss cs Kp) : t_Lpool (dV cs.length Kp) ⟨startV 4 ss, cs.map some⟩ := by
  obtain ⟨ns, n, rfl, rfl, n0, n1, k⟩ := h
  have fin : ∀ (x : Int) (i2 : Option Sl), t_Lpool_5 (dV 0 Kp) ⟨[some (.kn (ns.map .int)), some (.val (.int n)), some (.val (.int x)), i2], []⟩ := fun x i2 => by
    have q1 := nm_nat (x := x) (m := 2147483629) (by decide)
    have nn : (n : Int) * n ≤ 63 * 63 := by
      have : n * n ≤ 63 * 63 := Nat.mul_le_mul n1 n1
      exact_mod_cast this
    have n2 : 0 ≤ (n : Int) * n := Int.mul_nonneg (by omega) (by omega)
    simp only [t_Lpool_5, flatD, List.any_cons, List.any_nil, eqv_str, eqv_int, eqv_ti, eqv_it, eqv_st, eqv_ts, cut1, Bool.or_false, Bool.or_true, Bool.and_self, Bool.and_true, Bool.and_false, Bool.false_or, Bool.true_or, and_self, ofs_inj, ofs_app, ofs_len, String.reduceEq, String.reduceNe, String.reduceAppend, decide_true, decide_false, Bool.not_true, Bool.not_false, sz0, sz1, sz2, sz3, sz4, sz5, sz6, sz7, sz8, sz9, sz10, sz11, sz12, sz13, sz14, sz15, sz16, sz17, sz18, sz19, sz20, sz21, sz22, sz23, sz24, sz25, cpow1018, true_and, and_true, Nat.reduceAdd, Nat.reduceLT, Nat.reduceSub, Int.reduceNe, Int.reduceEq, Int.reduceLT, Int.reduceLE, Int.reduceToNat, ne_eq, not_false_eq_true, List.length_map, Nat.lt_irrefl, dV_nx, dV_rt, at0, at1, at2, at3, ix20, ix21, vSeq, vIfS, vTest, vTruth, truth, v2, v1, vN, vCons, vNil, vStar, vVar, vC, xIx, Vl.opI0, Vl.opI, pk, vSet, vAug, vAsg, xgSub, vRet, vRetN, vNext, vDrop, vBreak, vCont, asD, asDs, opMod, opDiv, opMul2, Vl.opAdd, Vl.opAddO, opSub, opPow, opLt, Vl.opLe, opGt, Vl.opGe, xEq, okEq_str, okEq_int, xIn, okIn, inD, xIsN, isNone_n, isNone_t, isNone_l, isNone_i, isNone_s, isMo, mob, pkm, gModI, gDivI, gSubI, gMulI, gPowI, gGt, gLt, gLe, gGe, vNotT, vAndT, vOrT, vAndV, vOrV, opNot, opNotG, vIfE, opTup, opLst, opLstO, Vl.opLen, Vl.opInt, opList, opListO, opTuple, opII, gMax, gMin, vM, vM0, isT, xPop, Vl.opAppend, opExtend, opJoin, vgName, vgTup, vgCons, vgNil, kOpt_some, kOpn_some, kOps_some, Vl.opSum, Vl.opInsert, Vl.opIndex, opDivmod, vSl, vPart, vNoPart, opSl, opSlO, opRev, opCallK, ownD, ownO, objs, renum, uniq, getS, putS, vCall0, vFor, vForW, En.wk, vSeqI, vTupI, vRng1, vRng2, vEnum, vZip, chkOf, vLcK, vYes, finD, finO, En.wipe, wipeE, En.trim, trimS, dropNone, clr_n, clr_v, clr_k, clr_o, wth, Vl.ret, takeS, startV,  List.map_cons, List.map_nil, List.length_cons, List.length_nil, List.cons_append, List.nil_append, List.replicate, List.getElem?_cons_succ, List.getElem?_cons_zero, List.getElem?_nil, List.set_cons_succ, List.set_cons_zero, List.set_nil, List.all_nil, List.all_cons, Bool.true_and, Option.map_some, Option.map_none, if_true, if_false, decide_eq_true_eq, Bool.false_eq_true, List.take_succ_cons, List.take_zero, List.take_nil, List.drop_succ_cons, List.drop_zero, List.drop_nil, reduceIte, reduceCtorEq]
    have na : (x.fmod 2147483629 + 104729 * ↑n * ↑n + 11).natAbs < 2 ^ 64 := by
      have : (104729 : Int) * n * n = 104729 * (n * n) := by rw [Int.mul_assoc]
      omega
    refine ⟨.inl ⟨by decide, by decide⟩, .inl ⟨by omega, by omega⟩, ⟨by decide, by decide, na⟩, ?_⟩
    simp only [t_Lpool_4, flatD, List.any_cons, List.any_nil, eqv_str, eqv_int, eqv_ti, eqv_it, eqv_st, eqv_ts, cut1, Bool.or_false, Bool.or_true, Bool.and_self, Bool.and_true, Bool.and_false, Bool.false_or, Bool.true_or, and_self, ofs_inj, ofs_app, ofs_len, String.reduceEq, String.reduceNe, String.reduceAppend, decide_true, decide_false, Bool.not_true, Bool.not_false, sz0, sz1, sz2, sz3, sz4, sz5, sz6, sz7, sz8, sz9, sz10, sz11, sz12, sz13, sz14, sz15, sz16, sz17, sz18, sz19, sz20, sz21, sz22, sz23, sz24, sz25, cpow1018, true_and, and_true, Nat.reduceAdd, Nat.reduceLT, Nat.reduceSub, Int.reduceNe, Int.reduceEq, Int.reduceLT, Int.reduceLE, Int.reduceToNat, ne_eq, not_false_eq_true, List.length_map, Nat.lt_irrefl, dV_nx, dV_rt, at0, at1, at2, at3, ix20, ix21, vSeq, vIfS, vTest, vTruth, truth, v2, v1, vN, vCons, vNil, vStar, vVar, vC, xIx, Vl.opI0, Vl.opI, pk, vSet, vAug, vAsg, xgSub, vRet, vRetN, vNext, vDrop, vBreak, vCont, asD, asDs, opMod, opDiv, opMul2, Vl.opAdd, Vl.opAddO, opSub, opPow, opLt, Vl.opLe, opGt, Vl.opGe, xEq, okEq_str, okEq_int, xIn, okIn, inD, xIsN, isNone_n, isNone_t, isNone_l, isNone_i, isNone_s, isMo, mob, pkm, gModI, gDivI, gSubI, gMulI, gPowI, gGt, gLt, gLe, gGe, vNotT, vAndT, vOrT, vAndV, vOrV, opNot, opNotG, vIfE, opTup, opLst, opLstO, Vl.opLen, Vl.opInt, opList, opListO, opTuple, opII, gMax, gMin, vM, vM0, isT, xPop, Vl.opAppend, opExtend, opJoin, vgName, vgTup, vgCons, vgNil, kOpt_some, kOpn_some, kOps_some, Vl.opSum, Vl.opInsert, Vl.opIndex, opDivmod, vSl, vPart, vNoPart, opSl, opSlO, opRev, opCallK, ownD, ownO, objs, renum, uniq, getS, putS, vCall0, vFor, vForW, En.wk, vSeqI, vTupI, vRng1, vRng2, vEnum, vZip, chkOf, vLcK, vYes, finD, finO, En.wipe, wipeE, En.trim, trimS, dropNone, clr_n, clr_v, clr_k, clr_o, wth, Vl.ret, takeS, startV,  List.map_cons, List.map_nil, List.length_cons, List.length_nil, List.cons_append, List.nil_append, List.replicate, List.getElem?_cons_succ, List.getElem?_cons_zero, List.getElem?_nil, List.set_cons_succ, List.set_cons_zero, List.set_nil, List.all_nil, List.all_cons, Bool.true_and, Option.map_some, Option.map_none, if_true, if_false, decide_eq_true_eq, Bool.false_eq_true, List.take_succ_cons, List.take_zero, List.take_nil, List.drop_succ_cons, List.drop_zero, List.drop_nil, reduceIte, reduceCtorEq]
    have q2 := nm_nat (x := (x.fmod 2147483629 + 104729 * ↑n * ↑n + 11) ^ (3 : Int).toNat) (m := 2147483647) (by decide)
    split
    · simp only [t_Lpool_2, t_Lpool_3, flatD, List.any_cons, List.any_nil, eqv_str, eqv_int, eqv_ti, eqv_it, eqv_st, eqv_ts, cut1, Bool.or_false, Bool.or_true, Bool.and_self, Bool.and_true, Bool.and_false, Bool.false_or, Bool.true_or, and_self, ofs_inj, ofs_app, ofs_len, String.reduceEq, String.reduceNe, String.reduceAppend, decide_true, decide_false, Bool.not_true, Bool.not_false, sz0, sz1, sz2, sz3, sz4, sz5, sz6, sz7, sz8, sz9, sz10, sz11, sz12, sz13, sz14, sz15, sz16, sz17, sz18, sz19, sz20, sz21, sz22, sz23, sz24, sz25, cpow1018, true_and, and_true, Nat.reduceAdd, Nat.reduceLT, Nat.reduceSub, Int.reduceNe, Int.reduceEq, Int.reduceLT, Int.reduceLE, Int.reduceToNat, ne_eq, not_false_eq_true, List.length_map, Nat.lt_irrefl, dV_nx, dV_rt, at0, at1, at2, at3, ix20, ix21, vSeq, vIfS, vTest, vTruth, truth, v2, v1, vN, vCons, vNil, vStar, vVar, vC, xIx, Vl.opI0, Vl.opI, pk, vSet, vAug, vAsg, xgSub, vRet, vRetN, vNext, vDrop, vBreak, vCont, asD, asDs, opMod, opDiv, opMul2, Vl.opAdd, Vl.opAddO, opSub, opPow, opLt, Vl.opLe, opGt, Vl.opGe, xEq, okEq_str, okEq_int, xIn, okIn, inD, xIsN, isNone_n, isNone_t, isNone_l, isNone_i, isNone_s, isMo, mob, pkm, gModI, gDivI, gSubI, gMulI, gPowI, gGt, gLt, gLe, gGe, vNotT, vAndT, vOrT, vAndV, vOrV, opNot, opNotG, vIfE, opTup, opLst, opLstO, Vl.opLen, Vl.opInt, opList, opListO, opTuple, opII, gMax, gMin, vM, vM0, isT, xPop, Vl.opAppend, opExtend, opJoin, vgName, vgTup, vgCons, vgNil, kOpt_some, kOpn_some, kOps_some, Vl.opSum, Vl.opInsert, Vl.opIndex, opDivmod, vSl, vPart, vNoPart, opSl, opSlO, opRev, opCallK, ownD, ownO, objs, renum, uniq, getS, putS, vCall0, vFor, vForW, En.wk, vSeqI, vTupI, vRng1, vRng2, vEnum, vZip, chkOf, vLcK, vYes, finD, finO, En.wipe, wipeE, En.trim, trimS, dropNone, clr_n, clr_v, clr_k, clr_o, wth, Vl.ret, takeS, startV,  List.map_cons, List.map_nil, List.length_cons, List.length_nil, List.cons_append, List.nil_append, List.replicate, List.getElem?_cons_succ, List.getElem?_cons_zero, List.getElem?_nil, List.set_cons_succ, List.set_cons_zero, List.set_nil, List.all_nil, List.all_cons, Bool.true_and, Option.map_some, Option.map_none, if_true, if_false, decide_eq_true_eq, Bool.false_eq_true, List.take_succ_cons, List.take_zero, List.take_nil, List.drop_succ_cons, List.drop_zero, List.drop_nil, reduceIte, reduceCtorEq]
      exact k _ _ q2
    · simp only [t_Lpool_3, flatD, List.any_cons, List.any_nil, eqv_str, eqv_int, eqv_ti, eqv_it, eqv_st, eqv_ts, cut1, Bool.or_false, Bool.or_true, Bool.and_self, Bool.and_true, Bool.and_false, Bool.false_or, Bool.true_or, and_self, ofs_inj, ofs_app, ofs_len, String.reduceEq, String.reduceNe, String.reduceAppend, decide_true, decide_false, Bool.not_true, Bool.not_false, sz0, sz1, sz2, sz3, sz4, sz5, sz6, sz7, sz8, sz9, sz10, sz11, sz12, sz13, sz14, sz15, sz16, sz17, sz18, sz19, sz20, sz21, sz22, sz23, sz24, sz25, cpow1018, true_and, and_true, Nat.reduceAdd, Nat.reduceLT, Nat.reduceSub, Int.reduceNe, Int.reduceEq, Int.reduceLT, Int.reduceLE, Int.reduceToNat, ne_eq, not_false_eq_true, List.length_map, Nat.lt_irrefl, dV_nx, dV_rt, at0, at1, at2, at3, ix20, ix21, vSeq, vIfS, vTest, vTruth, truth, v2, v1, vN, vCons, vNil, vStar, vVar, vC, xIx, Vl.opI0, Vl.opI, pk, vSet, vAug, vAsg, xgSub, vRet, vRetN, vNext, vDrop, vBreak, vCont, asD, asDs, opMod, opDiv, opMul2, Vl.opAdd, Vl.opAddO, opSub, opPow, opLt, Vl.opLe, opGt, Vl.opGe, xEq, okEq_str, okEq_int, xIn, okIn, inD, xIsN, isNone_n, isNone_t, isNone_l, isNone_i, isNone_s, isMo, mob, pkm, gModI, gDivI, gSubI, gMulI, gPowI, gGt, gLt, gLe, gGe, vNotT, vAndT, vOrT, vAndV, vOrV, opNot, opNotG, vIfE, opTup, opLst, opLstO, Vl.opLen, Vl.opInt, opList, opListO, opTuple, opII, gMax, gMin, vM, vM0, isT, xPop, Vl.opAppend, opExtend, opJoin, vgName, vgTup, vgCons, vgNil, kOpt_some, kOpn_some, kOps_some, Vl.opSum, Vl.opInsert, Vl.opIndex, opDivmod, vSl, vPart, vNoPart, opSl, opSlO, opRev, opCallK, ownD, ownO, objs, renum, uniq, getS, putS, vCall0, vFor, vForW, En.wk, vSeqI, vTupI, vRng1, vRng2, vEnum, vZip, chkOf, vLcK, vYes, finD, finO, En.wipe, wipeE, En.trim, trimS, dropNone, clr_n, clr_v, clr_k, clr_o, wth, Vl.ret, takeS, startV,  List.map_cons, List.map_nil, List.length_cons, List.length_nil, List.cons_append, List.nil_append, List.replicate, List.getElem?_cons_succ, List.getElem?_cons_zero, List.getElem?_nil, List.set_cons_succ, List.set_cons_zero, List.set_nil, List.all_nil, List.all_cons, Bool.true_and, Option.map_some, Option.map_none, if_true, if_false, decide_eq_true_eq, Bool.false_eq_true, List.take_succ_cons, List.take_zero, List.take_nil, List.drop_succ_cons, List.drop_zero, List.drop_nil, reduceIte, reduceCtorEq]
      exact k _ _ q2
  simp only [t_Lpool, t_Lpool_7, t_Lpool_6, List.length_map, flatD, List.any_cons, List.any_nil, eqv_str, eqv_int, eqv_ti, eqv_it, eqv_st, eqv_ts, cut1, Bool.or_false, Bool.or_true, Bool.and_self, Bool.and_true, Bool.and_false, Bool.false_or, Bool.true_or, and_self, ofs_inj, ofs_app, ofs_len, String.reduceEq, String.reduceNe, String.reduceAppend, decide_true, decide_false, Bool.not_true, Bool.not_false, sz0, sz1, sz2, sz3, sz4, sz5, sz6, sz7, sz8, sz9, sz10, sz11, sz12, sz13, sz14, sz15, sz16, sz17, sz18, sz19, sz20, sz21, sz22, sz23, sz24, sz25, cpow1018, true_and, and_true, Nat.reduceAdd, Nat.reduceLT, Nat.reduceSub, Int.reduceNe, Int.reduceEq, Int.reduceLT, Int.reduceLE, Int.reduceToNat, ne_eq, not_false_eq_true, List.length_map, Nat.lt_irrefl, dV_nx, dV_rt, at0, at1, at2, at3, ix20, ix21, vSeq, vIfS, vTest, vTruth, truth, v2, v1, vN, vCons, vNil, vStar, vVar, vC, xIx, Vl.opI0, Vl.opI, pk, vSet, vAug, vAsg, xgSub, vRet, vRetN, vNext, vDrop, vBreak, vCont, asD, asDs, opMod, opDiv, opMul2, Vl.opAdd, Vl.opAddO, opSub, opPow, opLt, Vl.opLe, opGt, Vl.opGe, xEq, okEq_str, okEq_int, xIn, okIn, inD, xIsN, isNone_n, isNone_t, isNone_l, isNone_i, isNone_s, isMo, mob, pkm, gModI, gDivI, gSubI, gMulI, gPowI, gGt, gLt, gLe, gGe, vNotT, vAndT, vOrT, vAndV, vOrV, opNot, opNotG, vIfE, opTup, opLst, opLstO, Vl.opLen, Vl.opInt, opList, opListO, opTuple, opII, gMax, gMin, vM, vM0, isT, xPop, Vl.opAppend, opExtend, opJoin, vgName, vgTup, vgCons, vgNil, kOpt_some, kOpn_some, kOps_some, Vl.opSum, Vl.opInsert, Vl.opIndex, opDivmod, vSl, vPart, vNoPart, opSl, opSlO, opRev, opCallK, ownD, ownO, objs, renum, uniq, getS, putS, vCall0, vFor, vForW, En.wk, vSeqI, vTupI, vRng1, vRng2, vEnum, vZip, chkOf, vLcK, vYes, finD, finO, En.wipe, wipeE, En.trim, trimS, dropNone, clr_n, clr_v, clr_k, clr_o, wth, Vl.ret, takeS, startV,  List.map_cons, List.map_nil, List.length_cons, List.length_nil, List.cons_append, List.nil_append, List.replicate, List.getElem?_cons_succ, List.getElem?_cons_zero, List.getElem?_nil, List.set_cons_succ, List.set_cons_zero, List.set_nil, List.all_nil, List.all_cons, Bool.true_and, Option.map_some, Option.map_none, if_true, if_false, decide_eq_true_eq, Bool.false_eq_true, List.take_succ_cons, List.take_zero, List.take_nil, List.drop_succ_cons, List.drop_zero, List.drop_nil, reduceIte, reduceCtorEq]
  split
  · rename_i hk
    obtain ⟨d, hd, hm⟩ := at_any (xs := ns.map PyData.int) (r := (n : Int)) (by omega) (by rw [List.length_map]; exact hk)
    obtain ⟨x, _, rfl⟩ := List.mem_map.mp hm
    simp only [t_Lpool_1, hd, flatD, List.any_cons, List.any_nil, eqv_str, eqv_int, eqv_ti, eqv_it, eqv_st, eqv_ts, cut1, Bool.or_false, Bool.or_true, Bool.and_self, Bool.and_true, Bool.and_false, Bool.false_or, Bool.true_or, and_self, ofs_inj, ofs_app, ofs_len, String.reduceEq, String.reduceNe, String.reduceAppend, decide_true, decide_false, Bool.not_true, Bool.not_false, sz0, sz1, sz2, sz3, sz4, sz5, sz6, sz7, sz8, sz9, sz10, sz11, sz12, sz13, sz14, sz15, sz16, sz17, sz18, sz19, sz20, sz21, sz22, sz23, sz24, sz25, cpow1018, true_and, and_true, Nat.reduceAdd, Nat.reduceLT, Nat.reduceSub, Int.reduceNe, Int.reduceEq, Int.reduceLT, Int.reduceLE, Int.reduceToNat, ne_eq, not_false_eq_true, List.length_map, Nat.lt_irrefl, dV_nx, dV_rt, at0, at1, at2, at3, ix20, ix21, vSeq, vIfS, vTest, vTruth, truth, v2, v1, vN, vCons, vNil, vStar, vVar, vC, xIx, Vl.opI0, Vl.opI, pk, vSet, vAug, vAsg, xgSub, vRet, vRetN, vNext, vDrop, vBreak, vCont, asD, asDs, opMod, opDiv, opMul2, Vl.opAdd, Vl.opAddO, opSub, opPow, opLt, Vl.opLe, opGt, Vl.opGe, xEq, okEq_str, okEq_int, xIn, okIn, inD, xIsN, isNone_n, isNone_t, isNone_l, isNone_i, isNone_s, isMo, mob, pkm, gModI, gDivI, gSubI, gMulI, gPowI, gGt, gLt, gLe, gGe, vNotT, vAndT, vOrT, vAndV, vOrV, opNot, opNotG, vIfE, opTup, opLst, opLstO, Vl.opLen, Vl.opInt, opList, opListO, opTuple, opII, gMax, gMin, vM, vM0, isT, xPop, Vl.opAppend, opExtend, opJoin, vgName, vgTup, vgCons, vgNil, kOpt_some, kOpn_some, kOps_some, Vl.opSum, Vl.opInsert, Vl.opIndex, opDivmod, vSl, vPart, vNoPart, opSl, opSlO, opRev, opCallK, ownD, ownO, objs, renum, uniq, getS, putS, vCall0, vFor, vForW, En.wk, vSeqI, vTupI, vRng1, vRng2, vEnum, vZip, chkOf, vLcK, vYes, finD, finO, En.wipe, wipeE, En.trim, trimS, dropNone, clr_n, clr_v, clr_k, clr_o, wth, Vl.ret, takeS, startV,  List.map_cons, List.map_nil, List.length_cons, List.length_nil, List.cons_append, List.nil_append, List.replicate, List.getElem?_cons_succ, List.getElem?_cons_zero, List.getElem?_nil, List.set_cons_succ, List.set_cons_zero, List.set_nil, List.all_nil, List.all_cons, Bool.true_and, Option.map_some, Option.map_none, if_true, if_false, decide_eq_true_eq, Bool.false_eq_true, List.take_succ_cons, List.take_zero, List.take_nil, List.drop_succ_cons, List.drop_zero, List.drop_nil, reduceIte, reduceCtorEq]
    exact fin _ _
  · exact fin _ _
end Kf
namespace Kf
open PySem L2 Vl PySem.Spec PyProof.Rows
/-- a slot that no list of the store stands in -/
def Cl (o : Option Sl) : Prop := ∀ n, clr n o = o
theorem cl_n : Cl none := fun _ => rfl
theorem cl_v (d : D) : Cl (some (.val d)) := fun _ => rfl
/-! marks -/
def word (ds : List Int) : Str := ⟨(ds.map fun d => 97 + d.toNat).toArray⟩
structure IsMk (m : Str) : Prop where
  sg : ∀ c ∈ m.cps.toList, 97 ≤ c ∧ c ≤ 122
  lo : 1 ≤ m.length
  hi : m.length ≤ 6
structure MarksOk (ms : List Str) : Prop where
  lo : 1 ≤ ms.length
  hi : ms.length ≤ 4
  nd : ms.Nodup
  all : ∀ m ∈ ms, IsMk m
theorem strOk_iff (x : Str) : PyData.strOk x = true ↔ ∀ c ∈ x.cps.toList, c < 0x110000 := by
  unfold PyData.strOk
  rw [← Array.all_toList, List.all_eq_true]
  simp
theorem IsMk.ok {m : Str} (h : IsMk m) : PyData.strOk m = true := (strOk_iff m).mpr fun c hc => by
  have := (h.sg c hc).2
  omega
theorem word_len (ds : List Int) : (word ds).length = ds.length := by
  show (ds.map fun d => 97 + d.toNat).toArray.size = _
  simp
theorem word_mk {ds : List Int} (h : ∀ d ∈ ds, 0 ≤ d ∧ d < 26) (lo : 1 ≤ ds.length) (hi : ds.length ≤ 6) : IsMk (word ds) := by
  refine ⟨fun c hc => ?_, by rw [word_len]; exact lo, by rw [word_len]; exact hi⟩
  have hc' : c ∈ ds.map fun d => 97 + d.toNat := hc
  obtain ⟨d, hd, rfl⟩ := List.mem_map.mp hc'
  have := h d hd
  omega
theorem word_inj {ds es : List Int} (h1 : ∀ d ∈ ds, 0 ≤ d) (h2 : ∀ d ∈ es, 0 ≤ d) (h : word ds = word es) : ds = es := by
  have h' : ds.map (fun d => 97 + d.toNat) = es.map fun d => 97 + d.toNat := by
    have := congrArg (fun s : Str => s.cps.toList) h
    simpa [word] using this
  clear h
  induction ds generalizing es with
  | nil =>
    cases es with
    | nil => rfl
    | cons e es => simp at h'
  | cons d ds ih =>
    cases es with
    | nil => simp at h'
    | cons e es =>
      simp only [List.map_cons, List.cons.injEq] at h'
      have a := h1 d List.mem_cons_self
      have b := h2 e List.mem_cons_self
      have : d = e := by omega
      rw [this, ih (fun d hd => h1 d (List.mem_cons_of_mem _ hd)) (fun d hd => h2 d (List.mem_cons_of_mem _ hd)) h'.2]
def sgn (d : Int) : Str := ⟨#[97 + d.toNat]⟩
theorem join_word (ds : List Int) : Txt.join "" (ds.map sgn) = word ds := by
  rw [TL.join_eq]
  have app : ∀ a b : Str, a ++ "" ++ b = ⟨a.cps ++ b.cps⟩ := fun a b => by
    show Str.mk ((a.cps ++ (Str.ofString "").cps) ++ b.cps) = _
    rw [Str.ofString_eq_toList]
    simp
  induction ds with
  | nil => rfl
  | cons d ds ih =>
    cases ds with
    | nil => rfl
    | cons e es =>
      show sgn d ++ "" ++ Str.join "" ((e :: es).map sgn) = _
      rw [ih, app]
      show Str.mk _ = Str.mk _
      congr 1
      simp [sgn, word]
theorem abc {d : Int} (h0 : 0 ≤ d) (h1 : d < 26) : atI (Str.ofString "abcdefghijklmnopqrstuvwxyz").cps.toList d = some (97 + d.toNat) := by
  obtain ⟨n, rfl⟩ : ∃ n : Nat, d = n := ⟨d.toNat, by omega⟩
  have hn : n < 26 := by omega
  have key : ∀ n : Fin 26, (Str.ofString "abcdefghijklmnopqrstuvwxyz").cps.toList[n.1]? = some (97 + n.1) := by decide +kernel
  rw [atI_nat (key ⟨n, hn⟩)]
  rfl
theorem rng_len (lo : Int) (n : Nat) : (rng lo n).length = n := by
  unfold rng
  simp
theorem rng_mem {lo : Int} {n : Nat} {d : D} (h : d ∈ rng lo n) : ∃ i : Nat, i < n ∧ d = .int (lo + i) := by
  unfold rng at h
  obtain ⟨i, hi, rfl⟩ := List.mem_map.mp h
  exact ⟨i, List.mem_range.mp hi, rfl⟩
theorem rng_at {lo : Int} {n i : Nat} {d : D} (h : (rng lo n)[i]? = some d) : i < n ∧ d = .int (lo + i) := by
  have hi := (List.getElem?_eq_some_iff.mp h).1
  rw [rng_len] at hi
  unfold rng at h
  rw [List.getElem?_map, List.getElem?_range hi] at h
  cases h
  exact ⟨hi, rfl⟩
/-- the sign at a place of the k-th mark -/
def sgAt (sg : List Int) (at_ k : Int) (j : Int) : Int := (sg.getD j.toNat 0 + 5 * k * (if j = at_ then 1 else 0)).fmod 26
def mkAt (sg : List Int) (at_ : Int) (k : Int) : Str := word ((List.range sg.length).map fun j => sgAt sg at_ k (j : Nat))
theorem mkAt_ok {sg : List Int} {at_ k : Int} (lo : 1 ≤ sg.length) (hi : sg.length ≤ 6) : IsMk (mkAt sg at_ k) := by
  refine word_mk (fun d hd => ?_) (by simpa using lo) (by simpa using hi)
  obtain ⟨j, _, rfl⟩ := List.mem_map.mp hd
  exact nm_nat (by decide)
theorem mkAt_inj {sg : List Int} {at_ : Int} {k l : Nat} (h0 : 0 ≤ at_) (h1 : at_ < sg.length) (hk : k < 4) (hl : l < 4) (h : mkAt sg at_ k = mkAt sg at_ l) : k = l := by
  have h' := word_inj (fun d hd => by
    obtain ⟨j, _, rfl⟩ := List.mem_map.mp hd
    exact (nm_nat (by decide)).1) (fun d hd => by
    obtain ⟨j, _, rfl⟩ := List.mem_map.mp hd
    exact (nm_nat (by decide)).1) h
  have e := List.map_inj_left.mp h' at_.toNat (List.mem_range.mpr (by omega))
  have ea : ((at_.toNat : Nat) : Int) = at_ := by omega
  rw [ea] at e
  unfold sgAt at e
  rw [if_pos rfl] at e
  rw [Int.fmod_eq_emod_of_nonneg _ (by decide), Int.fmod_eq_emod_of_nonneg _ (by decide)] at e
  omega
def pMarks : VSp := fun ss st Kp => ∃ c n : Int, ss = [.obj 0] ∧ st = [.l [.int c, .int n]] ∧ PoolK n ∧ ∀ (ms : List Str) (c' n' : Int), MarksOk ms → PoolK n' → Kp (.obj 1) [.l [.int c', .int n'], .l (ms.map .str)]
theorem txts_map (ys : List Str) : txts (ys.map .str) = some ys := by
  induction ys with
  | nil => rfl
  | cons y ys ih =>
    show (txts (ys.map .str)).map (y :: ·) = _
    rw [ih] <;> rfl
theorem r_marks {ss cs Kp} (h : pMarks ss cs Kp) : t_Lmarks pTake (dV cs.length Kp) ⟨startV 9 ss, cs.map some⟩ := by
  obtain ⟨c, n, rfl, rfl, pn, k⟩ := h
  simp only [t_Lmarks, t_Lmarks_8, pTake, flatD, List.any_cons, List.any_nil, eqv_str, eqv_int, eqv_ti, eqv_it, eqv_st, eqv_ts, cut1, Bool.or_false, Bool.or_true, Bool.and_self, Bool.and_true, Bool.and_false, Bool.false_or, Bool.true_or, and_self, ofs_inj, ofs_app, ofs_len, String.reduceEq, String.reduceNe, String.reduceAppend, decide_true, decide_false, Bool.not_true, Bool.not_false, sz0, sz1, sz2, sz3, sz4, sz5, sz6, sz7, sz8, sz9, sz10, sz11, sz12, sz13, sz14, sz15, sz16, sz17, sz18, sz19, sz20, sz21, sz22, sz23, sz24, sz25, cpow1018, true_and, and_true, Nat.reduceAdd, Nat.reduceLT, Nat.reduceSub, Int.reduceNe, Int.reduceEq, Int.reduceLT, Int.reduceLE, Int.reduceToNat, ne_eq, not_false_eq_true, List.length_map, Nat.lt_irrefl, dV_nx, dV_rt, at0, at1, at2, at3, ix20, ix21, vSeq, vIfS, vTest, vTruth, truth, v2, v1, vN, vCons, vNil, vVar, vC, xIx, Vl.opI0, Vl.opI, pk, vSet, vAsg, xgSub, vRet, vRetN, vDrop, vBreak, vCont, asD, asDs, opMod, opDiv, opMul2, Vl.opAdd, Vl.opAddO, opSub, opPow, opLt, Vl.opLe, opGt, Vl.opGe, xEq, okEq_str, okEq_int, xIn, okIn, inD, xIsN, isNone_n, isNone_t, isNone_l, isNone_i, isNone_s, isMo, mob, pkm, gModI, gDivI, gSubI, gMulI, gPowI, gGt, gLt, gLe, gGe, vNotT, vAndT, vOrT, vAndV, vOrV, opNot, opNotG, vIfE, opTup, opLst, opLstO, Vl.opLen, Vl.opInt, opList, opListO, opTuple, opII, gMax, gMin, vM, vM0, isT, xPop, Vl.opAppend, opExtend, opJoin, vgName, vgTup, vgCons, vgNil, kOpt_some, kOpn_some, kOps_some, Vl.opSum, Vl.opInsert, Vl.opIndex, opDivmod, vSl, vPart, vNoPart, opSl, opSlO, opRev, opCallK, ownD, ownO, objs, renum, uniq, getS, putS, vCall0, vFor, vForW, En.wk, vSeqI, vTupI, vRng1, vRng2, vEnum, vZip, chkOf, vLcK, vYes, finD, finO, En.wipe, wipeE, En.trim, trimS, dropNone, clr_n, clr_v, clr_k, clr_o, wth, Vl.ret, takeS, startV,  List.map_cons, List.map_nil, List.length_cons, List.length_nil, List.cons_append, List.nil_append, List.replicate, List.getElem?_cons_succ, List.getElem?_cons_zero, List.getElem?_nil, List.set_cons_succ, List.set_cons_zero, List.set_nil, List.all_nil, List.all_cons, Bool.true_and, Option.map_some, Option.map_none, if_true, if_false, decide_eq_true_eq, Bool.false_eq_true, List.take_succ_cons, List.take_zero, List.take_nil, List.drop_succ_cons, List.drop_zero, List.drop_nil, reduceIte, reduceCtorEq]
  refine ⟨pn, fun r c1 n1 r0 r1 pn1 => ?_⟩
  simp only [t_Lmarks_7, pTake, flatD, List.any_cons, List.any_nil, eqv_str, eqv_int, eqv_ti, eqv_it, eqv_st, eqv_ts, cut1, Bool.or_false, Bool.or_true, Bool.and_self, Bool.and_true, Bool.and_false, Bool.false_or, Bool.true_or, and_self, ofs_inj, ofs_app, ofs_len, String.reduceEq, String.reduceNe, String.reduceAppend, decide_true, decide_false, Bool.not_true, Bool.not_false, sz0, sz1, sz2, sz3, sz4, sz5, sz6, sz7, sz8, sz9, sz10, sz11, sz12, sz13, sz14, sz15, sz16, sz17, sz18, sz19, sz20, sz21, sz22, sz23, sz24, sz25, cpow1018, true_and, and_true, Nat.reduceAdd, Nat.reduceLT, Nat.reduceSub, Int.reduceNe, Int.reduceEq, Int.reduceLT, Int.reduceLE, Int.reduceToNat, ne_eq, not_false_eq_true, List.length_map, Nat.lt_irrefl, dV_nx, dV_rt, at0, at1, at2, at3, ix20, ix21, vSeq, vIfS, vTest, vTruth, truth, v2, v1, vN, vCons, vNil, vVar, vC, xIx, Vl.opI0, Vl.opI, pk, vSet, vAsg, xgSub, vRet, vRetN, vDrop, vBreak, vCont, asD, asDs, opMod, opDiv, opMul2, Vl.opAdd, Vl.opAddO, opSub, opPow, opLt, Vl.opLe, opGt, Vl.opGe, xEq, okEq_str, okEq_int, xIn, okIn, inD, xIsN, isNone_n, isNone_t, isNone_l, isNone_i, isNone_s, isMo, mob, pkm, gModI, gDivI, gSubI, gMulI, gPowI, gGt, gLt, gLe, gGe, vNotT, vAndT, vOrT, vAndV, vOrV, opNot, opNotG, vIfE, opTup, opLst, opLstO, Vl.opLen, Vl.opInt, opList, opListO, opTuple, opII, gMax, gMin, vM, vM0, isT, xPop, Vl.opAppend, opExtend, opJoin, vgName, vgTup, vgCons, vgNil, kOpt_some, kOpn_some, kOps_some, Vl.opSum, Vl.opInsert, Vl.opIndex, opDivmod, vSl, vPart, vNoPart, opSl, opSlO, opRev, opCallK, ownD, ownO, objs, renum, uniq, getS, putS, vCall0, vFor, vForW, En.wk, vSeqI, vTupI, vRng1, vRng2, vEnum, vZip, chkOf, vLcK, vYes, finD, finO, En.wipe, wipeE, En.trim, trimS, dropNone, clr_n, clr_v, clr_k, clr_o, wth, Vl.ret, takeS, startV,  List.map_cons, List.map_nil, List.length_cons, List.length_nil, List.cons_append, List.nil_append, List.replicate, List.getElem?_cons_succ, List.getElem?_cons_zero, List.getElem?_nil, List.set_cons_succ, List.set_cons_zero, List.set_nil, List.all_nil, List.all_cons, Bool.true_and, Option.map_some, Option.map_none, if_true, if_false, decide_eq_true_eq, Bool.false_eq_true, List.take_succ_cons, List.take_zero, List.take_nil, List.drop_succ_cons, List.drop_zero, List.drop_nil, reduceIte, reduceCtorEq]
  refine ⟨pn1, by omega, by omega, fun at_ c2 n2 a0 a1 pn2 => ?_⟩
  simp only [t_Lmarks_6, flatD, List.any_cons, List.any_nil, eqv_str, eqv_int, eqv_ti, eqv_it, eqv_st, eqv_ts, cut1, Bool.or_false, Bool.or_true, Bool.and_self, Bool.and_true, Bool.and_false, Bool.false_or, Bool.true_or, and_self, ofs_inj, ofs_app, ofs_len, String.reduceEq, String.reduceNe, String.reduceAppend, decide_true, decide_false, Bool.not_true, Bool.not_false, sz0, sz1, sz2, sz3, sz4, sz5, sz6, sz7, sz8, sz9, sz10, sz11, sz12, sz13, sz14, sz15, sz16, sz17, sz18, sz19, sz20, sz21, sz22, sz23, sz24, sz25, cpow1018, true_and, and_true, Nat.reduceAdd, Nat.reduceLT, Nat.reduceSub, Int.reduceNe, Int.reduceEq, Int.reduceLT, Int.reduceLE, Int.reduceToNat, ne_eq, not_false_eq_true, List.length_map, Nat.lt_irrefl, dV_nx, dV_rt, at0, at1, at2, at3, ix20, ix21, vSeq, vIfS, vTest, vTruth, truth, v2, v1, vN, vCons, vNil, vVar, vC, xIx, Vl.opI0, Vl.opI, pk, vSet, vAsg, xgSub, vRet, vRetN, vDrop, vBreak, vCont, asD, asDs, opMod, opDiv, opMul2, Vl.opAdd, Vl.opAddO, opSub, opPow, opLt, Vl.opLe, opGt, Vl.opGe, xEq, okEq_str, okEq_int, xIn, okIn, inD, xIsN, isNone_n, isNone_t, isNone_l, isNone_i, isNone_s, isMo, mob, pkm, gModI, gDivI, gSubI, gMulI, gPowI, gGt, gLt, gLe, gGe, vNotT, vAndT, vOrT, vAndV, vOrV, opNot, opNotG, vIfE, opTup, opLst, opLstO, Vl.opLen, Vl.opInt, opList, opListO, opTuple, opII, gMax, gMin, vM, vM0, isT, xPop, Vl.opAppend, opExtend, opJoin, vgName, vgTup, vgCons, vgNil, kOpt_some, kOpn_some, kOps_some, Vl.opSum, Vl.opInsert, Vl.opIndex, opDivmod, vSl, vPart, vNoPart, opSl, opSlO, opRev, opCallK, ownD, ownO, objs, renum, uniq, getS, putS, vCall0, vFor, vForW, En.wk, vSeqI, vTupI, vRng1, vRng2, vEnum, vZip, chkOf, vLcK, vYes, finD, finO, En.wipe, wipeE, En.trim, trimS, dropNone, clr_n, clr_v, clr_k, clr_o, wth, Vl.ret, takeS, startV,  List.map_cons, List.map_nil, List.length_cons, List.length_nil, List.cons_append, List.nil_append, List.replicate, List.getElem?_cons_succ, List.getElem?_cons_zero, List.getElem?_nil, List.set_cons_succ, List.set_cons_zero, List.set_nil, List.all_nil, List.all_cons, Bool.true_and, Option.map_some, Option.map_none, if_true, if_false, decide_eq_true_eq, Bool.false_eq_true, List.take_succ_cons, List.take_zero, List.take_nil, List.drop_succ_cons, List.drop_zero, List.drop_nil, reduceIte, reduceCtorEq]
  refine ⟨by omega, by omega, ?_⟩
  -- the signs
  refine cl_inv (chk := none) (fun i acc e => ∃ (sg : List Int) (c n : Int), sg.length = i ∧ acc = sg.map .int ∧ PoolK n ∧ e = ⟨[some (.obj 0), some (.val (.int (1 + r))), some (.val (.int at_)), none, none, none, none, none, none], [some (.l [.int c, .int n])]⟩) (fun _ _ _ _ _ => trivial) ?_ ?_ ⟨[], c2, n2, rfl, rfl, pn2, rfl⟩
  · rintro i d acc e Kt hd ⟨sg, c, n, hsg, rfl, pn3, rfl⟩ hk
    obtain ⟨hi, rfl⟩ := rng_at hd
    simp only [pTake, flatD, List.any_cons, List.any_nil, eqv_str, eqv_int, eqv_ti, eqv_it, eqv_st, eqv_ts, cut1, Bool.or_false, Bool.or_true, Bool.and_self, Bool.and_true, Bool.and_false, Bool.false_or, Bool.true_or, and_self, ofs_inj, ofs_app, ofs_len, String.reduceEq, String.reduceNe, String.reduceAppend, decide_true, decide_false, Bool.not_true, Bool.not_false, sz0, sz1, sz2, sz3, sz4, sz5, sz6, sz7, sz8, sz9, sz10, sz11, sz12, sz13, sz14, sz15, sz16, sz17, sz18, sz19, sz20, sz21, sz22, sz23, sz24, sz25, cpow1018, true_and, and_true, Nat.reduceAdd, Nat.reduceLT, Nat.reduceSub, Int.reduceNe, Int.reduceEq, Int.reduceLT, Int.reduceLE, Int.reduceToNat, ne_eq, not_false_eq_true, List.length_map, Nat.lt_irrefl, dV_nx, dV_rt, at0, at1, at2, at3, ix20, ix21, vSeq, vIfS, vTest, vTruth, truth, v2, v1, vN, vCons, vNil, vVar, vC, xIx, Vl.opI0, Vl.opI, pk, vSet, vAsg, xgSub, vRet, vRetN, vDrop, vBreak, vCont, asD, asDs, opMod, opDiv, opMul2, Vl.opAdd, Vl.opAddO, opSub, opPow, opLt, Vl.opLe, opGt, Vl.opGe, xEq, okEq_str, okEq_int, xIn, okIn, inD, xIsN, isNone_n, isNone_t, isNone_l, isNone_i, isNone_s, isMo, mob, pkm, gModI, gDivI, gSubI, gMulI, gPowI, gGt, gLt, gLe, gGe, vNotT, vAndT, vOrT, vAndV, vOrV, opNot, opNotG, vIfE, opTup, opLst, opLstO, Vl.opLen, Vl.opInt, opList, opListO, opTuple, opII, gMax, gMin, vM, vM0, isT, xPop, Vl.opAppend, opExtend, opJoin, vgName, vgTup, vgCons, vgNil, kOpt_some, kOpn_some, kOps_some, Vl.opSum, Vl.opInsert, Vl.opIndex, opDivmod, vSl, vPart, vNoPart, opSl, opSlO, opRev, opCallK, ownD, ownO, objs, renum, uniq, getS, putS, vCall0, vFor, vForW, En.wk, vSeqI, vTupI, vRng1, vRng2, vEnum, vZip, chkOf, vLcK, vYes, finD, finO, En.wipe, wipeE, En.trim, trimS, dropNone, clr_n, clr_v, clr_k, clr_o, wth, Vl.ret, takeS, startV,  List.map_cons, List.map_nil, List.length_cons, List.length_nil, List.cons_append, List.nil_append, List.replicate, List.getElem?_cons_succ, List.getElem?_cons_zero, List.getElem?_nil, List.set_cons_succ, List.set_cons_zero, List.set_nil, List.all_nil, List.all_cons, Bool.true_and, Option.map_some, Option.map_none, if_true, if_false, decide_eq_true_eq, Bool.false_eq_true, List.take_succ_cons, List.take_zero, List.take_nil, List.drop_succ_cons, List.drop_zero, List.drop_nil, reduceIte, reduceCtorEq]
    refine ⟨pn3, fun s c' n' s0 s1 pn' => ⟨bigl (by rw [hsg]; omega), hk _ _ ⟨sg ++ [s], c', n', by simp [hsg], by simp, pn', rfl⟩⟩⟩
  · rintro acc e ⟨sg, c, n, hsg, rfl, pn3, rfl⟩
    rw [rng_len] at hsg
    have sl : (sg.length : Int) = 1 + r := by omega
    simp only [t_Lmarks_5, flatD, List.any_cons, List.any_nil, eqv_str, eqv_int, eqv_ti, eqv_it, eqv_st, eqv_ts, cut1, Bool.or_false, Bool.or_true, Bool.and_self, Bool.and_true, Bool.and_false, Bool.false_or, Bool.true_or, and_self, ofs_inj, ofs_app, ofs_len, String.reduceEq, String.reduceNe, String.reduceAppend, decide_true, decide_false, Bool.not_true, Bool.not_false, sz0, sz1, sz2, sz3, sz4, sz5, sz6, sz7, sz8, sz9, sz10, sz11, sz12, sz13, sz14, sz15, sz16, sz17, sz18, sz19, sz20, sz21, sz22, sz23, sz24, sz25, cpow1018, true_and, and_true, Nat.reduceAdd, Nat.reduceLT, Nat.reduceSub, Int.reduceNe, Int.reduceEq, Int.reduceLT, Int.reduceLE, Int.reduceToNat, ne_eq, not_false_eq_true, List.length_map, Nat.lt_irrefl, dV_nx, dV_rt, at0, at1, at2, at3, ix20, ix21, vSeq, vIfS, vTest, vTruth, truth, v2, v1, vN, vCons, vNil, vVar, vC, xIx, Vl.opI0, Vl.opI, pk, vSet, vAsg, xgSub, vRet, vRetN, vDrop, vBreak, vCont, asD, asDs, opMod, opDiv, opMul2, Vl.opAdd, Vl.opAddO, opSub, opPow, opLt, Vl.opLe, opGt, Vl.opGe, xEq, okEq_str, okEq_int, xIn, okIn, inD, xIsN, isNone_n, isNone_t, isNone_l, isNone_i, isNone_s, isMo, mob, pkm, gModI, gDivI, gSubI, gMulI, gPowI, gGt, gLt, gLe, gGe, vNotT, vAndT, vOrT, vAndV, vOrV, opNot, opNotG, vIfE, opTup, opLst, opLstO, Vl.opLen, Vl.opInt, opList, opListO, opTuple, opII, gMax, gMin, vM, vM0, isT, xPop, Vl.opAppend, opExtend, opJoin, vgName, vgTup, vgCons, vgNil, kOpt_some, kOpn_some, kOps_some, Vl.opSum, Vl.opInsert, Vl.opIndex, opDivmod, vSl, vPart, vNoPart, opSl, opSlO, opRev, opCallK, ownD, ownO, objs, renum, uniq, getS, putS, vCall0, vFor, vForW, En.wk, vSeqI, vTupI, vRng1, vRng2, vEnum, vZip, chkOf, vLcK, vYes, finD, finO, En.wipe, wipeE, En.trim, trimS, dropNone, clr_n, clr_v, clr_k, clr_o, wth, Vl.ret, takeS, startV,  List.map_cons, List.map_nil, List.length_cons, List.length_nil, List.cons_append, List.nil_append, List.replicate, List.getElem?_cons_succ, List.getElem?_cons_zero, List.getElem?_nil, List.set_cons_succ, List.set_cons_zero, List.set_nil, List.all_nil, List.all_cons, Bool.true_and, Option.map_some, Option.map_none, if_true, if_false, decide_eq_true_eq, Bool.false_eq_true, List.take_succ_cons, List.take_zero, List.take_nil, List.drop_succ_cons, List.drop_zero, List.drop_nil, reduceIte, reduceCtorEq]
    simp only [t_Lmarks_4, pTake, flatD, List.any_cons, List.any_nil, eqv_str, eqv_int, eqv_ti, eqv_it, eqv_st, eqv_ts, cut1, Bool.or_false, Bool.or_true, Bool.and_self, Bool.and_true, Bool.and_false, Bool.false_or, Bool.true_or, and_self, ofs_inj, ofs_app, ofs_len, String.reduceEq, String.reduceNe, String.reduceAppend, decide_true, decide_false, Bool.not_true, Bool.not_false, sz0, sz1, sz2, sz3, sz4, sz5, sz6, sz7, sz8, sz9, sz10, sz11, sz12, sz13, sz14, sz15, sz16, sz17, sz18, sz19, sz20, sz21, sz22, sz23, sz24, sz25, cpow1018, true_and, and_true, Nat.reduceAdd, Nat.reduceLT, Nat.reduceSub, Int.reduceNe, Int.reduceEq, Int.reduceLT, Int.reduceLE, Int.reduceToNat, ne_eq, not_false_eq_true, List.length_map, Nat.lt_irrefl, dV_nx, dV_rt, at0, at1, at2, at3, ix20, ix21, vSeq, vIfS, vTest, vTruth, truth, v2, v1, vN, vCons, vNil, vVar, vC, xIx, Vl.opI0, Vl.opI, pk, vSet, vAsg, xgSub, vRet, vRetN, vDrop, vBreak, vCont, asD, asDs, opMod, opDiv, opMul2, Vl.opAdd, Vl.opAddO, opSub, opPow, opLt, Vl.opLe, opGt, Vl.opGe, xEq, okEq_str, okEq_int, xIn, okIn, inD, xIsN, isNone_n, isNone_t, isNone_l, isNone_i, isNone_s, isMo, mob, pkm, gModI, gDivI, gSubI, gMulI, gPowI, gGt, gLt, gLe, gGe, vNotT, vAndT, vOrT, vAndV, vOrV, opNot, opNotG, vIfE, opTup, opLst, opLstO, Vl.opLen, Vl.opInt, opList, opListO, opTuple, opII, gMax, gMin, vM, vM0, isT, xPop, Vl.opAppend, opExtend, opJoin, vgName, vgTup, vgCons, vgNil, kOpt_some, kOpn_some, kOps_some, Vl.opSum, Vl.opInsert, Vl.opIndex, opDivmod, vSl, vPart, vNoPart, opSl, opSlO, opRev, opCallK, ownD, ownO, objs, renum, uniq, getS, putS, vCall0, vFor, vForW, En.wk, vSeqI, vTupI, vRng1, vRng2, vEnum, vZip, chkOf, vLcK, vYes, finD, finO, En.wipe, wipeE, En.trim, trimS, dropNone, clr_n, clr_v, clr_k, clr_o, wth, Vl.ret, takeS, startV,  List.map_cons, List.map_nil, List.length_cons, List.length_nil, List.cons_append, List.nil_append, List.replicate, List.getElem?_cons_succ, List.getElem?_cons_zero, List.getElem?_nil, List.set_cons_succ, List.set_cons_zero, List.set_nil, List.all_nil, List.all_cons, Bool.true_and, Option.map_some, Option.map_none, if_true, if_false, decide_eq_true_eq, Bool.false_eq_true, List.take_succ_cons, List.take_zero, List.take_nil, List.drop_succ_cons, List.drop_zero, List.drop_nil, reduceIte, reduceCtorEq]
    refine ⟨pn3, fun m c3 n3 m0 m1 pn4 => ⟨by omega, by omega, ?_⟩⟩
    rw [rng_eq]
    refine fl_invW (chk := none) (fun (i : Nat) => PyData.int (0 + (i : Nat))) (List.range (1 + m).toNat) (fun ys e => e = ⟨[some (.obj 0), some (.val (.int (1 + r))), some (.val (.int at_)), some (.val (.list (sg.map .int))), some (.obj 1), none, none, none, none],
        [some (.l [.int c3, .int n3]), some (.l ((ys.map fun (k : Nat) => mkAt sg at_ k).map .str))]⟩) (fun _ _ _ => trivial) ?_ ?_ rfl
    · rintro ys i zs e Nx hys rfl hk
      have hlen : ys.length + 1 + zs.length = (1 + m).toNat := by
        have := congrArg List.length hys
        simp at this
        omega
      have hi : i < (1 + m).toNat := List.mem_range.mp (by rw [hys]; simp)
      simp only [t_Lmarks_2, flatD, List.any_cons, List.any_nil, eqv_str, eqv_int, eqv_ti, eqv_it, eqv_st, eqv_ts, cut1, Bool.or_false, Bool.or_true, Bool.and_self, Bool.and_true, Bool.and_false, Bool.false_or, Bool.true_or, and_self, ofs_inj, ofs_app, ofs_len, String.reduceEq, String.reduceNe, String.reduceAppend, decide_true, decide_false, Bool.not_true, Bool.not_false, sz0, sz1, sz2, sz3, sz4, sz5, sz6, sz7, sz8, sz9, sz10, sz11, sz12, sz13, sz14, sz15, sz16, sz17, sz18, sz19, sz20, sz21, sz22, sz23, sz24, sz25, cpow1018, true_and, and_true, Nat.reduceAdd, Nat.reduceLT, Nat.reduceSub, Int.reduceNe, Int.reduceEq, Int.reduceLT, Int.reduceLE, Int.reduceToNat, ne_eq, not_false_eq_true, List.length_map, Nat.lt_irrefl, dV_nx, dV_rt, at0, at1, at2, at3, ix20, ix21, vSeq, vIfS, vTest, vTruth, truth, v2, v1, vN, vCons, vNil, vVar, vC, xIx, Vl.opI0, Vl.opI, pk, vSet, vAsg, xgSub, vRet, vRetN, vDrop, vBreak, vCont, asD, asDs, opMod, opDiv, opMul2, Vl.opAdd, Vl.opAddO, opSub, opPow, opLt, Vl.opLe, opGt, Vl.opGe, xEq, okEq_str, okEq_int, xIn, okIn, inD, xIsN, isNone_n, isNone_t, isNone_l, isNone_i, isNone_s, isMo, mob, pkm, gModI, gDivI, gSubI, gMulI, gPowI, gGt, gLt, gLe, gGe, vNotT, vAndT, vOrT, vAndV, vOrV, opNot, opNotG, vIfE, opTup, opLst, opLstO, Vl.opLen, Vl.opInt, opList, opListO, opTuple, opII, gMax, gMin, vM, vM0, isT, xPop, Vl.opAppend, opExtend, opJoin, vgName, vgTup, vgCons, vgNil, kOpt_some, kOpn_some, kOps_some, Vl.opSum, Vl.opInsert, Vl.opIndex, opDivmod, vSl, vPart, vNoPart, opSl, opSlO, opRev, opCallK, ownD, ownO, objs, renum, uniq, getS, putS, vCall0, vFor, vForW, En.wk, vSeqI, vTupI, vRng1, vRng2, vEnum, vZip, chkOf, vLcK, vYes, finD, finO, En.wipe, wipeE, En.trim, trimS, dropNone, clr_n, clr_v, clr_k, clr_o, wth, Vl.ret, takeS, startV,  List.map_cons, List.map_nil, List.length_cons, List.length_nil, List.cons_append, List.nil_append, List.replicate, List.getElem?_cons_succ, List.getElem?_cons_zero, List.getElem?_nil, List.set_cons_succ, List.set_cons_zero, List.set_nil, List.all_nil, List.all_cons, Bool.true_and, Option.map_some, Option.map_none, if_true, if_false, decide_eq_true_eq, Bool.false_eq_true, List.take_succ_cons, List.take_zero, List.take_nil, List.drop_succ_cons, List.drop_zero, List.drop_nil, reduceIte, reduceCtorEq]
      refine ⟨by omega, by omega, ?_⟩
      rw [rng_eq]
      refine cl_mapE _ (fun (j : Nat) => .int (sgAt sg at_ i (j : Nat))) _ (by rw [List.length_range]; exact big (by simp; omega)) (fun j Kt hj hk => ?_) ?_
      · have hj := List.mem_range.mp hj
        have hj' : (0 + (j : Nat) : Int) = (j : Nat) := by omega
        have hsj : sg[j]? = some (sg.getD j 0) := by
          rw [List.getD_eq_getElem?_getD]
          have : j < sg.length := by omega
          simp [this]
        have at1 : atI (sg.map PyData.int) (0 + (j : Nat)) = some (.int (sg.getD j 0)) := by
          rw [hj']
          exact atI_nat (by rw [List.getElem?_map, hsj] <;> rfl)
        have e1 : sgAt sg at_ i (j : Nat) = (sg.getD j 0 + 5 * (0 + (i : Nat)) * (if (0 + (j : Nat) : Int) = at_ then 1 else 0)).fmod 26 := by
          unfold sgAt
          rw [hj', show (0 + (i : Nat) : Int) = (i : Nat) from by omega]
          rfl
        rw [e1] at hk
        simp only [at1, flatD, List.any_cons, List.any_nil, eqv_str, eqv_int, eqv_ti, eqv_it, eqv_st, eqv_ts, cut1, Bool.or_false, Bool.or_true, Bool.and_self, Bool.and_true, Bool.and_false, Bool.false_or, Bool.true_or, and_self, ofs_inj, ofs_app, ofs_len, String.reduceEq, String.reduceNe, String.reduceAppend, decide_true, decide_false, Bool.not_true, Bool.not_false, sz0, sz1, sz2, sz3, sz4, sz5, sz6, sz7, sz8, sz9, sz10, sz11, sz12, sz13, sz14, sz15, sz16, sz17, sz18, sz19, sz20, sz21, sz22, sz23, sz24, sz25, cpow1018, true_and, and_true, Nat.reduceAdd, Nat.reduceLT, Nat.reduceSub, Int.reduceNe, Int.reduceEq, Int.reduceLT, Int.reduceLE, Int.reduceToNat, ne_eq, not_false_eq_true, List.length_map, Nat.lt_irrefl, dV_nx, dV_rt, at0, at1, at2, at3, ix20, ix21, vSeq, vIfS, vTest, vTruth, truth, v2, v1, vN, vCons, vNil, vVar, vC, xIx, Vl.opI0, Vl.opI, pk, vSet, vAsg, xgSub, vRet, vRetN, vDrop, vBreak, vCont, asD, asDs, opMod, opDiv, opMul2, Vl.opAdd, Vl.opAddO, opSub, opPow, opLt, Vl.opLe, opGt, Vl.opGe, xEq, okEq_str, okEq_int, xIn, okIn, inD, xIsN, isNone_n, isNone_t, isNone_l, isNone_i, isNone_s, isMo, mob, pkm, gModI, gDivI, gSubI, gMulI, gPowI, gGt, gLt, gLe, gGe, vNotT, vAndT, vOrT, vAndV, vOrV, opNot, opNotG, vIfE, opTup, opLst, opLstO, Vl.opLen, Vl.opInt, opList, opListO, opTuple, opII, gMax, gMin, vM, vM0, isT, xPop, Vl.opAppend, opExtend, opJoin, vgName, vgTup, vgCons, vgNil, kOpt_some, kOpn_some, kOps_some, Vl.opSum, Vl.opInsert, Vl.opIndex, opDivmod, vSl, vPart, vNoPart, opSl, opSlO, opRev, opCallK, ownD, ownO, objs, renum, uniq, getS, putS, vCall0, vFor, vForW, En.wk, vSeqI, vTupI, vRng1, vRng2, vEnum, vZip, chkOf, vLcK, vYes, finD, finO, En.wipe, wipeE, En.trim, trimS, dropNone, clr_n, clr_v, clr_k, clr_o, wth, Vl.ret, takeS, startV,  List.map_cons, List.map_nil, List.length_cons, List.length_nil, List.cons_append, List.nil_append, List.replicate, List.getElem?_cons_succ, List.getElem?_cons_zero, List.getElem?_nil, List.set_cons_succ, List.set_cons_zero, List.set_nil, List.all_nil, List.all_cons, Bool.true_and, Option.map_some, Option.map_none, if_true, if_false, decide_eq_true_eq, Bool.false_eq_true, List.take_succ_cons, List.take_zero, List.take_nil, List.drop_succ_cons, List.drop_zero, List.drop_nil, reduceIte, reduceCtorEq]
        refine ⟨by unfold CMul; omega, by unfold CMul; omega, hk _ rfl⟩
      · simp only [List.nil_append, t_Lmarks_1, flatD, List.any_cons, List.any_nil, eqv_str, eqv_int, eqv_ti, eqv_it, eqv_st, eqv_ts, cut1, Bool.or_false, Bool.or_true, Bool.and_self, Bool.and_true, Bool.and_false, Bool.false_or, Bool.true_or, and_self, ofs_inj, ofs_app, ofs_len, String.reduceEq, String.reduceNe, String.reduceAppend, decide_true, decide_false, Bool.not_true, Bool.not_false, sz0, sz1, sz2, sz3, sz4, sz5, sz6, sz7, sz8, sz9, sz10, sz11, sz12, sz13, sz14, sz15, sz16, sz17, sz18, sz19, sz20, sz21, sz22, sz23, sz24, sz25, cpow1018, true_and, and_true, Nat.reduceAdd, Nat.reduceLT, Nat.reduceSub, Int.reduceNe, Int.reduceEq, Int.reduceLT, Int.reduceLE, Int.reduceToNat, ne_eq, not_false_eq_true, List.length_map, Nat.lt_irrefl, dV_nx, dV_rt, at0, at1, at2, at3, ix20, ix21, vSeq, vIfS, vTest, vTruth, truth, v2, v1, vN, vCons, vNil, vVar, vC, xIx, Vl.opI0, Vl.opI, pk, vSet, vAsg, xgSub, vRet, vRetN, vDrop, vBreak, vCont, asD, asDs, opMod, opDiv, opMul2, Vl.opAdd, Vl.opAddO, opSub, opPow, opLt, Vl.opLe, opGt, Vl.opGe, xEq, okEq_str, okEq_int, xIn, okIn, inD, xIsN, isNone_n, isNone_t, isNone_l, isNone_i, isNone_s, isMo, mob, pkm, gModI, gDivI, gSubI, gMulI, gPowI, gGt, gLt, gLe, gGe, vNotT, vAndT, vOrT, vAndV, vOrV, opNot, opNotG, vIfE, opTup, opLst, opLstO, Vl.opLen, Vl.opInt, opList, opListO, opTuple, opII, gMax, gMin, vM, vM0, isT, xPop, Vl.opAppend, opExtend, opJoin, vgName, vgTup, vgCons, vgNil, kOpt_some, kOpn_some, kOps_some, Vl.opSum, Vl.opInsert, Vl.opIndex, opDivmod, vSl, vPart, vNoPart, opSl, opSlO, opRev, opCallK, ownD, ownO, objs, renum, uniq, getS, putS, vCall0, vFor, vForW, En.wk, vSeqI, vTupI, vRng1, vRng2, vEnum, vZip, chkOf, vLcK, vYes, finD, finO, En.wipe, wipeE, En.trim, trimS, dropNone, clr_n, clr_v, clr_k, clr_o, wth, Vl.ret, takeS, startV,  List.map_cons, List.map_nil, List.length_cons, List.length_nil, List.cons_append, List.nil_append, List.replicate, List.getElem?_cons_succ, List.getElem?_cons_zero, List.getElem?_nil, List.set_cons_succ, List.set_cons_zero, List.set_nil, List.all_nil, List.all_cons, Bool.true_and, Option.map_some, Option.map_none, if_true, if_false, decide_eq_true_eq, Bool.false_eq_true, List.take_succ_cons, List.take_zero, List.take_nil, List.drop_succ_cons, List.drop_zero, List.drop_nil, reduceIte, reduceCtorEq]
        refine cl_mapE _ (fun (j : Nat) => .str (sgn (sgAt sg at_ i (j : Nat)))) _ (by rw [List.length_range]; exact big (by simp; omega)) (fun j Kt hj hk => ?_) ?_
        · have q := nm_nat (x := (sg.getD ((j : Nat) : Int).toNat 0 + 5 * (i : Nat) * (if ((j : Nat) : Int) = at_ then 1 else 0))) (m := 26) (by decide)
          simp only [flatD, List.any_cons, List.any_nil, eqv_str, eqv_int, eqv_ti, eqv_it, eqv_st, eqv_ts, cut1, Bool.or_false, Bool.or_true, Bool.and_self, Bool.and_true, Bool.and_false, Bool.false_or, Bool.true_or, and_self, ofs_inj, ofs_app, ofs_len, String.reduceEq, String.reduceNe, String.reduceAppend, decide_true, decide_false, Bool.not_true, Bool.not_false, sz0, sz1, sz2, sz3, sz4, sz5, sz6, sz7, sz8, sz9, sz10, sz11, sz12, sz13, sz14, sz15, sz16, sz17, sz18, sz19, sz20, sz21, sz22, sz23, sz24, sz25, cpow1018, true_and, and_true, Nat.reduceAdd, Nat.reduceLT, Nat.reduceSub, Int.reduceNe, Int.reduceEq, Int.reduceLT, Int.reduceLE, Int.reduceToNat, ne_eq, not_false_eq_true, List.length_map, Nat.lt_irrefl, dV_nx, dV_rt, at0, at1, at2, at3, ix20, ix21, vSeq, vIfS, vTest, vTruth, truth, v2, v1, vN, vCons, vNil, vVar, vC, xIx, Vl.opI0, Vl.opI, pk, vSet, vAsg, xgSub, vRet, vRetN, vDrop, vBreak, vCont, asD, asDs, opMod, opDiv, opMul2, Vl.opAdd, Vl.opAddO, opSub, opPow, opLt, Vl.opLe, opGt, Vl.opGe, xEq, okEq_str, okEq_int, xIn, okIn, inD, xIsN, isNone_n, isNone_t, isNone_l, isNone_i, isNone_s, isMo, mob, pkm, gModI, gDivI, gSubI, gMulI, gPowI, gGt, gLt, gLe, gGe, vNotT, vAndT, vOrT, vAndV, vOrV, opNot, opNotG, vIfE, opTup, opLst, opLstO, Vl.opLen, Vl.opInt, opList, opListO, opTuple, opII, gMax, gMin, vM, vM0, isT, xPop, Vl.opAppend, opExtend, opJoin, vgName, vgTup, vgCons, vgNil, kOpt_some, kOpn_some, kOps_some, Vl.opSum, Vl.opInsert, Vl.opIndex, opDivmod, vSl, vPart, vNoPart, opSl, opSlO, opRev, opCallK, ownD, ownO, objs, renum, uniq, getS, putS, vCall0, vFor, vForW, En.wk, vSeqI, vTupI, vRng1, vRng2, vEnum, vZip, chkOf, vLcK, vYes, finD, finO, En.wipe, wipeE, En.trim, trimS, dropNone, clr_n, clr_v, clr_k, clr_o, wth, Vl.ret, takeS, startV,  List.map_cons, List.map_nil, List.length_cons, List.length_nil, List.cons_append, List.nil_append, List.replicate, List.getElem?_cons_succ, List.getElem?_cons_zero, List.getElem?_nil, List.set_cons_succ, List.set_cons_zero, List.set_nil, List.all_nil, List.all_cons, Bool.true_and, Option.map_some, Option.map_none, if_true, if_false, decide_eq_true_eq, Bool.false_eq_true, List.take_succ_cons, List.take_zero, List.take_nil, List.drop_succ_cons, List.drop_zero, List.drop_nil, reduceIte, reduceCtorEq]
          exact ⟨97 + (sgAt sg at_ i (j : Nat)).toNat, big (by decide), abc q.1 q.2, hk _ rfl⟩
        · have hl : (List.range (1 + r).toNat).map (fun (j : Nat) => PyData.str (sgn (sgAt sg at_ i (j : Nat)))) = (((List.range sg.length).map fun (j : Nat) => sgAt sg at_ i (j : Nat)).map sgn).map .str := by
            rw [show (1 + r).toNat = sg.length from by omega, List.map_map, List.map_map]
            rfl
          have sum1 : ∀ l : List Int, ((l.map sgn).map (·.length)).sum = l.length := fun l => by
            induction l with
            | nil => rfl
            | cons x l ih =>
              rw [List.map_cons, List.map_cons, List.sum_cons, ih, List.length_cons]
              show 1 + _ = _
              omega
          simp only [List.nil_append, hl, flatD, List.any_cons, List.any_nil, eqv_str, eqv_int, eqv_ti, eqv_it, eqv_st, eqv_ts, cut1, Bool.or_false, Bool.or_true, Bool.and_self, Bool.and_true, Bool.and_false, Bool.false_or, Bool.true_or, and_self, ofs_inj, ofs_app, ofs_len, String.reduceEq, String.reduceNe, String.reduceAppend, decide_true, decide_false, Bool.not_true, Bool.not_false, sz0, sz1, sz2, sz3, sz4, sz5, sz6, sz7, sz8, sz9, sz10, sz11, sz12, sz13, sz14, sz15, sz16, sz17, sz18, sz19, sz20, sz21, sz22, sz23, sz24, sz25, cpow1018, true_and, and_true, Nat.reduceAdd, Nat.reduceLT, Nat.reduceSub, Int.reduceNe, Int.reduceEq, Int.reduceLT, Int.reduceLE, Int.reduceToNat, ne_eq, not_false_eq_true, List.length_map, Nat.lt_irrefl, dV_nx, dV_rt, at0, at1, at2, at3, ix20, ix21, vSeq, vIfS, vTest, vTruth, truth, v2, v1, vN, vCons, vNil, vVar, vC, xIx, Vl.opI0, Vl.opI, pk, vSet, vAsg, xgSub, vRet, vRetN, vDrop, vBreak, vCont, asD, asDs, opMod, opDiv, opMul2, Vl.opAdd, Vl.opAddO, opSub, opPow, opLt, Vl.opLe, opGt, Vl.opGe, xEq, okEq_str, okEq_int, xIn, okIn, inD, xIsN, isNone_n, isNone_t, isNone_l, isNone_i, isNone_s, isMo, mob, pkm, gModI, gDivI, gSubI, gMulI, gPowI, gGt, gLt, gLe, gGe, vNotT, vAndT, vOrT, vAndV, vOrV, opNot, opNotG, vIfE, opTup, opLst, opLstO, Vl.opLen, Vl.opInt, opList, opListO, opTuple, opII, gMax, gMin, vM, vM0, isT, xPop, Vl.opAppend, opExtend, opJoin, vgName, vgTup, vgCons, vgNil, kOpt_some, kOpn_some, kOps_some, Vl.opSum, Vl.opInsert, Vl.opIndex, opDivmod, vSl, vPart, vNoPart, opSl, opSlO, opRev, opCallK, ownD, ownO, objs, renum, uniq, getS, putS, vCall0, vFor, vForW, En.wk, vSeqI, vTupI, vRng1, vRng2, vEnum, vZip, chkOf, vLcK, vYes, finD, finO, En.wipe, wipeE, En.trim, trimS, dropNone, clr_n, clr_v, clr_k, clr_o, wth, Vl.ret, takeS, startV,  List.map_cons, List.map_nil, List.length_cons, List.length_nil, List.cons_append, List.nil_append, List.replicate, List.getElem?_cons_succ, List.getElem?_cons_zero, List.getElem?_nil, List.set_cons_succ, List.set_cons_zero, List.set_nil, List.all_nil, List.all_cons, Bool.true_and, Option.map_some, Option.map_none, if_true, if_false, decide_eq_true_eq, Bool.false_eq_true, List.take_succ_cons, List.take_zero, List.take_nil, List.drop_succ_cons, List.drop_zero, List.drop_nil, reduceIte, reduceCtorEq]
          refine ⟨_, txts_map _, ?_, bigl (by omega), ?_⟩
          · rw [sum1]
            simp
            omega
          · rw [join_word]
            simp only [List.map_append, List.map_cons, List.map_nil] at hk
            exact hk _ 2 [5, 6] (Nat.le_refl _) rfl
    · rintro e rfl
      simp only [t_Lmarks_3, flatD, List.any_cons, List.any_nil, eqv_str, eqv_int, eqv_ti, eqv_it, eqv_st, eqv_ts, cut1, Bool.or_false, Bool.or_true, Bool.and_self, Bool.and_true, Bool.and_false, Bool.false_or, Bool.true_or, and_self, ofs_inj, ofs_app, ofs_len, String.reduceEq, String.reduceNe, String.reduceAppend, decide_true, decide_false, Bool.not_true, Bool.not_false, sz0, sz1, sz2, sz3, sz4, sz5, sz6, sz7, sz8, sz9, sz10, sz11, sz12, sz13, sz14, sz15, sz16, sz17, sz18, sz19, sz20, sz21, sz22, sz23, sz24, sz25, cpow1018, true_and, and_true, Nat.reduceAdd, Nat.reduceLT, Nat.reduceSub, Int.reduceNe, Int.reduceEq, Int.reduceLT, Int.reduceLE, Int.reduceToNat, ne_eq, not_false_eq_true, List.length_map, Nat.lt_irrefl, dV_nx, dV_rt, at0, at1, at2, at3, ix20, ix21, vSeq, vIfS, vTest, vTruth, truth, v2, v1, vN, vCons, vNil, vVar, vC, xIx, Vl.opI0, Vl.opI, pk, vSet, vAsg, xgSub, vRet, vRetN, vDrop, vBreak, vCont, asD, asDs, opMod, opDiv, opMul2, Vl.opAdd, Vl.opAddO, opSub, opPow, opLt, Vl.opLe, opGt, Vl.opGe, xEq, okEq_str, okEq_int, xIn, okIn, inD, xIsN, isNone_n, isNone_t, isNone_l, isNone_i, isNone_s, isMo, mob, pkm, gModI, gDivI, gSubI, gMulI, gPowI, gGt, gLt, gLe, gGe, vNotT, vAndT, vOrT, vAndV, vOrV, opNot, opNotG, vIfE, opTup, opLst, opLstO, Vl.opLen, Vl.opInt, opList, opListO, opTuple, opII, gMax, gMin, vM, vM0, isT, xPop, Vl.opAppend, opExtend, opJoin, vgName, vgTup, vgCons, vgNil, kOpt_some, kOpn_some, kOps_some, Vl.opSum, Vl.opInsert, Vl.opIndex, opDivmod, vSl, vPart, vNoPart, opSl, opSlO, opRev, opCallK, ownD, ownO, objs, renum, uniq, getS, putS, vCall0, vFor, vForW, En.wk, vSeqI, vTupI, vRng1, vRng2, vEnum, vZip, chkOf, vLcK, vYes, finD, finO, En.wipe, wipeE, En.trim, trimS, dropNone, clr_n, clr_v, clr_k, clr_o, wth, Vl.ret, takeS, startV,  List.map_cons, List.map_nil, List.length_cons, List.length_nil, List.cons_append, List.nil_append, List.replicate, List.getElem?_cons_succ, List.getElem?_cons_zero, List.getElem?_nil, List.set_cons_succ, List.set_cons_zero, List.set_nil, List.all_nil, List.all_cons, Bool.true_and, Option.map_some, Option.map_none, if_true, if_false, decide_eq_true_eq, Bool.false_eq_true, List.take_succ_cons, List.take_zero, List.take_nil, List.drop_succ_cons, List.drop_zero, List.drop_nil, reduceIte, reduceCtorEq]
      refine k _ _ _ ⟨by simp; omega, by simp; omega, ?_, ?_⟩ pn4
      · refine List.pairwise_map.mpr (List.Pairwise.imp_of_mem (fun {i j} hi hj hne q => hne ?_) List.nodup_range)
        have hi := List.mem_range.mp hi
        have hj := List.mem_range.mp hj
        exact mkAt_inj a0 (by omega) (by omega) (by omega) q
      · intro x hx
        obtain ⟨j, _, rfl⟩ := List.mem_map.mp hx
        exact mkAt_ok (by omega) (by omega)
end Kf
namespace Kf
open PySem L2 Vl PySem.Spec PyProof.Rows
def pUnlike : VSp := fun ss st Kp => ∃ (ms : List Str) (c n : Int), ss = [.obj 0, .val (.list (ms.map .str))] ∧ st = [.l [.int c, .int n]] ∧ PoolK n ∧ ms.length ≤ 1000 ∧ ∀ (os : List Str) (c' n' : Int), os.Perm ms → PoolK n' → Kp (.obj 1) [.l [.int c', .int n'], .l (os.map .str)]
theorem perm_ins {α : Type} (os : List α) (r : Nat) (x : α) : (os.take r ++ [x] ++ os.drop r).Perm (os ++ [x]) := by
  have h : (os.take r ++ [x] ++ os.drop r).Perm (os.take r ++ (os.drop r ++ [x])) := by
    rw [List.append_assoc]
    exact List.perm_append_comm.append_left _
  rw [← List.append_assoc, List.take_append_drop] at h
  exact h
theorem r_unlike {ss cs Kp} (h : pUnlike ss cs Kp) : t_Lunlike pTake (dV cs.length Kp) ⟨startV 4 ss, cs.map some⟩ := by
  obtain ⟨ms, c, n, rfl, rfl, pn, hl, k⟩ := h
  simp only [t_Lunlike, t_Lunlike_4, flatD, List.any_cons, List.any_nil, eqv_str, eqv_int, eqv_ti, eqv_it, eqv_st, eqv_ts, cut1, Bool.or_false, Bool.or_true, Bool.and_self, Bool.and_true, Bool.and_false, Bool.false_or, Bool.true_or, and_self, ofs_inj, ofs_app, ofs_len, String.reduceEq, String.reduceNe, String.reduceAppend, decide_true, decide_false, Bool.not_true, Bool.not_false, sz0, sz1, sz2, sz3, sz4, sz5, sz6, sz7, sz8, sz9, sz10, sz11, sz12, sz13, sz14, sz15, sz16, sz17, sz18, sz19, sz20, sz21, sz22, sz23, sz24, sz25, cpow1018, true_and, and_true, Nat.reduceAdd, Nat.reduceLT, Nat.reduceSub, Int.reduceNe, Int.reduceEq, Int.reduceLT, Int.reduceLE, Int.reduceToNat, ne_eq, not_false_eq_true, List.length_map, Nat.lt_irrefl, dV_nx, dV_rt, at0, at1, at2, at3, ix20, ix21, vSeq, vIfS, vTest, vTruth, truth, v2, v1, vN, vCons, vNil, vVar, vC, xIx, Vl.opI0, Vl.opI, pk, vSet, vAsg, xgSub, vRet, vRetN, vDrop, vBreak, vCont, asD, asDs, opMod, opDiv, opMul2, Vl.opAdd, Vl.opAddO, opSub, opPow, opLt, Vl.opLe, opGt, Vl.opGe, xEq, okEq_str, okEq_int, xIn, okIn, inD, xIsN, isNone_n, isNone_t, isNone_l, isNone_i, isNone_s, isMo, mob, pkm, gModI, gDivI, gSubI, gMulI, gPowI, gGt, gLt, gLe, gGe, vNotT, vAndT, vOrT, vAndV, vOrV, opNot, opNotG, vIfE, opTup, opLst, opLstO, Vl.opLen, Vl.opInt, opList, opListO, opTuple, opII, gMax, gMin, vM, vM0, isT, xPop, Vl.opAppend, opExtend, opJoin, vgName, vgTup, vgCons, vgNil, kOpt_some, kOpn_some, kOps_some, Vl.opSum, Vl.opInsert, Vl.opIndex, opDivmod, vSl, vPart, vNoPart, opSl, opSlO, opRev, opCallK, ownD, ownO, objs, renum, uniq, getS, putS, vCall0, vFor, vForW, En.wk, vSeqI, vTupI, vRng1, vRng2, vEnum, vZip, chkOf, vLcK, vYes, finD, finO, En.wipe, wipeE, En.trim, trimS, dropNone, clr_n, clr_v, clr_k, clr_o, wth, Vl.ret, takeS, startV,  List.map_cons, List.map_nil, List.length_cons, List.length_nil, List.cons_append, List.nil_append, List.replicate, List.getElem?_cons_succ, List.getElem?_cons_zero, List.getElem?_nil, List.set_cons_succ, List.set_cons_zero, List.set_nil, List.all_nil, List.all_cons, Bool.true_and, Option.map_some, Option.map_none, if_true, if_false, decide_eq_true_eq, Bool.false_eq_true, List.take_succ_cons, List.take_zero, List.take_nil, List.drop_succ_cons, List.drop_zero, List.drop_nil, reduceIte, reduceCtorEq]
  simp only [t_Lunlike_3, flatD, List.any_cons, List.any_nil, eqv_str, eqv_int, eqv_ti, eqv_it, eqv_st, eqv_ts, cut1, Bool.or_false, Bool.or_true, Bool.and_self, Bool.and_true, Bool.and_false, Bool.false_or, Bool.true_or, and_self, ofs_inj, ofs_app, ofs_len, String.reduceEq, String.reduceNe, String.reduceAppend, decide_true, decide_false, Bool.not_true, Bool.not_false, sz0, sz1, sz2, sz3, sz4, sz5, sz6, sz7, sz8, sz9, sz10, sz11, sz12, sz13, sz14, sz15, sz16, sz17, sz18, sz19, sz20, sz21, sz22, sz23, sz24, sz25, cpow1018, true_and, and_true, Nat.reduceAdd, Nat.reduceLT, Nat.reduceSub, Int.reduceNe, Int.reduceEq, Int.reduceLT, Int.reduceLE, Int.reduceToNat, ne_eq, not_false_eq_true, List.length_map, Nat.lt_irrefl, dV_nx, dV_rt, at0, at1, at2, at3, ix20, ix21, vSeq, vIfS, vTest, vTruth, truth, v2, v1, vN, vCons, vNil, vVar, vC, xIx, Vl.opI0, Vl.opI, pk, vSet, vAsg, xgSub, vRet, vRetN, vDrop, vBreak, vCont, asD, asDs, opMod, opDiv, opMul2, Vl.opAdd, Vl.opAddO, opSub, opPow, opLt, Vl.opLe, opGt, Vl.opGe, xEq, okEq_str, okEq_int, xIn, okIn, inD, xIsN, isNone_n, isNone_t, isNone_l, isNone_i, isNone_s, isMo, mob, pkm, gModI, gDivI, gSubI, gMulI, gPowI, gGt, gLt, gLe, gGe, vNotT, vAndT, vOrT, vAndV, vOrV, opNot, opNotG, vIfE, opTup, opLst, opLstO, Vl.opLen, Vl.opInt, opList, opListO, opTuple, opII, gMax, gMin, vM, vM0, isT, xPop, Vl.opAppend, opExtend, opJoin, vgName, vgTup, vgCons, vgNil, kOpt_some, kOpn_some, kOps_some, Vl.opSum, Vl.opInsert, Vl.opIndex, opDivmod, vSl, vPart, vNoPart, opSl, opSlO, opRev, opCallK, ownD, ownO, objs, renum, uniq, getS, putS, vCall0, vFor, vForW, En.wk, vSeqI, vTupI, vRng1, vRng2, vEnum, vZip, chkOf, vLcK, vYes, finD, finO, En.wipe, wipeE, En.trim, trimS, dropNone, clr_n, clr_v, clr_k, clr_o, wth, Vl.ret, takeS, startV,  List.map_cons, List.map_nil, List.length_cons, List.length_nil, List.cons_append, List.nil_append, List.replicate, List.getElem?_cons_succ, List.getElem?_cons_zero, List.getElem?_nil, List.set_cons_succ, List.set_cons_zero, List.set_nil, List.all_nil, List.all_cons, Bool.true_and, Option.map_some, Option.map_none, if_true, if_false, decide_eq_true_eq, Bool.false_eq_true, List.take_succ_cons, List.take_zero, List.take_nil, List.drop_succ_cons, List.drop_zero, List.drop_nil, reduceIte, reduceCtorEq]
  refine fl_invW (chk := none) PyData.str ms (fun ys e => ∃ (os : List Str) (c n : Int), os.Perm ys ∧ PoolK n ∧ e = ⟨[some (.obj 0), some (.val (.list (ms.map .str))), some (.obj 1), none], [some (.l [.int c, .int n]), some (.l (os.map .str))]⟩) (fun _ _ _ => trivial) ?_ ?_ ⟨[], c, n, .refl _, pn, rfl⟩
  · rintro ys m zs e Nx hys ⟨os, c, n, hp, pn, rfl⟩ hk
    have hol : os.length ≤ 1000 := by
      rw [hp.length_eq]
      have := congrArg List.length hys
      simp at this
      omega
    simp only [t_Lunlike_1, pTake, flatD, List.any_cons, List.any_nil, eqv_str, eqv_int, eqv_ti, eqv_it, eqv_st, eqv_ts, cut1, Bool.or_false, Bool.or_true, Bool.and_self, Bool.and_true, Bool.and_false, Bool.false_or, Bool.true_or, and_self, ofs_inj, ofs_app, ofs_len, String.reduceEq, String.reduceNe, String.reduceAppend, decide_true, decide_false, Bool.not_true, Bool.not_false, sz0, sz1, sz2, sz3, sz4, sz5, sz6, sz7, sz8, sz9, sz10, sz11, sz12, sz13, sz14, sz15, sz16, sz17, sz18, sz19, sz20, sz21, sz22, sz23, sz24, sz25, cpow1018, true_and, and_true, Nat.reduceAdd, Nat.reduceLT, Nat.reduceSub, Int.reduceNe, Int.reduceEq, Int.reduceLT, Int.reduceLE, Int.reduceToNat, ne_eq, not_false_eq_true, List.length_map, Nat.lt_irrefl, dV_nx, dV_rt, at0, at1, at2, at3, ix20, ix21, vSeq, vIfS, vTest, vTruth, truth, v2, v1, vN, vCons, vNil, vVar, vC, xIx, Vl.opI0, Vl.opI, pk, vSet, vAsg, xgSub, vRet, vRetN, vDrop, vBreak, vCont, asD, asDs, opMod, opDiv, opMul2, Vl.opAdd, Vl.opAddO, opSub, opPow, opLt, Vl.opLe, opGt, Vl.opGe, xEq, okEq_str, okEq_int, xIn, okIn, inD, xIsN, isNone_n, isNone_t, isNone_l, isNone_i, isNone_s, isMo, mob, pkm, gModI, gDivI, gSubI, gMulI, gPowI, gGt, gLt, gLe, gGe, vNotT, vAndT, vOrT, vAndV, vOrV, opNot, opNotG, vIfE, opTup, opLst, opLstO, Vl.opLen, Vl.opInt, opList, opListO, opTuple, opII, gMax, gMin, vM, vM0, isT, xPop, Vl.opAppend, opExtend, opJoin, vgName, vgTup, vgCons, vgNil, kOpt_some, kOpn_some, kOps_some, Vl.opSum, Vl.opInsert, Vl.opIndex, opDivmod, vSl, vPart, vNoPart, opSl, opSlO, opRev, opCallK, ownD, ownO, objs, renum, uniq, getS, putS, vCall0, vFor, vForW, En.wk, vSeqI, vTupI, vRng1, vRng2, vEnum, vZip, chkOf, vLcK, vYes, finD, finO, En.wipe, wipeE, En.trim, trimS, dropNone, clr_n, clr_v, clr_k, clr_o, wth, Vl.ret, takeS, startV,  List.map_cons, List.map_nil, List.length_cons, List.length_nil, List.cons_append, List.nil_append, List.replicate, List.getElem?_cons_succ, List.getElem?_cons_zero, List.getElem?_nil, List.set_cons_succ, List.set_cons_zero, List.set_nil, List.all_nil, List.all_cons, Bool.true_and, Option.map_some, Option.map_none, if_true, if_false, decide_eq_true_eq, Bool.false_eq_true, List.take_succ_cons, List.take_zero, List.take_nil, List.drop_succ_cons, List.drop_zero, List.drop_nil, reduceIte, reduceCtorEq]
    refine ⟨pn, by omega, by omega, fun r c' n' r0 r1 pn' => ⟨⟨bigl (by omega), r0, by omega⟩, ?_⟩⟩
    refine hk _ 2 [3] (Nat.le_refl _) ⟨os.take r.toNat ++ [m] ++ os.drop r.toNat, c', n', (perm_ins _ _ _).trans (hp.append_right _), pn', ?_⟩
    simp only [List.map_append, List.map_take, List.map_drop, List.map_cons, List.map_nil]
    rfl
  · rintro e ⟨os, c, n, hp, pn, rfl⟩
    simp only [t_Lunlike_2, flatD, List.any_cons, List.any_nil, eqv_str, eqv_int, eqv_ti, eqv_it, eqv_st, eqv_ts, cut1, Bool.or_false, Bool.or_true, Bool.and_self, Bool.and_true, Bool.and_false, Bool.false_or, Bool.true_or, and_self, ofs_inj, ofs_app, ofs_len, String.reduceEq, String.reduceNe, String.reduceAppend, decide_true, decide_false, Bool.not_true, Bool.not_false, sz0, sz1, sz2, sz3, sz4, sz5, sz6, sz7, sz8, sz9, sz10, sz11, sz12, sz13, sz14, sz15, sz16, sz17, sz18, sz19, sz20, sz21, sz22, sz23, sz24, sz25, cpow1018, true_and, and_true, Nat.reduceAdd, Nat.reduceLT, Nat.reduceSub, Int.reduceNe, Int.reduceEq, Int.reduceLT, Int.reduceLE, Int.reduceToNat, ne_eq, not_false_eq_true, List.length_map, Nat.lt_irrefl, dV_nx, dV_rt, at0, at1, at2, at3, ix20, ix21, vSeq, vIfS, vTest, vTruth, truth, v2, v1, vN, vCons, vNil, vVar, vC, xIx, Vl.opI0, Vl.opI, pk, vSet, vAsg, xgSub, vRet, vRetN, vDrop, vBreak, vCont, asD, asDs, opMod, opDiv, opMul2, Vl.opAdd, Vl.opAddO, opSub, opPow, opLt, Vl.opLe, opGt, Vl.opGe, xEq, okEq_str, okEq_int, xIn, okIn, inD, xIsN, isNone_n, isNone_t, isNone_l, isNone_i, isNone_s, isMo, mob, pkm, gModI, gDivI, gSubI, gMulI, gPowI, gGt, gLt, gLe, gGe, vNotT, vAndT, vOrT, vAndV, vOrV, opNot, opNotG, vIfE, opTup, opLst, opLstO, Vl.opLen, Vl.opInt, opList, opListO, opTuple, opII, gMax, gMin, vM, vM0, isT, xPop, Vl.opAppend, opExtend, opJoin, vgName, vgTup, vgCons, vgNil, kOpt_some, kOpn_some, kOps_some, Vl.opSum, Vl.opInsert, Vl.opIndex, opDivmod, vSl, vPart, vNoPart, opSl, opSlO, opRev, opCallK, ownD, ownO, objs, renum, uniq, getS, putS, vCall0, vFor, vForW, En.wk, vSeqI, vTupI, vRng1, vRng2, vEnum, vZip, chkOf, vLcK, vYes, finD, finO, En.wipe, wipeE, En.trim, trimS, dropNone, clr_n, clr_v, clr_k, clr_o, wth, Vl.ret, takeS, startV,  List.map_cons, List.map_nil, List.length_cons, List.length_nil, List.cons_append, List.nil_append, List.replicate, List.getElem?_cons_succ, List.getElem?_cons_zero, List.getElem?_nil, List.set_cons_succ, List.set_cons_zero, List.set_nil, List.all_nil, List.all_cons, Bool.true_and, Option.map_some, Option.map_none, if_true, if_false, decide_eq_true_eq, Bool.false_eq_true, List.take_succ_cons, List.take_zero, List.take_nil, List.drop_succ_cons, List.drop_zero, List.drop_nil, reduceIte, reduceCtorEq]
    exact k os c n hp pn
/-! how many kinds -/
def nth (L : List Int) (i : Nat) : Int := L.getD i 0
def rowS (L : List Int) (w : Nat) : Int := ((List.range (w - 1)).map fun a => 2 * nth L (a + 1) * nth L (w - (a + 1))).sum
def cat (b : Int) : Nat → List Int
  | 0 => [0, b + 1]
  | n + 1 => cat b n ++ [rowS (cat b n) (n + 2)]
theorem cat_len (b : Int) (n : Nat) : (cat b n).length = n + 2 := by
  induction n with
  | zero => rfl
  | succ n ih => rw [cat, List.length_append, ih, List.length_singleton]
theorem cat_pre (b : Int) {m n : Nat} (h : m ≤ n) : cat b m <+: cat b n := by
  induction n with
  | zero =>
    obtain rfl : m = 0 := by omega
    exact List.prefix_refl _
  | succ n ih =>
    rcases Nat.lt_or_ge m (n + 1) with q | q
    · exact (ih (by omega)).trans ⟨_, rfl⟩
    · obtain rfl : m = n + 1 := by omega
      exact List.prefix_refl _
theorem nth_pre {L M : List Int} (h : L <+: M) {i : Nat} (hi : i < L.length) : nth L i = nth M i := by
  obtain ⟨t, rfl⟩ := h
  unfold nth
  rw [List.getD_eq_getElem?_getD, List.getD_eq_getElem?_getD, List.getElem?_append_left hi]
theorem at_nth {L : List Int} {i : Nat} (h : i < L.length) : atI (L.map PyData.int) (i : Int) = some (.int (nth L i)) := by
  refine atI_nat ?_
  rw [List.getElem?_map, List.getElem?_eq_getElem h]
  unfold nth
  rw [List.getD_eq_getElem?_getD, List.getElem?_eq_getElem h]
  rfl
theorem cat_bound {b : Int} (h0 : 0 ≤ b) (h1 : b ≤ 4) {n : Nat} (hn : n ≤ 9) (i : Nat) : 0 ≤ nth (cat b n) i ∧ nth (cat b n) i < 2 ^ 60 := by
  have key : ∀ b : Fin 5, ∀ i : Fin 11, 0 ≤ nth (cat (b.1 : Nat) 9) i.1 ∧ nth (cat (b.1 : Nat) 9) i.1 < 2 ^ 60 := by decide +kernel
  rcases Nat.lt_or_ge i (n + 2) with q | q
  · rw [nth_pre (cat_pre b hn) (by rw [cat_len]; exact q)]
    obtain ⟨c, rfl⟩ : ∃ c : Nat, b = c := ⟨b.toNat, by omega⟩
    exact key ⟨c, by omega⟩ ⟨i, by omega⟩
  · unfold nth
    rw [List.getD_eq_getElem?_getD, List.getElem?_eq_none (by rw [cat_len]; exact q)]
    exact ⟨by decide, by decide⟩
theorem intsD_f {α : Type} (f : α → Int) (xs : List α) : intsD (xs.map fun x => PyData.int (f x)) = some (xs.map f) := by
  rw [← intsD_map, List.map_map]
  rfl
def pManyTo : VSp := fun ss st Kp => ∃ (ms : List Str) (n : Nat), ss = [.val (.list (ms.map .str)), .val (.int (n : Nat))] ∧ st = [] ∧ ms.length ≤ 4 ∧ n ≤ 10 ∧ Kp (.obj 0) [.l ((cat ms.length (n - 1)).map .int)]
theorem r_manyto {ss cs Kp} (h : pManyTo ss cs Kp) : t_manyto (dV cs.length Kp) ⟨startV 5 ss, cs.map some⟩ := by
  obtain ⟨ms, n, rfl, rfl, hm, hn, k⟩ := h
  simp only [t_manyto, t_manyto_4, flatD, List.any_cons, List.any_nil, eqv_str, eqv_int, eqv_ti, eqv_it, eqv_st, eqv_ts, cut1, Bool.or_false, Bool.or_true, Bool.and_self, Bool.and_true, Bool.and_false, Bool.false_or, Bool.true_or, and_self, ofs_inj, ofs_app, ofs_len, String.reduceEq, String.reduceNe, String.reduceAppend, decide_true, decide_false, Bool.not_true, Bool.not_false, sz0, sz1, sz2, sz3, sz4, sz5, sz6, sz7, sz8, sz9, sz10, sz11, sz12, sz13, sz14, sz15, sz16, sz17, sz18, sz19, sz20, sz21, sz22, sz23, sz24, sz25, cpow1018, true_and, and_true, Nat.reduceAdd, Nat.reduceLT, Nat.reduceSub, Int.reduceNe, Int.reduceEq, Int.reduceLT, Int.reduceLE, Int.reduceToNat, ne_eq, not_false_eq_true, List.length_map, Nat.lt_irrefl, dV_nx, dV_rt, at0, at1, at2, at3, ix20, ix21, vSeq, vIfS, vTest, vTruth, truth, v2, v1, vN, vCons, vNil, vVar, vC, xIx, Vl.opI0, Vl.opI, pk, vSet, vAsg, xgSub, vRet, vRetN, vDrop, vBreak, vCont, asD, asDs, opMod, opDiv, opMul2, Vl.opAdd, Vl.opAddO, opSub, opPow, opLt, Vl.opLe, opGt, Vl.opGe, xEq, okEq_str, okEq_int, xIn, okIn, inD, xIsN, isNone_n, isNone_t, isNone_l, isNone_i, isNone_s, isMo, mob, pkm, gModI, gDivI, gSubI, gMulI, gPowI, gGt, gLt, gLe, gGe, vNotT, vAndT, vOrT, vAndV, vOrV, opNot, opNotG, vIfE, opTup, opLst, opLstO, Vl.opLen, Vl.opInt, opList, opListO, opTuple, opII, gMax, gMin, vM, vM0, isT, xPop, Vl.opAppend, opExtend, opJoin, vgName, vgTup, vgCons, vgNil, kOpt_some, kOpn_some, kOps_some, Vl.opSum, Vl.opInsert, Vl.opIndex, opDivmod, vSl, vPart, vNoPart, opSl, opSlO, opRev, opCallK, ownD, ownO, objs, renum, uniq, getS, putS, vCall0, vFor, vForW, En.wk, vSeqI, vTupI, vRng1, vRng2, vEnum, vZip, chkOf, vLcK, vYes, finD, finO, En.wipe, wipeE, En.trim, trimS, dropNone, clr_n, clr_v, clr_k, clr_o, wth, Vl.ret, takeS, startV,  List.map_cons, List.map_nil, List.length_cons, List.length_nil, List.cons_append, List.nil_append, List.replicate, List.getElem?_cons_succ, List.getElem?_cons_zero, List.getElem?_nil, List.set_cons_succ, List.set_cons_zero, List.set_nil, List.all_nil, List.all_cons, Bool.true_and, Option.map_some, Option.map_none, if_true, if_false, decide_eq_true_eq, Bool.false_eq_true, List.take_succ_cons, List.take_zero, List.take_nil, List.drop_succ_cons, List.drop_zero, List.drop_nil, reduceIte, reduceCtorEq]
  simp only [t_manyto_3, flatD, List.any_cons, List.any_nil, eqv_str, eqv_int, eqv_ti, eqv_it, eqv_st, eqv_ts, cut1, Bool.or_false, Bool.or_true, Bool.and_self, Bool.and_true, Bool.and_false, Bool.false_or, Bool.true_or, and_self, ofs_inj, ofs_app, ofs_len, String.reduceEq, String.reduceNe, String.reduceAppend, decide_true, decide_false, Bool.not_true, Bool.not_false, sz0, sz1, sz2, sz3, sz4, sz5, sz6, sz7, sz8, sz9, sz10, sz11, sz12, sz13, sz14, sz15, sz16, sz17, sz18, sz19, sz20, sz21, sz22, sz23, sz24, sz25, cpow1018, true_and, and_true, Nat.reduceAdd, Nat.reduceLT, Nat.reduceSub, Int.reduceNe, Int.reduceEq, Int.reduceLT, Int.reduceLE, Int.reduceToNat, ne_eq, not_false_eq_true, List.length_map, Nat.lt_irrefl, dV_nx, dV_rt, at0, at1, at2, at3, ix20, ix21, vSeq, vIfS, vTest, vTruth, truth, v2, v1, vN, vCons, vNil, vVar, vC, xIx, Vl.opI0, Vl.opI, pk, vSet, vAsg, xgSub, vRet, vRetN, vDrop, vBreak, vCont, asD, asDs, opMod, opDiv, opMul2, Vl.opAdd, Vl.opAddO, opSub, opPow, opLt, Vl.opLe, opGt, Vl.opGe, xEq, okEq_str, okEq_int, xIn, okIn, inD, xIsN, isNone_n, isNone_t, isNone_l, isNone_i, isNone_s, isMo, mob, pkm, gModI, gDivI, gSubI, gMulI, gPowI, gGt, gLt, gLe, gGe, vNotT, vAndT, vOrT, vAndV, vOrV, opNot, opNotG, vIfE, opTup, opLst, opLstO, Vl.opLen, Vl.opInt, opList, opListO, opTuple, opII, gMax, gMin, vM, vM0, isT, xPop, Vl.opAppend, opExtend, opJoin, vgName, vgTup, vgCons, vgNil, kOpt_some, kOpn_some, kOps_some, Vl.opSum, Vl.opInsert, Vl.opIndex, opDivmod, vSl, vPart, vNoPart, opSl, opSlO, opRev, opCallK, ownD, ownO, objs, renum, uniq, getS, putS, vCall0, vFor, vForW, En.wk, vSeqI, vTupI, vRng1, vRng2, vEnum, vZip, chkOf, vLcK, vYes, finD, finO, En.wipe, wipeE, En.trim, trimS, dropNone, clr_n, clr_v, clr_k, clr_o, wth, Vl.ret, takeS, startV,  List.map_cons, List.map_nil, List.length_cons, List.length_nil, List.cons_append, List.nil_append, List.replicate, List.getElem?_cons_succ, List.getElem?_cons_zero, List.getElem?_nil, List.set_cons_succ, List.set_cons_zero, List.set_nil, List.all_nil, List.all_cons, Bool.true_and, Option.map_some, Option.map_none, if_true, if_false, decide_eq_true_eq, Bool.false_eq_true, List.take_succ_cons, List.take_zero, List.take_nil, List.drop_succ_cons, List.drop_zero, List.drop_nil, reduceIte, reduceCtorEq]
  refine ⟨⟨by omega, by omega, by omega, by omega⟩, ?_⟩
  rw [rng_eq]
  refine fl_invW (chk := none) (fun (i : Nat) => PyData.int (2 + (i : Nat))) _ (fun ys e => e = ⟨[some (.val (.list (ms.map .str))), some (.val (.int (n : Nat))), some (.obj 0), none, none], [some (.l ((cat ms.length ys.length).map .int))]⟩) (fun _ _ _ => trivial) ?_ ?_ rfl
  · rintro ys i zs e Nx hys rfl hk
    have hi : i = ys.length ∧ i < n - 1 := by
      have e1 : (List.range ((n : Int) + 1 - 2).toNat)[ys.length]? = some i := by rw [hys]; simp
      have hlt := (List.getElem?_eq_some_iff.mp e1).1
      rw [List.length_range] at hlt
      rw [List.getElem?_range hlt] at e1
      cases e1
      exact ⟨rfl, by omega⟩
    obtain ⟨rfl, hi⟩ := hi
    have L := cat_len (ms.length : Nat) ys.length
    simp only [t_manyto_1, flatD, List.any_cons, List.any_nil, eqv_str, eqv_int, eqv_ti, eqv_it, eqv_st, eqv_ts, cut1, Bool.or_false, Bool.or_true, Bool.and_self, Bool.and_true, Bool.and_false, Bool.false_or, Bool.true_or, and_self, ofs_inj, ofs_app, ofs_len, String.reduceEq, String.reduceNe, String.reduceAppend, decide_true, decide_false, Bool.not_true, Bool.not_false, sz0, sz1, sz2, sz3, sz4, sz5, sz6, sz7, sz8, sz9, sz10, sz11, sz12, sz13, sz14, sz15, sz16, sz17, sz18, sz19, sz20, sz21, sz22, sz23, sz24, sz25, cpow1018, true_and, and_true, Nat.reduceAdd, Nat.reduceLT, Nat.reduceSub, Int.reduceNe, Int.reduceEq, Int.reduceLT, Int.reduceLE, Int.reduceToNat, ne_eq, not_false_eq_true, List.length_map, Nat.lt_irrefl, dV_nx, dV_rt, at0, at1, at2, at3, ix20, ix21, vSeq, vIfS, vTest, vTruth, truth, v2, v1, vN, vCons, vNil, vVar, vC, xIx, Vl.opI0, Vl.opI, pk, vSet, vAsg, xgSub, vRet, vRetN, vDrop, vBreak, vCont, asD, asDs, opMod, opDiv, opMul2, Vl.opAdd, Vl.opAddO, opSub, opPow, opLt, Vl.opLe, opGt, Vl.opGe, xEq, okEq_str, okEq_int, xIn, okIn, inD, xIsN, isNone_n, isNone_t, isNone_l, isNone_i, isNone_s, isMo, mob, pkm, gModI, gDivI, gSubI, gMulI, gPowI, gGt, gLt, gLe, gGe, vNotT, vAndT, vOrT, vAndV, vOrV, opNot, opNotG, vIfE, opTup, opLst, opLstO, Vl.opLen, Vl.opInt, opList, opListO, opTuple, opII, gMax, gMin, vM, vM0, isT, xPop, Vl.opAppend, opExtend, opJoin, vgName, vgTup, vgCons, vgNil, kOpt_some, kOpn_some, kOps_some, Vl.opSum, Vl.opInsert, Vl.opIndex, opDivmod, vSl, vPart, vNoPart, opSl, opSlO, opRev, opCallK, ownD, ownO, objs, renum, uniq, getS, putS, vCall0, vFor, vForW, En.wk, vSeqI, vTupI, vRng1, vRng2, vEnum, vZip, chkOf, vLcK, vYes, finD, finO, En.wipe, wipeE, En.trim, trimS, dropNone, clr_n, clr_v, clr_k, clr_o, wth, Vl.ret, takeS, startV,  List.map_cons, List.map_nil, List.length_cons, List.length_nil, List.cons_append, List.nil_append, List.replicate, List.getElem?_cons_succ, List.getElem?_cons_zero, List.getElem?_nil, List.set_cons_succ, List.set_cons_zero, List.set_nil, List.all_nil, List.all_cons, Bool.true_and, Option.map_some, Option.map_none, if_true, if_false, decide_eq_true_eq, Bool.false_eq_true, List.take_succ_cons, List.take_zero, List.take_nil, List.drop_succ_cons, List.drop_zero, List.drop_nil, reduceIte, reduceCtorEq]
    refine ⟨by omega, ?_⟩
    rw [rng_eq]
    refine cl_mapE _ (fun (a : Nat) => .int (2 * nth (cat ms.length ys.length) (a + 1) * nth (cat ms.length ys.length) (ys.length + 2 - (a + 1)))) _ (by rw [List.length_range]; exact big (by simp; omega)) (fun a Kt ha hk => ?_) ?_
    · have ha := List.mem_range.mp ha
      have a1 : atI ((cat ms.length ys.length).map PyData.int) (1 + (a : Nat)) = some (.int (nth (cat ms.length ys.length) (a + 1))) := by
        rw [show (1 + (a : Nat) : Int) = ((a + 1 : Nat) : Int) from by omega]
        exact at_nth (by omega)
      have a2 : atI ((cat ms.length ys.length).map PyData.int) (2 + (ys.length : Nat) - (1 + (a : Nat))) = some (.int (nth (cat ms.length ys.length) (ys.length + 2 - (a + 1)))) := by
        rw [show (2 + (ys.length : Nat) - (1 + (a : Nat)) : Int) = ((ys.length + 2 - (a + 1) : Nat) : Int) from by omega]
        exact at_nth (by omega)
      have b1 := cat_bound (b := (ms.length : Nat)) (by omega) (by omega) (n := ys.length) (by omega) (a + 1)
      have b2 := cat_bound (b := (ms.length : Nat)) (by omega) (by omega) (n := ys.length) (by omega) (ys.length + 2 - (a + 1))
      simp only [a1, a2, flatD, List.any_cons, List.any_nil, eqv_str, eqv_int, eqv_ti, eqv_it, eqv_st, eqv_ts, cut1, Bool.or_false, Bool.or_true, Bool.and_self, Bool.and_true, Bool.and_false, Bool.false_or, Bool.true_or, and_self, ofs_inj, ofs_app, ofs_len, String.reduceEq, String.reduceNe, String.reduceAppend, decide_true, decide_false, Bool.not_true, Bool.not_false, sz0, sz1, sz2, sz3, sz4, sz5, sz6, sz7, sz8, sz9, sz10, sz11, sz12, sz13, sz14, sz15, sz16, sz17, sz18, sz19, sz20, sz21, sz22, sz23, sz24, sz25, cpow1018, true_and, and_true, Nat.reduceAdd, Nat.reduceLT, Nat.reduceSub, Int.reduceNe, Int.reduceEq, Int.reduceLT, Int.reduceLE, Int.reduceToNat, ne_eq, not_false_eq_true, List.length_map, Nat.lt_irrefl, dV_nx, dV_rt, at0, at1, at2, at3, ix20, ix21, vSeq, vIfS, vTest, vTruth, truth, v2, v1, vN, vCons, vNil, vVar, vC, xIx, Vl.opI0, Vl.opI, pk, vSet, vAsg, xgSub, vRet, vRetN, vDrop, vBreak, vCont, asD, asDs, opMod, opDiv, opMul2, Vl.opAdd, Vl.opAddO, opSub, opPow, opLt, Vl.opLe, opGt, Vl.opGe, xEq, okEq_str, okEq_int, xIn, okIn, inD, xIsN, isNone_n, isNone_t, isNone_l, isNone_i, isNone_s, isMo, mob, pkm, gModI, gDivI, gSubI, gMulI, gPowI, gGt, gLt, gLe, gGe, vNotT, vAndT, vOrT, vAndV, vOrV, opNot, opNotG, vIfE, opTup, opLst, opLstO, Vl.opLen, Vl.opInt, opList, opListO, opTuple, opII, gMax, gMin, vM, vM0, isT, xPop, Vl.opAppend, opExtend, opJoin, vgName, vgTup, vgCons, vgNil, kOpt_some, kOpn_some, kOps_some, Vl.opSum, Vl.opInsert, Vl.opIndex, opDivmod, vSl, vPart, vNoPart, opSl, opSlO, opRev, opCallK, ownD, ownO, objs, renum, uniq, getS, putS, vCall0, vFor, vForW, En.wk, vSeqI, vTupI, vRng1, vRng2, vEnum, vZip, chkOf, vLcK, vYes, finD, finO, En.wipe, wipeE, En.trim, trimS, dropNone, clr_n, clr_v, clr_k, clr_o, wth, Vl.ret, takeS, startV,  List.map_cons, List.map_nil, List.length_cons, List.length_nil, List.cons_append, List.nil_append, List.replicate, List.getElem?_cons_succ, List.getElem?_cons_zero, List.getElem?_nil, List.set_cons_succ, List.set_cons_zero, List.set_nil, List.all_nil, List.all_cons, Bool.true_and, Option.map_some, Option.map_none, if_true, if_false, decide_eq_true_eq, Bool.false_eq_true, List.take_succ_cons, List.take_zero, List.take_nil, List.drop_succ_cons, List.drop_zero, List.drop_nil, reduceIte, reduceCtorEq]
      exact ⟨by unfold CMul; omega, by unfold CMul; omega, hk _ rfl⟩
    · simp only [List.nil_append, intsD_f, flatD, List.any_cons, List.any_nil, eqv_str, eqv_int, eqv_ti, eqv_it, eqv_st, eqv_ts, cut1, Bool.or_false, Bool.or_true, Bool.and_self, Bool.and_true, Bool.and_false, Bool.false_or, Bool.true_or, and_self, ofs_inj, ofs_app, ofs_len, String.reduceEq, String.reduceNe, String.reduceAppend, decide_true, decide_false, Bool.not_true, Bool.not_false, sz0, sz1, sz2, sz3, sz4, sz5, sz6, sz7, sz8, sz9, sz10, sz11, sz12, sz13, sz14, sz15, sz16, sz17, sz18, sz19, sz20, sz21, sz22, sz23, sz24, sz25, cpow1018, true_and, and_true, Nat.reduceAdd, Nat.reduceLT, Nat.reduceSub, Int.reduceNe, Int.reduceEq, Int.reduceLT, Int.reduceLE, Int.reduceToNat, ne_eq, not_false_eq_true, List.length_map, Nat.lt_irrefl, dV_nx, dV_rt, at0, at1, at2, at3, ix20, ix21, vSeq, vIfS, vTest, vTruth, truth, v2, v1, vN, vCons, vNil, vVar, vC, xIx, Vl.opI0, Vl.opI, pk, vSet, vAsg, xgSub, vRet, vRetN, vDrop, vBreak, vCont, asD, asDs, opMod, opDiv, opMul2, Vl.opAdd, Vl.opAddO, opSub, opPow, opLt, Vl.opLe, opGt, Vl.opGe, xEq, okEq_str, okEq_int, xIn, okIn, inD, xIsN, isNone_n, isNone_t, isNone_l, isNone_i, isNone_s, isMo, mob, pkm, gModI, gDivI, gSubI, gMulI, gPowI, gGt, gLt, gLe, gGe, vNotT, vAndT, vOrT, vAndV, vOrV, opNot, opNotG, vIfE, opTup, opLst, opLstO, Vl.opLen, Vl.opInt, opList, opListO, opTuple, opII, gMax, gMin, vM, vM0, isT, xPop, Vl.opAppend, opExtend, opJoin, vgName, vgTup, vgCons, vgNil, kOpt_some, kOpn_some, kOps_some, Vl.opSum, Vl.opInsert, Vl.opIndex, opDivmod, vSl, vPart, vNoPart, opSl, opSlO, opRev, opCallK, ownD, ownO, objs, renum, uniq, getS, putS, vCall0, vFor, vForW, En.wk, vSeqI, vTupI, vRng1, vRng2, vEnum, vZip, chkOf, vLcK, vYes, finD, finO, En.wipe, wipeE, En.trim, trimS, dropNone, clr_n, clr_v, clr_k, clr_o, wth, Vl.ret, takeS, startV,  List.map_cons, List.map_nil, List.length_cons, List.length_nil, List.cons_append, List.nil_append, List.replicate, List.getElem?_cons_succ, List.getElem?_cons_zero, List.getElem?_nil, List.set_cons_succ, List.set_cons_zero, List.set_nil, List.all_nil, List.all_cons, Bool.true_and, Option.map_some, Option.map_none, if_true, if_false, decide_eq_true_eq, Bool.false_eq_true, List.take_succ_cons, List.take_zero, List.take_nil, List.drop_succ_cons, List.drop_zero, List.drop_nil, reduceIte, reduceCtorEq]
      have e1 : ((2 : Int) + (ys.length : Nat) - 1).toNat = ys.length + 2 - 1 := by omega
      rw [List.length_append, List.length_singleton, cat, List.map_append] at hk
      rw [e1]
      exact ⟨bigl (by omega), hk _ 1 [3] (Nat.le_refl _) rfl⟩
  · rintro e rfl
    have e1 : (List.range ((n : Int) + 1 - 2).toNat).length = n - 1 := by
      rw [List.length_range]
      omega
    simp only [e1, t_manyto_2, flatD, List.any_cons, List.any_nil, eqv_str, eqv_int, eqv_ti, eqv_it, eqv_st, eqv_ts, cut1, Bool.or_false, Bool.or_true, Bool.and_self, Bool.and_true, Bool.and_false, Bool.false_or, Bool.true_or, and_self, ofs_inj, ofs_app, ofs_len, String.reduceEq, String.reduceNe, String.reduceAppend, decide_true, decide_false, Bool.not_true, Bool.not_false, sz0, sz1, sz2, sz3, sz4, sz5, sz6, sz7, sz8, sz9, sz10, sz11, sz12, sz13, sz14, sz15, sz16, sz17, sz18, sz19, sz20, sz21, sz22, sz23, sz24, sz25, cpow1018, true_and, and_true, Nat.reduceAdd, Nat.reduceLT, Nat.reduceSub, Int.reduceNe, Int.reduceEq, Int.reduceLT, Int.reduceLE, Int.reduceToNat, ne_eq, not_false_eq_true, List.length_map, Nat.lt_irrefl, dV_nx, dV_rt, at0, at1, at2, at3, ix20, ix21, vSeq, vIfS, vTest, vTruth, truth, v2, v1, vN, vCons, vNil, vVar, vC, xIx, Vl.opI0, Vl.opI, pk, vSet, vAsg, xgSub, vRet, vRetN, vDrop, vBreak, vCont, asD, asDs, opMod, opDiv, opMul2, Vl.opAdd, Vl.opAddO, opSub, opPow, opLt, Vl.opLe, opGt, Vl.opGe, xEq, okEq_str, okEq_int, xIn, okIn, inD, xIsN, isNone_n, isNone_t, isNone_l, isNone_i, isNone_s, isMo, mob, pkm, gModI, gDivI, gSubI, gMulI, gPowI, gGt, gLt, gLe, gGe, vNotT, vAndT, vOrT, vAndV, vOrV, opNot, opNotG, vIfE, opTup, opLst, opLstO, Vl.opLen, Vl.opInt, opList, opListO, opTuple, opII, gMax, gMin, vM, vM0, isT, xPop, Vl.opAppend, opExtend, opJoin, vgName, vgTup, vgCons, vgNil, kOpt_some, kOpn_some, kOps_some, Vl.opSum, Vl.opInsert, Vl.opIndex, opDivmod, vSl, vPart, vNoPart, opSl, opSlO, opRev, opCallK, ownD, ownO, objs, renum, uniq, getS, putS, vCall0, vFor, vForW, En.wk, vSeqI, vTupI, vRng1, vRng2, vEnum, vZip, chkOf, vLcK, vYes, finD, finO, En.wipe, wipeE, En.trim, trimS, dropNone, clr_n, clr_v, clr_k, clr_o, wth, Vl.ret, takeS, startV,  List.map_cons, List.map_nil, List.length_cons, List.length_nil, List.cons_append, List.nil_append, List.replicate, List.getElem?_cons_succ, List.getElem?_cons_zero, List.getElem?_nil, List.set_cons_succ, List.set_cons_zero, List.set_nil, List.all_nil, List.all_cons, Bool.true_and, Option.map_some, Option.map_none, if_true, if_false, decide_eq_true_eq, Bool.false_eq_true, List.take_succ_cons, List.take_zero, List.take_nil, List.drop_succ_cons, List.drop_zero, List.drop_nil, reduceIte, reduceCtorEq]
    exact k
/-- how many kinds over so many marks have so many leaves -/
def many (b : Nat) (n : Nat) : Int := nth (cat b (n - 1)) n
def pKindsMany : VSp := fun ss st Kp => ∃ (ms : List Str) (n : Nat), ss = [.val (.list (ms.map .str)), .val (.int (n : Nat))] ∧ st = [] ∧ ms.length ≤ 4 ∧ 1 ≤ n ∧ n ≤ 10 ∧ Kp (.val (.int (many ms.length n))) []
theorem r_kindsmany {ss cs Kp} (h : pKindsMany ss cs Kp) : t_kindsmany pManyTo (dV cs.length Kp) ⟨startV 2 ss, cs.map some⟩ := by
  obtain ⟨ms, n, rfl, rfl, hm, h1, hn, k⟩ := h
  have a1 : atI ((cat ms.length (n - 1)).map PyData.int) (n : Nat) = some (.int (many ms.length n)) := at_nth (by rw [cat_len]; omega)
  have e1 : decide ((0 : Int) < (n : Nat)) = true := decide_eq_true (by omega)
  simp only [t_kindsmany, t_kindsmany_1, t_kindsmany, e1, pManyTo, flatD, List.any_cons, List.any_nil, eqv_str, eqv_int, eqv_ti, eqv_it, eqv_st, eqv_ts, cut1, Bool.or_false, Bool.or_true, Bool.and_self, Bool.and_true, Bool.and_false, Bool.false_or, Bool.true_or, and_self, ofs_inj, ofs_app, ofs_len, String.reduceEq, String.reduceNe, String.reduceAppend, decide_true, decide_false, Bool.not_true, Bool.not_false, sz0, sz1, sz2, sz3, sz4, sz5, sz6, sz7, sz8, sz9, sz10, sz11, sz12, sz13, sz14, sz15, sz16, sz17, sz18, sz19, sz20, sz21, sz22, sz23, sz24, sz25, cpow1018, true_and, and_true, Nat.reduceAdd, Nat.reduceLT, Nat.reduceSub, Int.reduceNe, Int.reduceEq, Int.reduceLT, Int.reduceLE, Int.reduceToNat, ne_eq, not_false_eq_true, List.length_map, Nat.lt_irrefl, dV_nx, dV_rt, at0, at1, at2, at3, ix20, ix21, vSeq, vIfS, vTest, vTruth, truth, v2, v1, vN, vCons, vNil, vVar, vC, xIx, Vl.opI0, Vl.opI, pk, vSet, vAsg, xgSub, vRet, vRetN, vDrop, vBreak, vCont, asD, asDs, opMod, opDiv, opMul2, Vl.opAdd, Vl.opAddO, opSub, opPow, opLt, Vl.opLe, opGt, Vl.opGe, xEq, okEq_str, okEq_int, xIn, okIn, inD, xIsN, isNone_n, isNone_t, isNone_l, isNone_i, isNone_s, isMo, mob, pkm, gModI, gDivI, gSubI, gMulI, gPowI, gGt, gLt, gLe, gGe, vNotT, vAndT, vOrT, vAndV, vOrV, opNot, opNotG, vIfE, opTup, opLst, opLstO, Vl.opLen, Vl.opInt, opList, opListO, opTuple, opII, gMax, gMin, vM, vM0, isT, xPop, Vl.opAppend, opExtend, opJoin, vgName, vgTup, vgCons, vgNil, kOpt_some, kOpn_some, kOps_some, Vl.opSum, Vl.opInsert, Vl.opIndex, opDivmod, vSl, vPart, vNoPart, opSl, opSlO, opRev, opCallK, ownD, ownO, objs, renum, uniq, getS, putS, vCall0, vFor, vForW, En.wk, vSeqI, vTupI, vRng1, vRng2, vEnum, vZip, chkOf, vLcK, vYes, finD, finO, En.wipe, wipeE, En.trim, trimS, dropNone, clr_n, clr_v, clr_k, clr_o, wth, Vl.ret, takeS, startV,  List.map_cons, List.map_nil, List.length_cons, List.length_nil, List.cons_append, List.nil_append, List.replicate, List.getElem?_cons_succ, List.getElem?_cons_zero, List.getElem?_nil, List.set_cons_succ, List.set_cons_zero, List.set_nil, List.all_nil, List.all_cons, Bool.true_and, Option.map_some, Option.map_none, if_true, if_false, decide_eq_true_eq, Bool.false_eq_true, List.take_succ_cons, List.take_zero, List.take_nil, List.drop_succ_cons, List.drop_zero, List.drop_nil, reduceIte, reduceCtorEq]
  exact ⟨ms, n, rfl, hm, hn, by simp only [a1, flatD, List.any_cons, List.any_nil, eqv_str, eqv_int, eqv_ti, eqv_it, eqv_st, eqv_ts, cut1, Bool.or_false, Bool.or_true, Bool.and_self, Bool.and_true, Bool.and_false, Bool.false_or, Bool.true_or, and_self, ofs_inj, ofs_app, ofs_len, String.reduceEq, String.reduceNe, String.reduceAppend, decide_true, decide_false, Bool.not_true, Bool.not_false, sz0, sz1, sz2, sz3, sz4, sz5, sz6, sz7, sz8, sz9, sz10, sz11, sz12, sz13, sz14, sz15, sz16, sz17, sz18, sz19, sz20, sz21, sz22, sz23, sz24, sz25, cpow1018, true_and, and_true, Nat.reduceAdd, Nat.reduceLT, Nat.reduceSub, Int.reduceNe, Int.reduceEq, Int.reduceLT, Int.reduceLE, Int.reduceToNat, ne_eq, not_false_eq_true, List.length_map, Nat.lt_irrefl, dV_nx, dV_rt, at0, at1, at2, at3, ix20, ix21, vSeq, vIfS, vTest, vTruth, truth, v2, v1, vN, vCons, vNil, vVar, vC, xIx, Vl.opI0, Vl.opI, pk, vSet, vAsg, xgSub, vRet, vRetN, vDrop, vBreak, vCont, asD, asDs, opMod, opDiv, opMul2, Vl.opAdd, Vl.opAddO, opSub, opPow, opLt, Vl.opLe, opGt, Vl.opGe, xEq, okEq_str, okEq_int, xIn, okIn, inD, xIsN, isNone_n, isNone_t, isNone_l, isNone_i, isNone_s, isMo, mob, pkm, gModI, gDivI, gSubI, gMulI, gPowI, gGt, gLt, gLe, gGe, vNotT, vAndT, vOrT, vAndV, vOrV, opNot, opNotG, vIfE, opTup, opLst, opLstO, Vl.opLen, Vl.opInt, opList, opListO, opTuple, opII, gMax, gMin, vM, vM0, isT, xPop, Vl.opAppend, opExtend, opJoin, vgName, vgTup, vgCons, vgNil, kOpt_some, kOpn_some, kOps_some, Vl.opSum, Vl.opInsert, Vl.opIndex, opDivmod, vSl, vPart, vNoPart, opSl, opSlO, opRev, opCallK, ownD, ownO, objs, renum, uniq, getS, putS, vCall0, vFor, vForW, En.wk, vSeqI, vTupI, vRng1, vRng2, vEnum, vZip, chkOf, vLcK, vYes, finD, finO, En.wipe, wipeE, En.trim, trimS, dropNone, clr_n, clr_v, clr_k, clr_o, wth, Vl.ret, takeS, startV,  List.map_cons, List.map_nil, List.length_cons, List.length_nil, List.cons_append, List.nil_append, List.replicate, List.getElem?_cons_succ, List.getElem?_cons_zero, List.getElem?_nil, List.set_cons_succ, List.set_cons_zero, List.set_nil, List.all_nil, List.all_cons, Bool.true_and, Option.map_some, Option.map_none, if_true, if_false, decide_eq_true_eq, Bool.false_eq_true, List.take_succ_cons, List.take_zero, List.take_nil, List.drop_succ_cons, List.drop_zero, List.drop_nil, reduceIte, reduceCtorEq]; exact k⟩
def pCounts : VSp := fun ss st Kp => ∃ b : Nat, ss = [.val (.int (b : Nat))] ∧ st = [] ∧ b ≤ 4 ∧ Kp (.obj 0) [.l ((cat b 9).map .int)]
theorem r_counts {ss cs Kp} (h : pCounts ss cs Kp) : t_Lcounts (dV cs.length Kp) ⟨startV 5 ss, cs.map some⟩ := by
  obtain ⟨b, rfl, rfl, hb, k⟩ := h
  simp only [t_Lcounts, t_Lcounts_7, flatD, List.any_cons, List.any_nil, eqv_str, eqv_int, eqv_ti, eqv_it, eqv_st, eqv_ts, cut1, Bool.or_false, Bool.or_true, Bool.and_self, Bool.and_true, Bool.and_false, Bool.false_or, Bool.true_or, and_self, ofs_inj, ofs_app, ofs_len, String.reduceEq, String.reduceNe, String.reduceAppend, decide_true, decide_false, Bool.not_true, Bool.not_false, sz0, sz1, sz2, sz3, sz4, sz5, sz6, sz7, sz8, sz9, sz10, sz11, sz12, sz13, sz14, sz15, sz16, sz17, sz18, sz19, sz20, sz21, sz22, sz23, sz24, sz25, cpow1018, true_and, and_true, Nat.reduceAdd, Nat.reduceLT, Nat.reduceSub, Int.reduceNe, Int.reduceEq, Int.reduceLT, Int.reduceLE, Int.reduceToNat, ne_eq, not_false_eq_true, List.length_map, Nat.lt_irrefl, dV_nx, dV_rt, at0, at1, at2, at3, ix20, ix21, vSeq, vIfS, vTest, vTruth, truth, v2, v1, vN, vCons, vNil, vVar, vC, xIx, Vl.opI0, Vl.opI, pk, vSet, vAsg, xgSub, vRet, vRetN, vDrop, vBreak, vCont, asD, asDs, opMod, opDiv, opMul2, Vl.opAdd, Vl.opAddO, opSub, opPow, opLt, Vl.opLe, opGt, Vl.opGe, xEq, okEq_str, okEq_int, xIn, okIn, inD, xIsN, isNone_n, isNone_t, isNone_l, isNone_i, isNone_s, isMo, mob, pkm, gModI, gDivI, gSubI, gMulI, gPowI, gGt, gLt, gLe, gGe, vNotT, vAndT, vOrT, vAndV, vOrV, opNot, opNotG, vIfE, opTup, opLst, opLstO, Vl.opLen, Vl.opInt, opList, opListO, opTuple, opII, gMax, gMin, vM, vM0, isT, xPop, Vl.opAppend, opExtend, opJoin, vgName, vgTup, vgCons, vgNil, kOpt_some, kOpn_some, kOps_some, Vl.opSum, Vl.opInsert, Vl.opIndex, opDivmod, vSl, vPart, vNoPart, opSl, opSlO, opRev, opCallK, ownD, ownO, objs, renum, uniq, getS, putS, vCall0, vFor, vForW, En.wk, vSeqI, vTupI, vRng1, vRng2, vEnum, vZip, chkOf, vLcK, vYes, finD, finO, En.wipe, wipeE, En.trim, trimS, dropNone, clr_n, clr_v, clr_k, clr_o, wth, Vl.ret, takeS, startV,  List.map_cons, List.map_nil, List.length_cons, List.length_nil, List.cons_append, List.nil_append, List.replicate, List.getElem?_cons_succ, List.getElem?_cons_zero, List.getElem?_nil, List.set_cons_succ, List.set_cons_zero, List.set_nil, List.all_nil, List.all_cons, Bool.true_and, Option.map_some, Option.map_none, if_true, if_false, decide_eq_true_eq, Bool.false_eq_true, List.take_succ_cons, List.take_zero, List.take_nil, List.drop_succ_cons, List.drop_zero, List.drop_nil, reduceIte, reduceCtorEq]
  simp only [t_Lcounts_6, flatD, List.any_cons, List.any_nil, eqv_str, eqv_int, eqv_ti, eqv_it, eqv_st, eqv_ts, cut1, Bool.or_false, Bool.or_true, Bool.and_self, Bool.and_true, Bool.and_false, Bool.false_or, Bool.true_or, and_self, ofs_inj, ofs_app, ofs_len, String.reduceEq, String.reduceNe, String.reduceAppend, decide_true, decide_false, Bool.not_true, Bool.not_false, sz0, sz1, sz2, sz3, sz4, sz5, sz6, sz7, sz8, sz9, sz10, sz11, sz12, sz13, sz14, sz15, sz16, sz17, sz18, sz19, sz20, sz21, sz22, sz23, sz24, sz25, cpow1018, true_and, and_true, Nat.reduceAdd, Nat.reduceLT, Nat.reduceSub, Int.reduceNe, Int.reduceEq, Int.reduceLT, Int.reduceLE, Int.reduceToNat, ne_eq, not_false_eq_true, List.length_map, Nat.lt_irrefl, dV_nx, dV_rt, at0, at1, at2, at3, ix20, ix21, vSeq, vIfS, vTest, vTruth, truth, v2, v1, vN, vCons, vNil, vVar, vC, xIx, Vl.opI0, Vl.opI, pk, vSet, vAsg, xgSub, vRet, vRetN, vDrop, vBreak, vCont, asD, asDs, opMod, opDiv, opMul2, Vl.opAdd, Vl.opAddO, opSub, opPow, opLt, Vl.opLe, opGt, Vl.opGe, xEq, okEq_str, okEq_int, xIn, okIn, inD, xIsN, isNone_n, isNone_t, isNone_l, isNone_i, isNone_s, isMo, mob, pkm, gModI, gDivI, gSubI, gMulI, gPowI, gGt, gLt, gLe, gGe, vNotT, vAndT, vOrT, vAndV, vOrV, opNot, opNotG, vIfE, opTup, opLst, opLstO, Vl.opLen, Vl.opInt, opList, opListO, opTuple, opII, gMax, gMin, vM, vM0, isT, xPop, Vl.opAppend, opExtend, opJoin, vgName, vgTup, vgCons, vgNil, kOpt_some, kOpn_some, kOps_some, Vl.opSum, Vl.opInsert, Vl.opIndex, opDivmod, vSl, vPart, vNoPart, opSl, opSlO, opRev, opCallK, ownD, ownO, objs, renum, uniq, getS, putS, vCall0, vFor, vForW, En.wk, vSeqI, vTupI, vRng1, vRng2, vEnum, vZip, chkOf, vLcK, vYes, finD, finO, En.wipe, wipeE, En.trim, trimS, dropNone, clr_n, clr_v, clr_k, clr_o, wth, Vl.ret, takeS, startV,  List.map_cons, List.map_nil, List.length_cons, List.length_nil, List.cons_append, List.nil_append, List.replicate, List.getElem?_cons_succ, List.getElem?_cons_zero, List.getElem?_nil, List.set_cons_succ, List.set_cons_zero, List.set_nil, List.all_nil, List.all_cons, Bool.true_and, Option.map_some, Option.map_none, if_true, if_false, decide_eq_true_eq, Bool.false_eq_true, List.take_succ_cons, List.take_zero, List.take_nil, List.drop_succ_cons, List.drop_zero, List.drop_nil, reduceIte, reduceCtorEq]
  refine ⟨⟨by decide, by decide, by decide, by decide⟩, ?_⟩
  rw [rng_eq]
  refine fl_invW (chk := none) (fun (i : Nat) => PyData.int (2 + (i : Nat))) _ (fun ys e => e = ⟨[some (.val (.int (b : Nat))), some (.obj 0), none, none, none], [some (.l ((cat b ys.length).map .int))]⟩) (fun _ _ _ => trivial) ?_ ?_ rfl
  · rintro ys i zs e Nx hys rfl hk
    have hi : i = ys.length ∧ i < 9 := by
      have e1 : (List.range ((11 : Int) - 2).toNat)[ys.length]? = some i := by rw [hys]; simp
      have hlt := (List.getElem?_eq_some_iff.mp e1).1
      rw [List.length_range] at hlt
      rw [List.getElem?_range hlt] at e1
      cases e1
      exact ⟨rfl, by omega⟩
    obtain ⟨rfl, hi⟩ := hi
    have L := cat_len b ys.length
    simp only [t_Lcounts_4, flatD, List.any_cons, List.any_nil, eqv_str, eqv_int, eqv_ti, eqv_it, eqv_st, eqv_ts, cut1, Bool.or_false, Bool.or_true, Bool.and_self, Bool.and_true, Bool.and_false, Bool.false_or, Bool.true_or, and_self, ofs_inj, ofs_app, ofs_len, String.reduceEq, String.reduceNe, String.reduceAppend, decide_true, decide_false, Bool.not_true, Bool.not_false, sz0, sz1, sz2, sz3, sz4, sz5, sz6, sz7, sz8, sz9, sz10, sz11, sz12, sz13, sz14, sz15, sz16, sz17, sz18, sz19, sz20, sz21, sz22, sz23, sz24, sz25, cpow1018, true_and, and_true, Nat.reduceAdd, Nat.reduceLT, Nat.reduceSub, Int.reduceNe, Int.reduceEq, Int.reduceLT, Int.reduceLE, Int.reduceToNat, ne_eq, not_false_eq_true, List.length_map, Nat.lt_irrefl, dV_nx, dV_rt, at0, at1, at2, at3, ix20, ix21, vSeq, vIfS, vTest, vTruth, truth, v2, v1, vN, vCons, vNil, vVar, vC, xIx, Vl.opI0, Vl.opI, pk, vSet, vAsg, xgSub, vRet, vRetN, vDrop, vBreak, vCont, asD, asDs, opMod, opDiv, opMul2, Vl.opAdd, Vl.opAddO, opSub, opPow, opLt, Vl.opLe, opGt, Vl.opGe, xEq, okEq_str, okEq_int, xIn, okIn, inD, xIsN, isNone_n, isNone_t, isNone_l, isNone_i, isNone_s, isMo, mob, pkm, gModI, gDivI, gSubI, gMulI, gPowI, gGt, gLt, gLe, gGe, vNotT, vAndT, vOrT, vAndV, vOrV, opNot, opNotG, vIfE, opTup, opLst, opLstO, Vl.opLen, Vl.opInt, opList, opListO, opTuple, opII, gMax, gMin, vM, vM0, isT, xPop, Vl.opAppend, opExtend, opJoin, vgName, vgTup, vgCons, vgNil, kOpt_some, kOpn_some, kOps_some, Vl.opSum, Vl.opInsert, Vl.opIndex, opDivmod, vSl, vPart, vNoPart, opSl, opSlO, opRev, opCallK, ownD, ownO, objs, renum, uniq, getS, putS, vCall0, vFor, vForW, En.wk, vSeqI, vTupI, vRng1, vRng2, vEnum, vZip, chkOf, vLcK, vYes, finD, finO, En.wipe, wipeE, En.trim, trimS, dropNone, clr_n, clr_v, clr_k, clr_o, wth, Vl.ret, takeS, startV,  List.map_cons, List.map_nil, List.length_cons, List.length_nil, List.cons_append, List.nil_append, List.replicate, List.getElem?_cons_succ, List.getElem?_cons_zero, List.getElem?_nil, List.set_cons_succ, List.set_cons_zero, List.set_nil, List.all_nil, List.all_cons, Bool.true_and, Option.map_some, Option.map_none, if_true, if_false, decide_eq_true_eq, Bool.false_eq_true, List.take_succ_cons, List.take_zero, List.take_nil, List.drop_succ_cons, List.drop_zero, List.drop_nil, reduceIte, reduceCtorEq]
    simp only [t_Lcounts_3, flatD, List.any_cons, List.any_nil, eqv_str, eqv_int, eqv_ti, eqv_it, eqv_st, eqv_ts, cut1, Bool.or_false, Bool.or_true, Bool.and_self, Bool.and_true, Bool.and_false, Bool.false_or, Bool.true_or, and_self, ofs_inj, ofs_app, ofs_len, String.reduceEq, String.reduceNe, String.reduceAppend, decide_true, decide_false, Bool.not_true, Bool.not_false, sz0, sz1, sz2, sz3, sz4, sz5, sz6, sz7, sz8, sz9, sz10, sz11, sz12, sz13, sz14, sz15, sz16, sz17, sz18, sz19, sz20, sz21, sz22, sz23, sz24, sz25, cpow1018, true_and, and_true, Nat.reduceAdd, Nat.reduceLT, Nat.reduceSub, Int.reduceNe, Int.reduceEq, Int.reduceLT, Int.reduceLE, Int.reduceToNat, ne_eq, not_false_eq_true, List.length_map, Nat.lt_irrefl, dV_nx, dV_rt, at0, at1, at2, at3, ix20, ix21, vSeq, vIfS, vTest, vTruth, truth, v2, v1, vN, vCons, vNil, vVar, vC, xIx, Vl.opI0, Vl.opI, pk, vSet, vAsg, xgSub, vRet, vRetN, vDrop, vBreak, vCont, asD, asDs, opMod, opDiv, opMul2, Vl.opAdd, Vl.opAddO, opSub, opPow, opLt, Vl.opLe, opGt, Vl.opGe, xEq, okEq_str, okEq_int, xIn, okIn, inD, xIsN, isNone_n, isNone_t, isNone_l, isNone_i, isNone_s, isMo, mob, pkm, gModI, gDivI, gSubI, gMulI, gPowI, gGt, gLt, gLe, gGe, vNotT, vAndT, vOrT, vAndV, vOrV, opNot, opNotG, vIfE, opTup, opLst, opLstO, Vl.opLen, Vl.opInt, opList, opListO, opTuple, opII, gMax, gMin, vM, vM0, isT, xPop, Vl.opAppend, opExtend, opJoin, vgName, vgTup, vgCons, vgNil, kOpt_some, kOpn_some, kOps_some, Vl.opSum, Vl.opInsert, Vl.opIndex, opDivmod, vSl, vPart, vNoPart, opSl, opSlO, opRev, opCallK, ownD, ownO, objs, renum, uniq, getS, putS, vCall0, vFor, vForW, En.wk, vSeqI, vTupI, vRng1, vRng2, vEnum, vZip, chkOf, vLcK, vYes, finD, finO, En.wipe, wipeE, En.trim, trimS, dropNone, clr_n, clr_v, clr_k, clr_o, wth, Vl.ret, takeS, startV,  List.map_cons, List.map_nil, List.length_cons, List.length_nil, List.cons_append, List.nil_append, List.replicate, List.getElem?_cons_succ, List.getElem?_cons_zero, List.getElem?_nil, List.set_cons_succ, List.set_cons_zero, List.set_nil, List.all_nil, List.all_cons, Bool.true_and, Option.map_some, Option.map_none, if_true, if_false, decide_eq_true_eq, Bool.false_eq_true, List.take_succ_cons, List.take_zero, List.take_nil, List.drop_succ_cons, List.drop_zero, List.drop_nil, reduceIte, reduceCtorEq]
    refine ⟨⟨by omega, by omega⟩, ?_⟩
    rw [rng_eq]
    refine fl_invW (chk := none) (fun (a : Nat) => PyData.int (1 + (a : Nat))) _ (fun zs e => e = ⟨[some (.val (.int (b : Nat))), some (.obj 0), some (.val (.int (2 + (ys.length : Nat)))), some (.val (.int ((zs.map fun a => 2 * nth (cat b ys.length) (a + 1) * nth (cat b ys.length) (ys.length + 2 - (a + 1))).sum))), none], [some (.l ((cat b ys.length).map .int))]⟩) (fun _ _ _ => trivial) ?_ ?_ rfl
    · rintro us a vs e Ny hus rfl hk
      have ha : a < ys.length + 1 := by
        have : a ∈ List.range ((2 : Int) + (ys.length : Nat) - 1).toNat := by rw [hus]; simp
        have := List.mem_range.mp this
        omega
      have a1 : atI ((cat b ys.length).map PyData.int) (1 + (a : Nat)) = some (.int (nth (cat b ys.length) (a + 1))) := by
        rw [show (1 + (a : Nat) : Int) = ((a + 1 : Nat) : Int) from by omega]
        exact at_nth (by omega)
      have a2 : atI ((cat b ys.length).map PyData.int) (2 + (ys.length : Nat) - (1 + (a : Nat))) = some (.int (nth (cat b ys.length) (ys.length + 2 - (a + 1)))) := by
        rw [show (2 + (ys.length : Nat) - (1 + (a : Nat)) : Int) = ((ys.length + 2 - (a + 1) : Nat) : Int) from by omega]
        exact at_nth (by omega)
      have b1 := cat_bound (b := (b : Nat)) (by omega) (by omega) (n := ys.length) (by omega) (a + 1)
      have b2 := cat_bound (b := (b : Nat)) (by omega) (by omega) (n := ys.length) (by omega) (ys.length + 2 - (a + 1))
      simp only [t_Lcounts_1, a1, a2, flatD, List.any_cons, List.any_nil, eqv_str, eqv_int, eqv_ti, eqv_it, eqv_st, eqv_ts, cut1, Bool.or_false, Bool.or_true, Bool.and_self, Bool.and_true, Bool.and_false, Bool.false_or, Bool.true_or, and_self, ofs_inj, ofs_app, ofs_len, String.reduceEq, String.reduceNe, String.reduceAppend, decide_true, decide_false, Bool.not_true, Bool.not_false, sz0, sz1, sz2, sz3, sz4, sz5, sz6, sz7, sz8, sz9, sz10, sz11, sz12, sz13, sz14, sz15, sz16, sz17, sz18, sz19, sz20, sz21, sz22, sz23, sz24, sz25, cpow1018, true_and, and_true, Nat.reduceAdd, Nat.reduceLT, Nat.reduceSub, Int.reduceNe, Int.reduceEq, Int.reduceLT, Int.reduceLE, Int.reduceToNat, ne_eq, not_false_eq_true, List.length_map, Nat.lt_irrefl, dV_nx, dV_rt, at0, at1, at2, at3, ix20, ix21, vSeq, vIfS, vTest, vTruth, truth, v2, v1, vN, vCons, vNil, vVar, vC, xIx, Vl.opI0, Vl.opI, pk, vSet, vAsg, xgSub, vRet, vRetN, vDrop, vBreak, vCont, asD, asDs, opMod, opDiv, opMul2, Vl.opAdd, Vl.opAddO, opSub, opPow, opLt, Vl.opLe, opGt, Vl.opGe, xEq, okEq_str, okEq_int, xIn, okIn, inD, xIsN, isNone_n, isNone_t, isNone_l, isNone_i, isNone_s, isMo, mob, pkm, gModI, gDivI, gSubI, gMulI, gPowI, gGt, gLt, gLe, gGe, vNotT, vAndT, vOrT, vAndV, vOrV, opNot, opNotG, vIfE, opTup, opLst, opLstO, Vl.opLen, Vl.opInt, opList, opListO, opTuple, opII, gMax, gMin, vM, vM0, isT, xPop, Vl.opAppend, opExtend, opJoin, vgName, vgTup, vgCons, vgNil, kOpt_some, kOpn_some, kOps_some, Vl.opSum, Vl.opInsert, Vl.opIndex, opDivmod, vSl, vPart, vNoPart, opSl, opSlO, opRev, opCallK, ownD, ownO, objs, renum, uniq, getS, putS, vCall0, vFor, vForW, En.wk, vSeqI, vTupI, vRng1, vRng2, vEnum, vZip, chkOf, vLcK, vYes, finD, finO, En.wipe, wipeE, En.trim, trimS, dropNone, clr_n, clr_v, clr_k, clr_o, wth, Vl.ret, takeS, startV,  List.map_cons, List.map_nil, List.length_cons, List.length_nil, List.cons_append, List.nil_append, List.replicate, List.getElem?_cons_succ, List.getElem?_cons_zero, List.getElem?_nil, List.set_cons_succ, List.set_cons_zero, List.set_nil, List.all_nil, List.all_cons, Bool.true_and, Option.map_some, Option.map_none, if_true, if_false, decide_eq_true_eq, Bool.false_eq_true, List.take_succ_cons, List.take_zero, List.take_nil, List.drop_succ_cons, List.drop_zero, List.drop_nil, reduceIte, reduceCtorEq]
      simp only [List.map_append, List.sum_append_int, List.map_cons, List.map_nil, List.sum_cons, List.sum_nil, Int.add_zero] at hk
      exact ⟨by unfold CMul; omega, by unfold CMul; omega, hk _ 1 [4] (Nat.le_refl _) rfl⟩
    · rintro e rfl
      simp only [t_Lcounts_2, flatD, List.any_cons, List.any_nil, eqv_str, eqv_int, eqv_ti, eqv_it, eqv_st, eqv_ts, cut1, Bool.or_false, Bool.or_true, Bool.and_self, Bool.and_true, Bool.and_false, Bool.false_or, Bool.true_or, and_self, ofs_inj, ofs_app, ofs_len, String.reduceEq, String.reduceNe, String.reduceAppend, decide_true, decide_false, Bool.not_true, Bool.not_false, sz0, sz1, sz2, sz3, sz4, sz5, sz6, sz7, sz8, sz9, sz10, sz11, sz12, sz13, sz14, sz15, sz16, sz17, sz18, sz19, sz20, sz21, sz22, sz23, sz24, sz25, cpow1018, true_and, and_true, Nat.reduceAdd, Nat.reduceLT, Nat.reduceSub, Int.reduceNe, Int.reduceEq, Int.reduceLT, Int.reduceLE, Int.reduceToNat, ne_eq, not_false_eq_true, List.length_map, Nat.lt_irrefl, dV_nx, dV_rt, at0, at1, at2, at3, ix20, ix21, vSeq, vIfS, vTest, vTruth, truth, v2, v1, vN, vCons, vNil, vVar, vC, xIx, Vl.opI0, Vl.opI, pk, vSet, vAsg, xgSub, vRet, vRetN, vDrop, vBreak, vCont, asD, asDs, opMod, opDiv, opMul2, Vl.opAdd, Vl.opAddO, opSub, opPow, opLt, Vl.opLe, opGt, Vl.opGe, xEq, okEq_str, okEq_int, xIn, okIn, inD, xIsN, isNone_n, isNone_t, isNone_l, isNone_i, isNone_s, isMo, mob, pkm, gModI, gDivI, gSubI, gMulI, gPowI, gGt, gLt, gLe, gGe, vNotT, vAndT, vOrT, vAndV, vOrV, opNot, opNotG, vIfE, opTup, opLst, opLstO, Vl.opLen, Vl.opInt, opList, opListO, opTuple, opII, gMax, gMin, vM, vM0, isT, xPop, Vl.opAppend, opExtend, opJoin, vgName, vgTup, vgCons, vgNil, kOpt_some, kOpn_some, kOps_some, Vl.opSum, Vl.opInsert, Vl.opIndex, opDivmod, vSl, vPart, vNoPart, opSl, opSlO, opRev, opCallK, ownD, ownO, objs, renum, uniq, getS, putS, vCall0, vFor, vForW, En.wk, vSeqI, vTupI, vRng1, vRng2, vEnum, vZip, chkOf, vLcK, vYes, finD, finO, En.wipe, wipeE, En.trim, trimS, dropNone, clr_n, clr_v, clr_k, clr_o, wth, Vl.ret, takeS, startV,  List.map_cons, List.map_nil, List.length_cons, List.length_nil, List.cons_append, List.nil_append, List.replicate, List.getElem?_cons_succ, List.getElem?_cons_zero, List.getElem?_nil, List.set_cons_succ, List.set_cons_zero, List.set_nil, List.all_nil, List.all_cons, Bool.true_and, Option.map_some, Option.map_none, if_true, if_false, decide_eq_true_eq, Bool.false_eq_true, List.take_succ_cons, List.take_zero, List.take_nil, List.drop_succ_cons, List.drop_zero, List.drop_nil, reduceIte, reduceCtorEq]
      have e1 : ((2 : Int) + (ys.length : Nat) - 1).toNat = ys.length + 2 - 1 := by omega
      rw [List.length_append, List.length_singleton, cat, List.map_append] at hk
      rw [e1]
      exact ⟨bigl (by omega), hk _ 1 [2, 3, 4] (Nat.le_refl _) rfl⟩
  · rintro e rfl
    rw [List.length_range]
    simp only [t_Lcounts_5, flatD, List.any_cons, List.any_nil, eqv_str, eqv_int, eqv_ti, eqv_it, eqv_st, eqv_ts, cut1, Bool.or_false, Bool.or_true, Bool.and_self, Bool.and_true, Bool.and_false, Bool.false_or, Bool.true_or, and_self, ofs_inj, ofs_app, ofs_len, String.reduceEq, String.reduceNe, String.reduceAppend, decide_true, decide_false, Bool.not_true, Bool.not_false, sz0, sz1, sz2, sz3, sz4, sz5, sz6, sz7, sz8, sz9, sz10, sz11, sz12, sz13, sz14, sz15, sz16, sz17, sz18, sz19, sz20, sz21, sz22, sz23, sz24, sz25, cpow1018, true_and, and_true, Nat.reduceAdd, Nat.reduceLT, Nat.reduceSub, Int.reduceNe, Int.reduceEq, Int.reduceLT, Int.reduceLE, Int.reduceToNat, ne_eq, not_false_eq_true, List.length_map, Nat.lt_irrefl, dV_nx, dV_rt, at0, at1, at2, at3, ix20, ix21, vSeq, vIfS, vTest, vTruth, truth, v2, v1, vN, vCons, vNil, vVar, vC, xIx, Vl.opI0, Vl.opI, pk, vSet, vAsg, xgSub, vRet, vRetN, vDrop, vBreak, vCont, asD, asDs, opMod, opDiv, opMul2, Vl.opAdd, Vl.opAddO, opSub, opPow, opLt, Vl.opLe, opGt, Vl.opGe, xEq, okEq_str, okEq_int, xIn, okIn, inD, xIsN, isNone_n, isNone_t, isNone_l, isNone_i, isNone_s, isMo, mob, pkm, gModI, gDivI, gSubI, gMulI, gPowI, gGt, gLt, gLe, gGe, vNotT, vAndT, vOrT, vAndV, vOrV, opNot, opNotG, vIfE, opTup, opLst, opLstO, Vl.opLen, Vl.opInt, opList, opListO, opTuple, opII, gMax, gMin, vM, vM0, isT, xPop, Vl.opAppend, opExtend, opJoin, vgName, vgTup, vgCons, vgNil, kOpt_some, kOpn_some, kOps_some, Vl.opSum, Vl.opInsert, Vl.opIndex, opDivmod, vSl, vPart, vNoPart, opSl, opSlO, opRev, opCallK, ownD, ownO, objs, renum, uniq, getS, putS, vCall0, vFor, vForW, En.wk, vSeqI, vTupI, vRng1, vRng2, vEnum, vZip, chkOf, vLcK, vYes, finD, finO, En.wipe, wipeE, En.trim, trimS, dropNone, clr_n, clr_v, clr_k, clr_o, wth, Vl.ret, takeS, startV,  List.map_cons, List.map_nil, List.length_cons, List.length_nil, List.cons_append, List.nil_append, List.replicate, List.getElem?_cons_succ, List.getElem?_cons_zero, List.getElem?_nil, List.set_cons_succ, List.set_cons_zero, List.set_nil, List.all_nil, List.all_cons, Bool.true_and, Option.map_some, Option.map_none, if_true, if_false, decide_eq_true_eq, Bool.false_eq_true, List.take_succ_cons, List.take_zero, List.take_nil, List.drop_succ_cons, List.drop_zero, List.drop_nil, reduceIte, reduceCtorEq]
    exact k
end Kf
namespace Kf
open PySem L2 Vl PySem.Spec PyProof.Rows
theorem shp_strs {ms : List Str} (h : ∀ m ∈ ms, PyData.strOk m = true) : Vl.shp (.list (ms.map .str)) = true := by
  have hh : PyData.canLayAll0 (ms.map .str) = true ∧ PyData.depthAll (ms.map .str) = 0 := by
    induction ms with
    | nil => exact ⟨by rw [List.map_nil, canAll_nil], by rw [List.map_nil, depthAll_nil]⟩
    | cons m ms ih =>
      obtain ⟨h1, h2⟩ := ih fun x hx => h x (List.mem_cons_of_mem _ hx)
      rw [List.map_cons, canAll_cons, depthAll_cons, h1, h2, can_str, depth_str, h m List.mem_cons_self]
      exact ⟨rfl, rfl⟩
  unfold Vl.shp
  rw [can_lst, depth_lst, hh.1, hh.2] <;> rfl
theorem eqvAll_refl : ∀ ms : List Str, PyData.eqvAll (ms.map .str) (ms.map .str) = true
  | [] => by rw [List.map_nil, eqvAll_nil]
  | m :: ms => by rw [List.map_cons, eqvAll_cons, eqv_str, decide_eq_true rfl, eqvAll_refl ms] <;> rfl
theorem eqv_strs (ms : List Str) : PyData.eqv (.list (ms.map .str)) (.list (ms.map .str)) = true := by rw [eqv_lst, eqvAll_refl]
theorem kit_ii : kitB (tyD (.int 0)) "int" = some true := by
  show kitB "int" "int" = some true
  decide +kernel
theorem kit_ib : kitB (tyD (.int 0)) "bool" = some false := by
  show kitB "int" "bool" = some false
  decide +kernel
theorem r_lawk70 {ss cs Kp} (h : pLaw ss cs Kp) : t_lawk70 pPool pUnlike pMarks pCounts pKindsMany (dV cs.length Kp) ⟨startV 8 ss, cs.map some⟩ := by
  obtain ⟨ns, rfl, rfl, hl, k⟩ := h
  simp only [t_lawk70, t_lawk70_10, flatD, List.any_cons, List.any_nil, eqv_str, eqv_int, eqv_ti, eqv_it, eqv_st, eqv_ts, cut1, Bool.or_false, Bool.or_true, Bool.and_self, Bool.and_true, Bool.and_false, Bool.false_or, Bool.true_or, and_self, ofs_inj, ofs_app, ofs_len, String.reduceEq, String.reduceNe, String.reduceAppend, decide_true, decide_false, Bool.not_true, Bool.not_false, sz0, sz1, sz2, sz3, sz4, sz5, sz6, sz7, sz8, sz9, sz10, sz11, sz12, sz13, sz14, sz15, sz16, sz17, sz18, sz19, sz20, sz21, sz22, sz23, sz24, sz25, cpow1018, true_and, and_true, Nat.reduceAdd, Nat.reduceLT, Nat.reduceSub, Int.reduceNe, Int.reduceEq, Int.reduceLT, Int.reduceLE, Int.reduceToNat, ne_eq, not_false_eq_true, List.length_map, Nat.lt_irrefl, dV_nx, dV_rt, at0, at1, at2, at3, ix20, ix21, vSeq, vIfS, vTest, vTruth, truth, v2, v1, vN, vCons, vNil, vVar, vC, xIx, Vl.opI0, Vl.opI, pk, vSet, vAsg, xgSub, vRet, vRetN, vDrop, vBreak, vCont, asD, asDs, opMod, opDiv, opMul2, Vl.opAdd, Vl.opAddO, opSub, opPow, opLt, Vl.opLe, opGt, Vl.opGe, xEq, okEq_str, okEq_int, xIn, okIn, inD, xIsN, isNone_n, isNone_t, isNone_l, isNone_i, isNone_s, isMo, mob, pkm, gModI, gDivI, gSubI, gMulI, gPowI, gGt, gLt, gLe, gGe, vNotT, vAndT, vOrT, vAndV, vOrV, opNot, opNotG, vIfE, opTup, opLst, opLstO, Vl.opLen, Vl.opInt, opList, opListO, opTuple, opII, gMax, gMin, vM, vM0, isT, xPop, Vl.opAppend, opExtend, opJoin, vgName, vgTup, vgCons, vgNil, kOpt_some, kOpn_some, kOps_some, Vl.opSum, Vl.opInsert, Vl.opIndex, opDivmod, vSl, vPart, vNoPart, opSl, opSlO, opRev, opCallK, ownD, ownO, objs, renum, uniq, getS, putS, vCall0, vFor, vForW, En.wk, vSeqI, vTupI, vRng1, vRng2, vEnum, vZip, chkOf, vLcK, vYes, finD, finO, En.wipe, wipeE, En.trim, trimS, dropNone, clr_n, clr_v, clr_k, clr_o, wth, Vl.ret, takeS, startV,  List.map_cons, List.map_nil, List.length_cons, List.length_nil, List.cons_append, List.nil_append, List.replicate, List.getElem?_cons_succ, List.getElem?_cons_zero, List.getElem?_nil, List.set_cons_succ, List.set_cons_zero, List.set_nil, List.all_nil, List.all_cons, Bool.true_and, Option.map_some, Option.map_none, if_true, if_false, decide_eq_true_eq, Bool.false_eq_true, List.take_succ_cons, List.take_zero, List.take_nil, List.drop_succ_cons, List.drop_zero, List.drop_nil, reduceIte, reduceCtorEq]
  generalize hN : (if (if (12 : Int) < (ns.length : Nat) then (12 : Int) else (ns.length : Nat)) > 1 then (if (12 : Int) < (ns.length : Nat) then (12 : Int) else (ns.length : Nat)) else 1) = N
  have hN1 : 0 ≤ N ∧ N ≤ 12 := by
    rw [← hN]
    split <;> split <;> omega
  refine ⟨by omega, by omega, ?_⟩
  rw [rng_eq]
  refine fl_invW (chk := none) (fun (i : Nat) => PyData.int (0 + (i : Nat))) _ (fun ys e => e = ⟨[some (.kn (ns.map .int)), none, none, none, none, none, none, none], []⟩) (fun _ _ _ => trivial) ?_ ?_ rfl
  · rintro ys i zs e Nx hys rfl hk
    have hi : i < N.toNat := List.mem_range.mp (by rw [hys]; simp)
    simp only [t_lawk70_8, pPool, flatD, List.any_cons, List.any_nil, eqv_str, eqv_int, eqv_ti, eqv_it, eqv_st, eqv_ts, cut1, Bool.or_false, Bool.or_true, Bool.and_self, Bool.and_true, Bool.and_false, Bool.false_or, Bool.true_or, and_self, ofs_inj, ofs_app, ofs_len, String.reduceEq, String.reduceNe, String.reduceAppend, decide_true, decide_false, Bool.not_true, Bool.not_false, sz0, sz1, sz2, sz3, sz4, sz5, sz6, sz7, sz8, sz9, sz10, sz11, sz12, sz13, sz14, sz15, sz16, sz17, sz18, sz19, sz20, sz21, sz22, sz23, sz24, sz25, cpow1018, true_and, and_true, Nat.reduceAdd, Nat.reduceLT, Nat.reduceSub, Int.reduceNe, Int.reduceEq, Int.reduceLT, Int.reduceLE, Int.reduceToNat, ne_eq, not_false_eq_true, List.length_map, Nat.lt_irrefl, dV_nx, dV_rt, at0, at1, at2, at3, ix20, ix21, vSeq, vIfS, vTest, vTruth, truth, v2, v1, vN, vCons, vNil, vVar, vC, xIx, Vl.opI0, Vl.opI, pk, vSet, vAsg, xgSub, vRet, vRetN, vDrop, vBreak, vCont, asD, asDs, opMod, opDiv, opMul2, Vl.opAdd, Vl.opAddO, opSub, opPow, opLt, Vl.opLe, opGt, Vl.opGe, xEq, okEq_str, okEq_int, xIn, okIn, inD, xIsN, isNone_n, isNone_t, isNone_l, isNone_i, isNone_s, isMo, mob, pkm, gModI, gDivI, gSubI, gMulI, gPowI, gGt, gLt, gLe, gGe, vNotT, vAndT, vOrT, vAndV, vOrV, opNot, opNotG, vIfE, opTup, opLst, opLstO, Vl.opLen, Vl.opInt, opList, opListO, opTuple, opII, gMax, gMin, vM, vM0, isT, xPop, Vl.opAppend, opExtend, opJoin, vgName, vgTup, vgCons, vgNil, kOpt_some, kOpn_some, kOps_some, Vl.opSum, Vl.opInsert, Vl.opIndex, opDivmod, vSl, vPart, vNoPart, opSl, opSlO, opRev, opCallK, ownD, ownO, objs, renum, uniq, getS, putS, vCall0, vFor, vForW, En.wk, vSeqI, vTupI, vRng1, vRng2, vEnum, vZip, chkOf, vLcK, vYes, finD, finO, En.wipe, wipeE, En.trim, trimS, dropNone, clr_n, clr_v, clr_k, clr_o, wth, Vl.ret, takeS, startV,  List.map_cons, List.map_nil, List.length_cons, List.length_nil, List.cons_append, List.nil_append, List.replicate, List.getElem?_cons_succ, List.getElem?_cons_zero, List.getElem?_nil, List.set_cons_succ, List.set_cons_zero, List.set_nil, List.all_nil, List.all_cons, Bool.true_and, Option.map_some, Option.map_none, if_true, if_false, decide_eq_true_eq, Bool.false_eq_true, List.take_succ_cons, List.take_zero, List.take_nil, List.drop_succ_cons, List.drop_zero, List.drop_nil, reduceIte, reduceCtorEq]
    refine ⟨ns, i, by rw [Int.zero_add], hl, by omega, fun c n pn => ?_⟩
    simp only [t_lawk70_7, pMarks, flatD, List.any_cons, List.any_nil, eqv_str, eqv_int, eqv_ti, eqv_it, eqv_st, eqv_ts, cut1, Bool.or_false, Bool.or_true, Bool.and_self, Bool.and_true, Bool.and_false, Bool.false_or, Bool.true_or, and_self, ofs_inj, ofs_app, ofs_len, String.reduceEq, String.reduceNe, String.reduceAppend, decide_true, decide_false, Bool.not_true, Bool.not_false, sz0, sz1, sz2, sz3, sz4, sz5, sz6, sz7, sz8, sz9, sz10, sz11, sz12, sz13, sz14, sz15, sz16, sz17, sz18, sz19, sz20, sz21, sz22, sz23, sz24, sz25, cpow1018, true_and, and_true, Nat.reduceAdd, Nat.reduceLT, Nat.reduceSub, Int.reduceNe, Int.reduceEq, Int.reduceLT, Int.reduceLE, Int.reduceToNat, ne_eq, not_false_eq_true, List.length_map, Nat.lt_irrefl, dV_nx, dV_rt, at0, at1, at2, at3, ix20, ix21, vSeq, vIfS, vTest, vTruth, truth, v2, v1, vN, vCons, vNil, vVar, vC, xIx, Vl.opI0, Vl.opI, pk, vSet, vAsg, xgSub, vRet, vRetN, vDrop, vBreak, vCont, asD, asDs, opMod, opDiv, opMul2, Vl.opAdd, Vl.opAddO, opSub, opPow, opLt, Vl.opLe, opGt, Vl.opGe, xEq, okEq_str, okEq_int, xIn, okIn, inD, xIsN, isNone_n, isNone_t, isNone_l, isNone_i, isNone_s, isMo, mob, pkm, gModI, gDivI, gSubI, gMulI, gPowI, gGt, gLt, gLe, gGe, vNotT, vAndT, vOrT, vAndV, vOrV, opNot, opNotG, vIfE, opTup, opLst, opLstO, Vl.opLen, Vl.opInt, opList, opListO, opTuple, opII, gMax, gMin, vM, vM0, isT, xPop, Vl.opAppend, opExtend, opJoin, vgName, vgTup, vgCons, vgNil, kOpt_some, kOpn_some, kOps_some, Vl.opSum, Vl.opInsert, Vl.opIndex, opDivmod, vSl, vPart, vNoPart, opSl, opSlO, opRev, opCallK, ownD, ownO, objs, renum, uniq, getS, putS, vCall0, vFor, vForW, En.wk, vSeqI, vTupI, vRng1, vRng2, vEnum, vZip, chkOf, vLcK, vYes, finD, finO, En.wipe, wipeE, En.trim, trimS, dropNone, clr_n, clr_v, clr_k, clr_o, wth, Vl.ret, takeS, startV,  List.map_cons, List.map_nil, List.length_cons, List.length_nil, List.cons_append, List.nil_append, List.replicate, List.getElem?_cons_succ, List.getElem?_cons_zero, List.getElem?_nil, List.set_cons_succ, List.set_cons_zero, List.set_nil, List.all_nil, List.all_cons, Bool.true_and, Option.map_some, Option.map_none, if_true, if_false, decide_eq_true_eq, Bool.false_eq_true, List.take_succ_cons, List.take_zero, List.take_nil, List.drop_succ_cons, List.drop_zero, List.drop_nil, reduceIte, reduceCtorEq]
    refine ⟨c, n, rfl, pn, fun ms c1 n1 hm pn1 => ?_⟩
    simp only [pUnlike, flatD, List.any_cons, List.any_nil, eqv_str, eqv_int, eqv_ti, eqv_it, eqv_st, eqv_ts, cut1, Bool.or_false, Bool.or_true, Bool.and_self, Bool.and_true, Bool.and_false, Bool.false_or, Bool.true_or, and_self, ofs_inj, ofs_app, ofs_len, String.reduceEq, String.reduceNe, String.reduceAppend, decide_true, decide_false, Bool.not_true, Bool.not_false, sz0, sz1, sz2, sz3, sz4, sz5, sz6, sz7, sz8, sz9, sz10, sz11, sz12, sz13, sz14, sz15, sz16, sz17, sz18, sz19, sz20, sz21, sz22, sz23, sz24, sz25, cpow1018, true_and, and_true, Nat.reduceAdd, Nat.reduceLT, Nat.reduceSub, Int.reduceNe, Int.reduceEq, Int.reduceLT, Int.reduceLE, Int.reduceToNat, ne_eq, not_false_eq_true, List.length_map, Nat.lt_irrefl, dV_nx, dV_rt, at0, at1, at2, at3, ix20, ix21, vSeq, vIfS, vTest, vTruth, truth, v2, v1, vN, vCons, vNil, vVar, vC, xIx, Vl.opI0, Vl.opI, pk, vSet, vAsg, xgSub, vRet, vRetN, vDrop, vBreak, vCont, asD, asDs, opMod, opDiv, opMul2, Vl.opAdd, Vl.opAddO, opSub, opPow, opLt, Vl.opLe, opGt, Vl.opGe, xEq, okEq_str, okEq_int, xIn, okIn, inD, xIsN, isNone_n, isNone_t, isNone_l, isNone_i, isNone_s, isMo, mob, pkm, gModI, gDivI, gSubI, gMulI, gPowI, gGt, gLt, gLe, gGe, vNotT, vAndT, vOrT, vAndV, vOrV, opNot, opNotG, vIfE, opTup, opLst, opLstO, Vl.opLen, Vl.opInt, opList, opListO, opTuple, opII, gMax, gMin, vM, vM0, isT, xPop, Vl.opAppend, opExtend, opJoin, vgName, vgTup, vgCons, vgNil, kOpt_some, kOpn_some, kOps_some, Vl.opSum, Vl.opInsert, Vl.opIndex, opDivmod, vSl, vPart, vNoPart, opSl, opSlO, opRev, opCallK, ownD, ownO, objs, renum, uniq, getS, putS, vCall0, vFor, vForW, En.wk, vSeqI, vTupI, vRng1, vRng2, vEnum, vZip, chkOf, vLcK, vYes, finD, finO, En.wipe, wipeE, En.trim, trimS, dropNone, clr_n, clr_v, clr_k, clr_o, wth, Vl.ret, takeS, startV,  List.map_cons, List.map_nil, List.length_cons, List.length_nil, List.cons_append, List.nil_append, List.replicate, List.getElem?_cons_succ, List.getElem?_cons_zero, List.getElem?_nil, List.set_cons_succ, List.set_cons_zero, List.set_nil, List.all_nil, List.all_cons, Bool.true_and, Option.map_some, Option.map_none, if_true, if_false, decide_eq_true_eq, Bool.false_eq_true, List.take_succ_cons, List.take_zero, List.take_nil, List.drop_succ_cons, List.drop_zero, List.drop_nil, reduceIte, reduceCtorEq]
    refine ⟨ms, c1, n1, rfl, rfl, pn1, by have := hm.hi; omega, fun os c2 n2 hp pn2 => ?_⟩
    have hol : os.length = ms.length := hp.length_eq
    have ol := hm.hi
    have hok : ∀ m ∈ os, PyData.strOk m = true := fun m h => (hm.all m (hp.subset h)).ok
    simp only [t_lawk70_6, pCounts, flatD, List.any_cons, List.any_nil, eqv_str, eqv_int, eqv_ti, eqv_it, eqv_st, eqv_ts, cut1, Bool.or_false, Bool.or_true, Bool.and_self, Bool.and_true, Bool.and_false, Bool.false_or, Bool.true_or, and_self, ofs_inj, ofs_app, ofs_len, String.reduceEq, String.reduceNe, String.reduceAppend, decide_true, decide_false, Bool.not_true, Bool.not_false, sz0, sz1, sz2, sz3, sz4, sz5, sz6, sz7, sz8, sz9, sz10, sz11, sz12, sz13, sz14, sz15, sz16, sz17, sz18, sz19, sz20, sz21, sz22, sz23, sz24, sz25, cpow1018, true_and, and_true, Nat.reduceAdd, Nat.reduceLT, Nat.reduceSub, Int.reduceNe, Int.reduceEq, Int.reduceLT, Int.reduceLE, Int.reduceToNat, ne_eq, not_false_eq_true, List.length_map, Nat.lt_irrefl, dV_nx, dV_rt, at0, at1, at2, at3, ix20, ix21, vSeq, vIfS, vTest, vTruth, truth, v2, v1, vN, vCons, vNil, vVar, vC, xIx, Vl.opI0, Vl.opI, pk, vSet, vAsg, xgSub, vRet, vRetN, vDrop, vBreak, vCont, asD, asDs, opMod, opDiv, opMul2, Vl.opAdd, Vl.opAddO, opSub, opPow, opLt, Vl.opLe, opGt, Vl.opGe, xEq, okEq_str, okEq_int, xIn, okIn, inD, xIsN, isNone_n, isNone_t, isNone_l, isNone_i, isNone_s, isMo, mob, pkm, gModI, gDivI, gSubI, gMulI, gPowI, gGt, gLt, gLe, gGe, vNotT, vAndT, vOrT, vAndV, vOrV, opNot, opNotG, vIfE, opTup, opLst, opLstO, Vl.opLen, Vl.opInt, opList, opListO, opTuple, opII, gMax, gMin, vM, vM0, isT, xPop, Vl.opAppend, opExtend, opJoin, vgName, vgTup, vgCons, vgNil, kOpt_some, kOpn_some, kOps_some, Vl.opSum, Vl.opInsert, Vl.opIndex, opDivmod, vSl, vPart, vNoPart, opSl, opSlO, opRev, opCallK, ownD, ownO, objs, renum, uniq, getS, putS, vCall0, vFor, vForW, En.wk, vSeqI, vTupI, vRng1, vRng2, vEnum, vZip, chkOf, vLcK, vYes, finD, finO, En.wipe, wipeE, En.trim, trimS, dropNone, clr_n, clr_v, clr_k, clr_o, wth, Vl.ret, takeS, startV,  List.map_cons, List.map_nil, List.length_cons, List.length_nil, List.cons_append, List.nil_append, List.replicate, List.getElem?_cons_succ, List.getElem?_cons_zero, List.getElem?_nil, List.set_cons_succ, List.set_cons_zero, List.set_nil, List.all_nil, List.all_cons, Bool.true_and, Option.map_some, Option.map_none, if_true, if_false, decide_eq_true_eq, Bool.false_eq_true, List.take_succ_cons, List.take_zero, List.take_nil, List.drop_succ_cons, List.drop_zero, List.drop_nil, reduceIte, reduceCtorEq]
    refine ⟨os.length, rfl, by omega, ?_⟩
    simp only [t_lawk70_5, flatD, List.any_cons, List.any_nil, eqv_str, eqv_int, eqv_ti, eqv_it, eqv_st, eqv_ts, cut1, Bool.or_false, Bool.or_true, Bool.and_self, Bool.and_true, Bool.and_false, Bool.false_or, Bool.true_or, and_self, ofs_inj, ofs_app, ofs_len, String.reduceEq, String.reduceNe, String.reduceAppend, decide_true, decide_false, Bool.not_true, Bool.not_false, sz0, sz1, sz2, sz3, sz4, sz5, sz6, sz7, sz8, sz9, sz10, sz11, sz12, sz13, sz14, sz15, sz16, sz17, sz18, sz19, sz20, sz21, sz22, sz23, sz24, sz25, cpow1018, true_and, and_true, Nat.reduceAdd, Nat.reduceLT, Nat.reduceSub, Int.reduceNe, Int.reduceEq, Int.reduceLT, Int.reduceLE, Int.reduceToNat, ne_eq, not_false_eq_true, List.length_map, Nat.lt_irrefl, dV_nx, dV_rt, at0, at1, at2, at3, ix20, ix21, vSeq, vIfS, vTest, vTruth, truth, v2, v1, vN, vCons, vNil, vVar, vC, xIx, Vl.opI0, Vl.opI, pk, vSet, vAsg, xgSub, vRet, vRetN, vDrop, vBreak, vCont, asD, asDs, opMod, opDiv, opMul2, Vl.opAdd, Vl.opAddO, opSub, opPow, opLt, Vl.opLe, opGt, Vl.opGe, xEq, okEq_str, okEq_int, xIn, okIn, inD, xIsN, isNone_n, isNone_t, isNone_l, isNone_i, isNone_s, isMo, mob, pkm, gModI, gDivI, gSubI, gMulI, gPowI, gGt, gLt, gLe, gGe, vNotT, vAndT, vOrT, vAndV, vOrV, opNot, opNotG, vIfE, opTup, opLst, opLstO, Vl.opLen, Vl.opInt, opList, opListO, opTuple, opII, gMax, gMin, vM, vM0, isT, xPop, Vl.opAppend, opExtend, opJoin, vgName, vgTup, vgCons, vgNil, kOpt_some, kOpn_some, kOps_some, Vl.opSum, Vl.opInsert, Vl.opIndex, opDivmod, vSl, vPart, vNoPart, opSl, opSlO, opRev, opCallK, ownD, ownO, objs, renum, uniq, getS, putS, vCall0, vFor, vForW, En.wk, vSeqI, vTupI, vRng1, vRng2, vEnum, vZip, chkOf, vLcK, vYes, finD, finO, En.wipe, wipeE, En.trim, trimS, dropNone, clr_n, clr_v, clr_k, clr_o, wth, Vl.ret, takeS, startV,  List.map_cons, List.map_nil, List.length_cons, List.length_nil, List.cons_append, List.nil_append, List.replicate, List.getElem?_cons_succ, List.getElem?_cons_zero, List.getElem?_nil, List.set_cons_succ, List.set_cons_zero, List.set_nil, List.all_nil, List.all_cons, Bool.true_and, Option.map_some, Option.map_none, if_true, if_false, decide_eq_true_eq, Bool.false_eq_true, List.take_succ_cons, List.take_zero, List.take_nil, List.drop_succ_cons, List.drop_zero, List.drop_nil, reduceIte, reduceCtorEq]
    refine ⟨⟨by decide, by decide, by decide, by decide⟩, ?_⟩
    rw [rng_eq]
    refine fl_invW (chk := none) (fun (i : Nat) => PyData.int (1 + (i : Nat))) _ (fun ys e => e = ⟨[some (.kn (ns.map .int)), some (.val (.int (0 + (i : Nat)))), some (.obj 0), some (.val (.list (os.map .str))), some (.val (.list ((cat os.length 9).map .int))), none, none, none], [some (.l [.int c2, .int n2])]⟩) (fun _ _ _ => trivial) ?_ ?_ rfl
    · rintro us l vs e Ny hus rfl hk2
      have hl : l < 10 := List.mem_range.mp (by rw [show ((11 : Int) - 1).toNat = 10 from rfl] at hus; rw [hus]; simp)
      have el : (1 + (l : Nat) : Int) = ((l + 1 : Nat) : Int) := by omega
      have a1 : atI ((cat os.length 9).map PyData.int) (1 + (l : Nat)) = some (.int (many os.length (l + 1))) := by
        rw [el]
        unfold many
        rw [nth_pre (cat_pre _ (show l + 1 - 1 ≤ 9 from by omega)) (by rw [cat_len]; omega)]
        exact at_nth (by rw [cat_len]; omega)
      simp only [t_lawk70_4, flatD, List.any_cons, List.any_nil, eqv_str, eqv_int, eqv_ti, eqv_it, eqv_st, eqv_ts, cut1, Bool.or_false, Bool.or_true, Bool.and_self, Bool.and_true, Bool.and_false, Bool.false_or, Bool.true_or, and_self, ofs_inj, ofs_app, ofs_len, String.reduceEq, String.reduceNe, String.reduceAppend, decide_true, decide_false, Bool.not_true, Bool.not_false, sz0, sz1, sz2, sz3, sz4, sz5, sz6, sz7, sz8, sz9, sz10, sz11, sz12, sz13, sz14, sz15, sz16, sz17, sz18, sz19, sz20, sz21, sz22, sz23, sz24, sz25, cpow1018, true_and, and_true, Nat.reduceAdd, Nat.reduceLT, Nat.reduceSub, Int.reduceNe, Int.reduceEq, Int.reduceLT, Int.reduceLE, Int.reduceToNat, ne_eq, not_false_eq_true, List.length_map, Nat.lt_irrefl, dV_nx, dV_rt, at0, at1, at2, at3, ix20, ix21, vSeq, vIfS, vTest, vTruth, truth, v2, v1, vN, vCons, vNil, vVar, vC, xIx, Vl.opI0, Vl.opI, pk, vSet, vAsg, xgSub, vRet, vRetN, vDrop, vBreak, vCont, asD, asDs, opMod, opDiv, opMul2, Vl.opAdd, Vl.opAddO, opSub, opPow, opLt, Vl.opLe, opGt, Vl.opGe, xEq, okEq_str, okEq_int, xIn, okIn, inD, xIsN, isNone_n, isNone_t, isNone_l, isNone_i, isNone_s, isMo, mob, pkm, gModI, gDivI, gSubI, gMulI, gPowI, gGt, gLt, gLe, gGe, vNotT, vAndT, vOrT, vAndV, vOrV, opNot, opNotG, vIfE, opTup, opLst, opLstO, Vl.opLen, Vl.opInt, opList, opListO, opTuple, opII, gMax, gMin, vM, vM0, isT, xPop, Vl.opAppend, opExtend, opJoin, vgName, vgTup, vgCons, vgNil, kOpt_some, kOpn_some, kOps_some, Vl.opSum, Vl.opInsert, Vl.opIndex, opDivmod, vSl, vPart, vNoPart, opSl, opSlO, opRev, opCallK, ownD, ownO, objs, renum, uniq, getS, putS, vCall0, vFor, vForW, En.wk, vSeqI, vTupI, vRng1, vRng2, vEnum, vZip, chkOf, vLcK, vYes, finD, finO, En.wipe, wipeE, En.trim, trimS, dropNone, clr_n, clr_v, clr_k, clr_o, wth, Vl.ret, takeS, startV,  List.map_cons, List.map_nil, List.length_cons, List.length_nil, List.cons_append, List.nil_append, List.replicate, List.getElem?_cons_succ, List.getElem?_cons_zero, List.getElem?_nil, List.set_cons_succ, List.set_cons_zero, List.set_nil, List.all_nil, List.all_cons, Bool.true_and, Option.map_some, Option.map_none, if_true, if_false, decide_eq_true_eq, Bool.false_eq_true, List.take_succ_cons, List.take_zero, List.take_nil, List.drop_succ_cons, List.drop_zero, List.drop_nil, reduceIte, reduceCtorEq]
      simp only [t_lawk70_3, pKindsMany, flatD, List.any_cons, List.any_nil, eqv_str, eqv_int, eqv_ti, eqv_it, eqv_st, eqv_ts, cut1, Bool.or_false, Bool.or_true, Bool.and_self, Bool.and_true, Bool.and_false, Bool.false_or, Bool.true_or, and_self, ofs_inj, ofs_app, ofs_len, String.reduceEq, String.reduceNe, String.reduceAppend, decide_true, decide_false, Bool.not_true, Bool.not_false, sz0, sz1, sz2, sz3, sz4, sz5, sz6, sz7, sz8, sz9, sz10, sz11, sz12, sz13, sz14, sz15, sz16, sz17, sz18, sz19, sz20, sz21, sz22, sz23, sz24, sz25, cpow1018, true_and, and_true, Nat.reduceAdd, Nat.reduceLT, Nat.reduceSub, Int.reduceNe, Int.reduceEq, Int.reduceLT, Int.reduceLE, Int.reduceToNat, ne_eq, not_false_eq_true, List.length_map, Nat.lt_irrefl, dV_nx, dV_rt, at0, at1, at2, at3, ix20, ix21, vSeq, vIfS, vTest, vTruth, truth, v2, v1, vN, vCons, vNil, vVar, vC, xIx, Vl.opI0, Vl.opI, pk, vSet, vAsg, xgSub, vRet, vRetN, vDrop, vBreak, vCont, asD, asDs, opMod, opDiv, opMul2, Vl.opAdd, Vl.opAddO, opSub, opPow, opLt, Vl.opLe, opGt, Vl.opGe, xEq, okEq_str, okEq_int, xIn, okIn, inD, xIsN, isNone_n, isNone_t, isNone_l, isNone_i, isNone_s, isMo, mob, pkm, gModI, gDivI, gSubI, gMulI, gPowI, gGt, gLt, gLe, gGe, vNotT, vAndT, vOrT, vAndV, vOrV, opNot, opNotG, vIfE, opTup, opLst, opLstO, Vl.opLen, Vl.opInt, opList, opListO, opTuple, opII, gMax, gMin, vM, vM0, isT, xPop, Vl.opAppend, opExtend, opJoin, vgName, vgTup, vgCons, vgNil, kOpt_some, kOpn_some, kOps_some, Vl.opSum, Vl.opInsert, Vl.opIndex, opDivmod, vSl, vPart, vNoPart, opSl, opSlO, opRev, opCallK, ownD, ownO, objs, renum, uniq, getS, putS, vCall0, vFor, vForW, En.wk, vSeqI, vTupI, vRng1, vRng2, vEnum, vZip, chkOf, vLcK, vYes, finD, finO, En.wipe, wipeE, En.trim, trimS, dropNone, clr_n, clr_v, clr_k, clr_o, wth, Vl.ret, takeS, startV,  List.map_cons, List.map_nil, List.length_cons, List.length_nil, List.cons_append, List.nil_append, List.replicate, List.getElem?_cons_succ, List.getElem?_cons_zero, List.getElem?_nil, List.set_cons_succ, List.set_cons_zero, List.set_nil, List.all_nil, List.all_cons, Bool.true_and, Option.map_some, Option.map_none, if_true, if_false, decide_eq_true_eq, Bool.false_eq_true, List.take_succ_cons, List.take_zero, List.take_nil, List.drop_succ_cons, List.drop_zero, List.drop_nil, reduceIte, reduceCtorEq]
      refine ⟨os, l + 1, by rw [el], by omega, by omega, by omega, ?_⟩
      simp only [t_lawk70_2, vIsi, a1, eqv_strs, flatD, List.any_cons, List.any_nil, eqv_str, eqv_int, eqv_ti, eqv_it, eqv_st, eqv_ts, cut1, Bool.or_false, Bool.or_true, Bool.and_self, Bool.and_true, Bool.and_false, Bool.false_or, Bool.true_or, and_self, ofs_inj, ofs_app, ofs_len, String.reduceEq, String.reduceNe, String.reduceAppend, decide_true, decide_false, Bool.not_true, Bool.not_false, sz0, sz1, sz2, sz3, sz4, sz5, sz6, sz7, sz8, sz9, sz10, sz11, sz12, sz13, sz14, sz15, sz16, sz17, sz18, sz19, sz20, sz21, sz22, sz23, sz24, sz25, cpow1018, true_and, and_true, Nat.reduceAdd, Nat.reduceLT, Nat.reduceSub, Int.reduceNe, Int.reduceEq, Int.reduceLT, Int.reduceLE, Int.reduceToNat, ne_eq, not_false_eq_true, List.length_map, Nat.lt_irrefl, dV_nx, dV_rt, at0, at1, at2, at3, ix20, ix21, vSeq, vIfS, vTest, vTruth, truth, v2, v1, vN, vCons, vNil, vVar, vC, xIx, Vl.opI0, Vl.opI, pk, vSet, vAsg, xgSub, vRet, vRetN, vDrop, vBreak, vCont, asD, asDs, opMod, opDiv, opMul2, Vl.opAdd, Vl.opAddO, opSub, opPow, opLt, Vl.opLe, opGt, Vl.opGe, xEq, okEq_str, okEq_int, xIn, okIn, inD, xIsN, isNone_n, isNone_t, isNone_l, isNone_i, isNone_s, isMo, mob, pkm, gModI, gDivI, gSubI, gMulI, gPowI, gGt, gLt, gLe, gGe, vNotT, vAndT, vOrT, vAndV, vOrV, opNot, opNotG, vIfE, opTup, opLst, opLstO, Vl.opLen, Vl.opInt, opList, opListO, opTuple, opII, gMax, gMin, vM, vM0, isT, xPop, Vl.opAppend, opExtend, opJoin, vgName, vgTup, vgCons, vgNil, kOpt_some, kOpn_some, kOps_some, Vl.opSum, Vl.opInsert, Vl.opIndex, opDivmod, vSl, vPart, vNoPart, opSl, opSlO, opRev, opCallK, ownD, ownO, objs, renum, uniq, getS, putS, vCall0, vFor, vForW, En.wk, vSeqI, vTupI, vRng1, vRng2, vEnum, vZip, chkOf, vLcK, vYes, finD, finO, En.wipe, wipeE, En.trim, trimS, dropNone, clr_n, clr_v, clr_k, clr_o, wth, Vl.ret, takeS, startV,  List.map_cons, List.map_nil, List.length_cons, List.length_nil, List.cons_append, List.nil_append, List.replicate, List.getElem?_cons_succ, List.getElem?_cons_zero, List.getElem?_nil, List.set_cons_succ, List.set_cons_zero, List.set_nil, List.all_nil, List.all_cons, Bool.true_and, Option.map_some, Option.map_none, if_true, if_false, decide_eq_true_eq, Bool.false_eq_true, List.take_succ_cons, List.take_zero, List.take_nil, List.drop_succ_cons, List.drop_zero, List.drop_nil, reduceIte, reduceCtorEq]
      refine ⟨true, kit_ii, ?_⟩
      simp only [flatD, List.any_cons, List.any_nil, eqv_str, eqv_int, eqv_ti, eqv_it, eqv_st, eqv_ts, cut1, Bool.or_false, Bool.or_true, Bool.and_self, Bool.and_true, Bool.and_false, Bool.false_or, Bool.true_or, and_self, ofs_inj, ofs_app, ofs_len, String.reduceEq, String.reduceNe, String.reduceAppend, decide_true, decide_false, Bool.not_true, Bool.not_false, sz0, sz1, sz2, sz3, sz4, sz5, sz6, sz7, sz8, sz9, sz10, sz11, sz12, sz13, sz14, sz15, sz16, sz17, sz18, sz19, sz20, sz21, sz22, sz23, sz24, sz25, cpow1018, true_and, and_true, Nat.reduceAdd, Nat.reduceLT, Nat.reduceSub, Int.reduceNe, Int.reduceEq, Int.reduceLT, Int.reduceLE, Int.reduceToNat, ne_eq, not_false_eq_true, List.length_map, Nat.lt_irrefl, dV_nx, dV_rt, at0, at1, at2, at3, ix20, ix21, vSeq, vIfS, vTest, vTruth, truth, v2, v1, vN, vCons, vNil, vVar, vC, xIx, Vl.opI0, Vl.opI, pk, vSet, vAsg, xgSub, vRet, vRetN, vDrop, vBreak, vCont, asD, asDs, opMod, opDiv, opMul2, Vl.opAdd, Vl.opAddO, opSub, opPow, opLt, Vl.opLe, opGt, Vl.opGe, xEq, okEq_str, okEq_int, xIn, okIn, inD, xIsN, isNone_n, isNone_t, isNone_l, isNone_i, isNone_s, isMo, mob, pkm, gModI, gDivI, gSubI, gMulI, gPowI, gGt, gLt, gLe, gGe, vNotT, vAndT, vOrT, vAndV, vOrV, opNot, opNotG, vIfE, opTup, opLst, opLstO, Vl.opLen, Vl.opInt, opList, opListO, opTuple, opII, gMax, gMin, vM, vM0, isT, xPop, Vl.opAppend, opExtend, opJoin, vgName, vgTup, vgCons, vgNil, kOpt_some, kOpn_some, kOps_some, Vl.opSum, Vl.opInsert, Vl.opIndex, opDivmod, vSl, vPart, vNoPart, opSl, opSlO, opRev, opCallK, ownD, ownO, objs, renum, uniq, getS, putS, vCall0, vFor, vForW, En.wk, vSeqI, vTupI, vRng1, vRng2, vEnum, vZip, chkOf, vLcK, vYes, finD, finO, En.wipe, wipeE, En.trim, trimS, dropNone, clr_n, clr_v, clr_k, clr_o, wth, Vl.ret, takeS, startV,  List.map_cons, List.map_nil, List.length_cons, List.length_nil, List.cons_append, List.nil_append, List.replicate, List.getElem?_cons_succ, List.getElem?_cons_zero, List.getElem?_nil, List.set_cons_succ, List.set_cons_zero, List.set_nil, List.all_nil, List.all_cons, Bool.true_and, Option.map_some, Option.map_none, if_true, if_false, decide_eq_true_eq, Bool.false_eq_true, List.take_succ_cons, List.take_zero, List.take_nil, List.drop_succ_cons, List.drop_zero, List.drop_nil, reduceIte, reduceCtorEq]
      refine ⟨false, kit_ib, ?_⟩
      simp only [flatD, List.any_cons, List.any_nil, eqv_str, eqv_int, eqv_ti, eqv_it, eqv_st, eqv_ts, cut1, Bool.or_false, Bool.or_true, Bool.and_self, Bool.and_true, Bool.and_false, Bool.false_or, Bool.true_or, and_self, ofs_inj, ofs_app, ofs_len, String.reduceEq, String.reduceNe, String.reduceAppend, decide_true, decide_false, Bool.not_true, Bool.not_false, sz0, sz1, sz2, sz3, sz4, sz5, sz6, sz7, sz8, sz9, sz10, sz11, sz12, sz13, sz14, sz15, sz16, sz17, sz18, sz19, sz20, sz21, sz22, sz23, sz24, sz25, cpow1018, true_and, and_true, Nat.reduceAdd, Nat.reduceLT, Nat.reduceSub, Int.reduceNe, Int.reduceEq, Int.reduceLT, Int.reduceLE, Int.reduceToNat, ne_eq, not_false_eq_true, List.length_map, Nat.lt_irrefl, dV_nx, dV_rt, at0, at1, at2, at3, ix20, ix21, vSeq, vIfS, vTest, vTruth, truth, v2, v1, vN, vCons, vNil, vVar, vC, xIx, Vl.opI0, Vl.opI, pk, vSet, vAsg, xgSub, vRet, vRetN, vDrop, vBreak, vCont, asD, asDs, opMod, opDiv, opMul2, Vl.opAdd, Vl.opAddO, opSub, opPow, opLt, Vl.opLe, opGt, Vl.opGe, xEq, okEq_str, okEq_int, xIn, okIn, inD, xIsN, isNone_n, isNone_t, isNone_l, isNone_i, isNone_s, isMo, mob, pkm, gModI, gDivI, gSubI, gMulI, gPowI, gGt, gLt, gLe, gGe, vNotT, vAndT, vOrT, vAndV, vOrV, opNot, opNotG, vIfE, opTup, opLst, opLstO, Vl.opLen, Vl.opInt, opList, opListO, opTuple, opII, gMax, gMin, vM, vM0, isT, xPop, Vl.opAppend, opExtend, opJoin, vgName, vgTup, vgCons, vgNil, kOpt_some, kOpn_some, kOps_some, Vl.opSum, Vl.opInsert, Vl.opIndex, opDivmod, vSl, vPart, vNoPart, opSl, opSlO, opRev, opCallK, ownD, ownO, objs, renum, uniq, getS, putS, vCall0, vFor, vForW, En.wk, vSeqI, vTupI, vRng1, vRng2, vEnum, vZip, chkOf, vLcK, vYes, finD, finO, En.wipe, wipeE, En.trim, trimS, dropNone, clr_n, clr_v, clr_k, clr_o, wth, Vl.ret, takeS, startV,  List.map_cons, List.map_nil, List.length_cons, List.length_nil, List.cons_append, List.nil_append, List.replicate, List.getElem?_cons_succ, List.getElem?_cons_zero, List.getElem?_nil, List.set_cons_succ, List.set_cons_zero, List.set_nil, List.all_nil, List.all_cons, Bool.true_and, Option.map_some, Option.map_none, if_true, if_false, decide_eq_true_eq, Bool.false_eq_true, List.take_succ_cons, List.take_zero, List.take_nil, List.drop_succ_cons, List.drop_zero, List.drop_nil, reduceIte, reduceCtorEq]
      refine ⟨okEq_of (shp_strs hok) (shp_strs hok), ?_⟩
      exact hk2 _ 1 [5, 6, 7] (Nat.le_refl _) rfl
    · rintro e rfl
      exact hk _ 0 [1, 2, 3, 4] (Nat.zero_le _) rfl
  · rintro e rfl
    simp only [t_lawk70_9, flatD, List.any_cons, List.any_nil, eqv_str, eqv_int, eqv_ti, eqv_it, eqv_st, eqv_ts, cut1, Bool.or_false, Bool.or_true, Bool.and_self, Bool.and_true, Bool.and_false, Bool.false_or, Bool.true_or, and_self, ofs_inj, ofs_app, ofs_len, String.reduceEq, String.reduceNe, String.reduceAppend, decide_true, decide_false, Bool.not_true, Bool.not_false, sz0, sz1, sz2, sz3, sz4, sz5, sz6, sz7, sz8, sz9, sz10, sz11, sz12, sz13, sz14, sz15, sz16, sz17, sz18, sz19, sz20, sz21, sz22, sz23, sz24, sz25, cpow1018, true_and, and_true, Nat.reduceAdd, Nat.reduceLT, Nat.reduceSub, Int.reduceNe, Int.reduceEq, Int.reduceLT, Int.reduceLE, Int.reduceToNat, ne_eq, not_false_eq_true, List.length_map, Nat.lt_irrefl, dV_nx, dV_rt, at0, at1, at2, at3, ix20, ix21, vSeq, vIfS, vTest, vTruth, truth, v2, v1, vN, vCons, vNil, vVar, vC, xIx, Vl.opI0, Vl.opI, pk, vSet, vAsg, xgSub, vRet, vRetN, vDrop, vBreak, vCont, asD, asDs, opMod, opDiv, opMul2, Vl.opAdd, Vl.opAddO, opSub, opPow, opLt, Vl.opLe, opGt, Vl.opGe, xEq, okEq_str, okEq_int, xIn, okIn, inD, xIsN, isNone_n, isNone_t, isNone_l, isNone_i, isNone_s, isMo, mob, pkm, gModI, gDivI, gSubI, gMulI, gPowI, gGt, gLt, gLe, gGe, vNotT, vAndT, vOrT, vAndV, vOrV, opNot, opNotG, vIfE, opTup, opLst, opLstO, Vl.opLen, Vl.opInt, opList, opListO, opTuple, opII, gMax, gMin, vM, vM0, isT, xPop, Vl.opAppend, opExtend, opJoin, vgName, vgTup, vgCons, vgNil, kOpt_some, kOpn_some, kOps_some, Vl.opSum, Vl.opInsert, Vl.opIndex, opDivmod, vSl, vPart, vNoPart, opSl, opSlO, opRev, opCallK, ownD, ownO, objs, renum, uniq, getS, putS, vCall0, vFor, vForW, En.wk, vSeqI, vTupI, vRng1, vRng2, vEnum, vZip, chkOf, vLcK, vYes, finD, finO, En.wipe, wipeE, En.trim, trimS, dropNone, clr_n, clr_v, clr_k, clr_o, wth, Vl.ret, takeS, startV,  List.map_cons, List.map_nil, List.length_cons, List.length_nil, List.cons_append, List.nil_append, List.replicate, List.getElem?_cons_succ, List.getElem?_cons_zero, List.getElem?_nil, List.set_cons_succ, List.set_cons_zero, List.set_nil, List.all_nil, List.all_cons, Bool.true_and, Option.map_some, Option.map_none, if_true, if_false, decide_eq_true_eq, Bool.false_eq_true, List.take_succ_cons, List.take_zero, List.take_nil, List.drop_succ_cons, List.drop_zero, List.drop_nil, reduceIte, reduceCtorEq]
    exact k
end Kf
namespace Kf
open PySem L2 Vl PySem.Spec PyProof.Rows
/-! the numbers of kinds -/
theorem many_one (b : Nat) : many b 1 = b + 1 := rfl
theorem many_nth {b n i : Nat} (h0 : 1 ≤ i) (h : i ≤ n + 1) : nth (cat b n) i = many b i := by
  unfold many
  rw [nth_pre (cat_pre b (show i - 1 ≤ n from by omega)) (by rw [cat_len]; omega)]
/-- how many kinds of n leaves have a first part of at most k leaves -/
def off (b n k : Nat) : Int := ((List.range k).map fun f => 2 * many b (f + 1) * many b (n - (f + 1))).sum
theorem off_zero (b n : Nat) : off b n 0 = 0 := rfl
theorem off_succ (b n k : Nat) : off b n (k + 1) = off b n k + 2 * many b (k + 1) * many b (n - (k + 1)) := by
  unfold off
  rw [List.range_succ, List.map_append, List.sum_append_int, List.map_cons, List.map_nil, List.sum_cons, List.sum_nil, Int.add_zero]
theorem many_off {b n : Nat} (h : 2 ≤ n) : many b n = off b n (n - 1) := by
  obtain ⟨m, rfl⟩ : ∃ m, n = m + 2 := ⟨n - 2, by omega⟩
  unfold many
  rw [show m + 2 - 1 = m + 1 from by omega, cat]
  unfold nth
  rw [List.getD_eq_getElem?_getD, List.getElem?_append_right (by rw [cat_len]; omega), cat_len, Nat.sub_self]
  show rowS (cat b m) (m + 2) = _
  unfold rowS off
  congr 1
  refine List.map_congr_left fun f hf => ?_
  have hf := List.mem_range.mp hf
  rw [many_nth (by omega) (by omega), many_nth (by omega) (by omega)]
theorem many_pos (b : Nat) : ∀ n, 1 ≤ n → 1 ≤ many b n := by
  intro n
  induction n using Nat.strongRecOn with
  | ind n ih =>
    intro hn
    rcases Nat.lt_or_ge n 2 with h | h
    · obtain rfl : n = 1 := by omega
      rw [many_one]
      omega
    · rw [many_off h]
      have step : ∀ k, k ≤ n - 1 → 0 ≤ off b n k ∧ (1 ≤ k → 1 ≤ off b n k) := by
        intro k
        induction k with
        | zero => intro _; exact ⟨Int.le_refl _, fun h => by omega⟩
        | succ k ihk =>
          intro hk
          obtain ⟨h1, _⟩ := ihk (by omega)
          have a := ih (k + 1) (by omega) (by omega)
          have c := ih (n - (k + 1)) (by omega) (by omega)
          have p : 1 * 1 ≤ many b (k + 1) * many b (n - (k + 1)) := Int.mul_le_mul a c (by omega) (by omega)
          rw [off_succ, Int.mul_assoc]
          exact ⟨by omega, fun _ => by omega⟩
      exact (step (n - 1) (Nat.le_refl _)).2 (by omega)
theorem prod_pos (b : Nat) {m n : Nat} (hm : 1 ≤ m) (hn : 1 ≤ n) : 1 ≤ many b m * many b n := by
  have := Int.mul_le_mul (many_pos b m hm) (many_pos b n hn) (by omega) (by have := many_pos b m hm; omega)
  omega
theorem off_mono (b n : Nat) {k l : Nat} (h : k ≤ l) (hl : l ≤ n - 1) : off b n k ≤ off b n l := by
  induction l with
  | zero =>
    obtain rfl : k = 0 := by omega
    exact Int.le_refl _
  | succ l ih =>
    rcases Nat.lt_or_ge k (l + 1) with q | q
    · have h1 := ih (by omega) (by omega)
      have p := prod_pos b (m := l + 1) (n := n - (l + 1)) (by omega) (by omega)
      rw [off_succ, Int.mul_assoc]
      omega
    · obtain rfl : k = l + 1 := by omega
      exact Int.le_refl _
theorem off_nn (b n : Nat) {k : Nat} (h : k ≤ n - 1) : 0 ≤ off b n k := by
  have := off_mono b n (Nat.zero_le k) h
  rw [off_zero] at this
  exact this
/-- a kind's number among those with as many leaves -/
def Kd.num (ms : List Str) : Kd → Int
  | .mark m => (ms.idxOf m : Nat)
  | .one => (ms.length : Nat)
  | .to x y => off ms.length (x.leaves + y.leaves) (x.leaves - 1) + x.num ms * many ms.length y.leaves + y.num ms
  | .both x y => off ms.length (x.leaves + y.leaves) (x.leaves - 1) + many ms.length x.leaves * many ms.length y.leaves + x.num ms * many ms.length y.leaves + y.num ms
/-- what two numbers come to -/
theorem pair_lt {a b A B : Int} (a0 : 0 ≤ a) (a1 : a < A) (b0 : 0 ≤ b) (b1 : b < B) : 0 ≤ a * B + b ∧ a * B + b < A * B := by
  have h1 : 0 ≤ a * B := Int.mul_nonneg a0 (by omega)
  have h2 : (a + 1) * B ≤ A * B := Int.mul_le_mul_of_nonneg_right (by omega) (by omega)
  rw [Int.add_mul, Int.one_mul] at h2
  omega
theorem Kd.num_lt (ms : List Str) : ∀ k : Kd, k.over ms → 0 ≤ k.num ms ∧ k.num ms < many ms.length k.leaves
  | .mark m, h => by
    have : ms.idxOf m < ms.length := List.idxOf_lt_length_of_mem h
    simp only [Kd.num, Kd.leaves, many_one]
    omega
  | .one, _ => by
    simp only [Kd.num, Kd.leaves, many_one]
    omega
  | .to x y, h => by
    obtain ⟨a0, a1⟩ := x.num_lt ms h.1
    obtain ⟨b0, b1⟩ := y.num_lt ms h.2
    have px := x.leaves_pos
    have py := y.leaves_pos
    have q := pair_lt a0 a1 b0 b1
    have o1 := off_nn ms.length (x.leaves + y.leaves) (k := x.leaves - 1) (by omega)
    have o2 := off_mono ms.length (x.leaves + y.leaves) (k := x.leaves) (l := x.leaves + y.leaves - 1) (by omega) (Nat.le_refl _)
    have o3 := off_succ ms.length (x.leaves + y.leaves) (x.leaves - 1)
    rw [show x.leaves - 1 + 1 = x.leaves from by omega, show x.leaves + y.leaves - x.leaves = y.leaves from by omega, Int.mul_assoc] at o3
    simp only [Kd.num, Kd.leaves]
    rw [many_off (b := ms.length) (n := x.leaves + y.leaves) (by omega)]
    omega
  | .both x y, h => by
    obtain ⟨a0, a1⟩ := x.num_lt ms h.1
    obtain ⟨b0, b1⟩ := y.num_lt ms h.2
    have px := x.leaves_pos
    have py := y.leaves_pos
    have q := pair_lt a0 a1 b0 b1
    have o1 := off_nn ms.length (x.leaves + y.leaves) (k := x.leaves - 1) (by omega)
    have o2 := off_mono ms.length (x.leaves + y.leaves) (k := x.leaves) (l := x.leaves + y.leaves - 1) (by omega) (Nat.le_refl _)
    have o3 := off_succ ms.length (x.leaves + y.leaves) (x.leaves - 1)
    rw [show x.leaves - 1 + 1 = x.leaves from by omega, show x.leaves + y.leaves - x.leaves = y.leaves from by omega, Int.mul_assoc] at o3
    simp only [Kd.num, Kd.leaves]
    rw [many_off (b := ms.length) (n := x.leaves + y.leaves) (by omega)]
    omega
/-- a pair's number, from its first part on -/
theorem num_part {ms : List Str} {x y : Kd} (ox : x.over ms) (oy : y.over ms) : 0 ≤ x.num ms * many ms.length y.leaves + y.num ms ∧ x.num ms * many ms.length y.leaves + y.num ms < many ms.length x.leaves * many ms.length y.leaves ∧
    off ms.length (x.leaves + y.leaves) x.leaves = off ms.length (x.leaves + y.leaves) (x.leaves - 1) + 2 * (many ms.length x.leaves * many ms.length y.leaves) := by
  obtain ⟨a0, a1⟩ := x.num_lt ms ox
  obtain ⟨b0, b1⟩ := y.num_lt ms oy
  have px := x.leaves_pos
  have q := pair_lt a0 a1 b0 b1
  have o3 := off_succ ms.length (x.leaves + y.leaves) (x.leaves - 1)
  rw [show x.leaves - 1 + 1 = x.leaves from by omega, show x.leaves + y.leaves - x.leaves = y.leaves from by omega, Int.mul_assoc] at o3
  exact ⟨q.1, q.2, o3⟩
theorem pair_inj {a b a' b' B : Int} (h0 : 0 ≤ b) (h1 : b < B) (h2 : 0 ≤ b') (h3 : b' < B) (h : a * B + b = a' * B + b') : a = a' ∧ b = b' := by
  have e : a = a' := by
    rcases Int.lt_trichotomy a a' with q | q | q
    · have := Int.mul_le_mul_of_nonneg_right (show a + 1 ≤ a' from q) (show 0 ≤ B from by omega)
      rw [Int.add_mul, Int.one_mul] at this
      omega
    · exact q
    · have := Int.mul_le_mul_of_nonneg_right (show a' + 1 ≤ a from q) (show 0 ≤ B from by omega)
      rw [Int.add_mul, Int.one_mul] at this
      omega
  subst e
  exact ⟨rfl, by omega⟩
/-- one of both: which, and what they are made of -/
def Kd.mk2 (w : Bool) (x y : Kd) : Kd := if w then .both x y else .to x y
theorem Kd.num_mk2 (ms : List Str) (w : Bool) (x y : Kd) : (Kd.mk2 w x y).num ms = off ms.length (x.leaves + y.leaves) (x.leaves - 1) + (if w then many ms.length x.leaves * many ms.length y.leaves else 0) + (x.num ms * many ms.length y.leaves + y.num ms) := by
  cases w <;> simp only [Kd.mk2, Kd.num, if_true, if_false, Bool.false_eq_true] <;> omega
theorem num_inj2 {ms : List Str} {w w' : Bool} {x y x' y' : Kd} (ox : x.over ms) (oy : y.over ms) (ox' : x'.over ms) (oy' : y'.over ms) (hl : x.leaves + y.leaves = x'.leaves + y'.leaves) (hn : (Kd.mk2 w x y).num ms = (Kd.mk2 w' x' y').num ms) :
    w = w' ∧ x.leaves = x'.leaves ∧ y.leaves = y'.leaves ∧ x.num ms = x'.num ms ∧ y.num ms = y'.num ms := by
  have py := y.leaves_pos
  have py' := y'.leaves_pos
  have px := x.leaves_pos
  have px' := x'.leaves_pos
  obtain ⟨p1, p2, p3⟩ := num_part ox oy
  obtain ⟨q1, q2, q3⟩ := num_part ox' oy'
  rw [Kd.num_mk2, Kd.num_mk2] at hn
  rw [← hl] at q3 hn
  have le : x.leaves = x'.leaves := by
    rcases Nat.lt_trichotomy x.leaves x'.leaves with q | q | q
    · have := off_mono ms.length (x.leaves + y.leaves) (k := x.leaves) (l := x'.leaves - 1) (by omega) (by omega)
      cases w <;> cases w' <;> simp only [if_true, if_false, Bool.false_eq_true] at hn <;> omega
    · exact q
    · have := off_mono ms.length (x.leaves + y.leaves) (k := x'.leaves) (l := x.leaves - 1) (by omega) (by omega)
      cases w <;> cases w' <;> simp only [if_true, if_false, Bool.false_eq_true] at hn <;> omega
  have le2 : y.leaves = y'.leaves := by omega
  rw [← le, ← le2] at hn q2
  rw [← le2] at q1
  have sm : w = w' ∧ x.num ms * many ms.length y.leaves + y.num ms = x'.num ms * many ms.length y.leaves + y'.num ms := by
    cases w <;> cases w' <;> simp only [if_true, if_false, Bool.false_eq_true] at hn
    · exact ⟨rfl, by omega⟩
    · exfalso; omega
    · exfalso; omega
    · exact ⟨rfl, by omega⟩
  have b1 := y.num_lt ms oy
  have b2 := y'.num_lt ms oy'
  rw [← le2] at b2
  obtain ⟨e1, e2⟩ := pair_inj b1.1 b1.2 b2.1 b2.2 sm.2
  exact ⟨sm.1, le, le2, e1, e2⟩
theorem Kd.form : ∀ k : Kd, (∃ m, k = .mark m) ∨ k = .one ∨ ∃ w x y, k = Kd.mk2 w x y
  | .mark m => .inl ⟨m, rfl⟩
  | .one => .inr (.inl rfl)
  | .to x y => .inr (.inr ⟨false, x, y, rfl⟩)
  | .both x y => .inr (.inr ⟨true, x, y, rfl⟩)
theorem Kd.mk2_leaves (w : Bool) (x y : Kd) : (Kd.mk2 w x y).leaves = x.leaves + y.leaves := by cases w <;> rfl
theorem Kd.mk2_over {ms : List Str} {w : Bool} {x y : Kd} : (Kd.mk2 w x y).over ms ↔ x.over ms ∧ y.over ms := by cases w <;> exact Iff.rfl
theorem idx_inj {ms : List Str} {m m' : Str} (h : m ∈ ms) (h' : m' ∈ ms) (e : ms.idxOf m = ms.idxOf m') : m = m' := by
  have h1 := List.getElem_idxOf (List.idxOf_lt_length_of_mem h)
  have h2 := List.getElem_idxOf (List.idxOf_lt_length_of_mem h')
  rw [← h1, ← h2]
  congr 1
theorem Kd.num_inj {ms : List Str} : ∀ (n : Nat) (k l : Kd), k.leaves ≤ n → k.over ms → l.over ms → k.leaves = l.leaves → k.num ms = l.num ms → k = l := by
  intro n
  induction n with
  | zero =>
    intro k l h
    have := k.leaves_pos
    omega
  | succ n ih =>
    intro k l hn ok ol hl he
    rcases k.form with ⟨m, rfl⟩ | rfl | ⟨w, x, y, rfl⟩ <;> rcases l.form with ⟨m', rfl⟩ | rfl | ⟨w', x', y', rfl⟩
    · simp only [Kd.num] at he
      rw [idx_inj ok ol (by omega)]
    · have := List.idxOf_lt_length_of_mem (show m ∈ ms from ok)
      simp only [Kd.num] at he
      omega
    · have := x'.leaves_pos
      have := y'.leaves_pos
      rw [Kd.mk2_leaves] at hl
      simp only [Kd.leaves] at hl
      omega
    · have := List.idxOf_lt_length_of_mem (show m' ∈ ms from ol)
      simp only [Kd.num] at he
      omega
    · rfl
    · have := x'.leaves_pos
      have := y'.leaves_pos
      rw [Kd.mk2_leaves] at hl
      simp only [Kd.leaves] at hl
      omega
    · have := x.leaves_pos
      have := y.leaves_pos
      rw [Kd.mk2_leaves] at hl
      simp only [Kd.leaves] at hl
      omega
    · have := x.leaves_pos
      have := y.leaves_pos
      rw [Kd.mk2_leaves] at hl
      simp only [Kd.leaves] at hl
      omega
    · have := x.leaves_pos
      have := y.leaves_pos
      obtain ⟨o1, o2⟩ := Kd.mk2_over.mp ok
      obtain ⟨o3, o4⟩ := Kd.mk2_over.mp ol
      rw [Kd.mk2_leaves, Kd.mk2_leaves] at hl
      rw [Kd.mk2_leaves] at hn
      obtain ⟨e1, e2, e3, e4, e5⟩ := num_inj2 o1 o2 o3 o4 hl he
      rw [e1, ih x x' (by omega) o1 o3 e2 e4, ih y y' (by omega) o2 o4 e3 e5]
theorem many_bound {b n : Nat} (hb : b ≤ 4) (hn : n ≤ 10) : many b n < 2 ^ 60 := (cat_bound (b := (b : Nat)) (by omega) (by omega) (n := n - 1) (by omega) n).2
theorem at_many {b n i : Nat} (h0 : 1 ≤ i) (h : i ≤ n + 1) : atI ((cat b n).map PyData.int) (i : Int) = some (.int (many b i)) := by
  rw [← many_nth h0 h]
  exact at_nth (by rw [cat_len]; omega)
end Kf
namespace Kf
open PySem L2 Vl PySem.Spec PyProof.Rows
/- kindwith: kind_with -/
def t_kindwith_1 (p_kindwith : VSp) : VTS := (vRet (vIfE (vTest (v2 opLt (vVar 3) (vN opLen (vCons (vVar 0) vNil)))) (vN opTup (vCons (vC (.str "mark")) (vCons (v2 xIx (vVar 0) (vVar 3)) vNil))) (vN opTup (vCons (vC (.str "one")) vNil))))
def t_kindwith_2 (p_kindwith : VSp) : VTS := (vAug (fun a b => a + b) 4 (vC (.int 1)))
def t_kindwith_3 (p_kindwith : VSp) : VTS := vSeq (vAug (fun a b => a - b) 3 (v2 opMul2 (v2 opMul2 (vC (.int 2)) (v2 xIx (vVar 1) (vVar 4))) (v2 xIx (vVar 1) (v2 opSub (vVar 2) (vVar 4))))) (t_kindwith_2 p_kindwith)
def t_kindwith_4 (p_kindwith : VSp) : VTS := (vRet (vN opTup (vCons (vIfE (vTest (v2 (xEq false) (vVar 5) (vC (.int 0)))) (vC (.str "to")) (vC (.str "both"))) (vStar (vVar 8) vNil))))
def t_kindwith_5 (p_kindwith : VSp) : VTS := vSeq (vSet 8 (vN opTup (vCons (vN (opCallK ownD p_kindwith) (vCons (vVar 0) (vCons (vVar 1) (vCons (vVar 4) (vCons (vVar 6) vNil))))) (vCons (vN (opCallK ownD p_kindwith) (vCons (vVar 0) (vCons (vVar 1) (vCons (v2 opSub (vVar 2) (vVar 4)) (vCons (vVar 7) vNil))))) vNil)))) (t_kindwith_4 p_kindwith)
def t_kindwith_6 (p_kindwith : VSp) : VTS := vSeq (vAsg (vN opDivmod (vCons (vVar 3) (vCons (v2 xIx (vVar 1) (v2 opSub (vVar 2) (vVar 4))) vNil))) (vgTup 2 (vgCons (vgName 6) (vgCons (vgName 7) vgNil)))) (t_kindwith_5 p_kindwith)
def t_kindwith_7 (p_kindwith : VSp) : VTS := vSeq (vAsg (vN opDivmod (vCons (vVar 3) (vCons (v2 opMul2 (v2 xIx (vVar 1) (vVar 4)) (v2 xIx (vVar 1) (v2 opSub (vVar 2) (vVar 4)))) vNil))) (vgTup 2 (vgCons (vgName 5) (vgCons (vgName 3) vgNil)))) (t_kindwith_6 p_kindwith)
def t_kindwith_8 (p_kindwith : VSp) : VTS := vSeq (vWhileW (vTest (v2 opGe (vVar 3) (v2 opMul2 (v2 opMul2 (vC (.int 2)) (v2 xIx (vVar 1) (vVar 4))) (v2 xIx (vVar 1) (v2 opSub (vVar 2) (vVar 4))))))
      (t_kindwith_3 p_kindwith)) (t_kindwith_7 p_kindwith)
def t_kindwith_9 (p_kindwith : VSp) : VTS := vSeq (vSet 4 (vC (.int 1))) (t_kindwith_8 p_kindwith)
def t_kindwith_10 (p_kindwith : VSp) : VTS := vSeq (vIfS (vTest (v2 (xEq false) (vVar 2) (vC (.int 1)))) (t_kindwith_1 p_kindwith) vNext) (t_kindwith_9 p_kindwith)
def t_kindwith (p_kindwith : VSp) : VTS := (t_kindwith_10 p_kindwith)
/- kindat: kind_at -/
def t_kindat_1 (p_manyto p_kindwith : VSp) : VTS := vNever
def t_kindat_2 (p_manyto p_kindwith : VSp) : VTS := (vRet (vN (opCallK ownD p_kindwith) (vCons (vVar 0) (vCons (vVar 3) (vCons (vVar 1) (vCons (vVar 2) vNil))))))
def t_kindat_3 (p_manyto p_kindwith : VSp) : VTS := vSeq (vIfS (vOrT (vTest (v2 opLt (vVar 1) (vC (.int 1)))) (vNotT (vTest (vChain opLe opLt (vC (.int 0)) (vVar 2) (v2 xIx (vVar 3) (vVar 1)))))) (t_kindat_1 p_manyto p_kindwith) vNext) (t_kindat_2 p_manyto p_kindwith)
def t_kindat_4 (p_manyto p_kindwith : VSp) : VTS := vSeq (vSet 3 (vN (opCallK ownD p_manyto) (vCons (vVar 0) (vCons (vVar 1) vNil)))) (t_kindat_3 p_manyto p_kindwith)
def t_kindat (p_manyto p_kindwith : VSp) : VTS := (t_kindat_4 p_manyto p_kindwith)
/- numberwith: number_with -/
def t_numberwith_1 (p_numberwith : VSp) : VTS := (vRet (vN opTup (vCons (vC (.int 1)) (vCons (vN opLen (vCons (vVar 0) vNil)) vNil))))
def t_numberwith_2 (p_numberwith : VSp) : VTS := vNever
def t_numberwith_3 (p_numberwith : VSp) : VTS := (vRet (vN opTup (vCons (vC (.int 1)) (vCons (vM "list" opIndex (vVar 0) (vCons (v2 xIx (vVar 2) (vC (.int 1))) vNil)) vNil))))
def t_numberwith_4 (p_numberwith : VSp) : VTS := vSeq (vIfS (vTest (v2 (xIn true) (v2 xIx (vVar 2) (vC (.int 1))) (vVar 0))) (t_numberwith_2 p_numberwith) vNext) (t_numberwith_3 p_numberwith)
def t_numberwith_5 (p_numberwith : VSp) : VTS := (vAug (fun a b => a + b) 7 (v2 opMul2 (v2 xIx (vVar 1) (vVar 3)) (v2 xIx (vVar 1) (vVar 5))))
def t_numberwith_6 (p_numberwith : VSp) : VTS := (vRet (vN opTup (vCons (v2 opAdd (vVar 3) (vVar 5)) (vCons (v2 opAdd (v2 opAdd (vVar 7) (v2 opMul2 (vVar 4) (v2 xIx (vVar 1) (vVar 5)))) (vVar 6)) vNil))))
def t_numberwith_7 (p_numberwith : VSp) : VTS := vSeq (vIfS (vTest (v2 (xEq false) (v2 xIx (vVar 2) (vC (.int 0))) (vC (.str "both")))) (t_numberwith_5 p_numberwith) vNext) (t_numberwith_6 p_numberwith)
def t_numberwith_8 (p_numberwith : VSp) : VTS := vSeq (vSet 7 (vN opSum (vCons (vLcK (vRng2 (vCons (vC (.int 1)) (vCons (vVar 3) vNil))) (vgName 8) vYes (v2 opMul2 (v2 opMul2 (vC (.int 2)) (v2 xIx (vVar 1) (vVar 8))) (v2 xIx (vVar 1) (v2 opSub (v2 opAdd (vVar 3) (vVar 5)) (vVar 8)))) [8] finD) vNil))) (t_numberwith_7 p_numberwith)
def t_numberwith_9 (p_numberwith : VSp) : VTS := vSeq (vAsg (vN (opCallK ownD p_numberwith) (vCons (vVar 0) (vCons (vVar 1) (vCons (v2 xIx (vVar 2) (vC (.int 2))) vNil)))) (vgTup 2 (vgCons (vgName 5) (vgCons (vgName 6) vgNil)))) (t_numberwith_8 p_numberwith)
def t_numberwith_10 (p_numberwith : VSp) : VTS := vSeq (vAsg (vN (opCallK ownD p_numberwith) (vCons (vVar 0) (vCons (vVar 1) (vCons (v2 xIx (vVar 2) (vC (.int 1))) vNil)))) (vgTup 2 (vgCons (vgName 3) (vgCons (vgName 4) vgNil)))) (t_numberwith_9 p_numberwith)
def t_numberwith_11 (p_numberwith : VSp) : VTS := vSeq (vIfS (vTest (v2 (xEq false) (v2 xIx (vVar 2) (vC (.int 0))) (vC (.str "mark")))) (t_numberwith_4 p_numberwith) vNext) (t_numberwith_10 p_numberwith)
def t_numberwith_12 (p_numberwith : VSp) : VTS := vSeq (vIfS (vTest (v2 (xEq false) (v2 xIx (vVar 2) (vC (.int 0))) (vC (.str "one")))) (t_numberwith_1 p_numberwith) vNext) (t_numberwith_11 p_numberwith)
def t_numberwith (p_numberwith : VSp) : VTS := (t_numberwith_12 p_numberwith)
/- kindnumber: kind_number -/
def t_kindnumber_1 (p_leavesof p_numberwith p_manyto : VSp) : VTS := vNever
def t_kindnumber_2 (p_leavesof p_numberwith p_manyto : VSp) : VTS := (vRet (vN (opCallK ownD p_numberwith) (vCons (vVar 0) (vCons (vN (opCallK ownD p_manyto) (vCons (vVar 0) (vCons (vVar 2) vNil))) (vCons (vVar 1) vNil)))))
def t_kindnumber_3 (p_leavesof p_numberwith p_manyto : VSp) : VTS := vSeq (vIfS (vTest (v2 opGt (vVar 2) (vC (.int 10)))) (t_kindnumber_1 p_leavesof p_numberwith p_manyto) vNext) (t_kindnumber_2 p_leavesof p_numberwith p_manyto)
def t_kindnumber_4 (p_leavesof p_numberwith p_manyto : VSp) : VTS := vSeq (vSet 2 (vN (opCallK ownD p_leavesof) (vCons (vVar 1) vNil))) (t_kindnumber_3 p_leavesof p_numberwith p_manyto)
def t_kindnumber (p_leavesof p_numberwith p_manyto : VSp) : VTS := (t_kindnumber_4 p_leavesof p_numberwith p_manyto)
/- kindsin: kinds_in -/
def t_kindsin_1 : VTS := (vRet (vN opLst vNil))
def t_kindsin_2 : VTS := (vRet (vN opList (vCons (vSl opSl (vVar 0) (vPart (vC (.int 1))) vNoPart) vNil)))
def t_kindsin_3 : VTS := vSeq (vIfS (vTest (v2 (xEq false) (v2 xIx (vVar 0) (vC (.int 0))) (vC (.str "mark")))) (t_kindsin_1) vNext) (t_kindsin_2)
def t_kindsin : VTS := (t_kindsin_3)
/- leavesof: leaves_of -/
def t_leavesof_1 (p_kindsin : VSp) : VTS := (vAug (fun a b => a + b) 1 (vC (.int 1)))
def t_leavesof_2 (p_kindsin : VSp) : VTS := (vDrop (vM "list" opExtend (vVar 2) (vCons (vVar 3) vNil)))
def t_leavesof_3 (p_kindsin : VSp) : VTS := vSeq (vIfS (vNotT (vTruth (vVar 3))) (t_leavesof_1 p_kindsin) vNext) (t_leavesof_2 p_kindsin)
def t_leavesof_4 (p_kindsin : VSp) : VTS := vSeq (vSet 3 (vN (opCallK ownD p_kindsin) (vCons (vM0 "list" xPop (vVar 2)) vNil))) (t_leavesof_3 p_kindsin)
def t_leavesof_5 (p_kindsin : VSp) : VTS := (vRet (vVar 1))
def t_leavesof_6 (p_kindsin : VSp) : VTS := vSeq (vWhileW (vTruth (vVar 2))
      (t_leavesof_4 p_kindsin)) (t_leavesof_5 p_kindsin)
def t_leavesof_7 (p_kindsin : VSp) : VTS := vSeq (vSet 2 (vN opLstO (vCons (vVar 0) vNil))) (t_leavesof_6 p_kindsin)
def t_leavesof_8 (p_kindsin : VSp) : VTS := vSeq (vSet 1 (vC (.int 0))) (t_leavesof_7 p_kindsin)
def t_leavesof (p_kindsin : VSp) : VTS := (t_leavesof_8 p_kindsin)
/- Lleavesv4: _law_leaves -/
def t_Lleavesv4_1 (p_Lleavesv4 : VSp) : VTS := (vRet (vC (.int 1)))
def t_Lleavesv4_2 (p_Lleavesv4 : VSp) : VTS := (vRet (v2 opAdd (vN (opCallK ownD p_Lleavesv4) (vCons (v2 xIx (vVar 0) (vC (.int 1))) vNil)) (vN (opCallK ownD p_Lleavesv4) (vCons (v2 xIx (vVar 0) (vC (.int 2))) vNil))))
def t_Lleavesv4_3 (p_Lleavesv4 : VSp) : VTS := vSeq (vIfS (vTest (v2 opLt (vN opLen (vCons (vVar 0) vNil)) (vC (.int 3)))) (t_Lleavesv4_1 p_Lleavesv4) vNext) (t_Lleavesv4_2 p_Lleavesv4)
def t_Lleavesv4 (p_Lleavesv4 : VSp) : VTS := (t_Lleavesv4_3 p_Lleavesv4)
/- Lmarksin: _law_marks_in -/
def t_Lmarksin_1 (p_Lmarksin : VSp) : VTS := (vRet (vN opLst vNil))
def t_Lmarksin_2 (p_Lmarksin : VSp) : VTS := (vRet (vN opLst (vCons (v2 xIx (vVar 0) (vC (.int 1))) vNil)))
def t_Lmarksin_3 (p_Lmarksin : VSp) : VTS := (vRet (v2 opAdd (vN (opCallK ownD p_Lmarksin) (vCons (v2 xIx (vVar 0) (vC (.int 1))) vNil)) (vN (opCallK ownD p_Lmarksin) (vCons (v2 xIx (vVar 0) (vC (.int 2))) vNil))))
def t_Lmarksin_4 (p_Lmarksin : VSp) : VTS := vSeq (vIfS (vTest (v2 (xEq false) (v2 xIx (vVar 0) (vC (.int 0))) (vC (.str "mark")))) (t_Lmarksin_2 p_Lmarksin) vNext) (t_Lmarksin_3 p_Lmarksin)
def t_Lmarksin_5 (p_Lmarksin : VSp) : VTS := vSeq (vIfS (vTest (v2 (xEq false) (v2 xIx (vVar 0) (vC (.int 0))) (vC (.str "one")))) (t_Lmarksin_1 p_Lmarksin) vNext) (t_Lmarksin_4 p_Lmarksin)
def t_Lmarksin (p_Lmarksin : VSp) : VTS := (t_Lmarksin_5 p_Lmarksin)
/- Liskindv2: _law_is_kind -/
def t_Liskindv2_1 (p_Liskindv2 : VSp) : VTS := (vRet (vC (.bool false)))
def t_Liskindv2_2 (p_Liskindv2 : VSp) : VTS := (vRet (vAndG (v2 (xEq false) (vN opLen (vCons (vVar 0) vNil)) (vC (.int 3))) (vAndG (vN (opCallK ownD p_Liskindv2) (vCons (v2 xIx (vVar 0) (vC (.int 1))) vNil)) (vN (opCallK ownD p_Liskindv2) (vCons (v2 xIx (vVar 0) (vC (.int 2))) vNil)))))
def t_Liskindv2_3 (p_Liskindv2 : VSp) : VTS := (vRet (vAndV (v2 (xEq false) (vN opLen (vCons (vVar 0) vNil)) (vC (.int 2))) (vIsi "str" (v2 xIx (vVar 0) (vC (.int 1))))))
def t_Liskindv2_4 (p_Liskindv2 : VSp) : VTS := (vRet (v2 (xEq false) (vVar 0) (vN opTup (vCons (vC (.str "one")) vNil))))
def t_Liskindv2_5 (p_Liskindv2 : VSp) : VTS := vSeq (vIfS (vTest (v2 (xEq false) (v2 xIx (vVar 0) (vC (.int 0))) (vC (.str "mark")))) (t_Liskindv2_3 p_Liskindv2) vNext) (t_Liskindv2_4 p_Liskindv2)
def t_Liskindv2_6 (p_Liskindv2 : VSp) : VTS := vSeq (vIfS (vTest (v2 (xIn false) (v2 xIx (vVar 0) (vC (.int 0))) (vN opTup (vCons (vC (.str "to")) (vCons (vC (.str "both")) vNil))))) (t_Liskindv2_2 p_Liskindv2) vNext) (t_Liskindv2_5 p_Liskindv2)
def t_Liskindv2_7 (p_Liskindv2 : VSp) : VTS := vSeq (vIfS (vOrT (vNotT (vTest (vIsi "tuple" (vVar 0)))) (vTest (v2 (xEq false) (vN opLen (vCons (vVar 0) vNil)) (vC (.int 0))))) (t_Liskindv2_1 p_Liskindv2) vNext) (t_Liskindv2_6 p_Liskindv2)
def t_Liskindv2 (p_Liskindv2 : VSp) : VTS := (t_Liskindv2_7 p_Liskindv2)
/- Lrightv16: _law_right -/
def t_Lrightv16_1 (p_kindat p_Liskindv2 p_Lleavesv4 p_Lmarksin p_kindnumber : VSp) : VTS := (vRet (vC (.bool false)))
def t_Lrightv16_2 (p_kindat p_Liskindv2 p_Lleavesv4 p_Lmarksin p_kindnumber : VSp) : VTS := (vRet (vC (.bool false)))
def t_Lrightv16_3 (p_kindat p_Liskindv2 p_Lleavesv4 p_Lmarksin p_kindnumber : VSp) : VTS := (vRet (vAndV (v2 (xEq false) (vN (opCallK ownD p_kindnumber) (vCons (vVar 3) (vCons (vVar 4) vNil))) (vN opTup (vCons (vVar 1) (vCons (vVar 2) vNil)))) (v2 (xEq false) (vVar 3) (vVar 0))))
def t_Lrightv16_4 (p_kindat p_Liskindv2 p_Lleavesv4 p_Lmarksin p_kindnumber : VSp) : VTS := vSeq (vIfS (vTest (v2 (xEq true) (vLcK (vSeqI (vN (opCallK ownD p_Lmarksin) (vCons (vVar 4) vNil))) (vgName 5) (vTest (v2 (xIn true) (vVar 5) (vVar 0))) (vVar 5) [5] finD) (vN opLst vNil))) (t_Lrightv16_2 p_kindat p_Liskindv2 p_Lleavesv4 p_Lmarksin p_kindnumber) vNext) (t_Lrightv16_3 p_kindat p_Liskindv2 p_Lleavesv4 p_Lmarksin p_kindnumber)
def t_Lrightv16_5 (p_kindat p_Liskindv2 p_Lleavesv4 p_Lmarksin p_kindnumber : VSp) : VTS := vSeq (vIfS (vOrT (vNotT (vTruth (vN (opCallK ownD p_Liskindv2) (vCons (vVar 4) vNil)))) (vTest (v2 (xEq true) (vN (opCallK ownD p_Lleavesv4) (vCons (vVar 4) vNil)) (vVar 1)))) (t_Lrightv16_1 p_kindat p_Liskindv2 p_Lleavesv4 p_Lmarksin p_kindnumber) vNext) (t_Lrightv16_4 p_kindat p_Liskindv2 p_Lleavesv4 p_Lmarksin p_kindnumber)
def t_Lrightv16_6 (p_kindat p_Liskindv2 p_Lleavesv4 p_Lmarksin p_kindnumber : VSp) : VTS := vSeq (vSet 4 (vN (opCallK ownD p_kindat) (vCons (vVar 3) (vCons (vVar 1) (vCons (vVar 2) vNil))))) (t_Lrightv16_5 p_kindat p_Liskindv2 p_Lleavesv4 p_Lmarksin p_kindnumber)
def t_Lrightv16_7 (p_kindat p_Liskindv2 p_Lleavesv4 p_Lmarksin p_kindnumber : VSp) : VTS := vSeq (vSet 3 (vN opList (vCons (vVar 0) vNil))) (t_Lrightv16_6 p_kindat p_Liskindv2 p_Lleavesv4 p_Lmarksin p_kindnumber)
def t_Lrightv16 (p_kindat p_Liskindv2 p_Lleavesv4 p_Lmarksin p_kindnumber : VSp) : VTS := (t_Lrightv16_7 p_kindat p_Liskindv2 p_Lleavesv4 p_Lmarksin p_kindnumber)
/- lawk71: law -/
def t_lawk71_1 (p_Lpool p_Lunlike p_Lmarks p_Ltake p_kindsmany p_Lrightv16 p_kindat p_kindnumber : VSp) : VTS := (vRet (vC (.bool false)))
def t_lawk71_2 (p_Lpool p_Lunlike p_Lmarks p_Ltake p_kindsmany p_Lrightv16 p_kindat p_kindnumber : VSp) : VTS := (vIfS (vNotT (vTruth (vN (opCallK ownD p_Lrightv16) (vCons (vVar 3) (vCons (vVar 4) (vCons (vVar 7) vNil)))))) (t_lawk71_1 p_Lpool p_Lunlike p_Lmarks p_Ltake p_kindsmany p_Lrightv16 p_kindat p_kindnumber) vNext)
def t_lawk71_3 (p_Lpool p_Lunlike p_Lmarks p_Ltake p_kindsmany p_Lrightv16 p_kindat p_kindnumber : VSp) : VTS := (vRet (vC (.bool false)))
def t_lawk71_4 (p_Lpool p_Lunlike p_Lmarks p_Ltake p_kindsmany p_Lrightv16 p_kindat p_kindnumber : VSp) : VTS := (vRet (vC (.bool false)))
def t_lawk71_5 (p_Lpool p_Lunlike p_Lmarks p_Ltake p_kindsmany p_Lrightv16 p_kindat p_kindnumber : VSp) : VTS := (vIfS (vOrT (vTest (v2 (xEq true) (v2 xIx (vVar 10) (vC (.int 0))) (vVar 4))) (vTest (v2 (xEq true) (vN (opCallK ownD p_kindat) (vCons (vVar 9) (vCons (vVar 4) (vCons (v2 xIx (vVar 10) (vC (.int 1))) vNil)))) (vVar 8)))) (t_lawk71_4 p_Lpool p_Lunlike p_Lmarks p_Ltake p_kindsmany p_Lrightv16 p_kindat p_kindnumber) vNext)
def t_lawk71_6 (p_Lpool p_Lunlike p_Lmarks p_Ltake p_kindsmany p_Lrightv16 p_kindat p_kindnumber : VSp) : VTS := vSeq (vSet 10 (vN (opCallK ownD p_kindnumber) (vCons (vVar 9) (vCons (vVar 8) vNil)))) (t_lawk71_5 p_Lpool p_Lunlike p_Lmarks p_Ltake p_kindsmany p_Lrightv16 p_kindat p_kindnumber)
def t_lawk71_7 (p_Lpool p_Lunlike p_Lmarks p_Ltake p_kindsmany p_Lrightv16 p_kindat p_kindnumber : VSp) : VTS := vSeq (vSet 9 (vN (opCallK ownD p_Lunlike) (vCons (vVar 2) (vCons (vVar 3) vNil)))) (t_lawk71_6 p_Lpool p_Lunlike p_Lmarks p_Ltake p_kindsmany p_Lrightv16 p_kindat p_kindnumber)
def t_lawk71_8 (p_Lpool p_Lunlike p_Lmarks p_Ltake p_kindsmany p_Lrightv16 p_kindat p_kindnumber : VSp) : VTS := vSeq (vIfS (vAndT (vTest (v2 (xEq false) (vN (opCallK ownD p_kindat) (vCons (vVar 3) (vCons (vVar 4) (vCons (v2 opMod (v2 opAdd (vVar 6) (vC (.int 1))) (vVar 5)) vNil)))) (vVar 8))) (vTest (v2 opGt (vVar 5) (vC (.int 1))))) (t_lawk71_3 p_Lpool p_Lunlike p_Lmarks p_Ltake p_kindsmany p_Lrightv16 p_kindat p_kindnumber) vNext) (t_lawk71_7 p_Lpool p_Lunlike p_Lmarks p_Ltake p_kindsmany p_Lrightv16 p_kindat p_kindnumber)
def t_lawk71_9 (p_Lpool p_Lunlike p_Lmarks p_Ltake p_kindsmany p_Lrightv16 p_kindat p_kindnumber : VSp) : VTS := vSeq (vSet 8 (vN (opCallK ownD p_kindat) (vCons (vVar 3) (vCons (vVar 4) (vCons (vVar 6) vNil))))) (t_lawk71_8 p_Lpool p_Lunlike p_Lmarks p_Ltake p_kindsmany p_Lrightv16 p_kindat p_kindnumber)
def t_lawk71_10 (p_Lpool p_Lunlike p_Lmarks p_Ltake p_kindsmany p_Lrightv16 p_kindat p_kindnumber : VSp) : VTS := vSeq (vForW (vSeqI (vN opLst (vCons (vC (.int 0)) (vCons (v2 opSub (vVar 5) (vC (.int 1))) (vCons (vVar 6) (vCons (v2 opMod (v2 opAdd (vVar 6) (vC (.int 1))) (vVar 5)) vNil)))))) (vgName 7)
        (t_lawk71_2 p_Lpool p_Lunlike p_Lmarks p_Ltake p_kindsmany p_Lrightv16 p_kindat p_kindnumber)) (t_lawk71_9 p_Lpool p_Lunlike p_Lmarks p_Ltake p_kindsmany p_Lrightv16 p_kindat p_kindnumber)
def t_lawk71_11 (p_Lpool p_Lunlike p_Lmarks p_Ltake p_kindsmany p_Lrightv16 p_kindat p_kindnumber : VSp) : VTS := vSeq (vSet 6 (vN (opCallK ownD p_Ltake) (vCons (vVar 2) (vCons (vVar 5) vNil)))) (t_lawk71_10 p_Lpool p_Lunlike p_Lmarks p_Ltake p_kindsmany p_Lrightv16 p_kindat p_kindnumber)
def t_lawk71_12 (p_Lpool p_Lunlike p_Lmarks p_Ltake p_kindsmany p_Lrightv16 p_kindat p_kindnumber : VSp) : VTS := vSeq (vSet 5 (vN (opCallK ownD p_kindsmany) (vCons (vVar 3) (vCons (vVar 4) vNil)))) (t_lawk71_11 p_Lpool p_Lunlike p_Lmarks p_Ltake p_kindsmany p_Lrightv16 p_kindat p_kindnumber)
def t_lawk71_13 (p_Lpool p_Lunlike p_Lmarks p_Ltake p_kindsmany p_Lrightv16 p_kindat p_kindnumber : VSp) : VTS := vSeq (vSet 4 (v2 opAdd (vC (.int 1)) (vN (opCallK ownD p_Ltake) (vCons (vVar 2) (vCons (vC (.int 10)) vNil))))) (t_lawk71_12 p_Lpool p_Lunlike p_Lmarks p_Ltake p_kindsmany p_Lrightv16 p_kindat p_kindnumber)
def t_lawk71_14 (p_Lpool p_Lunlike p_Lmarks p_Ltake p_kindsmany p_Lrightv16 p_kindat p_kindnumber : VSp) : VTS := vSeq (vSet 3 (vN (opCallK ownD p_Lunlike) (vCons (vVar 2) (vCons (vN (opCallK ownD p_Lmarks) (vCons (vVar 2) vNil)) vNil)))) (t_lawk71_13 p_Lpool p_Lunlike p_Lmarks p_Ltake p_kindsmany p_Lrightv16 p_kindat p_kindnumber)
def t_lawk71_15 (p_Lpool p_Lunlike p_Lmarks p_Ltake p_kindsmany p_Lrightv16 p_kindat p_kindnumber : VSp) : VTS := vSeq (vSet 2 (vN (opCallK ownO p_Lpool) (vCons (vVar 0) (vCons (vVar 1) vNil)))) (t_lawk71_14 p_Lpool p_Lunlike p_Lmarks p_Ltake p_kindsmany p_Lrightv16 p_kindat p_kindnumber)
def t_lawk71_16 (p_Lpool p_Lunlike p_Lmarks p_Ltake p_kindsmany p_Lrightv16 p_kindat p_kindnumber : VSp) : VTS := (vRet (vC (.bool true)))
def t_lawk71_17 (p_Lpool p_Lunlike p_Lmarks p_Ltake p_kindsmany p_Lrightv16 p_kindat p_kindnumber : VSp) : VTS := vSeq (vForW (vRng1 (vCons (vN (opII gMax) (vCons (vC (.int 1)) (vCons (vN (opII gMin) (vCons (vN opLen (vCons (vVar 0) vNil)) (vCons (vC (.int 12)) vNil))) vNil))) vNil)) (vgName 1)
      (t_lawk71_15 p_Lpool p_Lunlike p_Lmarks p_Ltake p_kindsmany p_Lrightv16 p_kindat p_kindnumber)) (t_lawk71_16 p_Lpool p_Lunlike p_Lmarks p_Ltake p_kindsmany p_Lrightv16 p_kindat p_kindnumber)
def t_lawk71 (p_Lpool p_Lunlike p_Lmarks p_Ltake p_kindsmany p_Lrightv16 p_kindat p_kindnumber : VSp) : VTS := (t_lawk71_17 p_Lpool p_Lunlike p_Lmarks p_Ltake p_kindsmany p_Lrightv16 p_kindat p_kindnumber)
end Kf
namespace Kf
open PySem L2 Vl PySem.Spec PyProof.Rows
theorem idx_at {α : Type} [BEq α] [LawfulBEq α] : ∀ {xs : List α} {i : Nat} {x : α}, xs.Nodup → xs[i]? = some x → xs.idxOf x = i
  | [], _, _, _, h => by simp at h
  | y :: xs, 0, x, _, h => by
    simp at h
    subst h
    simp
  | y :: xs, i + 1, x, nd, h => by
    have h' : xs[i]? = some x := by simpa using h
    obtain ⟨n1, n2⟩ := List.nodup_cons.mp nd
    have ne : (y == x) = false := beq_eq_false_iff_ne.mpr fun e => n1 (e ▸ List.mem_of_getElem? h')
    rw [List.idxOf_cons, ne]
    simp [idx_at n2 h']
def pKindWith (N : Nat) : VSp := fun ss st Kp => ∃ (ms : List Str) (q n : Nat) (r : Int), ss = [.val (.list (ms.map .str)), .val (.list ((cat ms.length q).map .int)), .val (.int (n : Nat)), .val (.int r)] ∧ st = [] ∧ ms.length ≤ 4 ∧ ms.Nodup ∧ q ≤ 9 ∧ 1 ≤ n ∧ n ≤ q + 1 ∧ n ≤ N ∧ 0 ≤ r ∧ r < many ms.length n ∧
  ∀ k : Kd, k.over ms → k.leaves = n → k.num ms = r → Kp (.val k.enc) []
theorem r_kindwith {N : Nat} {ss cs Kp} (h : pKindWith (N + 1) ss cs Kp) : t_kindwith (pKindWith N) (dV cs.length Kp) ⟨startV 9 ss, cs.map some⟩ := by
  obtain ⟨ms, q, n, r, rfl, rfl, hm, nd, hq, n1, nq, nN, r0, r1, k⟩ := h
  simp only [t_kindwith, t_kindwith_10, flatD, List.any_cons, List.any_nil, eqv_str, eqv_int, eqv_ti, eqv_it, eqv_st, eqv_ts, cut1, Bool.or_false, Bool.or_true, Bool.and_self, Bool.and_true, Bool.and_false, Bool.false_or, Bool.true_or, and_self, ofs_inj, ofs_app, ofs_len, String.reduceEq, String.reduceNe, String.reduceAppend, decide_true, decide_false, Bool.not_true, Bool.not_false, sz0, sz1, sz2, sz3, sz4, sz5, sz6, sz7, sz8, sz9, sz10, sz11, sz12, sz13, sz14, sz15, sz16, sz17, sz18, sz19, sz20, sz21, sz22, sz23, sz24, sz25, cpow1018, true_and, and_true, Nat.reduceAdd, Nat.reduceLT, Nat.reduceSub, Int.reduceNe, Int.reduceEq, Int.reduceLT, Int.reduceLE, Int.reduceToNat, ne_eq, not_false_eq_true, List.length_map, Nat.lt_irrefl, dV_nx, dV_rt, at0, at1, at2, at3, ix20, ix21, vSeq, vIfS, vTest, vTruth, truth, v2, v1, vN, vCons, vNil, vStar, vVar, vC, xIx, Vl.opI0, Vl.opI, pk, vSet, vAug, vAsg, xgSub, vRet, vRetN, vDrop, vBreak, vCont, asD, asDs, opMod, opDiv, opMul2, Vl.opAdd, Vl.opAddO, opSub, opPow, opLt, Vl.opLe, opGt, Vl.opGe, xEq, okEq_str, okEq_int, xIn, okIn, inD, xIsN, isNone_n, isNone_t, isNone_l, isNone_i, isNone_s, isMo, mob, pkm, gModI, gDivI, gSubI, gMulI, gPowI, gGt, gLt, gLe, gGe, vNotT, vAndT, vOrT, vAndV, vOrV, opNot, opNotG, vIfE, opTup, opLst, opLstO, Vl.opLen, Vl.opInt, opList, opListO, opTuple, opII, gMax, gMin, vM, vM0, isT, xPop, Vl.opAppend, opExtend, opJoin, vgName, vgTup, vgCons, vgNil, kOpt_some, kOpn_some, kOps_some, Vl.opSum, Vl.opInsert, Vl.opIndex, opDivmod, vSl, vPart, vNoPart, opSl, opSlO, opRev, opCallK, ownD, ownO, objs, renum, uniq, getS, putS, vCall0, vFor, vForW, En.wk, vSeqI, vTupI, vRng1, vRng2, vEnum, vZip, chkOf, vLcK, vYes, finD, finO, En.wipe, wipeE, En.trim, trimS, dropNone, clr_n, clr_v, clr_k, clr_o, wth, Vl.ret, takeS, startV,  List.map_cons, List.map_nil, List.length_cons, List.length_nil, List.cons_append, List.nil_append, List.replicate, List.getElem?_cons_succ, List.getElem?_cons_zero, List.getElem?_nil, List.set_cons_succ, List.set_cons_zero, List.set_nil, List.all_nil, List.all_cons, Bool.true_and, Option.map_some, Option.map_none, if_true, if_false, decide_eq_true_eq, Bool.false_eq_true, List.take_succ_cons, List.take_zero, List.take_nil, List.drop_succ_cons, List.drop_zero, List.drop_nil, reduceIte, reduceCtorEq]
  split
  · rename_i e
    have e : n = 1 := by omega
    subst e
    rw [many_one] at r1
    simp only [t_kindwith_1, flatD, List.any_cons, List.any_nil, eqv_str, eqv_int, eqv_ti, eqv_it, eqv_st, eqv_ts, cut1, Bool.or_false, Bool.or_true, Bool.and_self, Bool.and_true, Bool.and_false, Bool.false_or, Bool.true_or, and_self, ofs_inj, ofs_app, ofs_len, String.reduceEq, String.reduceNe, String.reduceAppend, decide_true, decide_false, Bool.not_true, Bool.not_false, sz0, sz1, sz2, sz3, sz4, sz5, sz6, sz7, sz8, sz9, sz10, sz11, sz12, sz13, sz14, sz15, sz16, sz17, sz18, sz19, sz20, sz21, sz22, sz23, sz24, sz25, cpow1018, true_and, and_true, Nat.reduceAdd, Nat.reduceLT, Nat.reduceSub, Int.reduceNe, Int.reduceEq, Int.reduceLT, Int.reduceLE, Int.reduceToNat, ne_eq, not_false_eq_true, List.length_map, Nat.lt_irrefl, dV_nx, dV_rt, at0, at1, at2, at3, ix20, ix21, vSeq, vIfS, vTest, vTruth, truth, v2, v1, vN, vCons, vNil, vStar, vVar, vC, xIx, Vl.opI0, Vl.opI, pk, vSet, vAug, vAsg, xgSub, vRet, vRetN, vDrop, vBreak, vCont, asD, asDs, opMod, opDiv, opMul2, Vl.opAdd, Vl.opAddO, opSub, opPow, opLt, Vl.opLe, opGt, Vl.opGe, xEq, okEq_str, okEq_int, xIn, okIn, inD, xIsN, isNone_n, isNone_t, isNone_l, isNone_i, isNone_s, isMo, mob, pkm, gModI, gDivI, gSubI, gMulI, gPowI, gGt, gLt, gLe, gGe, vNotT, vAndT, vOrT, vAndV, vOrV, opNot, opNotG, vIfE, opTup, opLst, opLstO, Vl.opLen, Vl.opInt, opList, opListO, opTuple, opII, gMax, gMin, vM, vM0, isT, xPop, Vl.opAppend, opExtend, opJoin, vgName, vgTup, vgCons, vgNil, kOpt_some, kOpn_some, kOps_some, Vl.opSum, Vl.opInsert, Vl.opIndex, opDivmod, vSl, vPart, vNoPart, opSl, opSlO, opRev, opCallK, ownD, ownO, objs, renum, uniq, getS, putS, vCall0, vFor, vForW, En.wk, vSeqI, vTupI, vRng1, vRng2, vEnum, vZip, chkOf, vLcK, vYes, finD, finO, En.wipe, wipeE, En.trim, trimS, dropNone, clr_n, clr_v, clr_k, clr_o, wth, Vl.ret, takeS, startV,  List.map_cons, List.map_nil, List.length_cons, List.length_nil, List.cons_append, List.nil_append, List.replicate, List.getElem?_cons_succ, List.getElem?_cons_zero, List.getElem?_nil, List.set_cons_succ, List.set_cons_zero, List.set_nil, List.all_nil, List.all_cons, Bool.true_and, Option.map_some, Option.map_none, if_true, if_false, decide_eq_true_eq, Bool.false_eq_true, List.take_succ_cons, List.take_zero, List.take_nil, List.drop_succ_cons, List.drop_zero, List.drop_nil, reduceIte, reduceCtorEq]
    split
    · rename_i hr
      have hj : r.toNat < ms.length := by omega
      have a1 : atI (ms.map PyData.str) r = some (.str ms[r.toNat]) := by
        obtain ⟨j, rfl⟩ : ∃ j : Nat, r = j := ⟨r.toNat, by omega⟩
        have hj' : j < ms.length := by omega
        exact atI_nat (by rw [List.getElem?_map, List.getElem?_eq_getElem hj'] <;> rfl)
      simp only [a1, flatD, List.any_cons, List.any_nil, eqv_str, eqv_int, eqv_ti, eqv_it, eqv_st, eqv_ts, cut1, Bool.or_false, Bool.or_true, Bool.and_self, Bool.and_true, Bool.and_false, Bool.false_or, Bool.true_or, and_self, ofs_inj, ofs_app, ofs_len, String.reduceEq, String.reduceNe, String.reduceAppend, decide_true, decide_false, Bool.not_true, Bool.not_false, sz0, sz1, sz2, sz3, sz4, sz5, sz6, sz7, sz8, sz9, sz10, sz11, sz12, sz13, sz14, sz15, sz16, sz17, sz18, sz19, sz20, sz21, sz22, sz23, sz24, sz25, cpow1018, true_and, and_true, Nat.reduceAdd, Nat.reduceLT, Nat.reduceSub, Int.reduceNe, Int.reduceEq, Int.reduceLT, Int.reduceLE, Int.reduceToNat, ne_eq, not_false_eq_true, List.length_map, Nat.lt_irrefl, dV_nx, dV_rt, at0, at1, at2, at3, ix20, ix21, vSeq, vIfS, vTest, vTruth, truth, v2, v1, vN, vCons, vNil, vStar, vVar, vC, xIx, Vl.opI0, Vl.opI, pk, vSet, vAug, vAsg, xgSub, vRet, vRetN, vDrop, vBreak, vCont, asD, asDs, opMod, opDiv, opMul2, Vl.opAdd, Vl.opAddO, opSub, opPow, opLt, Vl.opLe, opGt, Vl.opGe, xEq, okEq_str, okEq_int, xIn, okIn, inD, xIsN, isNone_n, isNone_t, isNone_l, isNone_i, isNone_s, isMo, mob, pkm, gModI, gDivI, gSubI, gMulI, gPowI, gGt, gLt, gLe, gGe, vNotT, vAndT, vOrT, vAndV, vOrV, opNot, opNotG, vIfE, opTup, opLst, opLstO, Vl.opLen, Vl.opInt, opList, opListO, opTuple, opII, gMax, gMin, vM, vM0, isT, xPop, Vl.opAppend, opExtend, opJoin, vgName, vgTup, vgCons, vgNil, kOpt_some, kOpn_some, kOps_some, Vl.opSum, Vl.opInsert, Vl.opIndex, opDivmod, vSl, vPart, vNoPart, opSl, opSlO, opRev, opCallK, ownD, ownO, objs, renum, uniq, getS, putS, vCall0, vFor, vForW, En.wk, vSeqI, vTupI, vRng1, vRng2, vEnum, vZip, chkOf, vLcK, vYes, finD, finO, En.wipe, wipeE, En.trim, trimS, dropNone, clr_n, clr_v, clr_k, clr_o, wth, Vl.ret, takeS, startV,  List.map_cons, List.map_nil, List.length_cons, List.length_nil, List.cons_append, List.nil_append, List.replicate, List.getElem?_cons_succ, List.getElem?_cons_zero, List.getElem?_nil, List.set_cons_succ, List.set_cons_zero, List.set_nil, List.all_nil, List.all_cons, Bool.true_and, Option.map_some, Option.map_none, if_true, if_false, decide_eq_true_eq, Bool.false_eq_true, List.take_succ_cons, List.take_zero, List.take_nil, List.drop_succ_cons, List.drop_zero, List.drop_nil, reduceIte, reduceCtorEq]
      refine k (.mark ms[r.toNat]) (List.getElem_mem hj) rfl ?_
      have := idx_at nd (List.getElem?_eq_getElem hj)
      simp only [Kd.num, this]
      omega
    · exact k .one trivial rfl (by simp only [Kd.num]; omega)
  · rename_i e
    have n2 : 2 ≤ n := by omega
    simp only [t_kindwith_9, flatD, List.any_cons, List.any_nil, eqv_str, eqv_int, eqv_ti, eqv_it, eqv_st, eqv_ts, cut1, Bool.or_false, Bool.or_true, Bool.and_self, Bool.and_true, Bool.and_false, Bool.false_or, Bool.true_or, and_self, ofs_inj, ofs_app, ofs_len, String.reduceEq, String.reduceNe, String.reduceAppend, decide_true, decide_false, Bool.not_true, Bool.not_false, sz0, sz1, sz2, sz3, sz4, sz5, sz6, sz7, sz8, sz9, sz10, sz11, sz12, sz13, sz14, sz15, sz16, sz17, sz18, sz19, sz20, sz21, sz22, sz23, sz24, sz25, cpow1018, true_and, and_true, Nat.reduceAdd, Nat.reduceLT, Nat.reduceSub, Int.reduceNe, Int.reduceEq, Int.reduceLT, Int.reduceLE, Int.reduceToNat, ne_eq, not_false_eq_true, List.length_map, Nat.lt_irrefl, dV_nx, dV_rt, at0, at1, at2, at3, ix20, ix21, vSeq, vIfS, vTest, vTruth, truth, v2, v1, vN, vCons, vNil, vStar, vVar, vC, xIx, Vl.opI0, Vl.opI, pk, vSet, vAug, vAsg, xgSub, vRet, vRetN, vDrop, vBreak, vCont, asD, asDs, opMod, opDiv, opMul2, Vl.opAdd, Vl.opAddO, opSub, opPow, opLt, Vl.opLe, opGt, Vl.opGe, xEq, okEq_str, okEq_int, xIn, okIn, inD, xIsN, isNone_n, isNone_t, isNone_l, isNone_i, isNone_s, isMo, mob, pkm, gModI, gDivI, gSubI, gMulI, gPowI, gGt, gLt, gLe, gGe, vNotT, vAndT, vOrT, vAndV, vOrV, opNot, opNotG, vIfE, opTup, opLst, opLstO, Vl.opLen, Vl.opInt, opList, opListO, opTuple, opII, gMax, gMin, vM, vM0, isT, xPop, Vl.opAppend, opExtend, opJoin, vgName, vgTup, vgCons, vgNil, kOpt_some, kOpn_some, kOps_some, Vl.opSum, Vl.opInsert, Vl.opIndex, opDivmod, vSl, vPart, vNoPart, opSl, opSlO, opRev, opCallK, ownD, ownO, objs, renum, uniq, getS, putS, vCall0, vFor, vForW, En.wk, vSeqI, vTupI, vRng1, vRng2, vEnum, vZip, chkOf, vLcK, vYes, finD, finO, En.wipe, wipeE, En.trim, trimS, dropNone, clr_n, clr_v, clr_k, clr_o, wth, Vl.ret, takeS, startV,  List.map_cons, List.map_nil, List.length_cons, List.length_nil, List.cons_append, List.nil_append, List.replicate, List.getElem?_cons_succ, List.getElem?_cons_zero, List.getElem?_nil, List.set_cons_succ, List.set_cons_zero, List.set_nil, List.all_nil, List.all_cons, Bool.true_and, Option.map_some, Option.map_none, if_true, if_false, decide_eq_true_eq, Bool.false_eq_true, List.take_succ_cons, List.take_zero, List.take_nil, List.drop_succ_cons, List.drop_zero, List.drop_nil, reduceIte, reduceCtorEq]
    simp only [t_kindwith_8, flatD, List.any_cons, List.any_nil, eqv_str, eqv_int, eqv_ti, eqv_it, eqv_st, eqv_ts, cut1, Bool.or_false, Bool.or_true, Bool.and_self, Bool.and_true, Bool.and_false, Bool.false_or, Bool.true_or, and_self, ofs_inj, ofs_app, ofs_len, String.reduceEq, String.reduceNe, String.reduceAppend, decide_true, decide_false, Bool.not_true, Bool.not_false, sz0, sz1, sz2, sz3, sz4, sz5, sz6, sz7, sz8, sz9, sz10, sz11, sz12, sz13, sz14, sz15, sz16, sz17, sz18, sz19, sz20, sz21, sz22, sz23, sz24, sz25, cpow1018, true_and, and_true, Nat.reduceAdd, Nat.reduceLT, Nat.reduceSub, Int.reduceNe, Int.reduceEq, Int.reduceLT, Int.reduceLE, Int.reduceToNat, ne_eq, not_false_eq_true, List.length_map, Nat.lt_irrefl, dV_nx, dV_rt, at0, at1, at2, at3, ix20, ix21, vSeq, vIfS, vTest, vTruth, truth, v2, v1, vN, vCons, vNil, vStar, vVar, vC, xIx, Vl.opI0, Vl.opI, pk, vSet, vAug, vAsg, xgSub, vRet, vRetN, vDrop, vBreak, vCont, asD, asDs, opMod, opDiv, opMul2, Vl.opAdd, Vl.opAddO, opSub, opPow, opLt, Vl.opLe, opGt, Vl.opGe, xEq, okEq_str, okEq_int, xIn, okIn, inD, xIsN, isNone_n, isNone_t, isNone_l, isNone_i, isNone_s, isMo, mob, pkm, gModI, gDivI, gSubI, gMulI, gPowI, gGt, gLt, gLe, gGe, vNotT, vAndT, vOrT, vAndV, vOrV, opNot, opNotG, vIfE, opTup, opLst, opLstO, Vl.opLen, Vl.opInt, opList, opListO, opTuple, opII, gMax, gMin, vM, vM0, isT, xPop, Vl.opAppend, opExtend, opJoin, vgName, vgTup, vgCons, vgNil, kOpt_some, kOpn_some, kOps_some, Vl.opSum, Vl.opInsert, Vl.opIndex, opDivmod, vSl, vPart, vNoPart, opSl, opSlO, opRev, opCallK, ownD, ownO, objs, renum, uniq, getS, putS, vCall0, vFor, vForW, En.wk, vSeqI, vTupI, vRng1, vRng2, vEnum, vZip, chkOf, vLcK, vYes, finD, finO, En.wipe, wipeE, En.trim, trimS, dropNone, clr_n, clr_v, clr_k, clr_o, wth, Vl.ret, takeS, startV,  List.map_cons, List.map_nil, List.length_cons, List.length_nil, List.cons_append, List.nil_append, List.replicate, List.getElem?_cons_succ, List.getElem?_cons_zero, List.getElem?_nil, List.set_cons_succ, List.set_cons_zero, List.set_nil, List.all_nil, List.all_cons, Bool.true_and, Option.map_some, Option.map_none, if_true, if_false, decide_eq_true_eq, Bool.false_eq_true, List.take_succ_cons, List.take_zero, List.take_nil, List.drop_succ_cons, List.drop_zero, List.drop_nil, reduceIte, reduceCtorEq]
    have nb : many ms.length n < 2 ^ 60 := many_bound hm (by omega)
    -- the loop: so many leaves ahead
    refine while_invW (fun m e => ∃ a : Nat, m = n - a ∧ a + 2 ≤ n ∧ off ms.length n a ≤ r ∧ e = ⟨[some (.val (.list (ms.map .str))), some (.val (.list ((cat ms.length q).map .int))), some (.val (.int (n : Nat))), some (.val (.int (r - off ms.length n a))), some (.val (.int (1 + (a : Nat)))), none, none, none, none], []⟩) ?_ (m := n - 0) ⟨0, rfl, by omega, by rw [off_zero]; omega, by rw [off_zero, Int.sub_zero]; rfl⟩
    rintro m e Nx ⟨a, rfl, ha, ho, rfl⟩ hk
    have a1 : atI ((cat ms.length q).map PyData.int) (1 + (a : Nat)) = some (.int (many ms.length (a + 1))) := by
      rw [show (1 + (a : Nat) : Int) = ((a + 1 : Nat) : Int) from by omega]
      exact at_many (by omega) (by omega)
    have a2 : atI ((cat ms.length q).map PyData.int) ((n : Nat) - (1 + (a : Nat))) = some (.int (many ms.length (n - (a + 1)))) := by
      rw [show ((n : Nat) - (1 + (a : Nat)) : Int) = ((n - (a + 1) : Nat) : Int) from by omega]
      exact at_many (by omega) (by omega)
    have b1 := many_bound (b := ms.length) (n := a + 1) hm (by omega)
    have b2 := many_bound (b := ms.length) (n := n - (a + 1)) hm (by omega)
    have p1 := many_pos ms.length (a + 1) (by omega)
    have p2 := many_pos ms.length (n - (a + 1)) (by omega)
    have os := off_succ ms.length n a
    simp only [a1, a2, flatD, List.any_cons, List.any_nil, eqv_str, eqv_int, eqv_ti, eqv_it, eqv_st, eqv_ts, cut1, Bool.or_false, Bool.or_true, Bool.and_self, Bool.and_true, Bool.and_false, Bool.false_or, Bool.true_or, and_self, ofs_inj, ofs_app, ofs_len, String.reduceEq, String.reduceNe, String.reduceAppend, decide_true, decide_false, Bool.not_true, Bool.not_false, sz0, sz1, sz2, sz3, sz4, sz5, sz6, sz7, sz8, sz9, sz10, sz11, sz12, sz13, sz14, sz15, sz16, sz17, sz18, sz19, sz20, sz21, sz22, sz23, sz24, sz25, cpow1018, true_and, and_true, Nat.reduceAdd, Nat.reduceLT, Nat.reduceSub, Int.reduceNe, Int.reduceEq, Int.reduceLT, Int.reduceLE, Int.reduceToNat, ne_eq, not_false_eq_true, List.length_map, Nat.lt_irrefl, dV_nx, dV_rt, at0, at1, at2, at3, ix20, ix21, vSeq, vIfS, vTest, vTruth, truth, v2, v1, vN, vCons, vNil, vStar, vVar, vC, xIx, Vl.opI0, Vl.opI, pk, vSet, vAug, vAsg, xgSub, vRet, vRetN, vDrop, vBreak, vCont, asD, asDs, opMod, opDiv, opMul2, Vl.opAdd, Vl.opAddO, opSub, opPow, opLt, Vl.opLe, opGt, Vl.opGe, xEq, okEq_str, okEq_int, xIn, okIn, inD, xIsN, isNone_n, isNone_t, isNone_l, isNone_i, isNone_s, isMo, mob, pkm, gModI, gDivI, gSubI, gMulI, gPowI, gGt, gLt, gLe, gGe, vNotT, vAndT, vOrT, vAndV, vOrV, opNot, opNotG, vIfE, opTup, opLst, opLstO, Vl.opLen, Vl.opInt, opList, opListO, opTuple, opII, gMax, gMin, vM, vM0, isT, xPop, Vl.opAppend, opExtend, opJoin, vgName, vgTup, vgCons, vgNil, kOpt_some, kOpn_some, kOps_some, Vl.opSum, Vl.opInsert, Vl.opIndex, opDivmod, vSl, vPart, vNoPart, opSl, opSlO, opRev, opCallK, ownD, ownO, objs, renum, uniq, getS, putS, vCall0, vFor, vForW, En.wk, vSeqI, vTupI, vRng1, vRng2, vEnum, vZip, chkOf, vLcK, vYes, finD, finO, En.wipe, wipeE, En.trim, trimS, dropNone, clr_n, clr_v, clr_k, clr_o, wth, Vl.ret, takeS, startV,  List.map_cons, List.map_nil, List.length_cons, List.length_nil, List.cons_append, List.nil_append, List.replicate, List.getElem?_cons_succ, List.getElem?_cons_zero, List.getElem?_nil, List.set_cons_succ, List.set_cons_zero, List.set_nil, List.all_nil, List.all_cons, Bool.true_and, Option.map_some, Option.map_none, if_true, if_false, decide_eq_true_eq, Bool.false_eq_true, List.take_succ_cons, List.take_zero, List.take_nil, List.drop_succ_cons, List.drop_zero, List.drop_nil, reduceIte, reduceCtorEq]
    refine ⟨by unfold CMul; omega, by unfold CMul; omega, ?_⟩
    split
    · rename_i hle
      have ha3 : a + 3 ≤ n := by
        rcases Nat.lt_or_ge (a + 2) n with z | z
        · exact z
        · exfalso
          have : off ms.length n (n - 1) = off ms.length n (a + 1) := by rw [show n - 1 = a + 1 from by omega]
          rw [many_off n2, this] at r1
          omega
      simp only [t_kindwith_3, a1, a2, flatD, List.any_cons, List.any_nil, eqv_str, eqv_int, eqv_ti, eqv_it, eqv_st, eqv_ts, cut1, Bool.or_false, Bool.or_true, Bool.and_self, Bool.and_true, Bool.and_false, Bool.false_or, Bool.true_or, and_self, ofs_inj, ofs_app, ofs_len, String.reduceEq, String.reduceNe, String.reduceAppend, decide_true, decide_false, Bool.not_true, Bool.not_false, sz0, sz1, sz2, sz3, sz4, sz5, sz6, sz7, sz8, sz9, sz10, sz11, sz12, sz13, sz14, sz15, sz16, sz17, sz18, sz19, sz20, sz21, sz22, sz23, sz24, sz25, cpow1018, true_and, and_true, Nat.reduceAdd, Nat.reduceLT, Nat.reduceSub, Int.reduceNe, Int.reduceEq, Int.reduceLT, Int.reduceLE, Int.reduceToNat, ne_eq, not_false_eq_true, List.length_map, Nat.lt_irrefl, dV_nx, dV_rt, at0, at1, at2, at3, ix20, ix21, vSeq, vIfS, vTest, vTruth, truth, v2, v1, vN, vCons, vNil, vStar, vVar, vC, xIx, Vl.opI0, Vl.opI, pk, vSet, vAug, vAsg, xgSub, vRet, vRetN, vDrop, vBreak, vCont, asD, asDs, opMod, opDiv, opMul2, Vl.opAdd, Vl.opAddO, opSub, opPow, opLt, Vl.opLe, opGt, Vl.opGe, xEq, okEq_str, okEq_int, xIn, okIn, inD, xIsN, isNone_n, isNone_t, isNone_l, isNone_i, isNone_s, isMo, mob, pkm, gModI, gDivI, gSubI, gMulI, gPowI, gGt, gLt, gLe, gGe, vNotT, vAndT, vOrT, vAndV, vOrV, opNot, opNotG, vIfE, opTup, opLst, opLstO, Vl.opLen, Vl.opInt, opList, opListO, opTuple, opII, gMax, gMin, vM, vM0, isT, xPop, Vl.opAppend, opExtend, opJoin, vgName, vgTup, vgCons, vgNil, kOpt_some, kOpn_some, kOps_some, Vl.opSum, Vl.opInsert, Vl.opIndex, opDivmod, vSl, vPart, vNoPart, opSl, opSlO, opRev, opCallK, ownD, ownO, objs, renum, uniq, getS, putS, vCall0, vFor, vForW, En.wk, vSeqI, vTupI, vRng1, vRng2, vEnum, vZip, chkOf, vLcK, vYes, finD, finO, En.wipe, wipeE, En.trim, trimS, dropNone, clr_n, clr_v, clr_k, clr_o, wth, Vl.ret, takeS, startV,  List.map_cons, List.map_nil, List.length_cons, List.length_nil, List.cons_append, List.nil_append, List.replicate, List.getElem?_cons_succ, List.getElem?_cons_zero, List.getElem?_nil, List.set_cons_succ, List.set_cons_zero, List.set_nil, List.all_nil, List.all_cons, Bool.true_and, Option.map_some, Option.map_none, if_true, if_false, decide_eq_true_eq, Bool.false_eq_true, List.take_succ_cons, List.take_zero, List.take_nil, List.drop_succ_cons, List.drop_zero, List.drop_nil, reduceIte, reduceCtorEq]
      refine ⟨by unfold CMul; omega, by unfold CMul; omega, ?_⟩
      simp only [t_kindwith_2, flatD, List.any_cons, List.any_nil, eqv_str, eqv_int, eqv_ti, eqv_it, eqv_st, eqv_ts, cut1, Bool.or_false, Bool.or_true, Bool.and_self, Bool.and_true, Bool.and_false, Bool.false_or, Bool.true_or, and_self, ofs_inj, ofs_app, ofs_len, String.reduceEq, String.reduceNe, String.reduceAppend, decide_true, decide_false, Bool.not_true, Bool.not_false, sz0, sz1, sz2, sz3, sz4, sz5, sz6, sz7, sz8, sz9, sz10, sz11, sz12, sz13, sz14, sz15, sz16, sz17, sz18, sz19, sz20, sz21, sz22, sz23, sz24, sz25, cpow1018, true_and, and_true, Nat.reduceAdd, Nat.reduceLT, Nat.reduceSub, Int.reduceNe, Int.reduceEq, Int.reduceLT, Int.reduceLE, Int.reduceToNat, ne_eq, not_false_eq_true, List.length_map, Nat.lt_irrefl, dV_nx, dV_rt, at0, at1, at2, at3, ix20, ix21, vSeq, vIfS, vTest, vTruth, truth, v2, v1, vN, vCons, vNil, vStar, vVar, vC, xIx, Vl.opI0, Vl.opI, pk, vSet, vAug, vAsg, xgSub, vRet, vRetN, vDrop, vBreak, vCont, asD, asDs, opMod, opDiv, opMul2, Vl.opAdd, Vl.opAddO, opSub, opPow, opLt, Vl.opLe, opGt, Vl.opGe, xEq, okEq_str, okEq_int, xIn, okIn, inD, xIsN, isNone_n, isNone_t, isNone_l, isNone_i, isNone_s, isMo, mob, pkm, gModI, gDivI, gSubI, gMulI, gPowI, gGt, gLt, gLe, gGe, vNotT, vAndT, vOrT, vAndV, vOrV, opNot, opNotG, vIfE, opTup, opLst, opLstO, Vl.opLen, Vl.opInt, opList, opListO, opTuple, opII, gMax, gMin, vM, vM0, isT, xPop, Vl.opAppend, opExtend, opJoin, vgName, vgTup, vgCons, vgNil, kOpt_some, kOpn_some, kOps_some, Vl.opSum, Vl.opInsert, Vl.opIndex, opDivmod, vSl, vPart, vNoPart, opSl, opSlO, opRev, opCallK, ownD, ownO, objs, renum, uniq, getS, putS, vCall0, vFor, vForW, En.wk, vSeqI, vTupI, vRng1, vRng2, vEnum, vZip, chkOf, vLcK, vYes, finD, finO, En.wipe, wipeE, En.trim, trimS, dropNone, clr_n, clr_v, clr_k, clr_o, wth, Vl.ret, takeS, startV,  List.map_cons, List.map_nil, List.length_cons, List.length_nil, List.cons_append, List.nil_append, List.replicate, List.getElem?_cons_succ, List.getElem?_cons_zero, List.getElem?_nil, List.set_cons_succ, List.set_cons_zero, List.set_nil, List.all_nil, List.all_cons, Bool.true_and, Option.map_some, Option.map_none, if_true, if_false, decide_eq_true_eq, Bool.false_eq_true, List.take_succ_cons, List.take_zero, List.take_nil, List.drop_succ_cons, List.drop_zero, List.drop_nil, reduceIte, reduceCtorEq]
      refine hk (n - (a + 1)) _ 0 [] (by omega) (Nat.zero_le _) ⟨a + 1, rfl, by omega, by omega, ?_⟩
      rw [show r - off ms.length n (a + 1) = r - off ms.length n a - 2 * many ms.length (a + 1) * many ms.length (n - (a + 1)) from by omega, show (1 + ((a + 1 : Nat) : Int)) = 1 + (a : Nat) + 1 from by omega]
      rfl
    · rename_i hlt
      have om := off_mono ms.length n (k := a + 1) (l := n - 1) (by omega) (Nat.le_refl _)
      rw [← many_off n2] at om
      have o0 := off_nn ms.length n (k := a) (by omega)
      rw [Int.mul_assoc] at os hlt
      generalize hX : r - off ms.length n a = X at *
      have x0 : 0 ≤ X := by omega
      have pp := prod_pos ms.length (m := a + 1) (n := n - (a + 1)) (by omega) (by omega)
      generalize hP : many ms.length (a + 1) * many ms.length (n - (a + 1)) = P at *
      have dm := Int.mul_ediv_add_emod X P
      have m0 := Int.emod_nonneg X (show P ≠ 0 from by omega)
      have m1 := Int.emod_lt_of_pos X (show 0 < P from by omega)
      have w0 : 0 ≤ X / P := Int.ediv_nonneg x0 (by omega)
      have w1 : X / P < 2 := Int.ediv_lt_of_lt_mul (by omega) (by omega)
      simp only [t_kindwith_7, a1, a2, flatD, List.any_cons, List.any_nil, eqv_str, eqv_int, eqv_ti, eqv_it, eqv_st, eqv_ts, cut1, Bool.or_false, Bool.or_true, Bool.and_self, Bool.and_true, Bool.and_false, Bool.false_or, Bool.true_or, and_self, ofs_inj, ofs_app, ofs_len, String.reduceEq, String.reduceNe, String.reduceAppend, decide_true, decide_false, Bool.not_true, Bool.not_false, sz0, sz1, sz2, sz3, sz4, sz5, sz6, sz7, sz8, sz9, sz10, sz11, sz12, sz13, sz14, sz15, sz16, sz17, sz18, sz19, sz20, sz21, sz22, sz23, sz24, sz25, cpow1018, true_and, and_true, Nat.reduceAdd, Nat.reduceLT, Nat.reduceSub, Int.reduceNe, Int.reduceEq, Int.reduceLT, Int.reduceLE, Int.reduceToNat, ne_eq, not_false_eq_true, List.length_map, Nat.lt_irrefl, dV_nx, dV_rt, at0, at1, at2, at3, ix20, ix21, vSeq, vIfS, vTest, vTruth, truth, v2, v1, vN, vCons, vNil, vStar, vVar, vC, xIx, Vl.opI0, Vl.opI, pk, vSet, vAug, vAsg, xgSub, vRet, vRetN, vDrop, vBreak, vCont, asD, asDs, opMod, opDiv, opMul2, Vl.opAdd, Vl.opAddO, opSub, opPow, opLt, Vl.opLe, opGt, Vl.opGe, xEq, okEq_str, okEq_int, xIn, okIn, inD, xIsN, isNone_n, isNone_t, isNone_l, isNone_i, isNone_s, isMo, mob, pkm, gModI, gDivI, gSubI, gMulI, gPowI, gGt, gLt, gLe, gGe, vNotT, vAndT, vOrT, vAndV, vOrV, opNot, opNotG, vIfE, opTup, opLst, opLstO, Vl.opLen, Vl.opInt, opList, opListO, opTuple, opII, gMax, gMin, vM, vM0, isT, xPop, Vl.opAppend, opExtend, opJoin, vgName, vgTup, vgCons, vgNil, kOpt_some, kOpn_some, kOps_some, Vl.opSum, Vl.opInsert, Vl.opIndex, opDivmod, vSl, vPart, vNoPart, opSl, opSlO, opRev, opCallK, ownD, ownO, objs, renum, uniq, getS, putS, vCall0, vFor, vForW, En.wk, vSeqI, vTupI, vRng1, vRng2, vEnum, vZip, chkOf, vLcK, vYes, finD, finO, En.wipe, wipeE, En.trim, trimS, dropNone, clr_n, clr_v, clr_k, clr_o, wth, Vl.ret, takeS, startV,  List.map_cons, List.map_nil, List.length_cons, List.length_nil, List.cons_append, List.nil_append, List.replicate, List.getElem?_cons_succ, List.getElem?_cons_zero, List.getElem?_nil, List.set_cons_succ, List.set_cons_zero, List.set_nil, List.all_nil, List.all_cons, Bool.true_and, Option.map_some, Option.map_none, if_true, if_false, decide_eq_true_eq, Bool.false_eq_true, List.take_succ_cons, List.take_zero, List.take_nil, List.drop_succ_cons, List.drop_zero, List.drop_nil, reduceIte, reduceCtorEq]
      rw [hP]
      refine ⟨by unfold CMul; omega, ⟨by omega, by omega⟩, ?_⟩
      generalize hW : X / P = W at *
      generalize hY : X % P = Y at *
      have dn := Int.mul_ediv_add_emod Y (many ms.length (n - (a + 1)))
      have u0 := Int.emod_nonneg Y (show many ms.length (n - (a + 1)) ≠ 0 from by omega)
      have u1 := Int.emod_lt_of_pos Y (show 0 < many ms.length (n - (a + 1)) from by omega)
      have v0 : 0 ≤ Y / many ms.length (n - (a + 1)) := Int.ediv_nonneg m0 (by omega)
      have v1 : Y / many ms.length (n - (a + 1)) < many ms.length (a + 1) := Int.ediv_lt_of_lt_mul (by omega) (by rw [hP]; omega)
      simp only [t_kindwith_6, a2, flatD, List.any_cons, List.any_nil, eqv_str, eqv_int, eqv_ti, eqv_it, eqv_st, eqv_ts, cut1, Bool.or_false, Bool.or_true, Bool.and_self, Bool.and_true, Bool.and_false, Bool.false_or, Bool.true_or, and_self, ofs_inj, ofs_app, ofs_len, String.reduceEq, String.reduceNe, String.reduceAppend, decide_true, decide_false, Bool.not_true, Bool.not_false, sz0, sz1, sz2, sz3, sz4, sz5, sz6, sz7, sz8, sz9, sz10, sz11, sz12, sz13, sz14, sz15, sz16, sz17, sz18, sz19, sz20, sz21, sz22, sz23, sz24, sz25, cpow1018, true_and, and_true, Nat.reduceAdd, Nat.reduceLT, Nat.reduceSub, Int.reduceNe, Int.reduceEq, Int.reduceLT, Int.reduceLE, Int.reduceToNat, ne_eq, not_false_eq_true, List.length_map, Nat.lt_irrefl, dV_nx, dV_rt, at0, at1, at2, at3, ix20, ix21, vSeq, vIfS, vTest, vTruth, truth, v2, v1, vN, vCons, vNil, vStar, vVar, vC, xIx, Vl.opI0, Vl.opI, pk, vSet, vAug, vAsg, xgSub, vRet, vRetN, vDrop, vBreak, vCont, asD, asDs, opMod, opDiv, opMul2, Vl.opAdd, Vl.opAddO, opSub, opPow, opLt, Vl.opLe, opGt, Vl.opGe, xEq, okEq_str, okEq_int, xIn, okIn, inD, xIsN, isNone_n, isNone_t, isNone_l, isNone_i, isNone_s, isMo, mob, pkm, gModI, gDivI, gSubI, gMulI, gPowI, gGt, gLt, gLe, gGe, vNotT, vAndT, vOrT, vAndV, vOrV, opNot, opNotG, vIfE, opTup, opLst, opLstO, Vl.opLen, Vl.opInt, opList, opListO, opTuple, opII, gMax, gMin, vM, vM0, isT, xPop, Vl.opAppend, opExtend, opJoin, vgName, vgTup, vgCons, vgNil, kOpt_some, kOpn_some, kOps_some, Vl.opSum, Vl.opInsert, Vl.opIndex, opDivmod, vSl, vPart, vNoPart, opSl, opSlO, opRev, opCallK, ownD, ownO, objs, renum, uniq, getS, putS, vCall0, vFor, vForW, En.wk, vSeqI, vTupI, vRng1, vRng2, vEnum, vZip, chkOf, vLcK, vYes, finD, finO, En.wipe, wipeE, En.trim, trimS, dropNone, clr_n, clr_v, clr_k, clr_o, wth, Vl.ret, takeS, startV,  List.map_cons, List.map_nil, List.length_cons, List.length_nil, List.cons_append, List.nil_append, List.replicate, List.getElem?_cons_succ, List.getElem?_cons_zero, List.getElem?_nil, List.set_cons_succ, List.set_cons_zero, List.set_nil, List.all_nil, List.all_cons, Bool.true_and, Option.map_some, Option.map_none, if_true, if_false, decide_eq_true_eq, Bool.false_eq_true, List.take_succ_cons, List.take_zero, List.take_nil, List.drop_succ_cons, List.drop_zero, List.drop_nil, reduceIte, reduceCtorEq]
      refine ⟨⟨by omega, by omega⟩, ?_⟩
      generalize hU : Y / many ms.length (n - (a + 1)) = U at *
      generalize hZ : Y % many ms.length (n - (a + 1)) = Z at *
      simp only [t_kindwith_5, pKindWith, flatD, List.any_cons, List.any_nil, eqv_str, eqv_int, eqv_ti, eqv_it, eqv_st, eqv_ts, cut1, Bool.or_false, Bool.or_true, Bool.and_self, Bool.and_true, Bool.and_false, Bool.false_or, Bool.true_or, and_self, ofs_inj, ofs_app, ofs_len, String.reduceEq, String.reduceNe, String.reduceAppend, decide_true, decide_false, Bool.not_true, Bool.not_false, sz0, sz1, sz2, sz3, sz4, sz5, sz6, sz7, sz8, sz9, sz10, sz11, sz12, sz13, sz14, sz15, sz16, sz17, sz18, sz19, sz20, sz21, sz22, sz23, sz24, sz25, cpow1018, true_and, and_true, Nat.reduceAdd, Nat.reduceLT, Nat.reduceSub, Int.reduceNe, Int.reduceEq, Int.reduceLT, Int.reduceLE, Int.reduceToNat, ne_eq, not_false_eq_true, List.length_map, Nat.lt_irrefl, dV_nx, dV_rt, at0, at1, at2, at3, ix20, ix21, vSeq, vIfS, vTest, vTruth, truth, v2, v1, vN, vCons, vNil, vStar, vVar, vC, xIx, Vl.opI0, Vl.opI, pk, vSet, vAug, vAsg, xgSub, vRet, vRetN, vDrop, vBreak, vCont, asD, asDs, opMod, opDiv, opMul2, Vl.opAdd, Vl.opAddO, opSub, opPow, opLt, Vl.opLe, opGt, Vl.opGe, xEq, okEq_str, okEq_int, xIn, okIn, inD, xIsN, isNone_n, isNone_t, isNone_l, isNone_i, isNone_s, isMo, mob, pkm, gModI, gDivI, gSubI, gMulI, gPowI, gGt, gLt, gLe, gGe, vNotT, vAndT, vOrT, vAndV, vOrV, opNot, opNotG, vIfE, opTup, opLst, opLstO, Vl.opLen, Vl.opInt, opList, opListO, opTuple, opII, gMax, gMin, vM, vM0, isT, xPop, Vl.opAppend, opExtend, opJoin, vgName, vgTup, vgCons, vgNil, kOpt_some, kOpn_some, kOps_some, Vl.opSum, Vl.opInsert, Vl.opIndex, opDivmod, vSl, vPart, vNoPart, opSl, opSlO, opRev, opCallK, ownD, ownO, objs, renum, uniq, getS, putS, vCall0, vFor, vForW, En.wk, vSeqI, vTupI, vRng1, vRng2, vEnum, vZip, chkOf, vLcK, vYes, finD, finO, En.wipe, wipeE, En.trim, trimS, dropNone, clr_n, clr_v, clr_k, clr_o, wth, Vl.ret, takeS, startV,  List.map_cons, List.map_nil, List.length_cons, List.length_nil, List.cons_append, List.nil_append, List.replicate, List.getElem?_cons_succ, List.getElem?_cons_zero, List.getElem?_nil, List.set_cons_succ, List.set_cons_zero, List.set_nil, List.all_nil, List.all_cons, Bool.true_and, Option.map_some, Option.map_none, if_true, if_false, decide_eq_true_eq, Bool.false_eq_true, List.take_succ_cons, List.take_zero, List.take_nil, List.drop_succ_cons, List.drop_zero, List.drop_nil, reduceIte, reduceCtorEq]
      refine ⟨ms, q, a + 1, U, by rw [show ((a + 1 : Nat) : Int) = 1 + (a : Nat) from by omega], hm, nd, hq, by omega, by omega, by omega, v0, v1, fun kx ox lx nx => ?_⟩
      refine ⟨ms, q, n - (a + 1), Z, by rw [show ((n - (a + 1) : Nat) : Int) = (n : Nat) - (1 + (a : Nat)) from by omega], hm, nd, hq, by omega, by omega, by omega, u0, u1, fun ky oy ly ny => ?_⟩
      have kl : kx.leaves + ky.leaves = n := by omega
      have fin : ∀ b : Bool, (if b then W = 0 else W = 1) → Kp (.val (.tuple [.str (if b then "to" else "both"), kx.enc, ky.enc])) [] := fun b hb => by
        have e1 : kx.leaves - 1 = a := by omega
        have hdn : U * many ms.length (n - (a + 1)) + Z = Y := by rw [Int.mul_comm]; exact dn
        cases b with
        | true =>
          have hb : W = 0 := hb
          rw [hb, Int.mul_zero] at dm
          refine k (.to kx ky) ⟨ox, oy⟩ kl ?_
          simp only [Kd.num]
          rw [kl, e1, nx, ny, ly]
          omega
        | false =>
          have hb : W = 1 := hb
          rw [hb, Int.mul_one] at dm
          refine k (.both kx ky) ⟨ox, oy⟩ kl ?_
          simp only [Kd.num]
          rw [kl, e1, nx, ny, lx, ly, hP]
          omega
      simp only [t_kindwith_4, flatD, List.any_cons, List.any_nil, eqv_str, eqv_int, eqv_ti, eqv_it, eqv_st, eqv_ts, cut1, Bool.or_false, Bool.or_true, Bool.and_self, Bool.and_true, Bool.and_false, Bool.false_or, Bool.true_or, and_self, ofs_inj, ofs_app, ofs_len, String.reduceEq, String.reduceNe, String.reduceAppend, decide_true, decide_false, Bool.not_true, Bool.not_false, sz0, sz1, sz2, sz3, sz4, sz5, sz6, sz7, sz8, sz9, sz10, sz11, sz12, sz13, sz14, sz15, sz16, sz17, sz18, sz19, sz20, sz21, sz22, sz23, sz24, sz25, cpow1018, true_and, and_true, Nat.reduceAdd, Nat.reduceLT, Nat.reduceSub, Int.reduceNe, Int.reduceEq, Int.reduceLT, Int.reduceLE, Int.reduceToNat, ne_eq, not_false_eq_true, List.length_map, Nat.lt_irrefl, dV_nx, dV_rt, at0, at1, at2, at3, ix20, ix21, vSeq, vIfS, vTest, vTruth, truth, v2, v1, vN, vCons, vNil, vStar, vVar, vC, xIx, Vl.opI0, Vl.opI, pk, vSet, vAug, vAsg, xgSub, vRet, vRetN, vDrop, vBreak, vCont, asD, asDs, opMod, opDiv, opMul2, Vl.opAdd, Vl.opAddO, opSub, opPow, opLt, Vl.opLe, opGt, Vl.opGe, xEq, okEq_str, okEq_int, xIn, okIn, inD, xIsN, isNone_n, isNone_t, isNone_l, isNone_i, isNone_s, isMo, mob, pkm, gModI, gDivI, gSubI, gMulI, gPowI, gGt, gLt, gLe, gGe, vNotT, vAndT, vOrT, vAndV, vOrV, opNot, opNotG, vIfE, opTup, opLst, opLstO, Vl.opLen, Vl.opInt, opList, opListO, opTuple, opII, gMax, gMin, vM, vM0, isT, xPop, Vl.opAppend, opExtend, opJoin, vgName, vgTup, vgCons, vgNil, kOpt_some, kOpn_some, kOps_some, Vl.opSum, Vl.opInsert, Vl.opIndex, opDivmod, vSl, vPart, vNoPart, opSl, opSlO, opRev, opCallK, ownD, ownO, objs, renum, uniq, getS, putS, vCall0, vFor, vForW, En.wk, vSeqI, vTupI, vRng1, vRng2, vEnum, vZip, chkOf, vLcK, vYes, finD, finO, En.wipe, wipeE, En.trim, trimS, dropNone, clr_n, clr_v, clr_k, clr_o, wth, Vl.ret, takeS, startV,  List.map_cons, List.map_nil, List.length_cons, List.length_nil, List.cons_append, List.nil_append, List.replicate, List.getElem?_cons_succ, List.getElem?_cons_zero, List.getElem?_nil, List.set_cons_succ, List.set_cons_zero, List.set_nil, List.all_nil, List.all_cons, Bool.true_and, Option.map_some, Option.map_none, if_true, if_false, decide_eq_true_eq, Bool.false_eq_true, List.take_succ_cons, List.take_zero, List.take_nil, List.drop_succ_cons, List.drop_zero, List.drop_nil, reduceIte, reduceCtorEq]
      split
      · rename_i hw
        exact fin true hw
      · rename_i hw
        exact fin false (by show W = 1; omega)
end Kf
namespace Kf
open PySem L2 Vl PySem.Spec PyProof.Rows
/-! lists of texts -/
theorem shaped_strs {ms : List Str} (h : ∀ m ∈ ms, PyData.strOk m = true) : SeqAt.shaped (.list (ms.map .str)) = true := by
  have hh : PyData.canLayAll0 (ms.map .str) = true ∧ PyData.depthAll (ms.map .str) = 0 := by
    induction ms with
    | nil => exact ⟨by rw [List.map_nil, canAll_nil], by rw [List.map_nil, depthAll_nil]⟩
    | cons m ms ih =>
      obtain ⟨h1, h2⟩ := ih fun x hx => h x (List.mem_cons_of_mem _ hx)
      rw [List.map_cons, canAll_cons, depthAll_cons, h1, h2, can_str, depth_str, h m List.mem_cons_self]
      exact ⟨rfl, rfl⟩
  show (PyData.canLay0 (.list (ms.map .str)) && decide (PyData.depth (.list (ms.map .str)) ≤ 64)) = true
  rw [can_lst, depth_lst, hh.1, hh.2] <;> rfl
theorem shaped_str {m : Str} (h : PyData.strOk m = true) : SeqAt.shaped (.str m) = true := by
  show (PyData.canLay0 (.str m) && decide (PyData.depth (.str m) ≤ 64)) = true
  rw [can_str, depth_str, h] <;> rfl
theorem any_strs (m : Str) (ms : List Str) : ((ms.map PyData.str).any fun z => PyData.eqv z (.str m)) = decide (m ∈ ms) := by
  induction ms with
  | nil => rfl
  | cons x ms ih =>
    rw [List.map_cons, List.any_cons, ih, eqv_str]
    by_cases e : x = m
    · simp [e]
    · have e' : ¬ m = x := fun h => e h.symm
      simp [e, e']
theorem ixD_strs (m : Str) : ∀ {ms : List Str}, m ∈ ms → ixD (.str m) (ms.map PyData.str) = some (ms.idxOf m)
  | [], h => by simp at h
  | x :: ms, h => by
    show (if PyData.eqv (.str x) (.str m) = true then some 0 else (ixD (.str m) (ms.map PyData.str)).map (· + 1)) = _
    rw [eqv_str, List.idxOf_cons]
    by_cases e : x = m
    · subst e
      simp
    · have hm : m ∈ ms := by
        rcases List.mem_cons.mp h with z | z
        · exact absurd z.symm e
        · exact z
      have e' : (x == m) = false := beq_eq_false_iff_ne.mpr e
      rw [ixD_strs m hm, e']
      simp [e]
/-- kinds -/
def Kd.inn : Kd → List Kd
  | .mark _ => []
  | .one => []
  | .to a b => [a, b]
  | .both a b => [a, b]
def Kd.nodes : Kd → Nat
  | .mark _ => 1
  | .one => 1
  | .to a b => a.nodes + b.nodes + 1
  | .both a b => a.nodes + b.nodes + 1
def lvs (ks : List Kd) : Nat := (ks.map Kd.leaves).sum
def nds (ks : List Kd) : Nat := (ks.map Kd.nodes).sum
theorem lvs_app (a b : List Kd) : lvs (a ++ b) = lvs a + lvs b := by simp [lvs]
theorem nds_app (a b : List Kd) : nds (a ++ b) = nds a + nds b := by simp [nds]
theorem lvs_len : ∀ ks : List Kd, ks.length ≤ lvs ks
  | [] => Nat.zero_le _
  | k :: ks => by
    have := k.leaves_pos
    have := lvs_len ks
    simp only [lvs, List.map_cons, List.sum_cons, List.length_cons] at *
    omega
def pKindsIn : VSp := fun ss st Kp => ∃ k : Kd, ss = [.val k.enc] ∧ st = [] ∧ Kp (.val (.list (k.inn.map Kd.enc))) []
theorem cut_1 (x : D) (xs : List D) : Vl.cut (x :: xs) (some 1) none = xs := cut1 x xs
theorem r_kindsin {ss cs Kp} (h : pKindsIn ss cs Kp) : t_kindsin (dV cs.length Kp) ⟨startV 1 ss, cs.map some⟩ := by
  obtain ⟨k, rfl, rfl, q⟩ := h
  cases k <;> simp only [t_kindsin_1, t_kindsin_2, t_kindsin_3, t_kindsin, Kd.enc, cut_1, flatD, List.any_cons, List.any_nil, eqv_str, eqv_int, eqv_ti, eqv_it, eqv_st, eqv_ts, cut1, Bool.or_false, Bool.or_true, Bool.and_self, Bool.and_true, Bool.and_false, Bool.false_or, Bool.true_or, and_self, ofs_inj, ofs_app, ofs_len, String.reduceEq, String.reduceNe, String.reduceAppend, decide_true, decide_false, Bool.not_true, Bool.not_false, sz0, sz1, sz2, sz3, sz4, sz5, sz6, sz7, sz8, sz9, sz10, sz11, sz12, sz13, sz14, sz15, sz16, sz17, sz18, sz19, sz20, sz21, sz22, sz23, sz24, sz25, cpow1018, true_and, and_true, Nat.reduceAdd, Nat.reduceLT, Nat.reduceSub, Int.reduceNe, Int.reduceEq, Int.reduceLT, Int.reduceLE, Int.reduceToNat, ne_eq, not_false_eq_true, List.length_map, Nat.lt_irrefl, dV_nx, dV_rt, at0, at1, at2, at3, ix20, ix21, vSeq, vIfS, vTest, vTruth, truth, v2, v1, vN, vCons, vNil, vStar, vVar, vC, xIx, Vl.opI0, Vl.opI, pk, vSet, vAug, vAsg, xgSub, vRet, vRetN, vNext, vDrop, vBreak, vCont, asD, asDs, opMod, opDiv, opMul2, Vl.opAdd, Vl.opAddO, opSub, opPow, opLt, Vl.opLe, opGt, Vl.opGe, xEq, okEq_str, okEq_int, xIn, okIn, inD, xIsN, isNone_n, isNone_t, isNone_l, isNone_i, isNone_s, isMo, mob, pkm, gModI, gDivI, gSubI, gMulI, gPowI, gGt, gLt, gLe, gGe, vNotT, vAndT, vOrT, vAndV, vOrV, opNot, opNotG, vIfE, opTup, opLst, opLstO, Vl.opLen, Vl.opInt, opList, opListO, opTuple, opII, gMax, gMin, vM, vM0, isT, xPop, Vl.opAppend, opExtend, opJoin, vgName, vgTup, vgCons, vgNil, kOpt_some, kOpn_some, kOps_some, Vl.opSum, Vl.opInsert, Vl.opIndex, opDivmod, vSl, vPart, vNoPart, opSl, opSlO, opRev, opCallK, ownD, ownO, objs, renum, uniq, getS, putS, vCall0, vFor, vForW, En.wk, vSeqI, vTupI, vRng1, vRng2, vEnum, vZip, chkOf, vLcK, vYes, finD, finO, En.wipe, wipeE, En.trim, trimS, dropNone, clr_n, clr_v, clr_k, clr_o, wth, Vl.ret, takeS, startV,  List.map_cons, List.map_nil, List.length_cons, List.length_nil, List.cons_append, List.nil_append, List.replicate, List.getElem?_cons_succ, List.getElem?_cons_zero, List.getElem?_nil, List.set_cons_succ, List.set_cons_zero, List.set_nil, List.all_nil, List.all_cons, Bool.true_and, Option.map_some, Option.map_none, if_true, if_false, decide_eq_true_eq, Bool.false_eq_true, List.take_succ_cons, List.take_zero, List.take_nil, List.drop_succ_cons, List.drop_zero, List.drop_nil, reduceIte, reduceCtorEq] <;> exact q
def pLeavesOf : VSp := fun ss st Kp => ∃ k : Kd, ss = [.val k.enc] ∧ st = [] ∧ k.leaves ≤ 1000 ∧ Kp (.val (.int (k.leaves : Nat))) []
theorem r_leavesof {ss cs Kp} (h : pLeavesOf ss cs Kp) : t_leavesof pKindsIn (dV cs.length Kp) ⟨startV 4 ss, cs.map some⟩ := by
  obtain ⟨k, rfl, rfl, hl, q⟩ := h
  simp only [t_leavesof, t_leavesof_8, t_leavesof_7, t_leavesof_6, flatD, List.any_cons, List.any_nil, eqv_str, eqv_int, eqv_ti, eqv_it, eqv_st, eqv_ts, cut1, Bool.or_false, Bool.or_true, Bool.and_self, Bool.and_true, Bool.and_false, Bool.false_or, Bool.true_or, and_self, ofs_inj, ofs_app, ofs_len, String.reduceEq, String.reduceNe, String.reduceAppend, decide_true, decide_false, Bool.not_true, Bool.not_false, sz0, sz1, sz2, sz3, sz4, sz5, sz6, sz7, sz8, sz9, sz10, sz11, sz12, sz13, sz14, sz15, sz16, sz17, sz18, sz19, sz20, sz21, sz22, sz23, sz24, sz25, cpow1018, true_and, and_true, Nat.reduceAdd, Nat.reduceLT, Nat.reduceSub, Int.reduceNe, Int.reduceEq, Int.reduceLT, Int.reduceLE, Int.reduceToNat, ne_eq, not_false_eq_true, List.length_map, Nat.lt_irrefl, dV_nx, dV_rt, at0, at1, at2, at3, ix20, ix21, vSeq, vIfS, vTest, vTruth, truth, v2, v1, vN, vCons, vNil, vStar, vVar, vC, xIx, Vl.opI0, Vl.opI, pk, vSet, vAug, vAsg, xgSub, vRet, vRetN, vDrop, vBreak, vCont, asD, asDs, opMod, opDiv, opMul2, Vl.opAdd, Vl.opAddO, opSub, opPow, opLt, Vl.opLe, opGt, Vl.opGe, xEq, okEq_str, okEq_int, xIn, okIn, inD, xIsN, isNone_n, isNone_t, isNone_l, isNone_i, isNone_s, isMo, mob, pkm, gModI, gDivI, gSubI, gMulI, gPowI, gGt, gLt, gLe, gGe, vNotT, vAndT, vOrT, vAndV, vOrV, opNot, opNotG, vIfE, opTup, opLst, opLstO, Vl.opLen, Vl.opInt, opList, opListO, opTuple, opII, gMax, gMin, vM, vM0, isT, xPop, Vl.opAppend, opExtend, opJoin, vgName, vgTup, vgCons, vgNil, kOpt_some, kOpn_some, kOps_some, Vl.opSum, Vl.opInsert, Vl.opIndex, opDivmod, vSl, vPart, vNoPart, opSl, opSlO, opRev, opCallK, ownD, ownO, objs, renum, uniq, getS, putS, vCall0, vFor, vForW, En.wk, vSeqI, vTupI, vRng1, vRng2, vEnum, vZip, chkOf, vLcK, vYes, finD, finO, En.wipe, wipeE, En.trim, trimS, dropNone, clr_n, clr_v, clr_k, clr_o, wth, Vl.ret, takeS, startV,  List.map_cons, List.map_nil, List.length_cons, List.length_nil, List.cons_append, List.nil_append, List.replicate, List.getElem?_cons_succ, List.getElem?_cons_zero, List.getElem?_nil, List.set_cons_succ, List.set_cons_zero, List.set_nil, List.all_nil, List.all_cons, Bool.true_and, Option.map_some, Option.map_none, if_true, if_false, decide_eq_true_eq, Bool.false_eq_true, List.take_succ_cons, List.take_zero, List.take_nil, List.drop_succ_cons, List.drop_zero, List.drop_nil, reduceIte, reduceCtorEq]
  refine while_invW (fun m e => ∃ (ts : List Kd) (c : Nat), e = ⟨[some (.val k.enc), some (.val (.int (c : Nat))), some (.obj 0), none], [some (.l (ts.map Kd.enc))]⟩ ∧ c + lvs ts = k.leaves ∧ m = nds ts) ?_ (m := nds [k]) ⟨[k], 0, rfl, by simp [lvs], rfl⟩
  rintro m e Nx ⟨ts, c, rfl, hc, rfl⟩ hk
  rcases List.eq_nil_or_concat ts with rfl | ⟨ts0, t, rfl⟩
  · have e1 : c = k.leaves := by simpa [lvs] using hc
    simp only [t_leavesof_5, List.isEmpty_nil, e1, flatD, List.any_cons, List.any_nil, eqv_str, eqv_int, eqv_ti, eqv_it, eqv_st, eqv_ts, cut1, Bool.or_false, Bool.or_true, Bool.and_self, Bool.and_true, Bool.and_false, Bool.false_or, Bool.true_or, and_self, ofs_inj, ofs_app, ofs_len, String.reduceEq, String.reduceNe, String.reduceAppend, decide_true, decide_false, Bool.not_true, Bool.not_false, sz0, sz1, sz2, sz3, sz4, sz5, sz6, sz7, sz8, sz9, sz10, sz11, sz12, sz13, sz14, sz15, sz16, sz17, sz18, sz19, sz20, sz21, sz22, sz23, sz24, sz25, cpow1018, true_and, and_true, Nat.reduceAdd, Nat.reduceLT, Nat.reduceSub, Int.reduceNe, Int.reduceEq, Int.reduceLT, Int.reduceLE, Int.reduceToNat, ne_eq, not_false_eq_true, List.length_map, Nat.lt_irrefl, dV_nx, dV_rt, at0, at1, at2, at3, ix20, ix21, vSeq, vIfS, vTest, vTruth, truth, v2, v1, vN, vCons, vNil, vStar, vVar, vC, xIx, Vl.opI0, Vl.opI, pk, vSet, vAug, vAsg, xgSub, vRet, vRetN, vDrop, vBreak, vCont, asD, asDs, opMod, opDiv, opMul2, Vl.opAdd, Vl.opAddO, opSub, opPow, opLt, Vl.opLe, opGt, Vl.opGe, xEq, okEq_str, okEq_int, xIn, okIn, inD, xIsN, isNone_n, isNone_t, isNone_l, isNone_i, isNone_s, isMo, mob, pkm, gModI, gDivI, gSubI, gMulI, gPowI, gGt, gLt, gLe, gGe, vNotT, vAndT, vOrT, vAndV, vOrV, opNot, opNotG, vIfE, opTup, opLst, opLstO, Vl.opLen, Vl.opInt, opList, opListO, opTuple, opII, gMax, gMin, vM, vM0, isT, xPop, Vl.opAppend, opExtend, opJoin, vgName, vgTup, vgCons, vgNil, kOpt_some, kOpn_some, kOps_some, Vl.opSum, Vl.opInsert, Vl.opIndex, opDivmod, vSl, vPart, vNoPart, opSl, opSlO, opRev, opCallK, ownD, ownO, objs, renum, uniq, getS, putS, vCall0, vFor, vForW, En.wk, vSeqI, vTupI, vRng1, vRng2, vEnum, vZip, chkOf, vLcK, vYes, finD, finO, En.wipe, wipeE, En.trim, trimS, dropNone, clr_n, clr_v, clr_k, clr_o, wth, Vl.ret, takeS, startV,  List.map_cons, List.map_nil, List.length_cons, List.length_nil, List.cons_append, List.nil_append, List.replicate, List.getElem?_cons_succ, List.getElem?_cons_zero, List.getElem?_nil, List.set_cons_succ, List.set_cons_zero, List.set_nil, List.all_nil, List.all_cons, Bool.true_and, Option.map_some, Option.map_none, if_true, if_false, decide_eq_true_eq, Bool.false_eq_true, List.take_succ_cons, List.take_zero, List.take_nil, List.drop_succ_cons, List.drop_zero, List.drop_nil, reduceIte, reduceCtorEq]
    exact q
  · rw [List.concat_eq_append] at *
    have ne : ((ts0 ++ [t]).map Kd.enc).isEmpty = false := by simp
    have gl : ((ts0 ++ [t]).map Kd.enc).getLast? = some t.enc := by simp
    have dl : ((ts0 ++ [t]).map Kd.enc).dropLast = ts0.map Kd.enc := by simp
    have ll := lvs_len ts0
    have lt : lvs (ts0 ++ [t]) = lvs ts0 + t.leaves := by rw [lvs_app]; simp [lvs]
    have nt : nds (ts0 ++ [t]) = nds ts0 + t.nodes := by rw [nds_app]; simp [nds]
    simp only [ne, gl, dl, t_leavesof_4, pKindsIn, flatD, List.any_cons, List.any_nil, eqv_str, eqv_int, eqv_ti, eqv_it, eqv_st, eqv_ts, cut1, Bool.or_false, Bool.or_true, Bool.and_self, Bool.and_true, Bool.and_false, Bool.false_or, Bool.true_or, and_self, ofs_inj, ofs_app, ofs_len, String.reduceEq, String.reduceNe, String.reduceAppend, decide_true, decide_false, Bool.not_true, Bool.not_false, sz0, sz1, sz2, sz3, sz4, sz5, sz6, sz7, sz8, sz9, sz10, sz11, sz12, sz13, sz14, sz15, sz16, sz17, sz18, sz19, sz20, sz21, sz22, sz23, sz24, sz25, cpow1018, true_and, and_true, Nat.reduceAdd, Nat.reduceLT, Nat.reduceSub, Int.reduceNe, Int.reduceEq, Int.reduceLT, Int.reduceLE, Int.reduceToNat, ne_eq, not_false_eq_true, List.length_map, Nat.lt_irrefl, dV_nx, dV_rt, at0, at1, at2, at3, ix20, ix21, vSeq, vIfS, vTest, vTruth, truth, v2, v1, vN, vCons, vNil, vStar, vVar, vC, xIx, Vl.opI0, Vl.opI, pk, vSet, vAug, vAsg, xgSub, vRet, vRetN, vDrop, vBreak, vCont, asD, asDs, opMod, opDiv, opMul2, Vl.opAdd, Vl.opAddO, opSub, opPow, opLt, Vl.opLe, opGt, Vl.opGe, xEq, okEq_str, okEq_int, xIn, okIn, inD, xIsN, isNone_n, isNone_t, isNone_l, isNone_i, isNone_s, isMo, mob, pkm, gModI, gDivI, gSubI, gMulI, gPowI, gGt, gLt, gLe, gGe, vNotT, vAndT, vOrT, vAndV, vOrV, opNot, opNotG, vIfE, opTup, opLst, opLstO, Vl.opLen, Vl.opInt, opList, opListO, opTuple, opII, gMax, gMin, vM, vM0, isT, xPop, Vl.opAppend, opExtend, opJoin, vgName, vgTup, vgCons, vgNil, kOpt_some, kOpn_some, kOps_some, Vl.opSum, Vl.opInsert, Vl.opIndex, opDivmod, vSl, vPart, vNoPart, opSl, opSlO, opRev, opCallK, ownD, ownO, objs, renum, uniq, getS, putS, vCall0, vFor, vForW, En.wk, vSeqI, vTupI, vRng1, vRng2, vEnum, vZip, chkOf, vLcK, vYes, finD, finO, En.wipe, wipeE, En.trim, trimS, dropNone, clr_n, clr_v, clr_k, clr_o, wth, Vl.ret, takeS, startV,  List.map_cons, List.map_nil, List.length_cons, List.length_nil, List.cons_append, List.nil_append, List.replicate, List.getElem?_cons_succ, List.getElem?_cons_zero, List.getElem?_nil, List.set_cons_succ, List.set_cons_zero, List.set_nil, List.all_nil, List.all_cons, Bool.true_and, Option.map_some, Option.map_none, if_true, if_false, decide_eq_true_eq, Bool.false_eq_true, List.take_succ_cons, List.take_zero, List.take_nil, List.drop_succ_cons, List.drop_zero, List.drop_nil, reduceIte, reduceCtorEq]
    refine ⟨t, rfl, ?_⟩
    have fin : ∀ (c' : Nat), c' + lvs (ts0 ++ t.inn) = k.leaves → (t.inn = [] ∨ True) → t_leavesof_2 pKindsIn { nx := Nx, rt := (dV 0 Kp).rt, bk := t_leavesof_5 pKindsIn (dV 0 Kp), ct := Nx } ⟨[some (.val k.enc), some (.val (.int (c' : Nat))), some (.obj 0), some (.val (.list (t.inn.map Kd.enc)))], [some (.l (ts0.map Kd.enc))]⟩ := fun c' hc' _ => by
      have l2 := lvs_len (ts0 ++ t.inn)
      rw [List.length_append] at l2
      simp only [t_leavesof_2, flatD, List.any_cons, List.any_nil, eqv_str, eqv_int, eqv_ti, eqv_it, eqv_st, eqv_ts, cut1, Bool.or_false, Bool.or_true, Bool.and_self, Bool.and_true, Bool.and_false, Bool.false_or, Bool.true_or, and_self, ofs_inj, ofs_app, ofs_len, String.reduceEq, String.reduceNe, String.reduceAppend, decide_true, decide_false, Bool.not_true, Bool.not_false, sz0, sz1, sz2, sz3, sz4, sz5, sz6, sz7, sz8, sz9, sz10, sz11, sz12, sz13, sz14, sz15, sz16, sz17, sz18, sz19, sz20, sz21, sz22, sz23, sz24, sz25, cpow1018, true_and, and_true, Nat.reduceAdd, Nat.reduceLT, Nat.reduceSub, Int.reduceNe, Int.reduceEq, Int.reduceLT, Int.reduceLE, Int.reduceToNat, ne_eq, not_false_eq_true, List.length_map, Nat.lt_irrefl, dV_nx, dV_rt, at0, at1, at2, at3, ix20, ix21, vSeq, vIfS, vTest, vTruth, truth, v2, v1, vN, vCons, vNil, vStar, vVar, vC, xIx, Vl.opI0, Vl.opI, pk, vSet, vAug, vAsg, xgSub, vRet, vRetN, vDrop, vBreak, vCont, asD, asDs, opMod, opDiv, opMul2, Vl.opAdd, Vl.opAddO, opSub, opPow, opLt, Vl.opLe, opGt, Vl.opGe, xEq, okEq_str, okEq_int, xIn, okIn, inD, xIsN, isNone_n, isNone_t, isNone_l, isNone_i, isNone_s, isMo, mob, pkm, gModI, gDivI, gSubI, gMulI, gPowI, gGt, gLt, gLe, gGe, vNotT, vAndT, vOrT, vAndV, vOrV, opNot, opNotG, vIfE, opTup, opLst, opLstO, Vl.opLen, Vl.opInt, opList, opListO, opTuple, opII, gMax, gMin, vM, vM0, isT, xPop, Vl.opAppend, opExtend, opJoin, vgName, vgTup, vgCons, vgNil, kOpt_some, kOpn_some, kOps_some, Vl.opSum, Vl.opInsert, Vl.opIndex, opDivmod, vSl, vPart, vNoPart, opSl, opSlO, opRev, opCallK, ownD, ownO, objs, renum, uniq, getS, putS, vCall0, vFor, vForW, En.wk, vSeqI, vTupI, vRng1, vRng2, vEnum, vZip, chkOf, vLcK, vYes, finD, finO, En.wipe, wipeE, En.trim, trimS, dropNone, clr_n, clr_v, clr_k, clr_o, wth, Vl.ret, takeS, startV,  List.map_cons, List.map_nil, List.length_cons, List.length_nil, List.cons_append, List.nil_append, List.replicate, List.getElem?_cons_succ, List.getElem?_cons_zero, List.getElem?_nil, List.set_cons_succ, List.set_cons_zero, List.set_nil, List.all_nil, List.all_cons, Bool.true_and, Option.map_some, Option.map_none, if_true, if_false, decide_eq_true_eq, Bool.false_eq_true, List.take_succ_cons, List.take_zero, List.take_nil, List.drop_succ_cons, List.drop_zero, List.drop_nil, reduceIte, reduceCtorEq]
      refine ⟨big (by omega), hk (nds (ts0 ++ t.inn)) _ 1 [3] ?_ (Nat.le_refl _) ⟨ts0 ++ t.inn, c', by rw [List.map_append] <;> rfl, hc', rfl⟩⟩
      rw [nt, nds_app]
      cases t <;> simp [Kd.inn, nds, Kd.nodes] <;> omega
    cases t with
    | mark m =>
      simp only [t_leavesof_3, t_leavesof_1, Kd.inn, List.isEmpty_nil, flatD, List.any_cons, List.any_nil, eqv_str, eqv_int, eqv_ti, eqv_it, eqv_st, eqv_ts, cut1, Bool.or_false, Bool.or_true, Bool.and_self, Bool.and_true, Bool.and_false, Bool.false_or, Bool.true_or, and_self, ofs_inj, ofs_app, ofs_len, String.reduceEq, String.reduceNe, String.reduceAppend, decide_true, decide_false, Bool.not_true, Bool.not_false, sz0, sz1, sz2, sz3, sz4, sz5, sz6, sz7, sz8, sz9, sz10, sz11, sz12, sz13, sz14, sz15, sz16, sz17, sz18, sz19, sz20, sz21, sz22, sz23, sz24, sz25, cpow1018, true_and, and_true, Nat.reduceAdd, Nat.reduceLT, Nat.reduceSub, Int.reduceNe, Int.reduceEq, Int.reduceLT, Int.reduceLE, Int.reduceToNat, ne_eq, not_false_eq_true, List.length_map, Nat.lt_irrefl, dV_nx, dV_rt, at0, at1, at2, at3, ix20, ix21, vSeq, vIfS, vTest, vTruth, truth, v2, v1, vN, vCons, vNil, vStar, vVar, vC, xIx, Vl.opI0, Vl.opI, pk, vSet, vAug, vAsg, xgSub, vRet, vRetN, vDrop, vBreak, vCont, asD, asDs, opMod, opDiv, opMul2, Vl.opAdd, Vl.opAddO, opSub, opPow, opLt, Vl.opLe, opGt, Vl.opGe, xEq, okEq_str, okEq_int, xIn, okIn, inD, xIsN, isNone_n, isNone_t, isNone_l, isNone_i, isNone_s, isMo, mob, pkm, gModI, gDivI, gSubI, gMulI, gPowI, gGt, gLt, gLe, gGe, vNotT, vAndT, vOrT, vAndV, vOrV, opNot, opNotG, vIfE, opTup, opLst, opLstO, Vl.opLen, Vl.opInt, opList, opListO, opTuple, opII, gMax, gMin, vM, vM0, isT, xPop, Vl.opAppend, opExtend, opJoin, vgName, vgTup, vgCons, vgNil, kOpt_some, kOpn_some, kOps_some, Vl.opSum, Vl.opInsert, Vl.opIndex, opDivmod, vSl, vPart, vNoPart, opSl, opSlO, opRev, opCallK, ownD, ownO, objs, renum, uniq, getS, putS, vCall0, vFor, vForW, En.wk, vSeqI, vTupI, vRng1, vRng2, vEnum, vZip, chkOf, vLcK, vYes, finD, finO, En.wipe, wipeE, En.trim, trimS, dropNone, clr_n, clr_v, clr_k, clr_o, wth, Vl.ret, takeS, startV,  List.map_cons, List.map_nil, List.length_cons, List.length_nil, List.cons_append, List.nil_append, List.replicate, List.getElem?_cons_succ, List.getElem?_cons_zero, List.getElem?_nil, List.set_cons_succ, List.set_cons_zero, List.set_nil, List.all_nil, List.all_cons, Bool.true_and, Option.map_some, Option.map_none, if_true, if_false, decide_eq_true_eq, Bool.false_eq_true, List.take_succ_cons, List.take_zero, List.take_nil, List.drop_succ_cons, List.drop_zero, List.drop_nil, reduceIte, reduceCtorEq]
      exact fin (c + 1) (by simp only [Kd.inn, List.append_nil, Kd.leaves] at *; omega) (.inr trivial)
    | one =>
      simp only [t_leavesof_3, t_leavesof_1, Kd.inn, List.isEmpty_nil, flatD, List.any_cons, List.any_nil, eqv_str, eqv_int, eqv_ti, eqv_it, eqv_st, eqv_ts, cut1, Bool.or_false, Bool.or_true, Bool.and_self, Bool.and_true, Bool.and_false, Bool.false_or, Bool.true_or, and_self, ofs_inj, ofs_app, ofs_len, String.reduceEq, String.reduceNe, String.reduceAppend, decide_true, decide_false, Bool.not_true, Bool.not_false, sz0, sz1, sz2, sz3, sz4, sz5, sz6, sz7, sz8, sz9, sz10, sz11, sz12, sz13, sz14, sz15, sz16, sz17, sz18, sz19, sz20, sz21, sz22, sz23, sz24, sz25, cpow1018, true_and, and_true, Nat.reduceAdd, Nat.reduceLT, Nat.reduceSub, Int.reduceNe, Int.reduceEq, Int.reduceLT, Int.reduceLE, Int.reduceToNat, ne_eq, not_false_eq_true, List.length_map, Nat.lt_irrefl, dV_nx, dV_rt, at0, at1, at2, at3, ix20, ix21, vSeq, vIfS, vTest, vTruth, truth, v2, v1, vN, vCons, vNil, vStar, vVar, vC, xIx, Vl.opI0, Vl.opI, pk, vSet, vAug, vAsg, xgSub, vRet, vRetN, vDrop, vBreak, vCont, asD, asDs, opMod, opDiv, opMul2, Vl.opAdd, Vl.opAddO, opSub, opPow, opLt, Vl.opLe, opGt, Vl.opGe, xEq, okEq_str, okEq_int, xIn, okIn, inD, xIsN, isNone_n, isNone_t, isNone_l, isNone_i, isNone_s, isMo, mob, pkm, gModI, gDivI, gSubI, gMulI, gPowI, gGt, gLt, gLe, gGe, vNotT, vAndT, vOrT, vAndV, vOrV, opNot, opNotG, vIfE, opTup, opLst, opLstO, Vl.opLen, Vl.opInt, opList, opListO, opTuple, opII, gMax, gMin, vM, vM0, isT, xPop, Vl.opAppend, opExtend, opJoin, vgName, vgTup, vgCons, vgNil, kOpt_some, kOpn_some, kOps_some, Vl.opSum, Vl.opInsert, Vl.opIndex, opDivmod, vSl, vPart, vNoPart, opSl, opSlO, opRev, opCallK, ownD, ownO, objs, renum, uniq, getS, putS, vCall0, vFor, vForW, En.wk, vSeqI, vTupI, vRng1, vRng2, vEnum, vZip, chkOf, vLcK, vYes, finD, finO, En.wipe, wipeE, En.trim, trimS, dropNone, clr_n, clr_v, clr_k, clr_o, wth, Vl.ret, takeS, startV,  List.map_cons, List.map_nil, List.length_cons, List.length_nil, List.cons_append, List.nil_append, List.replicate, List.getElem?_cons_succ, List.getElem?_cons_zero, List.getElem?_nil, List.set_cons_succ, List.set_cons_zero, List.set_nil, List.all_nil, List.all_cons, Bool.true_and, Option.map_some, Option.map_none, if_true, if_false, decide_eq_true_eq, Bool.false_eq_true, List.take_succ_cons, List.take_zero, List.take_nil, List.drop_succ_cons, List.drop_zero, List.drop_nil, reduceIte, reduceCtorEq]
      exact fin (c + 1) (by simp only [Kd.inn, List.append_nil, Kd.leaves] at *; omega) (.inr trivial)
    | to x y =>
      simp only [t_leavesof_3, Kd.inn, List.isEmpty_cons, flatD, List.any_cons, List.any_nil, eqv_str, eqv_int, eqv_ti, eqv_it, eqv_st, eqv_ts, cut1, Bool.or_false, Bool.or_true, Bool.and_self, Bool.and_true, Bool.and_false, Bool.false_or, Bool.true_or, and_self, ofs_inj, ofs_app, ofs_len, String.reduceEq, String.reduceNe, String.reduceAppend, decide_true, decide_false, Bool.not_true, Bool.not_false, sz0, sz1, sz2, sz3, sz4, sz5, sz6, sz7, sz8, sz9, sz10, sz11, sz12, sz13, sz14, sz15, sz16, sz17, sz18, sz19, sz20, sz21, sz22, sz23, sz24, sz25, cpow1018, true_and, and_true, Nat.reduceAdd, Nat.reduceLT, Nat.reduceSub, Int.reduceNe, Int.reduceEq, Int.reduceLT, Int.reduceLE, Int.reduceToNat, ne_eq, not_false_eq_true, List.length_map, Nat.lt_irrefl, dV_nx, dV_rt, at0, at1, at2, at3, ix20, ix21, vSeq, vIfS, vTest, vTruth, truth, v2, v1, vN, vCons, vNil, vStar, vVar, vC, xIx, Vl.opI0, Vl.opI, pk, vSet, vAug, vAsg, xgSub, vRet, vRetN, vDrop, vBreak, vCont, asD, asDs, opMod, opDiv, opMul2, Vl.opAdd, Vl.opAddO, opSub, opPow, opLt, Vl.opLe, opGt, Vl.opGe, xEq, okEq_str, okEq_int, xIn, okIn, inD, xIsN, isNone_n, isNone_t, isNone_l, isNone_i, isNone_s, isMo, mob, pkm, gModI, gDivI, gSubI, gMulI, gPowI, gGt, gLt, gLe, gGe, vNotT, vAndT, vOrT, vAndV, vOrV, opNot, opNotG, vIfE, opTup, opLst, opLstO, Vl.opLen, Vl.opInt, opList, opListO, opTuple, opII, gMax, gMin, vM, vM0, isT, xPop, Vl.opAppend, opExtend, opJoin, vgName, vgTup, vgCons, vgNil, kOpt_some, kOpn_some, kOps_some, Vl.opSum, Vl.opInsert, Vl.opIndex, opDivmod, vSl, vPart, vNoPart, opSl, opSlO, opRev, opCallK, ownD, ownO, objs, renum, uniq, getS, putS, vCall0, vFor, vForW, En.wk, vSeqI, vTupI, vRng1, vRng2, vEnum, vZip, chkOf, vLcK, vYes, finD, finO, En.wipe, wipeE, En.trim, trimS, dropNone, clr_n, clr_v, clr_k, clr_o, wth, Vl.ret, takeS, startV,  List.map_cons, List.map_nil, List.length_cons, List.length_nil, List.cons_append, List.nil_append, List.replicate, List.getElem?_cons_succ, List.getElem?_cons_zero, List.getElem?_nil, List.set_cons_succ, List.set_cons_zero, List.set_nil, List.all_nil, List.all_cons, Bool.true_and, Option.map_some, Option.map_none, if_true, if_false, decide_eq_true_eq, Bool.false_eq_true, List.take_succ_cons, List.take_zero, List.take_nil, List.drop_succ_cons, List.drop_zero, List.drop_nil, reduceIte, reduceCtorEq]
      rw [vNext_mk]
      exact fin c (by rw [lvs_app]; simp only [Kd.inn, lvs, List.map_cons, List.map_nil, List.sum_cons, List.sum_nil, Kd.leaves] at *; omega) (.inr trivial)
    | both x y =>
      simp only [t_leavesof_3, Kd.inn, List.isEmpty_cons, flatD, List.any_cons, List.any_nil, eqv_str, eqv_int, eqv_ti, eqv_it, eqv_st, eqv_ts, cut1, Bool.or_false, Bool.or_true, Bool.and_self, Bool.and_true, Bool.and_false, Bool.false_or, Bool.true_or, and_self, ofs_inj, ofs_app, ofs_len, String.reduceEq, String.reduceNe, String.reduceAppend, decide_true, decide_false, Bool.not_true, Bool.not_false, sz0, sz1, sz2, sz3, sz4, sz5, sz6, sz7, sz8, sz9, sz10, sz11, sz12, sz13, sz14, sz15, sz16, sz17, sz18, sz19, sz20, sz21, sz22, sz23, sz24, sz25, cpow1018, true_and, and_true, Nat.reduceAdd, Nat.reduceLT, Nat.reduceSub, Int.reduceNe, Int.reduceEq, Int.reduceLT, Int.reduceLE, Int.reduceToNat, ne_eq, not_false_eq_true, List.length_map, Nat.lt_irrefl, dV_nx, dV_rt, at0, at1, at2, at3, ix20, ix21, vSeq, vIfS, vTest, vTruth, truth, v2, v1, vN, vCons, vNil, vStar, vVar, vC, xIx, Vl.opI0, Vl.opI, pk, vSet, vAug, vAsg, xgSub, vRet, vRetN, vDrop, vBreak, vCont, asD, asDs, opMod, opDiv, opMul2, Vl.opAdd, Vl.opAddO, opSub, opPow, opLt, Vl.opLe, opGt, Vl.opGe, xEq, okEq_str, okEq_int, xIn, okIn, inD, xIsN, isNone_n, isNone_t, isNone_l, isNone_i, isNone_s, isMo, mob, pkm, gModI, gDivI, gSubI, gMulI, gPowI, gGt, gLt, gLe, gGe, vNotT, vAndT, vOrT, vAndV, vOrV, opNot, opNotG, vIfE, opTup, opLst, opLstO, Vl.opLen, Vl.opInt, opList, opListO, opTuple, opII, gMax, gMin, vM, vM0, isT, xPop, Vl.opAppend, opExtend, opJoin, vgName, vgTup, vgCons, vgNil, kOpt_some, kOpn_some, kOps_some, Vl.opSum, Vl.opInsert, Vl.opIndex, opDivmod, vSl, vPart, vNoPart, opSl, opSlO, opRev, opCallK, ownD, ownO, objs, renum, uniq, getS, putS, vCall0, vFor, vForW, En.wk, vSeqI, vTupI, vRng1, vRng2, vEnum, vZip, chkOf, vLcK, vYes, finD, finO, En.wipe, wipeE, En.trim, trimS, dropNone, clr_n, clr_v, clr_k, clr_o, wth, Vl.ret, takeS, startV,  List.map_cons, List.map_nil, List.length_cons, List.length_nil, List.cons_append, List.nil_append, List.replicate, List.getElem?_cons_succ, List.getElem?_cons_zero, List.getElem?_nil, List.set_cons_succ, List.set_cons_zero, List.set_nil, List.all_nil, List.all_cons, Bool.true_and, Option.map_some, Option.map_none, if_true, if_false, decide_eq_true_eq, Bool.false_eq_true, List.take_succ_cons, List.take_zero, List.take_nil, List.drop_succ_cons, List.drop_zero, List.drop_nil, reduceIte, reduceCtorEq]
      rw [vNext_mk]
      exact fin c (by rw [lvs_app]; simp only [Kd.inn, lvs, List.map_cons, List.map_nil, List.sum_cons, List.sum_nil, Kd.leaves] at *; omega) (.inr trivial)
end Kf
namespace Kf
open PySem L2 Vl PySem.Spec PyProof.Rows
def pNumWith (N : Nat) : VSp := fun ss st Kp => ∃ (ms : List Str) (q : Nat) (k : Kd), ss = [.val (.list (ms.map .str)), .val (.list ((cat ms.length q).map .int)), .val k.enc] ∧ st = [] ∧ ms.length ≤ 4 ∧ (∀ m ∈ ms, PyData.strOk m = true) ∧ q ≤ 9 ∧ k.over ms ∧ k.leaves ≤ q + 1 ∧ k.leaves ≤ N ∧
  Kp (.val (.tuple [.int (k.leaves : Nat), .int (k.num ms)])) []
theorem nw_two {N : Nat} {Kp} {ms : List Str} {q : Nat} {x y : Kd} (b : Bool) (hm : ms.length ≤ 4) (hok : ∀ m ∈ ms, PyData.strOk m = true) (hq : q ≤ 9) (ox : x.over ms) (oy : y.over ms) (hl : x.leaves + y.leaves ≤ q + 1) (hN : x.leaves + y.leaves ≤ N + 1)
    (k : Kp (.val (.tuple [.int ((x.leaves + y.leaves : Nat) : Int), .int ((if b then Kd.to x y else .both x y).num ms)])) []) :
    t_numberwith_10 (pNumWith N) (dV 0 Kp) ⟨[some (.val (.list (ms.map .str))), some (.val (.list ((cat ms.length q).map .int))), some (.val (.tuple [.str (if b then "to" else "both"), x.enc, y.enc])), none, none, none, none, none, none], []⟩ := by
  have px := x.leaves_pos
  have py := y.leaves_pos
  simp only [t_numberwith_10, pNumWith, flatD, List.any_cons, List.any_nil, eqv_str, eqv_int, eqv_ti, eqv_it, eqv_st, eqv_ts, cut1, Bool.or_false, Bool.or_true, Bool.and_self, Bool.and_true, Bool.and_false, Bool.false_or, Bool.true_or, and_self, ofs_inj, ofs_app, ofs_len, String.reduceEq, String.reduceNe, String.reduceAppend, decide_true, decide_false, Bool.not_true, Bool.not_false, sz0, sz1, sz2, sz3, sz4, sz5, sz6, sz7, sz8, sz9, sz10, sz11, sz12, sz13, sz14, sz15, sz16, sz17, sz18, sz19, sz20, sz21, sz22, sz23, sz24, sz25, cpow1018, true_and, and_true, Nat.reduceAdd, Nat.reduceLT, Nat.reduceSub, Int.reduceNe, Int.reduceEq, Int.reduceLT, Int.reduceLE, Int.reduceToNat, ne_eq, not_false_eq_true, List.length_map, Nat.lt_irrefl, dV_nx, dV_rt, at0, at1, at2, at3, ix20, ix21, vSeq, vIfS, vTest, vTruth, truth, v2, v1, vN, vCons, vNil, vStar, vVar, vC, xIx, Vl.opI0, Vl.opI, pk, vSet, vAug, vAsg, xgSub, vRet, vRetN, vDrop, vBreak, vCont, asD, asDs, opMod, opDiv, opMul2, Vl.opAdd, Vl.opAddO, opSub, opPow, opLt, Vl.opLe, opGt, Vl.opGe, xEq, okEq_str, okEq_int, xIn, okIn, inD, xIsN, isNone_n, isNone_t, isNone_l, isNone_i, isNone_s, isMo, mob, pkm, gModI, gDivI, gSubI, gMulI, gPowI, gGt, gLt, gLe, gGe, vNotT, vAndT, vOrT, vAndV, vOrV, opNot, opNotG, vIfE, opTup, opLst, opLstO, Vl.opLen, Vl.opInt, opList, opListO, opTuple, opII, gMax, gMin, vM, vM0, isT, xPop, Vl.opAppend, opExtend, opJoin, vgName, vgTup, vgCons, vgNil, kOpt_some, kOpn_some, kOps_some, Vl.opSum, Vl.opInsert, Vl.opIndex, opDivmod, vSl, vPart, vNoPart, opSl, opSlO, opRev, opCallK, ownD, ownO, objs, renum, uniq, getS, putS, vCall0, vFor, vForW, En.wk, vSeqI, vTupI, vRng1, vRng2, vEnum, vZip, chkOf, vLcK, vYes, finD, finO, En.wipe, wipeE, En.trim, trimS, dropNone, clr_n, clr_v, clr_k, clr_o, wth, Vl.ret, takeS, startV,  List.map_cons, List.map_nil, List.length_cons, List.length_nil, List.cons_append, List.nil_append, List.replicate, List.getElem?_cons_succ, List.getElem?_cons_zero, List.getElem?_nil, List.set_cons_succ, List.set_cons_zero, List.set_nil, List.all_nil, List.all_cons, Bool.true_and, Option.map_some, Option.map_none, if_true, if_false, decide_eq_true_eq, Bool.false_eq_true, List.take_succ_cons, List.take_zero, List.take_nil, List.drop_succ_cons, List.drop_zero, List.drop_nil, reduceIte, reduceCtorEq]
  refine ⟨ms, q, x, rfl, hm, hok, hq, ox, by omega, by omega, ?_⟩
  simp only [t_numberwith_9, pNumWith, flatD, List.any_cons, List.any_nil, eqv_str, eqv_int, eqv_ti, eqv_it, eqv_st, eqv_ts, cut1, Bool.or_false, Bool.or_true, Bool.and_self, Bool.and_true, Bool.and_false, Bool.false_or, Bool.true_or, and_self, ofs_inj, ofs_app, ofs_len, String.reduceEq, String.reduceNe, String.reduceAppend, decide_true, decide_false, Bool.not_true, Bool.not_false, sz0, sz1, sz2, sz3, sz4, sz5, sz6, sz7, sz8, sz9, sz10, sz11, sz12, sz13, sz14, sz15, sz16, sz17, sz18, sz19, sz20, sz21, sz22, sz23, sz24, sz25, cpow1018, true_and, and_true, Nat.reduceAdd, Nat.reduceLT, Nat.reduceSub, Int.reduceNe, Int.reduceEq, Int.reduceLT, Int.reduceLE, Int.reduceToNat, ne_eq, not_false_eq_true, List.length_map, Nat.lt_irrefl, dV_nx, dV_rt, at0, at1, at2, at3, ix20, ix21, vSeq, vIfS, vTest, vTruth, truth, v2, v1, vN, vCons, vNil, vStar, vVar, vC, xIx, Vl.opI0, Vl.opI, pk, vSet, vAug, vAsg, xgSub, vRet, vRetN, vDrop, vBreak, vCont, asD, asDs, opMod, opDiv, opMul2, Vl.opAdd, Vl.opAddO, opSub, opPow, opLt, Vl.opLe, opGt, Vl.opGe, xEq, okEq_str, okEq_int, xIn, okIn, inD, xIsN, isNone_n, isNone_t, isNone_l, isNone_i, isNone_s, isMo, mob, pkm, gModI, gDivI, gSubI, gMulI, gPowI, gGt, gLt, gLe, gGe, vNotT, vAndT, vOrT, vAndV, vOrV, opNot, opNotG, vIfE, opTup, opLst, opLstO, Vl.opLen, Vl.opInt, opList, opListO, opTuple, opII, gMax, gMin, vM, vM0, isT, xPop, Vl.opAppend, opExtend, opJoin, vgName, vgTup, vgCons, vgNil, kOpt_some, kOpn_some, kOps_some, Vl.opSum, Vl.opInsert, Vl.opIndex, opDivmod, vSl, vPart, vNoPart, opSl, opSlO, opRev, opCallK, ownD, ownO, objs, renum, uniq, getS, putS, vCall0, vFor, vForW, En.wk, vSeqI, vTupI, vRng1, vRng2, vEnum, vZip, chkOf, vLcK, vYes, finD, finO, En.wipe, wipeE, En.trim, trimS, dropNone, clr_n, clr_v, clr_k, clr_o, wth, Vl.ret, takeS, startV,  List.map_cons, List.map_nil, List.length_cons, List.length_nil, List.cons_append, List.nil_append, List.replicate, List.getElem?_cons_succ, List.getElem?_cons_zero, List.getElem?_nil, List.set_cons_succ, List.set_cons_zero, List.set_nil, List.all_nil, List.all_cons, Bool.true_and, Option.map_some, Option.map_none, if_true, if_false, decide_eq_true_eq, Bool.false_eq_true, List.take_succ_cons, List.take_zero, List.take_nil, List.drop_succ_cons, List.drop_zero, List.drop_nil, reduceIte, reduceCtorEq]
  refine ⟨ms, q, y, rfl, hm, hok, hq, oy, by omega, by omega, ?_⟩
  simp only [t_numberwith_8, flatD, List.any_cons, List.any_nil, eqv_str, eqv_int, eqv_ti, eqv_it, eqv_st, eqv_ts, cut1, Bool.or_false, Bool.or_true, Bool.and_self, Bool.and_true, Bool.and_false, Bool.false_or, Bool.true_or, and_self, ofs_inj, ofs_app, ofs_len, String.reduceEq, String.reduceNe, String.reduceAppend, decide_true, decide_false, Bool.not_true, Bool.not_false, sz0, sz1, sz2, sz3, sz4, sz5, sz6, sz7, sz8, sz9, sz10, sz11, sz12, sz13, sz14, sz15, sz16, sz17, sz18, sz19, sz20, sz21, sz22, sz23, sz24, sz25, cpow1018, true_and, and_true, Nat.reduceAdd, Nat.reduceLT, Nat.reduceSub, Int.reduceNe, Int.reduceEq, Int.reduceLT, Int.reduceLE, Int.reduceToNat, ne_eq, not_false_eq_true, List.length_map, Nat.lt_irrefl, dV_nx, dV_rt, at0, at1, at2, at3, ix20, ix21, vSeq, vIfS, vTest, vTruth, truth, v2, v1, vN, vCons, vNil, vStar, vVar, vC, xIx, Vl.opI0, Vl.opI, pk, vSet, vAug, vAsg, xgSub, vRet, vRetN, vDrop, vBreak, vCont, asD, asDs, opMod, opDiv, opMul2, Vl.opAdd, Vl.opAddO, opSub, opPow, opLt, Vl.opLe, opGt, Vl.opGe, xEq, okEq_str, okEq_int, xIn, okIn, inD, xIsN, isNone_n, isNone_t, isNone_l, isNone_i, isNone_s, isMo, mob, pkm, gModI, gDivI, gSubI, gMulI, gPowI, gGt, gLt, gLe, gGe, vNotT, vAndT, vOrT, vAndV, vOrV, opNot, opNotG, vIfE, opTup, opLst, opLstO, Vl.opLen, Vl.opInt, opList, opListO, opTuple, opII, gMax, gMin, vM, vM0, isT, xPop, Vl.opAppend, opExtend, opJoin, vgName, vgTup, vgCons, vgNil, kOpt_some, kOpn_some, kOps_some, Vl.opSum, Vl.opInsert, Vl.opIndex, opDivmod, vSl, vPart, vNoPart, opSl, opSlO, opRev, opCallK, ownD, ownO, objs, renum, uniq, getS, putS, vCall0, vFor, vForW, En.wk, vSeqI, vTupI, vRng1, vRng2, vEnum, vZip, chkOf, vLcK, vYes, finD, finO, En.wipe, wipeE, En.trim, trimS, dropNone, clr_n, clr_v, clr_k, clr_o, wth, Vl.ret, takeS, startV,  List.map_cons, List.map_nil, List.length_cons, List.length_nil, List.cons_append, List.nil_append, List.replicate, List.getElem?_cons_succ, List.getElem?_cons_zero, List.getElem?_nil, List.set_cons_succ, List.set_cons_zero, List.set_nil, List.all_nil, List.all_cons, Bool.true_and, Option.map_some, Option.map_none, if_true, if_false, decide_eq_true_eq, Bool.false_eq_true, List.take_succ_cons, List.take_zero, List.take_nil, List.drop_succ_cons, List.drop_zero, List.drop_nil, reduceIte, reduceCtorEq]
  refine ⟨⟨by omega, by omega⟩, ?_⟩
  rw [rng_eq]
  refine cl_mapE _ (fun (f : Nat) => .int (2 * many ms.length (f + 1) * many ms.length (x.leaves + y.leaves - (f + 1)))) _ (by rw [List.length_range]; exact big (by simp; omega)) (fun f Kt hf hk => ?_) ?_
  · have hf := List.mem_range.mp hf
    have a1 : atI ((cat ms.length q).map PyData.int) (1 + (f : Nat)) = some (.int (many ms.length (f + 1))) := by
      rw [show (1 + (f : Nat) : Int) = ((f + 1 : Nat) : Int) from by omega]
      exact at_many (by omega) (by omega)
    have a2 : atI ((cat ms.length q).map PyData.int) ((x.leaves : Nat) + (y.leaves : Nat) - (1 + (f : Nat))) = some (.int (many ms.length (x.leaves + y.leaves - (f + 1)))) := by
      rw [show ((x.leaves : Nat) + (y.leaves : Nat) - (1 + (f : Nat)) : Int) = ((x.leaves + y.leaves - (f + 1) : Nat) : Int) from by omega]
      exact at_many (by omega) (by omega)
    have b1 := many_bound (b := ms.length) (n := f + 1) hm (by omega)
    have b2 := many_bound (b := ms.length) (n := x.leaves + y.leaves - (f + 1)) hm (by omega)
    have p1 := many_pos ms.length (f + 1) (by omega)
    have p2 := many_pos ms.length (x.leaves + y.leaves - (f + 1)) (by omega)
    simp only [a1, a2, flatD, List.any_cons, List.any_nil, eqv_str, eqv_int, eqv_ti, eqv_it, eqv_st, eqv_ts, cut1, Bool.or_false, Bool.or_true, Bool.and_self, Bool.and_true, Bool.and_false, Bool.false_or, Bool.true_or, and_self, ofs_inj, ofs_app, ofs_len, String.reduceEq, String.reduceNe, String.reduceAppend, decide_true, decide_false, Bool.not_true, Bool.not_false, sz0, sz1, sz2, sz3, sz4, sz5, sz6, sz7, sz8, sz9, sz10, sz11, sz12, sz13, sz14, sz15, sz16, sz17, sz18, sz19, sz20, sz21, sz22, sz23, sz24, sz25, cpow1018, true_and, and_true, Nat.reduceAdd, Nat.reduceLT, Nat.reduceSub, Int.reduceNe, Int.reduceEq, Int.reduceLT, Int.reduceLE, Int.reduceToNat, ne_eq, not_false_eq_true, List.length_map, Nat.lt_irrefl, dV_nx, dV_rt, at0, at1, at2, at3, ix20, ix21, vSeq, vIfS, vTest, vTruth, truth, v2, v1, vN, vCons, vNil, vStar, vVar, vC, xIx, Vl.opI0, Vl.opI, pk, vSet, vAug, vAsg, xgSub, vRet, vRetN, vDrop, vBreak, vCont, asD, asDs, opMod, opDiv, opMul2, Vl.opAdd, Vl.opAddO, opSub, opPow, opLt, Vl.opLe, opGt, Vl.opGe, xEq, okEq_str, okEq_int, xIn, okIn, inD, xIsN, isNone_n, isNone_t, isNone_l, isNone_i, isNone_s, isMo, mob, pkm, gModI, gDivI, gSubI, gMulI, gPowI, gGt, gLt, gLe, gGe, vNotT, vAndT, vOrT, vAndV, vOrV, opNot, opNotG, vIfE, opTup, opLst, opLstO, Vl.opLen, Vl.opInt, opList, opListO, opTuple, opII, gMax, gMin, vM, vM0, isT, xPop, Vl.opAppend, opExtend, opJoin, vgName, vgTup, vgCons, vgNil, kOpt_some, kOpn_some, kOps_some, Vl.opSum, Vl.opInsert, Vl.opIndex, opDivmod, vSl, vPart, vNoPart, opSl, opSlO, opRev, opCallK, ownD, ownO, objs, renum, uniq, getS, putS, vCall0, vFor, vForW, En.wk, vSeqI, vTupI, vRng1, vRng2, vEnum, vZip, chkOf, vLcK, vYes, finD, finO, En.wipe, wipeE, En.trim, trimS, dropNone, clr_n, clr_v, clr_k, clr_o, wth, Vl.ret, takeS, startV,  List.map_cons, List.map_nil, List.length_cons, List.length_nil, List.cons_append, List.nil_append, List.replicate, List.getElem?_cons_succ, List.getElem?_cons_zero, List.getElem?_nil, List.set_cons_succ, List.set_cons_zero, List.set_nil, List.all_nil, List.all_cons, Bool.true_and, Option.map_some, Option.map_none, if_true, if_false, decide_eq_true_eq, Bool.false_eq_true, List.take_succ_cons, List.take_zero, List.take_nil, List.drop_succ_cons, List.drop_zero, List.drop_nil, reduceIte, reduceCtorEq]
    exact ⟨by unfold CMul; omega, by unfold CMul; omega, hk _ rfl⟩
  · have a2 : atI ((cat ms.length q).map PyData.int) (y.leaves : Nat) = some (.int (many ms.length y.leaves)) := at_many (by omega) (by omega)
    have a1 : atI ((cat ms.length q).map PyData.int) (x.leaves : Nat) = some (.int (many ms.length x.leaves)) := at_many (by omega) (by omega)
    have b1 := many_bound (b := ms.length) (n := x.leaves) hm (by omega)
    have b2 := many_bound (b := ms.length) (n := y.leaves) hm (by omega)
    have p1 := many_pos ms.length x.leaves (by omega)
    have p2 := many_pos ms.length y.leaves (by omega)
    have eo : ((List.range ((x.leaves : Int) - 1).toNat).map fun f => 2 * many ms.length (f + 1) * many ms.length (x.leaves + y.leaves - (f + 1))).sum = off ms.length (x.leaves + y.leaves) (x.leaves - 1) := by
      rw [show ((x.leaves : Int) - 1).toNat = x.leaves - 1 from by omega]
      rfl
    simp only [List.nil_append, intsD_f, eo, flatD, List.any_cons, List.any_nil, eqv_str, eqv_int, eqv_ti, eqv_it, eqv_st, eqv_ts, cut1, Bool.or_false, Bool.or_true, Bool.and_self, Bool.and_true, Bool.and_false, Bool.false_or, Bool.true_or, and_self, ofs_inj, ofs_app, ofs_len, String.reduceEq, String.reduceNe, String.reduceAppend, decide_true, decide_false, Bool.not_true, Bool.not_false, sz0, sz1, sz2, sz3, sz4, sz5, sz6, sz7, sz8, sz9, sz10, sz11, sz12, sz13, sz14, sz15, sz16, sz17, sz18, sz19, sz20, sz21, sz22, sz23, sz24, sz25, cpow1018, true_and, and_true, Nat.reduceAdd, Nat.reduceLT, Nat.reduceSub, Int.reduceNe, Int.reduceEq, Int.reduceLT, Int.reduceLE, Int.reduceToNat, ne_eq, not_false_eq_true, List.length_map, Nat.lt_irrefl, dV_nx, dV_rt, at0, at1, at2, at3, ix20, ix21, vSeq, vIfS, vTest, vTruth, truth, v2, v1, vN, vCons, vNil, vStar, vVar, vC, xIx, Vl.opI0, Vl.opI, pk, vSet, vAug, vAsg, xgSub, vRet, vRetN, vDrop, vBreak, vCont, asD, asDs, opMod, opDiv, opMul2, Vl.opAdd, Vl.opAddO, opSub, opPow, opLt, Vl.opLe, opGt, Vl.opGe, xEq, okEq_str, okEq_int, xIn, okIn, inD, xIsN, isNone_n, isNone_t, isNone_l, isNone_i, isNone_s, isMo, mob, pkm, gModI, gDivI, gSubI, gMulI, gPowI, gGt, gLt, gLe, gGe, vNotT, vAndT, vOrT, vAndV, vOrV, opNot, opNotG, vIfE, opTup, opLst, opLstO, Vl.opLen, Vl.opInt, opList, opListO, opTuple, opII, gMax, gMin, vM, vM0, isT, xPop, Vl.opAppend, opExtend, opJoin, vgName, vgTup, vgCons, vgNil, kOpt_some, kOpn_some, kOps_some, Vl.opSum, Vl.opInsert, Vl.opIndex, opDivmod, vSl, vPart, vNoPart, opSl, opSlO, opRev, opCallK, ownD, ownO, objs, renum, uniq, getS, putS, vCall0, vFor, vForW, En.wk, vSeqI, vTupI, vRng1, vRng2, vEnum, vZip, chkOf, vLcK, vYes, finD, finO, En.wipe, wipeE, En.trim, trimS, dropNone, clr_n, clr_v, clr_k, clr_o, wth, Vl.ret, takeS, startV,  List.map_cons, List.map_nil, List.length_cons, List.length_nil, List.cons_append, List.nil_append, List.replicate, List.getElem?_cons_succ, List.getElem?_cons_zero, List.getElem?_nil, List.set_cons_succ, List.set_cons_zero, List.set_nil, List.all_nil, List.all_cons, Bool.true_and, Option.map_some, Option.map_none, if_true, if_false, decide_eq_true_eq, Bool.false_eq_true, List.take_succ_cons, List.take_zero, List.take_nil, List.drop_succ_cons, List.drop_zero, List.drop_nil, reduceIte, reduceCtorEq]
    have el : ((x.leaves : Nat) + (y.leaves : Nat) : Int) = ((x.leaves + y.leaves : Nat) : Int) := by omega
    cases b with
    | true =>
      simp only [t_numberwith_7, t_numberwith_6, a2, flatD, List.any_cons, List.any_nil, eqv_str, eqv_int, eqv_ti, eqv_it, eqv_st, eqv_ts, cut1, Bool.or_false, Bool.or_true, Bool.and_self, Bool.and_true, Bool.and_false, Bool.false_or, Bool.true_or, and_self, ofs_inj, ofs_app, ofs_len, String.reduceEq, String.reduceNe, String.reduceAppend, decide_true, decide_false, Bool.not_true, Bool.not_false, sz0, sz1, sz2, sz3, sz4, sz5, sz6, sz7, sz8, sz9, sz10, sz11, sz12, sz13, sz14, sz15, sz16, sz17, sz18, sz19, sz20, sz21, sz22, sz23, sz24, sz25, cpow1018, true_and, and_true, Nat.reduceAdd, Nat.reduceLT, Nat.reduceSub, Int.reduceNe, Int.reduceEq, Int.reduceLT, Int.reduceLE, Int.reduceToNat, ne_eq, not_false_eq_true, List.length_map, Nat.lt_irrefl, dV_nx, dV_rt, at0, at1, at2, at3, ix20, ix21, vSeq, vIfS, vTest, vTruth, truth, v2, v1, vN, vCons, vNil, vStar, vVar, vC, xIx, Vl.opI0, Vl.opI, pk, vSet, vAug, vAsg, xgSub, vRet, vRetN, vNext_mk, vDrop, vBreak, vCont, asD, asDs, opMod, opDiv, opMul2, Vl.opAdd, Vl.opAddO, opSub, opPow, opLt, Vl.opLe, opGt, Vl.opGe, xEq, okEq_str, okEq_int, xIn, okIn, inD, xIsN, isNone_n, isNone_t, isNone_l, isNone_i, isNone_s, isMo, mob, pkm, gModI, gDivI, gSubI, gMulI, gPowI, gGt, gLt, gLe, gGe, vNotT, vAndT, vOrT, vAndV, vOrV, opNot, opNotG, vIfE, opTup, opLst, opLstO, Vl.opLen, Vl.opInt, opList, opListO, opTuple, opII, gMax, gMin, vM, vM0, isT, xPop, Vl.opAppend, opExtend, opJoin, vgName, vgTup, vgCons, vgNil, kOpt_some, kOpn_some, kOps_some, Vl.opSum, Vl.opInsert, Vl.opIndex, opDivmod, vSl, vPart, vNoPart, opSl, opSlO, opRev, opCallK, ownD, ownO, objs, renum, uniq, getS, putS, vCall0, vFor, vForW, En.wk, vSeqI, vTupI, vRng1, vRng2, vEnum, vZip, chkOf, vLcK, vYes, finD, finO, En.wipe, wipeE, En.trim, trimS, dropNone, clr_n, clr_v, clr_k, clr_o, wth, Vl.ret, takeS, startV,  List.map_cons, List.map_nil, List.length_cons, List.length_nil, List.cons_append, List.nil_append, List.replicate, List.getElem?_cons_succ, List.getElem?_cons_zero, List.getElem?_nil, List.set_cons_succ, List.set_cons_zero, List.set_nil, List.all_nil, List.all_cons, Bool.true_and, Option.map_some, Option.map_none, if_true, if_false, decide_eq_true_eq, Bool.false_eq_true, List.take_succ_cons, List.take_zero, List.take_nil, List.drop_succ_cons, List.drop_zero, List.drop_nil, reduceIte, reduceCtorEq]
      refine ⟨by unfold CMul; omega, ?_⟩
      rw [el]
      exact k
    | false =>
      simp only [t_numberwith_7, t_numberwith_5, a1, a2, flatD, List.any_cons, List.any_nil, eqv_str, eqv_int, eqv_ti, eqv_it, eqv_st, eqv_ts, cut1, Bool.or_false, Bool.or_true, Bool.and_self, Bool.and_true, Bool.and_false, Bool.false_or, Bool.true_or, and_self, ofs_inj, ofs_app, ofs_len, String.reduceEq, String.reduceNe, String.reduceAppend, decide_true, decide_false, Bool.not_true, Bool.not_false, sz0, sz1, sz2, sz3, sz4, sz5, sz6, sz7, sz8, sz9, sz10, sz11, sz12, sz13, sz14, sz15, sz16, sz17, sz18, sz19, sz20, sz21, sz22, sz23, sz24, sz25, cpow1018, true_and, and_true, Nat.reduceAdd, Nat.reduceLT, Nat.reduceSub, Int.reduceNe, Int.reduceEq, Int.reduceLT, Int.reduceLE, Int.reduceToNat, ne_eq, not_false_eq_true, List.length_map, Nat.lt_irrefl, dV_nx, dV_rt, at0, at1, at2, at3, ix20, ix21, vSeq, vIfS, vTest, vTruth, truth, v2, v1, vN, vCons, vNil, vStar, vVar, vC, xIx, Vl.opI0, Vl.opI, pk, vSet, vAug, vAsg, xgSub, vRet, vRetN, vDrop, vBreak, vCont, asD, asDs, opMod, opDiv, opMul2, Vl.opAdd, Vl.opAddO, opSub, opPow, opLt, Vl.opLe, opGt, Vl.opGe, xEq, okEq_str, okEq_int, xIn, okIn, inD, xIsN, isNone_n, isNone_t, isNone_l, isNone_i, isNone_s, isMo, mob, pkm, gModI, gDivI, gSubI, gMulI, gPowI, gGt, gLt, gLe, gGe, vNotT, vAndT, vOrT, vAndV, vOrV, opNot, opNotG, vIfE, opTup, opLst, opLstO, Vl.opLen, Vl.opInt, opList, opListO, opTuple, opII, gMax, gMin, vM, vM0, isT, xPop, Vl.opAppend, opExtend, opJoin, vgName, vgTup, vgCons, vgNil, kOpt_some, kOpn_some, kOps_some, Vl.opSum, Vl.opInsert, Vl.opIndex, opDivmod, vSl, vPart, vNoPart, opSl, opSlO, opRev, opCallK, ownD, ownO, objs, renum, uniq, getS, putS, vCall0, vFor, vForW, En.wk, vSeqI, vTupI, vRng1, vRng2, vEnum, vZip, chkOf, vLcK, vYes, finD, finO, En.wipe, wipeE, En.trim, trimS, dropNone, clr_n, clr_v, clr_k, clr_o, wth, Vl.ret, takeS, startV,  List.map_cons, List.map_nil, List.length_cons, List.length_nil, List.cons_append, List.nil_append, List.replicate, List.getElem?_cons_succ, List.getElem?_cons_zero, List.getElem?_nil, List.set_cons_succ, List.set_cons_zero, List.set_nil, List.all_nil, List.all_cons, Bool.true_and, Option.map_some, Option.map_none, if_true, if_false, decide_eq_true_eq, Bool.false_eq_true, List.take_succ_cons, List.take_zero, List.take_nil, List.drop_succ_cons, List.drop_zero, List.drop_nil, reduceIte, reduceCtorEq]
      refine ⟨by unfold CMul; omega, ?_⟩
      simp only [t_numberwith_6, a2, flatD, List.any_cons, List.any_nil, eqv_str, eqv_int, eqv_ti, eqv_it, eqv_st, eqv_ts, cut1, Bool.or_false, Bool.or_true, Bool.and_self, Bool.and_true, Bool.and_false, Bool.false_or, Bool.true_or, and_self, ofs_inj, ofs_app, ofs_len, String.reduceEq, String.reduceNe, String.reduceAppend, decide_true, decide_false, Bool.not_true, Bool.not_false, sz0, sz1, sz2, sz3, sz4, sz5, sz6, sz7, sz8, sz9, sz10, sz11, sz12, sz13, sz14, sz15, sz16, sz17, sz18, sz19, sz20, sz21, sz22, sz23, sz24, sz25, cpow1018, true_and, and_true, Nat.reduceAdd, Nat.reduceLT, Nat.reduceSub, Int.reduceNe, Int.reduceEq, Int.reduceLT, Int.reduceLE, Int.reduceToNat, ne_eq, not_false_eq_true, List.length_map, Nat.lt_irrefl, dV_nx, dV_rt, at0, at1, at2, at3, ix20, ix21, vSeq, vIfS, vTest, vTruth, truth, v2, v1, vN, vCons, vNil, vStar, vVar, vC, xIx, Vl.opI0, Vl.opI, pk, vSet, vAug, vAsg, xgSub, vRet, vRetN, vDrop, vBreak, vCont, asD, asDs, opMod, opDiv, opMul2, Vl.opAdd, Vl.opAddO, opSub, opPow, opLt, Vl.opLe, opGt, Vl.opGe, xEq, okEq_str, okEq_int, xIn, okIn, inD, xIsN, isNone_n, isNone_t, isNone_l, isNone_i, isNone_s, isMo, mob, pkm, gModI, gDivI, gSubI, gMulI, gPowI, gGt, gLt, gLe, gGe, vNotT, vAndT, vOrT, vAndV, vOrV, opNot, opNotG, vIfE, opTup, opLst, opLstO, Vl.opLen, Vl.opInt, opList, opListO, opTuple, opII, gMax, gMin, vM, vM0, isT, xPop, Vl.opAppend, opExtend, opJoin, vgName, vgTup, vgCons, vgNil, kOpt_some, kOpn_some, kOps_some, Vl.opSum, Vl.opInsert, Vl.opIndex, opDivmod, vSl, vPart, vNoPart, opSl, opSlO, opRev, opCallK, ownD, ownO, objs, renum, uniq, getS, putS, vCall0, vFor, vForW, En.wk, vSeqI, vTupI, vRng1, vRng2, vEnum, vZip, chkOf, vLcK, vYes, finD, finO, En.wipe, wipeE, En.trim, trimS, dropNone, clr_n, clr_v, clr_k, clr_o, wth, Vl.ret, takeS, startV,  List.map_cons, List.map_nil, List.length_cons, List.length_nil, List.cons_append, List.nil_append, List.replicate, List.getElem?_cons_succ, List.getElem?_cons_zero, List.getElem?_nil, List.set_cons_succ, List.set_cons_zero, List.set_nil, List.all_nil, List.all_cons, Bool.true_and, Option.map_some, Option.map_none, if_true, if_false, decide_eq_true_eq, Bool.false_eq_true, List.take_succ_cons, List.take_zero, List.take_nil, List.drop_succ_cons, List.drop_zero, List.drop_nil, reduceIte, reduceCtorEq]
      refine ⟨by unfold CMul; omega, ?_⟩
      rw [el]
      exact k
theorem r_numberwith {N : Nat} {ss cs Kp} (h : pNumWith (N + 1) ss cs Kp) : t_numberwith (pNumWith N) (dV cs.length Kp) ⟨startV 9 ss, cs.map some⟩ := by
  obtain ⟨ms, q, k, rfl, rfl, hm, hok, hq, ho, hl, hN, kk⟩ := h
  cases k with
  | one =>
    simp only [t_numberwith, t_numberwith_12, t_numberwith_1, Kd.enc, flatD, List.any_cons, List.any_nil, eqv_str, eqv_int, eqv_ti, eqv_it, eqv_st, eqv_ts, cut1, Bool.or_false, Bool.or_true, Bool.and_self, Bool.and_true, Bool.and_false, Bool.false_or, Bool.true_or, and_self, ofs_inj, ofs_app, ofs_len, String.reduceEq, String.reduceNe, String.reduceAppend, decide_true, decide_false, Bool.not_true, Bool.not_false, sz0, sz1, sz2, sz3, sz4, sz5, sz6, sz7, sz8, sz9, sz10, sz11, sz12, sz13, sz14, sz15, sz16, sz17, sz18, sz19, sz20, sz21, sz22, sz23, sz24, sz25, cpow1018, true_and, and_true, Nat.reduceAdd, Nat.reduceLT, Nat.reduceSub, Int.reduceNe, Int.reduceEq, Int.reduceLT, Int.reduceLE, Int.reduceToNat, ne_eq, not_false_eq_true, List.length_map, Nat.lt_irrefl, dV_nx, dV_rt, at0, at1, at2, at3, ix20, ix21, vSeq, vIfS, vTest, vTruth, truth, v2, v1, vN, vCons, vNil, vStar, vVar, vC, xIx, Vl.opI0, Vl.opI, pk, vSet, vAug, vAsg, xgSub, vRet, vRetN, vDrop, vBreak, vCont, asD, asDs, opMod, opDiv, opMul2, Vl.opAdd, Vl.opAddO, opSub, opPow, opLt, Vl.opLe, opGt, Vl.opGe, xEq, okEq_str, okEq_int, xIn, okIn, inD, xIsN, isNone_n, isNone_t, isNone_l, isNone_i, isNone_s, isMo, mob, pkm, gModI, gDivI, gSubI, gMulI, gPowI, gGt, gLt, gLe, gGe, vNotT, vAndT, vOrT, vAndV, vOrV, opNot, opNotG, vIfE, opTup, opLst, opLstO, Vl.opLen, Vl.opInt, opList, opListO, opTuple, opII, gMax, gMin, vM, vM0, isT, xPop, Vl.opAppend, opExtend, opJoin, vgName, vgTup, vgCons, vgNil, kOpt_some, kOpn_some, kOps_some, Vl.opSum, Vl.opInsert, Vl.opIndex, opDivmod, vSl, vPart, vNoPart, opSl, opSlO, opRev, opCallK, ownD, ownO, objs, renum, uniq, getS, putS, vCall0, vFor, vForW, En.wk, vSeqI, vTupI, vRng1, vRng2, vEnum, vZip, chkOf, vLcK, vYes, finD, finO, En.wipe, wipeE, En.trim, trimS, dropNone, clr_n, clr_v, clr_k, clr_o, wth, Vl.ret, takeS, startV,  List.map_cons, List.map_nil, List.length_cons, List.length_nil, List.cons_append, List.nil_append, List.replicate, List.getElem?_cons_succ, List.getElem?_cons_zero, List.getElem?_nil, List.set_cons_succ, List.set_cons_zero, List.set_nil, List.all_nil, List.all_cons, Bool.true_and, Option.map_some, Option.map_none, if_true, if_false, decide_eq_true_eq, Bool.false_eq_true, List.take_succ_cons, List.take_zero, List.take_nil, List.drop_succ_cons, List.drop_zero, List.drop_nil, reduceIte, reduceCtorEq]
    exact kk
  | mark m =>
    have hmm : m ∈ ms := ho
    simp only [t_numberwith, t_numberwith_12, t_numberwith_11, t_numberwith_4, any_strs, decide_eq_true hmm, Kd.enc, flatD, List.any_cons, List.any_nil, eqv_str, eqv_int, eqv_ti, eqv_it, eqv_st, eqv_ts, cut1, Bool.or_false, Bool.or_true, Bool.and_self, Bool.and_true, Bool.and_false, Bool.false_or, Bool.true_or, and_self, ofs_inj, ofs_app, ofs_len, String.reduceEq, String.reduceNe, String.reduceAppend, decide_true, decide_false, Bool.not_true, Bool.not_false, sz0, sz1, sz2, sz3, sz4, sz5, sz6, sz7, sz8, sz9, sz10, sz11, sz12, sz13, sz14, sz15, sz16, sz17, sz18, sz19, sz20, sz21, sz22, sz23, sz24, sz25, cpow1018, true_and, and_true, Nat.reduceAdd, Nat.reduceLT, Nat.reduceSub, Int.reduceNe, Int.reduceEq, Int.reduceLT, Int.reduceLE, Int.reduceToNat, ne_eq, not_false_eq_true, List.length_map, Nat.lt_irrefl, dV_nx, dV_rt, at0, at1, at2, at3, ix20, ix21, vSeq, vIfS, vTest, vTruth, truth, v2, v1, vN, vCons, vNil, vStar, vVar, vC, xIx, Vl.opI0, Vl.opI, pk, vSet, vAug, vAsg, xgSub, vRet, vRetN, vNext_mk, vDrop, vBreak, vCont, asD, asDs, opMod, opDiv, opMul2, Vl.opAdd, Vl.opAddO, opSub, opPow, opLt, Vl.opLe, opGt, Vl.opGe, xEq, okEq_str, okEq_int, xIn, okIn, inD, xIsN, isNone_n, isNone_t, isNone_l, isNone_i, isNone_s, isMo, mob, pkm, gModI, gDivI, gSubI, gMulI, gPowI, gGt, gLt, gLe, gGe, vNotT, vAndT, vOrT, vAndV, vOrV, opNot, opNotG, vIfE, opTup, opLst, opLstO, Vl.opLen, Vl.opInt, opList, opListO, opTuple, opII, gMax, gMin, vM, vM0, isT, xPop, Vl.opAppend, opExtend, opJoin, vgName, vgTup, vgCons, vgNil, kOpt_some, kOpn_some, kOps_some, Vl.opSum, Vl.opInsert, Vl.opIndex, opDivmod, vSl, vPart, vNoPart, opSl, opSlO, opRev, opCallK, ownD, ownO, objs, renum, uniq, getS, putS, vCall0, vFor, vForW, En.wk, vSeqI, vTupI, vRng1, vRng2, vEnum, vZip, chkOf, vLcK, vYes, finD, finO, En.wipe, wipeE, En.trim, trimS, dropNone, clr_n, clr_v, clr_k, clr_o, wth, Vl.ret, takeS, startV,  List.map_cons, List.map_nil, List.length_cons, List.length_nil, List.cons_append, List.nil_append, List.replicate, List.getElem?_cons_succ, List.getElem?_cons_zero, List.getElem?_nil, List.set_cons_succ, List.set_cons_zero, List.set_nil, List.all_nil, List.all_cons, Bool.true_and, Option.map_some, Option.map_none, if_true, if_false, decide_eq_true_eq, Bool.false_eq_true, List.take_succ_cons, List.take_zero, List.take_nil, List.drop_succ_cons, List.drop_zero, List.drop_nil, reduceIte, reduceCtorEq]
    refine ⟨⟨shaped_str (hok m hmm), shaped_strs hok⟩, ?_⟩
    simp only [t_numberwith_3, ixD_strs m hmm, flatD, List.any_cons, List.any_nil, eqv_str, eqv_int, eqv_ti, eqv_it, eqv_st, eqv_ts, cut1, Bool.or_false, Bool.or_true, Bool.and_self, Bool.and_true, Bool.and_false, Bool.false_or, Bool.true_or, and_self, ofs_inj, ofs_app, ofs_len, String.reduceEq, String.reduceNe, String.reduceAppend, decide_true, decide_false, Bool.not_true, Bool.not_false, sz0, sz1, sz2, sz3, sz4, sz5, sz6, sz7, sz8, sz9, sz10, sz11, sz12, sz13, sz14, sz15, sz16, sz17, sz18, sz19, sz20, sz21, sz22, sz23, sz24, sz25, cpow1018, true_and, and_true, Nat.reduceAdd, Nat.reduceLT, Nat.reduceSub, Int.reduceNe, Int.reduceEq, Int.reduceLT, Int.reduceLE, Int.reduceToNat, ne_eq, not_false_eq_true, List.length_map, Nat.lt_irrefl, dV_nx, dV_rt, at0, at1, at2, at3, ix20, ix21, vSeq, vIfS, vTest, vTruth, truth, v2, v1, vN, vCons, vNil, vStar, vVar, vC, xIx, Vl.opI0, Vl.opI, pk, vSet, vAug, vAsg, xgSub, vRet, vRetN, vDrop, vBreak, vCont, asD, asDs, opMod, opDiv, opMul2, Vl.opAdd, Vl.opAddO, opSub, opPow, opLt, Vl.opLe, opGt, Vl.opGe, xEq, okEq_str, okEq_int, xIn, okIn, inD, xIsN, isNone_n, isNone_t, isNone_l, isNone_i, isNone_s, isMo, mob, pkm, gModI, gDivI, gSubI, gMulI, gPowI, gGt, gLt, gLe, gGe, vNotT, vAndT, vOrT, vAndV, vOrV, opNot, opNotG, vIfE, opTup, opLst, opLstO, Vl.opLen, Vl.opInt, opList, opListO, opTuple, opII, gMax, gMin, vM, vM0, isT, xPop, Vl.opAppend, opExtend, opJoin, vgName, vgTup, vgCons, vgNil, kOpt_some, kOpn_some, kOps_some, Vl.opSum, Vl.opInsert, Vl.opIndex, opDivmod, vSl, vPart, vNoPart, opSl, opSlO, opRev, opCallK, ownD, ownO, objs, renum, uniq, getS, putS, vCall0, vFor, vForW, En.wk, vSeqI, vTupI, vRng1, vRng2, vEnum, vZip, chkOf, vLcK, vYes, finD, finO, En.wipe, wipeE, En.trim, trimS, dropNone, clr_n, clr_v, clr_k, clr_o, wth, Vl.ret, takeS, startV,  List.map_cons, List.map_nil, List.length_cons, List.length_nil, List.cons_append, List.nil_append, List.replicate, List.getElem?_cons_succ, List.getElem?_cons_zero, List.getElem?_nil, List.set_cons_succ, List.set_cons_zero, List.set_nil, List.all_nil, List.all_cons, Bool.true_and, Option.map_some, Option.map_none, if_true, if_false, decide_eq_true_eq, Bool.false_eq_true, List.take_succ_cons, List.take_zero, List.take_nil, List.drop_succ_cons, List.drop_zero, List.drop_nil, reduceIte, reduceCtorEq]
    exact ⟨⟨shaped_strs hok, shaped_str (hok m hmm)⟩, kk⟩
  | to x y =>
    simp only [t_numberwith, t_numberwith_12, t_numberwith_11, Kd.enc, flatD, List.any_cons, List.any_nil, eqv_str, eqv_int, eqv_ti, eqv_it, eqv_st, eqv_ts, cut1, Bool.or_false, Bool.or_true, Bool.and_self, Bool.and_true, Bool.and_false, Bool.false_or, Bool.true_or, and_self, ofs_inj, ofs_app, ofs_len, String.reduceEq, String.reduceNe, String.reduceAppend, decide_true, decide_false, Bool.not_true, Bool.not_false, sz0, sz1, sz2, sz3, sz4, sz5, sz6, sz7, sz8, sz9, sz10, sz11, sz12, sz13, sz14, sz15, sz16, sz17, sz18, sz19, sz20, sz21, sz22, sz23, sz24, sz25, cpow1018, true_and, and_true, Nat.reduceAdd, Nat.reduceLT, Nat.reduceSub, Int.reduceNe, Int.reduceEq, Int.reduceLT, Int.reduceLE, Int.reduceToNat, ne_eq, not_false_eq_true, List.length_map, Nat.lt_irrefl, dV_nx, dV_rt, at0, at1, at2, at3, ix20, ix21, vSeq, vIfS, vTest, vTruth, truth, v2, v1, vN, vCons, vNil, vStar, vVar, vC, xIx, Vl.opI0, Vl.opI, pk, vSet, vAug, vAsg, xgSub, vRet, vRetN, vNext_mk, vDrop, vBreak, vCont, asD, asDs, opMod, opDiv, opMul2, Vl.opAdd, Vl.opAddO, opSub, opPow, opLt, Vl.opLe, opGt, Vl.opGe, xEq, okEq_str, okEq_int, xIn, okIn, inD, xIsN, isNone_n, isNone_t, isNone_l, isNone_i, isNone_s, isMo, mob, pkm, gModI, gDivI, gSubI, gMulI, gPowI, gGt, gLt, gLe, gGe, vNotT, vAndT, vOrT, vAndV, vOrV, opNot, opNotG, vIfE, opTup, opLst, opLstO, Vl.opLen, Vl.opInt, opList, opListO, opTuple, opII, gMax, gMin, vM, vM0, isT, xPop, Vl.opAppend, opExtend, opJoin, vgName, vgTup, vgCons, vgNil, kOpt_some, kOpn_some, kOps_some, Vl.opSum, Vl.opInsert, Vl.opIndex, opDivmod, vSl, vPart, vNoPart, opSl, opSlO, opRev, opCallK, ownD, ownO, objs, renum, uniq, getS, putS, vCall0, vFor, vForW, En.wk, vSeqI, vTupI, vRng1, vRng2, vEnum, vZip, chkOf, vLcK, vYes, finD, finO, En.wipe, wipeE, En.trim, trimS, dropNone, clr_n, clr_v, clr_k, clr_o, wth, Vl.ret, takeS, startV,  List.map_cons, List.map_nil, List.length_cons, List.length_nil, List.cons_append, List.nil_append, List.replicate, List.getElem?_cons_succ, List.getElem?_cons_zero, List.getElem?_nil, List.set_cons_succ, List.set_cons_zero, List.set_nil, List.all_nil, List.all_cons, Bool.true_and, Option.map_some, Option.map_none, if_true, if_false, decide_eq_true_eq, Bool.false_eq_true, List.take_succ_cons, List.take_zero, List.take_nil, List.drop_succ_cons, List.drop_zero, List.drop_nil, reduceIte, reduceCtorEq]
    exact nw_two true hm hok hq ho.1 ho.2 hl hN kk
  | both x y =>
    simp only [t_numberwith, t_numberwith_12, t_numberwith_11, Kd.enc, flatD, List.any_cons, List.any_nil, eqv_str, eqv_int, eqv_ti, eqv_it, eqv_st, eqv_ts, cut1, Bool.or_false, Bool.or_true, Bool.and_self, Bool.and_true, Bool.and_false, Bool.false_or, Bool.true_or, and_self, ofs_inj, ofs_app, ofs_len, String.reduceEq, String.reduceNe, String.reduceAppend, decide_true, decide_false, Bool.not_true, Bool.not_false, sz0, sz1, sz2, sz3, sz4, sz5, sz6, sz7, sz8, sz9, sz10, sz11, sz12, sz13, sz14, sz15, sz16, sz17, sz18, sz19, sz20, sz21, sz22, sz23, sz24, sz25, cpow1018, true_and, and_true, Nat.reduceAdd, Nat.reduceLT, Nat.reduceSub, Int.reduceNe, Int.reduceEq, Int.reduceLT, Int.reduceLE, Int.reduceToNat, ne_eq, not_false_eq_true, List.length_map, Nat.lt_irrefl, dV_nx, dV_rt, at0, at1, at2, at3, ix20, ix21, vSeq, vIfS, vTest, vTruth, truth, v2, v1, vN, vCons, vNil, vStar, vVar, vC, xIx, Vl.opI0, Vl.opI, pk, vSet, vAug, vAsg, xgSub, vRet, vRetN, vNext_mk, vDrop, vBreak, vCont, asD, asDs, opMod, opDiv, opMul2, Vl.opAdd, Vl.opAddO, opSub, opPow, opLt, Vl.opLe, opGt, Vl.opGe, xEq, okEq_str, okEq_int, xIn, okIn, inD, xIsN, isNone_n, isNone_t, isNone_l, isNone_i, isNone_s, isMo, mob, pkm, gModI, gDivI, gSubI, gMulI, gPowI, gGt, gLt, gLe, gGe, vNotT, vAndT, vOrT, vAndV, vOrV, opNot, opNotG, vIfE, opTup, opLst, opLstO, Vl.opLen, Vl.opInt, opList, opListO, opTuple, opII, gMax, gMin, vM, vM0, isT, xPop, Vl.opAppend, opExtend, opJoin, vgName, vgTup, vgCons, vgNil, kOpt_some, kOpn_some, kOps_some, Vl.opSum, Vl.opInsert, Vl.opIndex, opDivmod, vSl, vPart, vNoPart, opSl, opSlO, opRev, opCallK, ownD, ownO, objs, renum, uniq, getS, putS, vCall0, vFor, vForW, En.wk, vSeqI, vTupI, vRng1, vRng2, vEnum, vZip, chkOf, vLcK, vYes, finD, finO, En.wipe, wipeE, En.trim, trimS, dropNone, clr_n, clr_v, clr_k, clr_o, wth, Vl.ret, takeS, startV,  List.map_cons, List.map_nil, List.length_cons, List.length_nil, List.cons_append, List.nil_append, List.replicate, List.getElem?_cons_succ, List.getElem?_cons_zero, List.getElem?_nil, List.set_cons_succ, List.set_cons_zero, List.set_nil, List.all_nil, List.all_cons, Bool.true_and, Option.map_some, Option.map_none, if_true, if_false, decide_eq_true_eq, Bool.false_eq_true, List.take_succ_cons, List.take_zero, List.take_nil, List.drop_succ_cons, List.drop_zero, List.drop_nil, reduceIte, reduceCtorEq]
    exact nw_two false hm hok hq ho.1 ho.2 hl hN kk
def pKindNumber : VSp := fun ss st Kp => ∃ (ms : List Str) (k : Kd), ss = [.val (.list (ms.map .str)), .val k.enc] ∧ st = [] ∧ ms.length ≤ 4 ∧ (∀ m ∈ ms, PyData.strOk m = true) ∧ k.over ms ∧ k.leaves ≤ 10 ∧ Kp (.val (.tuple [.int (k.leaves : Nat), .int (k.num ms)])) []
theorem r_kindnumber {ss cs Kp} (h : pKindNumber ss cs Kp) : t_kindnumber pLeavesOf (pNumWith 10) pManyTo (dV cs.length Kp) ⟨startV 3 ss, cs.map some⟩ := by
  obtain ⟨ms, k, rfl, rfl, hm, hok, ho, hl, kk⟩ := h
  have kp := k.leaves_pos
  have e1 : decide ((10 : Int) < (k.leaves : Nat)) = false := decide_eq_false (by omega)
  simp only [t_kindnumber, t_kindnumber_4, pLeavesOf, flatD, List.any_cons, List.any_nil, eqv_str, eqv_int, eqv_ti, eqv_it, eqv_st, eqv_ts, cut1, Bool.or_false, Bool.or_true, Bool.and_self, Bool.and_true, Bool.and_false, Bool.false_or, Bool.true_or, and_self, ofs_inj, ofs_app, ofs_len, String.reduceEq, String.reduceNe, String.reduceAppend, decide_true, decide_false, Bool.not_true, Bool.not_false, sz0, sz1, sz2, sz3, sz4, sz5, sz6, sz7, sz8, sz9, sz10, sz11, sz12, sz13, sz14, sz15, sz16, sz17, sz18, sz19, sz20, sz21, sz22, sz23, sz24, sz25, cpow1018, true_and, and_true, Nat.reduceAdd, Nat.reduceLT, Nat.reduceSub, Int.reduceNe, Int.reduceEq, Int.reduceLT, Int.reduceLE, Int.reduceToNat, ne_eq, not_false_eq_true, List.length_map, Nat.lt_irrefl, dV_nx, dV_rt, at0, at1, at2, at3, ix20, ix21, vSeq, vIfS, vTest, vTruth, truth, v2, v1, vN, vCons, vNil, vStar, vVar, vC, xIx, Vl.opI0, Vl.opI, pk, vSet, vAug, vAsg, xgSub, vRet, vRetN, vDrop, vBreak, vCont, asD, asDs, opMod, opDiv, opMul2, Vl.opAdd, Vl.opAddO, opSub, opPow, opLt, Vl.opLe, opGt, Vl.opGe, xEq, okEq_str, okEq_int, xIn, okIn, inD, xIsN, isNone_n, isNone_t, isNone_l, isNone_i, isNone_s, isMo, mob, pkm, gModI, gDivI, gSubI, gMulI, gPowI, gGt, gLt, gLe, gGe, vNotT, vAndT, vOrT, vAndV, vOrV, opNot, opNotG, vIfE, opTup, opLst, opLstO, Vl.opLen, Vl.opInt, opList, opListO, opTuple, opII, gMax, gMin, vM, vM0, isT, xPop, Vl.opAppend, opExtend, opJoin, vgName, vgTup, vgCons, vgNil, kOpt_some, kOpn_some, kOps_some, Vl.opSum, Vl.opInsert, Vl.opIndex, opDivmod, vSl, vPart, vNoPart, opSl, opSlO, opRev, opCallK, ownD, ownO, objs, renum, uniq, getS, putS, vCall0, vFor, vForW, En.wk, vSeqI, vTupI, vRng1, vRng2, vEnum, vZip, chkOf, vLcK, vYes, finD, finO, En.wipe, wipeE, En.trim, trimS, dropNone, clr_n, clr_v, clr_k, clr_o, wth, Vl.ret, takeS, startV,  List.map_cons, List.map_nil, List.length_cons, List.length_nil, List.cons_append, List.nil_append, List.replicate, List.getElem?_cons_succ, List.getElem?_cons_zero, List.getElem?_nil, List.set_cons_succ, List.set_cons_zero, List.set_nil, List.all_nil, List.all_cons, Bool.true_and, Option.map_some, Option.map_none, if_true, if_false, decide_eq_true_eq, Bool.false_eq_true, List.take_succ_cons, List.take_zero, List.take_nil, List.drop_succ_cons, List.drop_zero, List.drop_nil, reduceIte, reduceCtorEq]
  refine ⟨k, rfl, by omega, ?_⟩
  simp only [t_kindnumber_3, e1, flatD, List.any_cons, List.any_nil, eqv_str, eqv_int, eqv_ti, eqv_it, eqv_st, eqv_ts, cut1, Bool.or_false, Bool.or_true, Bool.and_self, Bool.and_true, Bool.and_false, Bool.false_or, Bool.true_or, and_self, ofs_inj, ofs_app, ofs_len, String.reduceEq, String.reduceNe, String.reduceAppend, decide_true, decide_false, Bool.not_true, Bool.not_false, sz0, sz1, sz2, sz3, sz4, sz5, sz6, sz7, sz8, sz9, sz10, sz11, sz12, sz13, sz14, sz15, sz16, sz17, sz18, sz19, sz20, sz21, sz22, sz23, sz24, sz25, cpow1018, true_and, and_true, Nat.reduceAdd, Nat.reduceLT, Nat.reduceSub, Int.reduceNe, Int.reduceEq, Int.reduceLT, Int.reduceLE, Int.reduceToNat, ne_eq, not_false_eq_true, List.length_map, Nat.lt_irrefl, dV_nx, dV_rt, at0, at1, at2, at3, ix20, ix21, vSeq, vIfS, vTest, vTruth, truth, v2, v1, vN, vCons, vNil, vStar, vVar, vC, xIx, Vl.opI0, Vl.opI, pk, vSet, vAug, vAsg, xgSub, vRet, vRetN, vDrop, vBreak, vCont, asD, asDs, opMod, opDiv, opMul2, Vl.opAdd, Vl.opAddO, opSub, opPow, opLt, Vl.opLe, opGt, Vl.opGe, xEq, okEq_str, okEq_int, xIn, okIn, inD, xIsN, isNone_n, isNone_t, isNone_l, isNone_i, isNone_s, isMo, mob, pkm, gModI, gDivI, gSubI, gMulI, gPowI, gGt, gLt, gLe, gGe, vNotT, vAndT, vOrT, vAndV, vOrV, opNot, opNotG, vIfE, opTup, opLst, opLstO, Vl.opLen, Vl.opInt, opList, opListO, opTuple, opII, gMax, gMin, vM, vM0, isT, xPop, Vl.opAppend, opExtend, opJoin, vgName, vgTup, vgCons, vgNil, kOpt_some, kOpn_some, kOps_some, Vl.opSum, Vl.opInsert, Vl.opIndex, opDivmod, vSl, vPart, vNoPart, opSl, opSlO, opRev, opCallK, ownD, ownO, objs, renum, uniq, getS, putS, vCall0, vFor, vForW, En.wk, vSeqI, vTupI, vRng1, vRng2, vEnum, vZip, chkOf, vLcK, vYes, finD, finO, En.wipe, wipeE, En.trim, trimS, dropNone, clr_n, clr_v, clr_k, clr_o, wth, Vl.ret, takeS, startV,  List.map_cons, List.map_nil, List.length_cons, List.length_nil, List.cons_append, List.nil_append, List.replicate, List.getElem?_cons_succ, List.getElem?_cons_zero, List.getElem?_nil, List.set_cons_succ, List.set_cons_zero, List.set_nil, List.all_nil, List.all_cons, Bool.true_and, Option.map_some, Option.map_none, if_true, if_false, decide_eq_true_eq, Bool.false_eq_true, List.take_succ_cons, List.take_zero, List.take_nil, List.drop_succ_cons, List.drop_zero, List.drop_nil, reduceIte, reduceCtorEq]
  rw [vNext_mk]
  simp only [t_kindnumber_2, pManyTo, flatD, List.any_cons, List.any_nil, eqv_str, eqv_int, eqv_ti, eqv_it, eqv_st, eqv_ts, cut1, Bool.or_false, Bool.or_true, Bool.and_self, Bool.and_true, Bool.and_false, Bool.false_or, Bool.true_or, and_self, ofs_inj, ofs_app, ofs_len, String.reduceEq, String.reduceNe, String.reduceAppend, decide_true, decide_false, Bool.not_true, Bool.not_false, sz0, sz1, sz2, sz3, sz4, sz5, sz6, sz7, sz8, sz9, sz10, sz11, sz12, sz13, sz14, sz15, sz16, sz17, sz18, sz19, sz20, sz21, sz22, sz23, sz24, sz25, cpow1018, true_and, and_true, Nat.reduceAdd, Nat.reduceLT, Nat.reduceSub, Int.reduceNe, Int.reduceEq, Int.reduceLT, Int.reduceLE, Int.reduceToNat, ne_eq, not_false_eq_true, List.length_map, Nat.lt_irrefl, dV_nx, dV_rt, at0, at1, at2, at3, ix20, ix21, vSeq, vIfS, vTest, vTruth, truth, v2, v1, vN, vCons, vNil, vStar, vVar, vC, xIx, Vl.opI0, Vl.opI, pk, vSet, vAug, vAsg, xgSub, vRet, vRetN, vDrop, vBreak, vCont, asD, asDs, opMod, opDiv, opMul2, Vl.opAdd, Vl.opAddO, opSub, opPow, opLt, Vl.opLe, opGt, Vl.opGe, xEq, okEq_str, okEq_int, xIn, okIn, inD, xIsN, isNone_n, isNone_t, isNone_l, isNone_i, isNone_s, isMo, mob, pkm, gModI, gDivI, gSubI, gMulI, gPowI, gGt, gLt, gLe, gGe, vNotT, vAndT, vOrT, vAndV, vOrV, opNot, opNotG, vIfE, opTup, opLst, opLstO, Vl.opLen, Vl.opInt, opList, opListO, opTuple, opII, gMax, gMin, vM, vM0, isT, xPop, Vl.opAppend, opExtend, opJoin, vgName, vgTup, vgCons, vgNil, kOpt_some, kOpn_some, kOps_some, Vl.opSum, Vl.opInsert, Vl.opIndex, opDivmod, vSl, vPart, vNoPart, opSl, opSlO, opRev, opCallK, ownD, ownO, objs, renum, uniq, getS, putS, vCall0, vFor, vForW, En.wk, vSeqI, vTupI, vRng1, vRng2, vEnum, vZip, chkOf, vLcK, vYes, finD, finO, En.wipe, wipeE, En.trim, trimS, dropNone, clr_n, clr_v, clr_k, clr_o, wth, Vl.ret, takeS, startV,  List.map_cons, List.map_nil, List.length_cons, List.length_nil, List.cons_append, List.nil_append, List.replicate, List.getElem?_cons_succ, List.getElem?_cons_zero, List.getElem?_nil, List.set_cons_succ, List.set_cons_zero, List.set_nil, List.all_nil, List.all_cons, Bool.true_and, Option.map_some, Option.map_none, if_true, if_false, decide_eq_true_eq, Bool.false_eq_true, List.take_succ_cons, List.take_zero, List.take_nil, List.drop_succ_cons, List.drop_zero, List.drop_nil, reduceIte, reduceCtorEq]
  refine ⟨ms, k.leaves, rfl, hm, hl, ?_⟩
  simp only [pNumWith, flatD, List.any_cons, List.any_nil, eqv_str, eqv_int, eqv_ti, eqv_it, eqv_st, eqv_ts, cut1, Bool.or_false, Bool.or_true, Bool.and_self, Bool.and_true, Bool.and_false, Bool.false_or, Bool.true_or, and_self, ofs_inj, ofs_app, ofs_len, String.reduceEq, String.reduceNe, String.reduceAppend, decide_true, decide_false, Bool.not_true, Bool.not_false, sz0, sz1, sz2, sz3, sz4, sz5, sz6, sz7, sz8, sz9, sz10, sz11, sz12, sz13, sz14, sz15, sz16, sz17, sz18, sz19, sz20, sz21, sz22, sz23, sz24, sz25, cpow1018, true_and, and_true, Nat.reduceAdd, Nat.reduceLT, Nat.reduceSub, Int.reduceNe, Int.reduceEq, Int.reduceLT, Int.reduceLE, Int.reduceToNat, ne_eq, not_false_eq_true, List.length_map, Nat.lt_irrefl, dV_nx, dV_rt, at0, at1, at2, at3, ix20, ix21, vSeq, vIfS, vTest, vTruth, truth, v2, v1, vN, vCons, vNil, vStar, vVar, vC, xIx, Vl.opI0, Vl.opI, pk, vSet, vAug, vAsg, xgSub, vRet, vRetN, vDrop, vBreak, vCont, asD, asDs, opMod, opDiv, opMul2, Vl.opAdd, Vl.opAddO, opSub, opPow, opLt, Vl.opLe, opGt, Vl.opGe, xEq, okEq_str, okEq_int, xIn, okIn, inD, xIsN, isNone_n, isNone_t, isNone_l, isNone_i, isNone_s, isMo, mob, pkm, gModI, gDivI, gSubI, gMulI, gPowI, gGt, gLt, gLe, gGe, vNotT, vAndT, vOrT, vAndV, vOrV, opNot, opNotG, vIfE, opTup, opLst, opLstO, Vl.opLen, Vl.opInt, opList, opListO, opTuple, opII, gMax, gMin, vM, vM0, isT, xPop, Vl.opAppend, opExtend, opJoin, vgName, vgTup, vgCons, vgNil, kOpt_some, kOpn_some, kOps_some, Vl.opSum, Vl.opInsert, Vl.opIndex, opDivmod, vSl, vPart, vNoPart, opSl, opSlO, opRev, opCallK, ownD, ownO, objs, renum, uniq, getS, putS, vCall0, vFor, vForW, En.wk, vSeqI, vTupI, vRng1, vRng2, vEnum, vZip, chkOf, vLcK, vYes, finD, finO, En.wipe, wipeE, En.trim, trimS, dropNone, clr_n, clr_v, clr_k, clr_o, wth, Vl.ret, takeS, startV,  List.map_cons, List.map_nil, List.length_cons, List.length_nil, List.cons_append, List.nil_append, List.replicate, List.getElem?_cons_succ, List.getElem?_cons_zero, List.getElem?_nil, List.set_cons_succ, List.set_cons_zero, List.set_nil, List.all_nil, List.all_cons, Bool.true_and, Option.map_some, Option.map_none, if_true, if_false, decide_eq_true_eq, Bool.false_eq_true, List.take_succ_cons, List.take_zero, List.take_nil, List.drop_succ_cons, List.drop_zero, List.drop_nil, reduceIte, reduceCtorEq]
  exact ⟨ms, k.leaves - 1, k, rfl, hm, hok, by omega, ho, by omega, hl, kk⟩
def pKindAt : VSp := fun ss st Kp => ∃ (ms : List Str) (n : Nat) (r : Int), ss = [.val (.list (ms.map .str)), .val (.int (n : Nat)), .val (.int r)] ∧ st = [] ∧ ms.length ≤ 4 ∧ ms.Nodup ∧ 1 ≤ n ∧ n ≤ 10 ∧ 0 ≤ r ∧ r < many ms.length n ∧ ∀ k : Kd, k.over ms → k.leaves = n → k.num ms = r → Kp (.val k.enc) []
theorem r_kindat {ss cs Kp} (h : pKindAt ss cs Kp) : t_kindat pManyTo (pKindWith 10) (dV cs.length Kp) ⟨startV 4 ss, cs.map some⟩ := by
  obtain ⟨ms, n, r, rfl, rfl, hm, nd, n1, n2, r0, r1, k⟩ := h
  have a1 : atI ((cat ms.length (n - 1)).map PyData.int) (n : Nat) = some (.int (many ms.length n)) := at_many (by omega) (by omega)
  have e1 : decide ((n : Int) < 1) = false := decide_eq_false (by omega)
  simp only [t_kindat, t_kindat_4, pManyTo, flatD, List.any_cons, List.any_nil, eqv_str, eqv_int, eqv_ti, eqv_it, eqv_st, eqv_ts, cut1, Bool.or_false, Bool.or_true, Bool.and_self, Bool.and_true, Bool.and_false, Bool.false_or, Bool.true_or, and_self, ofs_inj, ofs_app, ofs_len, String.reduceEq, String.reduceNe, String.reduceAppend, decide_true, decide_false, Bool.not_true, Bool.not_false, sz0, sz1, sz2, sz3, sz4, sz5, sz6, sz7, sz8, sz9, sz10, sz11, sz12, sz13, sz14, sz15, sz16, sz17, sz18, sz19, sz20, sz21, sz22, sz23, sz24, sz25, cpow1018, true_and, and_true, Nat.reduceAdd, Nat.reduceLT, Nat.reduceSub, Int.reduceNe, Int.reduceEq, Int.reduceLT, Int.reduceLE, Int.reduceToNat, ne_eq, not_false_eq_true, List.length_map, Nat.lt_irrefl, dV_nx, dV_rt, at0, at1, at2, at3, ix20, ix21, vSeq, vIfS, vTest, vTruth, truth, v2, v1, vN, vCons, vNil, vStar, vVar, vC, xIx, Vl.opI0, Vl.opI, pk, vSet, vAug, vAsg, xgSub, vRet, vRetN, vDrop, vBreak, vCont, asD, asDs, opMod, opDiv, opMul2, Vl.opAdd, Vl.opAddO, opSub, opPow, opLt, Vl.opLe, opGt, Vl.opGe, xEq, okEq_str, okEq_int, xIn, okIn, inD, xIsN, isNone_n, isNone_t, isNone_l, isNone_i, isNone_s, isMo, mob, pkm, gModI, gDivI, gSubI, gMulI, gPowI, gGt, gLt, gLe, gGe, vNotT, vAndT, vOrT, vAndV, vOrV, opNot, opNotG, vIfE, opTup, opLst, opLstO, Vl.opLen, Vl.opInt, opList, opListO, opTuple, opII, gMax, gMin, vM, vM0, isT, xPop, Vl.opAppend, opExtend, opJoin, vgName, vgTup, vgCons, vgNil, kOpt_some, kOpn_some, kOps_some, Vl.opSum, Vl.opInsert, Vl.opIndex, opDivmod, vSl, vPart, vNoPart, opSl, opSlO, opRev, opCallK, ownD, ownO, objs, renum, uniq, getS, putS, vCall0, vFor, vForW, En.wk, vSeqI, vTupI, vRng1, vRng2, vEnum, vZip, chkOf, vLcK, vYes, finD, finO, En.wipe, wipeE, En.trim, trimS, dropNone, clr_n, clr_v, clr_k, clr_o, wth, Vl.ret, takeS, startV,  List.map_cons, List.map_nil, List.length_cons, List.length_nil, List.cons_append, List.nil_append, List.replicate, List.getElem?_cons_succ, List.getElem?_cons_zero, List.getElem?_nil, List.set_cons_succ, List.set_cons_zero, List.set_nil, List.all_nil, List.all_cons, Bool.true_and, Option.map_some, Option.map_none, if_true, if_false, decide_eq_true_eq, Bool.false_eq_true, List.take_succ_cons, List.take_zero, List.take_nil, List.drop_succ_cons, List.drop_zero, List.drop_nil, reduceIte, reduceCtorEq]
  refine ⟨ms, n, rfl, hm, n2, ?_⟩
  simp only [t_kindat_3, e1, vChain, a1, decide_eq_true r0, decide_eq_true r1, flatD, List.any_cons, List.any_nil, eqv_str, eqv_int, eqv_ti, eqv_it, eqv_st, eqv_ts, cut1, Bool.or_false, Bool.or_true, Bool.and_self, Bool.and_true, Bool.and_false, Bool.false_or, Bool.true_or, and_self, ofs_inj, ofs_app, ofs_len, String.reduceEq, String.reduceNe, String.reduceAppend, decide_true, decide_false, Bool.not_true, Bool.not_false, sz0, sz1, sz2, sz3, sz4, sz5, sz6, sz7, sz8, sz9, sz10, sz11, sz12, sz13, sz14, sz15, sz16, sz17, sz18, sz19, sz20, sz21, sz22, sz23, sz24, sz25, cpow1018, true_and, and_true, Nat.reduceAdd, Nat.reduceLT, Nat.reduceSub, Int.reduceNe, Int.reduceEq, Int.reduceLT, Int.reduceLE, Int.reduceToNat, ne_eq, not_false_eq_true, List.length_map, Nat.lt_irrefl, dV_nx, dV_rt, at0, at1, at2, at3, ix20, ix21, vSeq, vIfS, vTest, vTruth, truth, v2, v1, vN, vCons, vNil, vStar, vVar, vC, xIx, Vl.opI0, Vl.opI, pk, vSet, vAug, vAsg, xgSub, vRet, vRetN, vDrop, vBreak, vCont, asD, asDs, opMod, opDiv, opMul2, Vl.opAdd, Vl.opAddO, opSub, opPow, opLt, Vl.opLe, opGt, Vl.opGe, xEq, okEq_str, okEq_int, xIn, okIn, inD, xIsN, isNone_n, isNone_t, isNone_l, isNone_i, isNone_s, isMo, mob, pkm, gModI, gDivI, gSubI, gMulI, gPowI, gGt, gLt, gLe, gGe, vNotT, vAndT, vOrT, vAndV, vOrV, opNot, opNotG, vIfE, opTup, opLst, opLstO, Vl.opLen, Vl.opInt, opList, opListO, opTuple, opII, gMax, gMin, vM, vM0, isT, xPop, Vl.opAppend, opExtend, opJoin, vgName, vgTup, vgCons, vgNil, kOpt_some, kOpn_some, kOps_some, Vl.opSum, Vl.opInsert, Vl.opIndex, opDivmod, vSl, vPart, vNoPart, opSl, opSlO, opRev, opCallK, ownD, ownO, objs, renum, uniq, getS, putS, vCall0, vFor, vForW, En.wk, vSeqI, vTupI, vRng1, vRng2, vEnum, vZip, chkOf, vLcK, vYes, finD, finO, En.wipe, wipeE, En.trim, trimS, dropNone, clr_n, clr_v, clr_k, clr_o, wth, Vl.ret, takeS, startV,  List.map_cons, List.map_nil, List.length_cons, List.length_nil, List.cons_append, List.nil_append, List.replicate, List.getElem?_cons_succ, List.getElem?_cons_zero, List.getElem?_nil, List.set_cons_succ, List.set_cons_zero, List.set_nil, List.all_nil, List.all_cons, Bool.true_and, Option.map_some, Option.map_none, if_true, if_false, decide_eq_true_eq, Bool.false_eq_true, List.take_succ_cons, List.take_zero, List.take_nil, List.drop_succ_cons, List.drop_zero, List.drop_nil, reduceIte, reduceCtorEq]
  rw [vNext_mk]
  simp only [t_kindat_2, pKindWith, flatD, List.any_cons, List.any_nil, eqv_str, eqv_int, eqv_ti, eqv_it, eqv_st, eqv_ts, cut1, Bool.or_false, Bool.or_true, Bool.and_self, Bool.and_true, Bool.and_false, Bool.false_or, Bool.true_or, and_self, ofs_inj, ofs_app, ofs_len, String.reduceEq, String.reduceNe, String.reduceAppend, decide_true, decide_false, Bool.not_true, Bool.not_false, sz0, sz1, sz2, sz3, sz4, sz5, sz6, sz7, sz8, sz9, sz10, sz11, sz12, sz13, sz14, sz15, sz16, sz17, sz18, sz19, sz20, sz21, sz22, sz23, sz24, sz25, cpow1018, true_and, and_true, Nat.reduceAdd, Nat.reduceLT, Nat.reduceSub, Int.reduceNe, Int.reduceEq, Int.reduceLT, Int.reduceLE, Int.reduceToNat, ne_eq, not_false_eq_true, List.length_map, Nat.lt_irrefl, dV_nx, dV_rt, at0, at1, at2, at3, ix20, ix21, vSeq, vIfS, vTest, vTruth, truth, v2, v1, vN, vCons, vNil, vStar, vVar, vC, xIx, Vl.opI0, Vl.opI, pk, vSet, vAug, vAsg, xgSub, vRet, vRetN, vDrop, vBreak, vCont, asD, asDs, opMod, opDiv, opMul2, Vl.opAdd, Vl.opAddO, opSub, opPow, opLt, Vl.opLe, opGt, Vl.opGe, xEq, okEq_str, okEq_int, xIn, okIn, inD, xIsN, isNone_n, isNone_t, isNone_l, isNone_i, isNone_s, isMo, mob, pkm, gModI, gDivI, gSubI, gMulI, gPowI, gGt, gLt, gLe, gGe, vNotT, vAndT, vOrT, vAndV, vOrV, opNot, opNotG, vIfE, opTup, opLst, opLstO, Vl.opLen, Vl.opInt, opList, opListO, opTuple, opII, gMax, gMin, vM, vM0, isT, xPop, Vl.opAppend, opExtend, opJoin, vgName, vgTup, vgCons, vgNil, kOpt_some, kOpn_some, kOps_some, Vl.opSum, Vl.opInsert, Vl.opIndex, opDivmod, vSl, vPart, vNoPart, opSl, opSlO, opRev, opCallK, ownD, ownO, objs, renum, uniq, getS, putS, vCall0, vFor, vForW, En.wk, vSeqI, vTupI, vRng1, vRng2, vEnum, vZip, chkOf, vLcK, vYes, finD, finO, En.wipe, wipeE, En.trim, trimS, dropNone, clr_n, clr_v, clr_k, clr_o, wth, Vl.ret, takeS, startV,  List.map_cons, List.map_nil, List.length_cons, List.length_nil, List.cons_append, List.nil_append, List.replicate, List.getElem?_cons_succ, List.getElem?_cons_zero, List.getElem?_nil, List.set_cons_succ, List.set_cons_zero, List.set_nil, List.all_nil, List.all_cons, Bool.true_and, Option.map_some, Option.map_none, if_true, if_false, decide_eq_true_eq, Bool.false_eq_true, List.take_succ_cons, List.take_zero, List.take_nil, List.drop_succ_cons, List.drop_zero, List.drop_nil, reduceIte, reduceCtorEq]
  exact ⟨ms, n - 1, n, r, rfl, hm, nd, by omega, n1, by omega, n2, r0, r1, k⟩
end Kf
namespace Kf
open PySem L2 Vl PySem.Spec PyProof.Rows
def pLlv (N : Nat) : VSp := fun ss st Kp => ∃ k : Kd, ss = [.val k.enc] ∧ st = [] ∧ k.leaves ≤ N ∧ Kp (.val (.int (k.leaves : Nat))) []
theorem r_llv {N : Nat} {ss cs Kp} (h : pLlv (N + 1) ss cs Kp) : t_Lleavesv4 (pLlv N) (dV cs.length Kp) ⟨startV 1 ss, cs.map some⟩ := by
  obtain ⟨k, rfl, rfl, hl, q⟩ := h
  have two : ∀ (w : Str) (x y : Kd), x.leaves + y.leaves ≤ N + 1 → Kp (.val (.int ((x.leaves + y.leaves : Nat) : Int))) [] → t_Lleavesv4 (pLlv N) (dV 0 Kp) ⟨[some (.val (.tuple [.str w, x.enc, y.enc]))], []⟩ := fun w x y hxy q => by
    have px := x.leaves_pos
    have py := y.leaves_pos
    simp only [t_Lleavesv4, t_Lleavesv4_3, flatD, List.any_cons, List.any_nil, eqv_str, eqv_int, eqv_ti, eqv_it, eqv_st, eqv_ts, cut1, Bool.or_false, Bool.or_true, Bool.and_self, Bool.and_true, Bool.and_false, Bool.false_or, Bool.true_or, and_self, ofs_inj, ofs_app, ofs_len, String.reduceEq, String.reduceNe, String.reduceAppend, decide_true, decide_false, Bool.not_true, Bool.not_false, sz0, sz1, sz2, sz3, sz4, sz5, sz6, sz7, sz8, sz9, sz10, sz11, sz12, sz13, sz14, sz15, sz16, sz17, sz18, sz19, sz20, sz21, sz22, sz23, sz24, sz25, cpow1018, true_and, and_true, Nat.reduceAdd, Nat.reduceLT, Nat.reduceSub, Int.reduceNe, Int.reduceEq, Int.reduceLT, Int.reduceLE, Int.reduceToNat, ne_eq, not_false_eq_true, List.length_map, Nat.lt_irrefl, dV_nx, dV_rt, at0, at1, at2, at3, ix20, ix21, vSeq, vIfS, vTest, vTruth, truth, v2, v1, vN, vCons, vNil, vStar, vVar, vC, xIx, Vl.opI0, Vl.opI, pk, vSet, vAug, vAsg, xgSub, vRet, vRetN, vNext_mk, vDrop, vBreak, vCont, asD, asDs, opMod, opDiv, opMul2, Vl.opAdd, Vl.opAddO, opSub, opPow, opLt, Vl.opLe, opGt, Vl.opGe, xEq, okEq_str, okEq_int, xIn, okIn, inD, xIsN, isNone_n, isNone_t, isNone_l, isNone_i, isNone_s, isMo, mob, pkm, gModI, gDivI, gSubI, gMulI, gPowI, gGt, gLt, gLe, gGe, vNotT, vAndT, vOrT, vAndV, vOrV, opNot, opNotG, vIfE, opTup, opLst, opLstO, Vl.opLen, Vl.opInt, opList, opListO, opTuple, opII, gMax, gMin, vM, vM0, isT, xPop, Vl.opAppend, opExtend, opJoin, vgName, vgTup, vgCons, vgNil, kOpt_some, kOpn_some, kOps_some, Vl.opSum, Vl.opInsert, Vl.opIndex, opDivmod, vSl, vPart, vNoPart, opSl, opSlO, opRev, opCallK, ownD, ownO, objs, renum, uniq, getS, putS, vCall0, vFor, vForW, En.wk, vSeqI, vTupI, vRng1, vRng2, vEnum, vZip, chkOf, vLcK, vYes, finD, finO, En.wipe, wipeE, En.trim, trimS, dropNone, clr_n, clr_v, clr_k, clr_o, wth, Vl.ret, takeS, startV,  List.map_cons, List.map_nil, List.length_cons, List.length_nil, List.cons_append, List.nil_append, List.replicate, List.getElem?_cons_succ, List.getElem?_cons_zero, List.getElem?_nil, List.set_cons_succ, List.set_cons_zero, List.set_nil, List.all_nil, List.all_cons, Bool.true_and, Option.map_some, Option.map_none, if_true, if_false, decide_eq_true_eq, Bool.false_eq_true, List.take_succ_cons, List.take_zero, List.take_nil, List.drop_succ_cons, List.drop_zero, List.drop_nil, reduceIte, reduceCtorEq]
    simp only [t_Lleavesv4_2, pLlv, flatD, List.any_cons, List.any_nil, eqv_str, eqv_int, eqv_ti, eqv_it, eqv_st, eqv_ts, cut1, Bool.or_false, Bool.or_true, Bool.and_self, Bool.and_true, Bool.and_false, Bool.false_or, Bool.true_or, and_self, ofs_inj, ofs_app, ofs_len, String.reduceEq, String.reduceNe, String.reduceAppend, decide_true, decide_false, Bool.not_true, Bool.not_false, sz0, sz1, sz2, sz3, sz4, sz5, sz6, sz7, sz8, sz9, sz10, sz11, sz12, sz13, sz14, sz15, sz16, sz17, sz18, sz19, sz20, sz21, sz22, sz23, sz24, sz25, cpow1018, true_and, and_true, Nat.reduceAdd, Nat.reduceLT, Nat.reduceSub, Int.reduceNe, Int.reduceEq, Int.reduceLT, Int.reduceLE, Int.reduceToNat, ne_eq, not_false_eq_true, List.length_map, Nat.lt_irrefl, dV_nx, dV_rt, at0, at1, at2, at3, ix20, ix21, vSeq, vIfS, vTest, vTruth, truth, v2, v1, vN, vCons, vNil, vStar, vVar, vC, xIx, Vl.opI0, Vl.opI, pk, vSet, vAug, vAsg, xgSub, vRet, vRetN, vNext_mk, vDrop, vBreak, vCont, asD, asDs, opMod, opDiv, opMul2, Vl.opAdd, Vl.opAddO, opSub, opPow, opLt, Vl.opLe, opGt, Vl.opGe, xEq, okEq_str, okEq_int, xIn, okIn, inD, xIsN, isNone_n, isNone_t, isNone_l, isNone_i, isNone_s, isMo, mob, pkm, gModI, gDivI, gSubI, gMulI, gPowI, gGt, gLt, gLe, gGe, vNotT, vAndT, vOrT, vAndV, vOrV, opNot, opNotG, vIfE, opTup, opLst, opLstO, Vl.opLen, Vl.opInt, opList, opListO, opTuple, opII, gMax, gMin, vM, vM0, isT, xPop, Vl.opAppend, opExtend, opJoin, vgName, vgTup, vgCons, vgNil, kOpt_some, kOpn_some, kOps_some, Vl.opSum, Vl.opInsert, Vl.opIndex, opDivmod, vSl, vPart, vNoPart, opSl, opSlO, opRev, opCallK, ownD, ownO, objs, renum, uniq, getS, putS, vCall0, vFor, vForW, En.wk, vSeqI, vTupI, vRng1, vRng2, vEnum, vZip, chkOf, vLcK, vYes, finD, finO, En.wipe, wipeE, En.trim, trimS, dropNone, clr_n, clr_v, clr_k, clr_o, wth, Vl.ret, takeS, startV,  List.map_cons, List.map_nil, List.length_cons, List.length_nil, List.cons_append, List.nil_append, List.replicate, List.getElem?_cons_succ, List.getElem?_cons_zero, List.getElem?_nil, List.set_cons_succ, List.set_cons_zero, List.set_nil, List.all_nil, List.all_cons, Bool.true_and, Option.map_some, Option.map_none, if_true, if_false, decide_eq_true_eq, Bool.false_eq_true, List.take_succ_cons, List.take_zero, List.take_nil, List.drop_succ_cons, List.drop_zero, List.drop_nil, reduceIte, reduceCtorEq]
    refine ⟨x, rfl, by omega, y, rfl, by omega, ?_⟩
    rw [show ((x.leaves : Nat) + (y.leaves : Nat) : Int) = ((x.leaves + y.leaves : Nat) : Int) from by omega]
    exact q
  cases k with
  | mark m =>
    simp only [t_Lleavesv4, t_Lleavesv4_3, t_Lleavesv4_1, Kd.enc, flatD, List.any_cons, List.any_nil, eqv_str, eqv_int, eqv_ti, eqv_it, eqv_st, eqv_ts, cut1, Bool.or_false, Bool.or_true, Bool.and_self, Bool.and_true, Bool.and_false, Bool.false_or, Bool.true_or, and_self, ofs_inj, ofs_app, ofs_len, String.reduceEq, String.reduceNe, String.reduceAppend, decide_true, decide_false, Bool.not_true, Bool.not_false, sz0, sz1, sz2, sz3, sz4, sz5, sz6, sz7, sz8, sz9, sz10, sz11, sz12, sz13, sz14, sz15, sz16, sz17, sz18, sz19, sz20, sz21, sz22, sz23, sz24, sz25, cpow1018, true_and, and_true, Nat.reduceAdd, Nat.reduceLT, Nat.reduceSub, Int.reduceNe, Int.reduceEq, Int.reduceLT, Int.reduceLE, Int.reduceToNat, ne_eq, not_false_eq_true, List.length_map, Nat.lt_irrefl, dV_nx, dV_rt, at0, at1, at2, at3, ix20, ix21, vSeq, vIfS, vTest, vTruth, truth, v2, v1, vN, vCons, vNil, vStar, vVar, vC, xIx, Vl.opI0, Vl.opI, pk, vSet, vAug, vAsg, xgSub, vRet, vRetN, vNext_mk, vDrop, vBreak, vCont, asD, asDs, opMod, opDiv, opMul2, Vl.opAdd, Vl.opAddO, opSub, opPow, opLt, Vl.opLe, opGt, Vl.opGe, xEq, okEq_str, okEq_int, xIn, okIn, inD, xIsN, isNone_n, isNone_t, isNone_l, isNone_i, isNone_s, isMo, mob, pkm, gModI, gDivI, gSubI, gMulI, gPowI, gGt, gLt, gLe, gGe, vNotT, vAndT, vOrT, vAndV, vOrV, opNot, opNotG, vIfE, opTup, opLst, opLstO, Vl.opLen, Vl.opInt, opList, opListO, opTuple, opII, gMax, gMin, vM, vM0, isT, xPop, Vl.opAppend, opExtend, opJoin, vgName, vgTup, vgCons, vgNil, kOpt_some, kOpn_some, kOps_some, Vl.opSum, Vl.opInsert, Vl.opIndex, opDivmod, vSl, vPart, vNoPart, opSl, opSlO, opRev, opCallK, ownD, ownO, objs, renum, uniq, getS, putS, vCall0, vFor, vForW, En.wk, vSeqI, vTupI, vRng1, vRng2, vEnum, vZip, chkOf, vLcK, vYes, finD, finO, En.wipe, wipeE, En.trim, trimS, dropNone, clr_n, clr_v, clr_k, clr_o, wth, Vl.ret, takeS, startV,  List.map_cons, List.map_nil, List.length_cons, List.length_nil, List.cons_append, List.nil_append, List.replicate, List.getElem?_cons_succ, List.getElem?_cons_zero, List.getElem?_nil, List.set_cons_succ, List.set_cons_zero, List.set_nil, List.all_nil, List.all_cons, Bool.true_and, Option.map_some, Option.map_none, if_true, if_false, decide_eq_true_eq, Bool.false_eq_true, List.take_succ_cons, List.take_zero, List.take_nil, List.drop_succ_cons, List.drop_zero, List.drop_nil, reduceIte, reduceCtorEq]
    exact q
  | one =>
    simp only [t_Lleavesv4, t_Lleavesv4_3, t_Lleavesv4_1, Kd.enc, flatD, List.any_cons, List.any_nil, eqv_str, eqv_int, eqv_ti, eqv_it, eqv_st, eqv_ts, cut1, Bool.or_false, Bool.or_true, Bool.and_self, Bool.and_true, Bool.and_false, Bool.false_or, Bool.true_or, and_self, ofs_inj, ofs_app, ofs_len, String.reduceEq, String.reduceNe, String.reduceAppend, decide_true, decide_false, Bool.not_true, Bool.not_false, sz0, sz1, sz2, sz3, sz4, sz5, sz6, sz7, sz8, sz9, sz10, sz11, sz12, sz13, sz14, sz15, sz16, sz17, sz18, sz19, sz20, sz21, sz22, sz23, sz24, sz25, cpow1018, true_and, and_true, Nat.reduceAdd, Nat.reduceLT, Nat.reduceSub, Int.reduceNe, Int.reduceEq, Int.reduceLT, Int.reduceLE, Int.reduceToNat, ne_eq, not_false_eq_true, List.length_map, Nat.lt_irrefl, dV_nx, dV_rt, at0, at1, at2, at3, ix20, ix21, vSeq, vIfS, vTest, vTruth, truth, v2, v1, vN, vCons, vNil, vStar, vVar, vC, xIx, Vl.opI0, Vl.opI, pk, vSet, vAug, vAsg, xgSub, vRet, vRetN, vNext_mk, vDrop, vBreak, vCont, asD, asDs, opMod, opDiv, opMul2, Vl.opAdd, Vl.opAddO, opSub, opPow, opLt, Vl.opLe, opGt, Vl.opGe, xEq, okEq_str, okEq_int, xIn, okIn, inD, xIsN, isNone_n, isNone_t, isNone_l, isNone_i, isNone_s, isMo, mob, pkm, gModI, gDivI, gSubI, gMulI, gPowI, gGt, gLt, gLe, gGe, vNotT, vAndT, vOrT, vAndV, vOrV, opNot, opNotG, vIfE, opTup, opLst, opLstO, Vl.opLen, Vl.opInt, opList, opListO, opTuple, opII, gMax, gMin, vM, vM0, isT, xPop, Vl.opAppend, opExtend, opJoin, vgName, vgTup, vgCons, vgNil, kOpt_some, kOpn_some, kOps_some, Vl.opSum, Vl.opInsert, Vl.opIndex, opDivmod, vSl, vPart, vNoPart, opSl, opSlO, opRev, opCallK, ownD, ownO, objs, renum, uniq, getS, putS, vCall0, vFor, vForW, En.wk, vSeqI, vTupI, vRng1, vRng2, vEnum, vZip, chkOf, vLcK, vYes, finD, finO, En.wipe, wipeE, En.trim, trimS, dropNone, clr_n, clr_v, clr_k, clr_o, wth, Vl.ret, takeS, startV,  List.map_cons, List.map_nil, List.length_cons, List.length_nil, List.cons_append, List.nil_append, List.replicate, List.getElem?_cons_succ, List.getElem?_cons_zero, List.getElem?_nil, List.set_cons_succ, List.set_cons_zero, List.set_nil, List.all_nil, List.all_cons, Bool.true_and, Option.map_some, Option.map_none, if_true, if_false, decide_eq_true_eq, Bool.false_eq_true, List.take_succ_cons, List.take_zero, List.take_nil, List.drop_succ_cons, List.drop_zero, List.drop_nil, reduceIte, reduceCtorEq]
    exact q
  | to x y => exact two "to" x y hl q
  | both x y => exact two "both" x y hl q
/-- the marks in a kind -/
def Kd.marks : Kd → List Str
  | .mark m => [m]
  | .one => []
  | .to a b => a.marks ++ b.marks
  | .both a b => a.marks ++ b.marks
theorem Kd.marks_len : ∀ k : Kd, k.marks.length ≤ k.leaves
  | .mark _ => Nat.le_refl _
  | .one => Nat.zero_le _
  | .to a b => by
    have := a.marks_len
    have := b.marks_len
    simp only [Kd.marks, Kd.leaves, List.length_append]
    omega
  | .both a b => by
    have := a.marks_len
    have := b.marks_len
    simp only [Kd.marks, Kd.leaves, List.length_append]
    omega
theorem Kd.marks_over {ms : List Str} : ∀ k : Kd, k.over ms → ∀ m ∈ k.marks, m ∈ ms
  | .mark m, h, x, hx => by
    rw [List.mem_singleton.mp hx]
    exact h
  | .one, _, x, hx => by simp [Kd.marks] at hx
  | .to a b, h, x, hx => by
    rcases List.mem_append.mp hx with hx | hx
    · exact a.marks_over h.1 x hx
    · exact b.marks_over h.2 x hx
  | .both a b, h, x, hx => by
    rcases List.mem_append.mp hx with hx | hx
    · exact a.marks_over h.1 x hx
    · exact b.marks_over h.2 x hx
def pLmi (N : Nat) : VSp := fun ss st Kp => ∃ k : Kd, ss = [.val k.enc] ∧ st = [] ∧ k.leaves ≤ N ∧ k.leaves ≤ 1000 ∧ Kp (.val (.list (k.marks.map .str))) []
theorem r_lmi {N : Nat} {ss cs Kp} (h : pLmi (N + 1) ss cs Kp) : t_Lmarksin (pLmi N) (dV cs.length Kp) ⟨startV 1 ss, cs.map some⟩ := by
  obtain ⟨k, rfl, rfl, hl, h1, q⟩ := h
  have two : ∀ (x y : Kd), x.leaves + y.leaves ≤ N + 1 → x.leaves + y.leaves ≤ 1000 → ∀ b : Bool, Kp (.val (.list ((x.marks ++ y.marks).map .str))) [] → t_Lmarksin (pLmi N) (dV 0 Kp) ⟨[some (.val (.tuple [.str (if b then "to" else "both"), x.enc, y.enc]))], []⟩ := fun x y hxy h1 b q => by
    have px := x.leaves_pos
    have py := y.leaves_pos
    have mx := x.marks_len
    have my := y.marks_len
    rw [List.map_append] at q
    cases b with
    | true =>
      simp only [t_Lmarksin, t_Lmarksin_5, t_Lmarksin_4, flatD, List.any_cons, List.any_nil, eqv_str, eqv_int, eqv_ti, eqv_it, eqv_st, eqv_ts, cut1, Bool.or_false, Bool.or_true, Bool.and_self, Bool.and_true, Bool.and_false, Bool.false_or, Bool.true_or, and_self, ofs_inj, ofs_app, ofs_len, String.reduceEq, String.reduceNe, String.reduceAppend, decide_true, decide_false, Bool.not_true, Bool.not_false, sz0, sz1, sz2, sz3, sz4, sz5, sz6, sz7, sz8, sz9, sz10, sz11, sz12, sz13, sz14, sz15, sz16, sz17, sz18, sz19, sz20, sz21, sz22, sz23, sz24, sz25, cpow1018, true_and, and_true, Nat.reduceAdd, Nat.reduceLT, Nat.reduceSub, Int.reduceNe, Int.reduceEq, Int.reduceLT, Int.reduceLE, Int.reduceToNat, ne_eq, not_false_eq_true, List.length_map, Nat.lt_irrefl, dV_nx, dV_rt, at0, at1, at2, at3, ix20, ix21, vSeq, vIfS, vTest, vTruth, truth, v2, v1, vN, vCons, vNil, vStar, vVar, vC, xIx, Vl.opI0, Vl.opI, pk, vSet, vAug, vAsg, xgSub, vRet, vRetN, vNext_mk, vDrop, vBreak, vCont, asD, asDs, opMod, opDiv, opMul2, Vl.opAdd, Vl.opAddO, opSub, opPow, opLt, Vl.opLe, opGt, Vl.opGe, xEq, okEq_str, okEq_int, xIn, okIn, inD, xIsN, isNone_n, isNone_t, isNone_l, isNone_i, isNone_s, isMo, mob, pkm, gModI, gDivI, gSubI, gMulI, gPowI, gGt, gLt, gLe, gGe, vNotT, vAndT, vOrT, vAndV, vOrV, opNot, opNotG, vIfE, opTup, opLst, opLstO, Vl.opLen, Vl.opInt, opList, opListO, opTuple, opII, gMax, gMin, vM, vM0, isT, xPop, Vl.opAppend, opExtend, opJoin, vgName, vgTup, vgCons, vgNil, kOpt_some, kOpn_some, kOps_some, Vl.opSum, Vl.opInsert, Vl.opIndex, opDivmod, vSl, vPart, vNoPart, opSl, opSlO, opRev, opCallK, ownD, ownO, objs, renum, uniq, getS, putS, vCall0, vFor, vForW, En.wk, vSeqI, vTupI, vRng1, vRng2, vEnum, vZip, chkOf, vLcK, vYes, finD, finO, En.wipe, wipeE, En.trim, trimS, dropNone, clr_n, clr_v, clr_k, clr_o, wth, Vl.ret, takeS, startV,  List.map_cons, List.map_nil, List.length_cons, List.length_nil, List.cons_append, List.nil_append, List.replicate, List.getElem?_cons_succ, List.getElem?_cons_zero, List.getElem?_nil, List.set_cons_succ, List.set_cons_zero, List.set_nil, List.all_nil, List.all_cons, Bool.true_and, Option.map_some, Option.map_none, if_true, if_false, decide_eq_true_eq, Bool.false_eq_true, List.take_succ_cons, List.take_zero, List.take_nil, List.drop_succ_cons, List.drop_zero, List.drop_nil, reduceIte, reduceCtorEq]
      simp only [t_Lmarksin_3, pLmi, flatD, List.any_cons, List.any_nil, eqv_str, eqv_int, eqv_ti, eqv_it, eqv_st, eqv_ts, cut1, Bool.or_false, Bool.or_true, Bool.and_self, Bool.and_true, Bool.and_false, Bool.false_or, Bool.true_or, and_self, ofs_inj, ofs_app, ofs_len, String.reduceEq, String.reduceNe, String.reduceAppend, decide_true, decide_false, Bool.not_true, Bool.not_false, sz0, sz1, sz2, sz3, sz4, sz5, sz6, sz7, sz8, sz9, sz10, sz11, sz12, sz13, sz14, sz15, sz16, sz17, sz18, sz19, sz20, sz21, sz22, sz23, sz24, sz25, cpow1018, true_and, and_true, Nat.reduceAdd, Nat.reduceLT, Nat.reduceSub, Int.reduceNe, Int.reduceEq, Int.reduceLT, Int.reduceLE, Int.reduceToNat, ne_eq, not_false_eq_true, List.length_map, Nat.lt_irrefl, dV_nx, dV_rt, at0, at1, at2, at3, ix20, ix21, vSeq, vIfS, vTest, vTruth, truth, v2, v1, vN, vCons, vNil, vStar, vVar, vC, xIx, Vl.opI0, Vl.opI, pk, vSet, vAug, vAsg, xgSub, vRet, vRetN, vNext_mk, vDrop, vBreak, vCont, asD, asDs, opMod, opDiv, opMul2, Vl.opAdd, Vl.opAddO, opSub, opPow, opLt, Vl.opLe, opGt, Vl.opGe, xEq, okEq_str, okEq_int, xIn, okIn, inD, xIsN, isNone_n, isNone_t, isNone_l, isNone_i, isNone_s, isMo, mob, pkm, gModI, gDivI, gSubI, gMulI, gPowI, gGt, gLt, gLe, gGe, vNotT, vAndT, vOrT, vAndV, vOrV, opNot, opNotG, vIfE, opTup, opLst, opLstO, Vl.opLen, Vl.opInt, opList, opListO, opTuple, opII, gMax, gMin, vM, vM0, isT, xPop, Vl.opAppend, opExtend, opJoin, vgName, vgTup, vgCons, vgNil, kOpt_some, kOpn_some, kOps_some, Vl.opSum, Vl.opInsert, Vl.opIndex, opDivmod, vSl, vPart, vNoPart, opSl, opSlO, opRev, opCallK, ownD, ownO, objs, renum, uniq, getS, putS, vCall0, vFor, vForW, En.wk, vSeqI, vTupI, vRng1, vRng2, vEnum, vZip, chkOf, vLcK, vYes, finD, finO, En.wipe, wipeE, En.trim, trimS, dropNone, clr_n, clr_v, clr_k, clr_o, wth, Vl.ret, takeS, startV,  List.map_cons, List.map_nil, List.length_cons, List.length_nil, List.cons_append, List.nil_append, List.replicate, List.getElem?_cons_succ, List.getElem?_cons_zero, List.getElem?_nil, List.set_cons_succ, List.set_cons_zero, List.set_nil, List.all_nil, List.all_cons, Bool.true_and, Option.map_some, Option.map_none, if_true, if_false, decide_eq_true_eq, Bool.false_eq_true, List.take_succ_cons, List.take_zero, List.take_nil, List.drop_succ_cons, List.drop_zero, List.drop_nil, reduceIte, reduceCtorEq]
      exact ⟨x, rfl, by omega, by omega, y, rfl, by omega, by omega, big (by omega), q⟩
    | false =>
      simp only [t_Lmarksin, t_Lmarksin_5, t_Lmarksin_4, flatD, List.any_cons, List.any_nil, eqv_str, eqv_int, eqv_ti, eqv_it, eqv_st, eqv_ts, cut1, Bool.or_false, Bool.or_true, Bool.and_self, Bool.and_true, Bool.and_false, Bool.false_or, Bool.true_or, and_self, ofs_inj, ofs_app, ofs_len, String.reduceEq, String.reduceNe, String.reduceAppend, decide_true, decide_false, Bool.not_true, Bool.not_false, sz0, sz1, sz2, sz3, sz4, sz5, sz6, sz7, sz8, sz9, sz10, sz11, sz12, sz13, sz14, sz15, sz16, sz17, sz18, sz19, sz20, sz21, sz22, sz23, sz24, sz25, cpow1018, true_and, and_true, Nat.reduceAdd, Nat.reduceLT, Nat.reduceSub, Int.reduceNe, Int.reduceEq, Int.reduceLT, Int.reduceLE, Int.reduceToNat, ne_eq, not_false_eq_true, List.length_map, Nat.lt_irrefl, dV_nx, dV_rt, at0, at1, at2, at3, ix20, ix21, vSeq, vIfS, vTest, vTruth, truth, v2, v1, vN, vCons, vNil, vStar, vVar, vC, xIx, Vl.opI0, Vl.opI, pk, vSet, vAug, vAsg, xgSub, vRet, vRetN, vNext_mk, vDrop, vBreak, vCont, asD, asDs, opMod, opDiv, opMul2, Vl.opAdd, Vl.opAddO, opSub, opPow, opLt, Vl.opLe, opGt, Vl.opGe, xEq, okEq_str, okEq_int, xIn, okIn, inD, xIsN, isNone_n, isNone_t, isNone_l, isNone_i, isNone_s, isMo, mob, pkm, gModI, gDivI, gSubI, gMulI, gPowI, gGt, gLt, gLe, gGe, vNotT, vAndT, vOrT, vAndV, vOrV, opNot, opNotG, vIfE, opTup, opLst, opLstO, Vl.opLen, Vl.opInt, opList, opListO, opTuple, opII, gMax, gMin, vM, vM0, isT, xPop, Vl.opAppend, opExtend, opJoin, vgName, vgTup, vgCons, vgNil, kOpt_some, kOpn_some, kOps_some, Vl.opSum, Vl.opInsert, Vl.opIndex, opDivmod, vSl, vPart, vNoPart, opSl, opSlO, opRev, opCallK, ownD, ownO, objs, renum, uniq, getS, putS, vCall0, vFor, vForW, En.wk, vSeqI, vTupI, vRng1, vRng2, vEnum, vZip, chkOf, vLcK, vYes, finD, finO, En.wipe, wipeE, En.trim, trimS, dropNone, clr_n, clr_v, clr_k, clr_o, wth, Vl.ret, takeS, startV,  List.map_cons, List.map_nil, List.length_cons, List.length_nil, List.cons_append, List.nil_append, List.replicate, List.getElem?_cons_succ, List.getElem?_cons_zero, List.getElem?_nil, List.set_cons_succ, List.set_cons_zero, List.set_nil, List.all_nil, List.all_cons, Bool.true_and, Option.map_some, Option.map_none, if_true, if_false, decide_eq_true_eq, Bool.false_eq_true, List.take_succ_cons, List.take_zero, List.take_nil, List.drop_succ_cons, List.drop_zero, List.drop_nil, reduceIte, reduceCtorEq]
      simp only [t_Lmarksin_3, pLmi, flatD, List.any_cons, List.any_nil, eqv_str, eqv_int, eqv_ti, eqv_it, eqv_st, eqv_ts, cut1, Bool.or_false, Bool.or_true, Bool.and_self, Bool.and_true, Bool.and_false, Bool.false_or, Bool.true_or, and_self, ofs_inj, ofs_app, ofs_len, String.reduceEq, String.reduceNe, String.reduceAppend, decide_true, decide_false, Bool.not_true, Bool.not_false, sz0, sz1, sz2, sz3, sz4, sz5, sz6, sz7, sz8, sz9, sz10, sz11, sz12, sz13, sz14, sz15, sz16, sz17, sz18, sz19, sz20, sz21, sz22, sz23, sz24, sz25, cpow1018, true_and, and_true, Nat.reduceAdd, Nat.reduceLT, Nat.reduceSub, Int.reduceNe, Int.reduceEq, Int.reduceLT, Int.reduceLE, Int.reduceToNat, ne_eq, not_false_eq_true, List.length_map, Nat.lt_irrefl, dV_nx, dV_rt, at0, at1, at2, at3, ix20, ix21, vSeq, vIfS, vTest, vTruth, truth, v2, v1, vN, vCons, vNil, vStar, vVar, vC, xIx, Vl.opI0, Vl.opI, pk, vSet, vAug, vAsg, xgSub, vRet, vRetN, vNext_mk, vDrop, vBreak, vCont, asD, asDs, opMod, opDiv, opMul2, Vl.opAdd, Vl.opAddO, opSub, opPow, opLt, Vl.opLe, opGt, Vl.opGe, xEq, okEq_str, okEq_int, xIn, okIn, inD, xIsN, isNone_n, isNone_t, isNone_l, isNone_i, isNone_s, isMo, mob, pkm, gModI, gDivI, gSubI, gMulI, gPowI, gGt, gLt, gLe, gGe, vNotT, vAndT, vOrT, vAndV, vOrV, opNot, opNotG, vIfE, opTup, opLst, opLstO, Vl.opLen, Vl.opInt, opList, opListO, opTuple, opII, gMax, gMin, vM, vM0, isT, xPop, Vl.opAppend, opExtend, opJoin, vgName, vgTup, vgCons, vgNil, kOpt_some, kOpn_some, kOps_some, Vl.opSum, Vl.opInsert, Vl.opIndex, opDivmod, vSl, vPart, vNoPart, opSl, opSlO, opRev, opCallK, ownD, ownO, objs, renum, uniq, getS, putS, vCall0, vFor, vForW, En.wk, vSeqI, vTupI, vRng1, vRng2, vEnum, vZip, chkOf, vLcK, vYes, finD, finO, En.wipe, wipeE, En.trim, trimS, dropNone, clr_n, clr_v, clr_k, clr_o, wth, Vl.ret, takeS, startV,  List.map_cons, List.map_nil, List.length_cons, List.length_nil, List.cons_append, List.nil_append, List.replicate, List.getElem?_cons_succ, List.getElem?_cons_zero, List.getElem?_nil, List.set_cons_succ, List.set_cons_zero, List.set_nil, List.all_nil, List.all_cons, Bool.true_and, Option.map_some, Option.map_none, if_true, if_false, decide_eq_true_eq, Bool.false_eq_true, List.take_succ_cons, List.take_zero, List.take_nil, List.drop_succ_cons, List.drop_zero, List.drop_nil, reduceIte, reduceCtorEq]
      exact ⟨x, rfl, by omega, by omega, y, rfl, by omega, by omega, big (by omega), q⟩
  cases k with
  | mark m =>
    simp only [t_Lmarksin, t_Lmarksin_5, t_Lmarksin_4, t_Lmarksin_2, Kd.enc, flatD, List.any_cons, List.any_nil, eqv_str, eqv_int, eqv_ti, eqv_it, eqv_st, eqv_ts, cut1, Bool.or_false, Bool.or_true, Bool.and_self, Bool.and_true, Bool.and_false, Bool.false_or, Bool.true_or, and_self, ofs_inj, ofs_app, ofs_len, String.reduceEq, String.reduceNe, String.reduceAppend, decide_true, decide_false, Bool.not_true, Bool.not_false, sz0, sz1, sz2, sz3, sz4, sz5, sz6, sz7, sz8, sz9, sz10, sz11, sz12, sz13, sz14, sz15, sz16, sz17, sz18, sz19, sz20, sz21, sz22, sz23, sz24, sz25, cpow1018, true_and, and_true, Nat.reduceAdd, Nat.reduceLT, Nat.reduceSub, Int.reduceNe, Int.reduceEq, Int.reduceLT, Int.reduceLE, Int.reduceToNat, ne_eq, not_false_eq_true, List.length_map, Nat.lt_irrefl, dV_nx, dV_rt, at0, at1, at2, at3, ix20, ix21, vSeq, vIfS, vTest, vTruth, truth, v2, v1, vN, vCons, vNil, vStar, vVar, vC, xIx, Vl.opI0, Vl.opI, pk, vSet, vAug, vAsg, xgSub, vRet, vRetN, vNext_mk, vDrop, vBreak, vCont, asD, asDs, opMod, opDiv, opMul2, Vl.opAdd, Vl.opAddO, opSub, opPow, opLt, Vl.opLe, opGt, Vl.opGe, xEq, okEq_str, okEq_int, xIn, okIn, inD, xIsN, isNone_n, isNone_t, isNone_l, isNone_i, isNone_s, isMo, mob, pkm, gModI, gDivI, gSubI, gMulI, gPowI, gGt, gLt, gLe, gGe, vNotT, vAndT, vOrT, vAndV, vOrV, opNot, opNotG, vIfE, opTup, opLst, opLstO, Vl.opLen, Vl.opInt, opList, opListO, opTuple, opII, gMax, gMin, vM, vM0, isT, xPop, Vl.opAppend, opExtend, opJoin, vgName, vgTup, vgCons, vgNil, kOpt_some, kOpn_some, kOps_some, Vl.opSum, Vl.opInsert, Vl.opIndex, opDivmod, vSl, vPart, vNoPart, opSl, opSlO, opRev, opCallK, ownD, ownO, objs, renum, uniq, getS, putS, vCall0, vFor, vForW, En.wk, vSeqI, vTupI, vRng1, vRng2, vEnum, vZip, chkOf, vLcK, vYes, finD, finO, En.wipe, wipeE, En.trim, trimS, dropNone, clr_n, clr_v, clr_k, clr_o, wth, Vl.ret, takeS, startV,  List.map_cons, List.map_nil, List.length_cons, List.length_nil, List.cons_append, List.nil_append, List.replicate, List.getElem?_cons_succ, List.getElem?_cons_zero, List.getElem?_nil, List.set_cons_succ, List.set_cons_zero, List.set_nil, List.all_nil, List.all_cons, Bool.true_and, Option.map_some, Option.map_none, if_true, if_false, decide_eq_true_eq, Bool.false_eq_true, List.take_succ_cons, List.take_zero, List.take_nil, List.drop_succ_cons, List.drop_zero, List.drop_nil, reduceIte, reduceCtorEq]
    exact q
  | one =>
    simp only [t_Lmarksin, t_Lmarksin_5, t_Lmarksin_1, Kd.enc, flatD, List.any_cons, List.any_nil, eqv_str, eqv_int, eqv_ti, eqv_it, eqv_st, eqv_ts, cut1, Bool.or_false, Bool.or_true, Bool.and_self, Bool.and_true, Bool.and_false, Bool.false_or, Bool.true_or, and_self, ofs_inj, ofs_app, ofs_len, String.reduceEq, String.reduceNe, String.reduceAppend, decide_true, decide_false, Bool.not_true, Bool.not_false, sz0, sz1, sz2, sz3, sz4, sz5, sz6, sz7, sz8, sz9, sz10, sz11, sz12, sz13, sz14, sz15, sz16, sz17, sz18, sz19, sz20, sz21, sz22, sz23, sz24, sz25, cpow1018, true_and, and_true, Nat.reduceAdd, Nat.reduceLT, Nat.reduceSub, Int.reduceNe, Int.reduceEq, Int.reduceLT, Int.reduceLE, Int.reduceToNat, ne_eq, not_false_eq_true, List.length_map, Nat.lt_irrefl, dV_nx, dV_rt, at0, at1, at2, at3, ix20, ix21, vSeq, vIfS, vTest, vTruth, truth, v2, v1, vN, vCons, vNil, vStar, vVar, vC, xIx, Vl.opI0, Vl.opI, pk, vSet, vAug, vAsg, xgSub, vRet, vRetN, vNext_mk, vDrop, vBreak, vCont, asD, asDs, opMod, opDiv, opMul2, Vl.opAdd, Vl.opAddO, opSub, opPow, opLt, Vl.opLe, opGt, Vl.opGe, xEq, okEq_str, okEq_int, xIn, okIn, inD, xIsN, isNone_n, isNone_t, isNone_l, isNone_i, isNone_s, isMo, mob, pkm, gModI, gDivI, gSubI, gMulI, gPowI, gGt, gLt, gLe, gGe, vNotT, vAndT, vOrT, vAndV, vOrV, opNot, opNotG, vIfE, opTup, opLst, opLstO, Vl.opLen, Vl.opInt, opList, opListO, opTuple, opII, gMax, gMin, vM, vM0, isT, xPop, Vl.opAppend, opExtend, opJoin, vgName, vgTup, vgCons, vgNil, kOpt_some, kOpn_some, kOps_some, Vl.opSum, Vl.opInsert, Vl.opIndex, opDivmod, vSl, vPart, vNoPart, opSl, opSlO, opRev, opCallK, ownD, ownO, objs, renum, uniq, getS, putS, vCall0, vFor, vForW, En.wk, vSeqI, vTupI, vRng1, vRng2, vEnum, vZip, chkOf, vLcK, vYes, finD, finO, En.wipe, wipeE, En.trim, trimS, dropNone, clr_n, clr_v, clr_k, clr_o, wth, Vl.ret, takeS, startV,  List.map_cons, List.map_nil, List.length_cons, List.length_nil, List.cons_append, List.nil_append, List.replicate, List.getElem?_cons_succ, List.getElem?_cons_zero, List.getElem?_nil, List.set_cons_succ, List.set_cons_zero, List.set_nil, List.all_nil, List.all_cons, Bool.true_and, Option.map_some, Option.map_none, if_true, if_false, decide_eq_true_eq, Bool.false_eq_true, List.take_succ_cons, List.take_zero, List.take_nil, List.drop_succ_cons, List.drop_zero, List.drop_nil, reduceIte, reduceCtorEq]
    exact q
  | to x y => exact two x y hl h1 true q
  | both x y => exact two x y hl h1 false q
def pLik (N : Nat) : VSp := fun ss st Kp => ∃ k : Kd, ss = [.val k.enc] ∧ st = [] ∧ k.leaves ≤ N ∧ Kp (.val (.bool true)) []
theorem kit_tup (ds : List D) : kitB (tyD (.tuple ds)) "tuple" = some true := by
  show kitB "tuple" "tuple" = some true
  decide +kernel
theorem kit_str (x : Str) : kitB (tyD (.str x)) "str" = some true := by
  show kitB "str" "str" = some true
  decide +kernel
theorem one_eqv : PyData.eqv (.tuple [.str "one"]) (.tuple [.str "one"]) = true := by decide +kernel
theorem one_shp : Vl.shp (.tuple [.str "one"]) = true := by decide +kernel
theorem r_lik {N : Nat} {ss cs Kp} (h : pLik (N + 1) ss cs Kp) : t_Liskindv2 (pLik N) (dV cs.length Kp) ⟨startV 1 ss, cs.map some⟩ := by
  obtain ⟨k, rfl, rfl, hl, q⟩ := h
  have two : ∀ (x y : Kd), x.leaves + y.leaves ≤ N + 1 → ∀ b : Bool, Kp (.val (.bool true)) [] → t_Liskindv2 (pLik N) (dV 0 Kp) ⟨[some (.val (.tuple [.str (if b then "to" else "both"), x.enc, y.enc]))], []⟩ := fun x y hxy b q => by
    have px := x.leaves_pos
    have py := y.leaves_pos
    cases b with
    | true =>
      simp only [t_Liskindv2, t_Liskindv2_7, vIsi, flatD, List.any_cons, List.any_nil, eqv_str, eqv_int, eqv_ti, eqv_it, eqv_st, eqv_ts, cut1, Bool.or_false, Bool.or_true, Bool.and_self, Bool.and_true, Bool.and_false, Bool.false_or, Bool.true_or, and_self, ofs_inj, ofs_app, ofs_len, String.reduceEq, String.reduceNe, String.reduceAppend, decide_true, decide_false, Bool.not_true, Bool.not_false, sz0, sz1, sz2, sz3, sz4, sz5, sz6, sz7, sz8, sz9, sz10, sz11, sz12, sz13, sz14, sz15, sz16, sz17, sz18, sz19, sz20, sz21, sz22, sz23, sz24, sz25, cpow1018, true_and, and_true, Nat.reduceAdd, Nat.reduceLT, Nat.reduceSub, Int.reduceNe, Int.reduceEq, Int.reduceLT, Int.reduceLE, Int.reduceToNat, ne_eq, not_false_eq_true, List.length_map, Nat.lt_irrefl, dV_nx, dV_rt, at0, at1, at2, at3, ix20, ix21, vSeq, vIfS, vTest, vTruth, truth, v2, v1, vN, vCons, vNil, vStar, vVar, vC, xIx, Vl.opI0, Vl.opI, pk, vSet, vAug, vAsg, xgSub, vRet, vRetN, vNext_mk, vDrop, vBreak, vCont, asD, asDs, opMod, opDiv, opMul2, Vl.opAdd, Vl.opAddO, opSub, opPow, opLt, Vl.opLe, opGt, Vl.opGe, xEq, okEq_str, okEq_int, xIn, okIn, inD, xIsN, isNone_n, isNone_t, isNone_l, isNone_i, isNone_s, isMo, mob, pkm, gModI, gDivI, gSubI, gMulI, gPowI, gGt, gLt, gLe, gGe, vNotT, vAndT, vOrT, vAndV, vOrV, opNot, opNotG, vIfE, opTup, opLst, opLstO, Vl.opLen, Vl.opInt, opList, opListO, opTuple, opII, gMax, gMin, vM, vM0, isT, xPop, Vl.opAppend, opExtend, opJoin, vgName, vgTup, vgCons, vgNil, kOpt_some, kOpn_some, kOps_some, Vl.opSum, Vl.opInsert, Vl.opIndex, opDivmod, vSl, vPart, vNoPart, opSl, opSlO, opRev, opCallK, ownD, ownO, objs, renum, uniq, getS, putS, vCall0, vFor, vForW, En.wk, vSeqI, vTupI, vRng1, vRng2, vEnum, vZip, chkOf, vLcK, vYes, finD, finO, En.wipe, wipeE, En.trim, trimS, dropNone, clr_n, clr_v, clr_k, clr_o, wth, Vl.ret, takeS, startV,  List.map_cons, List.map_nil, List.length_cons, List.length_nil, List.cons_append, List.nil_append, List.replicate, List.getElem?_cons_succ, List.getElem?_cons_zero, List.getElem?_nil, List.set_cons_succ, List.set_cons_zero, List.set_nil, List.all_nil, List.all_cons, Bool.true_and, Option.map_some, Option.map_none, if_true, if_false, decide_eq_true_eq, Bool.false_eq_true, List.take_succ_cons, List.take_zero, List.take_nil, List.drop_succ_cons, List.drop_zero, List.drop_nil, reduceIte, reduceCtorEq]
      refine ⟨true, kit_tup _, ?_⟩
      simp only [t_Liskindv2_6, t_Liskindv2_2, vAndG, truOk, truB, pLik, flatD, List.any_cons, List.any_nil, eqv_str, eqv_int, eqv_ti, eqv_it, eqv_st, eqv_ts, cut1, Bool.or_false, Bool.or_true, Bool.and_self, Bool.and_true, Bool.and_false, Bool.false_or, Bool.true_or, and_self, ofs_inj, ofs_app, ofs_len, String.reduceEq, String.reduceNe, String.reduceAppend, decide_true, decide_false, Bool.not_true, Bool.not_false, sz0, sz1, sz2, sz3, sz4, sz5, sz6, sz7, sz8, sz9, sz10, sz11, sz12, sz13, sz14, sz15, sz16, sz17, sz18, sz19, sz20, sz21, sz22, sz23, sz24, sz25, cpow1018, true_and, and_true, Nat.reduceAdd, Nat.reduceLT, Nat.reduceSub, Int.reduceNe, Int.reduceEq, Int.reduceLT, Int.reduceLE, Int.reduceToNat, ne_eq, not_false_eq_true, List.length_map, Nat.lt_irrefl, dV_nx, dV_rt, at0, at1, at2, at3, ix20, ix21, vSeq, vIfS, vTest, vTruth, truth, v2, v1, vN, vCons, vNil, vStar, vVar, vC, xIx, Vl.opI0, Vl.opI, pk, vSet, vAug, vAsg, xgSub, vRet, vRetN, vNext_mk, vDrop, vBreak, vCont, asD, asDs, opMod, opDiv, opMul2, Vl.opAdd, Vl.opAddO, opSub, opPow, opLt, Vl.opLe, opGt, Vl.opGe, xEq, okEq_str, okEq_int, xIn, okIn, inD, xIsN, isNone_n, isNone_t, isNone_l, isNone_i, isNone_s, isMo, mob, pkm, gModI, gDivI, gSubI, gMulI, gPowI, gGt, gLt, gLe, gGe, vNotT, vAndT, vOrT, vAndV, vOrV, opNot, opNotG, vIfE, opTup, opLst, opLstO, Vl.opLen, Vl.opInt, opList, opListO, opTuple, opII, gMax, gMin, vM, vM0, isT, xPop, Vl.opAppend, opExtend, opJoin, vgName, vgTup, vgCons, vgNil, kOpt_some, kOpn_some, kOps_some, Vl.opSum, Vl.opInsert, Vl.opIndex, opDivmod, vSl, vPart, vNoPart, opSl, opSlO, opRev, opCallK, ownD, ownO, objs, renum, uniq, getS, putS, vCall0, vFor, vForW, En.wk, vSeqI, vTupI, vRng1, vRng2, vEnum, vZip, chkOf, vLcK, vYes, finD, finO, En.wipe, wipeE, En.trim, trimS, dropNone, clr_n, clr_v, clr_k, clr_o, wth, Vl.ret, takeS, startV,  List.map_cons, List.map_nil, List.length_cons, List.length_nil, List.cons_append, List.nil_append, List.replicate, List.getElem?_cons_succ, List.getElem?_cons_zero, List.getElem?_nil, List.set_cons_succ, List.set_cons_zero, List.set_nil, List.all_nil, List.all_cons, Bool.true_and, Option.map_some, Option.map_none, if_true, if_false, decide_eq_true_eq, Bool.false_eq_true, List.take_succ_cons, List.take_zero, List.take_nil, List.drop_succ_cons, List.drop_zero, List.drop_nil, reduceIte, reduceCtorEq]
      exact ⟨x, rfl, by omega, y, rfl, by omega, q⟩
    | false =>
      simp only [t_Liskindv2, t_Liskindv2_7, vIsi, flatD, List.any_cons, List.any_nil, eqv_str, eqv_int, eqv_ti, eqv_it, eqv_st, eqv_ts, cut1, Bool.or_false, Bool.or_true, Bool.and_self, Bool.and_true, Bool.and_false, Bool.false_or, Bool.true_or, and_self, ofs_inj, ofs_app, ofs_len, String.reduceEq, String.reduceNe, String.reduceAppend, decide_true, decide_false, Bool.not_true, Bool.not_false, sz0, sz1, sz2, sz3, sz4, sz5, sz6, sz7, sz8, sz9, sz10, sz11, sz12, sz13, sz14, sz15, sz16, sz17, sz18, sz19, sz20, sz21, sz22, sz23, sz24, sz25, cpow1018, true_and, and_true, Nat.reduceAdd, Nat.reduceLT, Nat.reduceSub, Int.reduceNe, Int.reduceEq, Int.reduceLT, Int.reduceLE, Int.reduceToNat, ne_eq, not_false_eq_true, List.length_map, Nat.lt_irrefl, dV_nx, dV_rt, at0, at1, at2, at3, ix20, ix21, vSeq, vIfS, vTest, vTruth, truth, v2, v1, vN, vCons, vNil, vStar, vVar, vC, xIx, Vl.opI0, Vl.opI, pk, vSet, vAug, vAsg, xgSub, vRet, vRetN, vNext_mk, vDrop, vBreak, vCont, asD, asDs, opMod, opDiv, opMul2, Vl.opAdd, Vl.opAddO, opSub, opPow, opLt, Vl.opLe, opGt, Vl.opGe, xEq, okEq_str, okEq_int, xIn, okIn, inD, xIsN, isNone_n, isNone_t, isNone_l, isNone_i, isNone_s, isMo, mob, pkm, gModI, gDivI, gSubI, gMulI, gPowI, gGt, gLt, gLe, gGe, vNotT, vAndT, vOrT, vAndV, vOrV, opNot, opNotG, vIfE, opTup, opLst, opLstO, Vl.opLen, Vl.opInt, opList, opListO, opTuple, opII, gMax, gMin, vM, vM0, isT, xPop, Vl.opAppend, opExtend, opJoin, vgName, vgTup, vgCons, vgNil, kOpt_some, kOpn_some, kOps_some, Vl.opSum, Vl.opInsert, Vl.opIndex, opDivmod, vSl, vPart, vNoPart, opSl, opSlO, opRev, opCallK, ownD, ownO, objs, renum, uniq, getS, putS, vCall0, vFor, vForW, En.wk, vSeqI, vTupI, vRng1, vRng2, vEnum, vZip, chkOf, vLcK, vYes, finD, finO, En.wipe, wipeE, En.trim, trimS, dropNone, clr_n, clr_v, clr_k, clr_o, wth, Vl.ret, takeS, startV,  List.map_cons, List.map_nil, List.length_cons, List.length_nil, List.cons_append, List.nil_append, List.replicate, List.getElem?_cons_succ, List.getElem?_cons_zero, List.getElem?_nil, List.set_cons_succ, List.set_cons_zero, List.set_nil, List.all_nil, List.all_cons, Bool.true_and, Option.map_some, Option.map_none, if_true, if_false, decide_eq_true_eq, Bool.false_eq_true, List.take_succ_cons, List.take_zero, List.take_nil, List.drop_succ_cons, List.drop_zero, List.drop_nil, reduceIte, reduceCtorEq]
      refine ⟨true, kit_tup _, ?_⟩
      simp only [t_Liskindv2_6, t_Liskindv2_2, vAndG, truOk, truB, pLik, flatD, List.any_cons, List.any_nil, eqv_str, eqv_int, eqv_ti, eqv_it, eqv_st, eqv_ts, cut1, Bool.or_false, Bool.or_true, Bool.and_self, Bool.and_true, Bool.and_false, Bool.false_or, Bool.true_or, and_self, ofs_inj, ofs_app, ofs_len, String.reduceEq, String.reduceNe, String.reduceAppend, decide_true, decide_false, Bool.not_true, Bool.not_false, sz0, sz1, sz2, sz3, sz4, sz5, sz6, sz7, sz8, sz9, sz10, sz11, sz12, sz13, sz14, sz15, sz16, sz17, sz18, sz19, sz20, sz21, sz22, sz23, sz24, sz25, cpow1018, true_and, and_true, Nat.reduceAdd, Nat.reduceLT, Nat.reduceSub, Int.reduceNe, Int.reduceEq, Int.reduceLT, Int.reduceLE, Int.reduceToNat, ne_eq, not_false_eq_true, List.length_map, Nat.lt_irrefl, dV_nx, dV_rt, at0, at1, at2, at3, ix20, ix21, vSeq, vIfS, vTest, vTruth, truth, v2, v1, vN, vCons, vNil, vStar, vVar, vC, xIx, Vl.opI0, Vl.opI, pk, vSet, vAug, vAsg, xgSub, vRet, vRetN, vNext_mk, vDrop, vBreak, vCont, asD, asDs, opMod, opDiv, opMul2, Vl.opAdd, Vl.opAddO, opSub, opPow, opLt, Vl.opLe, opGt, Vl.opGe, xEq, okEq_str, okEq_int, xIn, okIn, inD, xIsN, isNone_n, isNone_t, isNone_l, isNone_i, isNone_s, isMo, mob, pkm, gModI, gDivI, gSubI, gMulI, gPowI, gGt, gLt, gLe, gGe, vNotT, vAndT, vOrT, vAndV, vOrV, opNot, opNotG, vIfE, opTup, opLst, opLstO, Vl.opLen, Vl.opInt, opList, opListO, opTuple, opII, gMax, gMin, vM, vM0, isT, xPop, Vl.opAppend, opExtend, opJoin, vgName, vgTup, vgCons, vgNil, kOpt_some, kOpn_some, kOps_some, Vl.opSum, Vl.opInsert, Vl.opIndex, opDivmod, vSl, vPart, vNoPart, opSl, opSlO, opRev, opCallK, ownD, ownO, objs, renum, uniq, getS, putS, vCall0, vFor, vForW, En.wk, vSeqI, vTupI, vRng1, vRng2, vEnum, vZip, chkOf, vLcK, vYes, finD, finO, En.wipe, wipeE, En.trim, trimS, dropNone, clr_n, clr_v, clr_k, clr_o, wth, Vl.ret, takeS, startV,  List.map_cons, List.map_nil, List.length_cons, List.length_nil, List.cons_append, List.nil_append, List.replicate, List.getElem?_cons_succ, List.getElem?_cons_zero, List.getElem?_nil, List.set_cons_succ, List.set_cons_zero, List.set_nil, List.all_nil, List.all_cons, Bool.true_and, Option.map_some, Option.map_none, if_true, if_false, decide_eq_true_eq, Bool.false_eq_true, List.take_succ_cons, List.take_zero, List.take_nil, List.drop_succ_cons, List.drop_zero, List.drop_nil, reduceIte, reduceCtorEq]
      exact ⟨x, rfl, by omega, y, rfl, by omega, q⟩
  cases k with
  | mark m =>
    simp only [t_Liskindv2, t_Liskindv2_7, vIsi, Kd.enc, flatD, List.any_cons, List.any_nil, eqv_str, eqv_int, eqv_ti, eqv_it, eqv_st, eqv_ts, cut1, Bool.or_false, Bool.or_true, Bool.and_self, Bool.and_true, Bool.and_false, Bool.false_or, Bool.true_or, and_self, ofs_inj, ofs_app, ofs_len, String.reduceEq, String.reduceNe, String.reduceAppend, decide_true, decide_false, Bool.not_true, Bool.not_false, sz0, sz1, sz2, sz3, sz4, sz5, sz6, sz7, sz8, sz9, sz10, sz11, sz12, sz13, sz14, sz15, sz16, sz17, sz18, sz19, sz20, sz21, sz22, sz23, sz24, sz25, cpow1018, true_and, and_true, Nat.reduceAdd, Nat.reduceLT, Nat.reduceSub, Int.reduceNe, Int.reduceEq, Int.reduceLT, Int.reduceLE, Int.reduceToNat, ne_eq, not_false_eq_true, List.length_map, Nat.lt_irrefl, dV_nx, dV_rt, at0, at1, at2, at3, ix20, ix21, vSeq, vIfS, vTest, vTruth, truth, v2, v1, vN, vCons, vNil, vStar, vVar, vC, xIx, Vl.opI0, Vl.opI, pk, vSet, vAug, vAsg, xgSub, vRet, vRetN, vNext_mk, vDrop, vBreak, vCont, asD, asDs, opMod, opDiv, opMul2, Vl.opAdd, Vl.opAddO, opSub, opPow, opLt, Vl.opLe, opGt, Vl.opGe, xEq, okEq_str, okEq_int, xIn, okIn, inD, xIsN, isNone_n, isNone_t, isNone_l, isNone_i, isNone_s, isMo, mob, pkm, gModI, gDivI, gSubI, gMulI, gPowI, gGt, gLt, gLe, gGe, vNotT, vAndT, vOrT, vAndV, vOrV, opNot, opNotG, vIfE, opTup, opLst, opLstO, Vl.opLen, Vl.opInt, opList, opListO, opTuple, opII, gMax, gMin, vM, vM0, isT, xPop, Vl.opAppend, opExtend, opJoin, vgName, vgTup, vgCons, vgNil, kOpt_some, kOpn_some, kOps_some, Vl.opSum, Vl.opInsert, Vl.opIndex, opDivmod, vSl, vPart, vNoPart, opSl, opSlO, opRev, opCallK, ownD, ownO, objs, renum, uniq, getS, putS, vCall0, vFor, vForW, En.wk, vSeqI, vTupI, vRng1, vRng2, vEnum, vZip, chkOf, vLcK, vYes, finD, finO, En.wipe, wipeE, En.trim, trimS, dropNone, clr_n, clr_v, clr_k, clr_o, wth, Vl.ret, takeS, startV,  List.map_cons, List.map_nil, List.length_cons, List.length_nil, List.cons_append, List.nil_append, List.replicate, List.getElem?_cons_succ, List.getElem?_cons_zero, List.getElem?_nil, List.set_cons_succ, List.set_cons_zero, List.set_nil, List.all_nil, List.all_cons, Bool.true_and, Option.map_some, Option.map_none, if_true, if_false, decide_eq_true_eq, Bool.false_eq_true, List.take_succ_cons, List.take_zero, List.take_nil, List.drop_succ_cons, List.drop_zero, List.drop_nil, reduceIte, reduceCtorEq]
    refine ⟨true, kit_tup _, ?_⟩
    simp only [t_Liskindv2_6, t_Liskindv2_5, t_Liskindv2_3, vIsi, flatD, List.any_cons, List.any_nil, eqv_str, eqv_int, eqv_ti, eqv_it, eqv_st, eqv_ts, cut1, Bool.or_false, Bool.or_true, Bool.and_self, Bool.and_true, Bool.and_false, Bool.false_or, Bool.true_or, and_self, ofs_inj, ofs_app, ofs_len, String.reduceEq, String.reduceNe, String.reduceAppend, decide_true, decide_false, Bool.not_true, Bool.not_false, sz0, sz1, sz2, sz3, sz4, sz5, sz6, sz7, sz8, sz9, sz10, sz11, sz12, sz13, sz14, sz15, sz16, sz17, sz18, sz19, sz20, sz21, sz22, sz23, sz24, sz25, cpow1018, true_and, and_true, Nat.reduceAdd, Nat.reduceLT, Nat.reduceSub, Int.reduceNe, Int.reduceEq, Int.reduceLT, Int.reduceLE, Int.reduceToNat, ne_eq, not_false_eq_true, List.length_map, Nat.lt_irrefl, dV_nx, dV_rt, at0, at1, at2, at3, ix20, ix21, vSeq, vIfS, vTest, vTruth, truth, v2, v1, vN, vCons, vNil, vStar, vVar, vC, xIx, Vl.opI0, Vl.opI, pk, vSet, vAug, vAsg, xgSub, vRet, vRetN, vNext_mk, vDrop, vBreak, vCont, asD, asDs, opMod, opDiv, opMul2, Vl.opAdd, Vl.opAddO, opSub, opPow, opLt, Vl.opLe, opGt, Vl.opGe, xEq, okEq_str, okEq_int, xIn, okIn, inD, xIsN, isNone_n, isNone_t, isNone_l, isNone_i, isNone_s, isMo, mob, pkm, gModI, gDivI, gSubI, gMulI, gPowI, gGt, gLt, gLe, gGe, vNotT, vAndT, vOrT, vAndV, vOrV, opNot, opNotG, vIfE, opTup, opLst, opLstO, Vl.opLen, Vl.opInt, opList, opListO, opTuple, opII, gMax, gMin, vM, vM0, isT, xPop, Vl.opAppend, opExtend, opJoin, vgName, vgTup, vgCons, vgNil, kOpt_some, kOpn_some, kOps_some, Vl.opSum, Vl.opInsert, Vl.opIndex, opDivmod, vSl, vPart, vNoPart, opSl, opSlO, opRev, opCallK, ownD, ownO, objs, renum, uniq, getS, putS, vCall0, vFor, vForW, En.wk, vSeqI, vTupI, vRng1, vRng2, vEnum, vZip, chkOf, vLcK, vYes, finD, finO, En.wipe, wipeE, En.trim, trimS, dropNone, clr_n, clr_v, clr_k, clr_o, wth, Vl.ret, takeS, startV,  List.map_cons, List.map_nil, List.length_cons, List.length_nil, List.cons_append, List.nil_append, List.replicate, List.getElem?_cons_succ, List.getElem?_cons_zero, List.getElem?_nil, List.set_cons_succ, List.set_cons_zero, List.set_nil, List.all_nil, List.all_cons, Bool.true_and, Option.map_some, Option.map_none, if_true, if_false, decide_eq_true_eq, Bool.false_eq_true, List.take_succ_cons, List.take_zero, List.take_nil, List.drop_succ_cons, List.drop_zero, List.drop_nil, reduceIte, reduceCtorEq]
    exact ⟨true, kit_str _, q⟩
  | one =>
    simp only [t_Liskindv2, t_Liskindv2_7, vIsi, Kd.enc, flatD, List.any_cons, List.any_nil, eqv_str, eqv_int, eqv_ti, eqv_it, eqv_st, eqv_ts, cut1, Bool.or_false, Bool.or_true, Bool.and_self, Bool.and_true, Bool.and_false, Bool.false_or, Bool.true_or, and_self, ofs_inj, ofs_app, ofs_len, String.reduceEq, String.reduceNe, String.reduceAppend, decide_true, decide_false, Bool.not_true, Bool.not_false, sz0, sz1, sz2, sz3, sz4, sz5, sz6, sz7, sz8, sz9, sz10, sz11, sz12, sz13, sz14, sz15, sz16, sz17, sz18, sz19, sz20, sz21, sz22, sz23, sz24, sz25, cpow1018, true_and, and_true, Nat.reduceAdd, Nat.reduceLT, Nat.reduceSub, Int.reduceNe, Int.reduceEq, Int.reduceLT, Int.reduceLE, Int.reduceToNat, ne_eq, not_false_eq_true, List.length_map, Nat.lt_irrefl, dV_nx, dV_rt, at0, at1, at2, at3, ix20, ix21, vSeq, vIfS, vTest, vTruth, truth, v2, v1, vN, vCons, vNil, vStar, vVar, vC, xIx, Vl.opI0, Vl.opI, pk, vSet, vAug, vAsg, xgSub, vRet, vRetN, vNext_mk, vDrop, vBreak, vCont, asD, asDs, opMod, opDiv, opMul2, Vl.opAdd, Vl.opAddO, opSub, opPow, opLt, Vl.opLe, opGt, Vl.opGe, xEq, okEq_str, okEq_int, xIn, okIn, inD, xIsN, isNone_n, isNone_t, isNone_l, isNone_i, isNone_s, isMo, mob, pkm, gModI, gDivI, gSubI, gMulI, gPowI, gGt, gLt, gLe, gGe, vNotT, vAndT, vOrT, vAndV, vOrV, opNot, opNotG, vIfE, opTup, opLst, opLstO, Vl.opLen, Vl.opInt, opList, opListO, opTuple, opII, gMax, gMin, vM, vM0, isT, xPop, Vl.opAppend, opExtend, opJoin, vgName, vgTup, vgCons, vgNil, kOpt_some, kOpn_some, kOps_some, Vl.opSum, Vl.opInsert, Vl.opIndex, opDivmod, vSl, vPart, vNoPart, opSl, opSlO, opRev, opCallK, ownD, ownO, objs, renum, uniq, getS, putS, vCall0, vFor, vForW, En.wk, vSeqI, vTupI, vRng1, vRng2, vEnum, vZip, chkOf, vLcK, vYes, finD, finO, En.wipe, wipeE, En.trim, trimS, dropNone, clr_n, clr_v, clr_k, clr_o, wth, Vl.ret, takeS, startV,  List.map_cons, List.map_nil, List.length_cons, List.length_nil, List.cons_append, List.nil_append, List.replicate, List.getElem?_cons_succ, List.getElem?_cons_zero, List.getElem?_nil, List.set_cons_succ, List.set_cons_zero, List.set_nil, List.all_nil, List.all_cons, Bool.true_and, Option.map_some, Option.map_none, if_true, if_false, decide_eq_true_eq, Bool.false_eq_true, List.take_succ_cons, List.take_zero, List.take_nil, List.drop_succ_cons, List.drop_zero, List.drop_nil, reduceIte, reduceCtorEq]
    refine ⟨true, kit_tup _, ?_⟩
    simp only [t_Liskindv2_6, t_Liskindv2_5, t_Liskindv2_4, one_eqv, flatD, List.any_cons, List.any_nil, eqv_str, eqv_int, eqv_ti, eqv_it, eqv_st, eqv_ts, cut1, Bool.or_false, Bool.or_true, Bool.and_self, Bool.and_true, Bool.and_false, Bool.false_or, Bool.true_or, and_self, ofs_inj, ofs_app, ofs_len, String.reduceEq, String.reduceNe, String.reduceAppend, decide_true, decide_false, Bool.not_true, Bool.not_false, sz0, sz1, sz2, sz3, sz4, sz5, sz6, sz7, sz8, sz9, sz10, sz11, sz12, sz13, sz14, sz15, sz16, sz17, sz18, sz19, sz20, sz21, sz22, sz23, sz24, sz25, cpow1018, true_and, and_true, Nat.reduceAdd, Nat.reduceLT, Nat.reduceSub, Int.reduceNe, Int.reduceEq, Int.reduceLT, Int.reduceLE, Int.reduceToNat, ne_eq, not_false_eq_true, List.length_map, Nat.lt_irrefl, dV_nx, dV_rt, at0, at1, at2, at3, ix20, ix21, vSeq, vIfS, vTest, vTruth, truth, v2, v1, vN, vCons, vNil, vStar, vVar, vC, xIx, Vl.opI0, Vl.opI, pk, vSet, vAug, vAsg, xgSub, vRet, vRetN, vNext_mk, vDrop, vBreak, vCont, asD, asDs, opMod, opDiv, opMul2, Vl.opAdd, Vl.opAddO, opSub, opPow, opLt, Vl.opLe, opGt, Vl.opGe, xEq, okEq_str, okEq_int, xIn, okIn, inD, xIsN, isNone_n, isNone_t, isNone_l, isNone_i, isNone_s, isMo, mob, pkm, gModI, gDivI, gSubI, gMulI, gPowI, gGt, gLt, gLe, gGe, vNotT, vAndT, vOrT, vAndV, vOrV, opNot, opNotG, vIfE, opTup, opLst, opLstO, Vl.opLen, Vl.opInt, opList, opListO, opTuple, opII, gMax, gMin, vM, vM0, isT, xPop, Vl.opAppend, opExtend, opJoin, vgName, vgTup, vgCons, vgNil, kOpt_some, kOpn_some, kOps_some, Vl.opSum, Vl.opInsert, Vl.opIndex, opDivmod, vSl, vPart, vNoPart, opSl, opSlO, opRev, opCallK, ownD, ownO, objs, renum, uniq, getS, putS, vCall0, vFor, vForW, En.wk, vSeqI, vTupI, vRng1, vRng2, vEnum, vZip, chkOf, vLcK, vYes, finD, finO, En.wipe, wipeE, En.trim, trimS, dropNone, clr_n, clr_v, clr_k, clr_o, wth, Vl.ret, takeS, startV,  List.map_cons, List.map_nil, List.length_cons, List.length_nil, List.cons_append, List.nil_append, List.replicate, List.getElem?_cons_succ, List.getElem?_cons_zero, List.getElem?_nil, List.set_cons_succ, List.set_cons_zero, List.set_nil, List.all_nil, List.all_cons, Bool.true_and, Option.map_some, Option.map_none, if_true, if_false, decide_eq_true_eq, Bool.false_eq_true, List.take_succ_cons, List.take_zero, List.take_nil, List.drop_succ_cons, List.drop_zero, List.drop_nil, reduceIte, reduceCtorEq]
    exact ⟨okEq_of one_shp one_shp, q⟩
  | to x y => exact two x y hl true q
  | both x y => exact two x y hl false q
end Kf
namespace Kf
open PySem L2 Vl PySem.Spec PyProof.Rows
theorem shp_ii (a b : Int) : Vl.shp (.tuple [.int a, .int b]) = true := by
  unfold Vl.shp
  rw [can_tup, depth_tup, canAll_cons, canAll_cons, canAll_nil, depthAll_cons, depthAll_cons, depthAll_nil, can_int, can_int, depth_int, depth_int] <;> rfl
theorem shp_nil : Vl.shp (.list []) = true := by decide +kernel
def pRight71 : VSp := fun ss st Kp => ∃ (ms : List Str) (n : Nat) (r : Int), ss = [.val (.list (ms.map .str)), .val (.int (n : Nat)), .val (.int r)] ∧ st = [] ∧ ms.length ≤ 4 ∧ ms.Nodup ∧ (∀ m ∈ ms, PyData.strOk m = true) ∧ 1 ≤ n ∧ n ≤ 10 ∧ 0 ≤ r ∧ r < many ms.length n ∧ Kp (.val (.bool true)) []
theorem r_right71 {ss cs Kp} (h : pRight71 ss cs Kp) : t_Lrightv16 pKindAt (pLik 10) (pLlv 10) (pLmi 10) pKindNumber (dV cs.length Kp) ⟨startV 6 ss, cs.map some⟩ := by
  obtain ⟨ms, n, r, rfl, rfl, hm, nd, hok, n1, n2, r0, r1, q⟩ := h
  simp only [t_Lrightv16, t_Lrightv16_7, flatD, List.any_cons, List.any_nil, eqv_str, eqv_int, eqv_ti, eqv_it, eqv_st, eqv_ts, cut1, Bool.or_false, Bool.or_true, Bool.and_self, Bool.and_true, Bool.and_false, Bool.false_or, Bool.true_or, and_self, ofs_inj, ofs_app, ofs_len, String.reduceEq, String.reduceNe, String.reduceAppend, decide_true, decide_false, Bool.not_true, Bool.not_false, sz0, sz1, sz2, sz3, sz4, sz5, sz6, sz7, sz8, sz9, sz10, sz11, sz12, sz13, sz14, sz15, sz16, sz17, sz18, sz19, sz20, sz21, sz22, sz23, sz24, sz25, cpow1018, true_and, and_true, Nat.reduceAdd, Nat.reduceLT, Nat.reduceSub, Int.reduceNe, Int.reduceEq, Int.reduceLT, Int.reduceLE, Int.reduceToNat, ne_eq, not_false_eq_true, List.length_map, Nat.lt_irrefl, dV_nx, dV_rt, at0, at1, at2, at3, ix20, ix21, vSeq, vIfS, vTest, vTruth, truth, v2, v1, vN, vCons, vNil, vStar, vVar, vC, xIx, Vl.opI0, Vl.opI, pk, vSet, vAug, vAsg, xgSub, vRet, vRetN, vNext_mk, vDrop, vBreak, vCont, asD, asDs, opMod, opDiv, opMul2, Vl.opAdd, Vl.opAddO, opSub, opPow, opLt, Vl.opLe, opGt, Vl.opGe, xEq, okEq_str, okEq_int, xIn, okIn, inD, xIsN, isNone_n, isNone_t, isNone_l, isNone_i, isNone_s, isMo, mob, pkm, gModI, gDivI, gSubI, gMulI, gPowI, gGt, gLt, gLe, gGe, vNotT, vAndT, vOrT, vAndV, vOrV, opNot, opNotG, vIfE, opTup, opLst, opLstO, Vl.opLen, Vl.opInt, opList, opListO, opTuple, opII, gMax, gMin, vM, vM0, isT, xPop, Vl.opAppend, opExtend, opJoin, vgName, vgTup, vgCons, vgNil, kOpt_some, kOpn_some, kOps_some, Vl.opSum, Vl.opInsert, Vl.opIndex, opDivmod, vSl, vPart, vNoPart, opSl, opSlO, opRev, opCallK, ownD, ownO, objs, renum, uniq, getS, putS, vCall0, vFor, vForW, En.wk, vSeqI, vTupI, vRng1, vRng2, vEnum, vZip, chkOf, vLcK, vYes, finD, finO, En.wipe, wipeE, En.trim, trimS, dropNone, clr_n, clr_v, clr_k, clr_o, wth, Vl.ret, takeS, startV,  List.map_cons, List.map_nil, List.length_cons, List.length_nil, List.cons_append, List.nil_append, List.replicate, List.getElem?_cons_succ, List.getElem?_cons_zero, List.getElem?_nil, List.set_cons_succ, List.set_cons_zero, List.set_nil, List.all_nil, List.all_cons, Bool.true_and, Option.map_some, Option.map_none, if_true, if_false, decide_eq_true_eq, Bool.false_eq_true, List.take_succ_cons, List.take_zero, List.take_nil, List.drop_succ_cons, List.drop_zero, List.drop_nil, reduceIte, reduceCtorEq]
  simp only [t_Lrightv16_6, pKindAt, flatD, List.any_cons, List.any_nil, eqv_str, eqv_int, eqv_ti, eqv_it, eqv_st, eqv_ts, cut1, Bool.or_false, Bool.or_true, Bool.and_self, Bool.and_true, Bool.and_false, Bool.false_or, Bool.true_or, and_self, ofs_inj, ofs_app, ofs_len, String.reduceEq, String.reduceNe, String.reduceAppend, decide_true, decide_false, Bool.not_true, Bool.not_false, sz0, sz1, sz2, sz3, sz4, sz5, sz6, sz7, sz8, sz9, sz10, sz11, sz12, sz13, sz14, sz15, sz16, sz17, sz18, sz19, sz20, sz21, sz22, sz23, sz24, sz25, cpow1018, true_and, and_true, Nat.reduceAdd, Nat.reduceLT, Nat.reduceSub, Int.reduceNe, Int.reduceEq, Int.reduceLT, Int.reduceLE, Int.reduceToNat, ne_eq, not_false_eq_true, List.length_map, Nat.lt_irrefl, dV_nx, dV_rt, at0, at1, at2, at3, ix20, ix21, vSeq, vIfS, vTest, vTruth, truth, v2, v1, vN, vCons, vNil, vStar, vVar, vC, xIx, Vl.opI0, Vl.opI, pk, vSet, vAug, vAsg, xgSub, vRet, vRetN, vNext_mk, vDrop, vBreak, vCont, asD, asDs, opMod, opDiv, opMul2, Vl.opAdd, Vl.opAddO, opSub, opPow, opLt, Vl.opLe, opGt, Vl.opGe, xEq, okEq_str, okEq_int, xIn, okIn, inD, xIsN, isNone_n, isNone_t, isNone_l, isNone_i, isNone_s, isMo, mob, pkm, gModI, gDivI, gSubI, gMulI, gPowI, gGt, gLt, gLe, gGe, vNotT, vAndT, vOrT, vAndV, vOrV, opNot, opNotG, vIfE, opTup, opLst, opLstO, Vl.opLen, Vl.opInt, opList, opListO, opTuple, opII, gMax, gMin, vM, vM0, isT, xPop, Vl.opAppend, opExtend, opJoin, vgName, vgTup, vgCons, vgNil, kOpt_some, kOpn_some, kOps_some, Vl.opSum, Vl.opInsert, Vl.opIndex, opDivmod, vSl, vPart, vNoPart, opSl, opSlO, opRev, opCallK, ownD, ownO, objs, renum, uniq, getS, putS, vCall0, vFor, vForW, En.wk, vSeqI, vTupI, vRng1, vRng2, vEnum, vZip, chkOf, vLcK, vYes, finD, finO, En.wipe, wipeE, En.trim, trimS, dropNone, clr_n, clr_v, clr_k, clr_o, wth, Vl.ret, takeS, startV,  List.map_cons, List.map_nil, List.length_cons, List.length_nil, List.cons_append, List.nil_append, List.replicate, List.getElem?_cons_succ, List.getElem?_cons_zero, List.getElem?_nil, List.set_cons_succ, List.set_cons_zero, List.set_nil, List.all_nil, List.all_cons, Bool.true_and, Option.map_some, Option.map_none, if_true, if_false, decide_eq_true_eq, Bool.false_eq_true, List.take_succ_cons, List.take_zero, List.take_nil, List.drop_succ_cons, List.drop_zero, List.drop_nil, reduceIte, reduceCtorEq]
  refine ⟨ms, n, r, rfl, hm, nd, n1, n2, r0, r1, fun k ok lk nk => ?_⟩
  simp only [t_Lrightv16_5, pLik, pLlv, flatD, List.any_cons, List.any_nil, eqv_str, eqv_int, eqv_ti, eqv_it, eqv_st, eqv_ts, cut1, Bool.or_false, Bool.or_true, Bool.and_self, Bool.and_true, Bool.and_false, Bool.false_or, Bool.true_or, and_self, ofs_inj, ofs_app, ofs_len, String.reduceEq, String.reduceNe, String.reduceAppend, decide_true, decide_false, Bool.not_true, Bool.not_false, sz0, sz1, sz2, sz3, sz4, sz5, sz6, sz7, sz8, sz9, sz10, sz11, sz12, sz13, sz14, sz15, sz16, sz17, sz18, sz19, sz20, sz21, sz22, sz23, sz24, sz25, cpow1018, true_and, and_true, Nat.reduceAdd, Nat.reduceLT, Nat.reduceSub, Int.reduceNe, Int.reduceEq, Int.reduceLT, Int.reduceLE, Int.reduceToNat, ne_eq, not_false_eq_true, List.length_map, Nat.lt_irrefl, dV_nx, dV_rt, at0, at1, at2, at3, ix20, ix21, vSeq, vIfS, vTest, vTruth, truth, v2, v1, vN, vCons, vNil, vStar, vVar, vC, xIx, Vl.opI0, Vl.opI, pk, vSet, vAug, vAsg, xgSub, vRet, vRetN, vNext_mk, vDrop, vBreak, vCont, asD, asDs, opMod, opDiv, opMul2, Vl.opAdd, Vl.opAddO, opSub, opPow, opLt, Vl.opLe, opGt, Vl.opGe, xEq, okEq_str, okEq_int, xIn, okIn, inD, xIsN, isNone_n, isNone_t, isNone_l, isNone_i, isNone_s, isMo, mob, pkm, gModI, gDivI, gSubI, gMulI, gPowI, gGt, gLt, gLe, gGe, vNotT, vAndT, vOrT, vAndV, vOrV, opNot, opNotG, vIfE, opTup, opLst, opLstO, Vl.opLen, Vl.opInt, opList, opListO, opTuple, opII, gMax, gMin, vM, vM0, isT, xPop, Vl.opAppend, opExtend, opJoin, vgName, vgTup, vgCons, vgNil, kOpt_some, kOpn_some, kOps_some, Vl.opSum, Vl.opInsert, Vl.opIndex, opDivmod, vSl, vPart, vNoPart, opSl, opSlO, opRev, opCallK, ownD, ownO, objs, renum, uniq, getS, putS, vCall0, vFor, vForW, En.wk, vSeqI, vTupI, vRng1, vRng2, vEnum, vZip, chkOf, vLcK, vYes, finD, finO, En.wipe, wipeE, En.trim, trimS, dropNone, clr_n, clr_v, clr_k, clr_o, wth, Vl.ret, takeS, startV,  List.map_cons, List.map_nil, List.length_cons, List.length_nil, List.cons_append, List.nil_append, List.replicate, List.getElem?_cons_succ, List.getElem?_cons_zero, List.getElem?_nil, List.set_cons_succ, List.set_cons_zero, List.set_nil, List.all_nil, List.all_cons, Bool.true_and, Option.map_some, Option.map_none, if_true, if_false, decide_eq_true_eq, Bool.false_eq_true, List.take_succ_cons, List.take_zero, List.take_nil, List.drop_succ_cons, List.drop_zero, List.drop_nil, reduceIte, reduceCtorEq]
  refine ⟨k, rfl, by omega, k, rfl, by omega, ?_⟩
  simp only [lk, t_Lrightv16_4, pLmi, flatD, List.any_cons, List.any_nil, eqv_str, eqv_int, eqv_ti, eqv_it, eqv_st, eqv_ts, cut1, Bool.or_false, Bool.or_true, Bool.and_self, Bool.and_true, Bool.and_false, Bool.false_or, Bool.true_or, and_self, ofs_inj, ofs_app, ofs_len, String.reduceEq, String.reduceNe, String.reduceAppend, decide_true, decide_false, Bool.not_true, Bool.not_false, sz0, sz1, sz2, sz3, sz4, sz5, sz6, sz7, sz8, sz9, sz10, sz11, sz12, sz13, sz14, sz15, sz16, sz17, sz18, sz19, sz20, sz21, sz22, sz23, sz24, sz25, cpow1018, true_and, and_true, Nat.reduceAdd, Nat.reduceLT, Nat.reduceSub, Int.reduceNe, Int.reduceEq, Int.reduceLT, Int.reduceLE, Int.reduceToNat, ne_eq, not_false_eq_true, List.length_map, Nat.lt_irrefl, dV_nx, dV_rt, at0, at1, at2, at3, ix20, ix21, vSeq, vIfS, vTest, vTruth, truth, v2, v1, vN, vCons, vNil, vStar, vVar, vC, xIx, Vl.opI0, Vl.opI, pk, vSet, vAug, vAsg, xgSub, vRet, vRetN, vNext_mk, vDrop, vBreak, vCont, asD, asDs, opMod, opDiv, opMul2, Vl.opAdd, Vl.opAddO, opSub, opPow, opLt, Vl.opLe, opGt, Vl.opGe, xEq, okEq_str, okEq_int, xIn, okIn, inD, xIsN, isNone_n, isNone_t, isNone_l, isNone_i, isNone_s, isMo, mob, pkm, gModI, gDivI, gSubI, gMulI, gPowI, gGt, gLt, gLe, gGe, vNotT, vAndT, vOrT, vAndV, vOrV, opNot, opNotG, vIfE, opTup, opLst, opLstO, Vl.opLen, Vl.opInt, opList, opListO, opTuple, opII, gMax, gMin, vM, vM0, isT, xPop, Vl.opAppend, opExtend, opJoin, vgName, vgTup, vgCons, vgNil, kOpt_some, kOpn_some, kOps_some, Vl.opSum, Vl.opInsert, Vl.opIndex, opDivmod, vSl, vPart, vNoPart, opSl, opSlO, opRev, opCallK, ownD, ownO, objs, renum, uniq, getS, putS, vCall0, vFor, vForW, En.wk, vSeqI, vTupI, vRng1, vRng2, vEnum, vZip, chkOf, vLcK, vYes, finD, finO, En.wipe, wipeE, En.trim, trimS, dropNone, clr_n, clr_v, clr_k, clr_o, wth, Vl.ret, takeS, startV,  List.map_cons, List.map_nil, List.length_cons, List.length_nil, List.cons_append, List.nil_append, List.replicate, List.getElem?_cons_succ, List.getElem?_cons_zero, List.getElem?_nil, List.set_cons_succ, List.set_cons_zero, List.set_nil, List.all_nil, List.all_cons, Bool.true_and, Option.map_some, Option.map_none, if_true, if_false, decide_eq_true_eq, Bool.false_eq_true, List.take_succ_cons, List.take_zero, List.take_nil, List.drop_succ_cons, List.drop_zero, List.drop_nil, reduceIte, reduceCtorEq]
  refine ⟨k, rfl, by omega, by omega, ?_⟩
  have ml := k.marks_len
  have fe : k.marks.filter (fun m => decide (m ∉ ms)) = [] := List.filter_eq_nil_iff.mpr fun m hm => by simpa using k.marks_over ok m hm
  refine cl_filE PyData.str PyData.str (fun m => decide (m ∉ ms)) k.marks (by exact big (by simp; omega)) (fun m Kt Kf hmk ht hf => ?_) ?_
  · have hmm := k.marks_over ok m hmk
    simp only [any_strs, decide_eq_true hmm, flatD, List.any_cons, List.any_nil, eqv_str, eqv_int, eqv_ti, eqv_it, eqv_st, eqv_ts, cut1, Bool.or_false, Bool.or_true, Bool.and_self, Bool.and_true, Bool.and_false, Bool.false_or, Bool.true_or, and_self, ofs_inj, ofs_app, ofs_len, String.reduceEq, String.reduceNe, String.reduceAppend, decide_true, decide_false, Bool.not_true, Bool.not_false, sz0, sz1, sz2, sz3, sz4, sz5, sz6, sz7, sz8, sz9, sz10, sz11, sz12, sz13, sz14, sz15, sz16, sz17, sz18, sz19, sz20, sz21, sz22, sz23, sz24, sz25, cpow1018, true_and, and_true, Nat.reduceAdd, Nat.reduceLT, Nat.reduceSub, Int.reduceNe, Int.reduceEq, Int.reduceLT, Int.reduceLE, Int.reduceToNat, ne_eq, not_false_eq_true, List.length_map, Nat.lt_irrefl, dV_nx, dV_rt, at0, at1, at2, at3, ix20, ix21, vSeq, vIfS, vTest, vTruth, truth, v2, v1, vN, vCons, vNil, vStar, vVar, vC, xIx, Vl.opI0, Vl.opI, pk, vSet, vAug, vAsg, xgSub, vRet, vRetN, vNext_mk, vDrop, vBreak, vCont, asD, asDs, opMod, opDiv, opMul2, Vl.opAdd, Vl.opAddO, opSub, opPow, opLt, Vl.opLe, opGt, Vl.opGe, xEq, okEq_str, okEq_int, xIn, okIn, inD, xIsN, isNone_n, isNone_t, isNone_l, isNone_i, isNone_s, isMo, mob, pkm, gModI, gDivI, gSubI, gMulI, gPowI, gGt, gLt, gLe, gGe, vNotT, vAndT, vOrT, vAndV, vOrV, opNot, opNotG, vIfE, opTup, opLst, opLstO, Vl.opLen, Vl.opInt, opList, opListO, opTuple, opII, gMax, gMin, vM, vM0, isT, xPop, Vl.opAppend, opExtend, opJoin, vgName, vgTup, vgCons, vgNil, kOpt_some, kOpn_some, kOps_some, Vl.opSum, Vl.opInsert, Vl.opIndex, opDivmod, vSl, vPart, vNoPart, opSl, opSlO, opRev, opCallK, ownD, ownO, objs, renum, uniq, getS, putS, vCall0, vFor, vForW, En.wk, vSeqI, vTupI, vRng1, vRng2, vEnum, vZip, chkOf, vLcK, vYes, finD, finO, En.wipe, wipeE, En.trim, trimS, dropNone, clr_n, clr_v, clr_k, clr_o, wth, Vl.ret, takeS, startV,  List.map_cons, List.map_nil, List.length_cons, List.length_nil, List.cons_append, List.nil_append, List.replicate, List.getElem?_cons_succ, List.getElem?_cons_zero, List.getElem?_nil, List.set_cons_succ, List.set_cons_zero, List.set_nil, List.all_nil, List.all_cons, Bool.true_and, Option.map_some, Option.map_none, if_true, if_false, decide_eq_true_eq, Bool.false_eq_true, List.take_succ_cons, List.take_zero, List.take_nil, List.drop_succ_cons, List.drop_zero, List.drop_nil, reduceIte, reduceCtorEq]
    exact ⟨⟨shaped_str (hok m hmm), shaped_strs hok⟩, hf _ (by simpa using hmm) rfl⟩
  · simp only [fe, List.nil_append, eqv_nil, List.isEmpty_nil, flatD, List.any_cons, List.any_nil, eqv_str, eqv_int, eqv_ti, eqv_it, eqv_st, eqv_ts, cut1, Bool.or_false, Bool.or_true, Bool.and_self, Bool.and_true, Bool.and_false, Bool.false_or, Bool.true_or, and_self, ofs_inj, ofs_app, ofs_len, String.reduceEq, String.reduceNe, String.reduceAppend, decide_true, decide_false, Bool.not_true, Bool.not_false, sz0, sz1, sz2, sz3, sz4, sz5, sz6, sz7, sz8, sz9, sz10, sz11, sz12, sz13, sz14, sz15, sz16, sz17, sz18, sz19, sz20, sz21, sz22, sz23, sz24, sz25, cpow1018, true_and, and_true, Nat.reduceAdd, Nat.reduceLT, Nat.reduceSub, Int.reduceNe, Int.reduceEq, Int.reduceLT, Int.reduceLE, Int.reduceToNat, ne_eq, not_false_eq_true, List.length_map, Nat.lt_irrefl, dV_nx, dV_rt, at0, at1, at2, at3, ix20, ix21, vSeq, vIfS, vTest, vTruth, truth, v2, v1, vN, vCons, vNil, vStar, vVar, vC, xIx, Vl.opI0, Vl.opI, pk, vSet, vAug, vAsg, xgSub, vRet, vRetN, vNext_mk, vDrop, vBreak, vCont, asD, asDs, opMod, opDiv, opMul2, Vl.opAdd, Vl.opAddO, opSub, opPow, opLt, Vl.opLe, opGt, Vl.opGe, xEq, okEq_str, okEq_int, xIn, okIn, inD, xIsN, isNone_n, isNone_t, isNone_l, isNone_i, isNone_s, isMo, mob, pkm, gModI, gDivI, gSubI, gMulI, gPowI, gGt, gLt, gLe, gGe, vNotT, vAndT, vOrT, vAndV, vOrV, opNot, opNotG, vIfE, opTup, opLst, opLstO, Vl.opLen, Vl.opInt, opList, opListO, opTuple, opII, gMax, gMin, vM, vM0, isT, xPop, Vl.opAppend, opExtend, opJoin, vgName, vgTup, vgCons, vgNil, kOpt_some, kOpn_some, kOps_some, Vl.opSum, Vl.opInsert, Vl.opIndex, opDivmod, vSl, vPart, vNoPart, opSl, opSlO, opRev, opCallK, ownD, ownO, objs, renum, uniq, getS, putS, vCall0, vFor, vForW, En.wk, vSeqI, vTupI, vRng1, vRng2, vEnum, vZip, chkOf, vLcK, vYes, finD, finO, En.wipe, wipeE, En.trim, trimS, dropNone, clr_n, clr_v, clr_k, clr_o, wth, Vl.ret, takeS, startV,  List.map_cons, List.map_nil, List.length_cons, List.length_nil, List.cons_append, List.nil_append, List.replicate, List.getElem?_cons_succ, List.getElem?_cons_zero, List.getElem?_nil, List.set_cons_succ, List.set_cons_zero, List.set_nil, List.all_nil, List.all_cons, Bool.true_and, Option.map_some, Option.map_none, if_true, if_false, decide_eq_true_eq, Bool.false_eq_true, List.take_succ_cons, List.take_zero, List.take_nil, List.drop_succ_cons, List.drop_zero, List.drop_nil, reduceIte, reduceCtorEq]
    refine ⟨okEq_of shp_nil shp_nil, ?_⟩
    simp only [t_Lrightv16_3, pKindNumber, flatD, List.any_cons, List.any_nil, eqv_str, eqv_int, eqv_ti, eqv_it, eqv_st, eqv_ts, cut1, Bool.or_false, Bool.or_true, Bool.and_self, Bool.and_true, Bool.and_false, Bool.false_or, Bool.true_or, and_self, ofs_inj, ofs_app, ofs_len, String.reduceEq, String.reduceNe, String.reduceAppend, decide_true, decide_false, Bool.not_true, Bool.not_false, sz0, sz1, sz2, sz3, sz4, sz5, sz6, sz7, sz8, sz9, sz10, sz11, sz12, sz13, sz14, sz15, sz16, sz17, sz18, sz19, sz20, sz21, sz22, sz23, sz24, sz25, cpow1018, true_and, and_true, Nat.reduceAdd, Nat.reduceLT, Nat.reduceSub, Int.reduceNe, Int.reduceEq, Int.reduceLT, Int.reduceLE, Int.reduceToNat, ne_eq, not_false_eq_true, List.length_map, Nat.lt_irrefl, dV_nx, dV_rt, at0, at1, at2, at3, ix20, ix21, vSeq, vIfS, vTest, vTruth, truth, v2, v1, vN, vCons, vNil, vStar, vVar, vC, xIx, Vl.opI0, Vl.opI, pk, vSet, vAug, vAsg, xgSub, vRet, vRetN, vNext_mk, vDrop, vBreak, vCont, asD, asDs, opMod, opDiv, opMul2, Vl.opAdd, Vl.opAddO, opSub, opPow, opLt, Vl.opLe, opGt, Vl.opGe, xEq, okEq_str, okEq_int, xIn, okIn, inD, xIsN, isNone_n, isNone_t, isNone_l, isNone_i, isNone_s, isMo, mob, pkm, gModI, gDivI, gSubI, gMulI, gPowI, gGt, gLt, gLe, gGe, vNotT, vAndT, vOrT, vAndV, vOrV, opNot, opNotG, vIfE, opTup, opLst, opLstO, Vl.opLen, Vl.opInt, opList, opListO, opTuple, opII, gMax, gMin, vM, vM0, isT, xPop, Vl.opAppend, opExtend, opJoin, vgName, vgTup, vgCons, vgNil, kOpt_some, kOpn_some, kOps_some, Vl.opSum, Vl.opInsert, Vl.opIndex, opDivmod, vSl, vPart, vNoPart, opSl, opSlO, opRev, opCallK, ownD, ownO, objs, renum, uniq, getS, putS, vCall0, vFor, vForW, En.wk, vSeqI, vTupI, vRng1, vRng2, vEnum, vZip, chkOf, vLcK, vYes, finD, finO, En.wipe, wipeE, En.trim, trimS, dropNone, clr_n, clr_v, clr_k, clr_o, wth, Vl.ret, takeS, startV,  List.map_cons, List.map_nil, List.length_cons, List.length_nil, List.cons_append, List.nil_append, List.replicate, List.getElem?_cons_succ, List.getElem?_cons_zero, List.getElem?_nil, List.set_cons_succ, List.set_cons_zero, List.set_nil, List.all_nil, List.all_cons, Bool.true_and, Option.map_some, Option.map_none, if_true, if_false, decide_eq_true_eq, Bool.false_eq_true, List.take_succ_cons, List.take_zero, List.take_nil, List.drop_succ_cons, List.drop_zero, List.drop_nil, reduceIte, reduceCtorEq]
    refine ⟨ms, k, rfl, hm, hok, ok, by omega, ?_⟩
    simp only [eqv_tup, eqvAll_cons, eqvAll_nil, eqv_strs, lk, nk, flatD, List.any_cons, List.any_nil, eqv_str, eqv_int, eqv_ti, eqv_it, eqv_st, eqv_ts, cut1, Bool.or_false, Bool.or_true, Bool.and_self, Bool.and_true, Bool.and_false, Bool.false_or, Bool.true_or, and_self, ofs_inj, ofs_app, ofs_len, String.reduceEq, String.reduceNe, String.reduceAppend, decide_true, decide_false, Bool.not_true, Bool.not_false, sz0, sz1, sz2, sz3, sz4, sz5, sz6, sz7, sz8, sz9, sz10, sz11, sz12, sz13, sz14, sz15, sz16, sz17, sz18, sz19, sz20, sz21, sz22, sz23, sz24, sz25, cpow1018, true_and, and_true, Nat.reduceAdd, Nat.reduceLT, Nat.reduceSub, Int.reduceNe, Int.reduceEq, Int.reduceLT, Int.reduceLE, Int.reduceToNat, ne_eq, not_false_eq_true, List.length_map, Nat.lt_irrefl, dV_nx, dV_rt, at0, at1, at2, at3, ix20, ix21, vSeq, vIfS, vTest, vTruth, truth, v2, v1, vN, vCons, vNil, vStar, vVar, vC, xIx, Vl.opI0, Vl.opI, pk, vSet, vAug, vAsg, xgSub, vRet, vRetN, vNext_mk, vDrop, vBreak, vCont, asD, asDs, opMod, opDiv, opMul2, Vl.opAdd, Vl.opAddO, opSub, opPow, opLt, Vl.opLe, opGt, Vl.opGe, xEq, okEq_str, okEq_int, xIn, okIn, inD, xIsN, isNone_n, isNone_t, isNone_l, isNone_i, isNone_s, isMo, mob, pkm, gModI, gDivI, gSubI, gMulI, gPowI, gGt, gLt, gLe, gGe, vNotT, vAndT, vOrT, vAndV, vOrV, opNot, opNotG, vIfE, opTup, opLst, opLstO, Vl.opLen, Vl.opInt, opList, opListO, opTuple, opII, gMax, gMin, vM, vM0, isT, xPop, Vl.opAppend, opExtend, opJoin, vgName, vgTup, vgCons, vgNil, kOpt_some, kOpn_some, kOps_some, Vl.opSum, Vl.opInsert, Vl.opIndex, opDivmod, vSl, vPart, vNoPart, opSl, opSlO, opRev, opCallK, ownD, ownO, objs, renum, uniq, getS, putS, vCall0, vFor, vForW, En.wk, vSeqI, vTupI, vRng1, vRng2, vEnum, vZip, chkOf, vLcK, vYes, finD, finO, En.wipe, wipeE, En.trim, trimS, dropNone, clr_n, clr_v, clr_k, clr_o, wth, Vl.ret, takeS, startV,  List.map_cons, List.map_nil, List.length_cons, List.length_nil, List.cons_append, List.nil_append, List.replicate, List.getElem?_cons_succ, List.getElem?_cons_zero, List.getElem?_nil, List.set_cons_succ, List.set_cons_zero, List.set_nil, List.all_nil, List.all_cons, Bool.true_and, Option.map_some, Option.map_none, if_true, if_false, decide_eq_true_eq, Bool.false_eq_true, List.take_succ_cons, List.take_zero, List.take_nil, List.drop_succ_cons, List.drop_zero, List.drop_nil, reduceIte, reduceCtorEq]
    exact ⟨okEq_of (shp_ii _ _) (shp_ii _ _), okEq_of (shp_strs hok) (shp_strs hok), q⟩
theorem r_lawk71 {ss cs Kp} (h : pLaw ss cs Kp) : t_lawk71 pPool pUnlike pMarks pTake pKindsMany pRight71 pKindAt pKindNumber (dV cs.length Kp) ⟨startV 11 ss, cs.map some⟩ := by
  obtain ⟨ns, rfl, rfl, hl, k⟩ := h
  simp only [t_lawk71, t_lawk71_17, flatD, List.any_cons, List.any_nil, eqv_str, eqv_int, eqv_ti, eqv_it, eqv_st, eqv_ts, cut1, Bool.or_false, Bool.or_true, Bool.and_self, Bool.and_true, Bool.and_false, Bool.false_or, Bool.true_or, and_self, ofs_inj, ofs_app, ofs_len, String.reduceEq, String.reduceNe, String.reduceAppend, decide_true, decide_false, Bool.not_true, Bool.not_false, sz0, sz1, sz2, sz3, sz4, sz5, sz6, sz7, sz8, sz9, sz10, sz11, sz12, sz13, sz14, sz15, sz16, sz17, sz18, sz19, sz20, sz21, sz22, sz23, sz24, sz25, cpow1018, true_and, and_true, Nat.reduceAdd, Nat.reduceLT, Nat.reduceSub, Int.reduceNe, Int.reduceEq, Int.reduceLT, Int.reduceLE, Int.reduceToNat, ne_eq, not_false_eq_true, List.length_map, Nat.lt_irrefl, dV_nx, dV_rt, at0, at1, at2, at3, ix20, ix21, vSeq, vIfS, vTest, vTruth, truth, v2, v1, vN, vCons, vNil, vStar, vVar, vC, xIx, Vl.opI0, Vl.opI, pk, vSet, vAug, vAsg, xgSub, vRet, vRetN, vNext_mk, vDrop, vBreak, vCont, asD, asDs, opMod, opDiv, opMul2, Vl.opAdd, Vl.opAddO, opSub, opPow, opLt, Vl.opLe, opGt, Vl.opGe, xEq, okEq_str, okEq_int, xIn, okIn, inD, xIsN, isNone_n, isNone_t, isNone_l, isNone_i, isNone_s, isMo, mob, pkm, gModI, gDivI, gSubI, gMulI, gPowI, gGt, gLt, gLe, gGe, vNotT, vAndT, vOrT, vAndV, vOrV, opNot, opNotG, vIfE, opTup, opLst, opLstO, Vl.opLen, Vl.opInt, opList, opListO, opTuple, opII, gMax, gMin, vM, vM0, isT, xPop, Vl.opAppend, opExtend, opJoin, vgName, vgTup, vgCons, vgNil, kOpt_some, kOpn_some, kOps_some, Vl.opSum, Vl.opInsert, Vl.opIndex, opDivmod, vSl, vPart, vNoPart, opSl, opSlO, opRev, opCallK, ownD, ownO, objs, renum, uniq, getS, putS, vCall0, vFor, vForW, En.wk, vSeqI, vTupI, vRng1, vRng2, vEnum, vZip, chkOf, vLcK, vYes, finD, finO, En.wipe, wipeE, En.trim, trimS, dropNone, clr_n, clr_v, clr_k, clr_o, wth, Vl.ret, takeS, startV,  List.map_cons, List.map_nil, List.length_cons, List.length_nil, List.cons_append, List.nil_append, List.replicate, List.getElem?_cons_succ, List.getElem?_cons_zero, List.getElem?_nil, List.set_cons_succ, List.set_cons_zero, List.set_nil, List.all_nil, List.all_cons, Bool.true_and, Option.map_some, Option.map_none, if_true, if_false, decide_eq_true_eq, Bool.false_eq_true, List.take_succ_cons, List.take_zero, List.take_nil, List.drop_succ_cons, List.drop_zero, List.drop_nil, reduceIte, reduceCtorEq]
  generalize hN : (if (if (12 : Int) < (ns.length : Nat) then (12 : Int) else (ns.length : Nat)) > 1 then (if (12 : Int) < (ns.length : Nat) then (12 : Int) else (ns.length : Nat)) else 1) = N
  have hN1 : 0 ≤ N ∧ N ≤ 12 := by
    rw [← hN]
    split <;> split <;> omega
  refine ⟨by omega, by omega, ?_⟩
  rw [rng_eq]
  refine fl_invW (chk := none) (fun (i : Nat) => PyData.int (0 + (i : Nat))) _ (fun ys e => e = ⟨[some (.kn (ns.map .int)), none, none, none, none, none, none, none, none, none, none], []⟩) (fun _ _ _ => trivial) ?_ ?_ rfl
  · rintro ys i zs e Nx hys rfl hk
    have hi : i < N.toNat := List.mem_range.mp (by rw [hys]; simp)
    simp only [t_lawk71_15, pPool, flatD, List.any_cons, List.any_nil, eqv_str, eqv_int, eqv_ti, eqv_it, eqv_st, eqv_ts, cut1, Bool.or_false, Bool.or_true, Bool.and_self, Bool.and_true, Bool.and_false, Bool.false_or, Bool.true_or, and_self, ofs_inj, ofs_app, ofs_len, String.reduceEq, String.reduceNe, String.reduceAppend, decide_true, decide_false, Bool.not_true, Bool.not_false, sz0, sz1, sz2, sz3, sz4, sz5, sz6, sz7, sz8, sz9, sz10, sz11, sz12, sz13, sz14, sz15, sz16, sz17, sz18, sz19, sz20, sz21, sz22, sz23, sz24, sz25, cpow1018, true_and, and_true, Nat.reduceAdd, Nat.reduceLT, Nat.reduceSub, Int.reduceNe, Int.reduceEq, Int.reduceLT, Int.reduceLE, Int.reduceToNat, ne_eq, not_false_eq_true, List.length_map, Nat.lt_irrefl, dV_nx, dV_rt, at0, at1, at2, at3, ix20, ix21, vSeq, vIfS, vTest, vTruth, truth, v2, v1, vN, vCons, vNil, vStar, vVar, vC, xIx, Vl.opI0, Vl.opI, pk, vSet, vAug, vAsg, xgSub, vRet, vRetN, vNext_mk, vDrop, vBreak, vCont, asD, asDs, opMod, opDiv, opMul2, Vl.opAdd, Vl.opAddO, opSub, opPow, opLt, Vl.opLe, opGt, Vl.opGe, xEq, okEq_str, okEq_int, xIn, okIn, inD, xIsN, isNone_n, isNone_t, isNone_l, isNone_i, isNone_s, isMo, mob, pkm, gModI, gDivI, gSubI, gMulI, gPowI, gGt, gLt, gLe, gGe, vNotT, vAndT, vOrT, vAndV, vOrV, opNot, opNotG, vIfE, opTup, opLst, opLstO, Vl.opLen, Vl.opInt, opList, opListO, opTuple, opII, gMax, gMin, vM, vM0, isT, xPop, Vl.opAppend, opExtend, opJoin, vgName, vgTup, vgCons, vgNil, kOpt_some, kOpn_some, kOps_some, Vl.opSum, Vl.opInsert, Vl.opIndex, opDivmod, vSl, vPart, vNoPart, opSl, opSlO, opRev, opCallK, ownD, ownO, objs, renum, uniq, getS, putS, vCall0, vFor, vForW, En.wk, vSeqI, vTupI, vRng1, vRng2, vEnum, vZip, chkOf, vLcK, vYes, finD, finO, En.wipe, wipeE, En.trim, trimS, dropNone, clr_n, clr_v, clr_k, clr_o, wth, Vl.ret, takeS, startV,  List.map_cons, List.map_nil, List.length_cons, List.length_nil, List.cons_append, List.nil_append, List.replicate, List.getElem?_cons_succ, List.getElem?_cons_zero, List.getElem?_nil, List.set_cons_succ, List.set_cons_zero, List.set_nil, List.all_nil, List.all_cons, Bool.true_and, Option.map_some, Option.map_none, if_true, if_false, decide_eq_true_eq, Bool.false_eq_true, List.take_succ_cons, List.take_zero, List.take_nil, List.drop_succ_cons, List.drop_zero, List.drop_nil, reduceIte, reduceCtorEq]
    refine ⟨ns, i, by rw [Int.zero_add], hl, by omega, fun c n pn => ?_⟩
    simp only [t_lawk71_14, pMarks, flatD, List.any_cons, List.any_nil, eqv_str, eqv_int, eqv_ti, eqv_it, eqv_st, eqv_ts, cut1, Bool.or_false, Bool.or_true, Bool.and_self, Bool.and_true, Bool.and_false, Bool.false_or, Bool.true_or, and_self, ofs_inj, ofs_app, ofs_len, String.reduceEq, String.reduceNe, String.reduceAppend, decide_true, decide_false, Bool.not_true, Bool.not_false, sz0, sz1, sz2, sz3, sz4, sz5, sz6, sz7, sz8, sz9, sz10, sz11, sz12, sz13, sz14, sz15, sz16, sz17, sz18, sz19, sz20, sz21, sz22, sz23, sz24, sz25, cpow1018, true_and, and_true, Nat.reduceAdd, Nat.reduceLT, Nat.reduceSub, Int.reduceNe, Int.reduceEq, Int.reduceLT, Int.reduceLE, Int.reduceToNat, ne_eq, not_false_eq_true, List.length_map, Nat.lt_irrefl, dV_nx, dV_rt, at0, at1, at2, at3, ix20, ix21, vSeq, vIfS, vTest, vTruth, truth, v2, v1, vN, vCons, vNil, vStar, vVar, vC, xIx, Vl.opI0, Vl.opI, pk, vSet, vAug, vAsg, xgSub, vRet, vRetN, vNext_mk, vDrop, vBreak, vCont, asD, asDs, opMod, opDiv, opMul2, Vl.opAdd, Vl.opAddO, opSub, opPow, opLt, Vl.opLe, opGt, Vl.opGe, xEq, okEq_str, okEq_int, xIn, okIn, inD, xIsN, isNone_n, isNone_t, isNone_l, isNone_i, isNone_s, isMo, mob, pkm, gModI, gDivI, gSubI, gMulI, gPowI, gGt, gLt, gLe, gGe, vNotT, vAndT, vOrT, vAndV, vOrV, opNot, opNotG, vIfE, opTup, opLst, opLstO, Vl.opLen, Vl.opInt, opList, opListO, opTuple, opII, gMax, gMin, vM, vM0, isT, xPop, Vl.opAppend, opExtend, opJoin, vgName, vgTup, vgCons, vgNil, kOpt_some, kOpn_some, kOps_some, Vl.opSum, Vl.opInsert, Vl.opIndex, opDivmod, vSl, vPart, vNoPart, opSl, opSlO, opRev, opCallK, ownD, ownO, objs, renum, uniq, getS, putS, vCall0, vFor, vForW, En.wk, vSeqI, vTupI, vRng1, vRng2, vEnum, vZip, chkOf, vLcK, vYes, finD, finO, En.wipe, wipeE, En.trim, trimS, dropNone, clr_n, clr_v, clr_k, clr_o, wth, Vl.ret, takeS, startV,  List.map_cons, List.map_nil, List.length_cons, List.length_nil, List.cons_append, List.nil_append, List.replicate, List.getElem?_cons_succ, List.getElem?_cons_zero, List.getElem?_nil, List.set_cons_succ, List.set_cons_zero, List.set_nil, List.all_nil, List.all_cons, Bool.true_and, Option.map_some, Option.map_none, if_true, if_false, decide_eq_true_eq, Bool.false_eq_true, List.take_succ_cons, List.take_zero, List.take_nil, List.drop_succ_cons, List.drop_zero, List.drop_nil, reduceIte, reduceCtorEq]
    refine ⟨c, n, rfl, pn, fun ms c1 n1 hm pn1 => ?_⟩
    simp only [pUnlike, flatD, List.any_cons, List.any_nil, eqv_str, eqv_int, eqv_ti, eqv_it, eqv_st, eqv_ts, cut1, Bool.or_false, Bool.or_true, Bool.and_self, Bool.and_true, Bool.and_false, Bool.false_or, Bool.true_or, and_self, ofs_inj, ofs_app, ofs_len, String.reduceEq, String.reduceNe, String.reduceAppend, decide_true, decide_false, Bool.not_true, Bool.not_false, sz0, sz1, sz2, sz3, sz4, sz5, sz6, sz7, sz8, sz9, sz10, sz11, sz12, sz13, sz14, sz15, sz16, sz17, sz18, sz19, sz20, sz21, sz22, sz23, sz24, sz25, cpow1018, true_and, and_true, Nat.reduceAdd, Nat.reduceLT, Nat.reduceSub, Int.reduceNe, Int.reduceEq, Int.reduceLT, Int.reduceLE, Int.reduceToNat, ne_eq, not_false_eq_true, List.length_map, Nat.lt_irrefl, dV_nx, dV_rt, at0, at1, at2, at3, ix20, ix21, vSeq, vIfS, vTest, vTruth, truth, v2, v1, vN, vCons, vNil, vStar, vVar, vC, xIx, Vl.opI0, Vl.opI, pk, vSet, vAug, vAsg, xgSub, vRet, vRetN, vNext_mk, vDrop, vBreak, vCont, asD, asDs, opMod, opDiv, opMul2, Vl.opAdd, Vl.opAddO, opSub, opPow, opLt, Vl.opLe, opGt, Vl.opGe, xEq, okEq_str, okEq_int, xIn, okIn, inD, xIsN, isNone_n, isNone_t, isNone_l, isNone_i, isNone_s, isMo, mob, pkm, gModI, gDivI, gSubI, gMulI, gPowI, gGt, gLt, gLe, gGe, vNotT, vAndT, vOrT, vAndV, vOrV, opNot, opNotG, vIfE, opTup, opLst, opLstO, Vl.opLen, Vl.opInt, opList, opListO, opTuple, opII, gMax, gMin, vM, vM0, isT, xPop, Vl.opAppend, opExtend, opJoin, vgName, vgTup, vgCons, vgNil, kOpt_some, kOpn_some, kOps_some, Vl.opSum, Vl.opInsert, Vl.opIndex, opDivmod, vSl, vPart, vNoPart, opSl, opSlO, opRev, opCallK, ownD, ownO, objs, renum, uniq, getS, putS, vCall0, vFor, vForW, En.wk, vSeqI, vTupI, vRng1, vRng2, vEnum, vZip, chkOf, vLcK, vYes, finD, finO, En.wipe, wipeE, En.trim, trimS, dropNone, clr_n, clr_v, clr_k, clr_o, wth, Vl.ret, takeS, startV,  List.map_cons, List.map_nil, List.length_cons, List.length_nil, List.cons_append, List.nil_append, List.replicate, List.getElem?_cons_succ, List.getElem?_cons_zero, List.getElem?_nil, List.set_cons_succ, List.set_cons_zero, List.set_nil, List.all_nil, List.all_cons, Bool.true_and, Option.map_some, Option.map_none, if_true, if_false, decide_eq_true_eq, Bool.false_eq_true, List.take_succ_cons, List.take_zero, List.take_nil, List.drop_succ_cons, List.drop_zero, List.drop_nil, reduceIte, reduceCtorEq]
    refine ⟨ms, c1, n1, rfl, rfl, pn1, by have := hm.hi; omega, fun os c2 n2 hp pn2 => ?_⟩
    have hol : os.length = ms.length := hp.length_eq
    have ol := hm.hi
    have hok : ∀ m ∈ os, PyData.strOk m = true := fun m h => (hm.all m (hp.subset h)).ok
    have hnd : os.Nodup := hp.nodup_iff.mpr hm.nd
    simp only [t_lawk71_13, pTake, flatD, List.any_cons, List.any_nil, eqv_str, eqv_int, eqv_ti, eqv_it, eqv_st, eqv_ts, cut1, Bool.or_false, Bool.or_true, Bool.and_self, Bool.and_true, Bool.and_false, Bool.false_or, Bool.true_or, and_self, ofs_inj, ofs_app, ofs_len, String.reduceEq, String.reduceNe, String.reduceAppend, decide_true, decide_false, Bool.not_true, Bool.not_false, sz0, sz1, sz2, sz3, sz4, sz5, sz6, sz7, sz8, sz9, sz10, sz11, sz12, sz13, sz14, sz15, sz16, sz17, sz18, sz19, sz20, sz21, sz22, sz23, sz24, sz25, cpow1018, true_and, and_true, Nat.reduceAdd, Nat.reduceLT, Nat.reduceSub, Int.reduceNe, Int.reduceEq, Int.reduceLT, Int.reduceLE, Int.reduceToNat, ne_eq, not_false_eq_true, List.length_map, Nat.lt_irrefl, dV_nx, dV_rt, at0, at1, at2, at3, ix20, ix21, vSeq, vIfS, vTest, vTruth, truth, v2, v1, vN, vCons, vNil, vStar, vVar, vC, xIx, Vl.opI0, Vl.opI, pk, vSet, vAug, vAsg, xgSub, vRet, vRetN, vNext_mk, vDrop, vBreak, vCont, asD, asDs, opMod, opDiv, opMul2, Vl.opAdd, Vl.opAddO, opSub, opPow, opLt, Vl.opLe, opGt, Vl.opGe, xEq, okEq_str, okEq_int, xIn, okIn, inD, xIsN, isNone_n, isNone_t, isNone_l, isNone_i, isNone_s, isMo, mob, pkm, gModI, gDivI, gSubI, gMulI, gPowI, gGt, gLt, gLe, gGe, vNotT, vAndT, vOrT, vAndV, vOrV, opNot, opNotG, vIfE, opTup, opLst, opLstO, Vl.opLen, Vl.opInt, opList, opListO, opTuple, opII, gMax, gMin, vM, vM0, isT, xPop, Vl.opAppend, opExtend, opJoin, vgName, vgTup, vgCons, vgNil, kOpt_some, kOpn_some, kOps_some, Vl.opSum, Vl.opInsert, Vl.opIndex, opDivmod, vSl, vPart, vNoPart, opSl, opSlO, opRev, opCallK, ownD, ownO, objs, renum, uniq, getS, putS, vCall0, vFor, vForW, En.wk, vSeqI, vTupI, vRng1, vRng2, vEnum, vZip, chkOf, vLcK, vYes, finD, finO, En.wipe, wipeE, En.trim, trimS, dropNone, clr_n, clr_v, clr_k, clr_o, wth, Vl.ret, takeS, startV,  List.map_cons, List.map_nil, List.length_cons, List.length_nil, List.cons_append, List.nil_append, List.replicate, List.getElem?_cons_succ, List.getElem?_cons_zero, List.getElem?_nil, List.set_cons_succ, List.set_cons_zero, List.set_nil, List.all_nil, List.all_cons, Bool.true_and, Option.map_some, Option.map_none, if_true, if_false, decide_eq_true_eq, Bool.false_eq_true, List.take_succ_cons, List.take_zero, List.take_nil, List.drop_succ_cons, List.drop_zero, List.drop_nil, reduceIte, reduceCtorEq]
    refine ⟨pn2, fun l c3 n3 l0 l1 pn3 => ?_⟩
    obtain ⟨lv, rfl⟩ : ∃ lv : Nat, l = lv := ⟨l.toNat, by omega⟩
    have el : (1 + (lv : Nat) : Int) = ((lv + 1 : Nat) : Int) := by omega
    have mb := many_bound (b := os.length) (n := lv + 1) (by omega) (by omega)
    have mp := many_pos os.length (lv + 1) (by omega)
    simp only [t_lawk71_12, pKindsMany, flatD, List.any_cons, List.any_nil, eqv_str, eqv_int, eqv_ti, eqv_it, eqv_st, eqv_ts, cut1, Bool.or_false, Bool.or_true, Bool.and_self, Bool.and_true, Bool.and_false, Bool.false_or, Bool.true_or, and_self, ofs_inj, ofs_app, ofs_len, String.reduceEq, String.reduceNe, String.reduceAppend, decide_true, decide_false, Bool.not_true, Bool.not_false, sz0, sz1, sz2, sz3, sz4, sz5, sz6, sz7, sz8, sz9, sz10, sz11, sz12, sz13, sz14, sz15, sz16, sz17, sz18, sz19, sz20, sz21, sz22, sz23, sz24, sz25, cpow1018, true_and, and_true, Nat.reduceAdd, Nat.reduceLT, Nat.reduceSub, Int.reduceNe, Int.reduceEq, Int.reduceLT, Int.reduceLE, Int.reduceToNat, ne_eq, not_false_eq_true, List.length_map, Nat.lt_irrefl, dV_nx, dV_rt, at0, at1, at2, at3, ix20, ix21, vSeq, vIfS, vTest, vTruth, truth, v2, v1, vN, vCons, vNil, vStar, vVar, vC, xIx, Vl.opI0, Vl.opI, pk, vSet, vAug, vAsg, xgSub, vRet, vRetN, vNext_mk, vDrop, vBreak, vCont, asD, asDs, opMod, opDiv, opMul2, Vl.opAdd, Vl.opAddO, opSub, opPow, opLt, Vl.opLe, opGt, Vl.opGe, xEq, okEq_str, okEq_int, xIn, okIn, inD, xIsN, isNone_n, isNone_t, isNone_l, isNone_i, isNone_s, isMo, mob, pkm, gModI, gDivI, gSubI, gMulI, gPowI, gGt, gLt, gLe, gGe, vNotT, vAndT, vOrT, vAndV, vOrV, opNot, opNotG, vIfE, opTup, opLst, opLstO, Vl.opLen, Vl.opInt, opList, opListO, opTuple, opII, gMax, gMin, vM, vM0, isT, xPop, Vl.opAppend, opExtend, opJoin, vgName, vgTup, vgCons, vgNil, kOpt_some, kOpn_some, kOps_some, Vl.opSum, Vl.opInsert, Vl.opIndex, opDivmod, vSl, vPart, vNoPart, opSl, opSlO, opRev, opCallK, ownD, ownO, objs, renum, uniq, getS, putS, vCall0, vFor, vForW, En.wk, vSeqI, vTupI, vRng1, vRng2, vEnum, vZip, chkOf, vLcK, vYes, finD, finO, En.wipe, wipeE, En.trim, trimS, dropNone, clr_n, clr_v, clr_k, clr_o, wth, Vl.ret, takeS, startV,  List.map_cons, List.map_nil, List.length_cons, List.length_nil, List.cons_append, List.nil_append, List.replicate, List.getElem?_cons_succ, List.getElem?_cons_zero, List.getElem?_nil, List.set_cons_succ, List.set_cons_zero, List.set_nil, List.all_nil, List.all_cons, Bool.true_and, Option.map_some, Option.map_none, if_true, if_false, decide_eq_true_eq, Bool.false_eq_true, List.take_succ_cons, List.take_zero, List.take_nil, List.drop_succ_cons, List.drop_zero, List.drop_nil, reduceIte, reduceCtorEq]
    refine ⟨os, lv + 1, by rw [el], by omega, by omega, by omega, ?_⟩
    simp only [t_lawk71_11, pTake, flatD, List.any_cons, List.any_nil, eqv_str, eqv_int, eqv_ti, eqv_it, eqv_st, eqv_ts, cut1, Bool.or_false, Bool.or_true, Bool.and_self, Bool.and_true, Bool.and_false, Bool.false_or, Bool.true_or, and_self, ofs_inj, ofs_app, ofs_len, String.reduceEq, String.reduceNe, String.reduceAppend, decide_true, decide_false, Bool.not_true, Bool.not_false, sz0, sz1, sz2, sz3, sz4, sz5, sz6, sz7, sz8, sz9, sz10, sz11, sz12, sz13, sz14, sz15, sz16, sz17, sz18, sz19, sz20, sz21, sz22, sz23, sz24, sz25, cpow1018, true_and, and_true, Nat.reduceAdd, Nat.reduceLT, Nat.reduceSub, Int.reduceNe, Int.reduceEq, Int.reduceLT, Int.reduceLE, Int.reduceToNat, ne_eq, not_false_eq_true, List.length_map, Nat.lt_irrefl, dV_nx, dV_rt, at0, at1, at2, at3, ix20, ix21, vSeq, vIfS, vTest, vTruth, truth, v2, v1, vN, vCons, vNil, vStar, vVar, vC, xIx, Vl.opI0, Vl.opI, pk, vSet, vAug, vAsg, xgSub, vRet, vRetN, vNext_mk, vDrop, vBreak, vCont, asD, asDs, opMod, opDiv, opMul2, Vl.opAdd, Vl.opAddO, opSub, opPow, opLt, Vl.opLe, opGt, Vl.opGe, xEq, okEq_str, okEq_int, xIn, okIn, inD, xIsN, isNone_n, isNone_t, isNone_l, isNone_i, isNone_s, isMo, mob, pkm, gModI, gDivI, gSubI, gMulI, gPowI, gGt, gLt, gLe, gGe, vNotT, vAndT, vOrT, vAndV, vOrV, opNot, opNotG, vIfE, opTup, opLst, opLstO, Vl.opLen, Vl.opInt, opList, opListO, opTuple, opII, gMax, gMin, vM, vM0, isT, xPop, Vl.opAppend, opExtend, opJoin, vgName, vgTup, vgCons, vgNil, kOpt_some, kOpn_some, kOps_some, Vl.opSum, Vl.opInsert, Vl.opIndex, opDivmod, vSl, vPart, vNoPart, opSl, opSlO, opRev, opCallK, ownD, ownO, objs, renum, uniq, getS, putS, vCall0, vFor, vForW, En.wk, vSeqI, vTupI, vRng1, vRng2, vEnum, vZip, chkOf, vLcK, vYes, finD, finO, En.wipe, wipeE, En.trim, trimS, dropNone, clr_n, clr_v, clr_k, clr_o, wth, Vl.ret, takeS, startV,  List.map_cons, List.map_nil, List.length_cons, List.length_nil, List.cons_append, List.nil_append, List.replicate, List.getElem?_cons_succ, List.getElem?_cons_zero, List.getElem?_nil, List.set_cons_succ, List.set_cons_zero, List.set_nil, List.all_nil, List.all_cons, Bool.true_and, Option.map_some, Option.map_none, if_true, if_false, decide_eq_true_eq, Bool.false_eq_true, List.take_succ_cons, List.take_zero, List.take_nil, List.drop_succ_cons, List.drop_zero, List.drop_nil, reduceIte, reduceCtorEq]
    generalize hM : many os.length (lv + 1) = M at *
    refine ⟨pn3, by omega, by omega, fun r c4 n4 r0 r1 pn4 => ?_⟩
    have q1 := nm_nat (x := r + 1) (m := M) (by omega)
    simp only [t_lawk71_10, flatD, List.any_cons, List.any_nil, eqv_str, eqv_int, eqv_ti, eqv_it, eqv_st, eqv_ts, cut1, Bool.or_false, Bool.or_true, Bool.and_self, Bool.and_true, Bool.and_false, Bool.false_or, Bool.true_or, and_self, ofs_inj, ofs_app, ofs_len, String.reduceEq, String.reduceNe, String.reduceAppend, decide_true, decide_false, Bool.not_true, Bool.not_false, sz0, sz1, sz2, sz3, sz4, sz5, sz6, sz7, sz8, sz9, sz10, sz11, sz12, sz13, sz14, sz15, sz16, sz17, sz18, sz19, sz20, sz21, sz22, sz23, sz24, sz25, cpow1018, true_and, and_true, Nat.reduceAdd, Nat.reduceLT, Nat.reduceSub, Int.reduceNe, Int.reduceEq, Int.reduceLT, Int.reduceLE, Int.reduceToNat, ne_eq, not_false_eq_true, List.length_map, Nat.lt_irrefl, dV_nx, dV_rt, at0, at1, at2, at3, ix20, ix21, vSeq, vIfS, vTest, vTruth, truth, v2, v1, vN, vCons, vNil, vStar, vVar, vC, xIx, Vl.opI0, Vl.opI, pk, vSet, vAug, vAsg, xgSub, vRet, vRetN, vNext_mk, vDrop, vBreak, vCont, asD, asDs, opMod, opDiv, opMul2, Vl.opAdd, Vl.opAddO, opSub, opPow, opLt, Vl.opLe, opGt, Vl.opGe, xEq, okEq_str, okEq_int, xIn, okIn, inD, xIsN, isNone_n, isNone_t, isNone_l, isNone_i, isNone_s, isMo, mob, pkm, gModI, gDivI, gSubI, gMulI, gPowI, gGt, gLt, gLe, gGe, vNotT, vAndT, vOrT, vAndV, vOrV, opNot, opNotG, vIfE, opTup, opLst, opLstO, Vl.opLen, Vl.opInt, opList, opListO, opTuple, opII, gMax, gMin, vM, vM0, isT, xPop, Vl.opAppend, opExtend, opJoin, vgName, vgTup, vgCons, vgNil, kOpt_some, kOpn_some, kOps_some, Vl.opSum, Vl.opInsert, Vl.opIndex, opDivmod, vSl, vPart, vNoPart, opSl, opSlO, opRev, opCallK, ownD, ownO, objs, renum, uniq, getS, putS, vCall0, vFor, vForW, En.wk, vSeqI, vTupI, vRng1, vRng2, vEnum, vZip, chkOf, vLcK, vYes, finD, finO, En.wipe, wipeE, En.trim, trimS, dropNone, clr_n, clr_v, clr_k, clr_o, wth, Vl.ret, takeS, startV,  List.map_cons, List.map_nil, List.length_cons, List.length_nil, List.cons_append, List.nil_append, List.replicate, List.getElem?_cons_succ, List.getElem?_cons_zero, List.getElem?_nil, List.set_cons_succ, List.set_cons_zero, List.set_nil, List.all_nil, List.all_cons, Bool.true_and, Option.map_some, Option.map_none, if_true, if_false, decide_eq_true_eq, Bool.false_eq_true, List.take_succ_cons, List.take_zero, List.take_nil, List.drop_succ_cons, List.drop_zero, List.drop_nil, reduceIte, reduceCtorEq]
    refine ⟨by omega, ?_⟩
    have fin : t_lawk71_9 pPool pUnlike pMarks pTake pKindsMany pRight71 pKindAt pKindNumber { nx := Nx, rt := (dV 0 Kp).rt, bk := t_lawk71_16 pPool pUnlike pMarks pTake pKindsMany pRight71 pKindAt pKindNumber (dV 0 Kp), ct := Nx }
        ⟨[some (.kn (ns.map .int)), some (.val (.int (0 + (i : Nat)))), some (.obj 0), some (.val (.list (os.map .str))), some (.val (.int (1 + (lv : Nat)))), some (.val (.int M)), some (.val (.int r)), none, none, none, none], [some (.l [.int c4, .int n4])]⟩ := by
      simp only [t_lawk71_9, pKindAt, flatD, List.any_cons, List.any_nil, eqv_str, eqv_int, eqv_ti, eqv_it, eqv_st, eqv_ts, cut1, Bool.or_false, Bool.or_true, Bool.and_self, Bool.and_true, Bool.and_false, Bool.false_or, Bool.true_or, and_self, ofs_inj, ofs_app, ofs_len, String.reduceEq, String.reduceNe, String.reduceAppend, decide_true, decide_false, Bool.not_true, Bool.not_false, sz0, sz1, sz2, sz3, sz4, sz5, sz6, sz7, sz8, sz9, sz10, sz11, sz12, sz13, sz14, sz15, sz16, sz17, sz18, sz19, sz20, sz21, sz22, sz23, sz24, sz25, cpow1018, true_and, and_true, Nat.reduceAdd, Nat.reduceLT, Nat.reduceSub, Int.reduceNe, Int.reduceEq, Int.reduceLT, Int.reduceLE, Int.reduceToNat, ne_eq, not_false_eq_true, List.length_map, Nat.lt_irrefl, dV_nx, dV_rt, at0, at1, at2, at3, ix20, ix21, vSeq, vIfS, vTest, vTruth, truth, v2, v1, vN, vCons, vNil, vStar, vVar, vC, xIx, Vl.opI0, Vl.opI, pk, vSet, vAug, vAsg, xgSub, vRet, vRetN, vNext_mk, vDrop, vBreak, vCont, asD, asDs, opMod, opDiv, opMul2, Vl.opAdd, Vl.opAddO, opSub, opPow, opLt, Vl.opLe, opGt, Vl.opGe, xEq, okEq_str, okEq_int, xIn, okIn, inD, xIsN, isNone_n, isNone_t, isNone_l, isNone_i, isNone_s, isMo, mob, pkm, gModI, gDivI, gSubI, gMulI, gPowI, gGt, gLt, gLe, gGe, vNotT, vAndT, vOrT, vAndV, vOrV, opNot, opNotG, vIfE, opTup, opLst, opLstO, Vl.opLen, Vl.opInt, opList, opListO, opTuple, opII, gMax, gMin, vM, vM0, isT, xPop, Vl.opAppend, opExtend, opJoin, vgName, vgTup, vgCons, vgNil, kOpt_some, kOpn_some, kOps_some, Vl.opSum, Vl.opInsert, Vl.opIndex, opDivmod, vSl, vPart, vNoPart, opSl, opSlO, opRev, opCallK, ownD, ownO, objs, renum, uniq, getS, putS, vCall0, vFor, vForW, En.wk, vSeqI, vTupI, vRng1, vRng2, vEnum, vZip, chkOf, vLcK, vYes, finD, finO, En.wipe, wipeE, En.trim, trimS, dropNone, clr_n, clr_v, clr_k, clr_o, wth, Vl.ret, takeS, startV,  List.map_cons, List.map_nil, List.length_cons, List.length_nil, List.cons_append, List.nil_append, List.replicate, List.getElem?_cons_succ, List.getElem?_cons_zero, List.getElem?_nil, List.set_cons_succ, List.set_cons_zero, List.set_nil, List.all_nil, List.all_cons, Bool.true_and, Option.map_some, Option.map_none, if_true, if_false, decide_eq_true_eq, Bool.false_eq_true, List.take_succ_cons, List.take_zero, List.take_nil, List.drop_succ_cons, List.drop_zero, List.drop_nil, reduceIte, reduceCtorEq]
      refine ⟨os, lv + 1, r, by rw [el], by omega, hnd, by omega, by omega, r0, by rw [hM]; exact r1, fun x ox lx nx => ?_⟩
      simp only [t_lawk71_8, pKindAt, flatD, List.any_cons, List.any_nil, eqv_str, eqv_int, eqv_ti, eqv_it, eqv_st, eqv_ts, cut1, Bool.or_false, Bool.or_true, Bool.and_self, Bool.and_true, Bool.and_false, Bool.false_or, Bool.true_or, and_self, ofs_inj, ofs_app, ofs_len, String.reduceEq, String.reduceNe, String.reduceAppend, decide_true, decide_false, Bool.not_true, Bool.not_false, sz0, sz1, sz2, sz3, sz4, sz5, sz6, sz7, sz8, sz9, sz10, sz11, sz12, sz13, sz14, sz15, sz16, sz17, sz18, sz19, sz20, sz21, sz22, sz23, sz24, sz25, cpow1018, true_and, and_true, Nat.reduceAdd, Nat.reduceLT, Nat.reduceSub, Int.reduceNe, Int.reduceEq, Int.reduceLT, Int.reduceLE, Int.reduceToNat, ne_eq, not_false_eq_true, List.length_map, Nat.lt_irrefl, dV_nx, dV_rt, at0, at1, at2, at3, ix20, ix21, vSeq, vIfS, vTest, vTruth, truth, v2, v1, vN, vCons, vNil, vStar, vVar, vC, xIx, Vl.opI0, Vl.opI, pk, vSet, vAug, vAsg, xgSub, vRet, vRetN, vNext_mk, vDrop, vBreak, vCont, asD, asDs, opMod, opDiv, opMul2, Vl.opAdd, Vl.opAddO, opSub, opPow, opLt, Vl.opLe, opGt, Vl.opGe, xEq, okEq_str, okEq_int, xIn, okIn, inD, xIsN, isNone_n, isNone_t, isNone_l, isNone_i, isNone_s, isMo, mob, pkm, gModI, gDivI, gSubI, gMulI, gPowI, gGt, gLt, gLe, gGe, vNotT, vAndT, vOrT, vAndV, vOrV, opNot, opNotG, vIfE, opTup, opLst, opLstO, Vl.opLen, Vl.opInt, opList, opListO, opTuple, opII, gMax, gMin, vM, vM0, isT, xPop, Vl.opAppend, opExtend, opJoin, vgName, vgTup, vgCons, vgNil, kOpt_some, kOpn_some, kOps_some, Vl.opSum, Vl.opInsert, Vl.opIndex, opDivmod, vSl, vPart, vNoPart, opSl, opSlO, opRev, opCallK, ownD, ownO, objs, renum, uniq, getS, putS, vCall0, vFor, vForW, En.wk, vSeqI, vTupI, vRng1, vRng2, vEnum, vZip, chkOf, vLcK, vYes, finD, finO, En.wipe, wipeE, En.trim, trimS, dropNone, clr_n, clr_v, clr_k, clr_o, wth, Vl.ret, takeS, startV,  List.map_cons, List.map_nil, List.length_cons, List.length_nil, List.cons_append, List.nil_append, List.replicate, List.getElem?_cons_succ, List.getElem?_cons_zero, List.getElem?_nil, List.set_cons_succ, List.set_cons_zero, List.set_nil, List.all_nil, List.all_cons, Bool.true_and, Option.map_some, Option.map_none, if_true, if_false, decide_eq_true_eq, Bool.false_eq_true, List.take_succ_cons, List.take_zero, List.take_nil, List.drop_succ_cons, List.drop_zero, List.drop_nil, reduceIte, reduceCtorEq]
      refine ⟨by omega, os, lv + 1, (r + 1).fmod M, by rw [el], by omega, hnd, by omega, by omega, q1.1, by rw [hM]; exact q1.2, fun y oy ly ny => ?_⟩
      have sx := Kd.shp hok ox (by omega)
      have sy := Kd.shp hok oy (by omega)
      have nxt : t_lawk71_7 pPool pUnlike pMarks pTake pKindsMany pRight71 pKindAt pKindNumber { nx := Nx, rt := (dV 0 Kp).rt, bk := t_lawk71_16 pPool pUnlike pMarks pTake pKindsMany pRight71 pKindAt pKindNumber (dV 0 Kp), ct := Nx }
          ⟨[some (.kn (ns.map .int)), some (.val (.int (0 + (i : Nat)))), some (.obj 0), some (.val (.list (os.map .str))), some (.val (.int (1 + (lv : Nat)))), some (.val (.int M)), some (.val (.int r)), none, some (.val x.enc), none, none], [some (.l [.int c4, .int n4])]⟩ := by
        simp only [t_lawk71_7, pUnlike, flatD, List.any_cons, List.any_nil, eqv_str, eqv_int, eqv_ti, eqv_it, eqv_st, eqv_ts, cut1, Bool.or_false, Bool.or_true, Bool.and_self, Bool.and_true, Bool.and_false, Bool.false_or, Bool.true_or, and_self, ofs_inj, ofs_app, ofs_len, String.reduceEq, String.reduceNe, String.reduceAppend, decide_true, decide_false, Bool.not_true, Bool.not_false, sz0, sz1, sz2, sz3, sz4, sz5, sz6, sz7, sz8, sz9, sz10, sz11, sz12, sz13, sz14, sz15, sz16, sz17, sz18, sz19, sz20, sz21, sz22, sz23, sz24, sz25, cpow1018, true_and, and_true, Nat.reduceAdd, Nat.reduceLT, Nat.reduceSub, Int.reduceNe, Int.reduceEq, Int.reduceLT, Int.reduceLE, Int.reduceToNat, ne_eq, not_false_eq_true, List.length_map, Nat.lt_irrefl, dV_nx, dV_rt, at0, at1, at2, at3, ix20, ix21, vSeq, vIfS, vTest, vTruth, truth, v2, v1, vN, vCons, vNil, vStar, vVar, vC, xIx, Vl.opI0, Vl.opI, pk, vSet, vAug, vAsg, xgSub, vRet, vRetN, vNext_mk, vDrop, vBreak, vCont, asD, asDs, opMod, opDiv, opMul2, Vl.opAdd, Vl.opAddO, opSub, opPow, opLt, Vl.opLe, opGt, Vl.opGe, xEq, okEq_str, okEq_int, xIn, okIn, inD, xIsN, isNone_n, isNone_t, isNone_l, isNone_i, isNone_s, isMo, mob, pkm, gModI, gDivI, gSubI, gMulI, gPowI, gGt, gLt, gLe, gGe, vNotT, vAndT, vOrT, vAndV, vOrV, opNot, opNotG, vIfE, opTup, opLst, opLstO, Vl.opLen, Vl.opInt, opList, opListO, opTuple, opII, gMax, gMin, vM, vM0, isT, xPop, Vl.opAppend, opExtend, opJoin, vgName, vgTup, vgCons, vgNil, kOpt_some, kOpn_some, kOps_some, Vl.opSum, Vl.opInsert, Vl.opIndex, opDivmod, vSl, vPart, vNoPart, opSl, opSlO, opRev, opCallK, ownD, ownO, objs, renum, uniq, getS, putS, vCall0, vFor, vForW, En.wk, vSeqI, vTupI, vRng1, vRng2, vEnum, vZip, chkOf, vLcK, vYes, finD, finO, En.wipe, wipeE, En.trim, trimS, dropNone, clr_n, clr_v, clr_k, clr_o, wth, Vl.ret, takeS, startV,  List.map_cons, List.map_nil, List.length_cons, List.length_nil, List.cons_append, List.nil_append, List.replicate, List.getElem?_cons_succ, List.getElem?_cons_zero, List.getElem?_nil, List.set_cons_succ, List.set_cons_zero, List.set_nil, List.all_nil, List.all_cons, Bool.true_and, Option.map_some, Option.map_none, if_true, if_false, decide_eq_true_eq, Bool.false_eq_true, List.take_succ_cons, List.take_zero, List.take_nil, List.drop_succ_cons, List.drop_zero, List.drop_nil, reduceIte, reduceCtorEq]
        refine ⟨os, c4, n4, rfl, rfl, pn4, by omega, fun us c5 n5 hu pn5 => ?_⟩
        have hul : us.length = os.length := hu.length_eq
        have huk : ∀ m ∈ us, PyData.strOk m = true := fun m h => hok m (hu.subset h)
        have hund : us.Nodup := hu.nodup_iff.mpr hnd
        have over2 : ∀ k : Kd, k.over os → k.over us := fun k => by
          induction k with
          | mark m => exact fun h => hu.symm.subset h
          | one => exact fun h => h
          | to a b iha ihb => exact fun h => ⟨iha h.1, ihb h.2⟩
          | both a b iha ihb => exact fun h => ⟨iha h.1, ihb h.2⟩
        have ox2 := over2 x ox
        have num2 := x.num_lt us ox2
        rw [hul, lx] at num2
        simp only [t_lawk71_6, pKindNumber, flatD, List.any_cons, List.any_nil, eqv_str, eqv_int, eqv_ti, eqv_it, eqv_st, eqv_ts, cut1, Bool.or_false, Bool.or_true, Bool.and_self, Bool.and_true, Bool.and_false, Bool.false_or, Bool.true_or, and_self, ofs_inj, ofs_app, ofs_len, String.reduceEq, String.reduceNe, String.reduceAppend, decide_true, decide_false, Bool.not_true, Bool.not_false, sz0, sz1, sz2, sz3, sz4, sz5, sz6, sz7, sz8, sz9, sz10, sz11, sz12, sz13, sz14, sz15, sz16, sz17, sz18, sz19, sz20, sz21, sz22, sz23, sz24, sz25, cpow1018, true_and, and_true, Nat.reduceAdd, Nat.reduceLT, Nat.reduceSub, Int.reduceNe, Int.reduceEq, Int.reduceLT, Int.reduceLE, Int.reduceToNat, ne_eq, not_false_eq_true, List.length_map, Nat.lt_irrefl, dV_nx, dV_rt, at0, at1, at2, at3, ix20, ix21, vSeq, vIfS, vTest, vTruth, truth, v2, v1, vN, vCons, vNil, vStar, vVar, vC, xIx, Vl.opI0, Vl.opI, pk, vSet, vAug, vAsg, xgSub, vRet, vRetN, vNext_mk, vDrop, vBreak, vCont, asD, asDs, opMod, opDiv, opMul2, Vl.opAdd, Vl.opAddO, opSub, opPow, opLt, Vl.opLe, opGt, Vl.opGe, xEq, okEq_str, okEq_int, xIn, okIn, inD, xIsN, isNone_n, isNone_t, isNone_l, isNone_i, isNone_s, isMo, mob, pkm, gModI, gDivI, gSubI, gMulI, gPowI, gGt, gLt, gLe, gGe, vNotT, vAndT, vOrT, vAndV, vOrV, opNot, opNotG, vIfE, opTup, opLst, opLstO, Vl.opLen, Vl.opInt, opList, opListO, opTuple, opII, gMax, gMin, vM, vM0, isT, xPop, Vl.opAppend, opExtend, opJoin, vgName, vgTup, vgCons, vgNil, kOpt_some, kOpn_some, kOps_some, Vl.opSum, Vl.opInsert, Vl.opIndex, opDivmod, vSl, vPart, vNoPart, opSl, opSlO, opRev, opCallK, ownD, ownO, objs, renum, uniq, getS, putS, vCall0, vFor, vForW, En.wk, vSeqI, vTupI, vRng1, vRng2, vEnum, vZip, chkOf, vLcK, vYes, finD, finO, En.wipe, wipeE, En.trim, trimS, dropNone, clr_n, clr_v, clr_k, clr_o, wth, Vl.ret, takeS, startV,  List.map_cons, List.map_nil, List.length_cons, List.length_nil, List.cons_append, List.nil_append, List.replicate, List.getElem?_cons_succ, List.getElem?_cons_zero, List.getElem?_nil, List.set_cons_succ, List.set_cons_zero, List.set_nil, List.all_nil, List.all_cons, Bool.true_and, Option.map_some, Option.map_none, if_true, if_false, decide_eq_true_eq, Bool.false_eq_true, List.take_succ_cons, List.take_zero, List.take_nil, List.drop_succ_cons, List.drop_zero, List.drop_nil, reduceIte, reduceCtorEq]
        refine ⟨us, x, rfl, by omega, huk, ox2, by omega, ?_⟩
        simp only [t_lawk71_5, lx, el, pKindAt, flatD, List.any_cons, List.any_nil, eqv_str, eqv_int, eqv_ti, eqv_it, eqv_st, eqv_ts, cut1, Bool.or_false, Bool.or_true, Bool.and_self, Bool.and_true, Bool.and_false, Bool.false_or, Bool.true_or, and_self, ofs_inj, ofs_app, ofs_len, String.reduceEq, String.reduceNe, String.reduceAppend, decide_true, decide_false, Bool.not_true, Bool.not_false, sz0, sz1, sz2, sz3, sz4, sz5, sz6, sz7, sz8, sz9, sz10, sz11, sz12, sz13, sz14, sz15, sz16, sz17, sz18, sz19, sz20, sz21, sz22, sz23, sz24, sz25, cpow1018, true_and, and_true, Nat.reduceAdd, Nat.reduceLT, Nat.reduceSub, Int.reduceNe, Int.reduceEq, Int.reduceLT, Int.reduceLE, Int.reduceToNat, ne_eq, not_false_eq_true, List.length_map, Nat.lt_irrefl, dV_nx, dV_rt, at0, at1, at2, at3, ix20, ix21, vSeq, vIfS, vTest, vTruth, truth, v2, v1, vN, vCons, vNil, vStar, vVar, vC, xIx, Vl.opI0, Vl.opI, pk, vSet, vAug, vAsg, xgSub, vRet, vRetN, vNext_mk, vDrop, vBreak, vCont, asD, asDs, opMod, opDiv, opMul2, Vl.opAdd, Vl.opAddO, opSub, opPow, opLt, Vl.opLe, opGt, Vl.opGe, xEq, okEq_str, okEq_int, xIn, okIn, inD, xIsN, isNone_n, isNone_t, isNone_l, isNone_i, isNone_s, isMo, mob, pkm, gModI, gDivI, gSubI, gMulI, gPowI, gGt, gLt, gLe, gGe, vNotT, vAndT, vOrT, vAndV, vOrV, opNot, opNotG, vIfE, opTup, opLst, opLstO, Vl.opLen, Vl.opInt, opList, opListO, opTuple, opII, gMax, gMin, vM, vM0, isT, xPop, Vl.opAppend, opExtend, opJoin, vgName, vgTup, vgCons, vgNil, kOpt_some, kOpn_some, kOps_some, Vl.opSum, Vl.opInsert, Vl.opIndex, opDivmod, vSl, vPart, vNoPart, opSl, opSlO, opRev, opCallK, ownD, ownO, objs, renum, uniq, getS, putS, vCall0, vFor, vForW, En.wk, vSeqI, vTupI, vRng1, vRng2, vEnum, vZip, chkOf, vLcK, vYes, finD, finO, En.wipe, wipeE, En.trim, trimS, dropNone, clr_n, clr_v, clr_k, clr_o, wth, Vl.ret, takeS, startV,  List.map_cons, List.map_nil, List.length_cons, List.length_nil, List.cons_append, List.nil_append, List.replicate, List.getElem?_cons_succ, List.getElem?_cons_zero, List.getElem?_nil, List.set_cons_succ, List.set_cons_zero, List.set_nil, List.all_nil, List.all_cons, Bool.true_and, Option.map_some, Option.map_none, if_true, if_false, decide_eq_true_eq, Bool.false_eq_true, List.take_succ_cons, List.take_zero, List.take_nil, List.drop_succ_cons, List.drop_zero, List.drop_nil, reduceIte, reduceCtorEq]
        refine ⟨us, lv + 1, x.num us, rfl, by omega, hund, by omega, by omega, num2.1, by rw [hul]; exact num2.2, fun z oz lz nz => ?_⟩
        have ez : z = x := Kd.num_inj (lv + 1) z x (by omega) oz ox2 (by omega) nz
        subst ez
        have e1 : decide (z = z) = true := decide_eq_true rfl
        simp only [Kd.eqv, e1, flatD, List.any_cons, List.any_nil, eqv_str, eqv_int, eqv_ti, eqv_it, eqv_st, eqv_ts, cut1, Bool.or_false, Bool.or_true, Bool.and_self, Bool.and_true, Bool.and_false, Bool.false_or, Bool.true_or, and_self, ofs_inj, ofs_app, ofs_len, String.reduceEq, String.reduceNe, String.reduceAppend, decide_true, decide_false, Bool.not_true, Bool.not_false, sz0, sz1, sz2, sz3, sz4, sz5, sz6, sz7, sz8, sz9, sz10, sz11, sz12, sz13, sz14, sz15, sz16, sz17, sz18, sz19, sz20, sz21, sz22, sz23, sz24, sz25, cpow1018, true_and, and_true, Nat.reduceAdd, Nat.reduceLT, Nat.reduceSub, Int.reduceNe, Int.reduceEq, Int.reduceLT, Int.reduceLE, Int.reduceToNat, ne_eq, not_false_eq_true, List.length_map, Nat.lt_irrefl, dV_nx, dV_rt, at0, at1, at2, at3, ix20, ix21, vSeq, vIfS, vTest, vTruth, truth, v2, v1, vN, vCons, vNil, vStar, vVar, vC, xIx, Vl.opI0, Vl.opI, pk, vSet, vAug, vAsg, xgSub, vRet, vRetN, vNext_mk, vDrop, vBreak, vCont, asD, asDs, opMod, opDiv, opMul2, Vl.opAdd, Vl.opAddO, opSub, opPow, opLt, Vl.opLe, opGt, Vl.opGe, xEq, okEq_str, okEq_int, xIn, okIn, inD, xIsN, isNone_n, isNone_t, isNone_l, isNone_i, isNone_s, isMo, mob, pkm, gModI, gDivI, gSubI, gMulI, gPowI, gGt, gLt, gLe, gGe, vNotT, vAndT, vOrT, vAndV, vOrV, opNot, opNotG, vIfE, opTup, opLst, opLstO, Vl.opLen, Vl.opInt, opList, opListO, opTuple, opII, gMax, gMin, vM, vM0, isT, xPop, Vl.opAppend, opExtend, opJoin, vgName, vgTup, vgCons, vgNil, kOpt_some, kOpn_some, kOps_some, Vl.opSum, Vl.opInsert, Vl.opIndex, opDivmod, vSl, vPart, vNoPart, opSl, opSlO, opRev, opCallK, ownD, ownO, objs, renum, uniq, getS, putS, vCall0, vFor, vForW, En.wk, vSeqI, vTupI, vRng1, vRng2, vEnum, vZip, chkOf, vLcK, vYes, finD, finO, En.wipe, wipeE, En.trim, trimS, dropNone, clr_n, clr_v, clr_k, clr_o, wth, Vl.ret, takeS, startV,  List.map_cons, List.map_nil, List.length_cons, List.length_nil, List.cons_append, List.nil_append, List.replicate, List.getElem?_cons_succ, List.getElem?_cons_zero, List.getElem?_nil, List.set_cons_succ, List.set_cons_zero, List.set_nil, List.all_nil, List.all_cons, Bool.true_and, Option.map_some, Option.map_none, if_true, if_false, decide_eq_true_eq, Bool.false_eq_true, List.take_succ_cons, List.take_zero, List.take_nil, List.drop_succ_cons, List.drop_zero, List.drop_nil, reduceIte, reduceCtorEq]
        refine ⟨okEq_of sx sx, ?_⟩
        exact hk _ 0 [1, 2, 3, 4, 5, 6, 7, 8, 9, 10] (Nat.zero_le _) rfl
      simp only [Kd.eqv, flatD, List.any_cons, List.any_nil, eqv_str, eqv_int, eqv_ti, eqv_it, eqv_st, eqv_ts, cut1, Bool.or_false, Bool.or_true, Bool.and_self, Bool.and_true, Bool.and_false, Bool.false_or, Bool.true_or, and_self, ofs_inj, ofs_app, ofs_len, String.reduceEq, String.reduceNe, String.reduceAppend, decide_true, decide_false, Bool.not_true, Bool.not_false, sz0, sz1, sz2, sz3, sz4, sz5, sz6, sz7, sz8, sz9, sz10, sz11, sz12, sz13, sz14, sz15, sz16, sz17, sz18, sz19, sz20, sz21, sz22, sz23, sz24, sz25, cpow1018, true_and, and_true, Nat.reduceAdd, Nat.reduceLT, Nat.reduceSub, Int.reduceNe, Int.reduceEq, Int.reduceLT, Int.reduceLE, Int.reduceToNat, ne_eq, not_false_eq_true, List.length_map, Nat.lt_irrefl, dV_nx, dV_rt, at0, at1, at2, at3, ix20, ix21, vSeq, vIfS, vTest, vTruth, truth, v2, v1, vN, vCons, vNil, vStar, vVar, vC, xIx, Vl.opI0, Vl.opI, pk, vSet, vAug, vAsg, xgSub, vRet, vRetN, vNext_mk, vDrop, vBreak, vCont, asD, asDs, opMod, opDiv, opMul2, Vl.opAdd, Vl.opAddO, opSub, opPow, opLt, Vl.opLe, opGt, Vl.opGe, xEq, okEq_str, okEq_int, xIn, okIn, inD, xIsN, isNone_n, isNone_t, isNone_l, isNone_i, isNone_s, isMo, mob, pkm, gModI, gDivI, gSubI, gMulI, gPowI, gGt, gLt, gLe, gGe, vNotT, vAndT, vOrT, vAndV, vOrV, opNot, opNotG, vIfE, opTup, opLst, opLstO, Vl.opLen, Vl.opInt, opList, opListO, opTuple, opII, gMax, gMin, vM, vM0, isT, xPop, Vl.opAppend, opExtend, opJoin, vgName, vgTup, vgCons, vgNil, kOpt_some, kOpn_some, kOps_some, Vl.opSum, Vl.opInsert, Vl.opIndex, opDivmod, vSl, vPart, vNoPart, opSl, opSlO, opRev, opCallK, ownD, ownO, objs, renum, uniq, getS, putS, vCall0, vFor, vForW, En.wk, vSeqI, vTupI, vRng1, vRng2, vEnum, vZip, chkOf, vLcK, vYes, finD, finO, En.wipe, wipeE, En.trim, trimS, dropNone, clr_n, clr_v, clr_k, clr_o, wth, Vl.ret, takeS, startV,  List.map_cons, List.map_nil, List.length_cons, List.length_nil, List.cons_append, List.nil_append, List.replicate, List.getElem?_cons_succ, List.getElem?_cons_zero, List.getElem?_nil, List.set_cons_succ, List.set_cons_zero, List.set_nil, List.all_nil, List.all_cons, Bool.true_and, Option.map_some, Option.map_none, if_true, if_false, decide_eq_true_eq, Bool.false_eq_true, List.take_succ_cons, List.take_zero, List.take_nil, List.drop_succ_cons, List.drop_zero, List.drop_nil, reduceIte, reduceCtorEq]
      refine ⟨okEq_of sy sx, ?_⟩
      split
      · rename_i e
        rw [e, nx] at ny
        have m1 : ¬ (1 < M) := fun hm1 => by
          by_cases z : r + 1 < M
          · rw [Int.fmod_eq_of_lt (by omega) z] at ny
            omega
          · have : r + 1 = M := by omega
            rw [this, Int.fmod_self] at ny
            omega
        rw [if_neg m1]
        exact nxt
      · exact nxt
    show flW _ _ _ _ (([0, M - 1, r, (r + 1).fmod M] : List Int).map PyData.int) _ _
    refine fl_invW (chk := none) PyData.int _ (fun ys e => e = ⟨[some (.kn (ns.map .int)), some (.val (.int (0 + (i : Nat)))), some (.obj 0), some (.val (.list (os.map .str))), some (.val (.int (1 + (lv : Nat)))), some (.val (.int M)), some (.val (.int r)), none, none, none, none], [some (.l [.int c4, .int n4])]⟩) (fun _ _ _ => trivial) ?_ ?_ rfl
    · rintro us x vs e Ny hus rfl hk2
      have hx : 0 ≤ x ∧ x < M := by
        have : x ∈ ([0, M - 1, r, (r + 1).fmod M] : List Int) := by rw [hus]; simp
        simp only [List.mem_cons, List.not_mem_nil, or_false] at this
        omega
      simp only [t_lawk71_2, pRight71, flatD, List.any_cons, List.any_nil, eqv_str, eqv_int, eqv_ti, eqv_it, eqv_st, eqv_ts, cut1, Bool.or_false, Bool.or_true, Bool.and_self, Bool.and_true, Bool.and_false, Bool.false_or, Bool.true_or, and_self, ofs_inj, ofs_app, ofs_len, String.reduceEq, String.reduceNe, String.reduceAppend, decide_true, decide_false, Bool.not_true, Bool.not_false, sz0, sz1, sz2, sz3, sz4, sz5, sz6, sz7, sz8, sz9, sz10, sz11, sz12, sz13, sz14, sz15, sz16, sz17, sz18, sz19, sz20, sz21, sz22, sz23, sz24, sz25, cpow1018, true_and, and_true, Nat.reduceAdd, Nat.reduceLT, Nat.reduceSub, Int.reduceNe, Int.reduceEq, Int.reduceLT, Int.reduceLE, Int.reduceToNat, ne_eq, not_false_eq_true, List.length_map, Nat.lt_irrefl, dV_nx, dV_rt, at0, at1, at2, at3, ix20, ix21, vSeq, vIfS, vTest, vTruth, truth, v2, v1, vN, vCons, vNil, vStar, vVar, vC, xIx, Vl.opI0, Vl.opI, pk, vSet, vAug, vAsg, xgSub, vRet, vRetN, vNext_mk, vDrop, vBreak, vCont, asD, asDs, opMod, opDiv, opMul2, Vl.opAdd, Vl.opAddO, opSub, opPow, opLt, Vl.opLe, opGt, Vl.opGe, xEq, okEq_str, okEq_int, xIn, okIn, inD, xIsN, isNone_n, isNone_t, isNone_l, isNone_i, isNone_s, isMo, mob, pkm, gModI, gDivI, gSubI, gMulI, gPowI, gGt, gLt, gLe, gGe, vNotT, vAndT, vOrT, vAndV, vOrV, opNot, opNotG, vIfE, opTup, opLst, opLstO, Vl.opLen, Vl.opInt, opList, opListO, opTuple, opII, gMax, gMin, vM, vM0, isT, xPop, Vl.opAppend, opExtend, opJoin, vgName, vgTup, vgCons, vgNil, kOpt_some, kOpn_some, kOps_some, Vl.opSum, Vl.opInsert, Vl.opIndex, opDivmod, vSl, vPart, vNoPart, opSl, opSlO, opRev, opCallK, ownD, ownO, objs, renum, uniq, getS, putS, vCall0, vFor, vForW, En.wk, vSeqI, vTupI, vRng1, vRng2, vEnum, vZip, chkOf, vLcK, vYes, finD, finO, En.wipe, wipeE, En.trim, trimS, dropNone, clr_n, clr_v, clr_k, clr_o, wth, Vl.ret, takeS, startV,  List.map_cons, List.map_nil, List.length_cons, List.length_nil, List.cons_append, List.nil_append, List.replicate, List.getElem?_cons_succ, List.getElem?_cons_zero, List.getElem?_nil, List.set_cons_succ, List.set_cons_zero, List.set_nil, List.all_nil, List.all_cons, Bool.true_and, Option.map_some, Option.map_none, if_true, if_false, decide_eq_true_eq, Bool.false_eq_true, List.take_succ_cons, List.take_zero, List.take_nil, List.drop_succ_cons, List.drop_zero, List.drop_nil, reduceIte, reduceCtorEq]
      refine ⟨os, lv + 1, x, by rw [el], by omega, hnd, hok, by omega, by omega, hx.1, by rw [hM]; exact hx.2, ?_⟩
      exact hk2 _ 1 [7] (Nat.le_refl _) rfl
    · rintro e rfl
      exact fin
  · rintro e rfl
    simp only [t_lawk71_16, flatD, List.any_cons, List.any_nil, eqv_str, eqv_int, eqv_ti, eqv_it, eqv_st, eqv_ts, cut1, Bool.or_false, Bool.or_true, Bool.and_self, Bool.and_true, Bool.and_false, Bool.false_or, Bool.true_or, and_self, ofs_inj, ofs_app, ofs_len, String.reduceEq, String.reduceNe, String.reduceAppend, decide_true, decide_false, Bool.not_true, Bool.not_false, sz0, sz1, sz2, sz3, sz4, sz5, sz6, sz7, sz8, sz9, sz10, sz11, sz12, sz13, sz14, sz15, sz16, sz17, sz18, sz19, sz20, sz21, sz22, sz23, sz24, sz25, cpow1018, true_and, and_true, Nat.reduceAdd, Nat.reduceLT, Nat.reduceSub, Int.reduceNe, Int.reduceEq, Int.reduceLT, Int.reduceLE, Int.reduceToNat, ne_eq, not_false_eq_true, List.length_map, Nat.lt_irrefl, dV_nx, dV_rt, at0, at1, at2, at3, ix20, ix21, vSeq, vIfS, vTest, vTruth, truth, v2, v1, vN, vCons, vNil, vStar, vVar, vC, xIx, Vl.opI0, Vl.opI, pk, vSet, vAug, vAsg, xgSub, vRet, vRetN, vNext_mk, vDrop, vBreak, vCont, asD, asDs, opMod, opDiv, opMul2, Vl.opAdd, Vl.opAddO, opSub, opPow, opLt, Vl.opLe, opGt, Vl.opGe, xEq, okEq_str, okEq_int, xIn, okIn, inD, xIsN, isNone_n, isNone_t, isNone_l, isNone_i, isNone_s, isMo, mob, pkm, gModI, gDivI, gSubI, gMulI, gPowI, gGt, gLt, gLe, gGe, vNotT, vAndT, vOrT, vAndV, vOrV, opNot, opNotG, vIfE, opTup, opLst, opLstO, Vl.opLen, Vl.opInt, opList, opListO, opTuple, opII, gMax, gMin, vM, vM0, isT, xPop, Vl.opAppend, opExtend, opJoin, vgName, vgTup, vgCons, vgNil, kOpt_some, kOpn_some, kOps_some, Vl.opSum, Vl.opInsert, Vl.opIndex, opDivmod, vSl, vPart, vNoPart, opSl, opSlO, opRev, opCallK, ownD, ownO, objs, renum, uniq, getS, putS, vCall0, vFor, vForW, En.wk, vSeqI, vTupI, vRng1, vRng2, vEnum, vZip, chkOf, vLcK, vYes, finD, finO, En.wipe, wipeE, En.trim, trimS, dropNone, clr_n, clr_v, clr_k, clr_o, wth, Vl.ret, takeS, startV,  List.map_cons, List.map_nil, List.length_cons, List.length_nil, List.cons_append, List.nil_append, List.replicate, List.getElem?_cons_succ, List.getElem?_cons_zero, List.getElem?_nil, List.set_cons_succ, List.set_cons_zero, List.set_nil, List.all_nil, List.all_cons, Bool.true_and, Option.map_some, Option.map_none, if_true, if_false, decide_eq_true_eq, Bool.false_eq_true, List.take_succ_cons, List.take_zero, List.take_nil, List.drop_succ_cons, List.drop_zero, List.drop_nil, reduceIte, reduceCtorEq]
    exact k
end Kf
namespace Kf
open PySem L2 Vl PySem.Spec PyProof.Rows
/- Lcountsv2: _law_counts -/
def t_Lcountsv2_1 : VTS := (vSet 3 (v2 opAdd (vVar 3) (v2 opMul2 (v2 opMul2 (vC (.int 2)) (v2 xIx (vVar 1) (vVar 4))) (v2 xIx (vVar 1) (v2 opSub (vVar 2) (vVar 4))))))
def t_Lcountsv2_2 : VTS := (vDrop (vM "list" opAppend (vVar 1) (vCons (vVar 3) vNil)))
def t_Lcountsv2_3 : VTS := vSeq (vForW (vRng2 (vCons (vC (.int 1)) (vCons (vVar 2) vNil))) (vgName 4)
        (t_Lcountsv2_1)) (t_Lcountsv2_2)
def t_Lcountsv2_4 : VTS := vSeq (vSet 3 (vC (.int 0))) (t_Lcountsv2_3)
def t_Lcountsv2_5 : VTS := (vRet (vVar 1))
def t_Lcountsv2_6 : VTS := vSeq (vForW (vRng2 (vCons (vC (.int 2)) (vCons (vC (.int 11)) vNil))) (vgName 2)
      (t_Lcountsv2_4)) (t_Lcountsv2_5)
def t_Lcountsv2_7 : VTS := vSeq (vSet 1 (vN opLstO (vCons (vC (.int 0)) (vCons (v2 opAdd (vVar 0) (vC (.int 1))) vNil)))) (t_Lcountsv2_6)
def t_Lcountsv2 : VTS := (t_Lcountsv2_7)
/- Ledge: _law_edge -/
def t_Ledge_1 (p_Ltake : VSp) : VTS := (vSet 3 (v2 opAdd (vVar 3) (v2 opMul2 (v2 opMul2 (vC (.int 2)) (v2 xIx (vVar 0) (vVar 4))) (v2 xIx (vVar 0) (v2 opSub (vVar 1) (vVar 4))))))
def t_Ledge_2 (p_Ltake : VSp) : VTS := (vRet (vVar 3))
def t_Ledge_3 (p_Ltake : VSp) : VTS := vSeq (vForW (vRng2 (vCons (vC (.int 1)) (vCons (v2 opAdd (vC (.int 1)) (vN (opCallK ownD p_Ltake) (vCons (vVar 2) (vCons (vVar 1) vNil)))) vNil))) (vgName 4)
      (t_Ledge_1 p_Ltake)) (t_Ledge_2 p_Ltake)
def t_Ledge_4 (p_Ltake : VSp) : VTS := vSeq (vSet 3 (vC (.int 0))) (t_Ledge_3 p_Ltake)
def t_Ledge (p_Ltake : VSp) : VTS := (t_Ledge_4 p_Ltake)
/- Lahead: _law_ahead -/
def t_Lahead_1 (p_Lleavesv4 p_Lahead : VSp) : VTS := (vRet (vC (.bool false)))
def t_Lahead_2 (p_Lleavesv4 p_Lahead : VSp) : VTS := (vRet (v2 opLt (vM "list" opIndex (vVar 3) (vCons (vVar 1) vNil)) (vM "list" opIndex (vVar 3) (vCons (vVar 2) vNil))))
def t_Lahead_3 (p_Lleavesv4 p_Lahead : VSp) : VTS := vSeq (vSet 3 (v2 opAdd (vLcK (vSeqI (vVar 0)) (vgName 6) vYes (vN opTup (vCons (vC (.str "mark")) (vCons (vVar 6) vNil))) [6] finD) (vN opLst (vCons (vN opTup (vCons (vC (.str "one")) vNil)) vNil)))) (t_Lahead_2 p_Lleavesv4 p_Lahead)
def t_Lahead_4 (p_Lleavesv4 p_Lahead : VSp) : VTS := (vRet (v2 opLtIb (vVar 4) (vVar 5)))
def t_Lahead_5 (p_Lleavesv4 p_Lahead : VSp) : VTS := (vRet (vN (opCallK ownD p_Lahead) (vCons (vVar 0) (vCons (v2 xIx (vVar 1) (vC (.int 1))) (vCons (v2 xIx (vVar 2) (vC (.int 1))) vNil)))))
def t_Lahead_6 (p_Lleavesv4 p_Lahead : VSp) : VTS := (vRet (vN (opCallK ownD p_Lahead) (vCons (vVar 0) (vCons (v2 xIx (vVar 1) (vC (.int 2))) (vCons (v2 xIx (vVar 2) (vC (.int 2))) vNil)))))
def t_Lahead_7 (p_Lleavesv4 p_Lahead : VSp) : VTS := vSeq (vIfS (vTest (v2 (xEq true) (v2 xIx (vVar 1) (vC (.int 1))) (v2 xIx (vVar 2) (vC (.int 1))))) (t_Lahead_5 p_Lleavesv4 p_Lahead) vNext) (t_Lahead_6 p_Lleavesv4 p_Lahead)
def t_Lahead_8 (p_Lleavesv4 p_Lahead : VSp) : VTS := vSeq (vIfS (vTest (v2 (xEq true) (vVar 4) (vVar 5))) (t_Lahead_4 p_Lleavesv4 p_Lahead) vNext) (t_Lahead_7 p_Lleavesv4 p_Lahead)
def t_Lahead_9 (p_Lleavesv4 p_Lahead : VSp) : VTS := vSeq (vSet 5 (vN opTup (vCons (vN (opCallK ownD p_Lleavesv4) (vCons (v2 xIx (vVar 2) (vC (.int 1))) vNil)) (vCons (v2 (xEq false) (v2 xIx (vVar 2) (vC (.int 0))) (vC (.str "both"))) vNil)))) (t_Lahead_8 p_Lleavesv4 p_Lahead)
def t_Lahead_10 (p_Lleavesv4 p_Lahead : VSp) : VTS := vSeq (vSet 4 (vN opTup (vCons (vN (opCallK ownD p_Lleavesv4) (vCons (v2 xIx (vVar 1) (vC (.int 1))) vNil)) (vCons (v2 (xEq false) (v2 xIx (vVar 1) (vC (.int 0))) (vC (.str "both"))) vNil)))) (t_Lahead_9 p_Lleavesv4 p_Lahead)
def t_Lahead_11 (p_Lleavesv4 p_Lahead : VSp) : VTS := vSeq (vIfS (vTest (v2 opLt (vN opLen (vCons (vVar 1) vNil)) (vC (.int 3)))) (t_Lahead_3 p_Lleavesv4 p_Lahead) vNext) (t_Lahead_10 p_Lleavesv4 p_Lahead)
def t_Lahead_12 (p_Lleavesv4 p_Lahead : VSp) : VTS := vSeq (vIfS (vTest (v2 (xEq false) (vVar 1) (vVar 2))) (t_Lahead_1 p_Lleavesv4 p_Lahead) vNext) (t_Lahead_11 p_Lleavesv4 p_Lahead)
def t_Lahead (p_Lleavesv4 p_Lahead : VSp) : VTS := (t_Lahead_12 p_Lleavesv4 p_Lahead)
/- lawk72: law -/
def t_lawk72_1 (p_Lpool p_Lunlike p_Lmarks p_Ltake p_kindsmany p_Ledge p_Lcountsv2 p_kindat p_Lahead : VSp) : VTS := (vRet (vC (.bool false)))
def t_lawk72_2 (p_Lpool p_Lunlike p_Lmarks p_Ltake p_kindsmany p_Ledge p_Lcountsv2 p_kindat p_Lahead : VSp) : VTS := (vIfS (vOrT (vTest (v2 (xEq true) (vN (opCallK ownD p_Lahead) (vCons (vVar 3) (vCons (vVar 11) (vCons (vVar 12) vNil)))) (v2 opLt (vVar 9) (vVar 10)))) (vTest (v2 (xEq true) (v2 (xEq false) (vVar 11) (vVar 12)) (v2 (xEq false) (vVar 9) (vVar 10))))) (t_lawk72_1 p_Lpool p_Lunlike p_Lmarks p_Ltake p_kindsmany p_Ledge p_Lcountsv2 p_kindat p_Lahead) vNext)
def t_lawk72_3 (p_Lpool p_Lunlike p_Lmarks p_Ltake p_kindsmany p_Ledge p_Lcountsv2 p_kindat p_Lahead : VSp) : VTS := vSeq (vSet 12 (vN (opCallK ownD p_kindat) (vCons (vVar 3) (vCons (vVar 4) (vCons (vVar 10) vNil))))) (t_lawk72_2 p_Lpool p_Lunlike p_Lmarks p_Ltake p_kindsmany p_Ledge p_Lcountsv2 p_kindat p_Lahead)
def t_lawk72_4 (p_Lpool p_Lunlike p_Lmarks p_Ltake p_kindsmany p_Ledge p_Lcountsv2 p_kindat p_Lahead : VSp) : VTS := vSeq (vSet 11 (vN (opCallK ownD p_kindat) (vCons (vVar 3) (vCons (vVar 4) (vCons (vVar 9) vNil))))) (t_lawk72_3 p_Lpool p_Lunlike p_Lmarks p_Ltake p_kindsmany p_Ledge p_Lcountsv2 p_kindat p_Lahead)
def t_lawk72_5 (p_Lpool p_Lunlike p_Lmarks p_Ltake p_kindsmany p_Ledge p_Lcountsv2 p_kindat p_Lahead : VSp) : VTS := (vForW (vSeqI (v2 opAdd (vVar 8) (vN opLst (vCons (vN opTup (vCons (v2 opMod (vVar 7) (vVar 5)) (vCons (v2 opMod (v2 opSub (v2 opAdd (vVar 7) (vVar 5)) (vC (.int 1))) (vVar 5)) vNil))) vNil)))) (vgTup 2 (vgCons (vgName 9) (vgCons (vgName 10) vgNil)))
        (t_lawk72_4 p_Lpool p_Lunlike p_Lmarks p_Ltake p_kindsmany p_Ledge p_Lcountsv2 p_kindat p_Lahead))
def t_lawk72_6 (p_Lpool p_Lunlike p_Lmarks p_Ltake p_kindsmany p_Ledge p_Lcountsv2 p_kindat p_Lahead : VSp) : VTS := vSeq (vSet 8 (vN opLst (vCons (vN opTup (vCons (vVar 6) (vCons (vN (opCallK ownD p_Ltake) (vCons (vVar 2) (vCons (vVar 5) vNil))) vNil))) (vCons (vN opTup (vCons (vVar 6) (vCons (v2 opMod (v2 opAdd (vVar 6) (vC (.int 1))) (vVar 5)) vNil))) vNil)))) (t_lawk72_5 p_Lpool p_Lunlike p_Lmarks p_Ltake p_kindsmany p_Ledge p_Lcountsv2 p_kindat p_Lahead)
def t_lawk72_7 (p_Lpool p_Lunlike p_Lmarks p_Ltake p_kindsmany p_Ledge p_Lcountsv2 p_kindat p_Lahead : VSp) : VTS := vSeq (vSet 7 (vN (opCallK ownD p_Ledge) (vCons (vN (opCallK ownD p_Lcountsv2) (vCons (vN opLen (vCons (vVar 3) vNil)) vNil)) (vCons (vVar 4) (vCons (vVar 2) vNil))))) (t_lawk72_6 p_Lpool p_Lunlike p_Lmarks p_Ltake p_kindsmany p_Ledge p_Lcountsv2 p_kindat p_Lahead)
def t_lawk72_8 (p_Lpool p_Lunlike p_Lmarks p_Ltake p_kindsmany p_Ledge p_Lcountsv2 p_kindat p_Lahead : VSp) : VTS := vSeq (vSet 6 (vN (opCallK ownD p_Ltake) (vCons (vVar 2) (vCons (vVar 5) vNil)))) (t_lawk72_7 p_Lpool p_Lunlike p_Lmarks p_Ltake p_kindsmany p_Ledge p_Lcountsv2 p_kindat p_Lahead)
def t_lawk72_9 (p_Lpool p_Lunlike p_Lmarks p_Ltake p_kindsmany p_Ledge p_Lcountsv2 p_kindat p_Lahead : VSp) : VTS := vSeq (vSet 5 (vN (opCallK ownD p_kindsmany) (vCons (vVar 3) (vCons (vVar 4) vNil)))) (t_lawk72_8 p_Lpool p_Lunlike p_Lmarks p_Ltake p_kindsmany p_Ledge p_Lcountsv2 p_kindat p_Lahead)
def t_lawk72_10 (p_Lpool p_Lunlike p_Lmarks p_Ltake p_kindsmany p_Ledge p_Lcountsv2 p_kindat p_Lahead : VSp) : VTS := vSeq (vSet 4 (v2 opAdd (vC (.int 1)) (vN (opCallK ownD p_Ltake) (vCons (vVar 2) (vCons (vC (.int 10)) vNil))))) (t_lawk72_9 p_Lpool p_Lunlike p_Lmarks p_Ltake p_kindsmany p_Ledge p_Lcountsv2 p_kindat p_Lahead)
def t_lawk72_11 (p_Lpool p_Lunlike p_Lmarks p_Ltake p_kindsmany p_Ledge p_Lcountsv2 p_kindat p_Lahead : VSp) : VTS := vSeq (vSet 3 (vN (opCallK ownD p_Lunlike) (vCons (vVar 2) (vCons (vN (opCallK ownD p_Lmarks) (vCons (vVar 2) vNil)) vNil)))) (t_lawk72_10 p_Lpool p_Lunlike p_Lmarks p_Ltake p_kindsmany p_Ledge p_Lcountsv2 p_kindat p_Lahead)
def t_lawk72_12 (p_Lpool p_Lunlike p_Lmarks p_Ltake p_kindsmany p_Ledge p_Lcountsv2 p_kindat p_Lahead : VSp) : VTS := vSeq (vSet 2 (vN (opCallK ownO p_Lpool) (vCons (vVar 0) (vCons (vVar 1) vNil)))) (t_lawk72_11 p_Lpool p_Lunlike p_Lmarks p_Ltake p_kindsmany p_Ledge p_Lcountsv2 p_kindat p_Lahead)
def t_lawk72_13 (p_Lpool p_Lunlike p_Lmarks p_Ltake p_kindsmany p_Ledge p_Lcountsv2 p_kindat p_Lahead : VSp) : VTS := (vRet (vC (.bool true)))
def t_lawk72_14 (p_Lpool p_Lunlike p_Lmarks p_Ltake p_kindsmany p_Ledge p_Lcountsv2 p_kindat p_Lahead : VSp) : VTS := vSeq (vForW (vRng1 (vCons (vN (opII gMax) (vCons (vC (.int 1)) (vCons (vN (opII gMin) (vCons (vN opLen (vCons (vVar 0) vNil)) (vCons (vC (.int 12)) vNil))) vNil))) vNil)) (vgName 1)
      (t_lawk72_12 p_Lpool p_Lunlike p_Lmarks p_Ltake p_kindsmany p_Ledge p_Lcountsv2 p_kindat p_Lahead)) (t_lawk72_13 p_Lpool p_Lunlike p_Lmarks p_Ltake p_kindsmany p_Ledge p_Lcountsv2 p_kindat p_Lahead)
def t_lawk72 (p_Lpool p_Lunlike p_Lmarks p_Ltake p_kindsmany p_Ledge p_Lcountsv2 p_kindat p_Lahead : VSp) : VTS := (t_lawk72_14 p_Lpool p_Lunlike p_Lmarks p_Ltake p_kindsmany p_Ledge p_Lcountsv2 p_kindat p_Lahead)
end Kf
namespace Kf
open PySem L2 Vl PySem.Spec PyProof.Rows
theorem pair_lex {a b a' b' B : Int} (h0 : 0 ≤ b) (h1 : b < B) (h2 : 0 ≤ b') (h3 : b' < B) : a * B + b < a' * B + b' ↔ a < a' ∨ (a = a' ∧ b < b') := by
  rcases Int.lt_trichotomy a a' with q | q | q
  · have := Int.mul_le_mul_of_nonneg_right (show a + 1 ≤ a' from q) (show 0 ≤ B from by omega)
    rw [Int.add_mul, Int.one_mul] at this
    exact ⟨fun _ => .inl q, fun _ => by omega⟩
  · subst q
    exact ⟨fun h => .inr ⟨rfl, by omega⟩, fun h => by omega⟩
  · have := Int.mul_le_mul_of_nonneg_right (show a' + 1 ≤ a from q) (show 0 ≤ B from by omega)
    rw [Int.add_mul, Int.one_mul] at this
    exact ⟨fun h => by omega, fun h => by omega⟩
theorem num_lt2 {ms : List Str} {w w' : Bool} {x y x' y' : Kd} (ox : x.over ms) (oy : y.over ms) (ox' : x'.over ms) (oy' : y'.over ms) (hl : x.leaves + y.leaves = x'.leaves + y'.leaves) :
    (Kd.mk2 w x y).num ms < (Kd.mk2 w' x' y').num ms ↔ (x.leaves < x'.leaves ∨ (x.leaves = x'.leaves ∧ w = false ∧ w' = true)) ∨ (x.leaves = x'.leaves ∧ w = w' ∧ (x.num ms < x'.num ms ∨ (x.num ms = x'.num ms ∧ y.num ms < y'.num ms))) := by
  have py := y.leaves_pos
  have py' := y'.leaves_pos
  have px := x.leaves_pos
  have px' := x'.leaves_pos
  obtain ⟨p1, p2, p3⟩ := num_part ox oy
  obtain ⟨q1, q2, q3⟩ := num_part ox' oy'
  rw [Kd.num_mk2, Kd.num_mk2]
  rw [← hl] at q3 ⊢
  rcases Nat.lt_trichotomy x.leaves x'.leaves with q | q | q
  · have := off_mono ms.length (x.leaves + y.leaves) (k := x.leaves) (l := x'.leaves - 1) (by omega) (by omega)
    refine ⟨fun _ => .inl (.inl q), fun _ => ?_⟩
    cases w <;> cases w' <;> simp only [if_true, if_false, Bool.false_eq_true] <;> omega
  · have le2 : y.leaves = y'.leaves := by omega
    have b1 := y.num_lt ms oy
    have b2 := y'.num_lt ms oy'
    have lx := pair_lex (a := x.num ms) (b := y.num ms) (a' := x'.num ms) (b' := y'.num ms) (B := many ms.length y.leaves) b1.1 b1.2 b2.1 (by rw [le2]; exact b2.2)
    rw [← q, ← le2] at q2
    rw [← le2] at q1
    rw [← q, ← le2]
    cases w <;> cases w' <;> simp only [if_true, if_false, Bool.false_eq_true]
    · refine ⟨fun h => .inr ⟨trivial, trivial, lx.mp (by omega)⟩, fun h => ?_⟩
      rcases h with (h | h) | h
      · omega
      · exact absurd h.2.2 (by decide)
      · have := lx.mpr h.2.2
        omega
    · exact ⟨fun _ => .inl (.inr ⟨trivial, trivial, trivial⟩), fun _ => by omega⟩
    · refine ⟨fun h => by omega, fun h => ?_⟩
      rcases h with (h | h) | h
      · omega
      · exact absurd h.2.1 (by decide)
      · exact absurd h.2.1 (by decide)
    · refine ⟨fun h => .inr ⟨trivial, trivial, lx.mp (by omega)⟩, fun h => ?_⟩
      rcases h with (h | h) | h
      · omega
      · exact absurd h.2.1 (by decide)
      · have := lx.mpr h.2.2
        omega
  · have := off_mono ms.length (x.leaves + y.leaves) (k := x'.leaves) (l := x.leaves - 1) (by omega) (by omega)
    refine ⟨fun h => ?_, fun h => ?_⟩
    · exfalso
      revert h
      cases w <;> cases w' <;> simp only [if_true, if_false, Bool.false_eq_true] <;> omega
    · rcases h with (h | h) | h
      · omega
      · omega
      · omega
end Kf
namespace Kf
open PySem L2 Vl PySem.Spec PyProof.Rows
theorem ixD_kd (k : Kd) : ∀ {ks : List Kd}, k ∈ ks → ixD k.enc (ks.map Kd.enc) = some (ks.idxOf k)
  | [], h => by simp at h
  | x :: ks, h => by
    show (if PyData.eqv x.enc k.enc = true then some 0 else (ixD k.enc (ks.map Kd.enc)).map (· + 1)) = _
    rw [Kd.eqv, List.idxOf_cons]
    by_cases e : x = k
    · subst e
      simp
    · have hm : k ∈ ks := by
        rcases List.mem_cons.mp h with z | z
        · exact absurd z.symm e
        · exact z
      have e' : (x == k) = false := beq_eq_false_iff_ne.mpr e
      rw [ixD_kd k hm, e']
      simp [e]
/-- the kinds of one leaf, in order -/
def ones (ms : List Str) : List Kd := ms.map Kd.mark ++ [Kd.one]
theorem ones_idx {ms : List Str} (k : Kd) (o : k.over ms) (h : k.leaves = 1) : k ∈ ones ms ∧ ((ones ms).idxOf k : Int) = k.num ms := by
  have mk : ∀ (ns : List Str) (m : Str), m ∈ ns → (ns.map Kd.mark ++ [Kd.one]).idxOf (Kd.mark m) = ns.idxOf m := by
    intro ns m
    induction ns with
    | nil => intro h; cases h
    | cons a ns ih =>
      intro hm
      rw [List.map_cons, List.cons_append, List.idxOf_cons, List.idxOf_cons]
      by_cases e : a = m
      · subst e
        simp
      · have e1 : (Kd.mark a == Kd.mark m) = false := beq_eq_false_iff_ne.mpr fun z => e (Kd.mark.inj z)
        have e2 : (a == m) = false := beq_eq_false_iff_ne.mpr e
        rw [e1, e2]
        simp only [cond_false]
        rw [ih ((List.mem_cons.mp hm).resolve_left fun z => e z.symm)]
  have on : ∀ ns : List Str, (ns.map Kd.mark ++ [Kd.one]).idxOf Kd.one = ns.length := by
    intro ns
    induction ns with
    | nil => rfl
    | cons a ns ih =>
      rw [List.map_cons, List.cons_append, List.idxOf_cons]
      have e1 : (Kd.mark a == Kd.one) = false := beq_eq_false_iff_ne.mpr fun z => by cases z
      rw [e1]
      simp only [cond_false]
      rw [ih, List.length_cons]
  rcases k.form with ⟨m, rfl⟩ | rfl | ⟨w, x, y, rfl⟩
  · exact ⟨List.mem_append_left _ (List.mem_map_of_mem o), by unfold ones; rw [mk ms m o]; rfl⟩
  · exact ⟨List.mem_append_right _ List.mem_cons_self, by unfold ones; rw [on]; rfl⟩
  · rw [Kd.mk2_leaves] at h
    have := x.leaves_pos
    have := y.leaves_pos
    omega
theorem shaped_ones {ms : List Str} (h : ∀ m ∈ ms, PyData.strOk m = true) : SeqAt.shaped (.list ((ones ms).map Kd.enc)) = true := by
  have h1 : PyData.canLayAll0 ((ones ms).map Kd.enc) = true ∧ PyData.depthAll ((ones ms).map Kd.enc) ≤ 1 := by
    unfold ones
    induction ms with
    | nil => exact ⟨by decide +kernel, by decide +kernel⟩
    | cons m ms ih =>
      obtain ⟨h1, h2⟩ := ih fun x hx => h x (List.mem_cons_of_mem _ hx)
      rw [List.map_cons, List.cons_append, List.map_cons, canAll_cons, depthAll_cons, h1, Kd.enc, can_tup, canAll_cons, canAll_cons, canAll_nil, can_str, can_str, h m List.mem_cons_self, depth_tup, depthAll_cons, depthAll_cons, depthAll_nil, depth_str, depth_str]
      exact ⟨by decide +kernel, by omega⟩
  show (PyData.canLay0 (.list ((ones ms).map Kd.enc)) && decide (PyData.depth (.list ((ones ms).map Kd.enc)) ≤ 64)) = true
  rw [can_lst, depth_lst, h1.1, decide_eq_true (by omega)] <;> rfl
theorem shaped_kd1 {ms : List Str} (h : ∀ m ∈ ms, PyData.strOk m = true) {k : Kd} (o : k.over ms) (hl : k.leaves = 1) : SeqAt.shaped k.enc = true := by
  rcases k.form with ⟨m, rfl⟩ | rfl | ⟨w, x, y, rfl⟩
  · show (PyData.canLay0 (Kd.mark m).enc && decide (PyData.depth (Kd.mark m).enc ≤ 64)) = true
    rw [Kd.enc, can_tup, canAll_cons, canAll_cons, canAll_nil, can_str, can_str, h m o, depth_tup, depthAll_cons, depthAll_cons, depthAll_nil, depth_str, depth_str]
    decide +kernel
  · decide +kernel
  · rw [Kd.mk2_leaves] at hl
    have := x.leaves_pos
    have := y.leaves_pos
    omega
theorem shp_ib (a : Int) (b : Bool) : Vl.shp (.tuple [.int a, .bool b]) = true := by
  unfold Vl.shp
  simp [PyData.canLay0, PyData.canLayAll0, PyData.depth, PyData.depthAll]
theorem enc2 (w : Bool) (x y : Kd) : (Kd.mk2 w x y).enc = PyData.tuple [.str (if w then "both" else "to"), x.enc, y.enc] := by cases w <;> rfl
theorem wBoth (w : Bool) : decide ((if w = true then Str.ofString "both" else Str.ofString "to") = Str.ofString "both") = w := by cases w <;> decide +kernel
theorem eqv_ib (a c : Int) (p q : Bool) : PyData.eqv (.tuple [.int a, .bool p]) (.tuple [.int c, .bool q]) = decide (a = c ∧ p = q) := by
  rw [eqv_tup, eqvAll_cons, eqvAll_cons, eqvAll_nil, eqv_int]
  by_cases h : a = c <;> cases p <;> cases q <;> simp [PyData.eqv, h]
def pAhead (N : Nat) : VSp := fun ss st Kp => ∃ (ms : List Str) (a b : Kd), ss = [.val (.list (ms.map .str)), .val a.enc, .val b.enc] ∧ st = [] ∧ ms.length ≤ 4 ∧ (∀ m ∈ ms, PyData.strOk m = true) ∧ a.over ms ∧ b.over ms ∧ a.leaves = b.leaves ∧ a.leaves ≤ N ∧ a.leaves ≤ 10 ∧
  Kp (.val (.bool (decide (a.num ms < b.num ms)))) []
theorem r_ahead {N : Nat} {ss cs Kp} (h : pAhead (N + 1) ss cs Kp) : t_Lahead (pLlv 10) (pAhead N) (dV cs.length Kp) ⟨startV 7 ss, cs.map some⟩ := by
  obtain ⟨ms, a, b, rfl, rfl, hm, hok, oa, ob, hl, hN, h10, k⟩ := h
  have sa := Kd.shp hok oa (by omega)
  have sb := Kd.shp hok ob (by omega)
  simp only [t_Lahead, t_Lahead_12, Kd.eqv, flatD, List.any_cons, List.any_nil, eqv_str, eqv_int, eqv_ti, eqv_it, eqv_st, eqv_ts, cut1, Bool.or_false, Bool.or_true, Bool.and_self, Bool.and_true, Bool.and_false, Bool.false_or, Bool.true_or, and_self, ofs_inj, ofs_app, ofs_len, String.reduceEq, String.reduceNe, String.reduceAppend, decide_true, decide_false, Bool.not_true, Bool.not_false, sz0, sz1, sz2, sz3, sz4, sz5, sz6, sz7, sz8, sz9, sz10, sz11, sz12, sz13, sz14, sz15, sz16, sz17, sz18, sz19, sz20, sz21, sz22, sz23, sz24, sz25, cpow1018, true_and, and_true, Nat.reduceAdd, Nat.reduceLT, Nat.reduceSub, Int.reduceNe, Int.reduceEq, Int.reduceLT, Int.reduceLE, Int.reduceToNat, ne_eq, not_false_eq_true, List.length_map, Nat.lt_irrefl, dV_nx, dV_rt, at0, at1, at2, at3, ix20, ix21, vSeq, vIfS, vTest, vTruth, truth, v2, v1, vN, vCons, vNil, vStar, vVar, vC, xIx, Vl.opI0, Vl.opI, pk, vSet, vAug, vAsg, xgSub, vRet, vRetN, vNext_mk, vDrop, vBreak, vCont, asD, asDs, opMod, opDiv, opMul2, Vl.opAdd, Vl.opAddO, opSub, opPow, opLt, Vl.opLe, opGt, Vl.opGe, xEq, okEq_str, okEq_int, xIn, okIn, inD, xIsN, isNone_n, isNone_t, isNone_l, isNone_i, isNone_s, isMo, mob, pkm, gModI, gDivI, gSubI, gMulI, gPowI, gGt, gLt, gLe, gGe, vNotT, vAndT, vOrT, vAndV, vOrV, opNot, opNotG, vIfE, opTup, opLst, opLstO, Vl.opLen, Vl.opInt, opList, opListO, opTuple, opII, gMax, gMin, vM, vM0, isT, xPop, Vl.opAppend, opExtend, opJoin, vgName, vgTup, vgCons, vgNil, kOpt_some, kOpn_some, kOps_some, Vl.opSum, Vl.opInsert, Vl.opIndex, opDivmod, vSl, vPart, vNoPart, opSl, opSlO, opRev, opCallK, ownD, ownO, objs, renum, uniq, getS, putS, vCall0, vFor, vForW, En.wk, vSeqI, vTupI, vRng1, vRng2, vEnum, vZip, chkOf, vLcK, vYes, finD, finO, En.wipe, wipeE, En.trim, trimS, dropNone, clr_n, clr_v, clr_k, clr_o, wth, Vl.ret, takeS, startV,  List.map_cons, List.map_nil, List.length_cons, List.length_nil, List.cons_append, List.nil_append, List.replicate, List.getElem?_cons_succ, List.getElem?_cons_zero, List.getElem?_nil, List.set_cons_succ, List.set_cons_zero, List.set_nil, List.all_nil, List.all_cons, Bool.true_and, Option.map_some, Option.map_none, if_true, if_false, decide_eq_true_eq, Bool.false_eq_true, List.take_succ_cons, List.take_zero, List.take_nil, List.drop_succ_cons, List.drop_zero, List.drop_nil, reduceIte, reduceCtorEq]
  refine ⟨okEq_of sa sb, ?_⟩
  split
  · rename_i e
    subst e
    simp only [t_Lahead_1, flatD, List.any_cons, List.any_nil, eqv_str, eqv_int, eqv_ti, eqv_it, eqv_st, eqv_ts, cut1, Bool.or_false, Bool.or_true, Bool.and_self, Bool.and_true, Bool.and_false, Bool.false_or, Bool.true_or, and_self, ofs_inj, ofs_app, ofs_len, String.reduceEq, String.reduceNe, String.reduceAppend, decide_true, decide_false, Bool.not_true, Bool.not_false, sz0, sz1, sz2, sz3, sz4, sz5, sz6, sz7, sz8, sz9, sz10, sz11, sz12, sz13, sz14, sz15, sz16, sz17, sz18, sz19, sz20, sz21, sz22, sz23, sz24, sz25, cpow1018, true_and, and_true, Nat.reduceAdd, Nat.reduceLT, Nat.reduceSub, Int.reduceNe, Int.reduceEq, Int.reduceLT, Int.reduceLE, Int.reduceToNat, ne_eq, not_false_eq_true, List.length_map, Nat.lt_irrefl, dV_nx, dV_rt, at0, at1, at2, at3, ix20, ix21, vSeq, vIfS, vTest, vTruth, truth, v2, v1, vN, vCons, vNil, vStar, vVar, vC, xIx, Vl.opI0, Vl.opI, pk, vSet, vAug, vAsg, xgSub, vRet, vRetN, vNext_mk, vDrop, vBreak, vCont, asD, asDs, opMod, opDiv, opMul2, Vl.opAdd, Vl.opAddO, opSub, opPow, opLt, Vl.opLe, opGt, Vl.opGe, xEq, okEq_str, okEq_int, xIn, okIn, inD, xIsN, isNone_n, isNone_t, isNone_l, isNone_i, isNone_s, isMo, mob, pkm, gModI, gDivI, gSubI, gMulI, gPowI, gGt, gLt, gLe, gGe, vNotT, vAndT, vOrT, vAndV, vOrV, opNot, opNotG, vIfE, opTup, opLst, opLstO, Vl.opLen, Vl.opInt, opList, opListO, opTuple, opII, gMax, gMin, vM, vM0, isT, xPop, Vl.opAppend, opExtend, opJoin, vgName, vgTup, vgCons, vgNil, kOpt_some, kOpn_some, kOps_some, Vl.opSum, Vl.opInsert, Vl.opIndex, opDivmod, vSl, vPart, vNoPart, opSl, opSlO, opRev, opCallK, ownD, ownO, objs, renum, uniq, getS, putS, vCall0, vFor, vForW, En.wk, vSeqI, vTupI, vRng1, vRng2, vEnum, vZip, chkOf, vLcK, vYes, finD, finO, En.wipe, wipeE, En.trim, trimS, dropNone, clr_n, clr_v, clr_k, clr_o, wth, Vl.ret, takeS, startV,  List.map_cons, List.map_nil, List.length_cons, List.length_nil, List.cons_append, List.nil_append, List.replicate, List.getElem?_cons_succ, List.getElem?_cons_zero, List.getElem?_nil, List.set_cons_succ, List.set_cons_zero, List.set_nil, List.all_nil, List.all_cons, Bool.true_and, Option.map_some, Option.map_none, if_true, if_false, decide_eq_true_eq, Bool.false_eq_true, List.take_succ_cons, List.take_zero, List.take_nil, List.drop_succ_cons, List.drop_zero, List.drop_nil, reduceIte, reduceCtorEq]
    rw [decide_eq_false (Int.lt_irrefl _)] at k
    exact k
  · rename_i hne
    have one1 : a.leaves = 1 → ∀ Nx, t_Lahead_3 (pLlv 10) (pAhead N) { nx := Nx, rt := (dV 0 Kp).rt, bk := (dV 0 Kp).bk, ct := (dV 0 Kp).ct, ex := (dV 0 Kp).ex } ⟨[some (.val (.list (ms.map .str))), some (.val a.enc), some (.val b.enc), none, none, none, none], []⟩ := by
      intro h1 Nx
      have h2 : b.leaves = 1 := by omega
      obtain ⟨ma, ia⟩ := ones_idx a oa h1
      obtain ⟨mb, ib⟩ := ones_idx b ob h2
      simp only [t_Lahead_3, flatD, List.any_cons, List.any_nil, eqv_str, eqv_int, eqv_ti, eqv_it, eqv_st, eqv_ts, cut1, Bool.or_false, Bool.or_true, Bool.and_self, Bool.and_true, Bool.and_false, Bool.false_or, Bool.true_or, and_self, ofs_inj, ofs_app, ofs_len, String.reduceEq, String.reduceNe, String.reduceAppend, decide_true, decide_false, Bool.not_true, Bool.not_false, sz0, sz1, sz2, sz3, sz4, sz5, sz6, sz7, sz8, sz9, sz10, sz11, sz12, sz13, sz14, sz15, sz16, sz17, sz18, sz19, sz20, sz21, sz22, sz23, sz24, sz25, cpow1018, true_and, and_true, Nat.reduceAdd, Nat.reduceLT, Nat.reduceSub, Int.reduceNe, Int.reduceEq, Int.reduceLT, Int.reduceLE, Int.reduceToNat, ne_eq, not_false_eq_true, List.length_map, Nat.lt_irrefl, dV_nx, dV_rt, at0, at1, at2, at3, ix20, ix21, vSeq, vIfS, vTest, vTruth, truth, v2, v1, vN, vCons, vNil, vStar, vVar, vC, xIx, Vl.opI0, Vl.opI, pk, vSet, vAug, vAsg, xgSub, vRet, vRetN, vNext_mk, vDrop, vBreak, vCont, asD, asDs, opMod, opDiv, opMul2, Vl.opAdd, Vl.opAddO, opSub, opPow, opLt, Vl.opLe, opGt, Vl.opGe, xEq, okEq_str, okEq_int, xIn, okIn, inD, xIsN, isNone_n, isNone_t, isNone_l, isNone_i, isNone_s, isMo, mob, pkm, gModI, gDivI, gSubI, gMulI, gPowI, gGt, gLt, gLe, gGe, vNotT, vAndT, vOrT, vAndV, vOrV, opNot, opNotG, vIfE, opTup, opLst, opLstO, Vl.opLen, Vl.opInt, opList, opListO, opTuple, opII, gMax, gMin, vM, vM0, isT, xPop, Vl.opAppend, opExtend, opJoin, vgName, vgTup, vgCons, vgNil, kOpt_some, kOpn_some, kOps_some, Vl.opSum, Vl.opInsert, Vl.opIndex, opDivmod, vSl, vPart, vNoPart, opSl, opSlO, opRev, opCallK, ownD, ownO, objs, renum, uniq, getS, putS, vCall0, vFor, vForW, En.wk, vSeqI, vTupI, vRng1, vRng2, vEnum, vZip, chkOf, vLcK, vYes, finD, finO, En.wipe, wipeE, En.trim, trimS, dropNone, clr_n, clr_v, clr_k, clr_o, wth, Vl.ret, takeS, startV,  List.map_cons, List.map_nil, List.length_cons, List.length_nil, List.cons_append, List.nil_append, List.replicate, List.getElem?_cons_succ, List.getElem?_cons_zero, List.getElem?_nil, List.set_cons_succ, List.set_cons_zero, List.set_nil, List.all_nil, List.all_cons, Bool.true_and, Option.map_some, Option.map_none, if_true, if_false, decide_eq_true_eq, Bool.false_eq_true, List.take_succ_cons, List.take_zero, List.take_nil, List.drop_succ_cons, List.drop_zero, List.drop_nil, reduceIte, reduceCtorEq]
      refine cl_mapE PyData.str (fun m => (Kd.mark m).enc) ms (by exact big (by simp; omega)) (fun m Kt hm hk => ?_) ?_
      · simp only [flatD, List.any_cons, List.any_nil, eqv_str, eqv_int, eqv_ti, eqv_it, eqv_st, eqv_ts, cut1, Bool.or_false, Bool.or_true, Bool.and_self, Bool.and_true, Bool.and_false, Bool.false_or, Bool.true_or, and_self, ofs_inj, ofs_app, ofs_len, String.reduceEq, String.reduceNe, String.reduceAppend, decide_true, decide_false, Bool.not_true, Bool.not_false, sz0, sz1, sz2, sz3, sz4, sz5, sz6, sz7, sz8, sz9, sz10, sz11, sz12, sz13, sz14, sz15, sz16, sz17, sz18, sz19, sz20, sz21, sz22, sz23, sz24, sz25, cpow1018, true_and, and_true, Nat.reduceAdd, Nat.reduceLT, Nat.reduceSub, Int.reduceNe, Int.reduceEq, Int.reduceLT, Int.reduceLE, Int.reduceToNat, ne_eq, not_false_eq_true, List.length_map, Nat.lt_irrefl, dV_nx, dV_rt, at0, at1, at2, at3, ix20, ix21, vSeq, vIfS, vTest, vTruth, truth, v2, v1, vN, vCons, vNil, vStar, vVar, vC, xIx, Vl.opI0, Vl.opI, pk, vSet, vAug, vAsg, xgSub, vRet, vRetN, vNext_mk, vDrop, vBreak, vCont, asD, asDs, opMod, opDiv, opMul2, Vl.opAdd, Vl.opAddO, opSub, opPow, opLt, Vl.opLe, opGt, Vl.opGe, xEq, okEq_str, okEq_int, xIn, okIn, inD, xIsN, isNone_n, isNone_t, isNone_l, isNone_i, isNone_s, isMo, mob, pkm, gModI, gDivI, gSubI, gMulI, gPowI, gGt, gLt, gLe, gGe, vNotT, vAndT, vOrT, vAndV, vOrV, opNot, opNotG, vIfE, opTup, opLst, opLstO, Vl.opLen, Vl.opInt, opList, opListO, opTuple, opII, gMax, gMin, vM, vM0, isT, xPop, Vl.opAppend, opExtend, opJoin, vgName, vgTup, vgCons, vgNil, kOpt_some, kOpn_some, kOps_some, Vl.opSum, Vl.opInsert, Vl.opIndex, opDivmod, vSl, vPart, vNoPart, opSl, opSlO, opRev, opCallK, ownD, ownO, objs, renum, uniq, getS, putS, vCall0, vFor, vForW, En.wk, vSeqI, vTupI, vRng1, vRng2, vEnum, vZip, chkOf, vLcK, vYes, finD, finO, En.wipe, wipeE, En.trim, trimS, dropNone, clr_n, clr_v, clr_k, clr_o, wth, Vl.ret, takeS, startV,  List.map_cons, List.map_nil, List.length_cons, List.length_nil, List.cons_append, List.nil_append, List.replicate, List.getElem?_cons_succ, List.getElem?_cons_zero, List.getElem?_nil, List.set_cons_succ, List.set_cons_zero, List.set_nil, List.all_nil, List.all_cons, Bool.true_and, Option.map_some, Option.map_none, if_true, if_false, decide_eq_true_eq, Bool.false_eq_true, List.take_succ_cons, List.take_zero, List.take_nil, List.drop_succ_cons, List.drop_zero, List.drop_nil, reduceIte, reduceCtorEq]
        exact hk _ rfl
      · have el : ms.map (fun m => (Kd.mark m).enc) ++ [PyData.tuple [.str "one"]] = (ones ms).map Kd.enc := by
          unfold ones
          rw [List.map_append, List.map_map]
          rfl
        simp only [List.nil_append, el, t_Lahead_2, ixD_kd a ma, ixD_kd b mb, ia, ib, flatD, List.any_cons, List.any_nil, eqv_str, eqv_int, eqv_ti, eqv_it, eqv_st, eqv_ts, cut1, Bool.or_false, Bool.or_true, Bool.and_self, Bool.and_true, Bool.and_false, Bool.false_or, Bool.true_or, and_self, ofs_inj, ofs_app, ofs_len, String.reduceEq, String.reduceNe, String.reduceAppend, decide_true, decide_false, Bool.not_true, Bool.not_false, sz0, sz1, sz2, sz3, sz4, sz5, sz6, sz7, sz8, sz9, sz10, sz11, sz12, sz13, sz14, sz15, sz16, sz17, sz18, sz19, sz20, sz21, sz22, sz23, sz24, sz25, cpow1018, true_and, and_true, Nat.reduceAdd, Nat.reduceLT, Nat.reduceSub, Int.reduceNe, Int.reduceEq, Int.reduceLT, Int.reduceLE, Int.reduceToNat, ne_eq, not_false_eq_true, List.length_map, Nat.lt_irrefl, dV_nx, dV_rt, at0, at1, at2, at3, ix20, ix21, vSeq, vIfS, vTest, vTruth, truth, v2, v1, vN, vCons, vNil, vStar, vVar, vC, xIx, Vl.opI0, Vl.opI, pk, vSet, vAug, vAsg, xgSub, vRet, vRetN, vNext_mk, vDrop, vBreak, vCont, asD, asDs, opMod, opDiv, opMul2, Vl.opAdd, Vl.opAddO, opSub, opPow, opLt, Vl.opLe, opGt, Vl.opGe, xEq, okEq_str, okEq_int, xIn, okIn, inD, xIsN, isNone_n, isNone_t, isNone_l, isNone_i, isNone_s, isMo, mob, pkm, gModI, gDivI, gSubI, gMulI, gPowI, gGt, gLt, gLe, gGe, vNotT, vAndT, vOrT, vAndV, vOrV, opNot, opNotG, vIfE, opTup, opLst, opLstO, Vl.opLen, Vl.opInt, opList, opListO, opTuple, opII, gMax, gMin, vM, vM0, isT, xPop, Vl.opAppend, opExtend, opJoin, vgName, vgTup, vgCons, vgNil, kOpt_some, kOpn_some, kOps_some, Vl.opSum, Vl.opInsert, Vl.opIndex, opDivmod, vSl, vPart, vNoPart, opSl, opSlO, opRev, opCallK, ownD, ownO, objs, renum, uniq, getS, putS, vCall0, vFor, vForW, En.wk, vSeqI, vTupI, vRng1, vRng2, vEnum, vZip, chkOf, vLcK, vYes, finD, finO, En.wipe, wipeE, En.trim, trimS, dropNone, clr_n, clr_v, clr_k, clr_o, wth, Vl.ret, takeS, startV,  List.map_cons, List.map_nil, List.length_cons, List.length_nil, List.cons_append, List.nil_append, List.replicate, List.getElem?_cons_succ, List.getElem?_cons_zero, List.getElem?_nil, List.set_cons_succ, List.set_cons_zero, List.set_nil, List.all_nil, List.all_cons, Bool.true_and, Option.map_some, Option.map_none, if_true, if_false, decide_eq_true_eq, Bool.false_eq_true, List.take_succ_cons, List.take_zero, List.take_nil, List.drop_succ_cons, List.drop_zero, List.drop_nil, reduceIte, reduceCtorEq]
        exact ⟨Nat.le_trans (show ms.length + 1 ≤ 5 by omega) (by decide), ⟨shaped_ones hok, shaped_kd1 hok oa h1⟩, ⟨shaped_ones hok, shaped_kd1 hok ob h2⟩, k⟩
    rcases a.form with ⟨m, rfl⟩ | rfl | ⟨w, x, y, rfl⟩
    · simp only [t_Lahead_11, Kd.enc, flatD, List.any_cons, List.any_nil, eqv_str, eqv_int, eqv_ti, eqv_it, eqv_st, eqv_ts, cut1, Bool.or_false, Bool.or_true, Bool.and_self, Bool.and_true, Bool.and_false, Bool.false_or, Bool.true_or, and_self, ofs_inj, ofs_app, ofs_len, String.reduceEq, String.reduceNe, String.reduceAppend, decide_true, decide_false, Bool.not_true, Bool.not_false, sz0, sz1, sz2, sz3, sz4, sz5, sz6, sz7, sz8, sz9, sz10, sz11, sz12, sz13, sz14, sz15, sz16, sz17, sz18, sz19, sz20, sz21, sz22, sz23, sz24, sz25, cpow1018, true_and, and_true, Nat.reduceAdd, Nat.reduceLT, Nat.reduceSub, Int.reduceNe, Int.reduceEq, Int.reduceLT, Int.reduceLE, Int.reduceToNat, ne_eq, not_false_eq_true, List.length_map, Nat.lt_irrefl, dV_nx, dV_rt, at0, at1, at2, at3, ix20, ix21, vSeq, vIfS, vTest, vTruth, truth, v2, v1, vN, vCons, vNil, vStar, vVar, vC, xIx, Vl.opI0, Vl.opI, pk, vSet, vAug, vAsg, xgSub, vRet, vRetN, vNext_mk, vDrop, vBreak, vCont, asD, asDs, opMod, opDiv, opMul2, Vl.opAdd, Vl.opAddO, opSub, opPow, opLt, Vl.opLe, opGt, Vl.opGe, xEq, okEq_str, okEq_int, xIn, okIn, inD, xIsN, isNone_n, isNone_t, isNone_l, isNone_i, isNone_s, isMo, mob, pkm, gModI, gDivI, gSubI, gMulI, gPowI, gGt, gLt, gLe, gGe, vNotT, vAndT, vOrT, vAndV, vOrV, opNot, opNotG, vIfE, opTup, opLst, opLstO, Vl.opLen, Vl.opInt, opList, opListO, opTuple, opII, gMax, gMin, vM, vM0, isT, xPop, Vl.opAppend, opExtend, opJoin, vgName, vgTup, vgCons, vgNil, kOpt_some, kOpn_some, kOps_some, Vl.opSum, Vl.opInsert, Vl.opIndex, opDivmod, vSl, vPart, vNoPart, opSl, opSlO, opRev, opCallK, ownD, ownO, objs, renum, uniq, getS, putS, vCall0, vFor, vForW, En.wk, vSeqI, vTupI, vRng1, vRng2, vEnum, vZip, chkOf, vLcK, vYes, finD, finO, En.wipe, wipeE, En.trim, trimS, dropNone, clr_n, clr_v, clr_k, clr_o, wth, Vl.ret, takeS, startV,  List.map_cons, List.map_nil, List.length_cons, List.length_nil, List.cons_append, List.nil_append, List.replicate, List.getElem?_cons_succ, List.getElem?_cons_zero, List.getElem?_nil, List.set_cons_succ, List.set_cons_zero, List.set_nil, List.all_nil, List.all_cons, Bool.true_and, Option.map_some, Option.map_none, if_true, if_false, decide_eq_true_eq, Bool.false_eq_true, List.take_succ_cons, List.take_zero, List.take_nil, List.drop_succ_cons, List.drop_zero, List.drop_nil, reduceIte, reduceCtorEq]
      exact one1 rfl _
    · simp only [t_Lahead_11, Kd.enc, flatD, List.any_cons, List.any_nil, eqv_str, eqv_int, eqv_ti, eqv_it, eqv_st, eqv_ts, cut1, Bool.or_false, Bool.or_true, Bool.and_self, Bool.and_true, Bool.and_false, Bool.false_or, Bool.true_or, and_self, ofs_inj, ofs_app, ofs_len, String.reduceEq, String.reduceNe, String.reduceAppend, decide_true, decide_false, Bool.not_true, Bool.not_false, sz0, sz1, sz2, sz3, sz4, sz5, sz6, sz7, sz8, sz9, sz10, sz11, sz12, sz13, sz14, sz15, sz16, sz17, sz18, sz19, sz20, sz21, sz22, sz23, sz24, sz25, cpow1018, true_and, and_true, Nat.reduceAdd, Nat.reduceLT, Nat.reduceSub, Int.reduceNe, Int.reduceEq, Int.reduceLT, Int.reduceLE, Int.reduceToNat, ne_eq, not_false_eq_true, List.length_map, Nat.lt_irrefl, dV_nx, dV_rt, at0, at1, at2, at3, ix20, ix21, vSeq, vIfS, vTest, vTruth, truth, v2, v1, vN, vCons, vNil, vStar, vVar, vC, xIx, Vl.opI0, Vl.opI, pk, vSet, vAug, vAsg, xgSub, vRet, vRetN, vNext_mk, vDrop, vBreak, vCont, asD, asDs, opMod, opDiv, opMul2, Vl.opAdd, Vl.opAddO, opSub, opPow, opLt, Vl.opLe, opGt, Vl.opGe, xEq, okEq_str, okEq_int, xIn, okIn, inD, xIsN, isNone_n, isNone_t, isNone_l, isNone_i, isNone_s, isMo, mob, pkm, gModI, gDivI, gSubI, gMulI, gPowI, gGt, gLt, gLe, gGe, vNotT, vAndT, vOrT, vAndV, vOrV, opNot, opNotG, vIfE, opTup, opLst, opLstO, Vl.opLen, Vl.opInt, opList, opListO, opTuple, opII, gMax, gMin, vM, vM0, isT, xPop, Vl.opAppend, opExtend, opJoin, vgName, vgTup, vgCons, vgNil, kOpt_some, kOpn_some, kOps_some, Vl.opSum, Vl.opInsert, Vl.opIndex, opDivmod, vSl, vPart, vNoPart, opSl, opSlO, opRev, opCallK, ownD, ownO, objs, renum, uniq, getS, putS, vCall0, vFor, vForW, En.wk, vSeqI, vTupI, vRng1, vRng2, vEnum, vZip, chkOf, vLcK, vYes, finD, finO, En.wipe, wipeE, En.trim, trimS, dropNone, clr_n, clr_v, clr_k, clr_o, wth, Vl.ret, takeS, startV,  List.map_cons, List.map_nil, List.length_cons, List.length_nil, List.cons_append, List.nil_append, List.replicate, List.getElem?_cons_succ, List.getElem?_cons_zero, List.getElem?_nil, List.set_cons_succ, List.set_cons_zero, List.set_nil, List.all_nil, List.all_cons, Bool.true_and, Option.map_some, Option.map_none, if_true, if_false, decide_eq_true_eq, Bool.false_eq_true, List.take_succ_cons, List.take_zero, List.take_nil, List.drop_succ_cons, List.drop_zero, List.drop_nil, reduceIte, reduceCtorEq]
      exact one1 rfl _
    · have px := x.leaves_pos
      have py := y.leaves_pos
      rw [Kd.mk2_leaves] at hl hN h10
      rcases b.form with ⟨m, rfl⟩ | rfl | ⟨w', x', y', rfl⟩
      · exact absurd hl (by simp only [Kd.leaves]; omega)
      · exact absurd hl (by simp only [Kd.leaves]; omega)
      · have px' := x'.leaves_pos
        have py' := y'.leaves_pos
        rw [Kd.mk2_leaves] at hl
        obtain ⟨ox, oy⟩ := Kd.mk2_over.mp oa
        obtain ⟨ox', oy'⟩ := Kd.mk2_over.mp ob
        have L := num_lt2 (w := w) (w' := w') ox oy ox' oy' hl
        simp only [t_Lahead_11, enc2, flatD, List.any_cons, List.any_nil, eqv_str, eqv_int, eqv_ti, eqv_it, eqv_st, eqv_ts, cut1, Bool.or_false, Bool.or_true, Bool.and_self, Bool.and_true, Bool.and_false, Bool.false_or, Bool.true_or, and_self, ofs_inj, ofs_app, ofs_len, String.reduceEq, String.reduceNe, String.reduceAppend, decide_true, decide_false, Bool.not_true, Bool.not_false, sz0, sz1, sz2, sz3, sz4, sz5, sz6, sz7, sz8, sz9, sz10, sz11, sz12, sz13, sz14, sz15, sz16, sz17, sz18, sz19, sz20, sz21, sz22, sz23, sz24, sz25, cpow1018, true_and, and_true, Nat.reduceAdd, Nat.reduceLT, Nat.reduceSub, Int.reduceNe, Int.reduceEq, Int.reduceLT, Int.reduceLE, Int.reduceToNat, ne_eq, not_false_eq_true, List.length_map, Nat.lt_irrefl, dV_nx, dV_rt, at0, at1, at2, at3, ix20, ix21, vSeq, vIfS, vTest, vTruth, truth, v2, v1, vN, vCons, vNil, vStar, vVar, vC, xIx, Vl.opI0, Vl.opI, pk, vSet, vAug, vAsg, xgSub, vRet, vRetN, vNext_mk, vDrop, vBreak, vCont, asD, asDs, opMod, opDiv, opMul2, Vl.opAdd, Vl.opAddO, opSub, opPow, opLt, Vl.opLe, opGt, Vl.opGe, xEq, okEq_str, okEq_int, xIn, okIn, inD, xIsN, isNone_n, isNone_t, isNone_l, isNone_i, isNone_s, isMo, mob, pkm, gModI, gDivI, gSubI, gMulI, gPowI, gGt, gLt, gLe, gGe, vNotT, vAndT, vOrT, vAndV, vOrV, opNot, opNotG, vIfE, opTup, opLst, opLstO, Vl.opLen, Vl.opInt, opList, opListO, opTuple, opII, gMax, gMin, vM, vM0, isT, xPop, Vl.opAppend, opExtend, opJoin, vgName, vgTup, vgCons, vgNil, kOpt_some, kOpn_some, kOps_some, Vl.opSum, Vl.opInsert, Vl.opIndex, opDivmod, vSl, vPart, vNoPart, opSl, opSlO, opRev, opCallK, ownD, ownO, objs, renum, uniq, getS, putS, vCall0, vFor, vForW, En.wk, vSeqI, vTupI, vRng1, vRng2, vEnum, vZip, chkOf, vLcK, vYes, finD, finO, En.wipe, wipeE, En.trim, trimS, dropNone, clr_n, clr_v, clr_k, clr_o, wth, Vl.ret, takeS, startV,  List.map_cons, List.map_nil, List.length_cons, List.length_nil, List.cons_append, List.nil_append, List.replicate, List.getElem?_cons_succ, List.getElem?_cons_zero, List.getElem?_nil, List.set_cons_succ, List.set_cons_zero, List.set_nil, List.all_nil, List.all_cons, Bool.true_and, Option.map_some, Option.map_none, if_true, if_false, decide_eq_true_eq, Bool.false_eq_true, List.take_succ_cons, List.take_zero, List.take_nil, List.drop_succ_cons, List.drop_zero, List.drop_nil, reduceIte, reduceCtorEq]
        simp only [t_Lahead_10, pLlv, enc2, flatD, List.any_cons, List.any_nil, eqv_str, eqv_int, eqv_ti, eqv_it, eqv_st, eqv_ts, cut1, Bool.or_false, Bool.or_true, Bool.and_self, Bool.and_true, Bool.and_false, Bool.false_or, Bool.true_or, and_self, ofs_inj, ofs_app, ofs_len, String.reduceEq, String.reduceNe, String.reduceAppend, decide_true, decide_false, Bool.not_true, Bool.not_false, sz0, sz1, sz2, sz3, sz4, sz5, sz6, sz7, sz8, sz9, sz10, sz11, sz12, sz13, sz14, sz15, sz16, sz17, sz18, sz19, sz20, sz21, sz22, sz23, sz24, sz25, cpow1018, true_and, and_true, Nat.reduceAdd, Nat.reduceLT, Nat.reduceSub, Int.reduceNe, Int.reduceEq, Int.reduceLT, Int.reduceLE, Int.reduceToNat, ne_eq, not_false_eq_true, List.length_map, Nat.lt_irrefl, dV_nx, dV_rt, at0, at1, at2, at3, ix20, ix21, vSeq, vIfS, vTest, vTruth, truth, v2, v1, vN, vCons, vNil, vStar, vVar, vC, xIx, Vl.opI0, Vl.opI, pk, vSet, vAug, vAsg, xgSub, vRet, vRetN, vNext_mk, vDrop, vBreak, vCont, asD, asDs, opMod, opDiv, opMul2, Vl.opAdd, Vl.opAddO, opSub, opPow, opLt, Vl.opLe, opGt, Vl.opGe, xEq, okEq_str, okEq_int, xIn, okIn, inD, xIsN, isNone_n, isNone_t, isNone_l, isNone_i, isNone_s, isMo, mob, pkm, gModI, gDivI, gSubI, gMulI, gPowI, gGt, gLt, gLe, gGe, vNotT, vAndT, vOrT, vAndV, vOrV, opNot, opNotG, vIfE, opTup, opLst, opLstO, Vl.opLen, Vl.opInt, opList, opListO, opTuple, opII, gMax, gMin, vM, vM0, isT, xPop, Vl.opAppend, opExtend, opJoin, vgName, vgTup, vgCons, vgNil, kOpt_some, kOpn_some, kOps_some, Vl.opSum, Vl.opInsert, Vl.opIndex, opDivmod, vSl, vPart, vNoPart, opSl, opSlO, opRev, opCallK, ownD, ownO, objs, renum, uniq, getS, putS, vCall0, vFor, vForW, En.wk, vSeqI, vTupI, vRng1, vRng2, vEnum, vZip, chkOf, vLcK, vYes, finD, finO, En.wipe, wipeE, En.trim, trimS, dropNone, clr_n, clr_v, clr_k, clr_o, wth, Vl.ret, takeS, startV,  List.map_cons, List.map_nil, List.length_cons, List.length_nil, List.cons_append, List.nil_append, List.replicate, List.getElem?_cons_succ, List.getElem?_cons_zero, List.getElem?_nil, List.set_cons_succ, List.set_cons_zero, List.set_nil, List.all_nil, List.all_cons, Bool.true_and, Option.map_some, Option.map_none, if_true, if_false, decide_eq_true_eq, Bool.false_eq_true, List.take_succ_cons, List.take_zero, List.take_nil, List.drop_succ_cons, List.drop_zero, List.drop_nil, reduceIte, reduceCtorEq]
        refine ⟨x, rfl, by omega, ?_⟩
        simp only [t_Lahead_9, pLlv, wBoth, flatD, List.any_cons, List.any_nil, eqv_str, eqv_int, eqv_ti, eqv_it, eqv_st, eqv_ts, cut1, Bool.or_false, Bool.or_true, Bool.and_self, Bool.and_true, Bool.and_false, Bool.false_or, Bool.true_or, and_self, ofs_inj, ofs_app, ofs_len, String.reduceEq, String.reduceNe, String.reduceAppend, decide_true, decide_false, Bool.not_true, Bool.not_false, sz0, sz1, sz2, sz3, sz4, sz5, sz6, sz7, sz8, sz9, sz10, sz11, sz12, sz13, sz14, sz15, sz16, sz17, sz18, sz19, sz20, sz21, sz22, sz23, sz24, sz25, cpow1018, true_and, and_true, Nat.reduceAdd, Nat.reduceLT, Nat.reduceSub, Int.reduceNe, Int.reduceEq, Int.reduceLT, Int.reduceLE, Int.reduceToNat, ne_eq, not_false_eq_true, List.length_map, Nat.lt_irrefl, dV_nx, dV_rt, at0, at1, at2, at3, ix20, ix21, vSeq, vIfS, vTest, vTruth, truth, v2, v1, vN, vCons, vNil, vStar, vVar, vC, xIx, Vl.opI0, Vl.opI, pk, vSet, vAug, vAsg, xgSub, vRet, vRetN, vNext_mk, vDrop, vBreak, vCont, asD, asDs, opMod, opDiv, opMul2, Vl.opAdd, Vl.opAddO, opSub, opPow, opLt, Vl.opLe, opGt, Vl.opGe, xEq, okEq_str, okEq_int, xIn, okIn, inD, xIsN, isNone_n, isNone_t, isNone_l, isNone_i, isNone_s, isMo, mob, pkm, gModI, gDivI, gSubI, gMulI, gPowI, gGt, gLt, gLe, gGe, vNotT, vAndT, vOrT, vAndV, vOrV, opNot, opNotG, vIfE, opTup, opLst, opLstO, Vl.opLen, Vl.opInt, opList, opListO, opTuple, opII, gMax, gMin, vM, vM0, isT, xPop, Vl.opAppend, opExtend, opJoin, vgName, vgTup, vgCons, vgNil, kOpt_some, kOpn_some, kOps_some, Vl.opSum, Vl.opInsert, Vl.opIndex, opDivmod, vSl, vPart, vNoPart, opSl, opSlO, opRev, opCallK, ownD, ownO, objs, renum, uniq, getS, putS, vCall0, vFor, vForW, En.wk, vSeqI, vTupI, vRng1, vRng2, vEnum, vZip, chkOf, vLcK, vYes, finD, finO, En.wipe, wipeE, En.trim, trimS, dropNone, clr_n, clr_v, clr_k, clr_o, wth, Vl.ret, takeS, startV,  List.map_cons, List.map_nil, List.length_cons, List.length_nil, List.cons_append, List.nil_append, List.replicate, List.getElem?_cons_succ, List.getElem?_cons_zero, List.getElem?_nil, List.set_cons_succ, List.set_cons_zero, List.set_nil, List.all_nil, List.all_cons, Bool.true_and, Option.map_some, Option.map_none, if_true, if_false, decide_eq_true_eq, Bool.false_eq_true, List.take_succ_cons, List.take_zero, List.take_nil, List.drop_succ_cons, List.drop_zero, List.drop_nil, reduceIte, reduceCtorEq]
        refine ⟨x', rfl, by omega, ?_⟩
        simp only [t_Lahead_8, wBoth, flatD, List.any_cons, List.any_nil, eqv_str, eqv_int, eqv_ti, eqv_it, eqv_st, eqv_ts, cut1, Bool.or_false, Bool.or_true, Bool.and_self, Bool.and_true, Bool.and_false, Bool.false_or, Bool.true_or, and_self, ofs_inj, ofs_app, ofs_len, String.reduceEq, String.reduceNe, String.reduceAppend, decide_true, decide_false, Bool.not_true, Bool.not_false, sz0, sz1, sz2, sz3, sz4, sz5, sz6, sz7, sz8, sz9, sz10, sz11, sz12, sz13, sz14, sz15, sz16, sz17, sz18, sz19, sz20, sz21, sz22, sz23, sz24, sz25, cpow1018, true_and, and_true, Nat.reduceAdd, Nat.reduceLT, Nat.reduceSub, Int.reduceNe, Int.reduceEq, Int.reduceLT, Int.reduceLE, Int.reduceToNat, ne_eq, not_false_eq_true, List.length_map, Nat.lt_irrefl, dV_nx, dV_rt, at0, at1, at2, at3, ix20, ix21, vSeq, vIfS, vTest, vTruth, truth, v2, v1, vN, vCons, vNil, vStar, vVar, vC, xIx, Vl.opI0, Vl.opI, pk, vSet, vAug, vAsg, xgSub, vRet, vRetN, vNext_mk, vDrop, vBreak, vCont, asD, asDs, opMod, opDiv, opMul2, Vl.opAdd, Vl.opAddO, opSub, opPow, opLt, Vl.opLe, opGt, Vl.opGe, xEq, okEq_str, okEq_int, xIn, okIn, inD, xIsN, isNone_n, isNone_t, isNone_l, isNone_i, isNone_s, isMo, mob, pkm, gModI, gDivI, gSubI, gMulI, gPowI, gGt, gLt, gLe, gGe, vNotT, vAndT, vOrT, vAndV, vOrV, opNot, opNotG, vIfE, opTup, opLst, opLstO, Vl.opLen, Vl.opInt, opList, opListO, opTuple, opII, gMax, gMin, vM, vM0, isT, xPop, Vl.opAppend, opExtend, opJoin, vgName, vgTup, vgCons, vgNil, kOpt_some, kOpn_some, kOps_some, Vl.opSum, Vl.opInsert, Vl.opIndex, opDivmod, vSl, vPart, vNoPart, opSl, opSlO, opRev, opCallK, ownD, ownO, objs, renum, uniq, getS, putS, vCall0, vFor, vForW, En.wk, vSeqI, vTupI, vRng1, vRng2, vEnum, vZip, chkOf, vLcK, vYes, finD, finO, En.wipe, wipeE, En.trim, trimS, dropNone, clr_n, clr_v, clr_k, clr_o, wth, Vl.ret, takeS, startV,  List.map_cons, List.map_nil, List.length_cons, List.length_nil, List.cons_append, List.nil_append, List.replicate, List.getElem?_cons_succ, List.getElem?_cons_zero, List.getElem?_nil, List.set_cons_succ, List.set_cons_zero, List.set_nil, List.all_nil, List.all_cons, Bool.true_and, Option.map_some, Option.map_none, if_true, if_false, decide_eq_true_eq, Bool.false_eq_true, List.take_succ_cons, List.take_zero, List.take_nil, List.drop_succ_cons, List.drop_zero, List.drop_nil, reduceIte, reduceCtorEq]
        refine ⟨okEq_of (shp_ib _ _) (shp_ib _ _), ?_⟩
        rw [eqv_ib]
        by_cases he : (x.leaves : Int) = x'.leaves ∧ w = w'
        · obtain ⟨e1, e2⟩ := he
          have e1' : x.leaves = x'.leaves := by omega
          rw [if_neg (by rw [decide_eq_true ⟨e1, e2⟩]; decide)]
          simp only [t_Lahead_7, Kd.eqv, flatD, List.any_cons, List.any_nil, eqv_str, eqv_int, eqv_ti, eqv_it, eqv_st, eqv_ts, cut1, Bool.or_false, Bool.or_true, Bool.and_self, Bool.and_true, Bool.and_false, Bool.false_or, Bool.true_or, and_self, ofs_inj, ofs_app, ofs_len, String.reduceEq, String.reduceNe, String.reduceAppend, decide_true, decide_false, Bool.not_true, Bool.not_false, sz0, sz1, sz2, sz3, sz4, sz5, sz6, sz7, sz8, sz9, sz10, sz11, sz12, sz13, sz14, sz15, sz16, sz17, sz18, sz19, sz20, sz21, sz22, sz23, sz24, sz25, cpow1018, true_and, and_true, Nat.reduceAdd, Nat.reduceLT, Nat.reduceSub, Int.reduceNe, Int.reduceEq, Int.reduceLT, Int.reduceLE, Int.reduceToNat, ne_eq, not_false_eq_true, List.length_map, Nat.lt_irrefl, dV_nx, dV_rt, at0, at1, at2, at3, ix20, ix21, vSeq, vIfS, vTest, vTruth, truth, v2, v1, vN, vCons, vNil, vStar, vVar, vC, xIx, Vl.opI0, Vl.opI, pk, vSet, vAug, vAsg, xgSub, vRet, vRetN, vNext_mk, vDrop, vBreak, vCont, asD, asDs, opMod, opDiv, opMul2, Vl.opAdd, Vl.opAddO, opSub, opPow, opLt, Vl.opLe, opGt, Vl.opGe, xEq, okEq_str, okEq_int, xIn, okIn, inD, xIsN, isNone_n, isNone_t, isNone_l, isNone_i, isNone_s, isMo, mob, pkm, gModI, gDivI, gSubI, gMulI, gPowI, gGt, gLt, gLe, gGe, vNotT, vAndT, vOrT, vAndV, vOrV, opNot, opNotG, vIfE, opTup, opLst, opLstO, Vl.opLen, Vl.opInt, opList, opListO, opTuple, opII, gMax, gMin, vM, vM0, isT, xPop, Vl.opAppend, opExtend, opJoin, vgName, vgTup, vgCons, vgNil, kOpt_some, kOpn_some, kOps_some, Vl.opSum, Vl.opInsert, Vl.opIndex, opDivmod, vSl, vPart, vNoPart, opSl, opSlO, opRev, opCallK, ownD, ownO, objs, renum, uniq, getS, putS, vCall0, vFor, vForW, En.wk, vSeqI, vTupI, vRng1, vRng2, vEnum, vZip, chkOf, vLcK, vYes, finD, finO, En.wipe, wipeE, En.trim, trimS, dropNone, clr_n, clr_v, clr_k, clr_o, wth, Vl.ret, takeS, startV,  List.map_cons, List.map_nil, List.length_cons, List.length_nil, List.cons_append, List.nil_append, List.replicate, List.getElem?_cons_succ, List.getElem?_cons_zero, List.getElem?_nil, List.set_cons_succ, List.set_cons_zero, List.set_nil, List.all_nil, List.all_cons, Bool.true_and, Option.map_some, Option.map_none, if_true, if_false, decide_eq_true_eq, Bool.false_eq_true, List.take_succ_cons, List.take_zero, List.take_nil, List.drop_succ_cons, List.drop_zero, List.drop_nil, reduceIte, reduceCtorEq]
          refine ⟨okEq_of (Kd.shp hok ox (by omega)) (Kd.shp hok ox' (by omega)), ?_⟩
          by_cases hx : x = x'
          · subst hx
            rw [if_neg (by simp)]
            simp only [t_Lahead_6, pAhead, flatD, List.any_cons, List.any_nil, eqv_str, eqv_int, eqv_ti, eqv_it, eqv_st, eqv_ts, cut1, Bool.or_false, Bool.or_true, Bool.and_self, Bool.and_true, Bool.and_false, Bool.false_or, Bool.true_or, and_self, ofs_inj, ofs_app, ofs_len, String.reduceEq, String.reduceNe, String.reduceAppend, decide_true, decide_false, Bool.not_true, Bool.not_false, sz0, sz1, sz2, sz3, sz4, sz5, sz6, sz7, sz8, sz9, sz10, sz11, sz12, sz13, sz14, sz15, sz16, sz17, sz18, sz19, sz20, sz21, sz22, sz23, sz24, sz25, cpow1018, true_and, and_true, Nat.reduceAdd, Nat.reduceLT, Nat.reduceSub, Int.reduceNe, Int.reduceEq, Int.reduceLT, Int.reduceLE, Int.reduceToNat, ne_eq, not_false_eq_true, List.length_map, Nat.lt_irrefl, dV_nx, dV_rt, at0, at1, at2, at3, ix20, ix21, vSeq, vIfS, vTest, vTruth, truth, v2, v1, vN, vCons, vNil, vStar, vVar, vC, xIx, Vl.opI0, Vl.opI, pk, vSet, vAug, vAsg, xgSub, vRet, vRetN, vNext_mk, vDrop, vBreak, vCont, asD, asDs, opMod, opDiv, opMul2, Vl.opAdd, Vl.opAddO, opSub, opPow, opLt, Vl.opLe, opGt, Vl.opGe, xEq, okEq_str, okEq_int, xIn, okIn, inD, xIsN, isNone_n, isNone_t, isNone_l, isNone_i, isNone_s, isMo, mob, pkm, gModI, gDivI, gSubI, gMulI, gPowI, gGt, gLt, gLe, gGe, vNotT, vAndT, vOrT, vAndV, vOrV, opNot, opNotG, vIfE, opTup, opLst, opLstO, Vl.opLen, Vl.opInt, opList, opListO, opTuple, opII, gMax, gMin, vM, vM0, isT, xPop, Vl.opAppend, opExtend, opJoin, vgName, vgTup, vgCons, vgNil, kOpt_some, kOpn_some, kOps_some, Vl.opSum, Vl.opInsert, Vl.opIndex, opDivmod, vSl, vPart, vNoPart, opSl, opSlO, opRev, opCallK, ownD, ownO, objs, renum, uniq, getS, putS, vCall0, vFor, vForW, En.wk, vSeqI, vTupI, vRng1, vRng2, vEnum, vZip, chkOf, vLcK, vYes, finD, finO, En.wipe, wipeE, En.trim, trimS, dropNone, clr_n, clr_v, clr_k, clr_o, wth, Vl.ret, takeS, startV,  List.map_cons, List.map_nil, List.length_cons, List.length_nil, List.cons_append, List.nil_append, List.replicate, List.getElem?_cons_succ, List.getElem?_cons_zero, List.getElem?_nil, List.set_cons_succ, List.set_cons_zero, List.set_nil, List.all_nil, List.all_cons, Bool.true_and, Option.map_some, Option.map_none, if_true, if_false, decide_eq_true_eq, Bool.false_eq_true, List.take_succ_cons, List.take_zero, List.take_nil, List.drop_succ_cons, List.drop_zero, List.drop_nil, reduceIte, reduceCtorEq]
            refine ⟨ms, y, y', rfl, hm, hok, oy, oy', by omega, by omega, by omega, ?_⟩
            have iff1 : (Kd.mk2 w x y).num ms < (Kd.mk2 w' x y').num ms ↔ y.num ms < y'.num ms := by
              rw [L]
              refine ⟨fun h => ?_, fun h => .inr ⟨rfl, e2, .inr ⟨rfl, h⟩⟩⟩
              rcases h with (h | h) | h
              · omega
              · rw [← e2, h.2.1] at h
                exact absurd h.2.2 (by decide)
              · rcases h.2.2 with h | h
                · omega
                · exact h.2
            rw [decide_eq_decide.mpr iff1] at k
            exact k
          · rw [if_pos (by simp [hx])]
            simp only [t_Lahead_5, pAhead, flatD, List.any_cons, List.any_nil, eqv_str, eqv_int, eqv_ti, eqv_it, eqv_st, eqv_ts, cut1, Bool.or_false, Bool.or_true, Bool.and_self, Bool.and_true, Bool.and_false, Bool.false_or, Bool.true_or, and_self, ofs_inj, ofs_app, ofs_len, String.reduceEq, String.reduceNe, String.reduceAppend, decide_true, decide_false, Bool.not_true, Bool.not_false, sz0, sz1, sz2, sz3, sz4, sz5, sz6, sz7, sz8, sz9, sz10, sz11, sz12, sz13, sz14, sz15, sz16, sz17, sz18, sz19, sz20, sz21, sz22, sz23, sz24, sz25, cpow1018, true_and, and_true, Nat.reduceAdd, Nat.reduceLT, Nat.reduceSub, Int.reduceNe, Int.reduceEq, Int.reduceLT, Int.reduceLE, Int.reduceToNat, ne_eq, not_false_eq_true, List.length_map, Nat.lt_irrefl, dV_nx, dV_rt, at0, at1, at2, at3, ix20, ix21, vSeq, vIfS, vTest, vTruth, truth, v2, v1, vN, vCons, vNil, vStar, vVar, vC, xIx, Vl.opI0, Vl.opI, pk, vSet, vAug, vAsg, xgSub, vRet, vRetN, vNext_mk, vDrop, vBreak, vCont, asD, asDs, opMod, opDiv, opMul2, Vl.opAdd, Vl.opAddO, opSub, opPow, opLt, Vl.opLe, opGt, Vl.opGe, xEq, okEq_str, okEq_int, xIn, okIn, inD, xIsN, isNone_n, isNone_t, isNone_l, isNone_i, isNone_s, isMo, mob, pkm, gModI, gDivI, gSubI, gMulI, gPowI, gGt, gLt, gLe, gGe, vNotT, vAndT, vOrT, vAndV, vOrV, opNot, opNotG, vIfE, opTup, opLst, opLstO, Vl.opLen, Vl.opInt, opList, opListO, opTuple, opII, gMax, gMin, vM, vM0, isT, xPop, Vl.opAppend, opExtend, opJoin, vgName, vgTup, vgCons, vgNil, kOpt_some, kOpn_some, kOps_some, Vl.opSum, Vl.opInsert, Vl.opIndex, opDivmod, vSl, vPart, vNoPart, opSl, opSlO, opRev, opCallK, ownD, ownO, objs, renum, uniq, getS, putS, vCall0, vFor, vForW, En.wk, vSeqI, vTupI, vRng1, vRng2, vEnum, vZip, chkOf, vLcK, vYes, finD, finO, En.wipe, wipeE, En.trim, trimS, dropNone, clr_n, clr_v, clr_k, clr_o, wth, Vl.ret, takeS, startV,  List.map_cons, List.map_nil, List.length_cons, List.length_nil, List.cons_append, List.nil_append, List.replicate, List.getElem?_cons_succ, List.getElem?_cons_zero, List.getElem?_nil, List.set_cons_succ, List.set_cons_zero, List.set_nil, List.all_nil, List.all_cons, Bool.true_and, Option.map_some, Option.map_none, if_true, if_false, decide_eq_true_eq, Bool.false_eq_true, List.take_succ_cons, List.take_zero, List.take_nil, List.drop_succ_cons, List.drop_zero, List.drop_nil, reduceIte, reduceCtorEq]
            refine ⟨ms, x, x', rfl, hm, hok, ox, ox', by omega, by omega, by omega, ?_⟩
            have iff1 : (Kd.mk2 w x y).num ms < (Kd.mk2 w' x' y').num ms ↔ x.num ms < x'.num ms := by
              rw [L]
              refine ⟨fun h => ?_, fun h => .inr ⟨e1', e2, .inl h⟩⟩
              rcases h with (h | h) | h
              · omega
              · rw [← e2, h.2.1] at h
                exact absurd h.2.2 (by decide)
              · rcases h.2.2 with h | h
                · exact h
                · exact absurd (Kd.num_inj x.leaves x x' (Nat.le_refl _) ox ox' e1' h.1) hx
            rw [decide_eq_decide.mpr iff1] at k
            exact k
        · rw [if_pos (by rw [decide_eq_false he]; decide)]
          simp only [t_Lahead_4, opLtIb, flatD, List.any_cons, List.any_nil, eqv_str, eqv_int, eqv_ti, eqv_it, eqv_st, eqv_ts, cut1, Bool.or_false, Bool.or_true, Bool.and_self, Bool.and_true, Bool.and_false, Bool.false_or, Bool.true_or, and_self, ofs_inj, ofs_app, ofs_len, String.reduceEq, String.reduceNe, String.reduceAppend, decide_true, decide_false, Bool.not_true, Bool.not_false, sz0, sz1, sz2, sz3, sz4, sz5, sz6, sz7, sz8, sz9, sz10, sz11, sz12, sz13, sz14, sz15, sz16, sz17, sz18, sz19, sz20, sz21, sz22, sz23, sz24, sz25, cpow1018, true_and, and_true, Nat.reduceAdd, Nat.reduceLT, Nat.reduceSub, Int.reduceNe, Int.reduceEq, Int.reduceLT, Int.reduceLE, Int.reduceToNat, ne_eq, not_false_eq_true, List.length_map, Nat.lt_irrefl, dV_nx, dV_rt, at0, at1, at2, at3, ix20, ix21, vSeq, vIfS, vTest, vTruth, truth, v2, v1, vN, vCons, vNil, vStar, vVar, vC, xIx, Vl.opI0, Vl.opI, pk, vSet, vAug, vAsg, xgSub, vRet, vRetN, vNext_mk, vDrop, vBreak, vCont, asD, asDs, opMod, opDiv, opMul2, Vl.opAdd, Vl.opAddO, opSub, opPow, opLt, Vl.opLe, opGt, Vl.opGe, xEq, okEq_str, okEq_int, xIn, okIn, inD, xIsN, isNone_n, isNone_t, isNone_l, isNone_i, isNone_s, isMo, mob, pkm, gModI, gDivI, gSubI, gMulI, gPowI, gGt, gLt, gLe, gGe, vNotT, vAndT, vOrT, vAndV, vOrV, opNot, opNotG, vIfE, opTup, opLst, opLstO, Vl.opLen, Vl.opInt, opList, opListO, opTuple, opII, gMax, gMin, vM, vM0, isT, xPop, Vl.opAppend, opExtend, opJoin, vgName, vgTup, vgCons, vgNil, kOpt_some, kOpn_some, kOps_some, Vl.opSum, Vl.opInsert, Vl.opIndex, opDivmod, vSl, vPart, vNoPart, opSl, opSlO, opRev, opCallK, ownD, ownO, objs, renum, uniq, getS, putS, vCall0, vFor, vForW, En.wk, vSeqI, vTupI, vRng1, vRng2, vEnum, vZip, chkOf, vLcK, vYes, finD, finO, En.wipe, wipeE, En.trim, trimS, dropNone, clr_n, clr_v, clr_k, clr_o, wth, Vl.ret, takeS, startV,  List.map_cons, List.map_nil, List.length_cons, List.length_nil, List.cons_append, List.nil_append, List.replicate, List.getElem?_cons_succ, List.getElem?_cons_zero, List.getElem?_nil, List.set_cons_succ, List.set_cons_zero, List.set_nil, List.all_nil, List.all_cons, Bool.true_and, Option.map_some, Option.map_none, if_true, if_false, decide_eq_true_eq, Bool.false_eq_true, List.take_succ_cons, List.take_zero, List.take_nil, List.drop_succ_cons, List.drop_zero, List.drop_nil, reduceIte, reduceCtorEq]
          have iff1 : (Kd.mk2 w x y).num ms < (Kd.mk2 w' x' y').num ms ↔ ((x.leaves : Int) < x'.leaves ∨ ((x.leaves : Int) = x'.leaves ∧ w = false ∧ w' = true)) := by
            rw [L]
            refine ⟨fun h => ?_, fun h => ?_⟩
            · rcases h with (h | h) | h
              · exact .inl (by omega)
              · exact .inr ⟨by omega, h.2⟩
              · exact absurd ⟨by omega, h.2.1⟩ he
            · rcases h with h | h
              · exact .inl (.inl (by omega))
              · exact .inl (.inr ⟨by omega, h.2⟩)
          rw [decide_eq_decide.mpr iff1] at k
          exact k
end Kf
namespace Kf
open PySem L2 Vl PySem.Spec PyProof.Rows
theorem r_counts2 {ss cs Kp} (h : pCounts ss cs Kp) : t_Lcountsv2 (dV cs.length Kp) ⟨startV 5 ss, cs.map some⟩ := r_counts h
def pEdge : VSp := fun ss st Kp => ∃ (b n : Nat) (c i : Int), ss = [.val (.list ((cat b 9).map .int)), .val (.int (n : Nat)), .obj 0] ∧ st = [.l [.int c, .int i]] ∧ b ≤ 4 ∧ 1 ≤ n ∧ n ≤ 10 ∧ PoolK i ∧ ∀ (r c' i' : Int), PoolK i' → Kp (.val (.int r)) [.l [.int c', .int i']]
theorem r_edge {ss cs Kp} (h : pEdge ss cs Kp) : t_Ledge pTake (dV cs.length Kp) ⟨startV 5 ss, cs.map some⟩ := by
  obtain ⟨b, n, c, i, rfl, rfl, hb, n1, n2, pn, k⟩ := h
  simp only [t_Ledge, t_Ledge_4, flatD, List.any_cons, List.any_nil, eqv_str, eqv_int, eqv_ti, eqv_it, eqv_st, eqv_ts, cut1, Bool.or_false, Bool.or_true, Bool.and_self, Bool.and_true, Bool.and_false, Bool.false_or, Bool.true_or, and_self, ofs_inj, ofs_app, ofs_len, String.reduceEq, String.reduceNe, String.reduceAppend, decide_true, decide_false, Bool.not_true, Bool.not_false, sz0, sz1, sz2, sz3, sz4, sz5, sz6, sz7, sz8, sz9, sz10, sz11, sz12, sz13, sz14, sz15, sz16, sz17, sz18, sz19, sz20, sz21, sz22, sz23, sz24, sz25, cpow1018, true_and, and_true, Nat.reduceAdd, Nat.reduceLT, Nat.reduceSub, Int.reduceNe, Int.reduceEq, Int.reduceLT, Int.reduceLE, Int.reduceToNat, ne_eq, not_false_eq_true, List.length_map, Nat.lt_irrefl, dV_nx, dV_rt, at0, at1, at2, at3, ix20, ix21, vSeq, vIfS, vTest, vTruth, truth, v2, v1, vN, vCons, vNil, vStar, vVar, vC, xIx, Vl.opI0, Vl.opI, pk, vSet, vAug, vAsg, xgSub, vRet, vRetN, vNext_mk, vDrop, vBreak, vCont, asD, asDs, opMod, opDiv, opMul2, Vl.opAdd, Vl.opAddO, opSub, opPow, opLt, Vl.opLe, opGt, Vl.opGe, xEq, okEq_str, okEq_int, xIn, okIn, inD, xIsN, isNone_n, isNone_t, isNone_l, isNone_i, isNone_s, isMo, mob, pkm, gModI, gDivI, gSubI, gMulI, gPowI, gGt, gLt, gLe, gGe, vNotT, vAndT, vOrT, vAndV, vOrV, opNot, opNotG, vIfE, opTup, opLst, opLstO, Vl.opLen, Vl.opInt, opList, opListO, opTuple, opII, gMax, gMin, vM, vM0, isT, xPop, Vl.opAppend, opExtend, opJoin, vgName, vgTup, vgCons, vgNil, kOpt_some, kOpn_some, kOps_some, Vl.opSum, Vl.opInsert, Vl.opIndex, opDivmod, vSl, vPart, vNoPart, opSl, opSlO, opRev, opCallK, ownD, ownO, objs, renum, uniq, getS, putS, vCall0, vFor, vForW, En.wk, vSeqI, vTupI, vRng1, vRng2, vEnum, vZip, chkOf, vLcK, vYes, finD, finO, En.wipe, wipeE, En.trim, trimS, dropNone, clr_n, clr_v, clr_k, clr_o, wth, Vl.ret, takeS, startV,  List.map_cons, List.map_nil, List.length_cons, List.length_nil, List.cons_append, List.nil_append, List.replicate, List.getElem?_cons_succ, List.getElem?_cons_zero, List.getElem?_nil, List.set_cons_succ, List.set_cons_zero, List.set_nil, List.all_nil, List.all_cons, Bool.true_and, Option.map_some, Option.map_none, if_true, if_false, decide_eq_true_eq, Bool.false_eq_true, List.take_succ_cons, List.take_zero, List.take_nil, List.drop_succ_cons, List.drop_zero, List.drop_nil, reduceIte, reduceCtorEq]
  simp only [t_Ledge_3, pTake, flatD, List.any_cons, List.any_nil, eqv_str, eqv_int, eqv_ti, eqv_it, eqv_st, eqv_ts, cut1, Bool.or_false, Bool.or_true, Bool.and_self, Bool.and_true, Bool.and_false, Bool.false_or, Bool.true_or, and_self, ofs_inj, ofs_app, ofs_len, String.reduceEq, String.reduceNe, String.reduceAppend, decide_true, decide_false, Bool.not_true, Bool.not_false, sz0, sz1, sz2, sz3, sz4, sz5, sz6, sz7, sz8, sz9, sz10, sz11, sz12, sz13, sz14, sz15, sz16, sz17, sz18, sz19, sz20, sz21, sz22, sz23, sz24, sz25, cpow1018, true_and, and_true, Nat.reduceAdd, Nat.reduceLT, Nat.reduceSub, Int.reduceNe, Int.reduceEq, Int.reduceLT, Int.reduceLE, Int.reduceToNat, ne_eq, not_false_eq_true, List.length_map, Nat.lt_irrefl, dV_nx, dV_rt, at0, at1, at2, at3, ix20, ix21, vSeq, vIfS, vTest, vTruth, truth, v2, v1, vN, vCons, vNil, vStar, vVar, vC, xIx, Vl.opI0, Vl.opI, pk, vSet, vAug, vAsg, xgSub, vRet, vRetN, vNext_mk, vDrop, vBreak, vCont, asD, asDs, opMod, opDiv, opMul2, Vl.opAdd, Vl.opAddO, opSub, opPow, opLt, Vl.opLe, opGt, Vl.opGe, xEq, okEq_str, okEq_int, xIn, okIn, inD, xIsN, isNone_n, isNone_t, isNone_l, isNone_i, isNone_s, isMo, mob, pkm, gModI, gDivI, gSubI, gMulI, gPowI, gGt, gLt, gLe, gGe, vNotT, vAndT, vOrT, vAndV, vOrV, opNot, opNotG, vIfE, opTup, opLst, opLstO, Vl.opLen, Vl.opInt, opList, opListO, opTuple, opII, gMax, gMin, vM, vM0, isT, xPop, Vl.opAppend, opExtend, opJoin, vgName, vgTup, vgCons, vgNil, kOpt_some, kOpn_some, kOps_some, Vl.opSum, Vl.opInsert, Vl.opIndex, opDivmod, vSl, vPart, vNoPart, opSl, opSlO, opRev, opCallK, ownD, ownO, objs, renum, uniq, getS, putS, vCall0, vFor, vForW, En.wk, vSeqI, vTupI, vRng1, vRng2, vEnum, vZip, chkOf, vLcK, vYes, finD, finO, En.wipe, wipeE, En.trim, trimS, dropNone, clr_n, clr_v, clr_k, clr_o, wth, Vl.ret, takeS, startV,  List.map_cons, List.map_nil, List.length_cons, List.length_nil, List.cons_append, List.nil_append, List.replicate, List.getElem?_cons_succ, List.getElem?_cons_zero, List.getElem?_nil, List.set_cons_succ, List.set_cons_zero, List.set_nil, List.all_nil, List.all_cons, Bool.true_and, Option.map_some, Option.map_none, if_true, if_false, decide_eq_true_eq, Bool.false_eq_true, List.take_succ_cons, List.take_zero, List.take_nil, List.drop_succ_cons, List.drop_zero, List.drop_nil, reduceIte, reduceCtorEq]
  refine ⟨pn, by omega, by omega, fun r c1 i1 r0 r1 pn1 => ?_⟩
  refine ⟨by omega, ?_⟩
  rw [rng_eq]
  refine fl_invW (chk := none) (fun (a : Nat) => PyData.int (1 + (a : Nat))) _ (fun zs e => ∃ T : Int, e = ⟨[some (.val (.list ((cat b 9).map .int))), some (.val (.int (n : Nat))), some (.obj 0), some (.val (.int T)), none], [some (.l [.int c1, .int i1])]⟩) (fun _ _ _ => trivial) ?_ ?_ ⟨0, rfl⟩
  · rintro us a vs e Ny hus ⟨T, rfl⟩ hk
    have ha : a < n - 1 := by
      have : a ∈ List.range ((1 : Int) + r - 1).toNat := by rw [hus]; simp
      have := List.mem_range.mp this
      omega
    have a1 : atI ((cat b 9).map PyData.int) (1 + (a : Nat)) = some (.int (nth (cat b 9) (a + 1))) := by
      rw [show (1 + (a : Nat) : Int) = ((a + 1 : Nat) : Int) from by omega]
      exact at_nth (by rw [cat_len]; omega)
    have a2 : atI ((cat b 9).map PyData.int) ((n : Nat) - (1 + (a : Nat))) = some (.int (nth (cat b 9) (n - (a + 1)))) := by
      rw [show ((n : Nat) - (1 + (a : Nat)) : Int) = ((n - (a + 1) : Nat) : Int) from by omega]
      exact at_nth (by rw [cat_len]; omega)
    have b1 := cat_bound (b := (b : Nat)) (by omega) (by omega) (n := 9) (by omega) (a + 1)
    have b2 := cat_bound (b := (b : Nat)) (by omega) (by omega) (n := 9) (by omega) (n - (a + 1))
    simp only [t_Ledge_1, a1, a2, flatD, List.any_cons, List.any_nil, eqv_str, eqv_int, eqv_ti, eqv_it, eqv_st, eqv_ts, cut1, Bool.or_false, Bool.or_true, Bool.and_self, Bool.and_true, Bool.and_false, Bool.false_or, Bool.true_or, and_self, ofs_inj, ofs_app, ofs_len, String.reduceEq, String.reduceNe, String.reduceAppend, decide_true, decide_false, Bool.not_true, Bool.not_false, sz0, sz1, sz2, sz3, sz4, sz5, sz6, sz7, sz8, sz9, sz10, sz11, sz12, sz13, sz14, sz15, sz16, sz17, sz18, sz19, sz20, sz21, sz22, sz23, sz24, sz25, cpow1018, true_and, and_true, Nat.reduceAdd, Nat.reduceLT, Nat.reduceSub, Int.reduceNe, Int.reduceEq, Int.reduceLT, Int.reduceLE, Int.reduceToNat, ne_eq, not_false_eq_true, List.length_map, Nat.lt_irrefl, dV_nx, dV_rt, at0, at1, at2, at3, ix20, ix21, vSeq, vIfS, vTest, vTruth, truth, v2, v1, vN, vCons, vNil, vStar, vVar, vC, xIx, Vl.opI0, Vl.opI, pk, vSet, vAug, vAsg, xgSub, vRet, vRetN, vNext_mk, vDrop, vBreak, vCont, asD, asDs, opMod, opDiv, opMul2, Vl.opAdd, Vl.opAddO, opSub, opPow, opLt, Vl.opLe, opGt, Vl.opGe, xEq, okEq_str, okEq_int, xIn, okIn, inD, xIsN, isNone_n, isNone_t, isNone_l, isNone_i, isNone_s, isMo, mob, pkm, gModI, gDivI, gSubI, gMulI, gPowI, gGt, gLt, gLe, gGe, vNotT, vAndT, vOrT, vAndV, vOrV, opNot, opNotG, vIfE, opTup, opLst, opLstO, Vl.opLen, Vl.opInt, opList, opListO, opTuple, opII, gMax, gMin, vM, vM0, isT, xPop, Vl.opAppend, opExtend, opJoin, vgName, vgTup, vgCons, vgNil, kOpt_some, kOpn_some, kOps_some, Vl.opSum, Vl.opInsert, Vl.opIndex, opDivmod, vSl, vPart, vNoPart, opSl, opSlO, opRev, opCallK, ownD, ownO, objs, renum, uniq, getS, putS, vCall0, vFor, vForW, En.wk, vSeqI, vTupI, vRng1, vRng2, vEnum, vZip, chkOf, vLcK, vYes, finD, finO, En.wipe, wipeE, En.trim, trimS, dropNone, clr_n, clr_v, clr_k, clr_o, wth, Vl.ret, takeS, startV,  List.map_cons, List.map_nil, List.length_cons, List.length_nil, List.cons_append, List.nil_append, List.replicate, List.getElem?_cons_succ, List.getElem?_cons_zero, List.getElem?_nil, List.set_cons_succ, List.set_cons_zero, List.set_nil, List.all_nil, List.all_cons, Bool.true_and, Option.map_some, Option.map_none, if_true, if_false, decide_eq_true_eq, Bool.false_eq_true, List.take_succ_cons, List.take_zero, List.take_nil, List.drop_succ_cons, List.drop_zero, List.drop_nil, reduceIte, reduceCtorEq]
    exact ⟨by unfold CMul; omega, by unfold CMul; omega, hk _ 1 [4] (Nat.le_refl _) ⟨_, rfl⟩⟩
  · rintro e ⟨T, rfl⟩
    simp only [t_Ledge_2, flatD, List.any_cons, List.any_nil, eqv_str, eqv_int, eqv_ti, eqv_it, eqv_st, eqv_ts, cut1, Bool.or_false, Bool.or_true, Bool.and_self, Bool.and_true, Bool.and_false, Bool.false_or, Bool.true_or, and_self, ofs_inj, ofs_app, ofs_len, String.reduceEq, String.reduceNe, String.reduceAppend, decide_true, decide_false, Bool.not_true, Bool.not_false, sz0, sz1, sz2, sz3, sz4, sz5, sz6, sz7, sz8, sz9, sz10, sz11, sz12, sz13, sz14, sz15, sz16, sz17, sz18, sz19, sz20, sz21, sz22, sz23, sz24, sz25, cpow1018, true_and, and_true, Nat.reduceAdd, Nat.reduceLT, Nat.reduceSub, Int.reduceNe, Int.reduceEq, Int.reduceLT, Int.reduceLE, Int.reduceToNat, ne_eq, not_false_eq_true, List.length_map, Nat.lt_irrefl, dV_nx, dV_rt, at0, at1, at2, at3, ix20, ix21, vSeq, vIfS, vTest, vTruth, truth, v2, v1, vN, vCons, vNil, vStar, vVar, vC, xIx, Vl.opI0, Vl.opI, pk, vSet, vAug, vAsg, xgSub, vRet, vRetN, vNext_mk, vDrop, vBreak, vCont, asD, asDs, opMod, opDiv, opMul2, Vl.opAdd, Vl.opAddO, opSub, opPow, opLt, Vl.opLe, opGt, Vl.opGe, xEq, okEq_str, okEq_int, xIn, okIn, inD, xIsN, isNone_n, isNone_t, isNone_l, isNone_i, isNone_s, isMo, mob, pkm, gModI, gDivI, gSubI, gMulI, gPowI, gGt, gLt, gLe, gGe, vNotT, vAndT, vOrT, vAndV, vOrV, opNot, opNotG, vIfE, opTup, opLst, opLstO, Vl.opLen, Vl.opInt, opList, opListO, opTuple, opII, gMax, gMin, vM, vM0, isT, xPop, Vl.opAppend, opExtend, opJoin, vgName, vgTup, vgCons, vgNil, kOpt_some, kOpn_some, kOps_some, Vl.opSum, Vl.opInsert, Vl.opIndex, opDivmod, vSl, vPart, vNoPart, opSl, opSlO, opRev, opCallK, ownD, ownO, objs, renum, uniq, getS, putS, vCall0, vFor, vForW, En.wk, vSeqI, vTupI, vRng1, vRng2, vEnum, vZip, chkOf, vLcK, vYes, finD, finO, En.wipe, wipeE, En.trim, trimS, dropNone, clr_n, clr_v, clr_k, clr_o, wth, Vl.ret, takeS, startV,  List.map_cons, List.map_nil, List.length_cons, List.length_nil, List.cons_append, List.nil_append, List.replicate, List.getElem?_cons_succ, List.getElem?_cons_zero, List.getElem?_nil, List.set_cons_succ, List.set_cons_zero, List.set_nil, List.all_nil, List.all_cons, Bool.true_and, Option.map_some, Option.map_none, if_true, if_false, decide_eq_true_eq, Bool.false_eq_true, List.take_succ_cons, List.take_zero, List.take_nil, List.drop_succ_cons, List.drop_zero, List.drop_nil, reduceIte, reduceCtorEq]
    exact k T c1 i1 pn1
theorem eqv_bb (b : Bool) : PyData.eqv (.bool b) (.bool b) = true := by cases b <;> decide +kernel
theorem shp_b (b : Bool) : Vl.shp (.bool b) = true := by cases b <;> decide +kernel
theorem r_lawk72 {ss cs Kp} (h : pLaw ss cs Kp) : t_lawk72 pPool pUnlike pMarks pTake pKindsMany pEdge pCounts pKindAt (pAhead 10) (dV cs.length Kp) ⟨startV 13 ss, cs.map some⟩ := by
  obtain ⟨ns, rfl, rfl, hl, k⟩ := h
  simp only [t_lawk72, t_lawk72_14, flatD, List.any_cons, List.any_nil, eqv_str, eqv_int, eqv_ti, eqv_it, eqv_st, eqv_ts, cut1, Bool.or_false, Bool.or_true, Bool.and_self, Bool.and_true, Bool.and_false, Bool.false_or, Bool.true_or, and_self, ofs_inj, ofs_app, ofs_len, String.reduceEq, String.reduceNe, String.reduceAppend, decide_true, decide_false, Bool.not_true, Bool.not_false, sz0, sz1, sz2, sz3, sz4, sz5, sz6, sz7, sz8, sz9, sz10, sz11, sz12, sz13, sz14, sz15, sz16, sz17, sz18, sz19, sz20, sz21, sz22, sz23, sz24, sz25, cpow1018, true_and, and_true, Nat.reduceAdd, Nat.reduceLT, Nat.reduceSub, Int.reduceNe, Int.reduceEq, Int.reduceLT, Int.reduceLE, Int.reduceToNat, ne_eq, not_false_eq_true, List.length_map, Nat.lt_irrefl, dV_nx, dV_rt, at0, at1, at2, at3, ix20, ix21, vSeq, vIfS, vTest, vTruth, truth, v2, v1, vN, vCons, vNil, vStar, vVar, vC, xIx, Vl.opI0, Vl.opI, pk, vSet, vAug, vAsg, xgSub, vRet, vRetN, vNext_mk, vDrop, vBreak, vCont, asD, asDs, opMod, opDiv, opMul2, Vl.opAdd, Vl.opAddO, opSub, opPow, opLt, Vl.opLe, opGt, Vl.opGe, xEq, okEq_str, okEq_int, xIn, okIn, inD, xIsN, isNone_n, isNone_t, isNone_l, isNone_i, isNone_s, isMo, mob, pkm, gModI, gDivI, gSubI, gMulI, gPowI, gGt, gLt, gLe, gGe, vNotT, vAndT, vOrT, vAndV, vOrV, opNot, opNotG, vIfE, opTup, opLst, opLstO, Vl.opLen, Vl.opInt, opList, opListO, opTuple, opII, gMax, gMin, vM, vM0, isT, xPop, Vl.opAppend, opExtend, opJoin, vgName, vgTup, vgCons, vgNil, kOpt_some, kOpn_some, kOps_some, Vl.opSum, Vl.opInsert, Vl.opIndex, opDivmod, vSl, vPart, vNoPart, opSl, opSlO, opRev, opCallK, ownD, ownO, objs, renum, uniq, getS, putS, vCall0, vFor, vForW, En.wk, vSeqI, vTupI, vRng1, vRng2, vEnum, vZip, chkOf, vLcK, vYes, finD, finO, En.wipe, wipeE, En.trim, trimS, dropNone, clr_n, clr_v, clr_k, clr_o, wth, Vl.ret, takeS, startV,  List.map_cons, List.map_nil, List.length_cons, List.length_nil, List.cons_append, List.nil_append, List.replicate, List.getElem?_cons_succ, List.getElem?_cons_zero, List.getElem?_nil, List.set_cons_succ, List.set_cons_zero, List.set_nil, List.all_nil, List.all_cons, Bool.true_and, Option.map_some, Option.map_none, if_true, if_false, decide_eq_true_eq, Bool.false_eq_true, List.take_succ_cons, List.take_zero, List.take_nil, List.drop_succ_cons, List.drop_zero, List.drop_nil, reduceIte, reduceCtorEq]
  generalize hN : (if (if (12 : Int) < (ns.length : Nat) then (12 : Int) else (ns.length : Nat)) > 1 then (if (12 : Int) < (ns.length : Nat) then (12 : Int) else (ns.length : Nat)) else 1) = N
  have hN1 : 0 ≤ N ∧ N ≤ 12 := by
    rw [← hN]
    split <;> split <;> omega
  refine ⟨by omega, by omega, ?_⟩
  rw [rng_eq]
  refine fl_invW (chk := none) (fun (i : Nat) => PyData.int (0 + (i : Nat))) _ (fun ys e => e = ⟨[some (.kn (ns.map .int)), none, none, none, none, none, none, none, none, none, none, none, none], []⟩) (fun _ _ _ => trivial) ?_ ?_ rfl
  · rintro ys i zs e Nx hys rfl hk
    have hi : i < N.toNat := List.mem_range.mp (by rw [hys]; simp)
    simp only [t_lawk72_12, pPool, flatD, List.any_cons, List.any_nil, eqv_str, eqv_int, eqv_ti, eqv_it, eqv_st, eqv_ts, cut1, Bool.or_false, Bool.or_true, Bool.and_self, Bool.and_true, Bool.and_false, Bool.false_or, Bool.true_or, and_self, ofs_inj, ofs_app, ofs_len, String.reduceEq, String.reduceNe, String.reduceAppend, decide_true, decide_false, Bool.not_true, Bool.not_false, sz0, sz1, sz2, sz3, sz4, sz5, sz6, sz7, sz8, sz9, sz10, sz11, sz12, sz13, sz14, sz15, sz16, sz17, sz18, sz19, sz20, sz21, sz22, sz23, sz24, sz25, cpow1018, true_and, and_true, Nat.reduceAdd, Nat.reduceLT, Nat.reduceSub, Int.reduceNe, Int.reduceEq, Int.reduceLT, Int.reduceLE, Int.reduceToNat, ne_eq, not_false_eq_true, List.length_map, Nat.lt_irrefl, dV_nx, dV_rt, at0, at1, at2, at3, ix20, ix21, vSeq, vIfS, vTest, vTruth, truth, v2, v1, vN, vCons, vNil, vStar, vVar, vC, xIx, Vl.opI0, Vl.opI, pk, vSet, vAug, vAsg, xgSub, vRet, vRetN, vNext_mk, vDrop, vBreak, vCont, asD, asDs, opMod, opDiv, opMul2, Vl.opAdd, Vl.opAddO, opSub, opPow, opLt, Vl.opLe, opGt, Vl.opGe, xEq, okEq_str, okEq_int, xIn, okIn, inD, xIsN, isNone_n, isNone_t, isNone_l, isNone_i, isNone_s, isMo, mob, pkm, gModI, gDivI, gSubI, gMulI, gPowI, gGt, gLt, gLe, gGe, vNotT, vAndT, vOrT, vAndV, vOrV, opNot, opNotG, vIfE, opTup, opLst, opLstO, Vl.opLen, Vl.opInt, opList, opListO, opTuple, opII, gMax, gMin, vM, vM0, isT, xPop, Vl.opAppend, opExtend, opJoin, vgName, vgTup, vgCons, vgNil, kOpt_some, kOpn_some, kOps_some, Vl.opSum, Vl.opInsert, Vl.opIndex, opDivmod, vSl, vPart, vNoPart, opSl, opSlO, opRev, opCallK, ownD, ownO, objs, renum, uniq, getS, putS, vCall0, vFor, vForW, En.wk, vSeqI, vTupI, vRng1, vRng2, vEnum, vZip, chkOf, vLcK, vYes, finD, finO, En.wipe, wipeE, En.trim, trimS, dropNone, clr_n, clr_v, clr_k, clr_o, wth, Vl.ret, takeS, startV,  List.map_cons, List.map_nil, List.length_cons, List.length_nil, List.cons_append, List.nil_append, List.replicate, List.getElem?_cons_succ, List.getElem?_cons_zero, List.getElem?_nil, List.set_cons_succ, List.set_cons_zero, List.set_nil, List.all_nil, List.all_cons, Bool.true_and, Option.map_some, Option.map_none, if_true, if_false, decide_eq_true_eq, Bool.false_eq_true, List.take_succ_cons, List.take_zero, List.take_nil, List.drop_succ_cons, List.drop_zero, List.drop_nil, reduceIte, reduceCtorEq]
    refine ⟨ns, i, by rw [Int.zero_add], hl, by omega, fun c n pn => ?_⟩
    simp only [t_lawk72_11, pMarks, flatD, List.any_cons, List.any_nil, eqv_str, eqv_int, eqv_ti, eqv_it, eqv_st, eqv_ts, cut1, Bool.or_false, Bool.or_true, Bool.and_self, Bool.and_true, Bool.and_false, Bool.false_or, Bool.true_or, and_self, ofs_inj, ofs_app, ofs_len, String.reduceEq, String.reduceNe, String.reduceAppend, decide_true, decide_false, Bool.not_true, Bool.not_false, sz0, sz1, sz2, sz3, sz4, sz5, sz6, sz7, sz8, sz9, sz10, sz11, sz12, sz13, sz14, sz15, sz16, sz17, sz18, sz19, sz20, sz21, sz22, sz23, sz24, sz25, cpow1018, true_and, and_true, Nat.reduceAdd, Nat.reduceLT, Nat.reduceSub, Int.reduceNe, Int.reduceEq, Int.reduceLT, Int.reduceLE, Int.reduceToNat, ne_eq, not_false_eq_true, List.length_map, Nat.lt_irrefl, dV_nx, dV_rt, at0, at1, at2, at3, ix20, ix21, vSeq, vIfS, vTest, vTruth, truth, v2, v1, vN, vCons, vNil, vStar, vVar, vC, xIx, Vl.opI0, Vl.opI, pk, vSet, vAug, vAsg, xgSub, vRet, vRetN, vNext_mk, vDrop, vBreak, vCont, asD, asDs, opMod, opDiv, opMul2, Vl.opAdd, Vl.opAddO, opSub, opPow, opLt, Vl.opLe, opGt, Vl.opGe, xEq, okEq_str, okEq_int, xIn, okIn, inD, xIsN, isNone_n, isNone_t, isNone_l, isNone_i, isNone_s, isMo, mob, pkm, gModI, gDivI, gSubI, gMulI, gPowI, gGt, gLt, gLe, gGe, vNotT, vAndT, vOrT, vAndV, vOrV, opNot, opNotG, vIfE, opTup, opLst, opLstO, Vl.opLen, Vl.opInt, opList, opListO, opTuple, opII, gMax, gMin, vM, vM0, isT, xPop, Vl.opAppend, opExtend, opJoin, vgName, vgTup, vgCons, vgNil, kOpt_some, kOpn_some, kOps_some, Vl.opSum, Vl.opInsert, Vl.opIndex, opDivmod, vSl, vPart, vNoPart, opSl, opSlO, opRev, opCallK, ownD, ownO, objs, renum, uniq, getS, putS, vCall0, vFor, vForW, En.wk, vSeqI, vTupI, vRng1, vRng2, vEnum, vZip, chkOf, vLcK, vYes, finD, finO, En.wipe, wipeE, En.trim, trimS, dropNone, clr_n, clr_v, clr_k, clr_o, wth, Vl.ret, takeS, startV,  List.map_cons, List.map_nil, List.length_cons, List.length_nil, List.cons_append, List.nil_append, List.replicate, List.getElem?_cons_succ, List.getElem?_cons_zero, List.getElem?_nil, List.set_cons_succ, List.set_cons_zero, List.set_nil, List.all_nil, List.all_cons, Bool.true_and, Option.map_some, Option.map_none, if_true, if_false, decide_eq_true_eq, Bool.false_eq_true, List.take_succ_cons, List.take_zero, List.take_nil, List.drop_succ_cons, List.drop_zero, List.drop_nil, reduceIte, reduceCtorEq]
    refine ⟨c, n, rfl, pn, fun ms c1 n1 hm pn1 => ?_⟩
    simp only [pUnlike, flatD, List.any_cons, List.any_nil, eqv_str, eqv_int, eqv_ti, eqv_it, eqv_st, eqv_ts, cut1, Bool.or_false, Bool.or_true, Bool.and_self, Bool.and_true, Bool.and_false, Bool.false_or, Bool.true_or, and_self, ofs_inj, ofs_app, ofs_len, String.reduceEq, String.reduceNe, String.reduceAppend, decide_true, decide_false, Bool.not_true, Bool.not_false, sz0, sz1, sz2, sz3, sz4, sz5, sz6, sz7, sz8, sz9, sz10, sz11, sz12, sz13, sz14, sz15, sz16, sz17, sz18, sz19, sz20, sz21, sz22, sz23, sz24, sz25, cpow1018, true_and, and_true, Nat.reduceAdd, Nat.reduceLT, Nat.reduceSub, Int.reduceNe, Int.reduceEq, Int.reduceLT, Int.reduceLE, Int.reduceToNat, ne_eq, not_false_eq_true, List.length_map, Nat.lt_irrefl, dV_nx, dV_rt, at0, at1, at2, at3, ix20, ix21, vSeq, vIfS, vTest, vTruth, truth, v2, v1, vN, vCons, vNil, vStar, vVar, vC, xIx, Vl.opI0, Vl.opI, pk, vSet, vAug, vAsg, xgSub, vRet, vRetN, vNext_mk, vDrop, vBreak, vCont, asD, asDs, opMod, opDiv, opMul2, Vl.opAdd, Vl.opAddO, opSub, opPow, opLt, Vl.opLe, opGt, Vl.opGe, xEq, okEq_str, okEq_int, xIn, okIn, inD, xIsN, isNone_n, isNone_t, isNone_l, isNone_i, isNone_s, isMo, mob, pkm, gModI, gDivI, gSubI, gMulI, gPowI, gGt, gLt, gLe, gGe, vNotT, vAndT, vOrT, vAndV, vOrV, opNot, opNotG, vIfE, opTup, opLst, opLstO, Vl.opLen, Vl.opInt, opList, opListO, opTuple, opII, gMax, gMin, vM, vM0, isT, xPop, Vl.opAppend, opExtend, opJoin, vgName, vgTup, vgCons, vgNil, kOpt_some, kOpn_some, kOps_some, Vl.opSum, Vl.opInsert, Vl.opIndex, opDivmod, vSl, vPart, vNoPart, opSl, opSlO, opRev, opCallK, ownD, ownO, objs, renum, uniq, getS, putS, vCall0, vFor, vForW, En.wk, vSeqI, vTupI, vRng1, vRng2, vEnum, vZip, chkOf, vLcK, vYes, finD, finO, En.wipe, wipeE, En.trim, trimS, dropNone, clr_n, clr_v, clr_k, clr_o, wth, Vl.ret, takeS, startV,  List.map_cons, List.map_nil, List.length_cons, List.length_nil, List.cons_append, List.nil_append, List.replicate, List.getElem?_cons_succ, List.getElem?_cons_zero, List.getElem?_nil, List.set_cons_succ, List.set_cons_zero, List.set_nil, List.all_nil, List.all_cons, Bool.true_and, Option.map_some, Option.map_none, if_true, if_false, decide_eq_true_eq, Bool.false_eq_true, List.take_succ_cons, List.take_zero, List.take_nil, List.drop_succ_cons, List.drop_zero, List.drop_nil, reduceIte, reduceCtorEq]
    refine ⟨ms, c1, n1, rfl, rfl, pn1, by have := hm.hi; omega, fun os c2 n2 hp pn2 => ?_⟩
    have hol : os.length = ms.length := hp.length_eq
    have ol := hm.hi
    have hok : ∀ m ∈ os, PyData.strOk m = true := fun m h => (hm.all m (hp.subset h)).ok
    have hnd : os.Nodup := hp.nodup_iff.mpr hm.nd
    simp only [t_lawk72_10, pTake, flatD, List.any_cons, List.any_nil, eqv_str, eqv_int, eqv_ti, eqv_it, eqv_st, eqv_ts, cut1, Bool.or_false, Bool.or_true, Bool.and_self, Bool.and_true, Bool.and_false, Bool.false_or, Bool.true_or, and_self, ofs_inj, ofs_app, ofs_len, String.reduceEq, String.reduceNe, String.reduceAppend, decide_true, decide_false, Bool.not_true, Bool.not_false, sz0, sz1, sz2, sz3, sz4, sz5, sz6, sz7, sz8, sz9, sz10, sz11, sz12, sz13, sz14, sz15, sz16, sz17, sz18, sz19, sz20, sz21, sz22, sz23, sz24, sz25, cpow1018, true_and, and_true, Nat.reduceAdd, Nat.reduceLT, Nat.reduceSub, Int.reduceNe, Int.reduceEq, Int.reduceLT, Int.reduceLE, Int.reduceToNat, ne_eq, not_false_eq_true, List.length_map, Nat.lt_irrefl, dV_nx, dV_rt, at0, at1, at2, at3, ix20, ix21, vSeq, vIfS, vTest, vTruth, truth, v2, v1, vN, vCons, vNil, vStar, vVar, vC, xIx, Vl.opI0, Vl.opI, pk, vSet, vAug, vAsg, xgSub, vRet, vRetN, vNext_mk, vDrop, vBreak, vCont, asD, asDs, opMod, opDiv, opMul2, Vl.opAdd, Vl.opAddO, opSub, opPow, opLt, Vl.opLe, opGt, Vl.opGe, xEq, okEq_str, okEq_int, xIn, okIn, inD, xIsN, isNone_n, isNone_t, isNone_l, isNone_i, isNone_s, isMo, mob, pkm, gModI, gDivI, gSubI, gMulI, gPowI, gGt, gLt, gLe, gGe, vNotT, vAndT, vOrT, vAndV, vOrV, opNot, opNotG, vIfE, opTup, opLst, opLstO, Vl.opLen, Vl.opInt, opList, opListO, opTuple, opII, gMax, gMin, vM, vM0, isT, xPop, Vl.opAppend, opExtend, opJoin, vgName, vgTup, vgCons, vgNil, kOpt_some, kOpn_some, kOps_some, Vl.opSum, Vl.opInsert, Vl.opIndex, opDivmod, vSl, vPart, vNoPart, opSl, opSlO, opRev, opCallK, ownD, ownO, objs, renum, uniq, getS, putS, vCall0, vFor, vForW, En.wk, vSeqI, vTupI, vRng1, vRng2, vEnum, vZip, chkOf, vLcK, vYes, finD, finO, En.wipe, wipeE, En.trim, trimS, dropNone, clr_n, clr_v, clr_k, clr_o, wth, Vl.ret, takeS, startV,  List.map_cons, List.map_nil, List.length_cons, List.length_nil, List.cons_append, List.nil_append, List.replicate, List.getElem?_cons_succ, List.getElem?_cons_zero, List.getElem?_nil, List.set_cons_succ, List.set_cons_zero, List.set_nil, List.all_nil, List.all_cons, Bool.true_and, Option.map_some, Option.map_none, if_true, if_false, decide_eq_true_eq, Bool.false_eq_true, List.take_succ_cons, List.take_zero, List.take_nil, List.drop_succ_cons, List.drop_zero, List.drop_nil, reduceIte, reduceCtorEq]
    refine ⟨pn2, fun l c3 n3 l0 l1 pn3 => ?_⟩
    obtain ⟨lv, rfl⟩ : ∃ lv : Nat, l = lv := ⟨l.toNat, by omega⟩
    have el : (1 + (lv : Nat) : Int) = ((lv + 1 : Nat) : Int) := by omega
    have mb := many_bound (b := os.length) (n := lv + 1) (by omega) (by omega)
    have mp := many_pos os.length (lv + 1) (by omega)
    simp only [t_lawk72_9, pKindsMany, flatD, List.any_cons, List.any_nil, eqv_str, eqv_int, eqv_ti, eqv_it, eqv_st, eqv_ts, cut1, Bool.or_false, Bool.or_true, Bool.and_self, Bool.and_true, Bool.and_false, Bool.false_or, Bool.true_or, and_self, ofs_inj, ofs_app, ofs_len, String.reduceEq, String.reduceNe, String.reduceAppend, decide_true, decide_false, Bool.not_true, Bool.not_false, sz0, sz1, sz2, sz3, sz4, sz5, sz6, sz7, sz8, sz9, sz10, sz11, sz12, sz13, sz14, sz15, sz16, sz17, sz18, sz19, sz20, sz21, sz22, sz23, sz24, sz25, cpow1018, true_and, and_true, Nat.reduceAdd, Nat.reduceLT, Nat.reduceSub, Int.reduceNe, Int.reduceEq, Int.reduceLT, Int.reduceLE, Int.reduceToNat, ne_eq, not_false_eq_true, List.length_map, Nat.lt_irrefl, dV_nx, dV_rt, at0, at1, at2, at3, ix20, ix21, vSeq, vIfS, vTest, vTruth, truth, v2, v1, vN, vCons, vNil, vStar, vVar, vC, xIx, Vl.opI0, Vl.opI, pk, vSet, vAug, vAsg, xgSub, vRet, vRetN, vNext_mk, vDrop, vBreak, vCont, asD, asDs, opMod, opDiv, opMul2, Vl.opAdd, Vl.opAddO, opSub, opPow, opLt, Vl.opLe, opGt, Vl.opGe, xEq, okEq_str, okEq_int, xIn, okIn, inD, xIsN, isNone_n, isNone_t, isNone_l, isNone_i, isNone_s, isMo, mob, pkm, gModI, gDivI, gSubI, gMulI, gPowI, gGt, gLt, gLe, gGe, vNotT, vAndT, vOrT, vAndV, vOrV, opNot, opNotG, vIfE, opTup, opLst, opLstO, Vl.opLen, Vl.opInt, opList, opListO, opTuple, opII, gMax, gMin, vM, vM0, isT, xPop, Vl.opAppend, opExtend, opJoin, vgName, vgTup, vgCons, vgNil, kOpt_some, kOpn_some, kOps_some, Vl.opSum, Vl.opInsert, Vl.opIndex, opDivmod, vSl, vPart, vNoPart, opSl, opSlO, opRev, opCallK, ownD, ownO, objs, renum, uniq, getS, putS, vCall0, vFor, vForW, En.wk, vSeqI, vTupI, vRng1, vRng2, vEnum, vZip, chkOf, vLcK, vYes, finD, finO, En.wipe, wipeE, En.trim, trimS, dropNone, clr_n, clr_v, clr_k, clr_o, wth, Vl.ret, takeS, startV,  List.map_cons, List.map_nil, List.length_cons, List.length_nil, List.cons_append, List.nil_append, List.replicate, List.getElem?_cons_succ, List.getElem?_cons_zero, List.getElem?_nil, List.set_cons_succ, List.set_cons_zero, List.set_nil, List.all_nil, List.all_cons, Bool.true_and, Option.map_some, Option.map_none, if_true, if_false, decide_eq_true_eq, Bool.false_eq_true, List.take_succ_cons, List.take_zero, List.take_nil, List.drop_succ_cons, List.drop_zero, List.drop_nil, reduceIte, reduceCtorEq]
    refine ⟨os, lv + 1, by rw [el], by omega, by omega, by omega, ?_⟩
    simp only [t_lawk72_8, pTake, flatD, List.any_cons, List.any_nil, eqv_str, eqv_int, eqv_ti, eqv_it, eqv_st, eqv_ts, cut1, Bool.or_false, Bool.or_true, Bool.and_self, Bool.and_true, Bool.and_false, Bool.false_or, Bool.true_or, and_self, ofs_inj, ofs_app, ofs_len, String.reduceEq, String.reduceNe, String.reduceAppend, decide_true, decide_false, Bool.not_true, Bool.not_false, sz0, sz1, sz2, sz3, sz4, sz5, sz6, sz7, sz8, sz9, sz10, sz11, sz12, sz13, sz14, sz15, sz16, sz17, sz18, sz19, sz20, sz21, sz22, sz23, sz24, sz25, cpow1018, true_and, and_true, Nat.reduceAdd, Nat.reduceLT, Nat.reduceSub, Int.reduceNe, Int.reduceEq, Int.reduceLT, Int.reduceLE, Int.reduceToNat, ne_eq, not_false_eq_true, List.length_map, Nat.lt_irrefl, dV_nx, dV_rt, at0, at1, at2, at3, ix20, ix21, vSeq, vIfS, vTest, vTruth, truth, v2, v1, vN, vCons, vNil, vStar, vVar, vC, xIx, Vl.opI0, Vl.opI, pk, vSet, vAug, vAsg, xgSub, vRet, vRetN, vNext_mk, vDrop, vBreak, vCont, asD, asDs, opMod, opDiv, opMul2, Vl.opAdd, Vl.opAddO, opSub, opPow, opLt, Vl.opLe, opGt, Vl.opGe, xEq, okEq_str, okEq_int, xIn, okIn, inD, xIsN, isNone_n, isNone_t, isNone_l, isNone_i, isNone_s, isMo, mob, pkm, gModI, gDivI, gSubI, gMulI, gPowI, gGt, gLt, gLe, gGe, vNotT, vAndT, vOrT, vAndV, vOrV, opNot, opNotG, vIfE, opTup, opLst, opLstO, Vl.opLen, Vl.opInt, opList, opListO, opTuple, opII, gMax, gMin, vM, vM0, isT, xPop, Vl.opAppend, opExtend, opJoin, vgName, vgTup, vgCons, vgNil, kOpt_some, kOpn_some, kOps_some, Vl.opSum, Vl.opInsert, Vl.opIndex, opDivmod, vSl, vPart, vNoPart, opSl, opSlO, opRev, opCallK, ownD, ownO, objs, renum, uniq, getS, putS, vCall0, vFor, vForW, En.wk, vSeqI, vTupI, vRng1, vRng2, vEnum, vZip, chkOf, vLcK, vYes, finD, finO, En.wipe, wipeE, En.trim, trimS, dropNone, clr_n, clr_v, clr_k, clr_o, wth, Vl.ret, takeS, startV,  List.map_cons, List.map_nil, List.length_cons, List.length_nil, List.cons_append, List.nil_append, List.replicate, List.getElem?_cons_succ, List.getElem?_cons_zero, List.getElem?_nil, List.set_cons_succ, List.set_cons_zero, List.set_nil, List.all_nil, List.all_cons, Bool.true_and, Option.map_some, Option.map_none, if_true, if_false, decide_eq_true_eq, Bool.false_eq_true, List.take_succ_cons, List.take_zero, List.take_nil, List.drop_succ_cons, List.drop_zero, List.drop_nil, reduceIte, reduceCtorEq]
    generalize hM : many os.length (lv + 1) = M at *
    refine ⟨pn3, by omega, by omega, fun r c4 n4 r0 r1 pn4 => ?_⟩
    simp only [t_lawk72_7, pCounts, flatD, List.any_cons, List.any_nil, eqv_str, eqv_int, eqv_ti, eqv_it, eqv_st, eqv_ts, cut1, Bool.or_false, Bool.or_true, Bool.and_self, Bool.and_true, Bool.and_false, Bool.false_or, Bool.true_or, and_self, ofs_inj, ofs_app, ofs_len, String.reduceEq, String.reduceNe, String.reduceAppend, decide_true, decide_false, Bool.not_true, Bool.not_false, sz0, sz1, sz2, sz3, sz4, sz5, sz6, sz7, sz8, sz9, sz10, sz11, sz12, sz13, sz14, sz15, sz16, sz17, sz18, sz19, sz20, sz21, sz22, sz23, sz24, sz25, cpow1018, true_and, and_true, Nat.reduceAdd, Nat.reduceLT, Nat.reduceSub, Int.reduceNe, Int.reduceEq, Int.reduceLT, Int.reduceLE, Int.reduceToNat, ne_eq, not_false_eq_true, List.length_map, Nat.lt_irrefl, dV_nx, dV_rt, at0, at1, at2, at3, ix20, ix21, vSeq, vIfS, vTest, vTruth, truth, v2, v1, vN, vCons, vNil, vStar, vVar, vC, xIx, Vl.opI0, Vl.opI, pk, vSet, vAug, vAsg, xgSub, vRet, vRetN, vNext_mk, vDrop, vBreak, vCont, asD, asDs, opMod, opDiv, opMul2, Vl.opAdd, Vl.opAddO, opSub, opPow, opLt, Vl.opLe, opGt, Vl.opGe, xEq, okEq_str, okEq_int, xIn, okIn, inD, xIsN, isNone_n, isNone_t, isNone_l, isNone_i, isNone_s, isMo, mob, pkm, gModI, gDivI, gSubI, gMulI, gPowI, gGt, gLt, gLe, gGe, vNotT, vAndT, vOrT, vAndV, vOrV, opNot, opNotG, vIfE, opTup, opLst, opLstO, Vl.opLen, Vl.opInt, opList, opListO, opTuple, opII, gMax, gMin, vM, vM0, isT, xPop, Vl.opAppend, opExtend, opJoin, vgName, vgTup, vgCons, vgNil, kOpt_some, kOpn_some, kOps_some, Vl.opSum, Vl.opInsert, Vl.opIndex, opDivmod, vSl, vPart, vNoPart, opSl, opSlO, opRev, opCallK, ownD, ownO, objs, renum, uniq, getS, putS, vCall0, vFor, vForW, En.wk, vSeqI, vTupI, vRng1, vRng2, vEnum, vZip, chkOf, vLcK, vYes, finD, finO, En.wipe, wipeE, En.trim, trimS, dropNone, clr_n, clr_v, clr_k, clr_o, wth, Vl.ret, takeS, startV,  List.map_cons, List.map_nil, List.length_cons, List.length_nil, List.cons_append, List.nil_append, List.replicate, List.getElem?_cons_succ, List.getElem?_cons_zero, List.getElem?_nil, List.set_cons_succ, List.set_cons_zero, List.set_nil, List.all_nil, List.all_cons, Bool.true_and, Option.map_some, Option.map_none, if_true, if_false, decide_eq_true_eq, Bool.false_eq_true, List.take_succ_cons, List.take_zero, List.take_nil, List.drop_succ_cons, List.drop_zero, List.drop_nil, reduceIte, reduceCtorEq]
    refine ⟨os.length, rfl, by omega, ?_⟩
    simp only [pEdge, flatD, List.any_cons, List.any_nil, eqv_str, eqv_int, eqv_ti, eqv_it, eqv_st, eqv_ts, cut1, Bool.or_false, Bool.or_true, Bool.and_self, Bool.and_true, Bool.and_false, Bool.false_or, Bool.true_or, and_self, ofs_inj, ofs_app, ofs_len, String.reduceEq, String.reduceNe, String.reduceAppend, decide_true, decide_false, Bool.not_true, Bool.not_false, sz0, sz1, sz2, sz3, sz4, sz5, sz6, sz7, sz8, sz9, sz10, sz11, sz12, sz13, sz14, sz15, sz16, sz17, sz18, sz19, sz20, sz21, sz22, sz23, sz24, sz25, cpow1018, true_and, and_true, Nat.reduceAdd, Nat.reduceLT, Nat.reduceSub, Int.reduceNe, Int.reduceEq, Int.reduceLT, Int.reduceLE, Int.reduceToNat, ne_eq, not_false_eq_true, List.length_map, Nat.lt_irrefl, dV_nx, dV_rt, at0, at1, at2, at3, ix20, ix21, vSeq, vIfS, vTest, vTruth, truth, v2, v1, vN, vCons, vNil, vStar, vVar, vC, xIx, Vl.opI0, Vl.opI, pk, vSet, vAug, vAsg, xgSub, vRet, vRetN, vNext_mk, vDrop, vBreak, vCont, asD, asDs, opMod, opDiv, opMul2, Vl.opAdd, Vl.opAddO, opSub, opPow, opLt, Vl.opLe, opGt, Vl.opGe, xEq, okEq_str, okEq_int, xIn, okIn, inD, xIsN, isNone_n, isNone_t, isNone_l, isNone_i, isNone_s, isMo, mob, pkm, gModI, gDivI, gSubI, gMulI, gPowI, gGt, gLt, gLe, gGe, vNotT, vAndT, vOrT, vAndV, vOrV, opNot, opNotG, vIfE, opTup, opLst, opLstO, Vl.opLen, Vl.opInt, opList, opListO, opTuple, opII, gMax, gMin, vM, vM0, isT, xPop, Vl.opAppend, opExtend, opJoin, vgName, vgTup, vgCons, vgNil, kOpt_some, kOpn_some, kOps_some, Vl.opSum, Vl.opInsert, Vl.opIndex, opDivmod, vSl, vPart, vNoPart, opSl, opSlO, opRev, opCallK, ownD, ownO, objs, renum, uniq, getS, putS, vCall0, vFor, vForW, En.wk, vSeqI, vTupI, vRng1, vRng2, vEnum, vZip, chkOf, vLcK, vYes, finD, finO, En.wipe, wipeE, En.trim, trimS, dropNone, clr_n, clr_v, clr_k, clr_o, wth, Vl.ret, takeS, startV,  List.map_cons, List.map_nil, List.length_cons, List.length_nil, List.cons_append, List.nil_append, List.replicate, List.getElem?_cons_succ, List.getElem?_cons_zero, List.getElem?_nil, List.set_cons_succ, List.set_cons_zero, List.set_nil, List.all_nil, List.all_cons, Bool.true_and, Option.map_some, Option.map_none, if_true, if_false, decide_eq_true_eq, Bool.false_eq_true, List.take_succ_cons, List.take_zero, List.take_nil, List.drop_succ_cons, List.drop_zero, List.drop_nil, reduceIte, reduceCtorEq]
    refine ⟨os.length, lv + 1, c4, n4, by rw [el], rfl, by omega, by omega, by omega, pn4, fun E c5 n5 pn5 => ?_⟩
    simp only [t_lawk72_6, pTake, flatD, List.any_cons, List.any_nil, eqv_str, eqv_int, eqv_ti, eqv_it, eqv_st, eqv_ts, cut1, Bool.or_false, Bool.or_true, Bool.and_self, Bool.and_true, Bool.and_false, Bool.false_or, Bool.true_or, and_self, ofs_inj, ofs_app, ofs_len, String.reduceEq, String.reduceNe, String.reduceAppend, decide_true, decide_false, Bool.not_true, Bool.not_false, sz0, sz1, sz2, sz3, sz4, sz5, sz6, sz7, sz8, sz9, sz10, sz11, sz12, sz13, sz14, sz15, sz16, sz17, sz18, sz19, sz20, sz21, sz22, sz23, sz24, sz25, cpow1018, true_and, and_true, Nat.reduceAdd, Nat.reduceLT, Nat.reduceSub, Int.reduceNe, Int.reduceEq, Int.reduceLT, Int.reduceLE, Int.reduceToNat, ne_eq, not_false_eq_true, List.length_map, Nat.lt_irrefl, dV_nx, dV_rt, at0, at1, at2, at3, ix20, ix21, vSeq, vIfS, vTest, vTruth, truth, v2, v1, vN, vCons, vNil, vStar, vVar, vC, xIx, Vl.opI0, Vl.opI, pk, vSet, vAug, vAsg, xgSub, vRet, vRetN, vNext_mk, vDrop, vBreak, vCont, asD, asDs, opMod, opDiv, opMul2, Vl.opAdd, Vl.opAddO, opSub, opPow, opLt, Vl.opLe, opGt, Vl.opGe, xEq, okEq_str, okEq_int, xIn, okIn, inD, xIsN, isNone_n, isNone_t, isNone_l, isNone_i, isNone_s, isMo, mob, pkm, gModI, gDivI, gSubI, gMulI, gPowI, gGt, gLt, gLe, gGe, vNotT, vAndT, vOrT, vAndV, vOrV, opNot, opNotG, vIfE, opTup, opLst, opLstO, Vl.opLen, Vl.opInt, opList, opListO, opTuple, opII, gMax, gMin, vM, vM0, isT, xPop, Vl.opAppend, opExtend, opJoin, vgName, vgTup, vgCons, vgNil, kOpt_some, kOpn_some, kOps_some, Vl.opSum, Vl.opInsert, Vl.opIndex, opDivmod, vSl, vPart, vNoPart, opSl, opSlO, opRev, opCallK, ownD, ownO, objs, renum, uniq, getS, putS, vCall0, vFor, vForW, En.wk, vSeqI, vTupI, vRng1, vRng2, vEnum, vZip, chkOf, vLcK, vYes, finD, finO, En.wipe, wipeE, En.trim, trimS, dropNone, clr_n, clr_v, clr_k, clr_o, wth, Vl.ret, takeS, startV,  List.map_cons, List.map_nil, List.length_cons, List.length_nil, List.cons_append, List.nil_append, List.replicate, List.getElem?_cons_succ, List.getElem?_cons_zero, List.getElem?_nil, List.set_cons_succ, List.set_cons_zero, List.set_nil, List.all_nil, List.all_cons, Bool.true_and, Option.map_some, Option.map_none, if_true, if_false, decide_eq_true_eq, Bool.false_eq_true, List.take_succ_cons, List.take_zero, List.take_nil, List.drop_succ_cons, List.drop_zero, List.drop_nil, reduceIte, reduceCtorEq]
    refine ⟨pn5, by omega, by omega, fun r' c6 n6 r0' r1' pn6 => ?_⟩
    simp only [t_lawk72_5, flatD, List.any_cons, List.any_nil, eqv_str, eqv_int, eqv_ti, eqv_it, eqv_st, eqv_ts, cut1, Bool.or_false, Bool.or_true, Bool.and_self, Bool.and_true, Bool.and_false, Bool.false_or, Bool.true_or, and_self, ofs_inj, ofs_app, ofs_len, String.reduceEq, String.reduceNe, String.reduceAppend, decide_true, decide_false, Bool.not_true, Bool.not_false, sz0, sz1, sz2, sz3, sz4, sz5, sz6, sz7, sz8, sz9, sz10, sz11, sz12, sz13, sz14, sz15, sz16, sz17, sz18, sz19, sz20, sz21, sz22, sz23, sz24, sz25, cpow1018, true_and, and_true, Nat.reduceAdd, Nat.reduceLT, Nat.reduceSub, Int.reduceNe, Int.reduceEq, Int.reduceLT, Int.reduceLE, Int.reduceToNat, ne_eq, not_false_eq_true, List.length_map, Nat.lt_irrefl, dV_nx, dV_rt, at0, at1, at2, at3, ix20, ix21, vSeq, vIfS, vTest, vTruth, truth, v2, v1, vN, vCons, vNil, vStar, vVar, vC, xIx, Vl.opI0, Vl.opI, pk, vSet, vAug, vAsg, xgSub, vRet, vRetN, vNext_mk, vDrop, vBreak, vCont, asD, asDs, opMod, opDiv, opMul2, Vl.opAdd, Vl.opAddO, opSub, opPow, opLt, Vl.opLe, opGt, Vl.opGe, xEq, okEq_str, okEq_int, xIn, okIn, inD, xIsN, isNone_n, isNone_t, isNone_l, isNone_i, isNone_s, isMo, mob, pkm, gModI, gDivI, gSubI, gMulI, gPowI, gGt, gLt, gLe, gGe, vNotT, vAndT, vOrT, vAndV, vOrV, opNot, opNotG, vIfE, opTup, opLst, opLstO, Vl.opLen, Vl.opInt, opList, opListO, opTuple, opII, gMax, gMin, vM, vM0, isT, xPop, Vl.opAppend, opExtend, opJoin, vgName, vgTup, vgCons, vgNil, kOpt_some, kOpn_some, kOps_some, Vl.opSum, Vl.opInsert, Vl.opIndex, opDivmod, vSl, vPart, vNoPart, opSl, opSlO, opRev, opCallK, ownD, ownO, objs, renum, uniq, getS, putS, vCall0, vFor, vForW, En.wk, vSeqI, vTupI, vRng1, vRng2, vEnum, vZip, chkOf, vLcK, vYes, finD, finO, En.wipe, wipeE, En.trim, trimS, dropNone, clr_n, clr_v, clr_k, clr_o, wth, Vl.ret, takeS, startV,  List.map_cons, List.map_nil, List.length_cons, List.length_nil, List.cons_append, List.nil_append, List.replicate, List.getElem?_cons_succ, List.getElem?_cons_zero, List.getElem?_nil, List.set_cons_succ, List.set_cons_zero, List.set_nil, List.all_nil, List.all_cons, Bool.true_and, Option.map_some, Option.map_none, if_true, if_false, decide_eq_true_eq, Bool.false_eq_true, List.take_succ_cons, List.take_zero, List.take_nil, List.drop_succ_cons, List.drop_zero, List.drop_nil, reduceIte, reduceCtorEq]
    refine ⟨by omega, by omega, by omega, ?_⟩
    have q1 := nm_nat (x := r + 1) (m := M) (by omega)
    have q2 := nm_nat (x := E) (m := M) (by omega)
    have q3 := nm_nat (x := E + M - 1) (m := M) (by omega)
    show flW _ _ _ _ (([(r, r'), (r, (r + 1).fmod M), (E.fmod M, (E + M - 1).fmod M)] : List (Int × Int)).map fun p => PyData.tuple [.int p.1, .int p.2]) _ _
    refine fl_invW (chk := none) (fun p : Int × Int => PyData.tuple [.int p.1, .int p.2]) _ (fun ys e => e = ⟨[some (.kn (ns.map .int)), some (.val (.int (0 + (i : Nat)))), some (.obj 0), some (.val (.list (os.map .str))), some (.val (.int (1 + (lv : Nat)))), some (.val (.int M)), some (.val (.int r)), some (.val (.int E)), some (.val (.list [.tuple [.int r, .int r'], .tuple [.int r, .int ((r + 1).fmod M)]])), none, none, none, none], [some (.l [.int c6, .int n6])]⟩) (fun _ _ _ => trivial) ?_ ?_ rfl
    · rintro us p vs e Ny hus rfl hk2
      have hx : (0 ≤ p.1 ∧ p.1 < M) ∧ (0 ≤ p.2 ∧ p.2 < M) := by
        have : p ∈ ([(r, r'), (r, (r + 1).fmod M), (E.fmod M, (E + M - 1).fmod M)] : List (Int × Int)) := by rw [hus]; simp
        simp only [List.mem_cons, List.not_mem_nil, or_false] at this
        rcases this with rfl | rfl | rfl
        · exact ⟨⟨r0, r1⟩, ⟨r0', r1'⟩⟩
        · exact ⟨⟨r0, r1⟩, q1⟩
        · exact ⟨q2, q3⟩
      simp only [t_lawk72_4, pKindAt, flatD, List.any_cons, List.any_nil, eqv_str, eqv_int, eqv_ti, eqv_it, eqv_st, eqv_ts, cut1, Bool.or_false, Bool.or_true, Bool.and_self, Bool.and_true, Bool.and_false, Bool.false_or, Bool.true_or, and_self, ofs_inj, ofs_app, ofs_len, String.reduceEq, String.reduceNe, String.reduceAppend, decide_true, decide_false, Bool.not_true, Bool.not_false, sz0, sz1, sz2, sz3, sz4, sz5, sz6, sz7, sz8, sz9, sz10, sz11, sz12, sz13, sz14, sz15, sz16, sz17, sz18, sz19, sz20, sz21, sz22, sz23, sz24, sz25, cpow1018, true_and, and_true, Nat.reduceAdd, Nat.reduceLT, Nat.reduceSub, Int.reduceNe, Int.reduceEq, Int.reduceLT, Int.reduceLE, Int.reduceToNat, ne_eq, not_false_eq_true, List.length_map, Nat.lt_irrefl, dV_nx, dV_rt, at0, at1, at2, at3, ix20, ix21, vSeq, vIfS, vTest, vTruth, truth, v2, v1, vN, vCons, vNil, vStar, vVar, vC, xIx, Vl.opI0, Vl.opI, pk, vSet, vAug, vAsg, xgSub, vRet, vRetN, vNext_mk, vDrop, vBreak, vCont, asD, asDs, opMod, opDiv, opMul2, Vl.opAdd, Vl.opAddO, opSub, opPow, opLt, Vl.opLe, opGt, Vl.opGe, xEq, okEq_str, okEq_int, xIn, okIn, inD, xIsN, isNone_n, isNone_t, isNone_l, isNone_i, isNone_s, isMo, mob, pkm, gModI, gDivI, gSubI, gMulI, gPowI, gGt, gLt, gLe, gGe, vNotT, vAndT, vOrT, vAndV, vOrV, opNot, opNotG, vIfE, opTup, opLst, opLstO, Vl.opLen, Vl.opInt, opList, opListO, opTuple, opII, gMax, gMin, vM, vM0, isT, xPop, Vl.opAppend, opExtend, opJoin, vgName, vgTup, vgCons, vgNil, kOpt_some, kOpn_some, kOps_some, Vl.opSum, Vl.opInsert, Vl.opIndex, opDivmod, vSl, vPart, vNoPart, opSl, opSlO, opRev, opCallK, ownD, ownO, objs, renum, uniq, getS, putS, vCall0, vFor, vForW, En.wk, vSeqI, vTupI, vRng1, vRng2, vEnum, vZip, chkOf, vLcK, vYes, finD, finO, En.wipe, wipeE, En.trim, trimS, dropNone, clr_n, clr_v, clr_k, clr_o, wth, Vl.ret, takeS, startV,  List.map_cons, List.map_nil, List.length_cons, List.length_nil, List.cons_append, List.nil_append, List.replicate, List.getElem?_cons_succ, List.getElem?_cons_zero, List.getElem?_nil, List.set_cons_succ, List.set_cons_zero, List.set_nil, List.all_nil, List.all_cons, Bool.true_and, Option.map_some, Option.map_none, if_true, if_false, decide_eq_true_eq, Bool.false_eq_true, List.take_succ_cons, List.take_zero, List.take_nil, List.drop_succ_cons, List.drop_zero, List.drop_nil, reduceIte, reduceCtorEq]
      refine ⟨os, lv + 1, p.1, by rw [el], by omega, hnd, by omega, by omega, hx.1.1, by rw [hM]; exact hx.1.2, fun x ox lx nx => ?_⟩
      simp only [t_lawk72_3, pKindAt, flatD, List.any_cons, List.any_nil, eqv_str, eqv_int, eqv_ti, eqv_it, eqv_st, eqv_ts, cut1, Bool.or_false, Bool.or_true, Bool.and_self, Bool.and_true, Bool.and_false, Bool.false_or, Bool.true_or, and_self, ofs_inj, ofs_app, ofs_len, String.reduceEq, String.reduceNe, String.reduceAppend, decide_true, decide_false, Bool.not_true, Bool.not_false, sz0, sz1, sz2, sz3, sz4, sz5, sz6, sz7, sz8, sz9, sz10, sz11, sz12, sz13, sz14, sz15, sz16, sz17, sz18, sz19, sz20, sz21, sz22, sz23, sz24, sz25, cpow1018, true_and, and_true, Nat.reduceAdd, Nat.reduceLT, Nat.reduceSub, Int.reduceNe, Int.reduceEq, Int.reduceLT, Int.reduceLE, Int.reduceToNat, ne_eq, not_false_eq_true, List.length_map, Nat.lt_irrefl, dV_nx, dV_rt, at0, at1, at2, at3, ix20, ix21, vSeq, vIfS, vTest, vTruth, truth, v2, v1, vN, vCons, vNil, vStar, vVar, vC, xIx, Vl.opI0, Vl.opI, pk, vSet, vAug, vAsg, xgSub, vRet, vRetN, vNext_mk, vDrop, vBreak, vCont, asD, asDs, opMod, opDiv, opMul2, Vl.opAdd, Vl.opAddO, opSub, opPow, opLt, Vl.opLe, opGt, Vl.opGe, xEq, okEq_str, okEq_int, xIn, okIn, inD, xIsN, isNone_n, isNone_t, isNone_l, isNone_i, isNone_s, isMo, mob, pkm, gModI, gDivI, gSubI, gMulI, gPowI, gGt, gLt, gLe, gGe, vNotT, vAndT, vOrT, vAndV, vOrV, opNot, opNotG, vIfE, opTup, opLst, opLstO, Vl.opLen, Vl.opInt, opList, opListO, opTuple, opII, gMax, gMin, vM, vM0, isT, xPop, Vl.opAppend, opExtend, opJoin, vgName, vgTup, vgCons, vgNil, kOpt_some, kOpn_some, kOps_some, Vl.opSum, Vl.opInsert, Vl.opIndex, opDivmod, vSl, vPart, vNoPart, opSl, opSlO, opRev, opCallK, ownD, ownO, objs, renum, uniq, getS, putS, vCall0, vFor, vForW, En.wk, vSeqI, vTupI, vRng1, vRng2, vEnum, vZip, chkOf, vLcK, vYes, finD, finO, En.wipe, wipeE, En.trim, trimS, dropNone, clr_n, clr_v, clr_k, clr_o, wth, Vl.ret, takeS, startV,  List.map_cons, List.map_nil, List.length_cons, List.length_nil, List.cons_append, List.nil_append, List.replicate, List.getElem?_cons_succ, List.getElem?_cons_zero, List.getElem?_nil, List.set_cons_succ, List.set_cons_zero, List.set_nil, List.all_nil, List.all_cons, Bool.true_and, Option.map_some, Option.map_none, if_true, if_false, decide_eq_true_eq, Bool.false_eq_true, List.take_succ_cons, List.take_zero, List.take_nil, List.drop_succ_cons, List.drop_zero, List.drop_nil, reduceIte, reduceCtorEq]
      refine ⟨os, lv + 1, p.2, by rw [el], by omega, hnd, by omega, by omega, hx.2.1, by rw [hM]; exact hx.2.2, fun y oy ly ny => ?_⟩
      simp only [t_lawk72_2, pAhead, flatD, List.any_cons, List.any_nil, eqv_str, eqv_int, eqv_ti, eqv_it, eqv_st, eqv_ts, cut1, Bool.or_false, Bool.or_true, Bool.and_self, Bool.and_true, Bool.and_false, Bool.false_or, Bool.true_or, and_self, ofs_inj, ofs_app, ofs_len, String.reduceEq, String.reduceNe, String.reduceAppend, decide_true, decide_false, Bool.not_true, Bool.not_false, sz0, sz1, sz2, sz3, sz4, sz5, sz6, sz7, sz8, sz9, sz10, sz11, sz12, sz13, sz14, sz15, sz16, sz17, sz18, sz19, sz20, sz21, sz22, sz23, sz24, sz25, cpow1018, true_and, and_true, Nat.reduceAdd, Nat.reduceLT, Nat.reduceSub, Int.reduceNe, Int.reduceEq, Int.reduceLT, Int.reduceLE, Int.reduceToNat, ne_eq, not_false_eq_true, List.length_map, Nat.lt_irrefl, dV_nx, dV_rt, at0, at1, at2, at3, ix20, ix21, vSeq, vIfS, vTest, vTruth, truth, v2, v1, vN, vCons, vNil, vStar, vVar, vC, xIx, Vl.opI0, Vl.opI, pk, vSet, vAug, vAsg, xgSub, vRet, vRetN, vNext_mk, vDrop, vBreak, vCont, asD, asDs, opMod, opDiv, opMul2, Vl.opAdd, Vl.opAddO, opSub, opPow, opLt, Vl.opLe, opGt, Vl.opGe, xEq, okEq_str, okEq_int, xIn, okIn, inD, xIsN, isNone_n, isNone_t, isNone_l, isNone_i, isNone_s, isMo, mob, pkm, gModI, gDivI, gSubI, gMulI, gPowI, gGt, gLt, gLe, gGe, vNotT, vAndT, vOrT, vAndV, vOrV, opNot, opNotG, vIfE, opTup, opLst, opLstO, Vl.opLen, Vl.opInt, opList, opListO, opTuple, opII, gMax, gMin, vM, vM0, isT, xPop, Vl.opAppend, opExtend, opJoin, vgName, vgTup, vgCons, vgNil, kOpt_some, kOpn_some, kOps_some, Vl.opSum, Vl.opInsert, Vl.opIndex, opDivmod, vSl, vPart, vNoPart, opSl, opSlO, opRev, opCallK, ownD, ownO, objs, renum, uniq, getS, putS, vCall0, vFor, vForW, En.wk, vSeqI, vTupI, vRng1, vRng2, vEnum, vZip, chkOf, vLcK, vYes, finD, finO, En.wipe, wipeE, En.trim, trimS, dropNone, clr_n, clr_v, clr_k, clr_o, wth, Vl.ret, takeS, startV,  List.map_cons, List.map_nil, List.length_cons, List.length_nil, List.cons_append, List.nil_append, List.replicate, List.getElem?_cons_succ, List.getElem?_cons_zero, List.getElem?_nil, List.set_cons_succ, List.set_cons_zero, List.set_nil, List.all_nil, List.all_cons, Bool.true_and, Option.map_some, Option.map_none, if_true, if_false, decide_eq_true_eq, Bool.false_eq_true, List.take_succ_cons, List.take_zero, List.take_nil, List.drop_succ_cons, List.drop_zero, List.drop_nil, reduceIte, reduceCtorEq]
      refine ⟨os, x, y, rfl, by omega, hok, ox, oy, by omega, by omega, by omega, ?_⟩
      have sx := Kd.shp hok ox (by omega)
      have sy := Kd.shp hok oy (by omega)
      have e1 : x = y ↔ p.1 = p.2 := ⟨fun h => by rw [← nx, ← ny, h], fun h => Kd.num_inj (lv + 1) x y (by omega) ox oy (by omega) (by rw [nx, ny, h])⟩
      rw [Kd.eqv, decide_eq_decide.mpr e1, nx, ny]
      refine ⟨okEq_of (shp_b _) (shp_b _), ?_⟩
      rw [if_neg (by rw [eqv_bb]; decide)]
      refine ⟨okEq_of sx sy, okEq_of (shp_b _) (shp_b _), ?_⟩
      rw [if_neg (by rw [eqv_bb]; decide)]
      exact hk2 _ 1 [9, 10, 11, 12] (Nat.le_refl _) rfl
    · rintro e rfl
      exact hk _ 0 [1, 2, 3, 4, 5, 6, 7, 8, 9, 10, 11, 12] (Nat.zero_le _) rfl
  · rintro e rfl
    simp only [t_lawk72_13, flatD, List.any_cons, List.any_nil, eqv_str, eqv_int, eqv_ti, eqv_it, eqv_st, eqv_ts, cut1, Bool.or_false, Bool.or_true, Bool.and_self, Bool.and_true, Bool.and_false, Bool.false_or, Bool.true_or, and_self, ofs_inj, ofs_app, ofs_len, String.reduceEq, String.reduceNe, String.reduceAppend, decide_true, decide_false, Bool.not_true, Bool.not_false, sz0, sz1, sz2, sz3, sz4, sz5, sz6, sz7, sz8, sz9, sz10, sz11, sz12, sz13, sz14, sz15, sz16, sz17, sz18, sz19, sz20, sz21, sz22, sz23, sz24, sz25, cpow1018, true_and, and_true, Nat.reduceAdd, Nat.reduceLT, Nat.reduceSub, Int.reduceNe, Int.reduceEq, Int.reduceLT, Int.reduceLE, Int.reduceToNat, ne_eq, not_false_eq_true, List.length_map, Nat.lt_irrefl, dV_nx, dV_rt, at0, at1, at2, at3, ix20, ix21, vSeq, vIfS, vTest, vTruth, truth, v2, v1, vN, vCons, vNil, vStar, vVar, vC, xIx, Vl.opI0, Vl.opI, pk, vSet, vAug, vAsg, xgSub, vRet, vRetN, vNext_mk, vDrop, vBreak, vCont, asD, asDs, opMod, opDiv, opMul2, Vl.opAdd, Vl.opAddO, opSub, opPow, opLt, Vl.opLe, opGt, Vl.opGe, xEq, okEq_str, okEq_int, xIn, okIn, inD, xIsN, isNone_n, isNone_t, isNone_l, isNone_i, isNone_s, isMo, mob, pkm, gModI, gDivI, gSubI, gMulI, gPowI, gGt, gLt, gLe, gGe, vNotT, vAndT, vOrT, vAndV, vOrV, opNot, opNotG, vIfE, opTup, opLst, opLstO, Vl.opLen, Vl.opInt, opList, opListO, opTuple, opII, gMax, gMin, vM, vM0, isT, xPop, Vl.opAppend, opExtend, opJoin, vgName, vgTup, vgCons, vgNil, kOpt_some, kOpn_some, kOps_some, Vl.opSum, Vl.opInsert, Vl.opIndex, opDivmod, vSl, vPart, vNoPart, opSl, opSlO, opRev, opCallK, ownD, ownO, objs, renum, uniq, getS, putS, vCall0, vFor, vForW, En.wk, vSeqI, vTupI, vRng1, vRng2, vEnum, vZip, chkOf, vLcK, vYes, finD, finO, En.wipe, wipeE, En.trim, trimS, dropNone, clr_n, clr_v, clr_k, clr_o, wth, Vl.ret, takeS, startV,  List.map_cons, List.map_nil, List.length_cons, List.length_nil, List.cons_append, List.nil_append, List.replicate, List.getElem?_cons_succ, List.getElem?_cons_zero, List.getElem?_nil, List.set_cons_succ, List.set_cons_zero, List.set_nil, List.all_nil, List.all_cons, Bool.true_and, Option.map_some, Option.map_none, if_true, if_false, decide_eq_true_eq, Bool.false_eq_true, List.take_succ_cons, List.take_zero, List.take_nil, List.drop_succ_cons, List.drop_zero, List.drop_nil, reduceIte, reduceCtorEq]
    exact k
end Kf
namespace Kf
open PySem L2 Vl PySem.Spec PyProof.Rows
def top (i : Nat) : Stmt := PySem.Challenge.pw_kindfill_k72_kinds_in_order.main.body.getD i (.Pass ⟨0, 0, 0, 0⟩)
abbrev sLpool : Stmt := top 9
abbrev nLpool : List Str := ["_law_script", "_law_k", "_law_cell", "_law_number"]
theorem scLpool : FnScope nLpool ["_law_script", "_law_k"] (defScope sLpool) := ⟨rfl, rfl, rfl, by decide +kernel, rfl, by decide +kernel, by decide +kernel⟩
theorem bd_Lpool {P : Program} {w : World} {K : PySem.W.Frag} {mg : Str → Option Value} {base : Heap} {k : Nat} (B : Blt mg) {f : Addr} {cdv : Value} {A : Around} {outer : List Env} {s : Shared} {H : Hp} {E : XK}
    (hr : Room k (A.deeper (envOfC "_law_pool" (defScope sLpool) s.heap.objs.size f cdv))) : VSs (cxOf CX0 P w K mg base nLpool "_law_pool" (defScope sLpool) f cdv A outer s H E).nox (defBody sLpool) (t_Lpool) := by
  have h : VSs (cxOf CX0 P w K mg base nLpool "_law_pool" (defScope sLpool) f cdv A outer s H E).nox (defBody sLpool) (vSeq (vSet 2 (vC (.int 0))) (vSeq (vIfS (vTest (v2 opLt (vVar 1) (vN opLen (vCons (vVar 0) vNil)))) ((vSet 2 (v2 xIx (vVar 0) (vVar 1)))) vNext) (vSeq (vSet 3 (v2 opMod (v2 opPow (v2 opAdd (v2 opAdd (v2 opMod (vVar 2) (vC (.int 2147483629))) (v2 opMul2 (v2 opMul2 (vC (.int 104729)) (vVar 1)) (vVar 1))) (vC (.int 11))) (vC (.int 3))) (vC (.int 2147483647)))) (vSeq (vIfS (vTest (v2 opLt (vVar 2) (v2 opPow (vC (.int 10)) (vC (.int 18))))) ((vSet 2 (vC (.int 0)))) vNext) ((vRet (vN opLstO (vCons (vVar 2) (vCons (vVar 3) vNil))))))))) := (vss_cons (vs_set (i := 2) scLpool.nd rfl (Or.inl rfl) ve_int)
    (vss_cons (vs_if (vt_lt (vp 1) (ve_len rfl B.len (va_cons (vp 0) va_nil))) (vss_one (vs_set (i := 2) scLpool.nd rfl (Or.inl rfl) (ve_xix (vp 0) (vp 1)))) vss_nil)
    (vss_cons (vs_set (i := 3) scLpool.nd rfl (Or.inl rfl) (ve_mod (ve_pow (ve_add (ve_add (ve_mod (vp 2) ve_int) (ve_mul2 (ve_mul2 ve_int (vp 1)) (vp 1))) ve_int) ve_int) ve_int))
    (vss_cons (vs_if (vt_lt (vp 2) (ve_pow ve_int ve_int)) (vss_one (vs_set (i := 2) scLpool.nd rfl (Or.inl rfl) ve_int)) vss_nil)
    (vss_one (vs_ret (ve_lstO (va_cons (vp 2) (va_cons (vp 3) va_nil)))))))))
  exact h
theorem ok_Lpool {P : Program} {w : World} {K : PySem.W.Frag} {mg : Str → Option Value} {base : Heap} {k : Nat} {p : VSp} (Fd : Df K mg "_law_pool" sLpool ["_law_script", "_law_k"]) (B : Blt mg)
    (len : ∀ ss st Kp, p ss st Kp → ss.length = 2) (rd : ∀ ss cs Kp, p ss cs Kp → t_Lpool (dV cs.length Kp) ⟨startV 4 ss, cs.map some⟩) : VFn P w K mg base (k + 1) "_law_pool" ["_law_script", "_law_k"] p :=
  okF Fd scLpool len (fun hr => bd_Lpool B hr) rd

abbrev sLtake : Stmt := top 10
abbrev nLtake : List Str := ["_law_pool_here", "_law_many", "_law_found"]
theorem scLtake : FnScope nLtake ["_law_pool_here", "_law_many"] (defScope sLtake) := ⟨rfl, rfl, rfl, by decide +kernel, rfl, by decide +kernel, by decide +kernel⟩
theorem bd_Ltake {P : Program} {w : World} {K : PySem.W.Frag} {mg : Str → Option Value} {base : Heap} {k : Nat} {f : Addr} {cdv : Value} {A : Around} {outer : List Env} {s : Shared} {H : Hp} {E : XK}
    (hr : Room k (A.deeper (envOfC "_law_take" (defScope sLtake) s.heap.objs.size f cdv))) : VSs (cxOf CX0 P w K mg base nLtake "_law_take" (defScope sLtake) f cdv A outer s H E).nox (defBody sLtake) (t_Ltake) := by
  have h : VSs (cxOf CX0 P w K mg base nLtake "_law_take" (defScope sLtake) f cdv A outer s H E).nox (defBody sLtake) (vSeq (vIfS (vTest (v2 opGt (v2 xIx (vVar 0) (vC (.int 0))) (vC (.int 0)))) (vSeq (vSet 2 (v2 opMod (v2 xIx (vVar 0) (vC (.int 0))) (vVar 1))) (vSeq (vAsg (v2 opDiv (v2 xIx (vVar 0) (vC (.int 0))) (vVar 1)) (xgSub (vVar 0) (vC (.int 0)))) ((vRet (vVar 2))))) vNext) (vSeq (vAsg (v2 opMod (v2 opAdd (v2 opMul2 (v2 xIx (vVar 0) (vC (.int 1))) (vC (.int 48271))) (vC (.int 11))) (vC (.int 2147483647))) (xgSub (vVar 0) (vC (.int 1)))) ((vRet (v2 opMod (v2 opDiv (v2 opMod (v2 opMul2 (v2 xIx (vVar 0) (vC (.int 1))) (v2 xIx (vVar 0) (vC (.int 1)))) (vC (.int 2147483629))) (vC (.int 64))) (vVar 1)))))) := (vss_cons (vs_if (vt_gt (ve_xix (vp 0) ve_int) ve_int) (vss_cons (vs_set (i := 2) scLtake.nd rfl (Or.inl rfl) (ve_mod (ve_xix (vp 0) ve_int) (vp 1)))
      (vss_cons (vs_asg (ve_div (ve_xix (vp 0) ve_int) (vp 1)) (vg_xsub (mono_var 0) (mono_c _) (vp 0) ve_int (fun a b => pg_sub a b set_list)))
      (vss_one (vs_ret (vp 2))))) vss_nil)
    (vss_cons (vs_asg (ve_mod (ve_add (ve_mul2 (ve_xix (vp 0) ve_int) ve_int) ve_int) ve_int) (vg_xsub (mono_var 0) (mono_c _) (vp 0) ve_int (fun a b => pg_sub a b set_list)))
    (vss_one (vs_ret (ve_mod (ve_div (ve_mod (ve_mul2 (ve_xix (vp 0) ve_int) (ve_xix (vp 0) ve_int)) ve_int) ve_int) (vp 1))))))
  exact h
theorem ok_Ltake {P : Program} {w : World} {K : PySem.W.Frag} {mg : Str → Option Value} {base : Heap} {k : Nat} {p : VSp} (Fd : Df K mg "_law_take" sLtake ["_law_pool_here", "_law_many"])
    (len : ∀ ss st Kp, p ss st Kp → ss.length = 2) (rd : ∀ ss cs Kp, p ss cs Kp → t_Ltake (dV cs.length Kp) ⟨startV 3 ss, cs.map some⟩) : VFn P w K mg base (k + 1) "_law_take" ["_law_pool_here", "_law_many"] p :=
  okF Fd scLtake len (fun hr => bd_Ltake hr) rd

abbrev sLmarks : Stmt := top 11
abbrev nLmarks : List Str := ["_law_pool_here", "_law_size", "_law_at", "_law_signs", "_law_found", "_law_k", "_law_places", "_law_j", "_law_place"]
theorem scLmarks : FnScope nLmarks ["_law_pool_here"] (defScope sLmarks) := ⟨rfl, rfl, rfl, by decide +kernel, rfl, by decide +kernel, by decide +kernel⟩
theorem bd_Lmarks {P : Program} {w : World} {K : PySem.W.Frag} {mg : Str → Option Value} {base : Heap} {k : Nat} {k_Ltake : Nat} {p_Ltake : VSp} (G_Ltake : VFn P w K mg base k_Ltake "_law_take" ["_law_pool_here", "_law_many"] p_Ltake) (h_Ltake : k_Ltake ≤ k) (B : Blt mg) {f : Addr} {cdv : Value} {A : Around} {outer : List Env} {s : Shared} {H : Hp} {E : XK}
    (hr : Room k (A.deeper (envOfC "_law_marks" (defScope sLmarks) s.heap.objs.size f cdv))) : VSs (cxOf CX0 P w K mg base nLmarks "_law_marks" (defScope sLmarks) f cdv A outer s H E).nox (defBody sLmarks) (t_Lmarks p_Ltake) := by
  have hu := u190 hr
  have h : VSs (cxOf CX0 P w K mg base nLmarks "_law_marks" (defScope sLmarks) f cdv A outer s H E).nox (defBody sLmarks) (vSeq (vSet 1 (v2 opAdd (vC (.int 1)) (vN (opCallK ownD p_Ltake) (vCons (vVar 0) (vCons (vC (.int 6)) vNil))))) (vSeq (vSet 2 (vN (opCallK ownD p_Ltake) (vCons (vVar 0) (vCons (vVar 1) vNil)))) (vSeq (vSet 3 (vLcK (vRng1 (vCons (vVar 1) vNil)) (vgName 7) vYes (vN (opCallK ownD p_Ltake) (vCons (vVar 0) (vCons (vC (.int 26)) vNil))) [7] finD)) (vSeq (vSet 4 (vN opLstO vNil)) (vSeq (vForW (vRng1 (vCons (v2 opAdd (vC (.int 1)) (vN (opCallK ownD p_Ltake) (vCons (vVar 0) (vCons (vC (.int 4)) vNil)))) vNil)) (vgName 5)
      (vSeq (vSet 6 (vLcK (vRng1 (vCons (vVar 1) vNil)) (vgName 7) vYes (v2 opMod (v2 opAdd (v2 xIx (vVar 3) (vVar 7)) (v2 opMul2 (v2 opMul2 (vC (.int 5)) (vVar 5)) (vN opInt (vCons (v2 (xEq false) (vVar 7) (vVar 2)) vNil)))) (vC (.int 26))) [7] finD)) ((vDrop (vM "list" opAppend (vVar 4) (vCons (vM "str" opJoin (vC (.str "")) (vCons (vLcK (vSeqI (vVar 6)) (vgName 8) vYes (v2 xIx (vC (.str "abcdefghijklmnopqrstuvwxyz")) (vVar 8)) [8] finD) vNil)) vNil)))))) ((vRet (vVar 4)))))))) := (vss_cons (vs_set (i := 1) scLmarks.nd rfl (Or.inl rfl) (ve_add ve_int (ve_call finW_D G_Ltake hr h_Ltake rfl (va_cons (vp 0) (va_cons ve_int va_nil)))))
    (vss_cons (vs_set (i := 2) scLmarks.nd rfl (Or.inr rfl) (ve_call finW_D G_Ltake hr h_Ltake rfl (va_cons (vp 0) (va_cons (vp 1) va_nil))))
    (vss_cons (vs_set (i := 3) scLmarks.nd rfl (Or.inr rfl) (ve_lcK (own := [("_law_j", 7)]) finD_ok rfl scLmarks.nd (vi_range1 rfl B.range (va_cons (vp 1) va_nil)) (blkOk_by (N := nLmarks) (sc := defScope sLmarks) (own := [("_law_j", 7)]) (by decide +kernel)) (by decide) (fun _ _ _ _ _ => (vg_name (i := 7) scLmarks.nd rfl (Or.inl rfl))) (fun _ _ _ _ _ => vts_nil) (fun _ _ _ _ _ => (ve_call finW_D G_Ltake hr h_Ltake rfl (va_cons (vp 0) (va_cons ve_int va_nil))))))
    (vss_cons (vs_set (i := 4) scLmarks.nd rfl (Or.inl rfl) (ve_lstO va_nil))
    (vss_cons (vs_forW (vi_range1 rfl B.range (va_cons (ve_add ve_int (ve_call finW_D G_Ltake hr h_Ltake rfl (va_cons (vp 0) (va_cons ve_int va_nil)))) va_nil)) (vg_name (i := 5) scLmarks.nd rfl (Or.inr rfl))
      (vss_cons (vs_setLcK (i := 6) (own := [("_law_j", 7)]) finD_ok rfl scLmarks.nd rfl rfl (sw_true rfl rfl rfl (by decide +kernel)) (vi_range1 rfl B.range (va_cons (vp 1) va_nil)) (blkOk_by (N := nLmarks) (sc := defScope sLmarks) (own := [("_law_j", 7)]) (by decide +kernel)) (by decide) (fun _ _ _ _ _ => (vg_name (i := 7) scLmarks.nd rfl (Or.inl rfl))) (fun _ _ _ _ _ => vts_nil) (fun _ _ _ _ _ => (ve_mod (ve_add (ve_xix (vp 3) (vp 7)) (ve_mul2 (ve_mul2 ve_int (vp 5)) (ve_intB rfl B.int (va_cons (ve_xeq hu (vp 7) (vp 2)) va_nil)))) ve_int)))
      (vss_one (vs_expr (ve_append (vp 4) (va_cons (ve_m p_join PySem.F.plainAttrs_str PySem.F.slot_str_join PySem.F.type_str_join mt_join ve_str (va_cons (ve_lcK (own := [("_law_place", 8)]) finD_ok rfl scLmarks.nd (vi_list (vp 6)) (blkOk_by (N := nLmarks) (sc := defScope sLmarks) (own := [("_law_place", 8)]) (by decide +kernel)) (by decide) (fun _ _ _ _ _ => (vg_name (i := 8) scLmarks.nd rfl (Or.inl rfl))) (fun _ _ _ _ _ => vts_nil) (fun _ _ _ _ _ => (ve_xix ve_str (vp 8)))) va_nil)) va_nil))))) (fun a b c => ps_for PassesOwn.never rfl a b c))
    (vss_one (vs_ret (vp 4))))))))
  exact h
theorem ok_Lmarks {P : Program} {w : World} {K : PySem.W.Frag} {mg : Str → Option Value} {base : Heap} {k : Nat} {p : VSp} (Fd : Df K mg "_law_marks" sLmarks ["_law_pool_here"]) {k_Ltake : Nat} {p_Ltake : VSp} (G_Ltake : VFn P w K mg base k_Ltake "_law_take" ["_law_pool_here", "_law_many"] p_Ltake) (h_Ltake : k_Ltake ≤ k) (B : Blt mg)
    (len : ∀ ss st Kp, p ss st Kp → ss.length = 1) (rd : ∀ ss cs Kp, p ss cs Kp → t_Lmarks p_Ltake (dV cs.length Kp) ⟨startV 9 ss, cs.map some⟩) : VFn P w K mg base (k + 1) "_law_marks" ["_law_pool_here"] p :=
  okF Fd scLmarks len (fun hr => bd_Lmarks G_Ltake h_Ltake B hr) rd

abbrev sLunlike : Stmt := top 12
abbrev nLunlike : List Str := ["_law_pool_here", "_law_marks_here", "_law_order", "_law_mark"]
theorem scLunlike : FnScope nLunlike ["_law_pool_here", "_law_marks_here"] (defScope sLunlike) := ⟨rfl, rfl, rfl, by decide +kernel, rfl, by decide +kernel, by decide +kernel⟩
theorem bd_Lunlike {P : Program} {w : World} {K : PySem.W.Frag} {mg : Str → Option Value} {base : Heap} {k : Nat} {k_Ltake : Nat} {p_Ltake : VSp} (G_Ltake : VFn P w K mg base k_Ltake "_law_take" ["_law_pool_here", "_law_many"] p_Ltake) (h_Ltake : k_Ltake ≤ k) (B : Blt mg) {f : Addr} {cdv : Value} {A : Around} {outer : List Env} {s : Shared} {H : Hp} {E : XK}
    (hr : Room k (A.deeper (envOfC "_law_unlike" (defScope sLunlike) s.heap.objs.size f cdv))) : VSs (cxOf CX0 P w K mg base nLunlike "_law_unlike" (defScope sLunlike) f cdv A outer s H E).nox (defBody sLunlike) (t_Lunlike p_Ltake) := by
  have h : VSs (cxOf CX0 P w K mg base nLunlike "_law_unlike" (defScope sLunlike) f cdv A outer s H E).nox (defBody sLunlike) (vSeq (vSet 2 (vN opLstO vNil)) (vSeq (vForW (vSeqI (vVar 1)) (vgName 3)
      ((vDrop (vM "list" opInsert (vVar 2) (vCons (vN (opCallK ownD p_Ltake) (vCons (vVar 0) (vCons (v2 opAdd (vN opLen (vCons (vVar 2) vNil)) (vC (.int 1))) vNil))) (vCons (vVar 3) vNil)))))) ((vRet (vVar 2))))) := (vss_cons (vs_set (i := 2) scLunlike.nd rfl (Or.inl rfl) (ve_lstO va_nil))
    (vss_cons (vs_forW (vi_list (vp 1)) (vg_name (i := 3) scLunlike.nd rfl (Or.inl rfl))
      (vss_one (vs_expr (ve_m p_insert PySem.F.plainAttrs_list PySem.F.slot_list_insert PySem.F.type_list_insert mt_insert (vp 2) (va_cons (ve_call finW_D G_Ltake hr h_Ltake rfl (va_cons (vp 0) (va_cons (ve_add (ve_len rfl B.len (va_cons (vp 2) va_nil)) ve_int) va_nil))) (va_cons (vp 3) va_nil))))) (fun a b c => ps_for PassesOwn.never rfl a b c))
    (vss_one (vs_ret (vp 2)))))
  exact h
theorem ok_Lunlike {P : Program} {w : World} {K : PySem.W.Frag} {mg : Str → Option Value} {base : Heap} {k : Nat} {p : VSp} (Fd : Df K mg "_law_unlike" sLunlike ["_law_pool_here", "_law_marks_here"]) {k_Ltake : Nat} {p_Ltake : VSp} (G_Ltake : VFn P w K mg base k_Ltake "_law_take" ["_law_pool_here", "_law_many"] p_Ltake) (h_Ltake : k_Ltake ≤ k) (B : Blt mg)
    (len : ∀ ss st Kp, p ss st Kp → ss.length = 2) (rd : ∀ ss cs Kp, p ss cs Kp → t_Lunlike p_Ltake (dV cs.length Kp) ⟨startV 4 ss, cs.map some⟩) : VFn P w K mg base (k + 1) "_law_unlike" ["_law_pool_here", "_law_marks_here"] p :=
  okF Fd scLunlike len (fun hr => bd_Lunlike G_Ltake h_Ltake B hr) rd

abbrev smanyto : Stmt := top 6
abbrev nmanyto : List Str := ["marks", "leaves", "many", "whole", "ahead"]
theorem scmanyto : FnScope nmanyto ["marks", "leaves"] (defScope smanyto) := ⟨rfl, rfl, rfl, by decide +kernel, rfl, by decide +kernel, by decide +kernel⟩
theorem bd_manyto {P : Program} {w : World} {K : PySem.W.Frag} {mg : Str → Option Value} {base : Heap} {k : Nat} (B : Blt mg) {f : Addr} {cdv : Value} {A : Around} {outer : List Env} {s : Shared} {H : Hp} {E : XK}
    (hr : Room k (A.deeper (envOfC "many_to" (defScope smanyto) s.heap.objs.size f cdv))) : VSs (cxOf CX0 P w K mg base nmanyto "many_to" (defScope smanyto) f cdv A outer s H E).nox (defBody smanyto) (t_manyto) := by
  have h : VSs (cxOf CX0 P w K mg base nmanyto "many_to" (defScope smanyto) f cdv A outer s H E).nox (defBody smanyto) (vSeq (vSet 2 (vN opLstO (vCons (vC (.int 0)) (vCons (v2 opAdd (vN opLen (vCons (vVar 0) vNil)) (vC (.int 1))) vNil)))) (vSeq (vForW (vRng2 (vCons (vC (.int 2)) (vCons (v2 opAdd (vVar 1) (vC (.int 1))) vNil))) (vgName 3)
      ((vDrop (vM "list" opAppend (vVar 2) (vCons (vN opSum (vCons (vLcK (vRng2 (vCons (vC (.int 1)) (vCons (vVar 3) vNil))) (vgName 4) vYes (v2 opMul2 (v2 opMul2 (vC (.int 2)) (v2 xIx (vVar 2) (vVar 4))) (v2 xIx (vVar 2) (v2 opSub (vVar 3) (vVar 4)))) [4] finD) vNil)) vNil))))) ((vRet (vVar 2))))) := (vss_cons (vs_set (i := 2) scmanyto.nd rfl (Or.inr rfl) (ve_lstO (va_cons ve_int (va_cons (ve_add (ve_len rfl B.len (va_cons (vp 0) va_nil)) ve_int) va_nil))))
    (vss_cons (vs_forW (vi_range2 rfl B.range (va_cons ve_int (va_cons (ve_add (vp 1) ve_int) va_nil))) (vg_name (i := 3) scmanyto.nd rfl (Or.inr rfl))
      (vss_one (vs_expr (ve_append (vp 2) (va_cons (ve_sum rfl rfl B.sum (va_cons (ve_lcK (own := [("ahead", 4)]) finD_ok rfl scmanyto.nd (vi_range2 rfl B.range (va_cons ve_int (va_cons (vp 3) va_nil))) (blkOk_by (N := nmanyto) (sc := defScope smanyto) (own := [("ahead", 4)]) (by decide +kernel)) (by decide) (fun _ _ _ _ _ => (vg_name (i := 4) scmanyto.nd rfl (Or.inl rfl))) (fun _ _ _ _ _ => vts_nil) (fun _ _ _ _ _ => (ve_mul2 (ve_mul2 ve_int (ve_xix (vp 2) (vp 4))) (ve_xix (vp 2) (ve_sub (vp 3) (vp 4)))))) va_nil)) va_nil)))) (fun a b c => ps_for PassesOwn.never rfl a b c))
    (vss_one (vs_ret (vp 2)))))
  exact h
theorem ok_manyto {P : Program} {w : World} {K : PySem.W.Frag} {mg : Str → Option Value} {base : Heap} {k : Nat} {p : VSp} (Fd : Df K mg "many_to" smanyto ["marks", "leaves"]) (B : Blt mg)
    (len : ∀ ss st Kp, p ss st Kp → ss.length = 2) (rd : ∀ ss cs Kp, p ss cs Kp → t_manyto (dV cs.length Kp) ⟨startV 5 ss, cs.map some⟩) : VFn P w K mg base (k + 1) "many_to" ["marks", "leaves"] p :=
  okF Fd scmanyto len (fun hr => bd_manyto B hr) rd

abbrev skindsmany : Stmt := top 4
abbrev nkindsmany : List Str := ["marks", "leaves"]
theorem sckindsmany : FnScope nkindsmany ["marks", "leaves"] (defScope skindsmany) := ⟨rfl, rfl, rfl, by decide +kernel, rfl, by decide +kernel, by decide +kernel⟩
theorem bd_kindsmany {P : Program} {w : World} {K : PySem.W.Frag} {mg : Str → Option Value} {base : Heap} {k : Nat} {k_manyto : Nat} {p_manyto : VSp} (G_manyto : VFn P w K mg base k_manyto "many_to" ["marks", "leaves"] p_manyto) (h_manyto : k_manyto ≤ k) {f : Addr} {cdv : Value} {A : Around} {outer : List Env} {s : Shared} {H : Hp} {E : XK}
    (hr : Room k (A.deeper (envOfC "kinds_many" (defScope skindsmany) s.heap.objs.size f cdv))) : VSs (cxOf CX0 P w K mg base nkindsmany "kinds_many" (defScope skindsmany) f cdv A outer s H E).nox (defBody skindsmany) (t_kindsmany p_manyto) := by
  have h : VSs (cxOf CX0 P w K mg base nkindsmany "kinds_many" (defScope skindsmany) f cdv A outer s H E).nox (defBody skindsmany) ((vRet (vIfE (vTest (v2 opGt (vVar 1) (vC (.int 0)))) (v2 xIx (vN (opCallK ownD p_manyto) (vCons (vVar 0) (vCons (vVar 1) vNil))) (vVar 1)) (vC (.int 0))))) := (vss_one (vs_ret (ve_ifExp (vt_gt (vp 1) ve_int) (ve_xix (ve_call finW_D G_manyto hr h_manyto rfl (va_cons (vp 0) (va_cons (vp 1) va_nil))) (vp 1)) ve_int)))
  exact h
theorem ok_kindsmany {P : Program} {w : World} {K : PySem.W.Frag} {mg : Str → Option Value} {base : Heap} {k : Nat} {p : VSp} (Fd : Df K mg "kinds_many" skindsmany ["marks", "leaves"]) {k_manyto : Nat} {p_manyto : VSp} (G_manyto : VFn P w K mg base k_manyto "many_to" ["marks", "leaves"] p_manyto) (h_manyto : k_manyto ≤ k)
    (len : ∀ ss st Kp, p ss st Kp → ss.length = 2) (rd : ∀ ss cs Kp, p ss cs Kp → t_kindsmany p_manyto (dV cs.length Kp) ⟨startV 2 ss, cs.map some⟩) : VFn P w K mg base (k + 1) "kinds_many" ["marks", "leaves"] p :=
  okF Fd sckindsmany len (fun hr => bd_kindsmany G_manyto h_manyto hr) rd

abbrev skindwith : Stmt := top 7
abbrev nkindwith : List Str := ["marks", "many", "leaves", "number", "ahead", "word", "one", "other", "parts"]
theorem sckindwith : FnScope nkindwith ["marks", "many", "leaves", "number"] (defScope skindwith) := ⟨rfl, rfl, rfl, by decide +kernel, rfl, by decide +kernel, by decide +kernel⟩
theorem bd_kindwith {P : Program} {w : World} {K : PySem.W.Frag} {mg : Str → Option Value} {base : Heap} {k : Nat} {k_kindwith : Nat} {p_kindwith : VSp} (G_kindwith : VFn P w K mg base k_kindwith "kind_with" ["marks", "many", "leaves", "number"] p_kindwith) (h_kindwith : k_kindwith ≤ k) (B : Blt mg) {f : Addr} {cdv : Value} {A : Around} {outer : List Env} {s : Shared} {H : Hp} {E : XK}
    (hr : Room k (A.deeper (envOfC "kind_with" (defScope skindwith) s.heap.objs.size f cdv))) : VSs (cxOf CX0 P w K mg base nkindwith "kind_with" (defScope skindwith) f cdv A outer s H E).nox (defBody skindwith) (t_kindwith p_kindwith) := by
  have hu := u190 hr
  have h : VSs (cxOf CX0 P w K mg base nkindwith "kind_with" (defScope skindwith) f cdv A outer s H E).nox (defBody skindwith) (vSeq (vIfS (vTest (v2 (xEq false) (vVar 2) (vC (.int 1)))) ((vRet (vIfE (vTest (v2 opLt (vVar 3) (vN opLen (vCons (vVar 0) vNil)))) (vN opTup (vCons (vC (.str "mark")) (vCons (v2 xIx (vVar 0) (vVar 3)) vNil))) (vN opTup (vCons (vC (.str "one")) vNil))))) vNext) (vSeq (vSet 4 (vC (.int 1))) (vSeq (vWhileW (vTest (v2 opGe (vVar 3) (v2 opMul2 (v2 opMul2 (vC (.int 2)) (v2 xIx (vVar 1) (vVar 4))) (v2 xIx (vVar 1) (v2 opSub (vVar 2) (vVar 4))))))
      (vSeq (vAug (fun a b => a - b) 3 (v2 opMul2 (v2 opMul2 (vC (.int 2)) (v2 xIx (vVar 1) (vVar 4))) (v2 xIx (vVar 1) (v2 opSub (vVar 2) (vVar 4))))) ((vAug (fun a b => a + b) 4 (vC (.int 1)))))) (vSeq (vAsg (vN opDivmod (vCons (vVar 3) (vCons (v2 opMul2 (v2 xIx (vVar 1) (vVar 4)) (v2 xIx (vVar 1) (v2 opSub (vVar 2) (vVar 4)))) vNil))) (vgTup 2 (vgCons (vgName 5) (vgCons (vgName 3) vgNil)))) (vSeq (vAsg (vN opDivmod (vCons (vVar 3) (vCons (v2 xIx (vVar 1) (v2 opSub (vVar 2) (vVar 4))) vNil))) (vgTup 2 (vgCons (vgName 6) (vgCons (vgName 7) vgNil)))) (vSeq (vSet 8 (vN opTup (vCons (vN (opCallK ownD p_kindwith) (vCons (vVar 0) (vCons (vVar 1) (vCons (vVar 4) (vCons (vVar 6) vNil))))) (vCons (vN (opCallK ownD p_kindwith) (vCons (vVar 0) (vCons (vVar 1) (vCons (v2 opSub (vVar 2) (vVar 4)) (vCons (vVar 7) vNil))))) vNil)))) ((vRet (vN opTup (vCons (vIfE (vTest (v2 (xEq false) (vVar 5) (vC (.int 0)))) (vC (.str "to")) (vC (.str "both"))) (vStar (vVar 8) vNil))))))))))) := (vss_cons (vs_if (vt_xeq hu (vp 2) ve_int) (vss_one (vs_ret (ve_ifExp (vt_lt (vp 3) (ve_len rfl B.len (va_cons (vp 0) va_nil))) (ve_tup (va_cons ve_str (va_cons (ve_xix (vp 0) (vp 3)) va_nil))) (ve_tup (va_cons ve_str va_nil))))) vss_nil)
    (vss_cons (vs_set (i := 4) sckindwith.nd rfl (Or.inl rfl) ve_int)
    (vss_cons (vs_whileW PassesOwn.never (vt_ge (vp 3) (ve_mul2 (ve_mul2 ve_int (ve_xix (vp 1) (vp 4))) (ve_xix (vp 1) (ve_sub (vp 2) (vp 4)))))
      (vss_cons (vs_aug (i := 3) (g := fun a b => a - b) sckindwith.nd rfl (Or.inl rfl) (ve_mul2 (ve_mul2 ve_int (ve_xix (vp 1) (vp 4))) (ve_xix (vp 1) (ve_sub (vp 2) (vp 4)))) ip_sub (fun h => ps_aug sckindwith.nd rfl (Or.inl rfl) h ip_sub))
      (vss_one (vs_aug (i := 4) (g := fun a b => a + b) sckindwith.nd rfl (Or.inl rfl) ve_int ip_add (fun h => ps_aug sckindwith.nd rfl (Or.inl rfl) h ip_add)))))
    (vss_cons (vs_asg (ve_divmod rfl B.divmod (va_cons (vp 3) (va_cons (ve_mul2 (ve_xix (vp 1) (vp 4)) (ve_xix (vp 1) (ve_sub (vp 2) (vp 4)))) va_nil))) (vg_tup rfl (vgs_cons (vg_name (i := 5) sckindwith.nd rfl (Or.inl rfl)) (vgs_cons (vg_name (i := 3) sckindwith.nd rfl (Or.inl rfl)) vgs_nil))))
    (vss_cons (vs_asg (ve_divmod rfl B.divmod (va_cons (vp 3) (va_cons (ve_xix (vp 1) (ve_sub (vp 2) (vp 4))) va_nil))) (vg_tup rfl (vgs_cons (vg_name (i := 6) sckindwith.nd rfl (Or.inl rfl)) (vgs_cons (vg_name (i := 7) sckindwith.nd rfl (Or.inl rfl)) vgs_nil))))
    (vss_cons (vs_set (i := 8) sckindwith.nd rfl (Or.inl rfl) (ve_tup (va_cons (ve_call finW_D G_kindwith hr h_kindwith rfl (va_cons (vp 0) (va_cons (vp 1) (va_cons (vp 4) (va_cons (vp 6) va_nil))))) (va_cons (ve_call finW_D G_kindwith hr h_kindwith rfl (va_cons (vp 0) (va_cons (vp 1) (va_cons (ve_sub (vp 2) (vp 4)) (va_cons (vp 7) va_nil))))) va_nil))))
    (vss_one (vs_ret (ve_tup (va_cons (ve_ifExp (vt_xeq hu (vp 5) ve_int) ve_str ve_str) (va_star (vp 8) va_nil)))))))))))
  exact h
theorem ok_kindwith {P : Program} {w : World} {K : PySem.W.Frag} {mg : Str → Option Value} {base : Heap} {k : Nat} {p : VSp} (Fd : Df K mg "kind_with" skindwith ["marks", "many", "leaves", "number"]) {k_kindwith : Nat} {p_kindwith : VSp} (G_kindwith : VFn P w K mg base k_kindwith "kind_with" ["marks", "many", "leaves", "number"] p_kindwith) (h_kindwith : k_kindwith ≤ k) (B : Blt mg)
    (len : ∀ ss st Kp, p ss st Kp → ss.length = 4) (rd : ∀ ss cs Kp, p ss cs Kp → t_kindwith p_kindwith (dV cs.length Kp) ⟨startV 9 ss, cs.map some⟩) : VFn P w K mg base (k + 1) "kind_with" ["marks", "many", "leaves", "number"] p :=
  okF Fd sckindwith len (fun hr => bd_kindwith G_kindwith h_kindwith B hr) rd

abbrev skindat : Stmt := top 5
abbrev nkindat : List Str := ["marks", "leaves", "number", "many"]
theorem sckindat : FnScope nkindat ["marks", "leaves", "number"] (defScope skindat) := ⟨rfl, rfl, rfl, by decide +kernel, rfl, by decide +kernel, by decide +kernel⟩
theorem bd_kindat {P : Program} {w : World} {K : PySem.W.Frag} {mg : Str → Option Value} {base : Heap} {k : Nat} {k_manyto : Nat} {p_manyto : VSp} (G_manyto : VFn P w K mg base k_manyto "many_to" ["marks", "leaves"] p_manyto) (h_manyto : k_manyto ≤ k) {k_kindwith : Nat} {p_kindwith : VSp} (G_kindwith : VFn P w K mg base k_kindwith "kind_with" ["marks", "many", "leaves", "number"] p_kindwith) (h_kindwith : k_kindwith ≤ k) {f : Addr} {cdv : Value} {A : Around} {outer : List Env} {s : Shared} {H : Hp} {E : XK}
    (hr : Room k (A.deeper (envOfC "kind_at" (defScope skindat) s.heap.objs.size f cdv))) : VSs (cxOf CX0 P w K mg base nkindat "kind_at" (defScope skindat) f cdv A outer s H E).nox (defBody skindat) (t_kindat p_manyto p_kindwith) := by
  have h : VSs (cxOf CX0 P w K mg base nkindat "kind_at" (defScope skindat) f cdv A outer s H E).nox (defBody skindat) (vSeq (vSet 3 (vN (opCallK ownD p_manyto) (vCons (vVar 0) (vCons (vVar 1) vNil)))) (vSeq (vIfS (vOrT (vTest (v2 opLt (vVar 1) (vC (.int 1)))) (vNotT (vTest (vChain opLe opLt (vC (.int 0)) (vVar 2) (v2 xIx (vVar 3) (vVar 1)))))) (vNever) vNext) ((vRet (vN (opCallK ownD p_kindwith) (vCons (vVar 0) (vCons (vVar 3) (vCons (vVar 1) (vCons (vVar 2) vNil))))))))) := (vss_cons (vs_set (i := 3) sckindat.nd rfl (Or.inl rfl) (ve_call finW_D G_manyto hr h_manyto rfl (va_cons (vp 0) (va_cons (vp 1) va_nil))))
    (vss_cons (vs_if (VW.vt (vw_or (vt_lt (vp 1) ve_int) (vw_or1 (vt_not (vt_chain (p_i0 (g := gLe) fun _ _ _ => .bl _) p_lt op_le (op_lt.or op_lt_str) ve_int (vp 2) (ve_xix (vp 3) (vp 1))))))) (vss_one vs_never) vss_nil)
    (vss_one (vs_ret (ve_call finW_D G_kindwith hr h_kindwith rfl (va_cons (vp 0) (va_cons (vp 3) (va_cons (vp 1) (va_cons (vp 2) va_nil)))))))))
  exact h
theorem ok_kindat {P : Program} {w : World} {K : PySem.W.Frag} {mg : Str → Option Value} {base : Heap} {k : Nat} {p : VSp} (Fd : Df K mg "kind_at" skindat ["marks", "leaves", "number"]) {k_manyto : Nat} {p_manyto : VSp} (G_manyto : VFn P w K mg base k_manyto "many_to" ["marks", "leaves"] p_manyto) (h_manyto : k_manyto ≤ k) {k_kindwith : Nat} {p_kindwith : VSp} (G_kindwith : VFn P w K mg base k_kindwith "kind_with" ["marks", "many", "leaves", "number"] p_kindwith) (h_kindwith : k_kindwith ≤ k)
    (len : ∀ ss st Kp, p ss st Kp → ss.length = 3) (rd : ∀ ss cs Kp, p ss cs Kp → t_kindat p_manyto p_kindwith (dV cs.length Kp) ⟨startV 4 ss, cs.map some⟩) : VFn P w K mg base (k + 1) "kind_at" ["marks", "leaves", "number"] p :=
  okF Fd sckindat len (fun hr => bd_kindat G_manyto h_manyto G_kindwith h_kindwith hr) rd

abbrev sLcountsv2 : Stmt := top 13
abbrev nLcountsv2 : List Str := ["_law_many", "_law_found", "_law_leaves_here", "_law_total", "_law_first"]
theorem scLcountsv2 : FnScope nLcountsv2 ["_law_many"] (defScope sLcountsv2) := ⟨rfl, rfl, rfl, by decide +kernel, rfl, by decide +kernel, by decide +kernel⟩
theorem bd_Lcountsv2 {P : Program} {w : World} {K : PySem.W.Frag} {mg : Str → Option Value} {base : Heap} {k : Nat} (B : Blt mg) {f : Addr} {cdv : Value} {A : Around} {outer : List Env} {s : Shared} {H : Hp} {E : XK}
    (hr : Room k (A.deeper (envOfC "_law_counts" (defScope sLcountsv2) s.heap.objs.size f cdv))) : VSs (cxOf CX0 P w K mg base nLcountsv2 "_law_counts" (defScope sLcountsv2) f cdv A outer s H E).nox (defBody sLcountsv2) (t_Lcountsv2) := by
  have h : VSs (cxOf CX0 P w K mg base nLcountsv2 "_law_counts" (defScope sLcountsv2) f cdv A outer s H E).nox (defBody sLcountsv2) (vSeq (vSet 1 (vN opLstO (vCons (vC (.int 0)) (vCons (v2 opAdd (vVar 0) (vC (.int 1))) vNil)))) (vSeq (vForW (vRng2 (vCons (vC (.int 2)) (vCons (vC (.int 11)) vNil))) (vgName 2)
      (vSeq (vSet 3 (vC (.int 0))) (vSeq (vForW (vRng2 (vCons (vC (.int 1)) (vCons (vVar 2) vNil))) (vgName 4)
        ((vSet 3 (v2 opAdd (vVar 3) (v2 opMul2 (v2 opMul2 (vC (.int 2)) (v2 xIx (vVar 1) (vVar 4))) (v2 xIx (vVar 1) (v2 opSub (vVar 2) (vVar 4)))))))) ((vDrop (vM "list" opAppend (vVar 1) (vCons (vVar 3) vNil))))))) ((vRet (vVar 1))))) := (vss_cons (vs_set (i := 1) scLcountsv2.nd rfl (Or.inl rfl) (ve_lstO (va_cons ve_int (va_cons (ve_add (vp 0) ve_int) va_nil))))
    (vss_cons (vs_forW (vi_range2 rfl B.range (va_cons ve_int (va_cons ve_int va_nil))) (vg_name (i := 2) scLcountsv2.nd rfl (Or.inl rfl))
      (vss_cons (vs_set (i := 3) scLcountsv2.nd rfl (Or.inl rfl) ve_int)
      (vss_cons (vs_forW (vi_range2 rfl B.range (va_cons ve_int (va_cons (vp 2) va_nil))) (vg_name (i := 4) scLcountsv2.nd rfl (Or.inl rfl))
        (vss_one (vs_set (i := 3) scLcountsv2.nd rfl (Or.inl rfl) (ve_add (vp 3) (ve_mul2 (ve_mul2 ve_int (ve_xix (vp 1) (vp 4))) (ve_xix (vp 1) (ve_sub (vp 2) (vp 4))))))) (fun a b c => ps_for PassesOwn.never rfl a b c))
      (vss_one (vs_expr (ve_append (vp 1) (va_cons (vp 3) va_nil)))))) (fun a b c => ps_for PassesOwn.never rfl a b c))
    (vss_one (vs_ret (vp 1)))))
  exact h
theorem ok_Lcountsv2 {P : Program} {w : World} {K : PySem.W.Frag} {mg : Str → Option Value} {base : Heap} {k : Nat} {p : VSp} (Fd : Df K mg "_law_counts" sLcountsv2 ["_law_many"]) (B : Blt mg)
    (len : ∀ ss st Kp, p ss st Kp → ss.length = 1) (rd : ∀ ss cs Kp, p ss cs Kp → t_Lcountsv2 (dV cs.length Kp) ⟨startV 5 ss, cs.map some⟩) : VFn P w K mg base (k + 1) "_law_counts" ["_law_many"] p :=
  okF Fd scLcountsv2 len (fun hr => bd_Lcountsv2 B hr) rd

abbrev sLleavesv4 : Stmt := top 14
abbrev nLleavesv4 : List Str := ["_law_kind"]
theorem scLleavesv4 : FnScope nLleavesv4 ["_law_kind"] (defScope sLleavesv4) := ⟨rfl, rfl, rfl, by decide +kernel, rfl, by decide +kernel, by decide +kernel⟩
theorem bd_Lleavesv4 {P : Program} {w : World} {K : PySem.W.Frag} {mg : Str → Option Value} {base : Heap} {k : Nat} {k_Lleavesv4 : Nat} {p_Lleavesv4 : VSp} (G_Lleavesv4 : VFn P w K mg base k_Lleavesv4 "_law_leaves" ["_law_kind"] p_Lleavesv4) (h_Lleavesv4 : k_Lleavesv4 ≤ k) (B : Blt mg) {f : Addr} {cdv : Value} {A : Around} {outer : List Env} {s : Shared} {H : Hp} {E : XK}
    (hr : Room k (A.deeper (envOfC "_law_leaves" (defScope sLleavesv4) s.heap.objs.size f cdv))) : VSs (cxOf CX0 P w K mg base nLleavesv4 "_law_leaves" (defScope sLleavesv4) f cdv A outer s H E).nox (defBody sLleavesv4) (t_Lleavesv4 p_Lleavesv4) := by
  have h : VSs (cxOf CX0 P w K mg base nLleavesv4 "_law_leaves" (defScope sLleavesv4) f cdv A outer s H E).nox (defBody sLleavesv4) (vSeq (vIfS (vTest (v2 opLt (vN opLen (vCons (vVar 0) vNil)) (vC (.int 3)))) ((vRet (vC (.int 1)))) vNext) ((vRet (v2 opAdd (vN (opCallK ownD p_Lleavesv4) (vCons (v2 xIx (vVar 0) (vC (.int 1))) vNil)) (vN (opCallK ownD p_Lleavesv4) (vCons (v2 xIx (vVar 0) (vC (.int 2))) vNil)))))) := (vss_cons (vs_if (vt_lt (ve_len rfl B.len (va_cons (vp 0) va_nil)) ve_int) (vss_one (vs_ret ve_int)) vss_nil)
    (vss_one (vs_ret (ve_add (ve_call finW_D G_Lleavesv4 hr h_Lleavesv4 rfl (va_cons (ve_xix (vp 0) ve_int) va_nil)) (ve_call finW_D G_Lleavesv4 hr h_Lleavesv4 rfl (va_cons (ve_xix (vp 0) ve_int) va_nil))))))
  exact h
theorem ok_Lleavesv4 {P : Program} {w : World} {K : PySem.W.Frag} {mg : Str → Option Value} {base : Heap} {k : Nat} {p : VSp} (Fd : Df K mg "_law_leaves" sLleavesv4 ["_law_kind"]) {k_Lleavesv4 : Nat} {p_Lleavesv4 : VSp} (G_Lleavesv4 : VFn P w K mg base k_Lleavesv4 "_law_leaves" ["_law_kind"] p_Lleavesv4) (h_Lleavesv4 : k_Lleavesv4 ≤ k) (B : Blt mg)
    (len : ∀ ss st Kp, p ss st Kp → ss.length = 1) (rd : ∀ ss cs Kp, p ss cs Kp → t_Lleavesv4 p_Lleavesv4 (dV cs.length Kp) ⟨startV 1 ss, cs.map some⟩) : VFn P w K mg base (k + 1) "_law_leaves" ["_law_kind"] p :=
  okF Fd scLleavesv4 len (fun hr => bd_Lleavesv4 G_Lleavesv4 h_Lleavesv4 B hr) rd

abbrev sLahead : Stmt := top 17
abbrev nLahead : List Str := ["_law_marks_here", "_law_one", "_law_other", "_law_some", "_law_here", "_law_there", "_law_mark"]
theorem scLahead : FnScope nLahead ["_law_marks_here", "_law_one", "_law_other"] (defScope sLahead) := ⟨rfl, rfl, rfl, by decide +kernel, rfl, by decide +kernel, by decide +kernel⟩
theorem bd_Lahead {P : Program} {w : World} {K : PySem.W.Frag} {mg : Str → Option Value} {base : Heap} {k : Nat} {k_Lleavesv4 : Nat} {p_Lleavesv4 : VSp} (G_Lleavesv4 : VFn P w K mg base k_Lleavesv4 "_law_leaves" ["_law_kind"] p_Lleavesv4) (h_Lleavesv4 : k_Lleavesv4 ≤ k) {k_Lahead : Nat} {p_Lahead : VSp} (G_Lahead : VFn P w K mg base k_Lahead "_law_ahead" ["_law_marks_here", "_law_one", "_law_other"] p_Lahead) (h_Lahead : k_Lahead ≤ k) (B : Blt mg) {f : Addr} {cdv : Value} {A : Around} {outer : List Env} {s : Shared} {H : Hp} {E : XK}
    (hr : Room k (A.deeper (envOfC "_law_ahead" (defScope sLahead) s.heap.objs.size f cdv))) : VSs (cxOf CX0 P w K mg base nLahead "_law_ahead" (defScope sLahead) f cdv A outer s H E).nox (defBody sLahead) (t_Lahead p_Lleavesv4 p_Lahead) := by
  have hu := u190 hr
  have h : VSs (cxOf CX0 P w K mg base nLahead "_law_ahead" (defScope sLahead) f cdv A outer s H E).nox (defBody sLahead) (vSeq (vIfS (vTest (v2 (xEq false) (vVar 1) (vVar 2))) ((vRet (vC (.bool false)))) vNext) (vSeq (vIfS (vTest (v2 opLt (vN opLen (vCons (vVar 1) vNil)) (vC (.int 3)))) (vSeq (vSet 3 (v2 opAdd (vLcK (vSeqI (vVar 0)) (vgName 6) vYes (vN opTup (vCons (vC (.str "mark")) (vCons (vVar 6) vNil))) [6] finD) (vN opLst (vCons (vN opTup (vCons (vC (.str "one")) vNil)) vNil)))) ((vRet (v2 opLt (vM "list" opIndex (vVar 3) (vCons (vVar 1) vNil)) (vM "list" opIndex (vVar 3) (vCons (vVar 2) vNil)))))) vNext) (vSeq (vSet 4 (vN opTup (vCons (vN (opCallK ownD p_Lleavesv4) (vCons (v2 xIx (vVar 1) (vC (.int 1))) vNil)) (vCons (v2 (xEq false) (v2 xIx (vVar 1) (vC (.int 0))) (vC (.str "both"))) vNil)))) (vSeq (vSet 5 (vN opTup (vCons (vN (opCallK ownD p_Lleavesv4) (vCons (v2 xIx (vVar 2) (vC (.int 1))) vNil)) (vCons (v2 (xEq false) (v2 xIx (vVar 2) (vC (.int 0))) (vC (.str "both"))) vNil)))) (vSeq (vIfS (vTest (v2 (xEq true) (vVar 4) (vVar 5))) ((vRet (v2 opLtIb (vVar 4) (vVar 5)))) vNext) (vSeq (vIfS (vTest (v2 (xEq true) (v2 xIx (vVar 1) (vC (.int 1))) (v2 xIx (vVar 2) (vC (.int 1))))) ((vRet (vN (opCallK ownD p_Lahead) (vCons (vVar 0) (vCons (v2 xIx (vVar 1) (vC (.int 1))) (vCons (v2 xIx (vVar 2) (vC (.int 1))) vNil)))))) vNext) ((vRet (vN (opCallK ownD p_Lahead) (vCons (vVar 0) (vCons (v2 xIx (vVar 1) (vC (.int 2))) (vCons (v2 xIx (vVar 2) (vC (.int 2))) vNil)))))))))))) := (vss_cons (vs_if (vt_xeq hu (vp 1) (vp 2)) (vss_one (vs_ret ve_bl)) vss_nil)
    (vss_cons (vs_if (vt_lt (ve_len rfl B.len (va_cons (vp 1) va_nil)) ve_int) (vss_cons (vs_set (i := 3) scLahead.nd rfl (Or.inl rfl) (ve_add (ve_lcK (own := [("_law_mark", 6)]) finD_ok rfl scLahead.nd (vi_list (vp 0)) (blkOk_by (N := nLahead) (sc := defScope sLahead) (own := [("_law_mark", 6)]) (by decide +kernel)) (by decide) (fun _ _ _ _ _ => (vg_name (i := 6) scLahead.nd rfl (Or.inl rfl))) (fun _ _ _ _ _ => vts_nil) (fun _ _ _ _ _ => (ve_tup (va_cons ve_str (va_cons (vp 6) va_nil))))) (ve_lst (va_cons (ve_tup (va_cons ve_str va_nil)) va_nil))))
      (vss_one (vs_ret (ve_lt (ve_m p_index PySem.F.plainAttrs_list PySem.F.slot_list_index PySem.F.type_list_index (mt_indexD (Nat.lt_of_le_of_lt (Nat.add_le_add_left (show 65 ≤ 190 by decide) _) hu)) (vp 3) (va_cons (vp 1) va_nil)) (ve_m p_index PySem.F.plainAttrs_list PySem.F.slot_list_index PySem.F.type_list_index (mt_indexD (Nat.lt_of_le_of_lt (Nat.add_le_add_left (show 65 ≤ 190 by decide) _) hu)) (vp 3) (va_cons (vp 2) va_nil)))))) vss_nil)
    (vss_cons (vs_set (i := 4) scLahead.nd rfl (Or.inl rfl) (ve_tup (va_cons (ve_call finW_D G_Lleavesv4 hr h_Lleavesv4 rfl (va_cons (ve_xix (vp 1) ve_int) va_nil)) (va_cons (ve_xeq hu (ve_xix (vp 1) ve_int) ve_str) va_nil))))
    (vss_cons (vs_set (i := 5) scLahead.nd rfl (Or.inl rfl) (ve_tup (va_cons (ve_call finW_D G_Lleavesv4 hr h_Lleavesv4 rfl (va_cons (ve_xix (vp 2) ve_int) va_nil)) (va_cons (ve_xeq hu (ve_xix (vp 2) ve_int) ve_str) va_nil))))
    (vss_cons (vs_if (vt_xne hu (vp 4) (vp 5)) (vss_one (vs_ret (ve_ltIb hu (vp 4) (vp 5)))) vss_nil)
    (vss_cons (vs_if (vt_xne hu (ve_xix (vp 1) ve_int) (ve_xix (vp 2) ve_int)) (vss_one (vs_ret (ve_call finW_D G_Lahead hr h_Lahead rfl (va_cons (vp 0) (va_cons (ve_xix (vp 1) ve_int) (va_cons (ve_xix (vp 2) ve_int) va_nil)))))) vss_nil)
    (vss_one (vs_ret (ve_call finW_D G_Lahead hr h_Lahead rfl (va_cons (vp 0) (va_cons (ve_xix (vp 1) ve_int) (va_cons (ve_xix (vp 2) ve_int) va_nil))))))))))))
  exact h
theorem ok_Lahead {P : Program} {w : World} {K : PySem.W.Frag} {mg : Str → Option Value} {base : Heap} {k : Nat} {p : VSp} (Fd : Df K mg "_law_ahead" sLahead ["_law_marks_here", "_law_one", "_law_other"]) {k_Lleavesv4 : Nat} {p_Lleavesv4 : VSp} (G_Lleavesv4 : VFn P w K mg base k_Lleavesv4 "_law_leaves" ["_law_kind"] p_Lleavesv4) (h_Lleavesv4 : k_Lleavesv4 ≤ k) {k_Lahead : Nat} {p_Lahead : VSp} (G_Lahead : VFn P w K mg base k_Lahead "_law_ahead" ["_law_marks_here", "_law_one", "_law_other"] p_Lahead) (h_Lahead : k_Lahead ≤ k) (B : Blt mg)
    (len : ∀ ss st Kp, p ss st Kp → ss.length = 3) (rd : ∀ ss cs Kp, p ss cs Kp → t_Lahead p_Lleavesv4 p_Lahead (dV cs.length Kp) ⟨startV 7 ss, cs.map some⟩) : VFn P w K mg base (k + 1) "_law_ahead" ["_law_marks_here", "_law_one", "_law_other"] p :=
  okF Fd scLahead len (fun hr => bd_Lahead G_Lleavesv4 h_Lleavesv4 G_Lahead h_Lahead B hr) rd

abbrev sLedge : Stmt := top 18
abbrev nLedge : List Str := ["_law_some", "_law_leaves_here", "_law_pool_here", "_law_total", "_law_first"]
theorem scLedge : FnScope nLedge ["_law_some", "_law_leaves_here", "_law_pool_here"] (defScope sLedge) := ⟨rfl, rfl, rfl, by decide +kernel, rfl, by decide +kernel, by decide +kernel⟩
theorem bd_Ledge {P : Program} {w : World} {K : PySem.W.Frag} {mg : Str → Option Value} {base : Heap} {k : Nat} {k_Ltake : Nat} {p_Ltake : VSp} (G_Ltake : VFn P w K mg base k_Ltake "_law_take" ["_law_pool_here", "_law_many"] p_Ltake) (h_Ltake : k_Ltake ≤ k) (B : Blt mg) {f : Addr} {cdv : Value} {A : Around} {outer : List Env} {s : Shared} {H : Hp} {E : XK}
    (hr : Room k (A.deeper (envOfC "_law_edge" (defScope sLedge) s.heap.objs.size f cdv))) : VSs (cxOf CX0 P w K mg base nLedge "_law_edge" (defScope sLedge) f cdv A outer s H E).nox (defBody sLedge) (t_Ledge p_Ltake) := by
  have h : VSs (cxOf CX0 P w K mg base nLedge "_law_edge" (defScope sLedge) f cdv A outer s H E).nox (defBody sLedge) (vSeq (vSet 3 (vC (.int 0))) (vSeq (vForW (vRng2 (vCons (vC (.int 1)) (vCons (v2 opAdd (vC (.int 1)) (vN (opCallK ownD p_Ltake) (vCons (vVar 2) (vCons (vVar 1) vNil)))) vNil))) (vgName 4)
      ((vSet 3 (v2 opAdd (vVar 3) (v2 opMul2 (v2 opMul2 (vC (.int 2)) (v2 xIx (vVar 0) (vVar 4))) (v2 xIx (vVar 0) (v2 opSub (vVar 1) (vVar 4)))))))) ((vRet (vVar 3))))) := (vss_cons (vs_set (i := 3) scLedge.nd rfl (Or.inl rfl) ve_int)
    (vss_cons (vs_forW (vi_range2 rfl B.range (va_cons ve_int (va_cons (ve_add ve_int (ve_call finW_D G_Ltake hr h_Ltake rfl (va_cons (vp 2) (va_cons (vp 1) va_nil)))) va_nil))) (vg_name (i := 4) scLedge.nd rfl (Or.inl rfl))
      (vss_one (vs_set (i := 3) scLedge.nd rfl (Or.inl rfl) (ve_add (vp 3) (ve_mul2 (ve_mul2 ve_int (ve_xix (vp 0) (vp 4))) (ve_xix (vp 0) (ve_sub (vp 1) (vp 4))))))) (fun a b c => ps_for PassesOwn.never rfl a b c))
    (vss_one (vs_ret (vp 3)))))
  exact h
theorem ok_Ledge {P : Program} {w : World} {K : PySem.W.Frag} {mg : Str → Option Value} {base : Heap} {k : Nat} {p : VSp} (Fd : Df K mg "_law_edge" sLedge ["_law_some", "_law_leaves_here", "_law_pool_here"]) {k_Ltake : Nat} {p_Ltake : VSp} (G_Ltake : VFn P w K mg base k_Ltake "_law_take" ["_law_pool_here", "_law_many"] p_Ltake) (h_Ltake : k_Ltake ≤ k) (B : Blt mg)
    (len : ∀ ss st Kp, p ss st Kp → ss.length = 3) (rd : ∀ ss cs Kp, p ss cs Kp → t_Ledge p_Ltake (dV cs.length Kp) ⟨startV 5 ss, cs.map some⟩) : VFn P w K mg base (k + 1) "_law_edge" ["_law_some", "_law_leaves_here", "_law_pool_here"] p :=
  okF Fd scLedge len (fun hr => bd_Ledge G_Ltake h_Ltake B hr) rd

abbrev slawk72 : Stmt := top 19
abbrev nlawk72 : List Str := ["_law_script", "_law_k", "_law_pool_here", "_law_marks_here", "_law_leaves_here", "_law_many", "_law_one", "_law_edge_here", "_law_pairs", "_law_first", "_law_second", "_law_here", "_law_there"]
theorem sclawk72 : FnScope nlawk72 ["_law_script"] (defScope slawk72) := ⟨rfl, rfl, rfl, by decide +kernel, rfl, by decide +kernel, by decide +kernel⟩
theorem bd_lawk72 {P : Program} {w : World} {K : PySem.W.Frag} {mg : Str → Option Value} {base : Heap} {k : Nat} {k_Lpool : Nat} {p_Lpool : VSp} (G_Lpool : VFn P w K mg base k_Lpool "_law_pool" ["_law_script", "_law_k"] p_Lpool) (h_Lpool : k_Lpool ≤ k) {k_Lunlike : Nat} {p_Lunlike : VSp} (G_Lunlike : VFn P w K mg base k_Lunlike "_law_unlike" ["_law_pool_here", "_law_marks_here"] p_Lunlike) (h_Lunlike : k_Lunlike ≤ k) {k_Lmarks : Nat} {p_Lmarks : VSp} (G_Lmarks : VFn P w K mg base k_Lmarks "_law_marks" ["_law_pool_here"] p_Lmarks) (h_Lmarks : k_Lmarks ≤ k) {k_Ltake : Nat} {p_Ltake : VSp} (G_Ltake : VFn P w K mg base k_Ltake "_law_take" ["_law_pool_here", "_law_many"] p_Ltake) (h_Ltake : k_Ltake ≤ k) {k_kindsmany : Nat} {p_kindsmany : VSp} (G_kindsmany : VFn P w K mg base k_kindsmany "kinds_many" ["marks", "leaves"] p_kindsmany) (h_kindsmany : k_kindsmany ≤ k) {k_Ledge : Nat} {p_Ledge : VSp} (G_Ledge : VFn P w K mg base k_Ledge "_law_edge" ["_law_some", "_law_leaves_here", "_law_pool_here"] p_Ledge) (h_Ledge : k_Ledge ≤ k) {k_Lcountsv2 : Nat} {p_Lcountsv2 : VSp} (G_Lcountsv2 : VFn P w K mg base k_Lcountsv2 "_law_counts" ["_law_many"] p_Lcountsv2) (h_Lcountsv2 : k_Lcountsv2 ≤ k) {k_kindat : Nat} {p_kindat : VSp} (G_kindat : VFn P w K mg base k_kindat "kind_at" ["marks", "leaves", "number"] p_kindat) (h_kindat : k_kindat ≤ k) {k_Lahead : Nat} {p_Lahead : VSp} (G_Lahead : VFn P w K mg base k_Lahead "_law_ahead" ["_law_marks_here", "_law_one", "_law_other"] p_Lahead) (h_Lahead : k_Lahead ≤ k) (B : Blt mg) {f : Addr} {cdv : Value} {A : Around} {outer : List Env} {s : Shared} {H : Hp} {E : XK}
    (hr : Room k (A.deeper (envOfC "law" (defScope slawk72) s.heap.objs.size f cdv))) : VSs (cxOf CX0 P w K mg base nlawk72 "law" (defScope slawk72) f cdv A outer s H E).nox (defBody slawk72) (t_lawk72 p_Lpool p_Lunlike p_Lmarks p_Ltake p_kindsmany p_Ledge p_Lcountsv2 p_kindat p_Lahead) := by
  have hu := u190 hr
  have h : VSs (cxOf CX0 P w K mg base nlawk72 "law" (defScope slawk72) f cdv A outer s H E).nox (defBody slawk72) (vSeq (vForW (vRng1 (vCons (vN (opII gMax) (vCons (vC (.int 1)) (vCons (vN (opII gMin) (vCons (vN opLen (vCons (vVar 0) vNil)) (vCons (vC (.int 12)) vNil))) vNil))) vNil)) (vgName 1)
      (vSeq (vSet 2 (vN (opCallK ownO p_Lpool) (vCons (vVar 0) (vCons (vVar 1) vNil)))) (vSeq (vSet 3 (vN (opCallK ownD p_Lunlike) (vCons (vVar 2) (vCons (vN (opCallK ownD p_Lmarks) (vCons (vVar 2) vNil)) vNil)))) (vSeq (vSet 4 (v2 opAdd (vC (.int 1)) (vN (opCallK ownD p_Ltake) (vCons (vVar 2) (vCons (vC (.int 10)) vNil))))) (vSeq (vSet 5 (vN (opCallK ownD p_kindsmany) (vCons (vVar 3) (vCons (vVar 4) vNil)))) (vSeq (vSet 6 (vN (opCallK ownD p_Ltake) (vCons (vVar 2) (vCons (vVar 5) vNil)))) (vSeq (vSet 7 (vN (opCallK ownD p_Ledge) (vCons (vN (opCallK ownD p_Lcountsv2) (vCons (vN opLen (vCons (vVar 3) vNil)) vNil)) (vCons (vVar 4) (vCons (vVar 2) vNil))))) (vSeq (vSet 8 (vN opLst (vCons (vN opTup (vCons (vVar 6) (vCons (vN (opCallK ownD p_Ltake) (vCons (vVar 2) (vCons (vVar 5) vNil))) vNil))) (vCons (vN opTup (vCons (vVar 6) (vCons (v2 opMod (v2 opAdd (vVar 6) (vC (.int 1))) (vVar 5)) vNil))) vNil)))) ((vForW (vSeqI (v2 opAdd (vVar 8) (vN opLst (vCons (vN opTup (vCons (v2 opMod (vVar 7) (vVar 5)) (vCons (v2 opMod (v2 opSub (v2 opAdd (vVar 7) (vVar 5)) (vC (.int 1))) (vVar 5)) vNil))) vNil)))) (vgTup 2 (vgCons (vgName 9) (vgCons (vgName 10) vgNil)))
        (vSeq (vSet 11 (vN (opCallK ownD p_kindat) (vCons (vVar 3) (vCons (vVar 4) (vCons (vVar 9) vNil))))) (vSeq (vSet 12 (vN (opCallK ownD p_kindat) (vCons (vVar 3) (vCons (vVar 4) (vCons (vVar 10) vNil))))) ((vIfS (vOrT (vTest (v2 (xEq true) (vN (opCallK ownD p_Lahead) (vCons (vVar 3) (vCons (vVar 11) (vCons (vVar 12) vNil)))) (v2 opLt (vVar 9) (vVar 10)))) (vTest (v2 (xEq true) (v2 (xEq false) (vVar 11) (vVar 12)) (v2 (xEq false) (vVar 9) (vVar 10))))) ((vRet (vC (.bool false)))) vNext)))))))))))))) ((vRet (vC (.bool true))))) := (vss_cons (vs_forW (vi_range1 rfl B.range (va_cons (ve_max rfl rfl B.max (va_cons ve_int (va_cons (ve_min rfl rfl B.min (va_cons (ve_len rfl B.len (va_cons (vp 0) va_nil)) (va_cons ve_int va_nil))) va_nil))) va_nil)) (vg_name (i := 1) sclawk72.nd rfl (Or.inl rfl))
      (vss_cons (vs_set (i := 2) sclawk72.nd rfl (Or.inl rfl) (ve_call finW_O G_Lpool hr h_Lpool rfl (va_cons (vp 0) (va_cons (vp 1) va_nil))))
      (vss_cons (vs_set (i := 3) sclawk72.nd rfl (Or.inl rfl) (ve_call finW_D G_Lunlike hr h_Lunlike rfl (va_cons (vp 2) (va_cons (ve_call finW_D G_Lmarks hr h_Lmarks rfl (va_cons (vp 2) va_nil)) va_nil))))
      (vss_cons (vs_set (i := 4) sclawk72.nd rfl (Or.inl rfl) (ve_add ve_int (ve_call finW_D G_Ltake hr h_Ltake rfl (va_cons (vp 2) (va_cons ve_int va_nil)))))
      (vss_cons (vs_set (i := 5) sclawk72.nd rfl (Or.inl rfl) (ve_call finW_D G_kindsmany hr h_kindsmany rfl (va_cons (vp 3) (va_cons (vp 4) va_nil))))
      (vss_cons (vs_set (i := 6) sclawk72.nd rfl (Or.inl rfl) (ve_call finW_D G_Ltake hr h_Ltake rfl (va_cons (vp 2) (va_cons (vp 5) va_nil))))
      (vss_cons (vs_set (i := 7) sclawk72.nd rfl (Or.inl rfl) (ve_call finW_D G_Ledge hr h_Ledge rfl (va_cons (ve_call finW_D G_Lcountsv2 hr h_Lcountsv2 rfl (va_cons (ve_len rfl B.len (va_cons (vp 3) va_nil)) va_nil)) (va_cons (vp 4) (va_cons (vp 2) va_nil)))))
      (vss_cons (vs_set (i := 8) sclawk72.nd rfl (Or.inl rfl) (ve_lst (va_cons (ve_tup (va_cons (vp 6) (va_cons (ve_call finW_D G_Ltake hr h_Ltake rfl (va_cons (vp 2) (va_cons (vp 5) va_nil))) va_nil))) (va_cons (ve_tup (va_cons (vp 6) (va_cons (ve_mod (ve_add (vp 6) ve_int) (vp 5)) va_nil))) va_nil))))
      (vss_one (vs_forW (vi_list (ve_add (vp 8) (ve_lst (va_cons (ve_tup (va_cons (ve_mod (vp 7) (vp 5)) (va_cons (ve_mod (ve_sub (ve_add (vp 7) (vp 5)) ve_int) (vp 5)) va_nil))) va_nil)))) (vg_tup rfl (vgs_cons (vg_name (i := 9) sclawk72.nd rfl (Or.inl rfl)) (vgs_cons (vg_name (i := 10) sclawk72.nd rfl (Or.inl rfl)) vgs_nil)))
        (vss_cons (vs_set (i := 11) sclawk72.nd rfl (Or.inl rfl) (ve_call finW_D G_kindat hr h_kindat rfl (va_cons (vp 3) (va_cons (vp 4) (va_cons (vp 9) va_nil)))))
        (vss_cons (vs_set (i := 12) sclawk72.nd rfl (Or.inl rfl) (ve_call finW_D G_kindat hr h_kindat rfl (va_cons (vp 3) (va_cons (vp 4) (va_cons (vp 10) va_nil)))))
        (vss_one (vs_if (VW.vt (vw_or (vt_xne hu (ve_call finW_D G_Lahead hr h_Lahead rfl (va_cons (vp 3) (va_cons (vp 11) (va_cons (vp 12) va_nil)))) (ve_lt (vp 9) (vp 10))) (vw_or1 (vt_xne hu (ve_xeq hu (vp 11) (vp 12)) (ve_xeq hu (vp 9) (vp 10)))))) (vss_one (vs_ret ve_bl)) vss_nil)))) (fun a b c => ps_for PassesOwn.never rfl a b c)))))))))) (fun a b c => ps_for PassesOwn.never rfl a b c))
    (vss_one (vs_ret ve_bl)))
  exact h
theorem ok_lawk72 {P : Program} {w : World} {K : PySem.W.Frag} {mg : Str → Option Value} {base : Heap} {k : Nat} {p : VSp} (Fd : Df K mg "law" slawk72 ["_law_script"]) {k_Lpool : Nat} {p_Lpool : VSp} (G_Lpool : VFn P w K mg base k_Lpool "_law_pool" ["_law_script", "_law_k"] p_Lpool) (h_Lpool : k_Lpool ≤ k) {k_Lunlike : Nat} {p_Lunlike : VSp} (G_Lunlike : VFn P w K mg base k_Lunlike "_law_unlike" ["_law_pool_here", "_law_marks_here"] p_Lunlike) (h_Lunlike : k_Lunlike ≤ k) {k_Lmarks : Nat} {p_Lmarks : VSp} (G_Lmarks : VFn P w K mg base k_Lmarks "_law_marks" ["_law_pool_here"] p_Lmarks) (h_Lmarks : k_Lmarks ≤ k) {k_Ltake : Nat} {p_Ltake : VSp} (G_Ltake : VFn P w K mg base k_Ltake "_law_take" ["_law_pool_here", "_law_many"] p_Ltake) (h_Ltake : k_Ltake ≤ k) {k_kindsmany : Nat} {p_kindsmany : VSp} (G_kindsmany : VFn P w K mg base k_kindsmany "kinds_many" ["marks", "leaves"] p_kindsmany) (h_kindsmany : k_kindsmany ≤ k) {k_Ledge : Nat} {p_Ledge : VSp} (G_Ledge : VFn P w K mg base k_Ledge "_law_edge" ["_law_some", "_law_leaves_here", "_law_pool_here"] p_Ledge) (h_Ledge : k_Ledge ≤ k) {k_Lcountsv2 : Nat} {p_Lcountsv2 : VSp} (G_Lcountsv2 : VFn P w K mg base k_Lcountsv2 "_law_counts" ["_law_many"] p_Lcountsv2) (h_Lcountsv2 : k_Lcountsv2 ≤ k) {k_kindat : Nat} {p_kindat : VSp} (G_kindat : VFn P w K mg base k_kindat "kind_at" ["marks", "leaves", "number"] p_kindat) (h_kindat : k_kindat ≤ k) {k_Lahead : Nat} {p_Lahead : VSp} (G_Lahead : VFn P w K mg base k_Lahead "_law_ahead" ["_law_marks_here", "_law_one", "_law_other"] p_Lahead) (h_Lahead : k_Lahead ≤ k) (B : Blt mg)
    (len : ∀ ss st Kp, p ss st Kp → ss.length = 1) (rd : ∀ ss cs Kp, p ss cs Kp → t_lawk72 p_Lpool p_Lunlike p_Lmarks p_Ltake p_kindsmany p_Ledge p_Lcountsv2 p_kindat p_Lahead (dV cs.length Kp) ⟨startV 13 ss, cs.map some⟩) : VFn P w K mg base (k + 1) "law" ["_law_script"] p :=
  okF Fd sclawk72 len (fun hr => bd_lawk72 G_Lpool h_Lpool G_Lunlike h_Lunlike G_Lmarks h_Lmarks G_Ltake h_Ltake G_kindsmany h_kindsmany G_Ledge h_Ledge G_Lcountsv2 h_Lcountsv2 G_kindat h_kindat G_Lahead h_Lahead B hr) rd

/-! the end -/
theorem all_mk {l : PySem.W.OpenLaw} {w : World} {K : PySem.W.Frag} {h : Heap} {mg : Str → Option Value} {fa f0 f1 f2 f3 f4 f5 f6 f7 f8 f9 f10 f11 f12 : Addr} (X : K.In h) (G : h.Ns mainGlobals mg) (hfa : mg "law" = some (.ref fa))
    {od0 an0 od1 an1 od2 an2 od3 an3 od4 an4 od5 an5 od6 an6 od7 an7 od8 an8 od9 an9 od10 an10 od11 an11 od12 an12 : Option Addr}
    {sl0 sl1 sl2 sl3 sl4 sl5 sl6 sl7 sl8 sl9 sl10 sl11 sl12 : Array (Option Value)} {oc0 kV0 dc0 pm0 cd0 ct0 oc1 kV1 dc1 pm1 cd1 ct1 oc2 kV2 dc2 pm2 cd2 ct2 oc3 kV3 dc3 pm3 cd3 ct3 oc4 kV4 dc4 pm4 cd4 ct4 oc5 kV5 dc5 pm5 cd5 ct5 oc6 kV6 dc6 pm6 cd6 ct6 oc7 kV7 dc7 pm7 cd7 ct7 oc8 kV8 dc8 pm8 cd8 ct8 oc9 kV9 dc9 pm9 cd9 ct9 oc10 kV10 dc10 pm10 cd10 ct10 oc11 kV11 dc11 pm11 cd11 ct11 oc12 kV12 dc12 pm12 cd12 ct12 : Value}
    (a0 : PySem.W.nsIn K mainGlobals "law" = some (some (.ref f0)))
    (l0 : K.lookup f0 = some ⟨oc0, od0, .func (PySem.W.fnOf "law" "law" (defArgs slawk72) (defBody slawk72) (defScope slawk72) .none kV0 dc0 pm0 an0 cd0 ct0), sl0⟩)
    (c0 : PySem.W.codeIn K cd0 "law" = true) (k0 : PySem.W.keepIn K (.ref f0) = true)
    (a1 : PySem.W.nsIn K mainGlobals "_law_pool" = some (some (.ref f1)))
    (l1 : K.lookup f1 = some ⟨oc1, od1, .func (PySem.W.fnOf "_law_pool" "_law_pool" (defArgs sLpool) (defBody sLpool) (defScope sLpool) .none kV1 dc1 pm1 an1 cd1 ct1), sl1⟩)
    (c1 : PySem.W.codeIn K cd1 "_law_pool" = true) (k1 : PySem.W.keepIn K (.ref f1) = true)
    (a2 : PySem.W.nsIn K mainGlobals "_law_take" = some (some (.ref f2)))
    (l2 : K.lookup f2 = some ⟨oc2, od2, .func (PySem.W.fnOf "_law_take" "_law_take" (defArgs sLtake) (defBody sLtake) (defScope sLtake) .none kV2 dc2 pm2 an2 cd2 ct2), sl2⟩)
    (c2 : PySem.W.codeIn K cd2 "_law_take" = true) (k2 : PySem.W.keepIn K (.ref f2) = true)
    (a3 : PySem.W.nsIn K mainGlobals "_law_marks" = some (some (.ref f3)))
    (l3 : K.lookup f3 = some ⟨oc3, od3, .func (PySem.W.fnOf "_law_marks" "_law_marks" (defArgs sLmarks) (defBody sLmarks) (defScope sLmarks) .none kV3 dc3 pm3 an3 cd3 ct3), sl3⟩)
    (c3 : PySem.W.codeIn K cd3 "_law_marks" = true) (k3 : PySem.W.keepIn K (.ref f3) = true)
    (a4 : PySem.W.nsIn K mainGlobals "_law_unlike" = some (some (.ref f4)))
    (l4 : K.lookup f4 = some ⟨oc4, od4, .func (PySem.W.fnOf "_law_unlike" "_law_unlike" (defArgs sLunlike) (defBody sLunlike) (defScope sLunlike) .none kV4 dc4 pm4 an4 cd4 ct4), sl4⟩)
    (c4 : PySem.W.codeIn K cd4 "_law_unlike" = true) (k4 : PySem.W.keepIn K (.ref f4) = true)
    (a5 : PySem.W.nsIn K mainGlobals "many_to" = some (some (.ref f5)))
    (l5 : K.lookup f5 = some ⟨oc5, od5, .func (PySem.W.fnOf "many_to" "many_to" (defArgs smanyto) (defBody smanyto) (defScope smanyto) .none kV5 dc5 pm5 an5 cd5 ct5), sl5⟩)
    (c5 : PySem.W.codeIn K cd5 "many_to" = true) (k5 : PySem.W.keepIn K (.ref f5) = true)
    (a6 : PySem.W.nsIn K mainGlobals "kinds_many" = some (some (.ref f6)))
    (l6 : K.lookup f6 = some ⟨oc6, od6, .func (PySem.W.fnOf "kinds_many" "kinds_many" (defArgs skindsmany) (defBody skindsmany) (defScope skindsmany) .none kV6 dc6 pm6 an6 cd6 ct6), sl6⟩)
    (c6 : PySem.W.codeIn K cd6 "kinds_many" = true) (k6 : PySem.W.keepIn K (.ref f6) = true)
    (a7 : PySem.W.nsIn K mainGlobals "kind_with" = some (some (.ref f7)))
    (l7 : K.lookup f7 = some ⟨oc7, od7, .func (PySem.W.fnOf "kind_with" "kind_with" (defArgs skindwith) (defBody skindwith) (defScope skindwith) .none kV7 dc7 pm7 an7 cd7 ct7), sl7⟩)
    (c7 : PySem.W.codeIn K cd7 "kind_with" = true) (k7 : PySem.W.keepIn K (.ref f7) = true)
    (a8 : PySem.W.nsIn K mainGlobals "kind_at" = some (some (.ref f8)))
    (l8 : K.lookup f8 = some ⟨oc8, od8, .func (PySem.W.fnOf "kind_at" "kind_at" (defArgs skindat) (defBody skindat) (defScope skindat) .none kV8 dc8 pm8 an8 cd8 ct8), sl8⟩)
    (c8 : PySem.W.codeIn K cd8 "kind_at" = true) (k8 : PySem.W.keepIn K (.ref f8) = true)
    (a9 : PySem.W.nsIn K mainGlobals "_law_counts" = some (some (.ref f9)))
    (l9 : K.lookup f9 = some ⟨oc9, od9, .func (PySem.W.fnOf "_law_counts" "_law_counts" (defArgs sLcountsv2) (defBody sLcountsv2) (defScope sLcountsv2) .none kV9 dc9 pm9 an9 cd9 ct9), sl9⟩)
    (c9 : PySem.W.codeIn K cd9 "_law_counts" = true) (k9 : PySem.W.keepIn K (.ref f9) = true)
    (a10 : PySem.W.nsIn K mainGlobals "_law_leaves" = some (some (.ref f10)))
    (l10 : K.lookup f10 = some ⟨oc10, od10, .func (PySem.W.fnOf "_law_leaves" "_law_leaves" (defArgs sLleavesv4) (defBody sLleavesv4) (defScope sLleavesv4) .none kV10 dc10 pm10 an10 cd10 ct10), sl10⟩)
    (c10 : PySem.W.codeIn K cd10 "_law_leaves" = true) (k10 : PySem.W.keepIn K (.ref f10) = true)
    (a11 : PySem.W.nsIn K mainGlobals "_law_ahead" = some (some (.ref f11)))
    (l11 : K.lookup f11 = some ⟨oc11, od11, .func (PySem.W.fnOf "_law_ahead" "_law_ahead" (defArgs sLahead) (defBody sLahead) (defScope sLahead) .none kV11 dc11 pm11 an11 cd11 ct11), sl11⟩)
    (c11 : PySem.W.codeIn K cd11 "_law_ahead" = true) (k11 : PySem.W.keepIn K (.ref f11) = true)
    (a12 : PySem.W.nsIn K mainGlobals "_law_edge" = some (some (.ref f12)))
    (l12 : K.lookup f12 = some ⟨oc12, od12, .func (PySem.W.fnOf "_law_edge" "_law_edge" (defArgs sLedge) (defBody sLedge) (defScope sLedge) .none kV12 dc12 pm12 an12 cd12 ct12), sl12⟩)
    (c12 : PySem.W.codeIn K cd12 "_law_edge" = true) (k12 : PySem.W.keepIn K (.ref f12) = true)
    (z0 : PySem.W.nsIn K mainGlobals "len" = some none)
    (z1 : PySem.W.nsIn K mainGlobals "max" = some none)
    (z2 : PySem.W.nsIn K mainGlobals "min" = some none)
    (z3 : PySem.W.nsIn K mainGlobals "range" = some none)
    (z4 : PySem.W.nsIn K mainGlobals "int" = some none)
    (z5 : PySem.W.nsIn K mainGlobals "str" = some none)
    (z6 : PySem.W.nsIn K mainGlobals "list" = some none)
    (z7 : PySem.W.nsIn K mainGlobals "tuple" = some none)
    (z8 : PySem.W.nsIn K mainGlobals "bool" = some none)
    (z9 : PySem.W.nsIn K mainGlobals "sorted" = some none)
    (z10 : PySem.W.nsIn K mainGlobals "enumerate" = some none)
    (z11 : PySem.W.nsIn K mainGlobals "zip" = some none)
    (z12 : PySem.W.nsIn K mainGlobals "isinstance" = some none)
    (z13 : PySem.W.nsIn K mainGlobals "all" = some none)
    (z14 : PySem.W.nsIn K mainGlobals "any" = some none)
    (z15 : PySem.W.nsIn K mainGlobals "sum" = some none)
    (z16 : PySem.W.nsIn K mainGlobals "dict" = some none)
    (z17 : PySem.W.nsIn K mainGlobals "set" = some none)
    (z18 : PySem.W.nsIn K mainGlobals "divmod" = some none)
    (z19 : PySem.W.nsIn K mainGlobals "reversed" = some none)
    (z20 : PySem.W.nsIn K mainGlobals "repr" = some none) :
    ∃ fd : FuncData, (∀ (s : Shared) (v : Value), BindsTo s fd ⟨[v], []⟩ [("_law_script", v)]) ∧ ∀ base : Heap, K.In base → base.Ns mainGlobals mg → FnOk l.prog w K mg base CX0 40 fa fd ["_law_script"] (spLaw K) := by
  have e := hfa.symm.trans (PySem.W.mg_of X G a0)
  cases e
  have F0 := fun_mk (st := slawk72) l0 c0 k0
  have F1 := fun_mk (st := sLpool) l1 c1 k1
  have b1 := F1.binds (ps := ["_law_script", "_law_k"]) fun _ _ _ _ _ _ us hl => match us, hl with | [_, _], _ => rfl
  have g1 := PySem.W.mg_of X G a1
  have F2 := fun_mk (st := sLtake) l2 c2 k2
  have b2 := F2.binds (ps := ["_law_pool_here", "_law_many"]) fun _ _ _ _ _ _ us hl => match us, hl with | [_, _], _ => rfl
  have g2 := PySem.W.mg_of X G a2
  have F3 := fun_mk (st := sLmarks) l3 c3 k3
  have b3 := F3.binds (ps := ["_law_pool_here"]) fun _ _ _ _ _ _ us hl => match us, hl with | [_], _ => rfl
  have g3 := PySem.W.mg_of X G a3
  have F4 := fun_mk (st := sLunlike) l4 c4 k4
  have b4 := F4.binds (ps := ["_law_pool_here", "_law_marks_here"]) fun _ _ _ _ _ _ us hl => match us, hl with | [_, _], _ => rfl
  have g4 := PySem.W.mg_of X G a4
  have F5 := fun_mk (st := smanyto) l5 c5 k5
  have b5 := F5.binds (ps := ["marks", "leaves"]) fun _ _ _ _ _ _ us hl => match us, hl with | [_, _], _ => rfl
  have g5 := PySem.W.mg_of X G a5
  have F6 := fun_mk (st := skindsmany) l6 c6 k6
  have b6 := F6.binds (ps := ["marks", "leaves"]) fun _ _ _ _ _ _ us hl => match us, hl with | [_, _], _ => rfl
  have g6 := PySem.W.mg_of X G a6
  have F7 := fun_mk (st := skindwith) l7 c7 k7
  have b7 := F7.binds (ps := ["marks", "many", "leaves", "number"]) fun _ _ _ _ _ _ us hl => match us, hl with | [_, _, _, _], _ => rfl
  have g7 := PySem.W.mg_of X G a7
  have F8 := fun_mk (st := skindat) l8 c8 k8
  have b8 := F8.binds (ps := ["marks", "leaves", "number"]) fun _ _ _ _ _ _ us hl => match us, hl with | [_, _, _], _ => rfl
  have g8 := PySem.W.mg_of X G a8
  have F9 := fun_mk (st := sLcountsv2) l9 c9 k9
  have b9 := F9.binds (ps := ["_law_many"]) fun _ _ _ _ _ _ us hl => match us, hl with | [_], _ => rfl
  have g9 := PySem.W.mg_of X G a9
  have F10 := fun_mk (st := sLleavesv4) l10 c10 k10
  have b10 := F10.binds (ps := ["_law_kind"]) fun _ _ _ _ _ _ us hl => match us, hl with | [_], _ => rfl
  have g10 := PySem.W.mg_of X G a10
  have F11 := fun_mk (st := sLahead) l11 c11 k11
  have b11 := F11.binds (ps := ["_law_marks_here", "_law_one", "_law_other"]) fun _ _ _ _ _ _ us hl => match us, hl with | [_, _, _], _ => rfl
  have g11 := PySem.W.mg_of X G a11
  have F12 := fun_mk (st := sLedge) l12 c12 k12
  have b12 := F12.binds (ps := ["_law_some", "_law_leaves_here", "_law_pool_here"]) fun _ _ _ _ _ _ us hl => match us, hl with | [_, _, _], _ => rfl
  have g12 := PySem.W.mg_of X G a12
  have m0 := PySem.W.mg_none_of X G z0
  have m1 := PySem.W.mg_none_of X G z1
  have m2 := PySem.W.mg_none_of X G z2
  have m3 := PySem.W.mg_none_of X G z3
  have m4 := PySem.W.mg_none_of X G z4
  have m5 := PySem.W.mg_none_of X G z5
  have m6 := PySem.W.mg_none_of X G z6
  have m7 := PySem.W.mg_none_of X G z7
  have m8 := PySem.W.mg_none_of X G z8
  have m9 := PySem.W.mg_none_of X G z9
  have m10 := PySem.W.mg_none_of X G z10
  have m11 := PySem.W.mg_none_of X G z11
  have m12 := PySem.W.mg_none_of X G z12
  have m13 := PySem.W.mg_none_of X G z13
  have m14 := PySem.W.mg_none_of X G z14
  have m15 := PySem.W.mg_none_of X G z15
  have m16 := PySem.W.mg_none_of X G z16
  have m17 := PySem.W.mg_none_of X G z17
  have m18 := PySem.W.mg_none_of X G z18
  have m19 := PySem.W.mg_none_of X G z19
  have m20 := PySem.W.mg_none_of X G z20
  exact ⟨PySem.W.fnOf "law" "law" (defArgs slawk72) (defBody slawk72) (defScope slawk72) .none kV0 dc0 pm0 an0 cd0 ct0, fun s v => .of_eq rfl, fun base _ _ => by
    have D_Lpool : Df K mg "_law_pool" sLpool ["_law_script", "_law_k"] := ⟨_, _, F1, b1, g1⟩
    have D_Ltake : Df K mg "_law_take" sLtake ["_law_pool_here", "_law_many"] := ⟨_, _, F2, b2, g2⟩
    have D_Lmarks : Df K mg "_law_marks" sLmarks ["_law_pool_here"] := ⟨_, _, F3, b3, g3⟩
    have D_Lunlike : Df K mg "_law_unlike" sLunlike ["_law_pool_here", "_law_marks_here"] := ⟨_, _, F4, b4, g4⟩
    have D_manyto : Df K mg "many_to" smanyto ["marks", "leaves"] := ⟨_, _, F5, b5, g5⟩
    have D_kindsmany : Df K mg "kinds_many" skindsmany ["marks", "leaves"] := ⟨_, _, F6, b6, g6⟩
    have D_kindwith : Df K mg "kind_with" skindwith ["marks", "many", "leaves", "number"] := ⟨_, _, F7, b7, g7⟩
    have D_kindat : Df K mg "kind_at" skindat ["marks", "leaves", "number"] := ⟨_, _, F8, b8, g8⟩
    have D_Lcountsv2 : Df K mg "_law_counts" sLcountsv2 ["_law_many"] := ⟨_, _, F9, b9, g9⟩
    have D_Lleavesv4 : Df K mg "_law_leaves" sLleavesv4 ["_law_kind"] := ⟨_, _, F10, b10, g10⟩
    have D_Lahead : Df K mg "_law_ahead" sLahead ["_law_marks_here", "_law_one", "_law_other"] := ⟨_, _, F11, b11, g11⟩
    have D_Ledge : Df K mg "_law_edge" sLedge ["_law_some", "_law_leaves_here", "_law_pool_here"] := ⟨_, _, F12, b12, g12⟩
    have B : Blt mg := ⟨m0, m1, m2, m3, m4, m5, m6, m7, m8, m9, m10, m11, m12, m13, m14, m15, m16, m17, m18, m19, m20⟩
    have G_Lpool : VFn l.prog w K mg base 1 "_law_pool" ["_law_script", "_law_k"] pPool := ok_Lpool D_Lpool B (fun ss st Kp h => by first | (obtain ⟨h, _⟩ := h; rw [h]; rfl) | (obtain ⟨_, h, _⟩ := h; rw [h]; rfl) | (obtain ⟨_, _, h, _⟩ := h; rw [h]; rfl) | (obtain ⟨_, _, _, h, _⟩ := h; rw [h]; rfl) | (obtain ⟨_, _, _, _, h, _⟩ := h; rw [h]; rfl) | (obtain ⟨_, _, _, _, _, h, _⟩ := h; rw [h]; rfl) | (obtain ⟨_, _, _, _, _, _, h, _⟩ := h; rw [h]; rfl) | (obtain ⟨_, _, _, _, _, _, _, h, _⟩ := h; rw [h]; rfl) | (obtain ⟨_, _, _, _, _, _, _, _, h, _⟩ := h; rw [h]; rfl) | (obtain ⟨_, _, _, h, _⟩ := i_take h; rw [h]; rfl)) (fun ss cs Kp h => r_pool h)
    have G_Ltake : VFn l.prog w K mg base 1 "_law_take" ["_law_pool_here", "_law_many"] pTake := ok_Ltake D_Ltake (fun ss st Kp h => by first | (obtain ⟨h, _⟩ := h; rw [h]; rfl) | (obtain ⟨_, h, _⟩ := h; rw [h]; rfl) | (obtain ⟨_, _, h, _⟩ := h; rw [h]; rfl) | (obtain ⟨_, _, _, h, _⟩ := h; rw [h]; rfl) | (obtain ⟨_, _, _, _, h, _⟩ := h; rw [h]; rfl) | (obtain ⟨_, _, _, _, _, h, _⟩ := h; rw [h]; rfl) | (obtain ⟨_, _, _, _, _, _, h, _⟩ := h; rw [h]; rfl) | (obtain ⟨_, _, _, _, _, _, _, h, _⟩ := h; rw [h]; rfl) | (obtain ⟨_, _, _, _, _, _, _, _, h, _⟩ := h; rw [h]; rfl) | (obtain ⟨_, _, _, h, _⟩ := i_take h; rw [h]; rfl)) (fun ss cs Kp h => r_take h)
    have G_Lmarks : VFn l.prog w K mg base 2 "_law_marks" ["_law_pool_here"] pMarks := ok_Lmarks D_Lmarks G_Ltake (by omega) B (fun ss st Kp h => by first | (obtain ⟨h, _⟩ := h; rw [h]; rfl) | (obtain ⟨_, h, _⟩ := h; rw [h]; rfl) | (obtain ⟨_, _, h, _⟩ := h; rw [h]; rfl) | (obtain ⟨_, _, _, h, _⟩ := h; rw [h]; rfl) | (obtain ⟨_, _, _, _, h, _⟩ := h; rw [h]; rfl) | (obtain ⟨_, _, _, _, _, h, _⟩ := h; rw [h]; rfl) | (obtain ⟨_, _, _, _, _, _, h, _⟩ := h; rw [h]; rfl) | (obtain ⟨_, _, _, _, _, _, _, h, _⟩ := h; rw [h]; rfl) | (obtain ⟨_, _, _, _, _, _, _, _, h, _⟩ := h; rw [h]; rfl) | (obtain ⟨_, _, _, h, _⟩ := i_take h; rw [h]; rfl)) (fun ss cs Kp h => r_marks h)
    have G_Lunlike : VFn l.prog w K mg base 2 "_law_unlike" ["_law_pool_here", "_law_marks_here"] pUnlike := ok_Lunlike D_Lunlike G_Ltake (by omega) B (fun ss st Kp h => by first | (obtain ⟨h, _⟩ := h; rw [h]; rfl) | (obtain ⟨_, h, _⟩ := h; rw [h]; rfl) | (obtain ⟨_, _, h, _⟩ := h; rw [h]; rfl) | (obtain ⟨_, _, _, h, _⟩ := h; rw [h]; rfl) | (obtain ⟨_, _, _, _, h, _⟩ := h; rw [h]; rfl) | (obtain ⟨_, _, _, _, _, h, _⟩ := h; rw [h]; rfl) | (obtain ⟨_, _, _, _, _, _, h, _⟩ := h; rw [h]; rfl) | (obtain ⟨_, _, _, _, _, _, _, h, _⟩ := h; rw [h]; rfl) | (obtain ⟨_, _, _, _, _, _, _, _, h, _⟩ := h; rw [h]; rfl) | (obtain ⟨_, _, _, h, _⟩ := i_take h; rw [h]; rfl)) (fun ss cs Kp h => r_unlike h)
    have G_manyto : VFn l.prog w K mg base 1 "many_to" ["marks", "leaves"] pManyTo := ok_manyto D_manyto B (fun ss st Kp h => by first | (obtain ⟨h, _⟩ := h; rw [h]; rfl) | (obtain ⟨_, h, _⟩ := h; rw [h]; rfl) | (obtain ⟨_, _, h, _⟩ := h; rw [h]; rfl) | (obtain ⟨_, _, _, h, _⟩ := h; rw [h]; rfl) | (obtain ⟨_, _, _, _, h, _⟩ := h; rw [h]; rfl) | (obtain ⟨_, _, _, _, _, h, _⟩ := h; rw [h]; rfl) | (obtain ⟨_, _, _, _, _, _, h, _⟩ := h; rw [h]; rfl) | (obtain ⟨_, _, _, _, _, _, _, h, _⟩ := h; rw [h]; rfl) | (obtain ⟨_, _, _, _, _, _, _, _, h, _⟩ := h; rw [h]; rfl) | (obtain ⟨_, _, _, h, _⟩ := i_take h; rw [h]; rfl)) (fun ss cs Kp h => r_manyto h)
    have G_kindsmany : VFn l.prog w K mg base 2 "kinds_many" ["marks", "leaves"] pKindsMany := ok_kindsmany D_kindsmany G_manyto (by omega) (fun ss st Kp h => by first | (obtain ⟨h, _⟩ := h; rw [h]; rfl) | (obtain ⟨_, h, _⟩ := h; rw [h]; rfl) | (obtain ⟨_, _, h, _⟩ := h; rw [h]; rfl) | (obtain ⟨_, _, _, h, _⟩ := h; rw [h]; rfl) | (obtain ⟨_, _, _, _, h, _⟩ := h; rw [h]; rfl) | (obtain ⟨_, _, _, _, _, h, _⟩ := h; rw [h]; rfl) | (obtain ⟨_, _, _, _, _, _, h, _⟩ := h; rw [h]; rfl) | (obtain ⟨_, _, _, _, _, _, _, h, _⟩ := h; rw [h]; rfl) | (obtain ⟨_, _, _, _, _, _, _, _, h, _⟩ := h; rw [h]; rfl) | (obtain ⟨_, _, _, h, _⟩ := i_take h; rw [h]; rfl)) (fun ss cs Kp h => r_kindsmany h)
    have R_kindwith : ∀ N : Nat, VFn l.prog w K mg base (N + 1) "kind_with" ["marks", "many", "leaves", "number"] (pKindWith N) := by
      intro N
      induction N with
      | zero => exact vacF D_kindwith sckindwith (fun ss st Kp ⟨_, _, _, _, _, _, _, _, _, h1, _, h2, _⟩ => by omega)
      | succ N ih => exact ok_kindwith D_kindwith ih (by omega) B (fun ss st Kp h => by first | (obtain ⟨h, _⟩ := h; rw [h]; rfl) | (obtain ⟨_, h, _⟩ := h; rw [h]; rfl) | (obtain ⟨_, _, h, _⟩ := h; rw [h]; rfl) | (obtain ⟨_, _, _, h, _⟩ := h; rw [h]; rfl) | (obtain ⟨_, _, _, _, h, _⟩ := h; rw [h]; rfl) | (obtain ⟨_, _, _, _, _, h, _⟩ := h; rw [h]; rfl) | (obtain ⟨_, _, _, _, _, _, h, _⟩ := h; rw [h]; rfl) | (obtain ⟨_, _, _, _, _, _, _, h, _⟩ := h; rw [h]; rfl) | (obtain ⟨_, _, _, _, _, _, _, _, h, _⟩ := h; rw [h]; rfl) | (obtain ⟨_, _, _, h, _⟩ := i_take h; rw [h]; rfl)) (fun ss cs Kp h => r_kindwith h)
    have G_kindwith := R_kindwith 10
    have G_kindat : VFn l.prog w K mg base 12 "kind_at" ["marks", "leaves", "number"] pKindAt := ok_kindat D_kindat G_manyto (by omega) G_kindwith (by omega) (fun ss st Kp h => by first | (obtain ⟨h, _⟩ := h; rw [h]; rfl) | (obtain ⟨_, h, _⟩ := h; rw [h]; rfl) | (obtain ⟨_, _, h, _⟩ := h; rw [h]; rfl) | (obtain ⟨_, _, _, h, _⟩ := h; rw [h]; rfl) | (obtain ⟨_, _, _, _, h, _⟩ := h; rw [h]; rfl) | (obtain ⟨_, _, _, _, _, h, _⟩ := h; rw [h]; rfl) | (obtain ⟨_, _, _, _, _, _, h, _⟩ := h; rw [h]; rfl) | (obtain ⟨_, _, _, _, _, _, _, h, _⟩ := h; rw [h]; rfl) | (obtain ⟨_, _, _, _, _, _, _, _, h, _⟩ := h; rw [h]; rfl) | (obtain ⟨_, _, _, h, _⟩ := i_take h; rw [h]; rfl)) (fun ss cs Kp h => r_kindat h)
    have G_Lcountsv2 : VFn l.prog w K mg base 1 "_law_counts" ["_law_many"] pCounts := ok_Lcountsv2 D_Lcountsv2 B (fun ss st Kp h => by first | (obtain ⟨h, _⟩ := h; rw [h]; rfl) | (obtain ⟨_, h, _⟩ := h; rw [h]; rfl) | (obtain ⟨_, _, h, _⟩ := h; rw [h]; rfl) | (obtain ⟨_, _, _, h, _⟩ := h; rw [h]; rfl) | (obtain ⟨_, _, _, _, h, _⟩ := h; rw [h]; rfl) | (obtain ⟨_, _, _, _, _, h, _⟩ := h; rw [h]; rfl) | (obtain ⟨_, _, _, _, _, _, h, _⟩ := h; rw [h]; rfl) | (obtain ⟨_, _, _, _, _, _, _, h, _⟩ := h; rw [h]; rfl) | (obtain ⟨_, _, _, _, _, _, _, _, h, _⟩ := h; rw [h]; rfl) | (obtain ⟨_, _, _, h, _⟩ := i_take h; rw [h]; rfl)) (fun ss cs Kp h => r_counts2 h)
    have R_Lleavesv4 : ∀ N : Nat, VFn l.prog w K mg base (N + 1) "_law_leaves" ["_law_kind"] (pLlv N) := by
      intro N
      induction N with
      | zero => exact vacF D_Lleavesv4 scLleavesv4 (fun ss st Kp ⟨k, _, _, h2, _⟩ => by have := k.leaves_pos; omega)
      | succ N ih => exact ok_Lleavesv4 D_Lleavesv4 ih (by omega) B (fun ss st Kp h => by first | (obtain ⟨h, _⟩ := h; rw [h]; rfl) | (obtain ⟨_, h, _⟩ := h; rw [h]; rfl) | (obtain ⟨_, _, h, _⟩ := h; rw [h]; rfl) | (obtain ⟨_, _, _, h, _⟩ := h; rw [h]; rfl) | (obtain ⟨_, _, _, _, h, _⟩ := h; rw [h]; rfl) | (obtain ⟨_, _, _, _, _, h, _⟩ := h; rw [h]; rfl) | (obtain ⟨_, _, _, _, _, _, h, _⟩ := h; rw [h]; rfl) | (obtain ⟨_, _, _, _, _, _, _, h, _⟩ := h; rw [h]; rfl) | (obtain ⟨_, _, _, _, _, _, _, _, h, _⟩ := h; rw [h]; rfl) | (obtain ⟨_, _, _, h, _⟩ := i_take h; rw [h]; rfl)) (fun ss cs Kp h => r_llv h)
    have G_Lleavesv4 := R_Lleavesv4 10
    have R_Lahead : ∀ N : Nat, VFn l.prog w K mg base (N + 12) "_law_ahead" ["_law_marks_here", "_law_one", "_law_other"] (pAhead N) := by
      intro N
      induction N with
      | zero => exact vacF D_Lahead scLahead (fun ss st Kp ⟨_, k, _, _, _, _, _, _, _, _, h2, _⟩ => by have := k.leaves_pos; omega)
      | succ N ih => exact ok_Lahead D_Lahead G_Lleavesv4 (by omega) ih (by omega) B (fun ss st Kp h => by first | (obtain ⟨h, _⟩ := h; rw [h]; rfl) | (obtain ⟨_, h, _⟩ := h; rw [h]; rfl) | (obtain ⟨_, _, h, _⟩ := h; rw [h]; rfl) | (obtain ⟨_, _, _, h, _⟩ := h; rw [h]; rfl) | (obtain ⟨_, _, _, _, h, _⟩ := h; rw [h]; rfl) | (obtain ⟨_, _, _, _, _, h, _⟩ := h; rw [h]; rfl) | (obtain ⟨_, _, _, _, _, _, h, _⟩ := h; rw [h]; rfl) | (obtain ⟨_, _, _, _, _, _, _, h, _⟩ := h; rw [h]; rfl) | (obtain ⟨_, _, _, _, _, _, _, _, h, _⟩ := h; rw [h]; rfl) | (obtain ⟨_, _, _, h, _⟩ := i_take h; rw [h]; rfl)) (fun ss cs Kp h => r_ahead h)
    have G_Lahead := R_Lahead 10
    have G_Ledge : VFn l.prog w K mg base 2 "_law_edge" ["_law_some", "_law_leaves_here", "_law_pool_here"] pEdge := ok_Ledge D_Ledge G_Ltake (by omega) B (fun ss st Kp h => by first | (obtain ⟨h, _⟩ := h; rw [h]; rfl) | (obtain ⟨_, h, _⟩ := h; rw [h]; rfl) | (obtain ⟨_, _, h, _⟩ := h; rw [h]; rfl) | (obtain ⟨_, _, _, h, _⟩ := h; rw [h]; rfl) | (obtain ⟨_, _, _, _, h, _⟩ := h; rw [h]; rfl) | (obtain ⟨_, _, _, _, _, h, _⟩ := h; rw [h]; rfl) | (obtain ⟨_, _, _, _, _, _, h, _⟩ := h; rw [h]; rfl) | (obtain ⟨_, _, _, _, _, _, _, h, _⟩ := h; rw [h]; rfl) | (obtain ⟨_, _, _, _, _, _, _, _, h, _⟩ := h; rw [h]; rfl) | (obtain ⟨_, _, _, h, _⟩ := i_take h; rw [h]; rfl)) (fun ss cs Kp h => r_edge h)
    exact (okV F0 sclawk72 (fun ss st Kp h => by first | (obtain ⟨h, _⟩ := h; rw [h]; rfl) | (obtain ⟨_, h, _⟩ := h; rw [h]; rfl) | (obtain ⟨_, _, h, _⟩ := h; rw [h]; rfl) | (obtain ⟨_, _, _, h, _⟩ := h; rw [h]; rfl) | (obtain ⟨_, _, _, _, h, _⟩ := h; rw [h]; rfl) | (obtain ⟨_, _, _, _, _, h, _⟩ := h; rw [h]; rfl) | (obtain ⟨_, _, _, _, _, _, h, _⟩ := h; rw [h]; rfl) | (obtain ⟨_, _, _, _, _, _, _, h, _⟩ := h; rw [h]; rfl) | (obtain ⟨_, _, _, _, _, _, _, _, h, _⟩ := h; rw [h]; rfl)) fun cdv A outer s H E hr => ⟨_, bd_lawk72 G_Lpool (by omega) G_Lunlike (by omega) G_Lmarks (by omega) G_Ltake (by omega) G_kindsmany (by omega) G_Ledge (by omega) G_Lcountsv2 (by omega) G_kindat (by omega) G_Lahead (by omega) B hr, fun ss cs Kp h => r_lawk72 h⟩).imp law_sp⟩
theorem walk {l : PySem.W.OpenLaw} {q : Program} {loose : List Str} {XP : (Str → Option Value) → Heap → Prop} {YP : World → Heap → Prop} {d : DefRec} {K : Params → PySem.W.Frag} (hn : l.most = some 63) (hdf : d.params.defaults = [])
    (hY : ∀ (w : World) (h : Heap), YP w h → (K w.params).In h)
    (F : ∀ (w : World) (mg : Str → Option Value) (fa : Addr) (h : Heap), (K w.params).In h → h.Ns mainGlobals mg → mg d.name = some (.ref fa) →
      ∃ fd : FuncData, (∀ (s : Shared) (u : Value), BindsTo s fd ⟨[u], []⟩ [("_law_script", u)]) ∧ ∀ base : Heap, (K w.params).In base → base.Ns mainGlobals mg → FnOk l.prog w (K w.params) mg base CX0 40 fa fd ["_law_script"] (spLaw (K w.params))) :
    PySem.W.WalkO q loose XP YP l.row.toRowW d [] (fun f vs => PySem.call f vs) :=
  L2.walk_of (n := 63) (k := 40) (x := "_law_script") (CX := fun _ => CX0) (sp := fun w => spLaw (K w.params)) hn (by decide) hdf ⟨rfl, by decide, by decide⟩ hY F (fun _ _ a ns hl _ hS => ⟨a, ns, rfl, hS, hl, fun _ => rfl⟩) fun _ _ _ _ _ z => z
end Kf
open PySem PySem.W PyProof.Rows
set_option maxRecDepth 100000 in
set_option maxHeartbeats 0 in
theorem PySem.Challenge.cw_kindfill_k72_kinds_in_order_holds : PySem.Challenge.rw_kindfill_k72_kinds_in_order.Holds := by
  w_on; o_law; k_head; (case hw => w_witness2)
  k_fill
  refine Kf.walk (l := PySem.Challenge.rw_kindfill_k72_kinds_in_order) rfl rfl (fun w h Y => PySem.W.kIn_of Y) ?F
  case F =>
    intro w mg fa h KX G hmg
    refine' Kf.all_mk KX G hmg ?a0 ?l0 ?c0 ?k0 ?a1 ?l1 ?c1 ?k1 ?a2 ?l2 ?c2 ?k2 ?a3 ?l3 ?c3 ?k3 ?a4 ?l4 ?c4 ?k4 ?a5 ?l5 ?c5 ?k5 ?a6 ?l6 ?c6 ?k6 ?a7 ?l7 ?c7 ?k7 ?a8 ?l8 ?c8 ?k8 ?a9 ?l9 ?c9 ?k9 ?a10 ?l10 ?c10 ?k10 ?a11 ?l11 ?c11 ?k11 ?a12 ?l12 ?c12 ?k12 ?z0 ?z1 ?z2 ?z3 ?z4 ?z5 ?z6 ?z7 ?z8 ?z9 ?z10 ?z11 ?z12 ?z13 ?z14 ?z15 ?z16 ?z17 ?z18 ?z19 ?z20
    (case a0 => k_is)
    (case l0 => k_is)
    (case c0 => k_is)
    (case k0 => k_is)
    (case a1 => k_is)
    (case l1 => k_is)
    (case c1 => k_is)
    (case k1 => k_is)
    (case a2 => k_is)
    (case l2 => k_is)
    (case c2 => k_is)
    (case k2 => k_is)
    (case a3 => k_is)
    (case l3 => k_is)
    (case c3 => k_is)
    (case k3 => k_is)
    (case a4 => k_is)
    (case l4 => k_is)
    (case c4 => k_is)
    (case k4 => k_is)
    (case a5 => k_is)
    (case l5 => k_is)
    (case c5 => k_is)
    (case k5 => k_is)
    (case a6 => k_is)
    (case l6 => k_is)
    (case c6 => k_is)
    (case k6 => k_is)
    (case a7 => k_is)
    (case l7 => k_is)
    (case c7 => k_is)
    (case k7 => k_is)
    (case a8 => k_is)
    (case l8 => k_is)
    (case c8 => k_is)
    (case k8 => k_is)
    (case a9 => k_is)
    (case l9 => k_is)
    (case c9 => k_is)
    (case k9 => k_is)
    (case a10 => k_is)
    (case l10 => k_is)
    (case c10 => k_is)
    (case k10 => k_is)
    (case a11 => k_is)
    (case l11 => k_is)
    (case c11 => k_is)
    (case k11 => k_is)
    (case a12 => k_is)
    (case l12 => k_is)
    (case c12 => k_is)
    (case k12 => k_is)
    (case z0 => k_is)
    (case z1 => k_is)
    (case z2 => k_is)
    (case z3 => k_is)
    (case z4 => k_is)
    (case z5 => k_is)
    (case z6 => k_is)
    (case z7 => k_is)
    (case z8 => k_is)
    (case z9 => k_is)
    (case z10 => k_is)
    (case z11 => k_is)
    (case z12 => k_is)
    (case z13 => k_is)
    (case z14 => k_is)
    (case z15 => k_is)
    (case z16 => k_is)
    (case z17 => k_is)
    (case z18 => k_is)
    (case z19 => k_is)
    (case z20 => k_is)
