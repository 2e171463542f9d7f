import PyProof.Rows.All
import Wide.All
import OpenK.AllK
import Wide.FinOn
import HandS.ForMost
import HandS.IsInst
import HandS.Flow
import HandS.Style
import HandS.Text
import HandS.AnyAll
import HandS.EndTab
import HandS.More
import HandS.Walk
import HandS.Codes
import HandS.NoneIn
import HandS.ForExc
import HandS.Zip
import HandS.Iter
import HandS.RevRange
import HandS.TupAny
import HandS.Deep
import PySem.Challenge.RW_kindfill_k14_step_places
set_option Elab.async false
set_option maxRecDepth 100000
set_option linter.all false
set_option autoImplicit false
namespace Vl
open PySem L2
/-! a layer over the hand layer: defs over data, without a heap. Data stands still; lists that change stand in a store of their own. -/
abbrev D := PyData
/-- what a name holds: data; the j-th list of the store; a list that is only read -/
inductive Sl where
  | val (d : D)
  | obj (j : Nat)
  | kn (ds : List D)
/-- names and the store (none: given away) -/
structure En where
  sl : List (Option Sl)
  st : List (Option (List D))
mutual
inductive At (K : PySem.W.Frag) (F : Hp) : D → V → Prop
  | non : At K F .none .non
  | bl (b : Bool) : At K F (.bool b) (.bl b)
  | int (i : Int) : At K F (.int i) (.int i)
  | str (x : Str) : At K F (.str x) (.str x)
  | lst {a : Addr} {xs : List V} {ds : List D} : F a = some (.lst xs) → AtL K F ds xs → At K F (.list ds) (.ref a)
  | tup {a : Addr} {xs : List V} {ds : List D} : SqT K F a xs → AtL K F ds xs → At K F (.tuple ds) (.ref a)
inductive AtL (K : PySem.W.Frag) (F : Hp) : List D → List V → Prop
  | nil : AtL K F [] []
  | cons {d : D} {ds : List D} {v : V} {vs : List V} : At K F d v → AtL K F ds vs → AtL K F (d :: ds) (v :: vs)
end
/-- what stood stands -/
def Le (F G : Hp) : Prop := ∀ b o, F b = some o → G b = some o
theorem Le.refl (F : Hp) : Le F F := fun _ _ e => e
theorem Le.trans {F G H : Hp} (a : Le F G) (b : Le G H) : Le F H := fun c o e => b c o (a c o e)
theorem Le.new {F : Hp} {p : Addr} {o : HO} (h : F p = none) : Le F (upd F p o) := fun b u e => by
  rw [upd_ne (ne_of_none e h)]
  exact e
theorem Le.free {F G : Hp} {p : Addr} (s : Le F G) (h : G p = none) : F p = none := by
  cases e : F p with
  | none => rfl
  | some o =>
    rw [s p o e] at h
    cases h
section
variable {K : PySem.W.Frag} {F G : Hp}
theorem sqT_le (s : Le F G) {a : Addr} {xs : List V} (h : SqT K F a xs) : SqT K G a xs := by
  rcases h with (h | ⟨o, h⟩) | h
  · exact .inl (.inl (s _ _ h))
  · exact .inl (.inr ⟨o, s _ _ h⟩)
  · exact .inr h
theorem sqL_le (s : Le F G) {a : Addr} {xs : List V} (h : SqL K F a xs) : SqL K G a xs := by
  rcases h with (h | ⟨o, h⟩) | h
  · exact .inl (.inl (s _ _ h))
  · exact .inl (.inr ⟨o, s _ _ h⟩)
  · exact .inr h
mutual
theorem At.le (s : Le F G) : ∀ (d : D) (v : V), At K F d v → At K G d v
  | .none, _, h => by
    cases h
    exact .non
  | .bool b, _, h => by
    cases h
    exact .bl b
  | .int i, _, h => by
    cases h
    exact .int i
  | .str x, _, h => by
    cases h
    exact .str x
  | .list ds, _, h => by
    cases h with
    | lst h1 h2 => exact .lst (s _ _ h1) (AtL.le s ds _ h2)
  | .tuple ds, _, h => by
    cases h with
    | tup h1 h2 => exact .tup (sqT_le s h1) (AtL.le s ds _ h2)
  | .dict _, _, h => by cases h
theorem AtL.le (s : Le F G) : ∀ (ds : List D) (vs : List V), AtL K F ds vs → AtL K G ds vs
  | [], _, h => by
    cases h
    exact .nil
  | d :: ds, _, h => by
    cases h with
    | cons h1 h2 => exact .cons (At.le s d _ h1) (AtL.le s ds _ h2)
end
mutual
theorem At.dp (s : Le F G) : ∀ (d : D) (v : V), At K F d v → Dp K G v d
  | .none, _, h => by
    cases h
    exact .non
  | .bool b, _, h => by
    cases h
    exact .bl b
  | .int i, _, h => by
    cases h
    exact .int i
  | .str x, _, h => by
    cases h
    exact .str x
  | .list ds, _, h => by
    cases h with
    | lst h1 h2 => exact .lst (SqL.of (s _ _ h1)) (AtL.dp s ds _ h2)
  | .tuple ds, _, h => by
    cases h with
    | tup h1 h2 => exact .tup (sqT_le s h1) (AtL.dp s ds _ h2)
  | .dict _, _, h => by cases h
theorem AtL.dp (s : Le F G) : ∀ (ds : List D) (vs : List V), AtL K F ds vs → DpAll K G vs ds
  | [], _, h => by
    cases h
    exact .nil
  | d :: ds, _, h => by
    cases h with
    | cons h1 h2 => exact .cons (At.dp s d _ h1) (AtL.dp s ds _ h2)
end
theorem AtL.len {ds : List D} {vs : List V} (h : AtL K F ds vs) : vs.length = ds.length := by
  induction ds generalizing vs with
  | nil =>
    cases h
    rfl
  | cons d ds ih =>
    cases h with
    | cons h1 h2 => simp [ih h2]
theorem AtL.app {ds es : List D} {vs us : List V} (h : AtL K F ds vs) (g : AtL K F es us) : AtL K F (ds ++ es) (vs ++ us) := by
  induction ds generalizing vs with
  | nil =>
    cases h
    exact g
  | cons d ds ih =>
    cases h with
    | cons h1 h2 => exact .cons h1 (ih h2)
theorem AtL.one {d : D} {v : V} (h : At K F d v) : AtL K F [d] [v] := .cons h .nil
theorem AtL.get {ds : List D} {vs : List V} {i : Nat} {d : D} (h : AtL K F ds vs) (e : ds[i]? = some d) : ∃ v, vs[i]? = some v ∧ At K F d v := by
  induction ds generalizing vs i with
  | nil => simp at e
  | cons c ds ih =>
    cases h with
    | cons h1 h2 =>
      cases i with
      | zero =>
        simp at e
        exact ⟨_, rfl, e ▸ h1⟩
      | succ i => exact ih (i := i) h2 (by simpa using e)
theorem AtL.getV {ds : List D} {vs : List V} {i : Nat} {v : V} (h : AtL K F ds vs) (e : vs[i]? = some v) : ∃ d, ds[i]? = some d ∧ At K F d v := by
  have hl := h.len
  have hi := (List.getElem?_eq_some_iff.mp e).1
  have e' : ds[i]? = some (ds[i]'(by omega)) := by simp [show i < ds.length by omega]
  obtain ⟨u, hu, a⟩ := h.get e'
  rw [e] at hu
  cases hu
  exact ⟨_, e', a⟩
theorem AtL.set {ds : List D} {vs : List V} {d : D} {v : V} (g : At K F d v) (j : Nat) (h : AtL K F ds vs) : AtL K F (ds.set j d) (vs.set j v) := by
  induction ds generalizing vs j with
  | nil =>
    cases h
    exact .nil
  | cons c ds ih =>
    cases h with
    | cons h1 h2 =>
      cases j with
      | zero => exact .cons g h2
      | succ j => exact .cons h1 (ih j h2)
theorem AtL.take {ds : List D} {vs : List V} (n : Nat) (h : AtL K F ds vs) : AtL K F (ds.take n) (vs.take n) := by
  induction ds generalizing vs n with
  | nil =>
    cases h
    simp
    exact .nil
  | cons c ds ih =>
    cases h with
    | cons h1 h2 =>
      cases n with
      | zero => exact .nil
      | succ n => exact .cons h1 (ih n h2)
theorem AtL.drop {ds : List D} {vs : List V} (n : Nat) (h : AtL K F ds vs) : AtL K F (ds.drop n) (vs.drop n) := by
  induction ds generalizing vs n with
  | nil =>
    cases h
    simp
    exact .nil
  | cons c ds ih =>
    cases h with
    | cons h1 h2 =>
      cases n with
      | zero => exact .cons h1 h2
      | succ n => exact ih n h2
theorem AtL.dropLast {ds : List D} {vs : List V} (h : AtL K F ds vs) : AtL K F ds.dropLast vs.dropLast := by
  rw [List.dropLast_eq_take, List.dropLast_eq_take, h.len]
  exact h.take _
end
/-- a name's value -/
def SlAt (K : PySem.W.Frag) (F : Hp) (A : List Addr) (v : V) : Sl → Prop
  | .val d => At K F d v
  | .obj j => ∃ a, A[j]? = some a ∧ v = .ref a
  | .kn ds => ∃ a xs, v = .ref a ∧ SqL K F a xs ∧ AtL K F ds xs
theorem SlAt.le {K : PySem.W.Frag} {F G : Hp} {A B : List Addr} (s : Le F G) (p : A <+: B) {v : V} : ∀ {x : Sl}, SlAt K F A v x → SlAt K G B v x
  | .val d, h => At.le s d v h
  | .obj j, ⟨a, e, h⟩ => ⟨a, by
      obtain ⟨t, rfl⟩ := p
      have hj := (List.getElem?_eq_some_iff.mp e).1
      rw [List.getElem?_append_left hj]
      exact e, h⟩
  | .kn ds, ⟨a, xs, e, h1, h2⟩ => ⟨a, xs, e, sqL_le s h1, AtL.le s ds xs h2⟩
/-- how names, store and heap stand: F what stands still, R what the callers keep, A where the store's lists lie -/
structure Rep (K : PySem.W.Frag) (R F : Hp) (A : List Addr) (σ : List (Option V)) (H : Hp) (e : En) : Prop where
  sub : Le F H
  keep : Le R H
  apart : ∀ a o, R a = some o → F a = none ∧ a ∉ A
  len : e.sl.length = σ.length
  lenA : e.st.length = A.length
  nodup : A.Nodup
  live : ∀ a ∈ A, ∃ o, H a = some o
  slot : ∀ (i : Nat) (s : Sl), e.sl[i]? = some (some s) → ∃ v, σ[i]? = some (some v) ∧ SlAt K F A v s
  store : ∀ (j : Nat) (ds : List D), e.st[j]? = some (some ds) → ∃ a xs, A[j]? = some a ∧ F a = none ∧ H a = some (.lst xs) ∧ AtL K F ds xs
section
variable {K : PySem.W.Frag} {R F : Hp} {A : List Addr} {σ : L2.St} {H : Hp} {e : En}
theorem pfx_refl (A : List Addr) : A <+: A := List.prefix_refl A
theorem nodup_at {A : List Addr} (h : A.Nodup) {i j : Nat} {a : Addr} (e : A[i]? = some a) (f : A[j]? = some a) : i = j := by
  obtain ⟨hi, ei⟩ := List.getElem?_eq_some_iff.mp e
  obtain ⟨hj, ej⟩ := List.getElem?_eq_some_iff.mp f
  exact (List.getElem_inj h).mp (ei.trans ej.symm)
/-- a new thing that stands still -/
theorem Rep.fresh (r : Rep K R F A σ H e) {p : Addr} (hp : H p = none) (o : HO) : Rep K R (upd F p o) A σ (upd H p o) e ∧ Le F (upd F p o) := by
  have hF : F p = none := r.sub.free hp
  have hR : R p = none := r.keep.free hp
  have hA : p ∉ A := fun hm => by
    obtain ⟨o, ho⟩ := r.live p hm
    rw [ho] at hp
    cases hp
  have l := Le.new (o := o) hF
  have l2 := Le.new (o := o) hp
  refine ⟨⟨fun b u z => ?_, Le.trans r.keep l2, fun a u z => ⟨?_, (r.apart a u z).2⟩, r.len, r.lenA, r.nodup, fun a ha => ?_, fun i s z => ?_, fun j ds z => ?_⟩, l⟩
  · by_cases hb : b = p
    · subst hb
      rw [upd_same] at z ⊢
      exact z
    · rw [upd_ne hb] at z ⊢
      exact r.sub _ _ z
  · rw [upd_ne (fun q => by rw [q, hR] at z; cases z)]
    exact (r.apart a u z).1
  · obtain ⟨u, hu⟩ := r.live a ha
    exact ⟨u, l2 _ _ hu⟩
  · obtain ⟨v, h1, h2⟩ := r.slot i s z
    exact ⟨v, h1, h2.le l (pfx_refl A)⟩
  · obtain ⟨a, xs, h1, h2, h3, h4⟩ := r.store j ds z
    refine ⟨a, xs, h1, ?_, l2 _ _ h3, AtL.le l _ _ h4⟩
    have n : a ≠ p := fun q => hA (by rw [← q]; exact List.mem_of_getElem? h1)
    rw [upd_ne n]
    exact h2
/-- a new list of the store -/
theorem Rep.alloc (r : Rep K R F A σ H e) {p : Addr} (hp : H p = none) {xs : List V} {ds : List D} (hx : AtL K F ds xs) : Rep K R F (A ++ [p]) σ (upd H p (.lst xs)) ⟨e.sl, e.st ++ [some ds]⟩ ∧ A <+: A ++ [p] := by
  have hF : F p = none := r.sub.free hp
  have hR : R p = none := r.keep.free hp
  have hA : p ∉ A := fun hm => by
    obtain ⟨o, ho⟩ := r.live p hm
    rw [ho] at hp
    cases hp
  have l2 := Le.new (o := .lst xs) hp
  have pf : A <+: A ++ [p] := ⟨[p], rfl⟩
  refine ⟨⟨Le.trans r.sub l2, Le.trans r.keep l2, fun a u z => ⟨(r.apart a u z).1, fun hm => ?_⟩, r.len, ?_, ?_, fun a ha => ?_, fun i s z => ?_, fun j cs z => ?_⟩, pf⟩
  · rcases List.mem_append.mp hm with hm | hm
    · exact (r.apart a u z).2 hm
    · rw [List.mem_singleton.mp hm, hR] at z
      cases z
  · simp [r.lenA]
  · rw [List.nodup_append]
    exact ⟨r.nodup, by simp, fun a ha b hb q => hA (by rw [List.mem_singleton.mp hb] at q; exact q ▸ ha)⟩
  · rcases List.mem_append.mp ha with ha | ha
    · obtain ⟨u, hu⟩ := r.live a ha
      exact ⟨u, l2 _ _ hu⟩
    · rw [List.mem_singleton.mp ha]
      exact ⟨_, upd_same⟩
  · obtain ⟨v, h1, h2⟩ := r.slot i s z
    exact ⟨v, h1, h2.le (Le.refl F) pf⟩
  · by_cases hj : j < e.st.length
    · rw [show (⟨e.sl, e.st ++ [some ds]⟩ : En).st = e.st ++ [some ds] from rfl, List.getElem?_append_left hj] at z
      obtain ⟨a, ys, h1, h2, h3, h4⟩ := r.store j cs z
      have hj' : j < A.length := by rw [← r.lenA]; exact hj
      exact ⟨a, ys, by rw [List.getElem?_append_left hj']; exact h1, h2, l2 _ _ h3, h4⟩
    · have z' : (e.st ++ [some ds])[j]? = some (some cs) := z
      rw [List.getElem?_append_right (by omega)] at z'
      have hj0 : j - e.st.length = 0 := by
        rcases Nat.eq_zero_or_pos (j - e.st.length) with q | q
        · exact q
        · rw [List.getElem?_eq_none (by simp; omega)] at z'
          cases z'
      rw [hj0] at z'
      simp at z'
      subst z'
      refine ⟨p, xs, ?_, hF, upd_same, hx⟩
      rw [List.getElem?_append_right (by rw [← r.lenA]; omega), ← r.lenA, hj0] <;> rfl
/-- the j-th list of the store is changed -/
theorem Rep.write (r : Rep K R F A σ H e) {j : Nat} {a : Addr} {ds : List D} (hj : A[j]? = some a) (hl : e.st[j]? = some (some ds)) {xs' : List V} {ds' : List D} (hx : AtL K F ds' xs') :
    Rep K R F A σ (upd H a (.lst xs')) ⟨e.sl, e.st.set j (some ds')⟩ := by
  obtain ⟨a', xs, e1, hF, hH, _⟩ := r.store j ds hl
  rw [hj] at e1
  cases e1
  have hjl : j < e.st.length := (List.getElem?_eq_some_iff.mp hl).1
  have hm : a ∈ A := List.mem_of_getElem? hj
  refine ⟨fun b u z => ?_, fun b u z => ?_, r.apart, r.len, by simp [r.lenA], r.nodup, fun b hb => ?_, r.slot, fun i cs z => ?_⟩
  · rw [upd_ne (fun q => by rw [q, hF] at z; cases z)]
    exact r.sub _ _ z
  · have n : b ≠ a := fun q => (r.apart b u z).2 (by rw [q]; exact hm)
    rw [upd_ne n]
    exact r.keep _ _ z
  · by_cases q : b = a
    · subst q
      exact ⟨_, upd_same⟩
    · rw [upd_ne q]
      exact r.live b hb
  · have z' : (e.st.set j (some ds'))[i]? = some (some cs) := z
    by_cases q : i = j
    · subst q
      rw [List.getElem?_set_self hjl] at z'
      cases z'
      exact ⟨a, xs', hj, hF, upd_same, hx⟩
    · rw [List.getElem?_set_ne (Ne.symm q)] at z'
      obtain ⟨b, ys, h1, h2, h3, h4⟩ := r.store i cs z'
      refine ⟨b, ys, h1, h2, ?_, h4⟩
      have n : b ≠ a := fun w => q (nodup_at r.nodup (by rw [← w]; exact h1) hj)
      rw [upd_ne n]
      exact h3
/-- a name is given a value -/
theorem Rep.put (r : Rep K R F A σ H e) {i : Nat} {v : V} {s : Sl} (h : SlAt K F A v s) : Rep K R F A (σ.set i (some v)) H ⟨e.sl.set i (some s), e.st⟩ := by
  refine ⟨r.sub, r.keep, r.apart, by simp [r.len], r.lenA, r.nodup, r.live, fun k t z => ?_, r.store⟩
  have z' : (e.sl.set i (some s))[k]? = some (some t) := z
  by_cases q : k = i
  · subst q
    have hk : k < e.sl.length := by
      have := (List.getElem?_eq_some_iff.mp z').1
      simpa using this
    rw [List.getElem?_set_self hk] at z'
    cases z'
    exact ⟨v, by rw [List.getElem?_set_self (by rw [← r.len]; exact hk)], h⟩
  · rw [List.getElem?_set_ne (Ne.symm q)] at z'
    obtain ⟨u, h1, h2⟩ := r.slot k t z'
    exact ⟨u, by rw [List.getElem?_set_ne (Ne.symm q)]; exact h1, h2⟩
/-- the names that hold the j-th list hold data from now on -/
def thaw (j : Nat) (ds : List D) : Option Sl → Option Sl
  | some (.obj i) => if i = j then some (.val (.list ds)) else some (.obj i)
  | s => s
def En.kill (e : En) (j : Nat) (ds : List D) : En := ⟨e.sl.map (thaw j ds), e.st.set j none⟩
theorem Rep.freeze (r : Rep K R F A σ H e) {j : Nat} {ds : List D} (hl : e.st[j]? = some (some ds)) :
    ∃ a xs, A[j]? = some a ∧ Rep K R (upd F a (.lst xs)) A σ H (e.kill j ds) ∧ Le F (upd F a (.lst xs)) ∧ At K (upd F a (.lst xs)) (.list ds) (.ref a) := by
  obtain ⟨a, xs, hj, hF, hH, hx⟩ := r.store j ds hl
  have hm : a ∈ A := List.mem_of_getElem? hj
  have l := Le.new (o := .lst xs) hF
  have hat : At K (upd F a (.lst xs)) (.list ds) (.ref a) := .lst upd_same (AtL.le l _ _ hx)
  refine ⟨a, xs, hj, ⟨fun b u z => ?_, r.keep, fun b u z => ⟨?_, (r.apart b u z).2⟩, by simp [En.kill, r.len], by simp [En.kill, r.lenA], r.nodup, r.live, fun i s z => ?_, fun i cs z => ?_⟩, l, hat⟩
  · by_cases hb : b = a
    · subst hb
      rw [upd_same] at z
      cases z
      exact hH
    · rw [upd_ne hb] at z
      exact r.sub _ _ z
  · have n : b ≠ a := fun q => (r.apart b u z).2 (by rw [q]; exact hm)
    rw [upd_ne n]
    exact (r.apart b u z).1
  · have z' : (e.sl.map (thaw j ds))[i]? = some (some s) := z
    rw [List.getElem?_map] at z'
    obtain ⟨t, ht, hs⟩ := Option.map_eq_some_iff.mp z'
    cases t with
    | none => cases hs
    | some t =>
      cases t with
      | val d =>
        cases hs
        obtain ⟨v, h1, h2⟩ := r.slot i _ ht
        exact ⟨v, h1, h2.le l (pfx_refl A)⟩
      | kn d =>
        cases hs
        obtain ⟨v, h1, h2⟩ := r.slot i _ ht
        exact ⟨v, h1, SlAt.le (x := .kn d) l (pfx_refl A) h2⟩
      | obj k =>
        obtain ⟨v, h1, b, hb, hv⟩ := r.slot i _ ht
        have hs' : (if k = j then some (Sl.val (.list ds)) else some (Sl.obj k)) = some s := hs
        split at hs'
        · rename_i q
          cases hs'
          subst q
          rw [hj] at hb
          cases hb
          exact ⟨v, h1, by rw [hv]; exact hat⟩
        · cases hs'
          exact ⟨v, h1, b, hb, hv⟩
  · have z' : (e.st.set j none)[i]? = some (some cs) := z
    have hjl : j < e.st.length := (List.getElem?_eq_some_iff.mp hl).1
    by_cases q : i = j
    · subst q
      rw [List.getElem?_set_self hjl] at z'
      cases z'
    · rw [List.getElem?_set_ne (Ne.symm q)] at z'
      obtain ⟨b, ys, h1, h2, h3, h4⟩ := r.store i cs z'
      refine ⟨b, ys, h1, ?_, h3, AtL.le l _ _ h4⟩
      have n : b ≠ a := fun w => q (nodup_at r.nodup (by rw [← w]; exact h1) hj)
      rw [upd_ne n]
      exact h2
/-- a name's value is forgotten -/
theorem Rep.weak (r : Rep K R F A σ H e) {σ' : L2.St} {sl : List (Option Sl)} (hl : sl.length = σ'.length) (h : ∀ (i : Nat) (s : Sl), sl[i]? = some (some s) → ∃ v, σ'[i]? = some (some v) ∧ SlAt K F A v s) : Rep K R F A σ' H ⟨sl, e.st⟩ :=
  ⟨r.sub, r.keep, r.apart, hl, r.lenA, r.nodup, r.live, h, r.store⟩
end
end Vl
namespace Vl
open PySem L2
abbrev KE := Sl → En → Prop
abbrev VTE := En → KE → Prop
abbrev VTT := En → (Bool → En → Prop) → Prop
abbrev VTA := En → (List Sl → En → Prop) → Prop
def Fin (K : PySem.W.Frag) (R F : Hp) (A : List Addr) (σ : L2.St) (Kp : KE) (Q : VK) : Prop := ∀ s e' v F' A' H', Kp s e' → Le F F' → A <+: A' → Rep K R F' A' σ H' e' → SlAt K F' A' v s → Q v H'
def liftE (K : PySem.W.Frag) (t : VTE) : TE := fun σ H Q => ∃ R F A e Kp, Rep K R F A σ H e ∧ t e Kp ∧ Fin K R F A σ Kp Q
def FinT (K : PySem.W.Frag) (R F : Hp) (A : List Addr) (σ : L2.St) (Kp : Bool → En → Prop) (Q : Bool → Hp → Prop) : Prop := ∀ b e' F' A' H', Kp b e' → Le F F' → A <+: A' → Rep K R F' A' σ H' e' → Q b H'
def liftT (K : PySem.W.Frag) (t : VTT) : TT := fun σ H Q => ∃ R F A e Kp, Rep K R F A σ H e ∧ t e Kp ∧ FinT K R F A σ Kp Q
inductive SlAts (K : PySem.W.Frag) (F : Hp) (A : List Addr) : List V → List Sl → Prop
  | nil : SlAts K F A [] []
  | cons {v : V} {vs : List V} {s : Sl} {ss : List Sl} : SlAt K F A v s → SlAts K F A vs ss → SlAts K F A (v :: vs) (s :: ss)
theorem SlAts.le {K : PySem.W.Frag} {F G : Hp} {A B : List Addr} (s : Le F G) (p : A <+: B) {vs : List V} {ss : List Sl} (h : SlAts K F A vs ss) : SlAts K G B vs ss := by
  induction h with
  | nil => exact .nil
  | cons h _ ih => exact .cons (h.le s p) ih
theorem SlAts.len {K : PySem.W.Frag} {F : Hp} {A : List Addr} {vs : List V} {ss : List Sl} (h : SlAts K F A vs ss) : vs.length = ss.length := by
  induction h with
  | nil => rfl
  | cons h _ ih => simp [ih]
def FinA (K : PySem.W.Frag) (R F : Hp) (A : List Addr) (σ : L2.St) (Kp : List Sl → En → Prop) (Q : List V → Hp → Prop) : Prop := ∀ ss e' vs F' A' H', Kp ss e' → Le F F' → A <+: A' → Rep K R F' A' σ H' e' → SlAts K F' A' vs ss → Q vs H'
def liftA (K : PySem.W.Frag) (t : VTA) : TA := fun σ H Q => ∃ R F A e Kp, Rep K R F A σ H e ∧ t e Kp ∧ FinA K R F A σ Kp Q
/-- the judgements -/
def VE (X : Cx) (ex : Expr) (t : VTE) : Prop := PE X ex (liftE X.K t)
def VT (X : Cx) (ex : Expr) (t : VTT) : Prop := PT X ex (liftT X.K t)
def VW (X : Cx) (ex : Expr) (t : VTT) : Prop := PW X ex (liftT X.K t)
def VA (X : Cx) (es : List Expr) (t : VTA) : Prop := PA X es (liftA X.K t)
theorem PE.imp {X : Cx} {ex : Expr} {t t' : TE} (h : PE X ex t) (f : ∀ σ H Q, t' σ H Q → t σ H Q) : PE X ex t' := ⟨fun pins s σ H Q I q => h.run pins s σ H Q I (f σ H Q q)⟩
theorem PT.imp {X : Cx} {ex : Expr} {t t' : TT} (h : PT X ex t) (f : ∀ σ H Q, t' σ H Q → t σ H Q) : PT X ex t' := ⟨fun pins s σ H Q I q => h.run pins s σ H Q I (f σ H Q q)⟩
theorem PW.imp {X : Cx} {ex : Expr} {t t' : TT} (h : PW X ex t) (f : ∀ σ H Q, t' σ H Q → t σ H Q) : PW X ex t' := ⟨fun wh pins s σ H Q I q => h.run wh pins s σ H Q I (f σ H Q q)⟩
theorem PA.imp {X : Cx} {ex : List Expr} {t t' : TA} (h : PA X ex t) (f : ∀ σ H Q, t' σ H Q → t σ H Q) : PA X ex t' := ⟨fun pos pins s σ H Q I q => h.run pos pins s σ H Q I (f σ H Q q)⟩
theorem PS.imp {X : Cx} {ex : Stmt} {t t' : TS} (h : PS X ex t) (f : ∀ D σ H, t' D σ H → t D σ H) : PS X ex t' := ⟨fun pins s σ H D I q => h.run pins s σ H D I (f D σ H q)⟩
theorem PSs.imp {X : Cx} {ex : List Stmt} {t t' : TS} (h : PSs X ex t) (f : ∀ D σ H, t' D σ H → t D σ H) : PSs X ex t' := ⟨fun pins s σ H D I q => h.run pins s σ H D I (f D σ H q)⟩
section
variable {K : PySem.W.Frag} {R F : Hp} {A : List Addr} {σ : L2.St} {H : Hp} {e : En} {Kp : KE} {Q : VK}
theorem Fin.tr {F1 : Hp} {A1 : List Addr} (f : Fin K R F A σ Kp Q) (a : Le F F1) (b : A <+: A1) : Fin K R F1 A1 σ Kp Q := fun s e' v F' A' H' k h1 h2 => f s e' v F' A' H' k (a.trans h1) (b.trans h2)
theorem FinT.tr {Kp : Bool → En → Prop} {Q : Bool → Hp → Prop} {F1 : Hp} {A1 : List Addr} (f : FinT K R F A σ Kp Q) (a : Le F F1) (b : A <+: A1) : FinT K R F1 A1 σ Kp Q := fun s e' F' A' H' k h1 h2 => f s e' F' A' H' k (a.trans h1) (b.trans h2)
theorem FinA.tr {Kp : List Sl → En → Prop} {Q : List V → Hp → Prop} {F1 : Hp} {A1 : List Addr} (f : FinA K R F A σ Kp Q) (a : Le F F1) (b : A <+: A1) : FinA K R F1 A1 σ Kp Q := fun s e' v F' A' H' k h1 h2 => f s e' v F' A' H' k (a.trans h1) (b.trans h2)
/-- an answer is ready -/
theorem Fin.done (f : Fin K R F A σ Kp Q) (r : Rep K R F A σ H e) {s : Sl} {v : V} (k : Kp s e) (h : SlAt K F A v s) : Q v H := f s e v F A H k (Le.refl F) (pfx_refl A) r h
theorem Fin.val (f : Fin K R F A σ Kp Q) (r : Rep K R F A σ H e) {d : D} {v : V} (k : Kp (.val d) e) (h : At K F d v) : Q v H := f.done r (s := .val d) k h
theorem Fin.newT (f : Fin K R F A σ Kp Q) (r : Rep K R F A σ H e) {ds : List D} {xs : List V} {p : Addr} (hp : H p = none) (k : Kp (.val (.tuple ds)) e) (h : AtL K F ds xs) : Q (.ref p) (upd H p (.tup xs)) := by
  obtain ⟨r2, l⟩ := r.fresh hp (.tup xs)
  exact f (.val (.tuple ds)) e (.ref p) _ A _ k l (pfx_refl A) r2 (.tup (SqT.of upd_same) (AtL.le l _ _ h))
theorem Fin.newL (f : Fin K R F A σ Kp Q) (r : Rep K R F A σ H e) {ds : List D} {xs : List V} {p : Addr} (hp : H p = none) (k : Kp (.val (.list ds)) e) (h : AtL K F ds xs) : Q (.ref p) (upd H p (.lst xs)) := by
  obtain ⟨r2, l⟩ := r.fresh hp (.lst xs)
  exact f (.val (.list ds)) e (.ref p) _ A _ k l (pfx_refl A) r2 (.lst upd_same (AtL.le l _ _ h))
theorem Fin.newO (f : Fin K R F A σ Kp Q) (r : Rep K R F A σ H e) {ds : List D} {xs : List V} {p : Addr} (hp : H p = none) (k : Kp (.obj e.st.length) ⟨e.sl, e.st ++ [some ds]⟩) (h : AtL K F ds xs) : Q (.ref p) (upd H p (.lst xs)) := by
  obtain ⟨r2, l⟩ := r.alloc hp h
  refine f (.obj e.st.length) _ (.ref p) F _ _ k (Le.refl F) l r2 ⟨p, ?_, rfl⟩
  rw [r.lenA, List.getElem?_append_right (Nat.le_refl _), Nat.sub_self] <;> rfl
end
/-! reading a value -/
/-- what stands there now -/
def pk (s : Sl) (e : En) : Option D := match s with
  | .val d => some d
  | .kn ds => some (.list ds)
  | .obj j => match e.st[j]? with
    | some (some ds) => some (.list ds)
    | _ => none
/-- the same, of what may be put together -/
def pkm (s : Sl) (e : En) : Option D := match s with
  | .val d => some d
  | .kn _ => none
  | .obj j => match e.st[j]? with
    | some (some ds) => some (.list ds)
    | _ => none
def Pk (K : PySem.W.Frag) (F H : Hp) (v : V) : D → Prop
  | .list ds => ∃ a xs, v = .ref a ∧ SqL K H a xs ∧ AtL K F ds xs
  | d => At K F d v
def Pkm (K : PySem.W.Frag) (F H : Hp) (v : V) : D → Prop
  | .list ds => ∃ a xs, v = .ref a ∧ H a = some (.lst xs) ∧ AtL K F ds xs
  | d => At K F d v
section
variable {K : PySem.W.Frag} {R F : Hp} {A : List Addr} {σ : L2.St} {H : Hp} {e : En}
theorem Pk.of_at (s : Le F H) {v : V} : ∀ {d : D}, At K F d v → Pk K F H v d
  | .list ds, h => by
    cases h with
    | lst h1 h2 => exact ⟨_, _, rfl, SqL.of (s _ _ h1), h2⟩
  | .none, h => h
  | .bool _, h => h
  | .int _, h => h
  | .str _, h => h
  | .tuple _, h => h
  | .dict _, h => h
theorem Pkm.of_at (s : Le F H) {v : V} : ∀ {d : D}, At K F d v → Pkm K F H v d
  | .list ds, h => by
    cases h with
    | lst h1 h2 => exact ⟨_, _, rfl, s _ _ h1, h2⟩
  | .none, h => h
  | .bool _, h => h
  | .int _, h => h
  | .str _, h => h
  | .tuple _, h => h
  | .dict _, h => h
theorem Rep.pk (r : Rep K R F A σ H e) {v : V} {s : Sl} (h : SlAt K F A v s) {d : D} (q : pk s e = some d) : Pk K F H v d := by
  cases s with
  | val c =>
    cases q
    exact Pk.of_at r.sub h
  | kn ds =>
    cases q
    obtain ⟨a, xs, e1, h1, h2⟩ := h
    exact ⟨a, xs, e1, sqL_le r.sub h1, h2⟩
  | obj j =>
    obtain ⟨a, e1, e2⟩ := h
    replace q : (match e.st[j]? with | some (some ds) => some (PyData.list ds) | _ => none) = some d := q
    split at q
    · rename_i ds hd
      cases q
      obtain ⟨b, xs, h1, h2, h3, h4⟩ := r.store j ds hd
      rw [e1] at h1
      cases h1
      exact ⟨a, xs, e2, SqL.of h3, h4⟩
    · cases q
theorem Rep.pkm (r : Rep K R F A σ H e) {v : V} {s : Sl} (h : SlAt K F A v s) {d : D} (q : pkm s e = some d) : Pkm K F H v d := by
  cases s with
  | val c =>
    cases q
    exact Pkm.of_at r.sub h
  | kn ds => cases q
  | obj j =>
    obtain ⟨a, e1, e2⟩ := h
    replace q : (match e.st[j]? with | some (some ds) => some (PyData.list ds) | _ => none) = some d := q
    split at q
    · rename_i ds hd
      cases q
      obtain ⟨b, xs, h1, h2, h3, h4⟩ := r.store j ds hd
      rw [e1] at h1
      cases h1
      exact ⟨a, xs, e2, h3, h4⟩
    · cases q
theorem Pk.int {v : V} {i : Int} (h : Pk K F H v (.int i)) : v = .int i := by
  cases (show At K F (.int i) v from h)
  rfl
theorem Pk.str {v : V} {i : Str} (h : Pk K F H v (.str i)) : v = .str i := by
  cases (show At K F (.str i) v from h)
  rfl
theorem Pk.bool {v : V} {i : Bool} (h : Pk K F H v (.bool i)) : v = .bl i := by
  cases (show At K F (.bool i) v from h)
  rfl
theorem Pk.none {v : V} (h : Pk K F H v .none) : v = .non := by
  cases (show At K F .none v from h)
  rfl
theorem Pk.tup {v : V} {ds : List D} (h : Pk K F H v (.tuple ds)) : ∃ a xs, v = .ref a ∧ SqT K F a xs ∧ AtL K F ds xs := by
  cases (show At K F (.tuple ds) v from h) with
  | tup h1 h2 => exact ⟨_, _, rfl, h1, h2⟩
theorem Pkm.int {v : V} {i : Int} (h : Pkm K F H v (.int i)) : v = .int i := by
  cases (show At K F (.int i) v from h)
  rfl
theorem Pkm.str {v : V} {i : Str} (h : Pkm K F H v (.str i)) : v = .str i := by
  cases (show At K F (.str i) v from h)
  rfl
theorem Pkm.tup {v : V} {ds : List D} (h : Pkm K F H v (.tuple ds)) : ∃ a xs, v = .ref a ∧ SqT K F a xs ∧ AtL K F ds xs := by
  cases (show At K F (.tuple ds) v from h) with
  | tup h1 h2 => exact ⟨_, _, rfl, h1, h2⟩
theorem Pk.dp (s : Le F H) {v : V} : ∀ {d : D}, Pk K F H v d → Dp K H v d
  | .list ds, ⟨a, xs, e, h1, h2⟩ => by
    subst e
    exact .lst h1 (AtL.dp s _ _ h2)
  | .none, h => At.dp s _ _ h
  | .bool _, h => At.dp s _ _ h
  | .int _, h => At.dp s _ _ h
  | .str _, h => At.dp s _ _ h
  | .tuple _, h => At.dp s _ _ h
  | .dict _, h => At.dp s _ _ h
end
/-! making data of a value: a list of the store is given away -/
def asD (s : Sl) (e : En) (Kd : D → En → Prop) : Prop := match s with
  | .val d => Kd d e
  | .kn _ => False
  | .obj j => match e.st[j]? with
    | some (some ds) => Kd (.list ds) (e.kill j ds)
    | _ => False
def asDs : List Sl → En → (List D → En → Prop) → Prop
  | [], e, Kd => Kd [] e
  | s :: ss, e, Kd => asD s e fun d e1 => asDs ss e1 fun ds e2 => Kd (d :: ds) e2
section
variable {K : PySem.W.Frag} {R F : Hp} {A : List Addr} {σ : L2.St} {H : Hp} {e : En}
theorem Rep.asD (r : Rep K R F A σ H e) {v : V} {s : Sl} (h : SlAt K F A v s) {Kd : D → En → Prop} (q : asD s e Kd) : ∃ d e' F', Kd d e' ∧ Rep K R F' A σ H e' ∧ Le F F' ∧ At K F' d v := by
  cases s with
  | val d => exact ⟨d, e, F, q, r, Le.refl F, h⟩
  | kn ds => exact q.elim
  | obj j =>
    obtain ⟨a, e1, e2⟩ := h
    replace q : (match e.st[j]? with | some (some ds) => Kd (.list ds) (e.kill j ds) | _ => False) := q
    split at q
    · rename_i ds hd
      obtain ⟨b, xs, h1, h2, h3, h4⟩ := r.freeze hd
      rw [e1] at h1
      cases h1
      exact ⟨_, _, _, q, h2, h3, by rw [e2]; exact h4⟩
    · exact q.elim
theorem Rep.asDs {vs : List V} {ss : List Sl} : ∀ {F : Hp} {e : En}, Rep K R F A σ H e → SlAts K F A vs ss → ∀ {Kd : List D → En → Prop}, asDs ss e Kd → ∃ ds e' F', Kd ds e' ∧ Rep K R F' A σ H e' ∧ Le F F' ∧ AtL K F' ds vs := by
  induction ss generalizing vs with
  | nil =>
    intro F e r h Kd q
    cases h
    exact ⟨[], e, F, q, r, Le.refl F, .nil⟩
  | cons s ss ih =>
    intro F e r h Kd q
    cases h with
    | cons h1 h2 =>
      obtain ⟨d, e1, F1, q1, r1, l1, a1⟩ := r.asD h1 q
      obtain ⟨ds, e2, F2, q2, r2, l2, a2⟩ := ih r1 (h2.le l1 (pfx_refl A)) q1
      exact ⟨d :: ds, e2, F2, q2, r2, l1.trans l2, .cons (At.le l2 _ _ a1) a2⟩
end
/-! two operands -/
def v2 (op : Sl → Sl → En → KE → Prop) (ta tb : VTE) : VTE := fun e Kp => ta e fun s1 e1 => tb e1 fun s2 e2 => op s1 s2 e2 Kp
def v1 (op : Sl → En → KE → Prop) (ta : VTE) : VTE := fun e Kp => ta e fun s1 e1 => op s1 e1 Kp
def Prim2 (K : PySem.W.Frag) (r : R2) (op : Sl → Sl → En → KE → Prop) : Prop := ∀ {R F : Hp} {A : List Addr} {σ : L2.St} {H : Hp} {e : En} {x y : V} {s1 s2 : Sl} {Kp : KE} {Q : VK}, Rep K R F A σ H e → SlAt K F A x s1 → SlAt K F A y s2 → op s1 s2 e Kp → Fin K R F A σ Kp Q → r x y H Q
def Prim1 (K : PySem.W.Frag) (r : V → Hp → VK → Prop) (op : Sl → En → KE → Prop) : Prop := ∀ {R F : Hp} {A : List Addr} {σ : L2.St} {H : Hp} {e : En} {x : V} {s1 : Sl} {Kp : KE} {Q : VK}, Rep K R F A σ H e → SlAt K F A x s1 → op s1 e Kp → Fin K R F A σ Kp Q → r x H Q
def PrimN (K : PySem.W.Frag) (r : List V → Hp → VK → Prop) (op : List Sl → En → KE → Prop) : Prop := ∀ {R F : Hp} {A : List Addr} {σ : L2.St} {H : Hp} {e : En} {xs : List V} {ss : List Sl} {Kp : KE} {Q : VK}, Rep K R F A σ H e → SlAts K F A xs ss → op ss e Kp → Fin K R F A σ Kp Q → r xs H Q
section
variable {X : Cx} {a b : Expr} {ta tb : VTE} {pos : Pos}
theorem lift2 {r : R2} {op : Sl → Sl → En → KE → Prop} (p : Prim2 X.K r op) (σ : L2.St) (H : Hp) (Q : VK) (h : liftE X.K (v2 op ta tb) σ H Q) : tOp r (liftE X.K ta) (liftE X.K tb) σ H Q := by
  obtain ⟨R, F, A, e, Kp, rep, ht, fin⟩ := h
  exact ⟨R, F, A, e, _, rep, ht, fun s1 e1 x F1 A1 H1 k1 f1 p1 rep1 at1 => ⟨R, F1, A1, e1, _, rep1, k1, fun s2 e2 y F2 A2 H2 k2 f2 p2 rep2 at2 => p rep2 (at1.le f2 p2) at2 k2 (fin.tr (f1.trans f2) (p1.trans p2))⟩⟩
theorem lift1 {r : V → Hp → VK → Prop} {op : Sl → En → KE → Prop} (p : Prim1 X.K r op) (σ : L2.St) (H : Hp) (Q : VK) (h : liftE X.K (v1 op ta) σ H Q) : liftE X.K ta σ H fun x H1 => r x H1 Q := by
  obtain ⟨R, F, A, e, Kp, rep, ht, fin⟩ := h
  exact ⟨R, F, A, e, _, rep, ht, fun s1 e1 x F1 A1 H1 k1 f1 p1 rep1 at1 => p rep1 at1 k1 (fin.tr f1 p1)⟩
def vN (op : List Sl → En → KE → Prop) (t : VTA) : VTE := fun e Kp => t e fun ss e1 => op ss e1 Kp
theorem liftN {r : List V → Hp → VK → Prop} {op : List Sl → En → KE → Prop} {t : VTA} (p : PrimN X.K r op) (σ : L2.St) (H : Hp) (Q : VK) (h : liftE X.K (vN op t) σ H Q) : liftA X.K t σ H fun xs H1 => r xs H1 Q := by
  obtain ⟨R, F, A, e, Kp, rep, ht, fin⟩ := h
  exact ⟨R, F, A, e, _, rep, ht, fun s1 e1 x F1 A1 H1 k1 f1 p1 rep1 at1 => p rep1 at1 k1 (fin.tr f1 p1)⟩
theorem ve_op {op : Operator} {r : R2} {o : Sl → Sl → En → KE → Prop} (p : Prim2 X.K r o) (ho : OpR X (binaryOp op) r) (ha : VE X a ta) (hb : VE X b tb) : VE X (.BinOp a op b pos) (v2 o ta tb) := PE.imp (pe_op ho ha hb) (lift2 p)
theorem ve_cmp {op : CmpOp} {r : R2} {o : Sl → Sl → En → KE → Prop} (p : Prim2 X.K r o) (ho : OpR X (compareOp op) r) (ha : VE X a ta) (hb : VE X b tb) (hm : behindInMarks op b = false) : VE X (.Compare a [op] [b] pos) (v2 o ta tb) := PE.imp (pe_cmpR ho ha hb hm) (lift2 p)
theorem ve_ixR {r : R2} {o : Sl → Sl → En → KE → Prop} (p : Prim2 X.K r o) (hr : IxR X r) (ha : VE X a ta) (hb : VE X b tb) (hs : PlainIx b) : VE X (.Subscript a b pos) (v2 o ta tb) := PE.imp (pe_ix hr ha hb hs) (lift2 p)
theorem ve_unR {op : UnaryOp} {r : V → Hp → VK → Prop} {o : Sl → En → KE → Prop} (p : Prim1 X.K r o) (ho : UnR X (unaryOp op) r) (ha : VE X a ta) : VE X (.UnaryOp op a pos) (v1 o ta) := PE.imp (pe_un ho ha) (lift1 p)
/-! tests -/
def vTest (t : VTE) : VTT := fun e Kp => t e fun s e1 => match pk s e1 with
  | some (.bool b) => Kp b e1
  | _ => False
theorem lift_test {t : VTE} (σ : L2.St) (H : Hp) (Q : Bool → Hp → Prop) (h : liftT X.K (vTest t) σ H Q) : liftE X.K t σ H fun x H' => ∃ k, x = .bl k ∧ Q k H' := by
  obtain ⟨R, F, A, e, Kp, rep, ht, fin⟩ := h
  refine ⟨R, F, A, e, _, rep, ht, fun s1 e1 x F1 A1 H1 k1 f1 p1 rep1 at1 => ?_⟩
  split at k1
  · rename_i b hb
    exact ⟨b, (rep1.pk at1 hb).bool, fin b e1 F1 A1 H1 k1 f1 p1 rep1⟩
  · exact k1.elim
theorem vt_cmp {op : CmpOp} {r : R2} {o : Sl → Sl → En → KE → Prop} (p : Prim2 X.K r o) (ho : OpR X (compareOp op) r) (ha : VE X a ta) (hb : VE X b tb) (hm : behindInMarks op b = false) : VT X (.Compare a [op] [b] pos) (vTest (v2 o ta tb)) :=
  PT.imp (pt_cmpR ho ha hb hm) fun σ H Q h => lift2 p σ H _ (by
    obtain ⟨R, F, A, e, Kp, rep, ht, fin⟩ := h
    refine ⟨R, F, A, e, _, rep, ht, fun s1 e1 x F1 A1 H1 k1 f1 p1 rep1 at1 => ?_⟩
    split at k1
    · rename_i b hb
      exact ⟨b, (rep1.pk at1 hb).bool, fin b e1 F1 A1 H1 k1 f1 p1 rep1⟩
    · exact k1.elim)
/-- an expression that gives a truth -/
theorem vt_val {ex : Expr} {t : VTE} (h : VE X ex t) (he : ∀ whole, isTrue ex X.env whole = (do let v ← whole; standAt ex.pos; holding [v] (truthy v)) := by intro _; rfl) : VT X ex (vTest t) := PT.imp (pt_val h he) fun σ H Q q => lift_test σ H Q q
/-- any value's truth -/
def truth : D → Option Bool
  | .none => some false
  | .bool b => some b
  | .int i => some (i != 0)
  | .str s => some ((s.length : Int) != 0)
  | .list ds => some (!ds.isEmpty)
  | .tuple ds => some (!ds.isEmpty)
  | .dict _ => none
def vTruth (t : VTE) : VTT := fun e Kp => t e fun s e1 => match pk s e1 with
  | some (.str x) => x.length ≤ sizeLine ∧ Kp ((x.length : Int) != 0) e1
  | some d => (match truth d with
    | some b => Kp b e1
    | none => False)
  | none => False
theorem empty_at {F : Hp} {ds : List D} {xs : List V} (h : AtL X.K F ds xs) : (!ds.isEmpty) = !xs.isEmpty := by
  cases h <;> rfl
theorem vt_truth {ex : Expr} {t : VTE} (h : VE X ex t) (he : ∀ whole, isTrue ex X.env whole = (do let v ← whole; standAt ex.pos; holding [v] (truthy v)) := by intro _; rfl) : VT X ex (vTruth t) := PT.imp (pt_truth h he) fun σ H Q q => by
  obtain ⟨R, F, A, e, Kp, rep, ht, fin⟩ := q
  refine ⟨R, F, A, e, _, rep, ht, fun s1 e1 x F1 A1 H1 k1 f1 p1 rep1 at1 => ?_⟩
  cases hp : pk s1 e1 with
  | none => rw [hp] at k1; exact k1.elim
  | some d =>
    rw [hp] at k1
    have pk1 := rep1.pk at1 hp
    cases d with
    | none => exact ⟨false, by rw [pk1.none]; rfl, fin _ e1 F1 A1 H1 k1 f1 p1 rep1⟩
    | bool b => exact ⟨b, by rw [pk1.bool]; rfl, fin _ e1 F1 A1 H1 k1 f1 p1 rep1⟩
    | int i => exact ⟨_, by rw [pk1.int]; rfl, fin _ e1 F1 A1 H1 k1 f1 p1 rep1⟩
    | str z => exact ⟨_, by rw [pk1.str]; exact ⟨k1.1, rfl⟩, fin _ e1 F1 A1 H1 k1.2 f1 p1 rep1⟩
    | list ds =>
      obtain ⟨a, xs, rfl, h1, h2⟩ := pk1
      exact ⟨_, .inl ⟨xs, h1, rfl⟩, by rw [← empty_at h2]; exact fin _ e1 F1 A1 H1 k1 f1 p1 rep1⟩
    | tuple ds =>
      obtain ⟨a, xs, rfl, h1, h2⟩ := pk1.tup
      exact ⟨_, .inr (.inl ⟨xs, sqT_le rep1.sub h1, rfl⟩), by rw [← empty_at h2]; exact fin _ e1 F1 A1 H1 k1 f1 p1 rep1⟩
    | dict _ => exact k1.elim
def vNotT (t : VTT) : VTT := fun e Kp => t e fun b e1 => Kp (!b) e1
theorem vt_not {t : VTT} (h : VT X a t) : VT X (.UnaryOp .Not a pos) (vNotT t) := PT.imp (pt_not h) fun σ H Q q => by
  obtain ⟨R, F, A, e, Kp, rep, ht, fin⟩ := q
  exact ⟨R, F, A, e, _, rep, ht, fun b e1 F1 A1 H1 k1 f1 p1 rep1 => fin _ e1 F1 A1 H1 k1 f1 p1 rep1⟩
def vAndT (t u : VTT) : VTT := fun e Kp => t e fun b e1 => if b = true then u e1 Kp else Kp false e1
def vOrT (t u : VTT) : VTT := fun e Kp => t e fun b e1 => if b = true then Kp true e1 else u e1 Kp
theorem vw_and1 {t : VTT} (h : VT X a t) : VW X (.BoolOp .And [a] pos) t := pw_and1 h
theorem vw_or1 {t : VTT} (h : VT X a t) : VW X (.BoolOp .Or [a] pos) t := pw_or1 h
theorem vw_and {t u : VTT} {rest : List Expr} (h : VT X a t) (g : VW X (.BoolOp .And (b :: rest) pos) u) : VW X (.BoolOp .And (a :: b :: rest) pos) (vAndT t u) := PW.imp (pw_and h g) fun σ H Q q => by
  obtain ⟨R, F, A, e, Kp, rep, ht, fin⟩ := q
  refine ⟨R, F, A, e, _, rep, ht, fun b e1 F1 A1 H1 k1 f1 p1 rep1 => ?_⟩
  cases b with
  | true => exact ⟨R, F1, A1, e1, Kp, rep1, k1, fin.tr f1 p1⟩
  | false => exact fin _ e1 F1 A1 H1 k1 f1 p1 rep1
theorem vw_or {t u : VTT} {rest : List Expr} (h : VT X a t) (g : VW X (.BoolOp .Or (b :: rest) pos) u) : VW X (.BoolOp .Or (a :: b :: rest) pos) (vOrT t u) := PW.imp (pw_or h g) fun σ H Q q => by
  obtain ⟨R, F, A, e, Kp, rep, ht, fin⟩ := q
  refine ⟨R, F, A, e, _, rep, ht, fun b e1 F1 A1 H1 k1 f1 p1 rep1 => ?_⟩
  cases b with
  | true => exact fin _ e1 F1 A1 H1 k1 f1 p1 rep1
  | false => exact ⟨R, F1, A1, e1, Kp, rep1, k1, fin.tr f1 p1⟩
theorem VW.vt {ex : Expr} {t : VTT} (h : VW X ex t) : VT X ex t := PW.pt h
/-! values by truth -/
def vAndV (ta tb : VTE) : VTE := fun e Kp => ta e fun s e1 => match pk s e1 with
  | some (.bool c) => if c = true then tb e1 Kp else Kp (.val (.bool false)) e1
  | _ => False
def vOrV (ta tb : VTE) : VTE := fun e Kp => ta e fun s e1 => match pk s e1 with
  | some (.bool c) => if c = true then Kp (.val (.bool true)) e1 else tb e1 Kp
  | _ => False
def opNot (s : Sl) (e : En) (Kp : KE) : Prop := match pk s e with
  | some (.bool c) => Kp (.val (.bool (!c))) e
  | _ => False
theorem ve_one {op} (h : VE X a ta) : VE X (.BoolOp op [a] pos) ta := pe_one h
theorem ve_and {rest : List Expr} (ha : VE X a ta) (hb : VE X (.BoolOp .And (b :: rest) pos) tb) : VE X (.BoolOp .And (a :: b :: rest) pos) (vAndV ta tb) := PE.imp (pe_and ha hb) fun σ H Q q => by
  obtain ⟨R, F, A, e, Kp, rep, ht, fin⟩ := q
  refine ⟨R, F, A, e, _, rep, ht, fun s1 e1 x F1 A1 H1 k1 f1 p1 rep1 at1 => ?_⟩
  split at k1
  · rename_i c hc
    refine ⟨c, (rep1.pk at1 hc).bool, ?_⟩
    cases c with
    | true => exact ⟨R, F1, A1, e1, Kp, rep1, k1, fin.tr f1 p1⟩
    | false => exact (fin.tr f1 p1).val rep1 k1 (.bl false)
  · exact k1.elim
theorem ve_or {rest : List Expr} (ha : VE X a ta) (hb : VE X (.BoolOp .Or (b :: rest) pos) tb) : VE X (.BoolOp .Or (a :: b :: rest) pos) (vOrV ta tb) := PE.imp (pe_or ha hb) fun σ H Q q => by
  obtain ⟨R, F, A, e, Kp, rep, ht, fin⟩ := q
  refine ⟨R, F, A, e, _, rep, ht, fun s1 e1 x F1 A1 H1 k1 f1 p1 rep1 at1 => ?_⟩
  split at k1
  · rename_i c hc
    refine ⟨c, (rep1.pk at1 hc).bool, ?_⟩
    cases c with
    | false => exact ⟨R, F1, A1, e1, Kp, rep1, k1, fin.tr f1 p1⟩
    | true => exact (fin.tr f1 p1).val rep1 k1 (.bl true)
  · exact k1.elim
theorem ve_not (ha : VE X a ta) : VE X (.UnaryOp .Not a pos) (v1 opNot ta) := PE.imp (pe_not ha) fun σ H Q q => by
  obtain ⟨R, F, A, e, Kp, rep, ht, fin⟩ := q
  refine ⟨R, F, A, e, _, rep, ht, fun s1 e1 x F1 A1 H1 k1 f1 p1 rep1 at1 => ?_⟩
  dsimp only [opNot] at k1
  split at k1
  · rename_i c hc
    exact ⟨c, (rep1.pk at1 hc).bool, (fin.tr f1 p1).val rep1 k1 (.bl _)⟩
  · exact k1.elim
def vIfE (t : VTT) (ta tb : VTE) : VTE := fun e Kp => t e fun b e1 => if b = true then ta e1 Kp else tb e1 Kp
theorem ve_ifExp {c : Expr} {t : VTT} (hc : VT X c t) (ha : VE X a ta) (hb : VE X b tb) : VE X (.IfExp c a b pos) (vIfE t ta tb) := PE.imp (pe_ifExp hc ha hb) fun σ H Q q => by
  obtain ⟨R, F, A, e, Kp, rep, ht, fin⟩ := q
  refine ⟨R, F, A, e, _, rep, ht, fun b e1 F1 A1 H1 k1 f1 p1 rep1 => ?_⟩
  cases b with
  | true => exact ⟨R, F1, A1, e1, Kp, rep1, k1, fin.tr f1 p1⟩
  | false => exact ⟨R, F1, A1, e1, Kp, rep1, k1, fin.tr f1 p1⟩
/-! names, constants, arguments -/
def vVar (i : Nat) : VTE := fun e Kp => match e.sl[i]? with
  | some (some s) => Kp s e
  | _ => False
def vC (d : D) : VTE := fun e Kp => Kp (.val d) e
theorem vp (i : Nat) {x : Str} {pos : Pos} (hN : X.N[i]? = some x := by rfl) (hv : Vis X.env.scope x := by first | exact Or.inl rfl | exact Or.inr (Or.inl rfl) | exact Or.inr (Or.inr rfl)) (hd : (x == ("__debug__" : Str)) = false := by decide)
    (hcd : (x == ("__classdict__" : Str)) = false := by decide) : VE X (.Name x pos) (vVar i) := PE.imp (pe_var hN hv hd hcd) fun σ H Q q => by
  obtain ⟨R, F, A, e, Kp, rep, ht, fin⟩ := q
  have ht' : (match e.sl[i]? with | some (some s) => Kp s e | _ => False) := ht
  split at ht'
  · rename_i s hs
    obtain ⟨v, h1, h2⟩ := rep.slot i s hs
    exact ⟨v, h1, fin.done rep ht' h2⟩
  · exact ht'.elim
theorem ve_c {ex : Expr} {v : V} {d : D} (h : PE X ex (tC v)) (hd : ∀ F, At X.K F d v) : VE X ex (vC d) := PE.imp h fun σ H Q q => by
  obtain ⟨R, F, A, e, Kp, rep, ht, fin⟩ := q
  exact fin.val rep ht (hd F)
theorem ve_int {i j pos} : VE X (.Constant (.int i) j pos) (vC (.int i)) := ve_c pe_int fun _ => .int i
theorem ve_bl {b j pos} : VE X (.Constant (.bool b) j pos) (vC (.bool b)) := ve_c pe_bl fun _ => .bl b
theorem ve_non {j pos} : VE X (.Constant .none j pos) (vC .none) := ve_c pe_non fun _ => .non
theorem ve_str {x j pos} : VE X (.Constant (.str x) j pos) (vC (.str x)) := ve_c pe_str fun _ => .str x
theorem ve_glob {x : Str} {v : V} {d : D} {u : Value} {pos : Pos} (hg : Gl X x) (hm : X.mg x = some u) (r : RelV v u) (hd : ∀ F, At X.K F d v) (hdb : (x == ("__debug__" : Str)) = false := by decide) : VE X (.Name x pos) (vC d) := ve_c (pe_glob hg hm r hdb) hd
def vNil : VTA := fun e Kp => Kp [] e
def vCons (ta : VTE) (tr : VTA) : VTA := fun e Kp => ta e fun s e1 => tr e1 fun ss e2 => Kp (s :: ss) e2
theorem va_nil : VA X [] vNil := PA.imp pa_nil fun σ H Q q => by
  obtain ⟨R, F, A, e, Kp, rep, ht, fin⟩ := q
  exact fin [] e [] F A H ht (Le.refl F) (pfx_refl A) rep .nil
theorem va_cons {es : List Expr} {t : VTA} (ha : VE X a ta) (hr : VA X es t) (hs : starEach (a :: es) X.env = (false, eval a X.env) :: starEach es X.env := by rfl) : VA X (a :: es) (vCons ta t) := PA.imp (pa_cons ha hr hs) fun σ H Q q => by
  obtain ⟨R, F, A, e, Kp, rep, ht, fin⟩ := q
  exact ⟨R, F, A, e, _, rep, ht, fun s1 e1 x F1 A1 H1 k1 f1 p1 rep1 at1 => ⟨R, F1, A1, e1, _, rep1, k1, fun ss e2 xs F2 A2 H2 k2 f2 p2 rep2 at2 => fin _ e2 _ F2 A2 H2 k2 (f1.trans f2) (p1.trans p2) rep2 (.cons (at1.le f2 p2) at2)⟩⟩
/-! tuples and lists -/
def opTup (ss : List Sl) (e : En) (Kp : KE) : Prop := asDs ss e fun ds e1 => ds.length ≤ sizeLine ∧ Kp (.val (.tuple ds)) e1
def opLst (ss : List Sl) (e : En) (Kp : KE) : Prop := asDs ss e fun ds e1 => ds.length ≤ sizeLine ∧ Kp (.val (.list ds)) e1
def opLstO (ss : List Sl) (e : En) (Kp : KE) : Prop := asDs ss e fun ds e1 => ds.length ≤ sizeLine ∧ Kp (.obj e1.st.length) ⟨e1.sl, e1.st ++ [some ds]⟩
theorem ve_tup {es : List Expr} {t : VTA} {x1} (h : VA X es t) : VE X (.Tuple es x1 pos) (vN opTup t) := PE.imp (pe_tup h) (liftN fun {R F A σ H e xs ss Kp Q} rep ha ho fin => by
  obtain ⟨ds, e1, F1, ⟨hl, k⟩, rep1, l1, a1⟩ := rep.asDs ha ho
  exact ⟨by rw [a1.len]; exact hl, fun p hp => (fin.tr l1 (pfx_refl A)).newT rep1 hp k a1⟩)
theorem ve_lst {es : List Expr} {t : VTA} (h : VA X es t) : VE X (.List es pos) (vN opLst t) := PE.imp (pe_lst h) (liftN fun {R F A σ H e xs ss Kp Q} rep ha ho fin => by
  obtain ⟨ds, e1, F1, ⟨hl, k⟩, rep1, l1, a1⟩ := rep.asDs ha ho
  exact ⟨by rw [a1.len]; exact hl, fun p hp => (fin.tr l1 (pfx_refl A)).newL rep1 hp k a1⟩)
theorem ve_lstO {es : List Expr} {t : VTA} (h : VA X es t) : VE X (.List es pos) (vN opLstO t) := PE.imp (pe_lst h) (liftN fun {R F A σ H e xs ss Kp Q} rep ha ho fin => by
  obtain ⟨ds, e1, F1, ⟨hl, k⟩, rep1, l1, a1⟩ := rep.asDs ha ho
  exact ⟨by rw [a1.len]; exact hl, fun p hp => (fin.tr l1 (pfx_refl A)).newO rep1 hp k a1⟩)
end
end Vl
namespace Vl
open PySem L2
theorem u190 {k : Nat} {A : Around} (r : Room k A) : A.units + 190 < cLine := by
  have := r.un
  omega
/-- data that == may go into -/
def shp (d : D) : Bool := d.canLay0 && decide (d.depth ≤ 190)
def rEqW (K : PySem.W.Frag) (neg : Bool) : R2 := fun x y H Q => ∃ d e, Dp K H x d ∧ Dp K H y e ∧ shp d = true ∧ shp e = true ∧ Q (.bl (if neg then !PyData.eqv d e else PyData.eqv d e)) H
section
variable {X : Cx}
theorem op_eqW (hu : X.A.units + 190 < cLine) : OpR X (compareOp .Eq) (rEqW X.K false) := by
  intro pins s σ H x y v u Q I rx ry h
  obtain ⟨d, e, hd, he, sd, se, q⟩ := h
  obtain ⟨as, r1⟩ := Dp.reads I d x v hd rx
  obtain ⟨bs, r2⟩ := Dp.reads I e y u he ry
  obtain ⟨l1, l2⟩ := Bool.and_eq_true_iff.mp sd
  obtain ⟨l3, l4⟩ := Bool.and_eq_true_iff.mp se
  have := of_decide_eq_true l2
  exact SeqAt.compareEq_reads r1 r2 l1 l3 (by omega) ⟨.bl _, H, I, rfl, q⟩
theorem op_neW (hu : X.A.units + 190 < cLine) : OpR X (compareOp .NotEq) (rEqW X.K true) := by
  intro pins s σ H x y v u Q I rx ry h
  obtain ⟨d, e, hd, he, sd, se, q⟩ := h
  obtain ⟨as, r1⟩ := Dp.reads I d x v hd rx
  obtain ⟨bs, r2⟩ := Dp.reads I e y u he ry
  obtain ⟨l1, l2⟩ := Bool.and_eq_true_iff.mp sd
  obtain ⟨l3, l4⟩ := Bool.and_eq_true_iff.mp se
  have := of_decide_eq_true l2
  exact SeqAt.compareNe_reads r1 r2 l1 l3 (by omega) ⟨.bl _, H, I, rfl, q⟩
end
/-! arithmetic -/
def opAdd (s1 s2 : Sl) (e : En) (Kp : KE) : Prop := match pkm s1 e, pkm s2 e with
  | some (.int i), some (.int j) => Kp (.val (.int (i + j))) e
  | some (.str i), some (.str j) => i.length + j.length ≤ sizeLine ∧ Kp (.val (.str (i ++ j))) e
  | some (.list ds), some (.list es) => ds.length + es.length ≤ sizeLine ∧ Kp (.val (.list (ds ++ es))) e
  | some (.tuple ds), some (.tuple es) => ds.length + es.length ≤ sizeLine ∧ Kp (.val (.tuple (ds ++ es))) e
  | _, _ => False
def rAdd4 (K : PySem.W.Frag) : R2 := fun x y H Q => (rI0 (fun i j => .int (i + j)) x y H Q ∨ ∃ i j, x = .str i ∧ y = .str j ∧ i.length + j.length ≤ sizeLine ∧ Q (.str (i ++ j)) H) ∨ (rCat x y H Q ∨ rCatA K x y H Q)
theorem op_add4 {X : Cx} : OpR X (binaryOp .Add) (rAdd4 X.K) := (op_add.or op_add_str).or (op_cat.or op_catA)
theorem AtL.nil_iff {K : PySem.W.Frag} {F : Hp} {ds : List D} {xs : List V} (h : AtL K F ds xs) : ds = [] ↔ xs = [] := by
  cases h <;> simp
section
variable {K : PySem.W.Frag}
theorem p_add : Prim2 K (rAdd4 K) opAdd := by
  intro R F A σ H e x y s1 s2 Kp Q rep a1 a2 ho fin
  unfold opAdd at ho
  split at ho
  · rename_i i j h1 h2
    exact .inl (.inl ⟨i, j, (rep.pkm a1 h1).int, (rep.pkm a2 h2).int, fin.val rep ho (.int _)⟩)
  · rename_i i j h1 h2
    exact .inl (.inr ⟨i, j, (rep.pkm a1 h1).str, (rep.pkm a2 h2).str, ho.1, fin.val rep ho.2 (.str _)⟩)
  · rename_i ds es h1 h2
    obtain ⟨a, xs, rfl, q1, q2⟩ := rep.pkm a1 h1
    obtain ⟨b, ys, rfl, q3, q4⟩ := rep.pkm a2 h2
    exact .inr (.inl ⟨a, b, xs, ys, rfl, rfl, q1, q3, by rw [q2.len, q4.len]; exact ho.1, fun p hp => fin.newL rep hp ho.2 (q2.app q4)⟩)
  · rename_i ds es h1 h2
    obtain ⟨a, xs, rfl, q1, q2⟩ := (rep.pkm a1 h1).tup
    obtain ⟨b, ys, rfl, q3, q4⟩ := (rep.pkm a2 h2).tup
    refine .inr (.inr ⟨a, b, xs, ys, rfl, rfl, sqT_le rep.sub q1, sqT_le rep.sub q3, by rw [q2.len, q4.len]; exact ho.1, fun z => ?_, fun _ z => ?_, fun _ _ p hp => fin.newT rep hp ho.2 (q2.app q4)⟩)
    · have z' := q2.nil_iff.mpr z
      subst z'
      exact fin.val rep ho.2 (.tup q3 q4)
    · have z' := q4.nil_iff.mpr z
      subst z'
      have k := ho.2
      rw [List.append_nil] at k
      exact fin.val rep k (.tup q1 q2)
  · exact ho.elim
/-- the sum of two lists is a list of the store -/
def opAddO (s1 s2 : Sl) (e : En) (Kp : KE) : Prop := match pkm s1 e, pkm s2 e with
  | some (.list ds), some (.list es) => ds.length + es.length ≤ sizeLine ∧ Kp (.obj e.st.length) ⟨e.sl, e.st ++ [some (ds ++ es)]⟩
  | _, _ => False
theorem p_addO : Prim2 K rCat opAddO := by
  intro R F A σ H e x y s1 s2 Kp Q rep a1 a2 ho fin
  unfold opAddO at ho
  split at ho
  · rename_i ds es h1 h2
    obtain ⟨a, xs, rfl, q1, q2⟩ := rep.pkm a1 h1
    obtain ⟨b, ys, rfl, q3, q4⟩ := rep.pkm a2 h2
    exact ⟨a, b, xs, ys, rfl, rfl, q1, q3, by rw [q2.len, q4.len]; exact ho.1, fun p hp => fin.newO rep hp ho.2 (q2.app q4)⟩
  · exact ho.elim
/-- two whole numbers -/
def opI (C : Int → Int → Prop) (g : Int → Int → D) (s1 s2 : Sl) (e : En) (Kp : KE) : Prop := match pk s1 e, pk s2 e with
  | some (.int i), some (.int j) => C i j ∧ Kp (.val (g i j)) e
  | _, _ => False
def opI0 (g : Int → Int → D) (s1 s2 : Sl) (e : En) (Kp : KE) : Prop := match pk s1 e, pk s2 e with
  | some (.int i), some (.int j) => Kp (.val (g i j)) e
  | _, _ => False
def sV : D → V
  | .none => .non
  | .bool b => .bl b
  | .int i => .int i
  | .str x => .str x
  | _ => .non
theorem p_i {C : Int → Int → Prop} {g : Int → Int → D} (hg : ∀ i j F, At K F (g i j) (sV (g i j))) : Prim2 K (rI C fun i j => sV (g i j)) (opI C g) := by
  intro R F A σ H e x y s1 s2 Kp Q rep a1 a2 ho fin
  unfold opI at ho
  split at ho
  · rename_i i j h1 h2
    exact ⟨i, j, (rep.pk a1 h1).int, (rep.pk a2 h2).int, ho.1, fin.val rep ho.2 (hg i j F)⟩
  · exact ho.elim
theorem p_i0 {g : Int → Int → D} (hg : ∀ i j F, At K F (g i j) (sV (g i j))) : Prim2 K (rI0 fun i j => sV (g i j)) (opI0 g) := by
  intro R F A σ H e x y s1 s2 Kp Q rep a1 a2 ho fin
  unfold opI0 at ho
  split at ho
  · rename_i i j h1 h2
    exact ⟨i, j, (rep.pk a1 h1).int, (rep.pk a2 h2).int, fin.val rep ho (hg i j F)⟩
  · exact ho.elim
end
section
variable {X : Cx} {a b : Expr} {ta tb : VTE} {pos : Pos}
theorem ve_add (ha : VE X a ta) (hb : VE X b tb) : VE X (.BinOp a .Add b pos) (v2 opAdd ta tb) := ve_op p_add op_add4 ha hb
theorem ve_addO (ha : VE X a ta) (hb : VE X b tb) : VE X (.BinOp a .Add b pos) (v2 opAddO ta tb) := ve_op p_addO op_cat ha hb
def gSubI (i j : Int) : D := .int (i - j)
def gMulI (i j : Int) : D := .int (i * j)
def gModI (i j : Int) : D := .int (i.fmod j)
def gDivI (i j : Int) : D := .int (i.fdiv j)
def gPowI (i j : Int) : D := .int (i ^ j.toNat)
abbrev opSub := opI0 gSubI
abbrev opMul := opI CMul gMulI
abbrev opMod := opI (fun _ j => j ≠ 0) gModI
abbrev opDiv := opI CDivN gDivI
abbrev opPow := opI CPow gPowI
theorem ve_sub (ha : VE X a ta) (hb : VE X b tb) : VE X (.BinOp a .Sub b pos) (v2 opSub ta tb) := ve_op (p_i0 (g := gSubI) fun _ _ _ => .int _) op_sub ha hb
theorem ve_mul (ha : VE X a ta) (hb : VE X b tb) : VE X (.BinOp a .Mult b pos) (v2 opMul ta tb) := ve_op (p_i (g := gMulI) fun _ _ _ => .int _) op_mul ha hb
theorem ve_mod (ha : VE X a ta) (hb : VE X b tb) : VE X (.BinOp a .Mod b pos) (v2 opMod ta tb) := ve_op (p_i (g := gModI) fun _ _ _ => .int _) op_modN ha hb
theorem ve_div (ha : VE X a ta) (hb : VE X b tb) : VE X (.BinOp a .FloorDiv b pos) (v2 opDiv ta tb) := ve_op (p_i (g := gDivI) fun _ _ _ => .int _) op_fdivN ha hb
theorem ve_pow (ha : VE X a ta) (hb : VE X b tb) : VE X (.BinOp a .Pow b pos) (v2 opPow ta tb) := ve_op (p_i (g := gPowI) fun _ _ _ => .int _) op_pow ha hb
/-! comparisons -/
def gLt (i j : Int) : D := .bool (decide (i < j))
def gLe (i j : Int) : D := .bool (decide (i ≤ j))
def gGt (i j : Int) : D := .bool (decide (j < i))
def gGe (i j : Int) : D := .bool (decide (j ≤ i))
abbrev opLe := opI0 gLe
abbrev opGt := opI0 gGt
abbrev opGe := opI0 gGe
def opLt (s1 s2 : Sl) (e : En) (Kp : KE) : Prop := match pk s1 e, pk s2 e with
  | some (.int i), some (.int j) => Kp (.val (gLt i j)) e
  | some (.str i), some (.str j) => Kp (.val (.bool (decide (i.cps.toList < j.cps.toList)))) e
  | _, _ => False
def rLt2 : R2 := fun x y H Q => rI0 (fun i j => .bl (decide (i < j))) x y H Q ∨ ∃ i j, x = .str i ∧ y = .str j ∧ Q (.bl (decide (i.cps.toList < j.cps.toList))) H
theorem p_lt {K : PySem.W.Frag} : Prim2 K rLt2 opLt := by
  intro R F A σ H e x y s1 s2 Kp Q rep a1 a2 ho fin
  unfold opLt at ho
  split at ho
  · rename_i i j h1 h2
    exact .inl ⟨i, j, (rep.pk a1 h1).int, (rep.pk a2 h2).int, fin.val rep ho (.bl _)⟩
  · rename_i i j h1 h2
    exact .inr ⟨i, j, (rep.pk a1 h1).str, (rep.pk a2 h2).str, fin.val rep ho (.bl _)⟩
  · exact ho.elim
/-- == -/
def opEq (neg : Bool) (s1 s2 : Sl) (e : En) (Kp : KE) : Prop := match pk s1 e, pk s2 e with
  | some (.int i), some (.int j) => Kp (.val (.bool (if neg then !decide (i = j) else decide (i = j)))) e
  | some (.str i), some (.str j) => Kp (.val (.bool (if neg then !decide (i = j) else decide (i = j)))) e
  | some d, some c => shp d = true ∧ shp c = true ∧ Kp (.val (.bool (if neg then !PyData.eqv d c else PyData.eqv d c))) e
  | _, _ => False
def rEq2 (K : PySem.W.Frag) (neg : Bool) : R2 := fun x y H Q => (scal x y = true ∧ Q (.bl (if neg then !decide (x = y) else decide (x = y))) H) ∨ rEqW K neg x y H Q
theorem p_eq {K : PySem.W.Frag} {neg : Bool} : Prim2 K (rEq2 K neg) (opEq neg) := by
  intro R F A σ H e x y s1 s2 Kp Q rep a1 a2 ho fin
  unfold opEq at ho
  split at ho
  · rename_i i j h1 h2
    have e1 := (rep.pk a1 h1).int
    have e2 := (rep.pk a2 h2).int
    subst e1 e2
    refine .inl ⟨rfl, ?_⟩
    have z : decide (V.int i = V.int j) = decide (i = j) := by
      by_cases q : i = j <;> simp [q]
    rw [z]
    exact fin.val rep ho (.bl _)
  · rename_i i j h1 h2
    have e1 := (rep.pk a1 h1).str
    have e2 := (rep.pk a2 h2).str
    subst e1 e2
    refine .inl ⟨rfl, ?_⟩
    have z : decide (V.str i = V.str j) = decide (i = j) := by
      by_cases q : i = j <;> simp [q]
    rw [z]
    exact fin.val rep ho (.bl _)
  · rename_i d c _ _ h1 h2
    exact .inr ⟨d, c, (rep.pk a1 h1).dp rep.sub, (rep.pk a2 h2).dp rep.sub, ho.1, ho.2.1, fin.val rep ho.2.2 (.bl _)⟩
  · exact ho.elim
theorem op_eq2 (hu : X.A.units + 190 < cLine) : OpR X (compareOp .Eq) (rEq2 X.K false) := op_eq.or (op_eqW hu)
theorem op_ne2 (hu : X.A.units + 190 < cLine) : OpR X (compareOp .NotEq) (rEq2 X.K true) := op_ne.or (op_neW hu)
/-- in -/
def opIn (neg : Bool) (s1 s2 : Sl) (e : En) (Kp : KE) : Prop := match pk s1 e, pk s2 e with
  | some (.str i), some (.str j) => Kp (.val (.bool (if neg then !(!(Builtin.Str.occurrences j i 0 j.length 1).isEmpty) else !(Builtin.Str.occurrences j i 0 j.length 1).isEmpty))) e
  | some d, some (.list ds) => SeqAt.shaped d = true ∧ SeqAt.shaped (.list ds) = true ∧ Kp (.val (.bool (if neg then !ds.any (fun z => PyData.eqv z d) else ds.any fun z => PyData.eqv z d))) e
  | _, _ => False
def rIn2 (K : PySem.W.Frag) : R2 := fun x y H Q => (∃ i j, x = .str i ∧ y = .str j ∧ Q (.bl (!(Builtin.Str.occurrences j i 0 j.length 1).isEmpty)) H) ∨ rInD K x y H Q
def rNotIn2 (K : PySem.W.Frag) : R2 := fun x y H Q => (∃ i j, x = .str i ∧ y = .str j ∧ Q (.bl (!(!(Builtin.Str.occurrences j i 0 j.length 1).isEmpty))) H) ∨ rNotInD K x y H Q
theorem Pk.lst_dp {K : PySem.W.Frag} {F H : Hp} (s : Le F H) {v : V} {ds : List D} (h : Pk K F H v (.list ds)) : Dp K H v (.list ds) := Pk.dp s (d := .list ds) h
theorem p_in {K : PySem.W.Frag} : Prim2 K (rIn2 K) (opIn false) := by
  intro R F A σ H e x y s1 s2 Kp Q rep a1 a2 ho fin
  unfold opIn at ho
  split at ho
  · rename_i i j h1 h2
    exact .inl ⟨i, j, (rep.pk a1 h1).str, (rep.pk a2 h2).str, fin.val rep ho (.bl _)⟩
  · rename_i d ds h1 h2
    exact .inr ⟨d, ds, (rep.pk a1 h1).dp rep.sub, (rep.pk a2 h2).dp rep.sub, ho.1, ho.2.1, fin.val rep ho.2.2 (.bl _)⟩
  · exact ho.elim
theorem p_notIn {K : PySem.W.Frag} : Prim2 K (rNotIn2 K) (opIn true) := by
  intro R F A σ H e x y s1 s2 Kp Q rep a1 a2 ho fin
  unfold opIn at ho
  split at ho
  · rename_i i j h1 h2
    exact .inl ⟨i, j, (rep.pk a1 h1).str, (rep.pk a2 h2).str, fin.val rep ho (.bl _)⟩
  · rename_i d ds h1 h2
    exact .inr ⟨d, ds, (rep.pk a1 h1).dp rep.sub, (rep.pk a2 h2).dp rep.sub, ho.1, ho.2.1, fin.val rep ho.2.2 (.bl _)⟩
  · exact ho.elim
theorem op_in2 (hu : X.A.units + 190 < cLine) : OpR X (compareOp .In) (rIn2 X.K) := op_in_str.or (op_inD (by omega))
theorem op_notIn2 (hu : X.A.units + 190 < cLine) : OpR X (compareOp .NotIn) (rNotIn2 X.K) := op_notIn_str.or (op_notInD (by omega))
/-- is None -/
def opIsN (neg : Bool) (s1 s2 : Sl) (e : En) (Kp : KE) : Prop := match pk s1 e, pk s2 e with
  | some .none, some .none => Kp (.val (.bool (!neg))) e
  | some _, some .none => Kp (.val (.bool neg)) e
  | _, _ => False
theorem Pk.ne_non {K : PySem.W.Frag} {F H : Hp} {v : V} : ∀ {d : D}, d ≠ .none → Pk K F H v d → v ≠ .non
  | .none, n, _ => absurd rfl n
  | .bool b, _, h => by
    rw [h.bool]
    intro z
    cases z
  | .int b, _, h => by
    rw [h.int]
    intro z
    cases z
  | .str b, _, h => by
    rw [h.str]
    intro z
    cases z
  | .list ds, _, ⟨a, xs, e, _⟩ => by
    rw [e]
    intro z
    cases z
  | .tuple ds, _, h => by
    obtain ⟨a, xs, e, _⟩ := h.tup
    rw [e]
    intro z
    cases z
  | .dict _, _, h => by
    have h' : At K F (.dict _) v := h
    cases h'
theorem p_isN {K : PySem.W.Frag} : Prim2 K (fun x y H Q => y = .non ∧ Q (.bl (decide (x = .non))) H) (opIsN false) := by
  intro R F A σ H e x y s1 s2 Kp Q rep a1 a2 ho fin
  unfold opIsN at ho
  split at ho
  · rename_i h1 h2
    refine ⟨(rep.pk a2 h2).none, ?_⟩
    rw [(rep.pk a1 h1).none]
    exact fin.val rep ho (.bl _)
  · rename_i d n h1 h2
    refine ⟨(rep.pk a2 h2).none, ?_⟩
    have nd : d ≠ .none := fun z => by
      subst z
      exact n rfl
    rw [decide_eq_false ((rep.pk a1 h1).ne_non nd)]
    exact fin.val rep ho (.bl _)
  · exact ho.elim
theorem p_notN {K : PySem.W.Frag} : Prim2 K (fun x y H Q => y = .non ∧ Q (.bl (!decide (x = .non))) H) (opIsN true) := by
  intro R F A σ H e x y s1 s2 Kp Q rep a1 a2 ho fin
  unfold opIsN at ho
  split at ho
  · rename_i h1 h2
    refine ⟨(rep.pk a2 h2).none, ?_⟩
    rw [(rep.pk a1 h1).none]
    exact fin.val rep ho (.bl _)
  · rename_i d n h1 h2
    refine ⟨(rep.pk a2 h2).none, ?_⟩
    have nd : d ≠ .none := fun z => by
      subst z
      exact n rfl
    rw [decide_eq_false ((rep.pk a1 h1).ne_non nd)]
    exact fin.val rep ho (.bl _)
  · exact ho.elim
theorem ve_lt (ha : VE X a ta) (hb : VE X b tb) (hm : behindInMarks .Lt b = false := by exact nomark _) : VE X (.Compare a [.Lt] [b] pos) (v2 opLt ta tb) := ve_cmp p_lt (op_lt.or op_lt_str) ha hb hm
theorem ve_le (ha : VE X a ta) (hb : VE X b tb) (hm : behindInMarks .LtE b = false := by exact nomark _) : VE X (.Compare a [.LtE] [b] pos) (v2 opLe ta tb) := ve_cmp (p_i0 (g := gLe) fun _ _ _ => .bl _) op_le ha hb hm
theorem ve_gt (ha : VE X a ta) (hb : VE X b tb) (hm : behindInMarks .Gt b = false := by exact nomark _) : VE X (.Compare a [.Gt] [b] pos) (v2 opGt ta tb) := ve_cmp (p_i0 (g := gGt) fun _ _ _ => .bl _) op_gt ha hb hm
theorem ve_ge (ha : VE X a ta) (hb : VE X b tb) (hm : behindInMarks .GtE b = false := by exact nomark _) : VE X (.Compare a [.GtE] [b] pos) (v2 opGe ta tb) := ve_cmp (p_i0 (g := gGe) fun _ _ _ => .bl _) op_ge ha hb hm
theorem ve_eq (hu : X.A.units + 190 < cLine) (ha : VE X a ta) (hb : VE X b tb) (hm : behindInMarks .Eq b = false := by exact nomark _) : VE X (.Compare a [.Eq] [b] pos) (v2 (opEq false) ta tb) := ve_cmp p_eq (op_eq2 hu) ha hb hm
theorem ve_ne (hu : X.A.units + 190 < cLine) (ha : VE X a ta) (hb : VE X b tb) (hm : behindInMarks .NotEq b = false := by exact nomark _) : VE X (.Compare a [.NotEq] [b] pos) (v2 (opEq true) ta tb) := ve_cmp p_eq (op_ne2 hu) ha hb hm
theorem ve_in (hu : X.A.units + 190 < cLine) (ha : VE X a ta) (hb : VE X b tb) (hm : behindInMarks .In b = false := by first | rfl | exact nomark _) : VE X (.Compare a [.In] [b] pos) (v2 (opIn false) ta tb) := ve_cmp p_in (op_in2 hu) ha hb hm
theorem ve_notIn (hu : X.A.units + 190 < cLine) (ha : VE X a ta) (hb : VE X b tb) (hm : behindInMarks .NotIn b = false := by first | rfl | exact nomark _) : VE X (.Compare a [.NotIn] [b] pos) (v2 (opIn true) ta tb) := ve_cmp p_notIn (op_notIn2 hu) ha hb hm
theorem ve_isN (ha : VE X a ta) (hb : VE X b tb) (hm : behindInMarks .Is b = false := by exact nomark _) : VE X (.Compare a [.Is] [b] pos) (v2 (opIsN false) ta tb) := ve_cmp p_isN op_isN ha hb hm
theorem ve_notN (ha : VE X a ta) (hb : VE X b tb) (hm : behindInMarks .IsNot b = false := by exact nomark _) : VE X (.Compare a [.IsNot] [b] pos) (v2 (opIsN true) ta tb) := ve_cmp p_notN op_notN ha hb hm
/-! a sign ahead -/
def opNeg (s : Sl) (e : En) (Kp : KE) : Prop := match pk s e with
  | some (.int i) => Kp (.val (.int (-i))) e
  | _ => False
theorem p_neg {K : PySem.W.Frag} : Prim1 K (rU fun i => .int (-i)) opNeg := by
  intro R F A σ H e x s1 Kp Q rep a1 ho fin
  unfold opNeg at ho
  split at ho
  · rename_i i h1
    exact ⟨i, (rep.pk a1 h1).int, fin.val rep ho (.int _)⟩
  · exact ho.elim
theorem ve_neg (ha : VE X a ta) : VE X (.UnaryOp .USub a pos) (v1 opNeg ta) := ve_unR p_neg un_neg ha
/-! places -/
def opIx (s1 s2 : Sl) (e : En) (Kp : KE) : Prop := match pk s1 e, pk s2 e with
  | some (.tuple ds), some (.int i) => ∃ d, atI ds i = some d ∧ Kp (.val d) e
  | some (.list ds), some (.int i) => ∃ d, atI ds i = some d ∧ Kp (.val d) e
  | some (.str z), some (.int i) => ∃ c, z.length ≤ sizeLine ∧ atI z.cps.toList i = some c ∧ Kp (.val (.str ⟨#[c]⟩)) e
  | _, _ => False
theorem AtL.atI {K : PySem.W.Frag} {F : Hp} {ds : List D} {xs : List V} (h : AtL K F ds xs) {i : Int} {d : D} (e : atI ds i = some d) : ∃ v, L2.atI xs i = some v ∧ At K F d v := by
  unfold L2.atI at e ⊢
  rw [h.len]
  cases q : ixN ds.length i with
  | none =>
    rw [q] at e
    cases e
  | some j =>
    rw [q] at e
    exact h.get e
theorem p_ix {K : PySem.W.Frag} : Prim2 K (rIx K) opIx := by
  intro R F A σ H e x y s1 s2 Kp Q rep a1 a2 ho fin
  unfold opIx at ho
  split at ho
  · rename_i ds i h1 h2
    obtain ⟨d, hd, k⟩ := ho
    obtain ⟨a, xs, rfl, q1, q2⟩ := (rep.pk a1 h1).tup
    obtain ⟨v, hv, av⟩ := q2.atI hd
    exact .inr (.inl ⟨a, xs, i, v, rfl, (rep.pk a2 h2).int, sqT_le rep.sub q1, hv, fin.val rep k av⟩)
  · rename_i ds i h1 h2
    obtain ⟨d, hd, k⟩ := ho
    obtain ⟨a, xs, rfl, q1, q2⟩ := rep.pk a1 h1
    obtain ⟨v, hv, av⟩ := q2.atI hd
    exact .inl ⟨a, xs, i, v, rfl, (rep.pk a2 h2).int, q1, hv, fin.val rep k av⟩
  · rename_i z i h1 h2
    obtain ⟨c, hz, hc, k⟩ := ho
    exact .inr (.inr ⟨z, i, c, (rep.pk a1 h1).str, (rep.pk a2 h2).int, hz, hc, fin.val rep k (.str _)⟩)
  · exact ho.elim
theorem ve_ix (ha : VE X a ta) (hb : VE X b tb) (hs : PlainIx b := by exact fun _ _ => rfl) : VE X (.Subscript a b pos) (v2 opIx ta tb) := ve_ixR p_ix ix_seq ha hb hs
end
end Vl
namespace Vl
open PySem L2
/-! slices -/
abbrev VTO := En → (Option Int → En → Prop) → Prop
def liftO (K : PySem.W.Frag) (t : VTO) : TO := fun σ H Q => ∃ R F A e Kp, Rep K R F A σ H e ∧ t e Kp ∧ ∀ i e' F' A' H', Kp i e' → Le F F' → A <+: A' → Rep K R F' A' σ H' e' → Q i H'
def VO (X : Cx) (ex : Option Expr) (t : VTO) : Prop := PO X ex (liftO X.K t)
def vNoPart : VTO := fun e Kp => Kp none e
def vPart (t : VTE) : VTO := fun e Kp => t e fun s e1 => match pk s e1 with
  | some (.int i) => Kp (some i) e1
  | _ => False
theorem PO.imp {X : Cx} {ex : Option Expr} {t t' : TO} (h : PO X ex t) (f : ∀ σ H Q, t' σ H Q → t σ H Q) : PO X ex t' := by
  obtain ⟨run⟩ := h
  constructor
  intros
  apply run <;> first | assumption | (apply f; assumption)
section
variable {X : Cx} {a b : Expr} {ta tb : VTE} {pos : Pos}
theorem vo_none : VO X none vNoPart := PO.imp po_none fun σ H Q h => by
  obtain ⟨R, F, A, e, Kp, rep, ht, fin⟩ := h
  exact fin none e F A H ht (Le.refl F) (pfx_refl A) rep
theorem vo_some (h : VE X a ta) : VO X (some a) (vPart ta) := PO.imp (po_some h) fun σ H Q h => by
  obtain ⟨R, F, A, e, Kp, rep, ht, fin⟩ := h
  refine ⟨R, F, A, e, _, rep, ht, fun s1 e1 x F1 A1 H1 k1 f1 p1 rep1 at1 => ?_⟩
  split at k1
  · rename_i i hi
    exact ⟨i, (rep1.pk at1 hi).int, fin _ e1 F1 A1 H1 k1 f1 p1 rep1⟩
  · exact k1.elim
def cut (ds : List D) (lo hi : Option Int) : List D := (ds.drop (HT.sIx ds.length 0 lo)).take (HT.sIx ds.length ds.length hi - HT.sIx ds.length 0 lo)
theorem AtL.cut {K : PySem.W.Frag} {F : Hp} {ds : List D} {xs : List V} (h : AtL K F ds xs) (lo hi : Option Int) : AtL K F (Vl.cut ds lo hi) (cutV xs lo hi) := by
  unfold Vl.cut cutV
  rw [h.len]
  exact (h.drop _).take _
def opSl (s : Sl) (lo hi : Option Int) (e : En) (Kp : KE) : Prop := match pk s e with
  | some (.list ds) => Kp (.val (.list (cut ds lo hi))) e
  | some (.tuple ds) => Kp (.val (.tuple (cut ds lo hi))) e
  | some (.str z) => z.length ≤ sizeLine ∧ Kp (.val (.str (cutS z lo hi))) e
  | _ => False
def opSlO (s : Sl) (lo hi : Option Int) (e : En) (Kp : KE) : Prop := match pk s e with
  | some (.list ds) => Kp (.obj e.st.length) ⟨e.sl, e.st ++ [some (cut ds lo hi)]⟩
  | _ => False
def vSl (op : Sl → Option Int → Option Int → En → KE → Prop) (ta : VTE) (tl th : VTO) : VTE := fun e Kp => ta e fun s e1 => tl e1 fun l e2 => th e2 fun u e3 => op s l u e3 Kp
def rSl3 (K : PySem.W.Frag) : V → Option Int → Option Int → Hp → VK → Prop := fun x lo hi H Q => rSlL K x lo hi H Q ∨ rSlA K x lo hi H Q ∨ rSlS x lo hi H Q
theorem cut_whole {K : PySem.W.Frag} {F : Hp} {ds : List D} {xs : List V} (h : AtL K F ds xs) {lo hi : Option Int} (z : HT.sIx xs.length 0 lo = 0 ∧ HT.sIx xs.length xs.length hi = xs.length) : Vl.cut ds lo hi = ds := by
  unfold Vl.cut
  rw [← h.len, z.1, z.2, List.drop_zero, Nat.sub_zero, h.len, List.take_length]
theorem liftSl {r : V → Option Int → Option Int → Hp → VK → Prop} {op : Sl → Option Int → Option Int → En → KE → Prop} {tl th : VTO}
    (p : ∀ {R F : Hp} {A : List Addr} {σ : L2.St} {H : Hp} {e : En} {x : V} {s : Sl} {lo hi : Option Int} {Kp : KE} {Q : VK}, Rep X.K R F A σ H e → SlAt X.K F A x s → op s lo hi e Kp → Fin X.K R F A σ Kp Q → r x lo hi H Q)
    (σ : L2.St) (H : Hp) (Q : VK) (h : liftE X.K (vSl op ta tl th) σ H Q) : tSl r (liftE X.K ta) (liftO X.K tl) (liftO X.K th) σ H Q := by
  obtain ⟨R, F, A, e, Kp, rep, ht, fin⟩ := h
  exact ⟨R, F, A, e, _, rep, ht, fun s1 e1 x F1 A1 H1 k1 f1 p1 rep1 at1 => ⟨R, F1, A1, e1, _, rep1, k1, fun l e2 F2 A2 H2 k2 f2 p2 rep2 => ⟨R, F2, A2, e2, _, rep2, k2, fun u e3 F3 A3 H3 k3 f3 p3 rep3 =>
    p rep3 (at1.le (f2.trans f3) (p2.trans p3)) k3 (fin.tr (f1.trans (f2.trans f3)) (p1.trans (p2.trans p3)))⟩⟩⟩
theorem ve_slice {lo hi : Option Expr} {tl th : VTO} {p2 : Pos} (ha : VE X a ta) (hl : VO X lo tl) (hu : VO X hi th) : VE X (.Subscript a (.Slice lo hi none p2) pos) (vSl opSl ta tl th) :=
  PE.imp (pe_slice (r := rSl3 X.K) (sl_list.or (sl_tupA.or sl_str)) ha hl hu) (liftSl fun {R F A σ H e x s lo hi Kp Q} rep a1 ho fin => by
    unfold opSl at ho
    split at ho
    · rename_i ds h1
      obtain ⟨a, xs, rfl, q1, q2⟩ := rep.pk a1 h1
      exact .inl ⟨a, xs, rfl, q1, fun p hp => fin.newL rep hp ho (q2.cut lo hi)⟩
    · rename_i ds h1
      obtain ⟨a, xs, rfl, q1, q2⟩ := (rep.pk a1 h1).tup
      refine .inr (.inl ⟨a, xs, rfl, sqT_le rep.sub q1, fun z => ?_, fun _ p hp => fin.newT rep hp ho (q2.cut lo hi)⟩)
      rw [cut_whole q2 z] at ho
      exact fin.val rep ho (.tup q1 q2)
    · rename_i z h1
      exact .inr (.inr ⟨z, (rep.pk a1 h1).str, ho.1, fin.val rep ho.2 (.str _)⟩)
    · exact ho.elim)
theorem ve_sliceO {lo hi : Option Expr} {tl th : VTO} {p2 : Pos} (ha : VE X a ta) (hl : VO X lo tl) (hu : VO X hi th) : VE X (.Subscript a (.Slice lo hi none p2) pos) (vSl opSlO ta tl th) :=
  PE.imp (pe_slice (r := rSlL X.K) sl_list ha hl hu) (liftSl fun {R F A σ H e x s lo hi Kp Q} rep a1 ho fin => by
    unfold opSlO at ho
    split at ho
    · rename_i ds h1
      obtain ⟨a, xs, rfl, q1, q2⟩ := rep.pk a1 h1
      exact ⟨a, xs, rfl, q1, fun p hp => fin.newO rep hp ho (q2.cut lo hi)⟩
    · exact ho.elim)
/-! built-ins -/
theorem ve_blt {id : String} {r : List V → Hp → VK → Prop} {op : List Sl → En → KE → Prop} {x : Str} {p : Pos} {es : List Expr} {t : VTA} (pr : PrimN X.K r op) (hc : CallR X (.builtin id) r) (hg : Gl X x) (hm : X.mg x = none) (hv : bootBuiltins x = some (.builtin id)) (ha : VA X (a :: es) t)
    (hn : x ≠ "__name__" := by decide) (hdb : (x == ("__debug__" : Str)) = false := by decide) (he : starEach (a :: es) X.env = (false, eval a X.env) :: starEach es X.env := by rfl) (hpl : (backTo pos (starEach es X.env)).any (·.1) = false := by rfl) :
    VE X (.Call (.Name x p) (a :: es) [] pos) (vN op t) := PE.imp (pe_callB hc hg hm hv ha hn hdb he hpl) (liftN pr)
theorem ve_typ {T : String} {r : List V → Hp → VK → Prop} {op : List Sl → En → KE → Prop} {x : Str} {p : Pos} {es : List Expr} {t : VTA} (pr : PrimN X.K r op) (hc : CallR X (.type T) r) (hg : Gl X x) (hm : X.mg x = none) (hv : bootBuiltins x = some (.type T)) (ha : VA X (a :: es) t)
    (hn : x ≠ "__name__" := by decide) (hdb : (x == ("__debug__" : Str)) = false := by decide) (he : starEach (a :: es) X.env = (false, eval a X.env) :: starEach es X.env := by rfl) (hpl : (backTo pos (starEach es X.env)).any (·.1) = false := by rfl) :
    VE X (.Call (.Name x p) (a :: es) [] pos) (vN op t) := PE.imp (pe_callTy hc hg hm hv ha hn hdb he hpl) (liftN pr)
def opLen (ss : List Sl) (e : En) (Kp : KE) : Prop := match ss with
  | [s] => (match pk s e with
    | some (.list ds) => Kp (.val (.int (ds.length : Nat))) e
    | some (.tuple ds) => Kp (.val (.int (ds.length : Nat))) e
    | some (.str z) => z.length ≤ sizeLine ∧ Kp (.val (.int (z.length : Nat))) e
    | _ => False)
  | _ => False
theorem SlAts.one {K : PySem.W.Frag} {F : Hp} {A : List Addr} {xs : List V} {s : Sl} (h : SlAts K F A xs [s]) : ∃ x, xs = [x] ∧ SlAt K F A x s := by
  cases h with
  | cons h1 h2 =>
    cases h2
    exact ⟨_, rfl, h1⟩
theorem SlAts.two {K : PySem.W.Frag} {F : Hp} {A : List Addr} {xs : List V} {s t : Sl} (h : SlAts K F A xs [s, t]) : ∃ x y, xs = [x, y] ∧ SlAt K F A x s ∧ SlAt K F A y t := by
  cases h with
  | cons h1 h2 =>
    obtain ⟨y, rfl, h3⟩ := h2.one
    exact ⟨_, _, rfl, h1, h3⟩
theorem p_len {K : PySem.W.Frag} : PrimN K (fun xs H Q => ∃ x n, xs = [x] ∧ LenV K x H n ∧ Q (.int n) H) opLen := by
  intro R F A σ H e xs ss Kp Q rep a1 ho fin
  unfold opLen at ho
  split at ho
  · rename_i s
    obtain ⟨x, rfl, a2⟩ := a1.one
    split at ho
    · rename_i ds h1
      obtain ⟨a, ys, rfl, q1, q2⟩ := rep.pk a2 h1
      exact ⟨_, ds.length, rfl, .inl ⟨ys, q1, q2.len.symm⟩, fin.val rep ho (.int _)⟩
    · rename_i ds h1
      obtain ⟨a, ys, rfl, q1, q2⟩ := (rep.pk a2 h1).tup
      exact ⟨_, ds.length, rfl, .inr ⟨ys, sqT_le rep.sub q1, q2.len.symm⟩, fin.val rep ho (.int _)⟩
    · rename_i z h1
      have e1 := (rep.pk a2 h1).str
      subst e1
      exact ⟨_, z.length, rfl, ⟨ho.1, rfl⟩, fin.val rep ho.2 (.int _)⟩
    · exact ho.elim
  · exact ho.elim
theorem ve_len {p : Pos} {t : VTA} (hg : Gl X "len") (hm : X.mg "len" = none) (ha : VA X [a] t) (he : starEach [a] X.env = (false, eval a X.env) :: starEach [] X.env := by rfl) : VE X (.Call (.Name "len" p) [a] [] pos) (vN opLen t) :=
  ve_blt p_len call_len hg hm PySem.boot_len ha (by decide) (by decide) he
def opII (g : Int → Int → Int) (ss : List Sl) (e : En) (Kp : KE) : Prop := match ss with
  | [s, t] => (match pk s e, pk t e with
    | some (.int i), some (.int j) => Kp (.val (.int (g i j))) e
    | _, _ => False)
  | _ => False
theorem p_ii {K : PySem.W.Frag} {g : Int → Int → Int} : PrimN K (fun xs H Q => ∃ i j, xs = [.int i, .int j] ∧ Q (.int (g i j)) H) (opII g) := by
  intro R F A σ H e xs ss Kp Q rep a1 ho fin
  unfold opII at ho
  split at ho
  · rename_i s t
    obtain ⟨x, y, rfl, a2, a3⟩ := a1.two
    split at ho
    · rename_i i j h1 h2
      exact ⟨i, j, by rw [(rep.pk a2 h1).int, (rep.pk a3 h2).int], fin.val rep ho (.int _)⟩
    · exact ho.elim
  · exact ho.elim
def gMax (i j : Int) : Int := if j > i then j else i
def gMin (i j : Int) : Int := if j < i then j else i
theorem ve_max {p : Pos} {t : VTA} (hc : X.calm = true) (hg : Gl X "max") (hm : X.mg "max" = none) (ha : VA X [a, b] t) (he : starEach [a, b] X.env = (false, eval a X.env) :: starEach [b] X.env := by rfl) (hpl : (backTo pos (starEach [b] X.env)).any (·.1) = false := by rfl) : VE X (.Call (.Name "max" p) [a, b] [] pos) (vN (opII gMax) t) := ve_blt (p_ii (g := gMax)) (call_max2 hc) hg hm (by decide +kernel) ha (by decide) (by decide) he hpl
theorem ve_min {p : Pos} {t : VTA} (hc : X.calm = true) (hg : Gl X "min") (hm : X.mg "min" = none) (ha : VA X [a, b] t) (he : starEach [a, b] X.env = (false, eval a X.env) :: starEach [b] X.env := by rfl) (hpl : (backTo pos (starEach [b] X.env)).any (·.1) = false := by rfl) : VE X (.Call (.Name "min" p) [a, b] [] pos) (vN (opII gMin) t) := ve_blt (p_ii (g := gMin)) (call_min2 hc) hg hm (by decide +kernel) ha (by decide) (by decide) he hpl
/-- int(x) of a number or a truth -/
def opInt (ss : List Sl) (e : En) (Kp : KE) : Prop := match ss with
  | [s] => (match pk s e with
    | some (.int i) => Kp (.val (.int i)) e
    | some (.bool b) => Kp (.val (.int (if b then 1 else 0))) e
    | _ => False)
  | _ => False
theorem ve_intB {p : Pos} {t : VTA} (hg : Gl X "int") (hm : X.mg "int" = none) (ha : VA X [a] t) (he : starEach [a] X.env = (false, eval a X.env) :: starEach [] X.env := by rfl) : VE X (.Call (.Name "int" p) [a] [] pos) (vN opInt t) := ve_typ (fun {R F A σ H e xs ss Kp Q} rep a1 ho fin => by
  unfold opInt at ho
  split at ho
  · rename_i s
    obtain ⟨x, rfl, a2⟩ := a1.one
    split at ho
    · rename_i i h1
      exact .inl ⟨i, by rw [(rep.pk a2 h1).int], fin.val rep ho (.int _)⟩
    · rename_i b h1
      exact .inr ⟨b, by rw [(rep.pk a2 h1).bool], fin.val rep ho (.int _)⟩
    · exact ho.elim
  · exact ho.elim) call_int1 hg hm (by decide +kernel) ha (by decide) (by decide) he
/-- str(n) -/
def opStr (ss : List Sl) (e : En) (Kp : KE) : Prop := match ss with
  | [s] => (match pk s e with
    | some (.int i) => i.natAbs.log2 < 1920 ∧ Kp (.val (.str (toString i))) e
    | _ => False)
  | _ => False
theorem ve_strI {p : Pos} {t : VTA} (hg : Gl X "str") (hm : X.mg "str" = none) (ha : VA X [a] t) (he : starEach [a] X.env = (false, eval a X.env) :: starEach [] X.env := by rfl) : VE X (.Call (.Name "str" p) [a] [] pos) (vN opStr t) := ve_typ (fun {R F A σ H e xs ss Kp Q} rep a1 ho fin => by
  unfold opStr at ho
  split at ho
  · rename_i s
    obtain ⟨x, rfl, a2⟩ := a1.one
    split at ho
    · rename_i i h1
      exact ⟨i, by rw [(rep.pk a2 h1).int], ho.1, fin.val rep ho.2 (.str _)⟩
    · exact ho.elim
  · exact ho.elim) call_str_int hg hm (by decide +kernel) ha (by decide) (by decide) he
/-- list(xs), tuple(xs) -/
def opList (ss : List Sl) (e : En) (Kp : KE) : Prop := match ss with
  | [s] => (match pk s e with
    | some (.list ds) => Kp (.val (.list ds)) e
    | some (.tuple ds) => Kp (.val (.list ds)) e
    | _ => False)
  | _ => False
def opListO (ss : List Sl) (e : En) (Kp : KE) : Prop := match ss with
  | [s] => (match pk s e with
    | some (.list ds) => Kp (.obj e.st.length) ⟨e.sl, e.st ++ [some ds]⟩
    | some (.tuple ds) => Kp (.obj e.st.length) ⟨e.sl, e.st ++ [some ds]⟩
    | _ => False)
  | _ => False
def opTuple (ss : List Sl) (e : En) (Kp : KE) : Prop := match ss with
  | [s] => (match pk s e with
    | some (.list ds) => Kp (.val (.tuple ds)) e
    | some (.tuple ds) => Kp (.val (.tuple ds)) e
    | _ => False)
  | _ => False
theorem ve_list {p : Pos} {t : VTA} (hg : Gl X "list") (hm : X.mg "list" = none) (ha : VA X [a] t) (he : starEach [a] X.env = (false, eval a X.env) :: starEach [] X.env := by rfl) : VE X (.Call (.Name "list" p) [a] [] pos) (vN opList t) := ve_typ (fun {R F A σ H e xs ss Kp Q} rep a1 ho fin => by
  unfold opList at ho
  split at ho
  · rename_i s
    obtain ⟨x, rfl, a2⟩ := a1.one
    split at ho
    · rename_i ds h1
      obtain ⟨a, ys, rfl, q1, q2⟩ := rep.pk a2 h1
      exact ⟨a, ys, rfl, .inl q1, fun l hl => fin.newL rep hl ho q2⟩
    · rename_i ds h1
      obtain ⟨a, ys, rfl, q1, q2⟩ := (rep.pk a2 h1).tup
      exact ⟨a, ys, rfl, .inr (sqT_le rep.sub q1), fun l hl => fin.newL rep hl ho q2⟩
    · exact ho.elim
  · exact ho.elim) call_list_of hg hm (by decide +kernel) ha (by decide) (by decide) he
theorem ve_listO {p : Pos} {t : VTA} (hg : Gl X "list") (hm : X.mg "list" = none) (ha : VA X [a] t) (he : starEach [a] X.env = (false, eval a X.env) :: starEach [] X.env := by rfl) : VE X (.Call (.Name "list" p) [a] [] pos) (vN opListO t) := ve_typ (fun {R F A σ H e xs ss Kp Q} rep a1 ho fin => by
  unfold opListO at ho
  split at ho
  · rename_i s
    obtain ⟨x, rfl, a2⟩ := a1.one
    split at ho
    · rename_i ds h1
      obtain ⟨a, ys, rfl, q1, q2⟩ := rep.pk a2 h1
      exact ⟨a, ys, rfl, .inl q1, fun l hl => fin.newO rep hl ho q2⟩
    · rename_i ds h1
      obtain ⟨a, ys, rfl, q1, q2⟩ := (rep.pk a2 h1).tup
      exact ⟨a, ys, rfl, .inr (sqT_le rep.sub q1), fun l hl => fin.newO rep hl ho q2⟩
    · exact ho.elim
  · exact ho.elim) call_list_of hg hm (by decide +kernel) ha (by decide) (by decide) he
theorem ve_tuple {p : Pos} {t : VTA} (hg : Gl X "tuple") (hm : X.mg "tuple" = none) (ha : VA X [a] t) (he : starEach [a] X.env = (false, eval a X.env) :: starEach [] X.env := by rfl) : VE X (.Call (.Name "tuple" p) [a] [] pos) (vN opTuple t) := ve_typ (fun {R F A σ H e xs ss Kp Q} rep a1 ho fin => by
  unfold opTuple at ho
  split at ho
  · rename_i s
    obtain ⟨x, rfl, a2⟩ := a1.one
    split at ho
    · rename_i ds h1
      obtain ⟨a, ys, rfl, q1, q2⟩ := rep.pk a2 h1
      exact ⟨a, ys, rfl, .inl ⟨q1, fun l hl => fin.newT rep hl ho q2⟩⟩
    · rename_i ds h1
      obtain ⟨a, ys, rfl, q1, q2⟩ := (rep.pk a2 h1).tup
      exact ⟨a, ys, rfl, .inr ⟨sqT_le rep.sub q1, fin.val rep ho (.tup q1 q2)⟩⟩
    · exact ho.elim
  · exact ho.elim) call_tuple_of hg hm (by decide +kernel) ha (by decide) (by decide) he
/-! methods -/
def PrimM (K : PySem.W.Frag) (T : String) (r : V → List V → Hp → VK → Prop) (op : Sl → List Sl → En → KE → Prop) : Prop := ∀ {R F : Hp} {A : List Addr} {σ : L2.St} {H : Hp} {e : En} {x : V} {s : Sl} {xs : List V} {ss : List Sl} {Kp : KE} {Q : VK}, Rep K R F A σ H e → SlAt K F A x s → SlAts K F A xs ss → op s ss e Kp → Fin K R F A σ Kp Q → r x xs H Q
/-- the receiver is of the type, when its name is read -/
def isT (T : String) (s : Sl) (e : En) : Prop := match pk s e with
  | some (.str _) => T = "str"
  | some (.list _) => T = "list"
  | _ => False
theorem isT_ty {K : PySem.W.Frag} {R F : Hp} {A : List Addr} {σ : L2.St} {H : Hp} {e : En} {T : String} {x : V} {s : Sl} (rep : Rep K R F A σ H e) (a : SlAt K F A x s) (h : isT T s e) : tyV K T x H := by
  unfold isT at h
  split at h
  · rename_i z hz
    rw [(rep.pk a hz).str]
    exact h
  · rename_i ds hz
    obtain ⟨p, xs, rfl, q1, q2⟩ := rep.pk a hz
    exact .inl ⟨h, xs, q1⟩
  · exact h.elim
def vM (T : String) (op : Sl → List Sl → En → KE → Prop) (ta : VTE) (t : VTA) : VTE := fun e Kp => ta e fun s e1 => isT T s e1 ∧ t e1 fun ss e2 => op s ss e2 Kp
def vM0 (T : String) (op : Sl → List Sl → En → KE → Prop) (ta : VTE) : VTE := fun e Kp => ta e fun s e1 => isT T s e1 ∧ op s [] e1 Kp
variable {o : Expr} {to : VTE}
theorem ve_m {T id : String} {name : Str} {apos cpos : Pos} {r : V → List V → Hp → VK → Prop} {op : Sl → List Sl → En → KE → Prop} {es : List Expr} {t : VTA} (pr : PrimM X.K T r op) (pa : PlainAttrs T) (slot : Slot T name id) (hty : typeOf (.builtin id) = pure (.type "method_descriptor")) (hm : MtR X id r) (ho : VE X o to) (ha : VA X (a :: es) t)
    (hbase : attributeBase o name X.env (eval o X.env) = eval o X.env := by rfl)
    (hfew : ((backTo cpos (starEach (a :: es) X.env)).all (fun x => !x.1) && (backToKw cpos (keywordEach [] X.env)).all (fun x => x.1.isSome)
      && decide ((a :: es).length + ([] : List Keyword).length + (if ([] : List Keyword).isEmpty then 0 else 1) < 30)) = true := by rfl)
    (hline : (apos.endLine == cpos.line) = true := by rfl) (hs : starEach (a :: es) X.env = (false, eval a X.env) :: starEach es X.env := by rfl) (hplain : (backTo cpos (starEach es X.env)).any (·.1) = false := by rfl) :
    VE X (.Call (.Attribute o name apos) (a :: es) [] cpos) (vM T op to t) := PE.imp (pe_bm pa slot hty hm ho ha hbase hfew hline hs hplain) fun σ H Q h => by
  obtain ⟨R, F, A, e, Kp, rep, ht, fin⟩ := h
  exact ⟨R, F, A, e, _, rep, ht, fun s1 e1 x F1 A1 H1 k1 f1 p1 rep1 at1 => ⟨isT_ty rep1 at1 k1.1, R, F1, A1, e1, _, rep1, k1.2, fun ss e2 xs F2 A2 H2 k2 f2 p2 rep2 at2 => pr rep2 (at1.le f2 p2) at2 k2 (fin.tr (f1.trans f2) (p1.trans p2))⟩⟩
theorem ve_m0 {T id : String} {name : Str} {apos cpos : Pos} {r : V → List V → Hp → VK → Prop} {op : Sl → List Sl → En → KE → Prop} (pr : PrimM X.K T r op) (pa : PlainAttrs T) (slot : Slot T name id) (hty : typeOf (.builtin id) = pure (.type "method_descriptor")) (hm : MtR X id r) (ho : VE X o to)
    (hbase : attributeBase o name X.env (eval o X.env) = eval o X.env := by rfl) (hline : (apos.endLine == cpos.line) = true := by rfl) : VE X (.Call (.Attribute o name apos) [] [] cpos) (vM0 T op to) := PE.imp (pe_bm0 pa slot hty hm ho hbase hline) fun σ H Q h => by
  obtain ⟨R, F, A, e, Kp, rep, ht, fin⟩ := h
  exact ⟨R, F, A, e, _, rep, ht, fun s1 e1 x F1 A1 H1 k1 f1 p1 rep1 at1 => ⟨isT_ty rep1 at1 k1.1, pr rep1 at1 .nil k1.2 (fin.tr f1 p1)⟩⟩
/-- xs.append(x) -/
def opAppend (s : Sl) (ss : List Sl) (e : En) (Kp : KE) : Prop := match ss with
  | [t] => asD t e fun d e1 => match s with
    | .obj j => (match e1.st[j]? with
      | some (some ds) => ds.length < sizeLine ∧ Kp (.val .none) ⟨e1.sl, e1.st.set j (some (ds ++ [d]))⟩
      | _ => False)
    | _ => False
  | _ => False
theorem Fin.chg {K : PySem.W.Frag} {R F : Hp} {A : List Addr} {σ : L2.St} {H : Hp} {e : En} {Kp : KE} {Q : VK} (f : Fin K R F A σ Kp Q) (r : Rep K R F A σ H e) {j : Nat} {a : Addr} {ds : List D} (hj : A[j]? = some a) (hl : e.st[j]? = some (some ds)) {xs' : List V} {ds' : List D} (hx : AtL K F ds' xs') {v : V} {d : D} (hv : At K F d v)
    (k : Kp (.val d) ⟨e.sl, e.st.set j (some ds')⟩) : Q v (upd H a (.lst xs')) := f (.val d) _ v F A _ k (Le.refl F) (pfx_refl A) (r.write hj hl hx) hv
theorem p_append {K : PySem.W.Frag} : PrimM K "list" rAppend opAppend := by
  intro R F A σ H e x s xs ss Kp Q rep a0 a1 ho fin
  unfold opAppend at ho
  split at ho
  · rename_i t
    obtain ⟨y, rfl, a2⟩ := a1.one
    obtain ⟨d, e1, F1, ho, rep1, l1, at1⟩ := rep.asD a2 ho
    cases s with
    | val _ => exact False.elim ho
    | kn _ => exact False.elim ho
    | obj j =>
      replace ho : (match e1.st[j]? with | some (some ds) => ds.length < sizeLine ∧ Kp (.val .none) ⟨e1.sl, e1.st.set j (some (ds ++ [d]))⟩ | _ => False) := ho
      split at ho
      · rename_i ds hd
        obtain ⟨a, ea, rfl⟩ := a0
        obtain ⟨b, ys, q1, q2, q3, q4⟩ := rep1.store j ds hd
        rw [ea] at q1
        cases q1
        exact ⟨a, ys, y, rfl, rfl, q3, by rw [q4.len]; exact ho.1, (fin.tr l1 (pfx_refl A)).chg rep1 ea hd (q4.app (AtL.one at1)) .non ho.2⟩
      · exact ho.elim
  · exact ho.elim
/-- xs.extend(ys) -/
def opExtend (s : Sl) (ss : List Sl) (e : En) (Kp : KE) : Prop := match s, ss with
  | .obj j, [t] => (match e.st[j]?, pkm t e with
    | some (some ds), some (.list es) => ds.length + es.length ≤ sizeLine ∧ Kp (.val .none) ⟨e.sl, e.st.set j (some (ds ++ es))⟩
    | _, _ => False)
  | _, _ => False
theorem p_extend {K : PySem.W.Frag} : PrimM K "list" rExtend opExtend := by
  intro R F A σ H e x s xs ss Kp Q rep a0 a1 ho fin
  unfold opExtend at ho
  split at ho
  · rename_i j t
    obtain ⟨y, rfl, a2⟩ := a1.one
    split at ho
    · rename_i ds es hd he
      obtain ⟨a, ea, rfl⟩ := a0
      obtain ⟨b, ys, q1, q2, q3, q4⟩ := rep.store j ds hd
      rw [ea] at q1
      cases q1
      obtain ⟨c, zs, rfl, r1, r2⟩ := rep.pkm a2 he
      exact ⟨a, c, ys, zs, rfl, rfl, q3, r1, by rw [q4.len, r2.len]; exact ho.1, fin.chg rep ea hd (q4.app r2) .non ho.2⟩
    · exact ho.elim
  · exact ho.elim
/-- xs.pop() -/
def opPop (s : Sl) (ss : List Sl) (e : En) (Kp : KE) : Prop := match s with
  | .obj j => (match e.st[j]? with
    | some (some ds) => ∃ d, ds.getLast? = some d ∧ Kp (.val d) ⟨e.sl, e.st.set j (some ds.dropLast)⟩
    | _ => False)
  | _ => False
theorem p_pop {K : PySem.W.Frag} : PrimM K "list" (fun x vs H Q => vs = [] → rPop x vs H Q) opPop := by
  intro R F A σ H e x s xs ss Kp Q rep a0 a1 ho fin hv
  subst hv
  unfold opPop at ho
  split at ho
  · rename_i j
    split at ho
    · rename_i ds hd
      obtain ⟨d, hl, k⟩ := ho
      obtain ⟨a, ea, rfl⟩ := a0
      obtain ⟨b, ys, q1, q2, q3, q4⟩ := rep.store j ds hd
      rw [ea] at q1
      cases q1
      rw [List.getLast?_eq_getElem?] at hl
      obtain ⟨v, hv, av⟩ := q4.get hl
      refine ⟨a, ys, v, rfl, rfl, q3, by rw [q4.len]; exact hv, fin.chg rep ea hd q4.dropLast av k⟩
    · exact ho.elim
  · exact ho.elim
theorem ve_append {apos cpos : Pos} {t : VTA} (ho : VE X o to) (ha : VA X [a] t) (hbase : attributeBase o "append" X.env (eval o X.env) = eval o X.env := by rfl) (hline : (apos.endLine == cpos.line) = true := by rfl) (hfew : ((backTo cpos (starEach [a] X.env)).all (fun x => !x.1) && (backToKw cpos (keywordEach [] X.env)).all (fun x => x.1.isSome)
      && decide ([a].length + ([] : List Keyword).length + (if ([] : List Keyword).isEmpty then 0 else 1) < 30)) = true := by rfl) (hs : starEach [a] X.env = (false, eval a X.env) :: starEach [] X.env := by rfl) :
    VE X (.Call (.Attribute o "append" apos) [a] [] cpos) (vM "list" opAppend to t) := ve_m p_append PySem.F.plainAttrs_list PySem.F.slot_list_append PySem.F.type_list_append mt_append ho ha hbase hfew hline hs
theorem ve_extend {apos cpos : Pos} {t : VTA} (ho : VE X o to) (ha : VA X [a] t) (hbase : attributeBase o "extend" X.env (eval o X.env) = eval o X.env := by rfl) (hline : (apos.endLine == cpos.line) = true := by rfl) (hfew : ((backTo cpos (starEach [a] X.env)).all (fun x => !x.1) && (backToKw cpos (keywordEach [] X.env)).all (fun x => x.1.isSome)
      && decide ([a].length + ([] : List Keyword).length + (if ([] : List Keyword).isEmpty then 0 else 1) < 30)) = true := by rfl) (hs : starEach [a] X.env = (false, eval a X.env) :: starEach [] X.env := by rfl) :
    VE X (.Call (.Attribute o "extend" apos) [a] [] cpos) (vM "list" opExtend to t) := ve_m p_extend PySem.F.plainAttrs_list PySem.F.slot_list_extend PySem.F.type_list_extend mt_extend ho ha hbase hfew hline hs
theorem ve_pop {apos cpos : Pos} (ho : VE X o to) (hbase : attributeBase o "pop" X.env (eval o X.env) = eval o X.env := by rfl) (hline : (apos.endLine == cpos.line) = true := by rfl) :
    VE X (.Call (.Attribute o "pop" apos) [] [] cpos) (vM0 "list" opPop to) := PE.imp (pe_bm0 PySem.F.plainAttrs_list PySem.F.slot_list_pop PySem.F.type_list_pop mt_pop ho hbase hline) fun σ H Q h => by
  obtain ⟨R, F, A, e, Kp, rep, ht, fin⟩ := h
  exact ⟨R, F, A, e, _, rep, ht, fun s1 e1 x F1 A1 H1 k1 f1 p1 rep1 at1 => ⟨isT_ty rep1 at1 k1.1, p_pop rep1 at1 .nil k1.2 (fin.tr f1 p1) rfl⟩⟩
end
end Vl
namespace Vl
open PySem L2
structure VEnds where
  nx : En → Prop
  rt : Sl → En → Prop
  bk : En → Prop := fun _ => False
  ct : En → Prop := fun _ => False
abbrev VTS := VEnds → En → Prop
structure FinS (K : PySem.W.Frag) (R F : Hp) (A : List Addr) (DV : VEnds) (D : Ends) : Prop where
  nx : ∀ e' σ' F' A' H', DV.nx e' → Le F F' → A <+: A' → Rep K R F' A' σ' H' e' → D.nx σ' H'
  bk : ∀ e' σ' F' A' H', DV.bk e' → Le F F' → A <+: A' → Rep K R F' A' σ' H' e' → D.bk σ' H'
  ct : ∀ e' σ' F' A' H', DV.ct e' → Le F F' → A <+: A' → Rep K R F' A' σ' H' e' → D.ct σ' H'
  rt : ∀ s e' v σ' F' A' H', DV.rt s e' → Le F F' → A <+: A' → Rep K R F' A' σ' H' e' → SlAt K F' A' v s → D.rt v H'
theorem FinS.tr {K : PySem.W.Frag} {R F F1 : Hp} {A A1 : List Addr} {DV : VEnds} {D : Ends} (f : FinS K R F A DV D) (a : Le F F1) (b : A <+: A1) : FinS K R F1 A1 DV D :=
  ⟨fun e' σ' F' A' H' k h1 h2 => f.nx e' σ' F' A' H' k (a.trans h1) (b.trans h2), fun e' σ' F' A' H' k h1 h2 => f.bk e' σ' F' A' H' k (a.trans h1) (b.trans h2), fun e' σ' F' A' H' k h1 h2 => f.ct e' σ' F' A' H' k (a.trans h1) (b.trans h2),
    fun s e' v σ' F' A' H' k h1 h2 => f.rt s e' v σ' F' A' H' k (a.trans h1) (b.trans h2)⟩
def liftS (K : PySem.W.Frag) (t : VTS) : TS := fun D σ H => ∃ R F A e DV, Rep K R F A σ H e ∧ t DV e ∧ FinS K R F A DV D
def VS (X : Cx) (st : Stmt) (t : VTS) : Prop := PS X st (liftS X.K t)
def VSs (X : Cx) (st : List Stmt) (t : VTS) : Prop := PSs X st (liftS X.K t)
def vNext : VTS := fun D e => D.nx e
def vSeq (t u : VTS) : VTS := fun D e => t { D with nx := u D } e
/-! targets -/
/-- the names outside ws are as they were -/
def Off (ws : List Nat) (σ σ' : L2.St) : Prop := σ'.length = σ.length ∧ ∀ i : Nat, i ∉ ws → σ'[i]? = σ[i]?
theorem Off.refl (ws : List Nat) (σ : L2.St) : Off ws σ σ := ⟨rfl, fun _ _ => rfl⟩
theorem Off.app {ws us : List Nat} {σ σ1 σ2 : L2.St} (a : Off ws σ σ1) (b : Off us σ1 σ2) : Off (ws ++ us) σ σ2 :=
  ⟨b.1.trans a.1, fun i h => (b.2 i fun z => h (List.mem_append_right _ z)).trans (a.2 i fun z => h (List.mem_append_left _ z))⟩
abbrev VTG := Sl → En → (En → Prop) → Prop
abbrev VTGs := List D → En → (En → Prop) → Prop
def FinG (K : PySem.W.Frag) (R F : Hp) (A : List Addr) (ws : List Nat) (σ : L2.St) (Kp : En → Prop) (Q : L2.St → Hp → Prop) : Prop := ∀ e' σ' F' A' H', Kp e' → Le F F' → A <+: A' → Off ws σ σ' → Rep K R F' A' σ' H' e' → Q σ' H'
def liftG (K : PySem.W.Frag) (ws : List Nat) (g : VTG) : TG := fun v σ H Q => ∃ R F A e s Kp, Rep K R F A σ H e ∧ SlAt K F A v s ∧ g s e Kp ∧ FinG K R F A ws σ Kp Q
def liftGs (K : PySem.W.Frag) (ws : List Nat) (g : VTGs) : TGs := fun vs σ H Q => ∃ R F A e ds Kp, Rep K R F A σ H e ∧ AtL K F ds vs ∧ g ds e Kp ∧ FinG K R F A ws σ Kp Q
def VG (X : Cx) (ex : Expr) (ws : List Nat) (g : VTG) : Prop := PG X ex (liftG X.K ws g)
def VGs (X : Cx) (ex : List Expr) (ws : List Nat) (g : VTGs) : Prop := PGs X ex (liftGs X.K ws g)
theorem PG.imp {X : Cx} {ex : Expr} {t t' : TG} (h : PG X ex t) (f : ∀ v σ H Q, t' v σ H Q → t v σ H Q) : PG X ex t' := by
  obtain ⟨run⟩ := h
  constructor
  intros
  apply run <;> first | assumption | (apply f; assumption)
theorem PGs.imp {X : Cx} {ex : List Expr} {t t' : TGs} (h : PGs X ex t) (f : ∀ v σ H Q, t' v σ H Q → t v σ H Q) : PGs X ex t' := by
  obtain ⟨run⟩ := h
  constructor
  intros
  apply run <;> first | assumption | (apply f; assumption)
theorem PI.imp {X : Cx} {tg ex : Expr} {t t' : TI} (h : PI X tg ex t) (f : ∀ σ H Q, t' σ H Q → t σ H Q) : PI X tg ex t' := by
  obtain ⟨run⟩ := h
  constructor
  intros
  apply run <;> first | assumption | (apply f; assumption)
def vgName (i : Nat) : VTG := fun s e Kp => Kp ⟨e.sl.set i (some s), e.st⟩
def vgNil : VTGs := fun ds e Kp => match ds with
  | [] => Kp e
  | _ => False
def vgCons (g : VTG) (u : VTGs) : VTGs := fun ds e Kp => match ds with
  | d :: r => g (.val d) e fun e1 => u r e1 Kp
  | [] => False
def vgTup (n : Nat) (u : VTGs) : VTG := fun s e Kp => match pk s e with
  | some (.tuple ds) => ds.length = n ∧ u ds e Kp
  | _ => False
def vgSub (to ti : VTE) : VTG := fun s e Kp => to e fun so e1 => ti e1 fun si e2 => asD s e2 fun d e3 => match so with
  | .obj j => (match pk si e3 with
    | some (.int k) => (match e3.st[j]? with
      | some (some ds) => ∃ n, ixN ds.length k = some n ∧ Kp ⟨e3.sl, e3.st.set j (some (ds.set n d))⟩
      | _ => False)
    | _ => False)
  | _ => False
section
variable {X : Cx} {pos : Pos}
theorem off_set (i : Nat) (v : Option V) (σ : L2.St) : Off [i] σ (σ.set i v) := ⟨List.length_set, fun k h => List.getElem?_set_ne (fun z => h (by simp [z]))⟩
theorem vg_name {i : Nat} {x : Str} (hN : X.N.Nodup) (hi : X.N[i]? = some x) (hx : Loc X.env.scope x) (hf : X.fn x = true ∨ X.env.scope.names.lookup x = some .local := by first | exact .inl rfl | exact .inr rfl | assumption) : VG X (.Name x pos) [i] (vgName i) :=
  PG.imp (pg_name hN hi hx hf) fun v σ H Q h => by
    obtain ⟨R, F, A, e, s, Kp, rep, a, k, fin⟩ := h
    exact fin _ _ F A H k (Le.refl F) (pfx_refl A) (off_set i _ σ) (rep.put a)
theorem vgs_nil : VGs X [] [] vgNil := PGs.imp pgs_nil fun vs σ H Q h => by
  obtain ⟨R, F, A, e, ds, Kp, rep, a, k, fin⟩ := h
  unfold vgNil at k
  split at k
  · cases a
    exact ⟨rfl, fin _ _ F A H k (Le.refl F) (pfx_refl A) (Off.refl _ _) rep⟩
  · exact k.elim
theorem vgs_cons {ex : Expr} {es : List Expr} {ws us : List Nat} {g : VTG} {u : VTGs} (h1 : VG X ex ws g) (h2 : VGs X es us u) (hs : (assignEach (ex :: es) X.env).map (·.2) = assign ex X.env :: (assignEach es X.env).map (·.2) := by rfl) : VGs X (ex :: es) (ws ++ us) (vgCons g u) := PGs.imp (pgs_cons h1 h2 hs) fun vs σ H Q h => by
  obtain ⟨R, F, A, e, ds, Kp, rep, a, k, fin⟩ := h
  unfold vgCons at k
  split at k
  · rename_i d r
    cases a with
    | cons a1 a2 => exact ⟨_, _, rfl, R, F, A, e, .val d, _, rep, a1, k, fun e1 σ1 F1 A1 H1 k1 l1 p1 o1 rep1 => ⟨R, F1, A1, e1, r, Kp, rep1, AtL.le l1 _ _ a2, k1, fun e2 σ2 F2 A2 H2 k2 l2 p2 o2 rep2 => fin _ _ _ _ _ k2 (l1.trans l2) (p1.trans p2) (o1.app o2) rep2⟩⟩
  · exact k.elim
theorem vg_tup {es : List Expr} {k : Nat} {t : VTGs} {n : Nat} {ws : List Nat} (hc : X.calm = true) (h : VGs X es ws t) (hn : (assignEach es X.env).length = n := by rfl) (hst : (assignEach es X.env).findIdx? (·.1) = none := by rfl) : VG X (.Tuple es k pos) ws (vgTup n t) := PG.imp (pg_tup hc h hn hst) fun v σ H Q h => by
  obtain ⟨R, F, A, e, s, Kp, rep, a, k, fin⟩ := h
  unfold vgTup at k
  split at k
  · rename_i ds hd
    obtain ⟨p, xs, rfl, q1, q2⟩ := (rep.pk a hd).tup
    exact ⟨p, xs, rfl, sqT_le rep.sub q1, by rw [q2.len]; exact k.1, R, F, A, e, ds, Kp, rep, q2, k.2, fin⟩
  · exact k.elim
theorem vg_sub {o i : Expr} {to ti : VTE} (ho : VE X o to) (hi : VE X i ti) (hp : ∀ {u w : TE}, PE X o u → PE X i w → PG X (.Subscript o i pos) (gSub u w rSetL)) : VG X (.Subscript o i pos) [] (vgSub to ti) := PG.imp (hp ho hi) fun v σ H Q h => by
  obtain ⟨R, F, A, e, s, Kp, rep, a, k, fin⟩ := h
  refine ⟨R, F, A, e, _, rep, k, fun so e1 x F1 A1 H1 k1 l1 p1 rep1 a1 => ⟨R, F1, A1, e1, _, rep1, k1, fun si e2 y F2 A2 H2 k2 l2 p2 rep2 a2 => ?_⟩⟩
  obtain ⟨d, e3, F3, k3, rep3, l3, a3⟩ := rep2.asD (a.le (l1.trans l2) (p1.trans p2)) k2
  have a2' := a2.le l3 (pfx_refl A2)
  have a1' := a1.le (l2.trans l3) p2
  have lz := (l1.trans l2).trans l3
  have pz := p1.trans p2
  cases so with
  | val _ => exact False.elim k3
  | kn _ => exact False.elim k3
  | obj j =>
    replace k3 : (match pk si e3 with | some (.int k) => (match e3.st[j]? with | some (some ds) => ∃ n, ixN ds.length k = some n ∧ Kp ⟨e3.sl, e3.st.set j (some (ds.set n d))⟩ | _ => False) | _ => False) := k3
    split at k3
    · rename_i k hk
      split at k3
      · rename_i ds hd
        obtain ⟨n, hn, k4⟩ := k3
        obtain ⟨b, eb, rfl⟩ := a1'
        obtain ⟨b', xs, q1, q2, q3, q4⟩ := rep3.store j ds hd
        rw [eb] at q1
        cases q1
        refine ⟨b, xs, k, n, rfl, (rep3.pk a2' hk).int, q3, by rw [q4.len]; exact hn, fin _ _ _ _ _ k4 lz pz (Off.refl _ _) (rep3.write eb hd (q4.set a3 n))⟩
      · exact k3.elim
    · exact k3.elim
/-! statements -/
theorem vss_nil : VSs X [] vNext := PSs.imp pss_nil fun D σ H h => by
  obtain ⟨R, F, A, e, DV, rep, k, fin⟩ := h
  exact fin.nx e σ F A H k (Le.refl F) (pfx_refl A) rep
theorem vss_one {st : Stmt} {t : VTS} (h : VS X st t) : VSs X [st] t := pss_one h
theorem vss_cons {st : Stmt} {rest : List Stmt} {t u : VTS} (h1 : VS X st t) (h2 : VSs X rest u) : VSs X (st :: rest) (vSeq t u) := PSs.imp (pss_cons h1 h2) fun D σ H h => by
  obtain ⟨R, F, A, e, DV, rep, k, fin⟩ := h
  exact ⟨R, F, A, e, _, rep, k, fun e1 σ1 F1 A1 H1 k1 l1 p1 rep1 => ⟨R, F1, A1, e1, DV, rep1, k1, fin.tr l1 p1⟩, fin.bk, fin.ct, fin.rt⟩
def vBreak : VTS := fun D e => D.bk e
def vCont : VTS := fun D e => D.ct e
theorem vs_pass : VS X (.Pass pos) vNext := PS.imp ps_pass fun D σ H h => by
  obtain ⟨R, F, A, e, DV, rep, k, fin⟩ := h
  exact fin.nx e σ F A H k (Le.refl F) (pfx_refl A) rep
theorem vs_break : VS X (.Break pos) vBreak := PS.imp ps_break fun D σ H h => by
  obtain ⟨R, F, A, e, DV, rep, k, fin⟩ := h
  exact fin.bk e σ F A H k (Le.refl F) (pfx_refl A) rep
theorem vs_continue : VS X (.Continue pos) vCont := PS.imp ps_continue fun D σ H h => by
  obtain ⟨R, F, A, e, DV, rep, k, fin⟩ := h
  exact fin.ct e σ F A H k (Le.refl F) (pfx_refl A) rep
theorem vs_doc {x j pos'} : VS X (.Expr (.Constant (.str x) j pos) pos') vNext := PS.imp ps_doc fun D σ H h => by
  obtain ⟨R, F, A, e, DV, rep, k, fin⟩ := h
  exact fin.nx e σ F A H k (Le.refl F) (pfx_refl A) rep
def vDrop (t : VTE) : VTS := fun D e => t e fun _ e1 => D.nx e1
theorem vs_expr {ex : Expr} {t : VTE} (he : VE X ex t) (hs : swapsWith ex none pos.line X.env = pure false := by rfl) : VS X (.Expr ex pos) (vDrop t) := PS.imp (ps_expr he hs) fun D σ H h => by
  obtain ⟨R, F, A, e, DV, rep, k, fin⟩ := h
  exact ⟨R, F, A, e, _, rep, k, fun s e1 v F1 A1 H1 k1 l1 p1 rep1 a1 => fin.nx _ _ _ _ _ k1 l1 p1 rep1⟩
def vRet (t : VTE) : VTS := fun D e => t e D.rt
theorem vs_ret {ex : Expr} {t : VTE} (he : VE X ex t) : VS X (.Return (some ex) pos) (vRet t) := PS.imp (ps_ret he) fun D σ H h => by
  obtain ⟨R, F, A, e, DV, rep, k, fin⟩ := h
  exact ⟨R, F, A, e, _, rep, k, fun s e1 v F1 A1 H1 k1 l1 p1 rep1 a1 => fin.rt _ _ _ _ _ _ _ k1 l1 p1 rep1 a1⟩
def vRetN : VTS := fun D e => D.rt (.val .none) e
theorem vs_retN : VS X (.Return none pos) vRetN := PS.imp ps_retN fun D σ H h => by
  obtain ⟨R, F, A, e, DV, rep, k, fin⟩ := h
  exact fin.rt (.val .none) e .non σ F A H k (Le.refl F) (pfx_refl A) rep .non
def vIfS (c : VTT) (t u : VTS) : VTS := fun D e => c e fun b e1 => if b = true then t D e1 else u D e1
theorem vs_if {c : Expr} {a b : List Stmt} {tc : VTT} {t u : VTS} (hc : VT X c tc) (ha : VSs X a t) (hb : VSs X b u) : VS X (.If c a b pos) (vIfS tc t u) := PS.imp (ps_if hc ha hb) fun D σ H h => by
  obtain ⟨R, F, A, e, DV, rep, k, fin⟩ := h
  refine ⟨R, F, A, e, _, rep, k, fun b e1 F1 A1 H1 k1 l1 p1 rep1 => ?_⟩
  cases b with
  | true => exact ⟨R, F1, A1, e1, DV, rep1, k1, fin.tr l1 p1⟩
  | false => exact ⟨R, F1, A1, e1, DV, rep1, k1, fin.tr l1 p1⟩
def vSet (i : Nat) (t : VTE) : VTS := fun D e => t e fun s e1 => D.nx ⟨e1.sl.set i (some s), e1.st⟩
theorem lift_set {i : Nat} {t : VTE} {te : TE} (D : Ends) (σ : L2.St) (H : Hp) (hte : ∀ Q, liftE X.K t σ H Q → te σ H Q) (h : liftS X.K (vSet i t) D σ H) : tAsg te (gName i) D σ H := by
  obtain ⟨R, F, A, e, DV, rep, k, fin⟩ := h
  exact hte _ ⟨R, F, A, e, _, rep, k, fun s e1 v F1 A1 H1 k1 l1 p1 rep1 a1 => fin.nx _ _ _ _ _ k1 l1 p1 (rep1.put a1)⟩
theorem vs_set {i : Nat} {x : Str} {ex : Expr} {t : VTE} {pos' : Pos} (hN : X.N.Nodup) (hi : X.N[i]? = some x) (hx : Loc X.env.scope x) (he : VE X ex t) (hs : swapsWith ex (some (.Name x pos')) pos.line X.env = pure false := by rfl) (hf : X.fn x = true ∨ X.env.scope.names.lookup x = some .local := by first | exact .inl rfl | exact .inr rfl | assumption) :
    VS X (.Assign [.Name x pos'] ex pos) (vSet i t) := PS.imp (ps_set hN hi hx he hs hf) fun D σ H h => lift_set D σ H (fun _ q => q) h
def vAsg (t : VTE) (g : VTG) : VTS := fun D e => t e fun s e1 => g s e1 D.nx
theorem vs_asg {tg ex : Expr} {t : VTE} {g : VTG} {ws : List Nat} (he : VE X ex t) (hg : VG X tg ws g) (hs : swapsWithSole [tg] ex pos.line X.env = pure false := by rfl) (hw : swappedStores [tg] ex X.env = pure none := by rfl) (h1 : (assignEach [tg] X.env).map (·.2) = [assign tg X.env] := by rfl) : VS X (.Assign [tg] ex pos) (vAsg t g) := PS.imp (ps_asg he hg hs hw h1) fun D σ H h => by
  obtain ⟨R, F, A, e, DV, rep, k, fin⟩ := h
  exact ⟨R, F, A, e, _, rep, k, fun s e1 v F1 A1 H1 k1 l1 p1 rep1 a1 => ⟨R, F1, A1, e1, s, DV.nx, rep1, a1, k1, fun e2 σ2 F2 A2 H2 k2 l2 p2 o2 rep2 => fin.nx _ _ _ _ _ k2 (l1.trans l2) (p1.trans p2) rep2⟩⟩
end
/-! at a turn's end what was given away behind the first n lists is dropped -/
def dropNone {α : Type} : List (Option α) → List (Option α)
  | [] => []
  | x :: xs => match x, dropNone xs with
    | none, [] => []
    | x, r => x :: r
theorem dropNone_pre {α : Type} : ∀ l : List (Option α), dropNone l <+: l
  | [] => List.prefix_refl _
  | x :: xs => by
    have ih := dropNone_pre xs
    unfold dropNone
    split
    · exact List.nil_prefix
    · exact (List.prefix_cons_inj _).mpr ih
def clr (m : Nat) : Option Sl → Option Sl
  | some (.obj j) => if j < m then some (.obj j) else none
  | s => s
def trimS (n : Nat) (st : List (Option (List D))) : List (Option (List D)) := st.take n ++ dropNone (st.drop n)
def En.trim (n : Nat) (e : En) : En := ⟨e.sl.map (clr (trimS n e.st).length), trimS n e.st⟩
theorem trimS_pre (n : Nat) (st : List (Option (List D))) : trimS n st <+: st := by
  obtain ⟨t, ht⟩ := dropNone_pre (st.drop n)
  refine ⟨t, ?_⟩
  show st.take n ++ dropNone (st.drop n) ++ t = st
  rw [List.append_assoc, ht, List.take_append_drop]
theorem Rep.trim {K : PySem.W.Frag} {R F : Hp} {A A1 : List Addr} {σ : L2.St} {H : Hp} {e : En} (r : Rep K R F A σ H e) {n : Nat} (p : A1 <+: A) (hn : A1.length = n) : ∃ A', A1 <+: A' ∧ Rep K R F A' σ H (e.trim n) := by
  have pre := trimS_pre n e.st
  have hm : (trimS n e.st).length ≤ e.st.length := pre.length_le
  have pa : A.take (trimS n e.st).length <+: A := List.take_prefix _ _
  refine ⟨A.take (trimS n e.st).length, ?_, r.sub, r.keep, fun a o z => ⟨(r.apart a o z).1, fun hm => (r.apart a o z).2 (List.mem_of_mem_take hm)⟩, by simp [En.trim, r.len], ?_, ?_, fun a ha => r.live a (List.mem_of_mem_take ha), fun i s z => ?_, fun j ds z => ?_⟩
  · have h1 : A1.length ≤ A.length := p.length_le
    have h2 : n ≤ (trimS n e.st).length := by
      show n ≤ (e.st.take n ++ dropNone (e.st.drop n)).length
      rw [List.length_append, List.length_take, r.lenA]
      omega
    exact List.prefix_of_prefix_length_le p pa (by rw [List.length_take, ← r.lenA]; have := r.lenA; omega)
  · show (trimS n e.st).length = _
    rw [List.length_take, ← r.lenA]
    omega
  · exact (List.take_sublist _ _).nodup r.nodup
  · have z' : (e.sl.map (clr (trimS n e.st).length))[i]? = some (some s) := z
    rw [List.getElem?_map] at z'
    obtain ⟨t, ht, hs⟩ := Option.map_eq_some_iff.mp z'
    cases t with
    | none => cases hs
    | some t =>
      obtain ⟨v, h1, h2⟩ := r.slot i t ht
      cases t with
      | val d =>
        cases hs
        exact ⟨v, h1, h2⟩
      | kn d =>
        cases hs
        exact ⟨v, h1, h2⟩
      | obj j =>
        replace hs : (if j < (trimS n e.st).length then some (Sl.obj j) else none) = some s := hs
        split at hs
        · rename_i hj
          cases hs
          obtain ⟨a, e1, e2⟩ := h2
          exact ⟨v, h1, a, by rw [List.getElem?_take_of_lt hj]; exact e1, e2⟩
        · cases hs
  · have z' : (trimS n e.st)[j]? = some (some ds) := z
    have hj := (List.getElem?_eq_some_iff.mp z').1
    have z2 : e.st[j]? = some (some ds) := by
      obtain ⟨t, ht⟩ := pre
      rw [← ht, List.getElem?_append_left hj]
      exact z'
    obtain ⟨a, xs, h1, h2, h3, h4⟩ := r.store j ds z2
    exact ⟨a, xs, by rw [List.getElem?_take_of_lt hj]; exact h1, h2, h3, h4⟩
/-! while -/
def wl (c : VTT) (tb : VTS) (n : Nat) : Nat → VEnds → En → Prop
  | 0, _, _ => False
  | m + 1, D, e => c e fun b e1 => if b = true then tb { D with nx := fun e' => wl c tb n m D (e'.trim n), ct := fun e' => wl c tb n m D (e'.trim n), bk := D.nx } e1 else D.nx e1
def vWhile (c : VTT) (tb : VTS) : VTS := fun D e => ∃ m, wl c tb e.st.length m D e
theorem vs_while {X : Cx} {pos : Pos} {c : Expr} {body : List Stmt} {tc : VTT} {tb : VTS} (hp : PassesOwn (model X.prog X.w) X.A X.env X.xe) (hc : VT X c tc) (hb : VSs X body tb) : VS X (.While c body [] pos) (vWhile tc tb) := PS.imp (ps_while hp hc hb) fun D σ H h => by
  obtain ⟨R, F, A, e, DV, rep, ⟨m, k⟩, fin⟩ := h
  refine ⟨fun m σ' H' => ∃ F' A' e', Le F F' ∧ A <+: A' ∧ Rep X.K R F' A' σ' H' e' ∧ wl tc tb e.st.length m DV e', ⟨m, F, A, e, Le.refl F, pfx_refl A, rep, k⟩, ?_⟩
  rintro m σ' H' ⟨F', A', e', l, p, rep', k⟩
  cases m with
  | zero => exact False.elim k
  | succ m =>
    refine ⟨R, F', A', e', _, rep', k, fun b e1 F1 A1 H1 k1 l1 p1 rep1 => ?_⟩
    cases b with
    | false => exact fin.nx _ _ _ _ _ k1 (l.trans l1) (p.trans p1) rep1
    | true =>
      have nxt : ∀ e2 σ2 F2 A2 H2, wl tc tb e.st.length m DV (e2.trim e.st.length) → Le F1 F2 → A1 <+: A2 → Rep X.K R F2 A2 σ2 H2 e2 → ∃ F' A' e', Le F F' ∧ A <+: A' ∧ Rep X.K R F' A' σ2 H2 e' ∧ wl tc tb e.st.length m DV e' := fun e2 σ2 F2 A2 H2 k2 l2 p2 rep2 => by
        obtain ⟨A3, p3, rep3⟩ := rep2.trim (A1 := A) (n := e.st.length) ((p.trans p1).trans p2) rep.lenA.symm
        exact ⟨F2, A3, _, (l.trans l1).trans l2, p3, rep3, k2⟩
      refine ⟨fun σ2 H2 => ∃ F' A' e', Le F F' ∧ A <+: A' ∧ Rep X.K R F' A' σ2 H2 e' ∧ wl tc tb e.st.length m DV e', fun σ2 H2 q => ⟨m, Nat.lt_succ_self m, q⟩, ?_⟩
      exact ⟨R, F1, A1, e1, _, rep1, k1, nxt, fun e2 σ2 F2 A2 H2 k2 l2 p2 rep2 => fin.nx _ _ _ _ _ k2 ((l.trans l1).trans l2) ((p.trans p1).trans p2) rep2, nxt, fun s e2 v σ2 F2 A2 H2 k2 l2 p2 rep2 a2 => fin.rt _ _ _ _ _ _ _ k2 ((l.trans l1).trans l2) ((p.trans p1).trans p2) rep2 a2⟩
/-! what is walked -/
def okc (c : Option (En → Prop)) (e : En) : Prop := match c with
  | none => True
  | some c => c e
def wth (c : Option (En → Prop)) (e : En) (p : Prop) : Prop := match c with
  | none => p
  | some c => c e ∧ p
theorem wth_ok {c : Option (En → Prop)} {e : En} {p : Prop} (h : wth c e p) : okc c e ∧ p := by
  cases c with
  | none => exact ⟨trivial, h⟩
  | some c => exact h
structure ItOk (K : PySem.W.Frag) (F : Hp) (A : List Addr) (chk : Option (En → Prop)) (ds : List D) (J : It) : Prop where
  go : ∀ {R F' : Hp} {A' : List Addr} {σ' : L2.St} {H' : Hp} {e' : En} (i : Nat) (d : D), ds[i]? = some d → Le F F' → A <+: A' → Rep K R F' A' σ' H' e' → okc chk e' → J.go i H' ∧ ∀ x H3, J.yld i H' x H3 → ∃ F3, Le F' F3 ∧ Rep K R F3 A' σ' H3 e' ∧ At K F3 d x
  stop : ∀ {R F' : Hp} {A' : List Addr} {σ' : L2.St} {H' : Hp} {e' : En}, Le F F' → A <+: A' → Rep K R F' A' σ' H' e' → okc chk e' → J.stop ds.length H'
abbrev VTI := En → (List D → Option (En → Prop) → En → Prop) → Prop
def liftI (K : PySem.W.Frag) (w : VTI) : TI := fun σ H Q => ∃ R F A e Kp, Rep K R F A σ H e ∧ w e Kp ∧ ∀ ds chk e' F' A' H' J, Kp ds chk e' → Le F F' → A <+: A' → Rep K R F' A' σ H' e' → ItOk K F' A' chk ds J → Q J H'
def VI (X : Cx) (tg it : Expr) (w : VTI) : Prop := PI X tg it (liftI X.K w)
def fl (g : VTG) (tb : VTS) (chk : Option (En → Prop)) (n : Nat) : List D → VEnds → En → Prop
  | [], D, e => wth chk e (D.nx e)
  | d :: ds, D, e => wth chk e (g (.val d) e fun e1 => tb { D with nx := fun e' => fl g tb chk n ds D (e'.trim n), ct := fun e' => fl g tb chk n ds D (e'.trim n), bk := D.nx } e1)
def vFor (w : VTI) (g : VTG) (tb : VTS) : VTS := fun D e => w e fun ds chk e1 => fl g tb chk e1.st.length ds D e1
theorem vs_for {X : Cx} {pos : Pos} {tg it : Expr} {body : List Stmt} {w : VTI} {g : VTG} {ws : List Nat} {tb : VTS} (hi : VI X tg it w) (hg : VG X tg ws g) (hb : VSs X body tb) (hp : ∀ {wi : TI} {tgg : TG} {tbb : TS}, PI X tg it wi → PG X tg tgg → PSs X body tbb → PS X (.For tg it body [] pos) (tFor wi tgg tbb)) :
    VS X (.For tg it body [] pos) (vFor w g tb) := PS.imp (hp hi hg hb) fun D σ H h => by
  obtain ⟨R, F, A, e, DV, rep, k, fin⟩ := h
  refine ⟨R, F, A, e, _, rep, k, fun ds chk e1 F1 A1 H1 J k1 l1 p1 rep1 it => ?_⟩
  refine ⟨fun i m σ' H' => ∃ F' A' e', m = ds.length - i ∧ i ≤ ds.length ∧ Le F1 F' ∧ A1 <+: A' ∧ Rep X.K R F' A' σ' H' e' ∧ fl g tb chk e1.st.length (ds.drop i) DV e', ⟨_, F1, A1, e1, rfl, Nat.zero_le _, Le.refl _, pfx_refl _, rep1, k1⟩, ?_⟩
  rintro i m σ' H' ⟨F', A', e', rfl, hi, l, p, rep', k⟩
  rcases Nat.lt_or_ge i ds.length with hlt | hge
  · right
    obtain ⟨d, hd⟩ : ∃ d, ds[i]? = some d := ⟨ds[i], by simp [hlt]⟩
    have hdr : ds.drop i = d :: ds.drop (i + 1) := by
      rw [List.drop_eq_getElem_cons hlt]
      rw [List.getElem?_eq_getElem hlt] at hd
      cases hd
      rfl
    rw [hdr] at k
    obtain ⟨kc, k⟩ := wth_ok k
    obtain ⟨g1, g2⟩ := it.go i d hd l p rep' kc
    have nxt : ∀ e2 σ2 F2 A2 H2, fl g tb chk e1.st.length (ds.drop (i + 1)) DV (e2.trim e1.st.length) → Le F1 F2 → A1 <+: A2 → Rep X.K R F2 A2 σ2 H2 e2 → ∃ F' A' e', ds.length - (i + 1) = ds.length - (i + 1) ∧ i + 1 ≤ ds.length ∧ Le F1 F' ∧ A1 <+: A' ∧ Rep X.K R F' A' σ2 H2 e' ∧ fl g tb chk e1.st.length (ds.drop (i + 1)) DV e' := fun e2 σ2 F2 A2 H2 k2 l2 p2 rep2 => by
      obtain ⟨A3, p3, rep3⟩ := rep2.trim (A1 := A1) (n := e1.st.length) p2 rep1.lenA.symm
      exact ⟨F2, A3, _, rfl, hlt, l2, p3, rep3, k2⟩
    refine ⟨g1, fun σ2 H2 => ∃ F' A' e', ds.length - (i + 1) = ds.length - (i + 1) ∧ i + 1 ≤ ds.length ∧ Le F1 F' ∧ A1 <+: A' ∧ Rep X.K R F' A' σ2 H2 e' ∧ fl g tb chk e1.st.length (ds.drop (i + 1)) DV e', fun σ2 H2 q => ⟨ds.length - (i + 1), by omega, q⟩, fun x H3 y => ?_⟩
    obtain ⟨F3, l3, rep3, a3⟩ := g2 x H3 y
    refine ⟨R, F3, A', e', .val d, _, rep3, a3, k, fun e2 σ2 F2 A2 H2 k2 l2 p2 o2 rep2 => ⟨R, F2, A2, e2, _, rep2, k2, ?_⟩⟩
    have lf := (l.trans l3).trans l2
    have pf := p.trans p2
    exact ⟨fun e3 σ3 F4 A3 H4 k3 l4 p3 rep4 => nxt _ _ _ _ _ k3 (lf.trans l4) (pf.trans p3) rep4, fun e3 σ3 F4 A3 H4 k3 l4 p3 rep4 => fin.nx _ _ _ _ _ k3 (l1.trans (lf.trans l4)) (p1.trans (pf.trans p3)) rep4,
      fun e3 σ3 F4 A3 H4 k3 l4 p3 rep4 => nxt _ _ _ _ _ k3 (lf.trans l4) (pf.trans p3) rep4, fun s e3 v σ3 F4 A3 H4 k3 l4 p3 rep4 a4 => fin.rt _ _ _ _ _ _ _ k3 (l1.trans (lf.trans l4)) (p1.trans (pf.trans p3)) rep4 a4⟩
  · left
    have e0 : i = ds.length := by omega
    subst e0
    rw [List.drop_length] at k
    obtain ⟨kc, k⟩ := wth_ok k
    exact ⟨it.stop l p rep' kc, fin.nx _ _ _ _ _ k (l1.trans l) (p1.trans p) rep'⟩
/-! lists, tuples, ranges -/
def chkOf (s : Sl) (ds : List D) : Option (En → Prop) := match s with
  | .obj j => some fun e => e.st[j]? = some (some ds)
  | _ => none
def vSeqI (t : VTE) : VTI := fun e Kp => t e fun s e1 => match pk s e1 with
  | some (.list ds) => Kp ds (chkOf s ds) e1
  | _ => False
def vTupI (t : VTE) : VTI := fun e Kp => t e fun s e1 => match pk s e1 with
  | some (.tuple ds) => Kp ds none e1
  | _ => False
section
variable {X : Cx} {tg a b : Expr} {ta : VTE} {pos : Pos}
/-- a list that is walked stands as it did -/
theorem seq_at {K : PySem.W.Frag} {R R' F F' : Hp} {A A' : List Addr} {σ σ' : L2.St} {H H' : Hp} {e e' : En} {s : Sl} {v : V} {ds : List D} (rep : Rep K R F A σ H e) (a : SlAt K F A v s) (h : pk s e = some (.list ds)) (l : Le F F') (p : A <+: A') (rep' : Rep K R' F' A' σ' H' e') (c : okc (chkOf s ds) e') :
    ∃ q xs, v = .ref q ∧ SqL K H' q xs ∧ AtL K F' ds xs := by
  cases s with
  | val d =>
    cases h
    exact rep'.pk (s := .val (.list ds)) (d := .list ds) (a.le l p) rfl
  | kn d =>
    cases h
    exact rep'.pk (s := .kn ds) (d := .list ds) (SlAt.le (x := .kn ds) l p a) rfl
  | obj j =>
    have c' : e'.st[j]? = some (some ds) := c
    refine rep'.pk (s := .obj j) (d := .list ds) (SlAt.le (x := .obj j) l p a) ?_
    show (match e'.st[j]? with | some (some ds) => some (PyData.list ds) | _ => none) = _
    rw [c']
theorem vi_list (ha : VE X a ta) : VI X tg a (vSeqI ta) := PI.imp (pi_list ha) fun σ H Q h => by
  obtain ⟨R, F, A, e, Kp, rep, k, fin⟩ := h
  refine ⟨R, F, A, e, _, rep, k, fun s e1 v F1 A1 H1 k1 l1 p1 rep1 a1 => ?_⟩
  split at k1
  · rename_i ds hd
    obtain ⟨q, xs, rfl, q1, q2⟩ := rep1.pk a1 hd
    refine ⟨q, rfl, ⟨xs, q1⟩, fin _ _ _ _ _ _ _ k1 l1 p1 rep1 ⟨fun {R' F' A' σ' H' e'} i d hi l p rep' c => ?_, fun {R' F' A' σ' H' e'} l p rep' c => ?_⟩⟩
    · obtain ⟨q', ys, ev, r1, r2⟩ := seq_at rep1 a1 hd l p rep' c
      cases ev
      obtain ⟨u, hu, au⟩ := r2.get hi
      refine ⟨⟨ys, u, r1, hu⟩, fun x H3 y => ?_⟩
      obtain ⟨rfl, y⟩ := y
      have := y ys r1
      rw [hu] at this
      cases this
      exact ⟨F', Le.refl _, rep', au⟩
    · obtain ⟨q', ys, ev, r1, r2⟩ := seq_at rep1 a1 hd l p rep' c
      cases ev
      exact ⟨ys, r1, by rw [r2.len]; exact Nat.le_refl _⟩
  · exact k1.elim
theorem vi_tup (ha : VE X a ta) : VI X tg a (vTupI ta) := PI.imp (pi_tup ha) fun σ H Q h => by
  obtain ⟨R, F, A, e, Kp, rep, k, fin⟩ := h
  refine ⟨R, F, A, e, _, rep, k, fun s e1 v F1 A1 H1 k1 l1 p1 rep1 a1 => ?_⟩
  split at k1
  · rename_i ds hd
    obtain ⟨q, xs, rfl, q1, q2⟩ := (rep1.pk a1 hd).tup
    refine ⟨q, rfl, ⟨xs, sqT_le rep1.sub q1⟩, fin _ _ _ _ _ _ _ k1 l1 p1 rep1 ⟨fun {R' F' A' σ' H' e'} i d hi l p rep' c => ?_, fun {R' F' A' σ' H' e'} l p rep' c => ?_⟩⟩
    · obtain ⟨u, hu, au⟩ := q2.get hi
      have sq := sqT_le rep'.sub (sqT_le l q1)
      refine ⟨⟨xs, u, sq, hu⟩, fun x H3 y => ?_⟩
      obtain ⟨rfl, y⟩ := y
      have := y xs sq
      rw [hu] at this
      cases this
      exact ⟨F', Le.refl _, rep', At.le l _ _ au⟩
    · exact ⟨xs, sqT_le rep'.sub (sqT_le l q1), by rw [q2.len]; exact Nat.le_refl _⟩
  · exact k1.elim
def rng (lo : Int) (n : Nat) : List D := (List.range n).map fun i => PyData.int (lo + (i : Nat))
theorem rng_len (lo : Int) (n : Nat) : (rng lo n).length = n := by simp [rng]
theorem rng_get {lo : Int} {n i : Nat} {d : D} (h : (rng lo n)[i]? = some d) : i < n ∧ d = .int (lo + (i : Nat)) := by
  have hi := (List.getElem?_eq_some_iff.mp h).1
  rw [rng_len] at hi
  refine ⟨hi, ?_⟩
  unfold rng at h
  rw [List.getElem?_map, List.getElem?_range hi] at h
  simp at h
  exact h.symm
theorem it_rng {K : PySem.W.Frag} {F : Hp} {A : List Addr} {lo : Int} {n : Nat} : ItOk K F A none (rng lo n) (Itr lo n) :=
  ⟨fun {R' F' A' σ' H' e'} i d hi l p rep' c => by
    obtain ⟨h1, rfl⟩ := rng_get hi
    refine ⟨h1, fun x H3 y => ?_⟩
    obtain ⟨rfl, rfl⟩ := y
    exact ⟨F', Le.refl _, rep', .int _⟩,
   fun {R' F' A' σ' H' e'} l p rep' c => by
    show n ≤ (rng lo n).length
    rw [rng_len]
    exact Nat.le_refl _⟩
def vRng1 (t : VTA) : VTI := fun e Kp => t e fun ss e1 => match ss with
  | [s] => (match pk s e1 with
    | some (.int j) => -(2 ^ 62) ≤ j ∧ j < 2 ^ 62 ∧ Kp (rng 0 j.toNat) none e1
    | _ => False)
  | _ => False
def vRng2 (t : VTA) : VTI := fun e Kp => t e fun ss e1 => match ss with
  | [s, u] => (match pk s e1, pk u e1 with
    | some (.int i), some (.int j) => (-(2 ^ 62) ≤ i ∧ i < 2 ^ 62 ∧ -(2 ^ 62) ≤ j ∧ j < 2 ^ 62) ∧ Kp (rng i (j - i).toNat) none e1
    | _, _ => False)
  | _ => False
theorem vi_range1 {t : VTA} {p pos : Pos} (hg : Gl X "range") (hm : X.mg "range" = none) (ha : VA X [a] t) (hs : starEach [a] X.env = [(false, eval a X.env)] := by rfl) : VI X tg (.Call (.Name "range" p) [a] [] pos) (vRng1 t) := PI.imp (pi_range1 hg hm ha hs) fun σ H Q h => by
  obtain ⟨R, F, A, e, Kp, rep, k, fin⟩ := h
  refine ⟨R, F, A, e, _, rep, k, fun ss e1 vs F1 A1 H1 k1 l1 p1 rep1 a1 => ?_⟩
  split at k1
  · obtain ⟨x, rfl, a2⟩ := a1.one
    split at k1
    · rename_i j hj
      exact ⟨j, by rw [(rep1.pk a2 hj).int], k1.1, k1.2.1, fin _ _ _ _ _ _ _ k1.2.2 l1 p1 rep1 it_rng⟩
    · exact k1.elim
  · exact k1.elim
theorem vi_range2 {t : VTA} {p pos : Pos} (hg : Gl X "range") (hm : X.mg "range" = none) (ha : VA X [a, b] t) (hs : starEach [a, b] X.env = [(false, eval a X.env), (false, eval b X.env)] := by rfl) (hs2 : starEach [b] X.env = [(false, eval b X.env)] := by rfl) : VI X tg (.Call (.Name "range" p) [a, b] [] pos) (vRng2 t) := PI.imp (pi_range2 hg hm ha hs hs2) fun σ H Q h => by
  obtain ⟨R, F, A, e, Kp, rep, k, fin⟩ := h
  refine ⟨R, F, A, e, _, rep, k, fun ss e1 vs F1 A1 H1 k1 l1 p1 rep1 a1 => ?_⟩
  split at k1
  · obtain ⟨x, y, rfl, a2, a3⟩ := a1.two
    split at k1
    · rename_i i j hi hj
      exact ⟨i, j, by rw [(rep1.pk a2 hi).int, (rep1.pk a3 hj).int], k1.1, fin _ _ _ _ _ _ _ k1.2 l1 p1 rep1 it_rng⟩
    · exact k1.elim
  · exact k1.elim
/-- pairs: a place and a thing; two things -/
def enumD : Nat → List D → List D
  | _, [] => []
  | k, d :: ds => .tuple [.int (k : Nat), d] :: enumD (k + 1) ds
def zipD : List D → List D → List D
  | d :: ds, c :: cs => .tuple [d, c] :: zipD ds cs
  | _, _ => []
theorem enumD_len : ∀ (ds : List D) (k : Nat), (enumD k ds).length = ds.length
  | [], _ => rfl
  | d :: ds, k => by
    show (enumD (k + 1) ds).length + 1 = ds.length + 1
    rw [enumD_len ds]
theorem enumD_get : ∀ {ds : List D} {k i : Nat} {c : D}, (enumD k ds)[i]? = some c → ∃ d, ds[i]? = some d ∧ c = .tuple [.int ((k + i : Nat) : Int), d]
  | [], _, _, _, h => by simp [enumD] at h
  | d :: ds, k, 0, c, h => by
    simp [enumD] at h
    exact ⟨d, rfl, h.symm⟩
  | d :: ds, k, i + 1, c, h => by
    obtain ⟨d', h1, h2⟩ := enumD_get (ds := ds) (k := k + 1) (i := i) (c := c) (by simpa [enumD] using h)
    exact ⟨d', by simpa using h1, by rw [h2, show k + 1 + i = k + (i + 1) from by omega]⟩
theorem zipD_len : ∀ (ds cs : List D), (zipD ds cs).length = min ds.length cs.length
  | [], _ => by simp [zipD]
  | d :: ds, [] => by simp [zipD]
  | d :: ds, c :: cs => by
    show (zipD ds cs).length + 1 = _
    rw [zipD_len ds cs]
    simp only [List.length_cons]
    omega
theorem zipD_get : ∀ {ds cs : List D} {i : Nat} {c : D}, (zipD ds cs)[i]? = some c → ∃ x y, ds[i]? = some x ∧ cs[i]? = some y ∧ c = .tuple [x, y]
  | [], _, _, _, h => by simp [zipD] at h
  | d :: ds, [], _, _, h => by simp [zipD] at h
  | d :: ds, c' :: cs, 0, c, h => by
    simp [zipD] at h
    exact ⟨d, c', rfl, rfl, h.symm⟩
  | d :: ds, c' :: cs, i + 1, c, h => by
    obtain ⟨x, y, h1, h2, h3⟩ := zipD_get (ds := ds) (cs := cs) (i := i) (c := c) (by simpa [zipD] using h)
    exact ⟨x, y, by simpa using h1, by simpa using h2, h3⟩
def vEnum (t : VTA) : VTI := fun e Kp => t e fun ss e1 => match ss with
  | [s] => (match pk s e1 with
    | some (.list ds) => Kp (enumD 0 ds) (chkOf s ds) e1
    | _ => False)
  | _ => False
def both (c d : Option (En → Prop)) : Option (En → Prop) := match c, d with
  | none, x => x
  | x, none => x
  | some c, some d => some fun e => c e ∧ d e
theorem both_ok {c d : Option (En → Prop)} {e : En} (h : okc (both c d) e) : okc c e ∧ okc d e := by
  cases c <;> cases d
  · exact ⟨trivial, trivial⟩
  · exact ⟨trivial, h⟩
  · exact ⟨h, trivial⟩
  · exact h
def vZip (t : VTA) : VTI := fun e Kp => t e fun ss e1 => match ss with
  | [s, u] => (match pk s e1, pk u e1 with
    | some (.list ds), some (.list cs) => Kp (zipD ds cs) (both (chkOf s ds) (chkOf u cs)) e1
    | _, _ => False)
  | _ => False
theorem vi_enum {t : VTA} {p pos tpos : Pos} {elts : List Expr} {kk : Nat} (hg : Gl X "enumerate") (hm : X.mg "enumerate" = none) (ha : VA X [a] t) (hs : starEach [a] X.env = [(false, eval a X.env)] := by rfl) : VI X (.Tuple elts kk tpos) (.Call (.Name "enumerate" p) [a] [] pos) (vEnum t) := PI.imp (pi_enum hg hm ha hs) fun σ H Q h => by
  obtain ⟨R, F, A, e, Kp, rep, k, fin⟩ := h
  refine ⟨R, F, A, e, _, rep, k, fun ss e1 vs F1 A1 H1 k1 l1 p1 rep1 a1 => ?_⟩
  split at k1
  · obtain ⟨x, rfl, a2⟩ := a1.one
    split at k1
    · rename_i ds hd
      obtain ⟨q, xs, rfl, q1, q2⟩ := rep1.pk a2 hd
      refine ⟨q, xs, rfl, q1, fin _ _ _ _ _ _ _ k1 l1 p1 rep1 ⟨fun {R' F' A' σ' H' e'} i d hi l p rep' c => ?_, fun {R' F' A' σ' H' e'} l p rep' c => ?_⟩⟩
      · obtain ⟨q', ys, ev, r1, r2⟩ := seq_at rep1 a2 hd l p rep' c
        cases ev
        obtain ⟨d', hd', rfl⟩ := enumD_get hi
        obtain ⟨u, hu, au⟩ := r2.get hd'
        refine ⟨⟨ys, u, r1, hu⟩, fun x H3 y => ?_⟩
        obtain ⟨T, z, rfl, hT, rfl, y⟩ := y
        have := y ys r1
        rw [hu] at this
        cases this
        obtain ⟨rep3, l3⟩ := rep'.fresh hT (.tup [.int (i : Nat), u])
        rw [Nat.zero_add]
        exact ⟨_, l3, rep3, .tup (SqT.of upd_same) (.cons (.int _) (.cons (At.le l3 _ _ au) .nil))⟩
      · obtain ⟨q', ys, ev, r1, r2⟩ := seq_at rep1 a2 hd l p rep' c
        cases ev
        exact ⟨ys, r1, by rw [r2.len, enumD_len]; exact Nat.le_refl _⟩
    · exact k1.elim
  · exact k1.elim
theorem vi_zip {t : VTA} {p pos tpos : Pos} {elts : List Expr} {kk : Nat} (hg : Gl X "zip") (hm : X.mg "zip" = none) (ha : VA X [a, b] t) (hs : starEach [a, b] X.env = (false, eval a X.env) :: starEach [b] X.env := by rfl) (hpl : (backTo pos (starEach [b] X.env)).any (·.1) = false := by rfl) :
    VI X (.Tuple elts kk tpos) (.Call (.Name "zip" p) [a, b] [] pos) (vZip t) := PI.imp (pi_zip hg hm ha hs hpl) fun σ H Q h => by
  obtain ⟨R, F, A, e, Kp, rep, k, fin⟩ := h
  refine ⟨R, F, A, e, _, rep, k, fun ss e1 vs F1 A1 H1 k1 l1 p1 rep1 a1 => ?_⟩
  split at k1
  · obtain ⟨x, y, rfl, a2, a3⟩ := a1.two
    split at k1
    · rename_i ds cs hd hc
      obtain ⟨q, xs, rfl, q1, q2⟩ := rep1.pk a2 hd
      obtain ⟨q', xs', rfl, q1', q2'⟩ := rep1.pk a3 hc
      refine ⟨q, q', xs, xs', rfl, q1, q1', fin _ _ _ _ _ _ _ k1 l1 p1 rep1 ⟨fun {R' F' A' σ' H' e'} i d hi l p rep' c => ?_, fun {R' F' A' σ' H' e'} l p rep' c => ?_⟩⟩
      · obtain ⟨c1, c2⟩ := both_ok c
        obtain ⟨_, ys, ev, r1, r2⟩ := seq_at rep1 a2 hd l p rep' c1
        cases ev
        obtain ⟨_, ys', ev, r1', r2'⟩ := seq_at rep1 a3 hc l p rep' c2
        cases ev
        obtain ⟨d1, d2, h1, h2, rfl⟩ := zipD_get hi
        obtain ⟨u, hu, au⟩ := r2.get h1
        obtain ⟨u', hu', au'⟩ := r2'.get h2
        refine ⟨⟨ys, ys', u, u', r1, r1', hu, hu'⟩, fun x H3 y => ?_⟩
        obtain ⟨T, z, z', rfl, hT, rfl, y, y'⟩ := y
        have e1 := y ys r1
        rw [hu] at e1
        cases e1
        have e1 := y' ys' r1'
        rw [hu'] at e1
        cases e1
        obtain ⟨rep3, l3⟩ := rep'.fresh hT (.tup [u, u'])
        exact ⟨_, l3, rep3, .tup (SqT.of upd_same) (.cons (At.le l3 _ _ au) (.cons (At.le l3 _ _ au') .nil))⟩
      · obtain ⟨c1, c2⟩ := both_ok c
        obtain ⟨_, ys, ev, r1, r2⟩ := seq_at rep1 a2 hd l p rep' c1
        cases ev
        obtain ⟨_, ys', ev, r1', r2'⟩ := seq_at rep1 a3 hc l p rep' c2
        cases ev
        have e1 := r2.len
        have e2 := r2'.len
        refine ⟨ys, ys', r1, r1', ?_⟩
        rw [zipD_len]
        omega
    · exact k1.elim
  · exact k1.elim
end
end Vl
namespace Vl
open PySem L2
/-! list comprehensions -/
theorem wipe_not {σ : L2.St} {i : Nat} : ∀ {vs : List Nat}, i ∉ vs → (wipe σ vs)[i]? = σ[i]?
  | [], _ => rfl
  | v :: vs, h => by
    have h1 : v ≠ i := fun z => h (by simp [z])
    show ((wipe σ vs).set v none)[i]? = _
    rw [List.getElem?_set_ne h1]
    exact wipe_not fun z => h (List.mem_cons_of_mem _ z)
theorem wipe_is {σ : L2.St} {i : Nat} : ∀ {vs : List Nat}, i ∈ vs → i < σ.length → (wipe σ vs)[i]? = some none
  | [], h, _ => by cases h
  | v :: vs, h, hl => by
    show ((wipe σ vs).set v none)[i]? = _
    by_cases q : v = i
    · subst q
      rw [List.getElem?_set_self (by rw [wipe_length]; exact hl)]
    · rw [List.getElem?_set_ne q]
      refine wipe_is ?_ hl
      rcases List.mem_cons.mp h with z | z
      · exact absurd z.symm q
      · exact z
theorem wipe_off {ws vs : List Nat} {σ σ2 : L2.St} (o : Off ws (wipe σ vs) σ2) (hw : ∀ i ∈ ws, i ∈ vs) : wipe σ2 vs = wipe σ vs := by
  have hl : σ2.length = σ.length := by rw [o.1, wipe_length]
  refine List.ext_getElem? fun i => ?_
  by_cases q : i ∈ vs
  · rcases Nat.lt_or_ge i σ.length with h | h
    · rw [wipe_is q h, wipe_is q (by omega)]
    · rw [List.getElem?_eq_none (by rw [wipe_length]; omega), List.getElem?_eq_none (by rw [wipe_length]; omega)]
  · rw [wipe_not q]
    exact o.2 i fun z => q (hw i z)
def wipeE (sl : List (Option Sl)) : List Nat → List (Option Sl)
  | [] => sl
  | v :: vs => (wipeE sl vs).set v none
def En.wipe (e : En) (vs : List Nat) : En := ⟨wipeE e.sl vs, e.st⟩
theorem wipeE_len (sl : List (Option Sl)) : ∀ vs, (wipeE sl vs).length = sl.length
  | [] => rfl
  | v :: vs => by
    show ((wipeE sl vs).set v none).length = _
    rw [List.length_set, wipeE_len sl vs]
theorem wipeE_at {sl : List (Option Sl)} {i : Nat} {s : Sl} : ∀ {vs : List Nat}, (wipeE sl vs)[i]? = some (some s) → i ∉ vs ∧ sl[i]? = some (some s)
  | [], h => ⟨by simp, h⟩
  | v :: vs, h => by
    have h' : ((wipeE sl vs).set v none)[i]? = some (some s) := h
    by_cases q : v = i
    · subst q
      have hl : v < (wipeE sl vs).length := by
        have := (List.getElem?_eq_some_iff.mp h').1
        simpa using this
      rw [List.getElem?_set_self hl] at h'
      cases h'
    · rw [List.getElem?_set_ne q] at h'
      obtain ⟨h1, h2⟩ := wipeE_at h'
      exact ⟨fun z => by
        rcases List.mem_cons.mp z with z | z
        · exact q z.symm
        · exact h1 z, h2⟩
/-- no name of vs has a value -/
def Bare (vs : List Nat) (e : En) : Prop := ∀ (i : Nat) (s : Sl), e.sl[i]? = some (some s) → i ∉ vs
theorem bare_wipe (vs : List Nat) (e : En) : Bare vs (e.wipe vs) := fun i s h => (wipeE_at h).1
theorem bare_trim {vs : List Nat} {e : En} (b : Bare vs e) (n : Nat) : Bare vs (e.trim n) := fun i s h => by
  have h' : (e.sl.map (clr (trimS n e.st).length))[i]? = some (some s) := h
  rw [List.getElem?_map] at h'
  obtain ⟨t, ht, hs⟩ := Option.map_eq_some_iff.mp h'
  cases t with
  | none => cases hs
  | some t => exact b i t ht
section
variable {K : PySem.W.Frag} {R F : Hp} {A : List Addr} {σ : L2.St} {H : Hp} {e : En}
theorem Rep.wiped (r : Rep K R F A σ H e) (vs : List Nat) : Rep K R F A (wipe σ vs) H (e.wipe vs) := by
  refine r.weak (by rw [wipeE_len, wipe_length]; exact r.len) fun i s h => ?_
  obtain ⟨h1, h2⟩ := wipeE_at h
  obtain ⟨v, h3, h4⟩ := r.slot i s h2
  exact ⟨v, by rw [wipe_not h1]; exact h3, h4⟩
theorem Rep.wiped2 {ws vs : List Nat} {σ2 : L2.St} (r : Rep K R F A σ2 H e) (o : Off ws (wipe σ vs) σ2) (hw : ∀ i ∈ ws, i ∈ vs) : Rep K R F A (wipe σ vs) H (e.wipe vs) := by
  refine r.weak (by rw [wipeE_len, r.len, o.1]) fun i s h => ?_
  obtain ⟨h1, h2⟩ := wipeE_at h
  obtain ⟨v, h3, h4⟩ := r.slot i s h2
  exact ⟨v, by rw [← o.2 i fun z => h1 (hw i z)]; exact h3, h4⟩
theorem Rep.unwipe {vs : List Nat} (r : Rep K R F A (wipe σ vs) H e) (b : Bare vs e) : Rep K R F A σ H e := by
  refine r.weak (by rw [r.len, wipe_length]) fun i s h => ?_
  obtain ⟨v, h3, h4⟩ := r.slot i s h
  exact ⟨v, by rw [← wipe_not (b i s h)]; exact h3, h4⟩
/-- a new list that is kept -/
theorem Rep.hold (r : Rep K R F A σ H e) {p : Addr} (hp : H p = none) (o : HO) : Rep K (upd R p o) F A σ (upd H p o) e := by
  have hF : F p = none := r.sub.free hp
  have hA : p ∉ A := fun hm => by
    obtain ⟨u, hu⟩ := r.live p hm
    rw [hu] at hp
    cases hp
  have l2 := Le.new (o := o) hp
  refine ⟨r.sub.trans l2, fun b u z => ?_, fun a u z => ?_, r.len, r.lenA, r.nodup, fun a ha => ?_, r.slot, fun j ds z => ?_⟩
  · by_cases q : b = p
    · subst q
      rw [upd_same] at z ⊢
      exact z
    · rw [upd_ne q] at z ⊢
      exact r.keep _ _ z
  · by_cases q : a = p
    · subst q
      exact ⟨hF, hA⟩
    · rw [upd_ne q] at z
      exact r.apart a u z
  · obtain ⟨u, hu⟩ := r.live a ha
    exact ⟨u, l2 _ _ hu⟩
  · obtain ⟨a, xs, h1, h2, h3, h4⟩ := r.store j ds z
    exact ⟨a, xs, h1, h2, l2 _ _ h3, h4⟩
/-- what is kept is changed by its keeper -/
theorem Rep.rehold {p : Addr} {o o' : HO} (r : Rep K (upd R p o) F A σ H e) : Rep K (upd R p o') F A σ (upd H p o') e := by
  obtain ⟨hF, hA⟩ := r.apart p o upd_same
  refine ⟨fun b u z => ?_, fun b u z => ?_, fun a u z => ?_, r.len, r.lenA, r.nodup, fun a ha => ?_, r.slot, fun j ds z => ?_⟩
  · have q : b ≠ p := fun q => by
      rw [q, hF] at z
      cases z
    rw [upd_ne q]
    exact r.sub _ _ z
  · by_cases q : b = p
    · subst q
      rw [upd_same] at z ⊢
      exact z
    · rw [upd_ne q] at z ⊢
      exact r.keep b u (by rw [upd_ne q]; exact z)
  · by_cases q : a = p
    · subst q
      exact ⟨hF, hA⟩
    · rw [upd_ne q] at z
      exact r.apart a u (by rw [upd_ne q]; exact z)
  · have q : a ≠ p := fun q => hA (q ▸ ha)
    obtain ⟨u, hu⟩ := r.live a ha
    exact ⟨u, by rw [upd_ne q]; exact hu⟩
  · obtain ⟨a, xs, h1, h2, h3, h4⟩ := r.store j ds z
    have q : a ≠ p := fun q => hA (by rw [← q]; exact List.mem_of_getElem? h1)
    exact ⟨a, xs, h1, h2, by rw [upd_ne q]; exact h3, h4⟩
/-- what is kept stands still from now on -/
theorem Rep.give {p : Addr} {o : HO} (r : Rep K (upd R p o) F A σ H e) (hR : R p = none) : Rep K R (upd F p o) A σ H e ∧ Le F (upd F p o) := by
  obtain ⟨hF, hA⟩ := r.apart p o upd_same
  have l := Le.new (o := o) hF
  have kR : Le R (upd R p o) := Le.new hR
  refine ⟨⟨fun b u z => ?_, kR.trans r.keep, fun a u z => ?_, r.len, r.lenA, r.nodup, r.live, fun i s z => ?_, fun j ds z => ?_⟩, l⟩
  · by_cases q : b = p
    · subst q
      rw [upd_same] at z
      cases z
      exact r.keep _ _ upd_same
    · rw [upd_ne q] at z
      exact r.sub _ _ z
  · have q : a ≠ p := fun q => by
      rw [q, hR] at z
      cases z
    obtain ⟨h1, h2⟩ := r.apart a u (kR _ _ z)
    exact ⟨by rw [upd_ne q]; exact h1, h2⟩
  · obtain ⟨v, h1, h2⟩ := r.slot i s z
    exact ⟨v, h1, h2.le l (pfx_refl A)⟩
  · obtain ⟨a, xs, h1, h2, h3, h4⟩ := r.store j ds z
    have q : a ≠ p := fun q => hA (by rw [← q]; exact List.mem_of_getElem? h1)
    exact ⟨a, xs, h1, by rw [upd_ne q]; exact h2, h3, AtL.le l _ _ h4⟩
/-- what is kept goes into the store -/
theorem Rep.giveO {p : Addr} {xs : List V} {ds : List D} (r : Rep K (upd R p (.lst xs)) F A σ H e) (hR : R p = none) (hx : AtL K F ds xs) : Rep K R F (A ++ [p]) σ H ⟨e.sl, e.st ++ [some ds]⟩ ∧ A <+: A ++ [p] := by
  obtain ⟨hF, hA⟩ := r.apart p _ upd_same
  have hH : H p = some (.lst xs) := r.keep _ _ upd_same
  have kR : Le R (upd R p (.lst xs)) := Le.new hR
  have pf : A <+: A ++ [p] := ⟨[p], rfl⟩
  refine ⟨⟨r.sub, kR.trans r.keep, fun a u z => ⟨(r.apart a u (kR _ _ z)).1, fun hm => ?_⟩, r.len, ?_, ?_, fun a ha => ?_, fun i s z => ?_, fun j cs z => ?_⟩, pf⟩
  · rcases List.mem_append.mp hm with hm | hm
    · exact (r.apart a u (kR _ _ z)).2 hm
    · rw [List.mem_singleton.mp hm, hR] at z
      cases z
  · simp [r.lenA]
  · rw [List.nodup_append]
    exact ⟨r.nodup, by simp, fun a ha b hb q => hA (by rw [List.mem_singleton.mp hb] at q; exact q ▸ ha)⟩
  · rcases List.mem_append.mp ha with ha | ha
    · exact r.live a ha
    · rw [List.mem_singleton.mp ha]
      exact ⟨_, hH⟩
  · obtain ⟨v, h1, h2⟩ := r.slot i s z
    exact ⟨v, h1, h2.le (Le.refl F) pf⟩
  · have z' : (e.st ++ [some ds])[j]? = some (some cs) := z
    by_cases hj : j < e.st.length
    · rw [List.getElem?_append_left hj] at z'
      obtain ⟨a, ys, h1, h2, h3, h4⟩ := r.store j cs z'
      have hj' : j < A.length := by rw [← r.lenA]; exact hj
      exact ⟨a, ys, by rw [List.getElem?_append_left hj']; exact h1, h2, h3, h4⟩
    · rw [List.getElem?_append_right (by omega)] at z'
      have hj0 : j - e.st.length = 0 := by
        rcases Nat.eq_zero_or_pos (j - e.st.length) with q | q
        · exact q
        · rw [List.getElem?_eq_none (by simp; omega)] at z'
          cases z'
      rw [hj0] at z'
      simp at z'
      subst z'
      refine ⟨p, xs, ?_, hF, hH, hx⟩
      rw [List.getElem?_append_right (by rw [← r.lenA]; omega), ← r.lenA, hj0] <;> rfl
end
/-- the turns of a comprehension: what is left, what is made -/
def cl (g : VTG) (tt : VTT) (te : VTE) (chk : Option (En → Prop)) (vs : List Nat) (n : Nat) : List D → List D → En → (List D → En → Prop) → Prop
  | [], acc, e, Kp => wth chk e (Kp acc e)
  | d :: ds, acc, e, Kp => wth chk e (g (.val d) e fun e1 => tt e1 fun b e2 => if b = true then te e2 fun s e3 => asD s e3 fun y e4 => acc.length < sizeLine ∧ cl g tt te chk vs n ds (acc ++ [y]) ((e4.wipe vs).trim n) Kp
      else cl g tt te chk vs n ds acc ((e2.wipe vs).trim n) Kp)
def vLcK (w : VTI) (g : VTG) (tt : VTT) (te : VTE) (vs : List Nat) (fin : List D → En → KE → Prop) : VTE := fun e Kp => w e fun ds chk e1 => cl g tt te chk vs e1.st.length ds [] (e1.wipe vs) fun acc e2 => fin acc e2 Kp
def finD (acc : List D) (e : En) (Kp : KE) : Prop := Kp (.val (.list acc)) e
def finO (acc : List D) (e : En) (Kp : KE) : Prop := Kp (.obj e.st.length) ⟨e.sl, e.st ++ [some acc]⟩
abbrev vLc (w : VTI) (g : VTG) (tt : VTT) (te : VTE) (vs : List Nat) : VTE := vLcK w g tt te vs finD
abbrev vLcO (w : VTI) (g : VTG) (tt : VTT) (te : VTE) (vs : List Nat) : VTE := vLcK w g tt te vs finO
def VTs (X : Cx) (ifs : List Expr) (t : VTT) : Prop := PTs X ifs (liftT X.K t)
def vYes : VTT := fun e Kp => Kp true e
theorem PTs.imp {X : Cx} {ex : List Expr} {t t' : TT} (h : PTs X ex t) (f : ∀ σ H Q, t' σ H Q → t σ H Q) : PTs X ex t' := ⟨fun pins s σ H Q I q => h.run pins s σ H Q I (f σ H Q q)⟩
theorem vts_nil {X : Cx} : VTs X [] vYes := PTs.imp pts_nil fun σ H Q h => by
  obtain ⟨R, F, A, e, Kp, rep, k, fin⟩ := h
  exact fin true e F A H k (Le.refl F) (pfx_refl A) rep
theorem vts_one {X : Cx} {c : Expr} {t : VTT} (h : VT X c t) : VTs X [c] t := pts_one h
def FinL (K : PySem.W.Frag) (f : List D → En → KE → Prop) : Prop := ∀ {R F : Hp} {A : List Addr} {σ : L2.St} {H : Hp} {e : En} {p : Addr} {xs : List V} {acc : List D} {Kp : KE} {Q : VK}, Rep K (upd R p (.lst xs)) F A σ H e → R p = none → AtL K F acc xs → f acc e Kp → Fin K R F A σ Kp Q → Q (.ref p) H
theorem finD_ok {K : PySem.W.Frag} : FinL K finD := by
  intro R F A σ H e p xs acc Kp Q rep hR hx k fin
  obtain ⟨r2, l⟩ := rep.give hR
  exact (fin.tr l (pfx_refl A)).val r2 k (.lst upd_same (AtL.le l _ _ hx))
theorem finO_ok {K : PySem.W.Frag} : FinL K finO := by
  intro R F A σ H e p xs acc Kp Q rep hR hx k fin
  obtain ⟨r2, l⟩ := rep.giveO hR hx
  refine fin (.obj e.st.length) _ (.ref p) F _ H k (Le.refl F) l r2 ⟨p, ?_, rfl⟩
  rw [rep.lenA, List.getElem?_append_right (Nat.le_refl _), Nat.sub_self] <;> rfl
theorem lift_lc {K : PySem.W.Frag} {w : VTI} {g : VTG} {ws : List Nat} {tt : VTT} {te : VTE} {vs : List Nat} {f : List D → En → KE → Prop} (hf : FinL K f) (hw : ∀ i ∈ ws, i ∈ vs) (σ : L2.St) (H : Hp) (Q : VK) (h : liftE K (vLcK w g tt te vs f) σ H Q) :
    tLc (liftI K w) (liftG K ws g) (liftT K tt) (liftE K te) vs σ H Q := by
  obtain ⟨R, F, A, e, Kp, rep, k, fin⟩ := h
  refine ⟨R, F, A, e, _, rep, k, fun ds chk e1 F1 A1 H1 J k1 l1 p1 rep1 it => fun Dd hD => ?_⟩
  have hR : R Dd = none := rep1.keep.free hD
  refine ⟨fun i m H' => ∃ F' A' e' acc accV, m = ds.length - i ∧ i ≤ ds.length ∧ Le F1 F' ∧ A1 <+: A' ∧ Rep K (upd R Dd (.lst accV)) F' A' (wipe σ vs) H' e' ∧ Bare vs e' ∧ AtL K F' acc accV ∧ cl g tt te chk vs e1.st.length (ds.drop i) acc e' (fun acc e2 => f acc e2 Kp),
    ⟨_, F1, A1, e1.wipe vs, [], [], rfl, Nat.zero_le _, Le.refl _, pfx_refl _, (rep1.wiped vs).hold hD _, bare_wipe vs e1, .nil, k1⟩, ?_⟩
  rintro i m H' ⟨F', A', e', acc, accV, rfl, hi, l, p, rep', bare, hx, k⟩
  rcases Nat.lt_or_ge i ds.length with hlt | hge
  · right
    obtain ⟨d, hd⟩ : ∃ d, ds[i]? = some d := ⟨ds[i], by simp [hlt]⟩
    have hdr : ds.drop i = d :: ds.drop (i + 1) := by
      rw [List.drop_eq_getElem_cons hlt]
      rw [List.getElem?_eq_getElem hlt] at hd
      cases hd
      rfl
    rw [hdr] at k
    obtain ⟨kc, k⟩ := wth_ok k
    obtain ⟨g1, g2⟩ := it.go i d hd l p rep' kc
    refine ⟨g1, fun H2 => ∃ F' A' e' acc accV, ds.length - (i + 1) = ds.length - (i + 1) ∧ i + 1 ≤ ds.length ∧ Le F1 F' ∧ A1 <+: A' ∧ Rep K (upd R Dd (.lst accV)) F' A' (wipe σ vs) H2 e' ∧ Bare vs e' ∧ AtL K F' acc accV ∧ cl g tt te chk vs e1.st.length (ds.drop (i + 1)) acc e' (fun acc e2 => f acc e2 Kp),
      fun H2 q => ⟨ds.length - (i + 1), by omega, q⟩, fun x H3 y => ?_⟩
    obtain ⟨F3, l3, rep3, a3⟩ := g2 x H3 y
    refine ⟨_, F3, A', e', .val d, _, rep3, a3, k, fun e2 σ2 F2 A2 H2 k2 l2 p2 o2 rep2 => ⟨wipe_off o2 hw, _, F2, A2, e2, _, rep2, k2, fun b e3 F4 A4 H4 k4 l4 p4 rep4 => ?_⟩⟩
    have lf := ((l.trans l3).trans l2).trans l4
    have pf := (p.trans p2).trans p4
    cases b with
    | false =>
      have k4' : cl g tt te chk vs e1.st.length (ds.drop (i + 1)) acc ((e3.wipe vs).trim e1.st.length) (fun acc e2 => f acc e2 Kp) := k4
      obtain ⟨A5, p5, rep5⟩ := (rep4.wiped2 o2 hw).trim (A1 := A1) (n := e1.st.length) pf rep1.lenA.symm
      exact ⟨F4, A5, _, acc, accV, rfl, hlt, lf, p5, rep5, bare_trim (bare_wipe vs e3) _, AtL.le ((l3.trans l2).trans l4) _ _ hx, k4'⟩
    | true =>
      refine ⟨_, F4, A4, e3, _, rep4, k4, fun s e5 y5 F5 A5 H5 k5 l5 p5 rep5 a5 => ?_⟩
      obtain ⟨d', e6, F6, ⟨hl, k6⟩, rep6, l6, a6⟩ := rep5.asD a5 k5
      have lx := (((l3.trans l2).trans l4).trans l5).trans l6
      refine ⟨accV, rep6.keep _ _ upd_same, by rw [hx.len]; exact hl, ?_⟩
      obtain ⟨A7, p7, rep7⟩ := (rep6.wiped2 o2 hw).trim (A1 := A1) (n := e1.st.length) (pf.trans p5) rep1.lenA.symm
      exact ⟨F6, A7, _, acc ++ [d'], accV ++ [y5], rfl, hlt, l.trans lx, p7, rep7.rehold, bare_trim (bare_wipe vs e6) _, (AtL.le lx _ _ hx).app (AtL.one a6), k6⟩
  · left
    have e0 : i = ds.length := by omega
    subst e0
    rw [List.drop_length] at k
    obtain ⟨kc, k⟩ := wth_ok k
    refine ⟨it.stop l p rep' kc, ?_⟩
    exact hf (rep'.unwipe bare) hR hx k (fin.tr (l1.trans l) (p1.trans p))
section
variable {X : Cx} {elt tg iter : Expr} {ifs : List Expr} {scope : Scope} {own : List (Str × Nat)} {pos : Pos} {w : VTI} {g : VTG} {ws : List Nat} {tt : VTT} {te : VTE} {f : List D → En → KE → Prop}
theorem ve_lcK (hf : FinL X.K f) (hc : X.calm = true) (hN : X.N.Nodup) (hi : VI X tg iter w) (ok : BlkOk X.N X.env.scope scope own) (hw : ∀ i ∈ ws, i ∈ own.map (·.2))
    (hg : ∀ (s : Shared) (H : Hp) (C : Addr) (cl : List (Str × Addr)) (fp : List Addr), VG (X.blk s H scope (compEnvC scope cl C X.env) fp) tg ws g) (ht : ∀ (s : Shared) (H : Hp) (C : Addr) (cl : List (Str × Addr)) (fp : List Addr), VTs (X.blk s H scope (compEnvC scope cl C X.env) fp) ifs tt)
    (he : ∀ (s : Shared) (H : Hp) (C : Addr) (cl : List (Str × Addr)) (fp : List Addr), VE (X.blk s H scope (compEnvC scope cl C X.env) fp) elt te) (hs : ∀ x, foldedSetIterable iter X.env x = pure x := by intro _; rfl) :
    VE X (.ListComp elt [⟨tg, iter, ifs, 0⟩] scope pos) (vLcK w g tt te (own.map (·.2)) f) := PE.imp (pe_lc (g := liftG X.K ws g) (tt := liftT X.K tt) (te := liftE X.K te) hc hN hi ok hg ht he hs) fun σ H Q h => lift_lc hf hw σ H Q h
theorem vs_setLcK {i : Nat} {y : Str} {py spos : Pos} (hf : FinL X.K f) (hc : X.calm = true) (hN : X.N.Nodup) (hy : X.N[i]? = some y) (hyl : X.env.scope.names.lookup y = some .local)
    (hsw : swapsWith (.ListComp elt [⟨tg, iter, ifs, 0⟩] scope pos) (some (.Name y py)) spos.line X.env = pure true) (hi : VI X tg iter w) (ok : BlkOk X.N X.env.scope scope own) (hw : ∀ i ∈ ws, i ∈ own.map (·.2))
    (hg : ∀ (s : Shared) (H : Hp) (C : Addr) (cl : List (Str × Addr)) (fp : List Addr), VG (X.blk s H scope (compEnvC scope cl C X.env) fp) tg ws g) (ht : ∀ (s : Shared) (H : Hp) (C : Addr) (cl : List (Str × Addr)) (fp : List Addr), VTs (X.blk s H scope (compEnvC scope cl C X.env) fp) ifs tt)
    (he : ∀ (s : Shared) (H : Hp) (C : Addr) (cl : List (Str × Addr)) (fp : List Addr), VE (X.blk s H scope (compEnvC scope cl C X.env) fp) elt te) (hs : ∀ x, foldedSetIterable iter X.env x = pure x := by intro _; rfl) :
    VS X (.Assign [.Name y py] (.ListComp elt [⟨tg, iter, ifs, 0⟩] scope pos) spos) (vSet i (vLcK w g tt te (own.map (·.2)) f)) := PS.imp (ps_setLc (g := liftG X.K ws g) (tt := liftT X.K tt) (te := liftE X.K te) hc hN hy hyl hsw hi ok hg ht he hs) fun D σ H h => lift_set D σ H (fun Q q => lift_lc hf hw σ H Q q) h
end
end Vl
namespace Vl
open PySem L2 PySem.Spec PyProof.Rows
/-! a def's promise over data: its arguments, the lists that it may change, what it gives back and what these lists are then -/
abbrev VSp := List Sl → List (List D) → (Sl → List (List D) → Prop) → Prop
def spV (K : PySem.W.Frag) (p : VSp) : Sp := fun vs H Q _ => ∃ R F A ss st Kp, Rep K R F A (vs.map some) H ⟨ss.map some, st.map some⟩ ∧ p ss st Kp ∧
  ∀ s st' v F' A' H', Kp s st' → Le F F' → A <+: A' → Rep K R F' A' [some v] H' ⟨[some s], st'.map some⟩ → Q v H'
def takeS : Nat → List (Option (List D)) → Option (List (List D))
  | 0, _ => some []
  | n + 1, some ds :: r => (takeS n r).map (ds :: ·)
  | _ + 1, _ => none
def ret (n : Nat) (s : Sl) (e : En) (Kp : Sl → List (List D) → Prop) : Prop := match takeS n e.st with
  | none => False
  | some st' => match s with
    | .val d => Kp (.val d) st'
    | .kn ds => Kp (.kn ds) st'
    | .obj j => if j < n then False else match e.st[j]? with
      | some (some ds) => Kp (.obj n) (st' ++ [ds])
      | _ => False
theorem takeS_len : ∀ {n : Nat} {st : List (Option (List D))} {cs : List (List D)}, takeS n st = some cs → cs.length = n
  | 0, _, _, h => by
    cases h
    rfl
  | n + 1, some ds :: r, cs, h => by
    have h' : (takeS n r).map (ds :: ·) = some cs := h
    obtain ⟨c, hc, rfl⟩ := Option.map_eq_some_iff.mp h'
    rw [List.length_cons, takeS_len hc]
  | _ + 1, [], _, h => by cases h
  | _ + 1, none :: _, _, h => by cases h
theorem takeS_at : ∀ {n : Nat} {st : List (Option (List D))} {cs : List (List D)} {j : Nat} {ds : List D}, takeS n st = some cs → cs[j]? = some ds → st[j]? = some (some ds)
  | 0, _, _, _, _, h, g => by
    cases h
    simp at g
  | n + 1, some c :: r, cs, j, ds, h, g => by
    have h' : (takeS n r).map (c :: ·) = some cs := h
    obtain ⟨b, hb, rfl⟩ := Option.map_eq_some_iff.mp h'
    cases j with
    | zero =>
      simp at g
      simp [g]
    | succ j => exact takeS_at (j := j) hb (by simpa using g)
  | _ + 1, [], _, _, _, h, _ => by cases h
  | _ + 1, none :: _, _, _, _, h, _ => by cases h
section
variable {K : PySem.W.Frag} {R F : Hp} {A : List Addr} {σ : L2.St} {H : Hp} {e : En}
/-- a def ends: what it gives back, and the lists that were handed in -/
theorem ret_ok {F0 : Hp} {A0 : List Addr} {n : Nat} {s : Sl} {v : V} {Kp : Sl → List (List D) → Prop} {Q : VK} (rep : Rep K R F A σ H e) (a : SlAt K F A v s) (hn : A0.length = n) (l : Le F0 F) (p : A0 <+: A) (k : ret n s e Kp)
    (fin : ∀ s st' v F' A' H', Kp s st' → Le F0 F' → A0 <+: A' → Rep K R F' A' [some v] H' ⟨[some s], st'.map some⟩ → Q v H') : Q v H := by
  unfold ret at k
  split at k
  · exact k.elim
  · rename_i st' hst
    have hl := takeS_len hst
    have hA0 : ∀ {j : Nat}, j < n → A0[j]? = A[j]? := fun {j} hj => by
      obtain ⟨t, rfl⟩ := p
      rw [List.getElem?_append_left (by omega)]
    have slo : ∀ (A' : List Addr) (t : Sl), SlAt K F A' v t → ∀ (i : Nat) (u : Sl), ([some t] : List (Option Sl))[i]? = some (some u) → ∃ w, ([some v] : L2.St)[i]? = some (some w) ∧ SlAt K F A' w u := fun A' t ha i u hu => by
      cases i with
      | zero =>
        have hu' : some (some t) = some (some u) := hu
        cases hu'
        exact ⟨v, rfl, ha⟩
      | succ i => simp at hu
    have sto : ∀ (j : Nat) (ds : List D), (st'.map some)[j]? = some (some ds) → ∃ b xs, A0[j]? = some b ∧ F b = none ∧ H b = some (.lst xs) ∧ AtL K F ds xs := fun j ds hj => by
      rw [List.getElem?_map] at hj
      obtain ⟨c, hc, ec⟩ := Option.map_eq_some_iff.mp hj
      cases ec
      obtain ⟨b, xs, h1, h2, h3, h4⟩ := rep.store j _ (takeS_at hst hc)
      have hjn : j < n := by
        have := (List.getElem?_eq_some_iff.mp hc).1
        omega
      exact ⟨b, xs, by rw [hA0 hjn]; exact h1, h2, h3, h4⟩
    have mem : ∀ a ∈ A0, a ∈ A := fun a ha => p.subset ha
    have base : ∀ t, SlAt K F A0 v t → Rep K R F A0 [some v] H ⟨[some t], st'.map some⟩ := fun t ha =>
      ⟨rep.sub, rep.keep, fun a o z => ⟨(rep.apart a o z).1, fun hm => (rep.apart a o z).2 (mem a hm)⟩, rfl, by simp [hl, hn], p.sublist.nodup rep.nodup, fun a ha => rep.live a (mem a ha), slo A0 t ha, sto⟩
    cases s with
    | val d => exact fin (.val d) st' v F A0 H k l (pfx_refl A0) (base _ a)
    | kn ds => exact fin (.kn ds) st' v F A0 H k l (pfx_refl A0) (base _ a)
    | obj j =>
      replace k : (if j < n then False else match e.st[j]? with | some (some ds) => Kp (.obj n) (st' ++ [ds]) | _ => False) := k
      split at k
      · exact k.elim
      · rename_i hj
        split at k
        · rename_i ds hd
          obtain ⟨b, e1, e2⟩ := a
          obtain ⟨b', xs, h1, h2, h3, h4⟩ := rep.store j ds hd
          rw [e1] at h1
          cases h1
          have hb : b ∉ A0 := fun hm => by
            obtain ⟨i, hi, ei⟩ := List.getElem_of_mem hm
            have e3 : A[i]? = some b := by
              rw [← hA0 (by omega)]
              rw [List.getElem?_eq_getElem hi, ei]
            have := nodup_at rep.nodup e3 e1
            omega
          have hbA : b ∈ A := List.mem_of_getElem? e1
          refine fin (.obj n) (st' ++ [ds]) v F (A0 ++ [b]) H k l ⟨[b], rfl⟩ ⟨rep.sub, rep.keep, fun a o z => ⟨(rep.apart a o z).1, fun hm => ?_⟩, rfl, by simp [hl, hn], ?_, fun a ha => ?_, slo (A0 ++ [b]) (.obj n) ⟨b, ?_, e2⟩, fun i cs z => ?_⟩
          · rcases List.mem_append.mp hm with hm | hm
            · exact (rep.apart a o z).2 (mem a hm)
            · rw [List.mem_singleton.mp hm] at z
              exact (rep.apart b o z).2 hbA
          · rw [List.nodup_append]
            exact ⟨p.sublist.nodup rep.nodup, by simp, fun a ha c hc q => hb (by rw [List.mem_singleton.mp hc] at q; exact q ▸ ha)⟩
          · rcases List.mem_append.mp ha with hm | hm
            · exact rep.live a (mem a hm)
            · rw [List.mem_singleton.mp hm]
              exact rep.live b hbA
          · rw [List.getElem?_append_right (by omega), hn, Nat.sub_self] <;> rfl
          · have z' : ((st' ++ [ds]).map some)[i]? = some (some cs) := z
            rw [List.map_append] at z'
            by_cases hi : i < st'.length
            · rw [List.getElem?_append_left (by rw [List.length_map]; exact hi)] at z'
              obtain ⟨c, ys, q1, q2, q3, q4⟩ := sto i cs z'
              exact ⟨c, ys, by rw [List.getElem?_append_left (by omega)]; exact q1, q2, q3, q4⟩
            · rw [List.getElem?_append_right (by rw [List.length_map]; omega), List.length_map] at z'
              have hi0 : i - st'.length = 0 := by
                rcases Nat.eq_zero_or_pos (i - st'.length) with q | q
                · exact q
                · rw [List.getElem?_eq_none (by simp; omega)] at z'
                  cases z'
              rw [hi0] at z'
              simp at z'
              subst z'
              refine ⟨b, xs, ?_, h2, h3, h4⟩
              rw [List.getElem?_append_right (by omega), show i - A0.length = 0 from by omega] <;> rfl
        · exact k.elim
end
/-- the names at a def's entry -/
def startV (n : Nat) (ss : List Sl) : List (Option Sl) := ss.map some ++ List.replicate (n - ss.length) none
section
variable {P : Program} {w : World} {K : PySem.W.Frag} {mg : Str → Option Value} {base : Heap}
theorem okV {x qual : Str} {st : Stmt} {f : Addr} {fd : FuncData} {N ps : List Str} {k : Nat} {p : VSp} (F : Fun K x qual st f fd) (S : FnScope N ps (defScope st)) (len : ∀ ss st Kp, p ss st Kp → ss.length = ps.length)
    (hbody : ∀ (cdv : Value) (A : Around) (outer : List Env) (s : Shared) (H : Hp) (E : XK), Room k (A.deeper (envOfC qual (defScope st) s.heap.objs.size f cdv)) →
      ∃ t, VSs (cxOf CX0 P w K mg base N qual (defScope st) f cdv A outer s H E).nox (defBody st) t ∧
        ∀ ss cs Kp, p ss cs Kp → t { nx := fun e => ret cs.length (.val .none) e Kp, rt := fun s e => ret cs.length s e Kp } ⟨startV N.length ss, cs.map some⟩) : FnOk P w K mg base CX0 (k + 1) f fd ps (spV K p) := by
  have lenV : ∀ vs H Q E, spV K p vs H Q E → vs.length = ps.length := fun vs H Q E h => by
    obtain ⟨R, F, A, ss, st, Kp, rep, hp, _⟩ := h
    have := rep.len
    simp at this
    rw [← this]
    exact len _ _ _ hp
  refine F.ok S lenV fun cdv A outer s H vs Q E hr h => ?_
  obtain ⟨t, ht, hb⟩ := hbody cdv A outer s H E hr
  obtain ⟨R, F0, A0, ss, cs, Kp, rep, hp, fin⟩ := h
  have hl := rep.len
  simp at hl
  refine ⟨_, ht, R, F0, A0, ⟨startV N.length ss, cs.map some⟩, { nx := fun e => ret cs.length (.val .none) e Kp, rt := fun s e => ret cs.length s e Kp }, ?_, hb ss cs Kp hp, ?_⟩
  · refine rep.weak ?_ fun i u hu => ?_
    · show (ss.map some ++ List.replicate (N.length - ss.length) none).length = (vs.map some ++ List.replicate (N.length - vs.length) none).length
      simp only [List.length_append, List.length_map, List.length_replicate, hl]
    · replace hu : (ss.map some ++ List.replicate (N.length - ss.length) none)[i]? = some (some u) := hu
      rcases Nat.lt_or_ge i (ss.map some).length with hi | hi
      · rw [List.getElem?_append_left hi] at hu
        obtain ⟨v, h1, h2⟩ := rep.slot i u hu
        refine ⟨v, ?_, h2⟩
        show (vs.map some ++ List.replicate (N.length - vs.length) none)[i]? = _
        rw [List.getElem?_append_left (by rw [List.length_map] at hi ⊢; omega)]
        exact h1
      · rw [List.getElem?_append_right hi] at hu
        have := List.mem_of_getElem? hu
        have := (List.mem_replicate.mp this).2
        cases this
  · have hn : A0.length = cs.length := by
      have := rep.lenA
      simp at this
      exact this.symm
    exact ⟨fun e' σ' F' A' H' k l p r => ret_ok r (s := .val .none) (v := .non) .non hn l p k fin, fun _ _ _ _ _ k => k.elim, fun _ _ _ _ _ k => k.elim, fun s e' v σ' F' A' H' k l p r a => ret_ok r a hn l p k fin⟩
end
/-! calls -/
def objs : List Sl → List Nat
  | [] => []
  | .obj j :: r => j :: objs r
  | .val _ :: r => objs r
  | .kn _ :: r => objs r
def renum : Nat → List Sl → List Sl
  | _, [] => []
  | k, .obj _ :: r => .obj k :: renum (k + 1) r
  | k, .val d :: r => .val d :: renum k r
  | k, .kn ds :: r => .kn ds :: renum k r
def uniq : List Nat → Bool
  | [] => true
  | j :: r => r.all (fun i => !(i == j)) && uniq r
def getS : List Nat → List (Option (List D)) → Option (List (List D))
  | [], _ => some []
  | j :: r, st => match st[j]? with
    | some (some ds) => (getS r st).map (ds :: ·)
    | _ => none
def putS : List Nat → List (List D) → List (Option (List D)) → List (Option (List D))
  | j :: r, c :: cs, st => (putS r cs st).set j (some c)
  | _, _, st => st
/-- a call: what the callee may change are the lists of the store that are handed in -/
def opCallK (own : List D → En → KE → Prop) (p : VSp) (ss : List Sl) (e : En) (Kp : KE) : Prop := match uniq (objs ss), getS (objs ss) e.st with
  | true, some cs => p (renum 0 ss) cs fun s cs' => match s with
    | .val d => Kp (.val d) ⟨e.sl, putS (objs ss) cs' e.st⟩
    | .kn ds => Kp (.kn ds) ⟨e.sl, putS (objs ss) cs' e.st⟩
    | .obj j => if j < (objs ss).length then False else match cs'[j]? with
      | some ds => own ds ⟨e.sl, putS (objs ss) cs' e.st⟩ Kp
      | none => False
  | _, _ => False
theorem uniq_nodup : ∀ {js : List Nat}, uniq js = true → js.Nodup
  | [], _ => List.nodup_nil
  | j :: r, h => by
    have h' : (r.all (fun i => !(i == j)) && uniq r) = true := h
    rw [Bool.and_eq_true, List.all_eq_true] at h'
    rw [List.nodup_cons]
    refine ⟨fun hm => ?_, uniq_nodup h'.2⟩
    have := h'.1 j hm
    simp at this
theorem getS_at : ∀ {js : List Nat} {st : List (Option (List D))} {cs : List (List D)}, getS js st = some cs → cs.length = js.length ∧ ∀ (k : Nat) (j : Nat), js[k]? = some j → ∃ ds, cs[k]? = some ds ∧ st[j]? = some (some ds)
  | [], _, _, h => by
    cases h
    exact ⟨rfl, fun k j hj => by simp at hj⟩
  | j :: r, st, cs, h => by
    unfold getS at h
    split at h
    · rename_i ds hd
      obtain ⟨c, hc, rfl⟩ := Option.map_eq_some_iff.mp h
      obtain ⟨h1, h2⟩ := getS_at hc
      refine ⟨by simp [h1], fun k i hi => ?_⟩
      cases k with
      | zero =>
        simp at hi
        subst hi
        exact ⟨ds, rfl, hd⟩
      | succ k => exact h2 k i (by simpa using hi)
    · cases h
theorem putS_len : ∀ (js : List Nat) (cs : List (List D)) (st : List (Option (List D))), (putS js cs st).length = st.length
  | [], _, _ => by simp [putS]
  | _ :: _, [], _ => by simp [putS]
  | j :: r, c :: cs, st => by
    show ((putS r cs st).set j (some c)).length = _
    rw [List.length_set, putS_len r cs st]
theorem putS_at : ∀ {js : List Nat} {cs : List (List D)} {st : List (Option (List D))} {i : Nat} {o : Option (List D)}, (putS js cs st)[i]? = some o → js.Nodup → (∃ (k : Nat) (c : List D), js[k]? = some i ∧ cs[k]? = some c ∧ o = some c) ∨ ((∀ k : Nat, js[k]? = some i → cs[k]? = none) ∧ st[i]? = some o)
  | [], _, _, _, _, h, _ => .inr ⟨fun k hk => by simp at hk, by simpa [putS] using h⟩
  | _ :: _, [], _, _, _, h, _ => .inr ⟨fun k _ => by simp, by simpa [putS] using h⟩
  | j :: r, c :: cs, st, i, o, h, nd => by
    have h' : ((putS r cs st).set j (some c))[i]? = some o := h
    obtain ⟨n1, n2⟩ := List.nodup_cons.mp nd
    by_cases q : j = i
    · subst q
      have hl : j < (putS r cs st).length := by
        have := (List.getElem?_eq_some_iff.mp h').1
        simpa using this
      rw [List.getElem?_set_self hl] at h'
      cases h'
      exact .inl ⟨0, c, rfl, rfl, rfl⟩
    · rw [List.getElem?_set_ne q] at h'
      rcases putS_at h' n2 with ⟨k, c', h1, h2, h3⟩ | ⟨h1, h2⟩
      · exact .inl ⟨k + 1, c', by simpa using h1, by simpa using h2, h3⟩
      · refine .inr ⟨fun k hk => ?_, h2⟩
        cases k with
        | zero =>
          simp at hk
          exact absurd hk q
        | succ k =>
          have := h1 k (by simpa using hk)
          simpa using this
theorem renum_at {K : PySem.W.Frag} {F : Hp} {A Ap : List Addr} : ∀ {ss : List Sl} {vs : List V} {k : Nat}, SlAts K F A vs ss → (∀ m j, (objs ss)[m]? = some j → ∀ a, A[j]? = some a → Ap[k + m]? = some a) → SlAts K F Ap vs (renum k ss)
  | [], _, _, h, _ => by
    cases h
    exact .nil
  | .val d :: r, _, k, h, g => by
    cases h with
    | cons h1 h2 => exact .cons (s := .val d) h1 (renum_at h2 g)
  | .kn d :: r, _, k, h, g => by
    cases h with
    | cons h1 h2 => exact .cons (s := .kn d) h1 (renum_at h2 g)
  | .obj j :: r, _, k, h, g => by
    cases h with
    | cons h1 h2 =>
      obtain ⟨a, e1, e2⟩ := h1
      refine .cons (s := .obj k) ⟨a, g 0 j rfl a e1, e2⟩ (renum_at h2 fun m i hm b hb => ?_)
      have := g (m + 1) i (by simpa [objs] using hm) b hb
      rw [show k + 1 + m = k + (m + 1) from by omega]
      exact this
theorem slAts_get {K : PySem.W.Frag} {F : Hp} {A : List Addr} {vs : List V} {ss : List Sl} (h : SlAts K F A vs ss) : ∀ {i : Nat} {s : Sl}, ss[i]? = some s → ∃ v, vs[i]? = some v ∧ SlAt K F A v s := by
  induction h with
  | nil =>
    intro i s hs
    simp at hs
  | cons h1 h2 ih =>
    intro i s hs
    cases i with
    | zero =>
      simp at hs
      subst hs
      exact ⟨_, rfl, h1⟩
    | succ i => exact ih (by simpa using hs)
/-- how a new list of the callee's is taken -/
def ownO (ds : List D) (e : En) (Kp : KE) : Prop := Kp (.obj e.st.length) ⟨e.sl, e.st ++ [some ds]⟩
def ownD (ds : List D) (e : En) (Kp : KE) : Prop := Kp (.val (.list ds)) e
def FinW (K : PySem.W.Frag) (own : List D → En → KE → Prop) : Prop := ∀ {R F : Hp} {A : List Addr} {σ : L2.St} {H : Hp} {e : En} {b : Addr} {xs : List V} {ds : List D} {Kp : KE} {Q : VK}, Rep K R F A σ H e → F b = none → R b = none → b ∉ A → H b = some (.lst xs) → AtL K F ds xs → own ds e Kp → Fin K R F A σ Kp Q → Q (.ref b) H
theorem Rep.adopt {K : PySem.W.Frag} {R F : Hp} {A : List Addr} {σ : L2.St} {H : Hp} {e : En} (r : Rep K R F A σ H e) {b : Addr} {o : HO} (hF : F b = none) (hR : R b = none) (hA : b ∉ A) (hH : H b = some o) : Rep K (upd R b o) F A σ H e :=
  ⟨r.sub, fun c u z => by
    by_cases q : c = b
    · subst q
      rw [upd_same] at z
      cases z
      exact hH
    · rw [upd_ne q] at z
      exact r.keep _ _ z, fun c u z => by
    by_cases q : c = b
    · subst q
      exact ⟨hF, hA⟩
    · rw [upd_ne q] at z
      exact r.apart c u z, r.len, r.lenA, r.nodup, r.live, r.slot, r.store⟩
theorem finW_O {K : PySem.W.Frag} : FinW K ownO := by
  intro R F A σ H e b xs ds Kp Q rep hF hR hA hH hx k fin
  exact finO_ok (rep.adopt hF hR hA hH) hR hx k fin
theorem finW_D {K : PySem.W.Frag} : FinW K ownD := by
  intro R F A σ H e b xs ds Kp Q rep hF hR hA hH hx k fin
  exact finD_ok (rep.adopt hF hR hA hH) hR hx k fin
theorem p_call {K : PySem.W.Frag} {p : VSp} {own : List D → En → KE → Prop} (hw : FinW K own) {E : XK} : PrimN K (fun vs H Q => spV K p (vs ++ []) H Q E) (opCallK own p) := by
  intro R F A σ H e vs ss Kp Q rep ats ho fin
  rw [List.append_nil]
  unfold opCallK at ho
  split at ho
  · rename_i cs hu hg
    have nd := uniq_nodup hu
    obtain ⟨gl, ga⟩ := getS_at hg
    -- the addresses of what is handed in
    have hA : ∀ (k j : Nat), (objs ss)[k]? = some j → ∃ a xs ds, A[j]? = some a ∧ cs[k]? = some ds ∧ F a = none ∧ H a = some (.lst xs) ∧ AtL K F ds xs := fun k j hj => by
      obtain ⟨ds, h1, h2⟩ := ga k j hj
      obtain ⟨a, xs, q1, q2, q3, q4⟩ := rep.store j ds h2
      exact ⟨a, xs, ds, q1, h1, q2, q3, q4⟩
    let Ap : List Addr := (objs ss).map fun j => (A[j]?).getD 0
    have hAp : ∀ (k j : Nat) (a : Addr), (objs ss)[k]? = some j → A[j]? = some a → Ap[k]? = some a := fun k j a h1 h2 => by
      show ((objs ss).map fun j => (A[j]?).getD 0)[k]? = _
      rw [List.getElem?_map, h1]
      simp [h2]
    have hAp' : ∀ (k : Nat) (a : Addr), Ap[k]? = some a → ∃ j, (objs ss)[k]? = some j ∧ A[j]? = some a := fun k a h => by
      have h' : ((objs ss).map fun j => (A[j]?).getD 0)[k]? = some a := h
      rw [List.getElem?_map] at h'
      obtain ⟨j, h1, h2⟩ := Option.map_eq_some_iff.mp h'
      obtain ⟨b, _, _, q1, _⟩ := hA k j h1
      rw [q1] at h2
      simp at h2
      exact ⟨j, h1, by rw [q1, h2]⟩
    have hApl : Ap.length = (objs ss).length := List.length_map _
    have hsub : ∀ a ∈ Ap, a ∈ A := fun a ha => by
      obtain ⟨k, hk⟩ := List.getElem?_of_mem ha
      obtain ⟨j, _, h2⟩ := hAp' k a hk
      exact List.mem_of_getElem? h2
    have hApn : Ap.Nodup := by
      show ((objs ss).map fun j => (A[j]?).getD 0).Nodup
      refine List.pairwise_map.mpr (List.Pairwise.imp_of_mem (fun {i j} hi hj hne q => ?_) nd)
      obtain ⟨ki, hki⟩ := List.getElem?_of_mem hi
      obtain ⟨kj, hkj⟩ := List.getElem?_of_mem hj
      obtain ⟨a, _, _, q1, _⟩ := hA ki i hki
      obtain ⟨b, _, _, q2, _⟩ := hA kj j hkj
      rw [q1, q2] at q
      have q' : a = b := q
      subst q'
      exact hne (nodup_at rep.nodup q1 q2)
    let Rc : Hp := fun a => if (F a).isSome = true ∨ a ∈ Ap then none else H a
    have hRc : ∀ {a : Addr} {o : HO}, Rc a = some o → F a = none ∧ a ∉ Ap ∧ H a = some o := fun {a o} h => by
      have h' : (if (F a).isSome = true ∨ a ∈ Ap then none else H a) = some o := h
      split at h'
      · cases h'
      · rename_i q
        refine ⟨?_, fun z => q (.inr z), h'⟩
        cases hf : F a with
        | none => rfl
        | some u => exact absurd (.inl (by simp [hf])) q
    have hRc' : ∀ {a : Addr} {o : HO}, F a = none → a ∉ Ap → H a = some o → Rc a = some o := fun {a o} h1 h2 h3 => by
      show (if (F a).isSome = true ∨ a ∈ Ap then none else H a) = some o
      rw [if_neg]
      · exact h3
      · rintro (z | z)
        · rw [h1] at z
          cases z
        · exact h2 z
    have ren := renum_at (Ap := Ap) (k := 0) ats (fun m j hm a ha => by rw [Nat.zero_add]; exact hAp m j a hm ha)
    have repc : Rep K Rc F Ap (vs.map some) H ⟨(renum 0 ss).map some, cs.map some⟩ := by
      refine ⟨rep.sub, fun a o z => (hRc z).2.2, fun a o z => ⟨(hRc z).1, (hRc z).2.1⟩, ?_, ?_, hApn, fun a ha => rep.live a (hsub a ha), fun i s z => ?_, fun j ds z => ?_⟩
      · simp [ren.len]
      · simp [gl, hApl]
      · have z' : ((renum 0 ss).map some)[i]? = some (some s) := z
        rw [List.getElem?_map] at z'
        obtain ⟨t, ht, hs⟩ := Option.map_eq_some_iff.mp z'
        cases hs
        obtain ⟨v, h1, h2⟩ := slAts_get ren ht
        exact ⟨v, by rw [List.getElem?_map, h1] <;> rfl, h2⟩
      · have z' : (cs.map some)[j]? = some (some ds) := z
        rw [List.getElem?_map] at z'
        obtain ⟨t, ht, hs⟩ := Option.map_eq_some_iff.mp z'
        cases hs
        have hj : j < (objs ss).length := by
          have := (List.getElem?_eq_some_iff.mp ht).1
          omega
        obtain ⟨i, hi⟩ : ∃ i, (objs ss)[j]? = some i := ⟨(objs ss)[j], by simp [hj]⟩
        obtain ⟨a, xs, ds', q1, q2, q3, q4, q5⟩ := hA j i hi
        rw [ht] at q2
        cases q2
        exact ⟨a, xs, hAp j i a hi q1, q3, q4, q5⟩
    refine ⟨Rc, F, Ap, renum 0 ss, cs, _, repc, ho, fun s cs' v F' A' H' k l p rep' => ?_⟩
    have hR : ∀ {a : Addr} {o : HO}, R a = some o → Rc a = some o := fun {a o} z => hRc' (rep.apart a o z).1 (fun hm => (rep.apart a o z).2 (hsub a hm)) (rep.keep a o z)
    have hA' : ∀ {k : Nat}, k < Ap.length → A'[k]? = Ap[k]? := fun {k} hk => by
      obtain ⟨t, rfl⟩ := p
      rw [List.getElem?_append_left hk]
    have hApA' : ∀ a ∈ Ap, a ∈ A' := fun a ha => p.subset ha
    have lc : cs'.length = A'.length := by
      have := rep'.lenA
      simpa using this
    -- the caller's state behind the call
    have back : Rep K R F' A σ H' ⟨e.sl, putS (objs ss) cs' e.st⟩ := by
      refine ⟨rep'.sub, fun a o z => rep'.keep a o (hR z), fun a o z => ⟨(rep'.apart a o (hR z)).1, (rep.apart a o z).2⟩, rep.len, by rw [putS_len]; exact rep.lenA, rep.nodup, fun a ha => ?_, fun i t z => ?_, fun j ds z => ?_⟩
      · obtain ⟨o, ho⟩ := rep.live a ha
        cases hf : F a with
        | some u => exact ⟨u, rep'.sub _ _ (l _ _ hf)⟩
        | none =>
          by_cases hm : a ∈ Ap
          · exact rep'.live a (hApA' a hm)
          · exact ⟨o, rep'.keep _ _ (hRc' hf hm ho)⟩
      · obtain ⟨u, h1, h2⟩ := rep.slot i t z
        exact ⟨u, h1, h2.le l (pfx_refl A)⟩
      · rcases putS_at z nd with ⟨m, c, h1, h2, h3⟩ | ⟨h1, h2⟩
        · cases h3
          obtain ⟨a, xs, ds', q1, q2, q3, q4, q5⟩ := hA m j h1
          obtain ⟨b, ys, r1, r2, r3, r4⟩ := rep'.store m ds (by rw [List.getElem?_map, h2] <;> rfl)
          have hm : m < Ap.length := by
            rw [hApl]
            exact (List.getElem?_eq_some_iff.mp h1).1
          rw [hA' hm, hAp m j a h1 q1] at r1
          cases r1
          exact ⟨a, ys, q1, r2, r3, r4⟩
        · obtain ⟨a, xs, q1, q2, q3, q4⟩ := rep.store j ds h2
          have na : a ∉ Ap := fun hm => by
            obtain ⟨m, hm⟩ := List.getElem?_of_mem hm
            obtain ⟨j', r1, r2⟩ := hAp' m a hm
            have := nodup_at rep.nodup r2 q1
            subst this
            have hml : m < Ap.length := (List.getElem?_eq_some_iff.mp hm).1
            have := h1 m r1
            have h5 : Ap.length ≤ A'.length := p.length_le
            rw [List.getElem?_eq_none_iff] at this
            omega
          have zc := hRc' q2 na q3
          exact ⟨a, xs, q1, (rep'.apart a _ zc).1, rep'.keep _ _ zc, AtL.le l _ _ q4⟩
    have fin' := fin.tr l (pfx_refl A)
    obtain ⟨v', hv', av⟩ := rep'.slot 0 s rfl
    have ev : some v = some v' := by simpa using hv'
    cases ev
    cases s with
    | val d => exact fin'.done back (s := .val d) k av
    | kn ds => exact fin'.done back (s := .kn ds) k av
    | obj j =>
      replace k : (if j < (objs ss).length then False else match cs'[j]? with | some ds => own ds ⟨e.sl, putS (objs ss) cs' e.st⟩ Kp | none => False) := k
      split at k
      · exact k.elim
      · rename_i hj
        split at k
        · rename_i ds hd
          obtain ⟨b, e1, rfl⟩ := av
          obtain ⟨b', xs, r1, r2, r3, r4⟩ := rep'.store j ds (by rw [List.getElem?_map, hd] <;> rfl)
          rw [e1] at r1
          cases r1
          have nb : b ∉ Ap := fun hm => by
            obtain ⟨m, hm⟩ := List.getElem?_of_mem hm
            have hml : m < Ap.length := (List.getElem?_eq_some_iff.mp hm).1
            rw [← hA' hml] at hm
            have := nodup_at rep'.nodup hm e1
            omega
          have hbF : F b = none := by
            cases hf : F b with
            | none => rfl
            | some u =>
              rw [l _ _ hf] at r2
              cases r2
          have hH : H b = none := by
            cases hh : H b with
            | none => rfl
            | some u => exact absurd (List.mem_of_getElem? e1) (rep'.apart b u (hRc' hbF nb hh)).2
          exact hw back r2 (rep.keep.free hH) (fun hm => by
            obtain ⟨u, hu⟩ := rep.live b hm
            rw [hH] at hu
            cases hu) r3 r4 k fin'
        · exact k.elim
  · exact ho.elim
section
variable {X : Cx} {f : Addr} {fd : FuncData} {ps : List Str} {k : Nat} {p : VSp} {x : Str} {pp pos : Pos} {ex : Expr} {es : List Expr} {t : VTA}
theorem ve_callK {own : List D → En → KE → Prop} (hw : FinW X.K own) (G : FnOk X.prog X.w X.K X.mg X.base CX0 k f fd ps (spV X.K p)) (hr : Room k X.A) (hg : Gl X x) (hm : X.mg x = some (.ref f)) (hk : PySem.W.keepIn X.K (.ref f) = true) (hb : Binds X.K fd ps [])
    (ha : VA X (ex :: es) t) (hdb : (x == ("__debug__" : Str)) = false := by decide) (he : starEach (ex :: es) X.env = (false, eval ex X.env) :: starEach es X.env := by rfl) (hpl : (backTo pos (starEach es X.env)).any (·.1) = false := by rfl) :
    VE X (.Call (.Name x pp) (ex :: es) [] pos) (vN (opCallK own p) t) := PE.imp (pe_call G hr hg hm hk hb .nil pass0 ha hdb he hpl) (liftN (p_call hw))
end
abbrev opCall := opCallK ownD
abbrev opCallO := opCallK ownO
end Vl
namespace Vl
open PySem L2 PySem.Spec PyProof.Rows
/-! x or y, x and y, not x, by truth -/
def truOk : D → Prop
  | .str x => x.length ≤ sizeLine
  | .dict _ => False
  | _ => True
def truB : D → Bool
  | .none => false
  | .bool b => b
  | .int i => i != 0
  | .str s => (s.length : Int) != 0
  | .list ds => !ds.isEmpty
  | .tuple ds => !ds.isEmpty
  | .dict _ => false
theorem tru_at {K : PySem.W.Frag} {R F : Hp} {A : List Addr} {σ : L2.St} {H : Hp} {e : En} {X : Cx} {x : V} {s : Sl} {d : D} (rep : Rep X.K R F A σ H e) (a : SlAt X.K F A x s) (h : pk s e = some d) (ok : truOk d) : TruV X.K x H (truB d) := by
  have p := rep.pk a h
  cases d with
  | none =>
    rw [p.none]
    rfl
  | bool b =>
    rw [p.bool]
    rfl
  | int i =>
    rw [p.int]
    rfl
  | str z =>
    rw [p.str]
    exact ⟨ok, rfl⟩
  | list ds =>
    obtain ⟨q, xs, rfl, h1, h2⟩ := p
    exact .inl ⟨xs, h1, empty_at (X := X) h2⟩
  | tuple ds =>
    obtain ⟨q, xs, rfl, h1, h2⟩ := p.tup
    exact .inr (.inl ⟨xs, sqT_le rep.sub h1, empty_at (X := X) h2⟩)
  | dict _ => exact ok.elim
def vOrG (ta tb : VTE) : VTE := fun e Kp => ta e fun s e1 => match pk s e1 with
  | some d => truOk d ∧ if truB d = true then Kp s e1 else tb e1 Kp
  | none => False
def vAndG (ta tb : VTE) : VTE := fun e Kp => ta e fun s e1 => match pk s e1 with
  | some d => truOk d ∧ if truB d = true then tb e1 Kp else Kp s e1
  | none => False
def opNotG (s : Sl) (e : En) (Kp : KE) : Prop := match pk s e with
  | some d => truOk d ∧ Kp (.val (.bool (!truB d))) e
  | none => False
section
variable {X : Cx} {a b c : Expr} {ta tb tc : VTE} {pos : Pos}
theorem ve_orG {rest : List Expr} (ha : VE X a ta) (hb : VE X (.BoolOp .Or (b :: rest) pos) tb) : VE X (.BoolOp .Or (a :: b :: rest) pos) (vOrG ta tb) := PE.imp (pe_orT ha hb) fun σ H Q q => by
  obtain ⟨R, F, A, e, Kp, rep, ht, fin⟩ := q
  refine ⟨R, F, A, e, _, rep, ht, fun s1 e1 x F1 A1 H1 k1 f1 p1 rep1 at1 => ?_⟩
  split at k1
  · rename_i d hd
    refine ⟨truB d, tru_at (K := X.K) rep1 at1 hd k1.1, ?_⟩
    have k2 := k1.2
    cases q : truB d with
    | true =>
      rw [q] at k2
      exact (fin.tr f1 p1).done rep1 k2 at1
    | false =>
      rw [q] at k2
      exact ⟨R, F1, A1, e1, Kp, rep1, k2, fin.tr f1 p1⟩
  · exact k1.elim
theorem ve_andG {rest : List Expr} (ha : VE X a ta) (hb : VE X (.BoolOp .And (b :: rest) pos) tb) : VE X (.BoolOp .And (a :: b :: rest) pos) (vAndG ta tb) := PE.imp (pe_andT ha hb) fun σ H Q q => by
  obtain ⟨R, F, A, e, Kp, rep, ht, fin⟩ := q
  refine ⟨R, F, A, e, _, rep, ht, fun s1 e1 x F1 A1 H1 k1 f1 p1 rep1 at1 => ?_⟩
  split at k1
  · rename_i d hd
    refine ⟨truB d, tru_at (K := X.K) rep1 at1 hd k1.1, ?_⟩
    have k2 := k1.2
    cases q : truB d with
    | false =>
      rw [q] at k2
      exact (fin.tr f1 p1).done rep1 k2 at1
    | true =>
      rw [q] at k2
      exact ⟨R, F1, A1, e1, Kp, rep1, k2, fin.tr f1 p1⟩
  · exact k1.elim
theorem ve_notG (ha : VE X a ta) : VE X (.UnaryOp .Not a pos) (v1 opNotG ta) := PE.imp (pe_notT ha) fun σ H Q q => by
  obtain ⟨R, F, A, e, Kp, rep, ht, fin⟩ := q
  refine ⟨R, F, A, e, _, rep, ht, fun s1 e1 x F1 A1 H1 k1 f1 p1 rep1 at1 => ?_⟩
  have k1' : (match pk s1 e1 with | some d => truOk d ∧ Kp (.val (.bool (!truB d))) e1 | none => False) := k1
  split at k1'
  · rename_i d hd
    exact ⟨truB d, tru_at (K := X.K) rep1 at1 hd k1'.1, (fin.tr f1 p1).val rep1 k1'.2 (.bl _)⟩
  · exact k1'.elim
/-! a < b < c -/
def vChain (o1 o2 : Sl → Sl → En → KE → Prop) (ta tb tc : VTE) : VTE := fun e Kp => ta e fun s1 e1 => tb e1 fun s2 e2 => o1 s1 s2 e2 fun s e3 => match pk s e3 with
  | some (.bool k) => if k = true then tc e3 fun s3 e4 => o2 s2 s3 e4 Kp else Kp (.val (.bool false)) e3
  | _ => False
theorem ve_chain {op op' : CmpOp} {r r' : R2} {o1 o2 : Sl → Sl → En → KE → Prop} (p1 : Prim2 X.K r o1) (p2 : Prim2 X.K r' o2) (ho : OpR X (compareOp op) r) (ho' : OpR X (compareOp op') r') (ha : VE X a ta) (hb : VE X b tb) (hc : VE X c tc)
    (hm : lastMarks [op, op'] [b, c] = false := by with_unfolding_all rfl) : VE X (.Compare a [op, op'] [b, c] pos) (vChain o1 o2 ta tb tc) := PE.imp (pe_chain ho ho' ha hb hc hm) fun σ H Q q => by
  obtain ⟨R, F, A, e, Kp, rep, ht, fin⟩ := q
  refine ⟨R, F, A, e, _, rep, ht, fun s1 e1 x F1 A1 H1 k1 f1 q1 rep1 at1 => ⟨R, F1, A1, e1, _, rep1, k1, fun s2 e2 y F2 A2 H2 k2 f2 q2 rep2 at2 => ?_⟩⟩
  refine p1 rep2 (at1.le f2 q2) at2 k2 fun s e3 z F3 A3 H3 k3 f3 q3 rep3 at3 => ?_
  split at k3
  · rename_i k hk
    refine ⟨k, (rep3.pk at3 hk).bool, ?_⟩
    have lf := (f1.trans f2).trans f3
    have pf := (q1.trans q2).trans q3
    cases k with
    | false => exact (fin.tr lf pf).val rep3 k3 (.bl false)
    | true => exact ⟨R, F3, A3, e3, _, rep3, k3, fun s4 e4 w F4 A4 H4 k4 f4 q4 rep4 at4 => p2 rep4 (at2.le (f3.trans f4) (q3.trans q4)) at4 k4 (fin.tr (lf.trans f4) (pf.trans q4))⟩
  · exact k3.elim
/-! tests by comparisons -/
theorem vt_eq (hu : X.A.units + 190 < cLine) (ha : VE X a ta) (hb : VE X b tb) (hm : behindInMarks .Eq b = false := by exact nomark _) : VT X (.Compare a [.Eq] [b] pos) (vTest (v2 (opEq false) ta tb)) := vt_cmp p_eq (op_eq2 hu) ha hb hm
theorem vt_ne (hu : X.A.units + 190 < cLine) (ha : VE X a ta) (hb : VE X b tb) (hm : behindInMarks .NotEq b = false := by exact nomark _) : VT X (.Compare a [.NotEq] [b] pos) (vTest (v2 (opEq true) ta tb)) := vt_cmp p_eq (op_ne2 hu) ha hb hm
theorem vt_lt (ha : VE X a ta) (hb : VE X b tb) (hm : behindInMarks .Lt b = false := by exact nomark _) : VT X (.Compare a [.Lt] [b] pos) (vTest (v2 opLt ta tb)) := vt_cmp p_lt (op_lt.or op_lt_str) ha hb hm
theorem vt_le (ha : VE X a ta) (hb : VE X b tb) (hm : behindInMarks .LtE b = false := by exact nomark _) : VT X (.Compare a [.LtE] [b] pos) (vTest (v2 opLe ta tb)) := vt_cmp (p_i0 (g := gLe) fun _ _ _ => .bl _) op_le ha hb hm
theorem vt_gt (ha : VE X a ta) (hb : VE X b tb) (hm : behindInMarks .Gt b = false := by exact nomark _) : VT X (.Compare a [.Gt] [b] pos) (vTest (v2 opGt ta tb)) := vt_cmp (p_i0 (g := gGt) fun _ _ _ => .bl _) op_gt ha hb hm
theorem vt_ge (ha : VE X a ta) (hb : VE X b tb) (hm : behindInMarks .GtE b = false := by exact nomark _) : VT X (.Compare a [.GtE] [b] pos) (vTest (v2 opGe ta tb)) := vt_cmp (p_i0 (g := gGe) fun _ _ _ => .bl _) op_ge ha hb hm
theorem vt_isN (ha : VE X a ta) (hb : VE X b tb) (hm : behindInMarks .Is b = false := by exact nomark _) : VT X (.Compare a [.Is] [b] pos) (vTest (v2 (opIsN false) ta tb)) := vt_cmp p_isN op_isN ha hb hm
theorem vt_notN (ha : VE X a ta) (hb : VE X b tb) (hm : behindInMarks .IsNot b = false := by exact nomark _) : VT X (.Compare a [.IsNot] [b] pos) (vTest (v2 (opIsN true) ta tb)) := vt_cmp p_notN op_notN ha hb hm
/-! in, also of a tuple of flat things -/
def flatD : D → Bool
  | .none => true
  | .bool _ => true
  | .int _ => true
  | .str _ => true
  | _ => false
theorem flat_at {K : PySem.W.Frag} {F : Hp} {v : V} : ∀ {d : D}, flatD d = true → At K F d v → v = sV d ∧ flatV v = true
  | .none, _, h => by
    cases h
    exact ⟨rfl, rfl⟩
  | .bool _, _, h => by
    cases h
    exact ⟨rfl, rfl⟩
  | .int _, _, h => by
    cases h
    exact ⟨rfl, rfl⟩
  | .str _, _, h => by
    cases h
    exact ⟨rfl, rfl⟩
theorem flat_eqv {c d : D} (h1 : flatD c = true) (h2 : flatD d = true) : eqV (sV c) (sV d) = PyData.eqv c d := by
  cases c <;> cases d <;> first | rfl | simp_all [flatD] | (simp only [sV, eqV, PyData.eqv])
theorem inV_at {K : PySem.W.Frag} {F : Hp} {d : D} {v : V} (hd : flatD d = true) (a : At K F d v) : ∀ {ds : List D} {vs : List V}, ds.all flatD = true → AtL K F ds vs → inV v vs = (ds.any fun z => PyData.eqv z d) ∧ vs.all flatV = true
  | [], _, _, h => by
    cases h
    exact ⟨rfl, rfl⟩
  | c :: ds, _, f, h => by
    cases h with
    | cons h1 h2 =>
      rw [List.all_cons, Bool.and_eq_true] at f
      obtain ⟨e1, e2⟩ := inV_at hd a f.2 h2
      obtain ⟨g1, g2⟩ := flat_at f.1 h1
      obtain ⟨g3, g4⟩ := flat_at hd a
      refine ⟨?_, by rw [List.all_cons, g2, e2] <;> rfl⟩
      show (eqV _ v || inV v _) = (PyData.eqv c d || _)
      rw [e1, g1, g3, flat_eqv f.1 hd]
def opIn3 (neg : Bool) (s1 s2 : Sl) (e : En) (Kp : KE) : Prop := match pk s1 e, pk s2 e with
  | some d, some (.tuple ds) => flatD d = true ∧ ds.all flatD = true ∧ Kp (.val (.bool (if neg then !ds.any (fun z => PyData.eqv z d) else ds.any fun z => PyData.eqv z d))) e
  | _, _ => opIn neg s1 s2 e Kp
def rIn3 (K : PySem.W.Frag) : R2 := fun x y H Q => rIn K false x y H Q ∨ rIn2 K x y H Q
def rNotIn3 (K : PySem.W.Frag) : R2 := fun x y H Q => rIn K true x y H Q ∨ rNotIn2 K x y H Q
theorem p_in3 {K : PySem.W.Frag} : Prim2 K (rIn3 K) (opIn3 false) := by
  intro R F A σ H e x y s1 s2 Kp Q rep a1 a2 ho fin
  unfold opIn3 at ho
  split at ho
  · rename_i d ds h1 h2
    obtain ⟨q, xs, rfl, q1, q2⟩ := (rep.pk a2 h2).tup
    have pd := rep.pk a1 h1
    have ad : At K F d x := by
      cases d <;> first | exact pd | exact absurd ho.1 (by simp [flatD])
    obtain ⟨g1, g2⟩ := inV_at ho.1 ad ho.2.1 q2
    refine .inl ⟨q, xs, rfl, .inr (sqT_le rep.sub q1), (flat_at ho.1 ad).2, g2, ?_⟩
    rw [g1]
    exact fin.val rep ho.2.2 (.bl _)
  · exact .inr (p_in rep a1 a2 ho fin)
theorem p_notIn3 {K : PySem.W.Frag} : Prim2 K (rNotIn3 K) (opIn3 true) := by
  intro R F A σ H e x y s1 s2 Kp Q rep a1 a2 ho fin
  unfold opIn3 at ho
  split at ho
  · rename_i d ds h1 h2
    obtain ⟨q, xs, rfl, q1, q2⟩ := (rep.pk a2 h2).tup
    have pd := rep.pk a1 h1
    have ad : At K F d x := by
      cases d <;> first | exact pd | exact absurd ho.1 (by simp [flatD])
    obtain ⟨g1, g2⟩ := inV_at ho.1 ad ho.2.1 q2
    refine .inl ⟨q, xs, rfl, .inr (sqT_le rep.sub q1), (flat_at ho.1 ad).2, g2, ?_⟩
    rw [g1]
    exact fin.val rep ho.2.2 (.bl _)
  · exact .inr (p_notIn rep a1 a2 ho fin)
theorem op_in3 (hu : X.A.units + 190 < cLine) : OpR X (compareOp .In) (rIn3 X.K) := op_in_seq.or (op_in2 hu)
theorem op_notIn3 (hu : X.A.units + 190 < cLine) : OpR X (compareOp .NotIn) (rNotIn3 X.K) := op_notIn_seq.or (op_notIn2 hu)
theorem ve_in3 (hu : X.A.units + 190 < cLine) (ha : VE X a ta) (hb : VE X b tb) (hm : behindInMarks .In b = false := by first | rfl | exact nomark _) : VE X (.Compare a [.In] [b] pos) (v2 (opIn3 false) ta tb) := ve_cmp p_in3 (op_in3 hu) ha hb hm
theorem ve_notIn3 (hu : X.A.units + 190 < cLine) (ha : VE X a ta) (hb : VE X b tb) (hm : behindInMarks .NotIn b = false := by first | rfl | exact nomark _) : VE X (.Compare a [.NotIn] [b] pos) (v2 (opIn3 true) ta tb) := ve_cmp p_notIn3 (op_notIn3 hu) ha hb hm
theorem vt_in (hu : X.A.units + 190 < cLine) (ha : VE X a ta) (hb : VE X b tb) (hm : behindInMarks .In b = false := by first | rfl | exact nomark _) : VT X (.Compare a [.In] [b] pos) (vTest (v2 (opIn3 false) ta tb)) := vt_cmp p_in3 (op_in3 hu) ha hb hm
theorem vt_notIn (hu : X.A.units + 190 < cLine) (ha : VE X a ta) (hb : VE X b tb) (hm : behindInMarks .NotIn b = false := by first | rfl | exact nomark _) : VT X (.Compare a [.NotIn] [b] pos) (vTest (v2 (opIn3 true) ta tb)) := vt_cmp p_notIn3 (op_notIn3 hu) ha hb hm
/-! xs[::-1]; xs * k -/
def opRev (s : Sl) (e : En) (Kp : KE) : Prop := match pk s e with
  | some (.list ds) => Kp (.val (.list ds.reverse)) e
  | _ => False
theorem AtL.rev {K : PySem.W.Frag} {F : Hp} {ds : List D} {vs : List V} (h : AtL K F ds vs) : AtL K F ds.reverse vs.reverse := by
  induction ds generalizing vs with
  | nil =>
    cases h
    exact .nil
  | cons d ds ih =>
    cases h with
    | cons h1 h2 =>
      rw [List.reverse_cons, List.reverse_cons]
      exact (ih h2).app (AtL.one h1)
theorem ve_rev {k : Nat} {p1 p2 p3 : Pos} (ha : VE X a ta) : VE X (.Subscript a (.Slice none none (some (.UnaryOp .USub (.Constant (.int 1) k p1) p2)) p3) pos) (v1 opRev ta) := PE.imp (pe_revL ha) (lift1 fun {R F A σ H e x s Kp Q} rep a1 ho fin => by
  unfold opRev at ho
  split at ho
  · rename_i ds h1
    obtain ⟨q, xs, rfl, q1, q2⟩ := rep.pk a1 h1
    exact ⟨q, xs, rfl, q1, fun p hp => fin.newL rep hp ho q2.rev⟩
  · exact ho.elim)
def reps (k : Nat) (ds : List D) : List D := (List.replicate k ds).flatten
theorem AtL.reps {K : PySem.W.Frag} {F : Hp} {ds : List D} {vs : List V} (h : AtL K F ds vs) : ∀ k : Nat, AtL K F (Vl.reps k ds) (List.replicate k vs).flatten
  | 0 => .nil
  | k + 1 => by
    show AtL K F (List.replicate (k + 1) ds).flatten _
    rw [List.replicate_succ, List.replicate_succ, List.flatten_cons, List.flatten_cons]
    exact h.app (AtL.reps h k)
def opMul2 (s1 s2 : Sl) (e : En) (Kp : KE) : Prop := match pkm s1 e, pk s2 e with
  | some (.int i), some (.int j) => CMul i j ∧ Kp (.val (.int (i * j))) e
  | some (.list ds), some (.int k) => -(2 ^ 63) ≤ k ∧ k < 2 ^ 63 ∧ ds.length * k.toNat ≤ sizeLine ∧ Kp (.val (.list (reps k.toNat ds))) e
  | _, _ => False
theorem p_mul2 {K : PySem.W.Frag} : Prim2 K (fun x y H Q => rI CMul (fun i j => .int (i * j)) x y H Q ∨ rRep x y H Q) opMul2 := by
  intro R F A σ H e x y s1 s2 Kp Q rep a1 a2 ho fin
  unfold opMul2 at ho
  split at ho
  · rename_i i j h1 h2
    exact .inl ⟨i, j, (rep.pkm a1 h1).int, (rep.pk a2 h2).int, ho.1, fin.val rep ho.2 (.int _)⟩
  · rename_i ds k h1 h2
    obtain ⟨l, xs, rfl, q1, q2⟩ := rep.pkm a1 h1
    exact .inr ⟨l, k, xs, rfl, (rep.pk a2 h2).int, q1, ho.1, ho.2.1, by rw [q2.len]; exact ho.2.2.1, fun p hp => fin.newL rep hp ho.2.2.2 (q2.reps _)⟩
  · exact ho.elim
theorem ve_mul2 (ha : VE X a ta) (hb : VE X b tb) : VE X (.BinOp a .Mult b pos) (v2 opMul2 ta tb) := ve_op p_mul2 (op_mul.or op_rep) ha hb
/-! isinstance -/
def tyD : D → String
  | .none => "NoneType"
  | .bool _ => "bool"
  | .int _ => "int"
  | .str _ => "str"
  | .list _ => "list"
  | .tuple _ => "tuple"
  | .dict _ => "dict"
theorem ty_at {K : PySem.W.Frag} {R F : Hp} {A : List Addr} {σ : L2.St} {H : Hp} {e : En} {x : V} {s : Sl} {d : D} (rep : Rep K R F A σ H e) (a : SlAt K F A x s) (h : pk s e = some d) : TyX K H x (.type (tyD d)) := by
  have p := rep.pk a h
  cases d with
  | none =>
    rw [p.none]
    exact .base .non
  | bool b =>
    rw [p.bool]
    exact .base (.bl b)
  | int i =>
    rw [p.int]
    exact .base (.int i)
  | str z =>
    rw [p.str]
    exact .base (.str z)
  | list ds =>
    obtain ⟨q, xs, rfl, h1, h2⟩ := p
    rcases h1 with (h1 | ⟨o, h1⟩) | ⟨o, its, n, h1, h3, _⟩
    · exact .base (.lst h1)
    · exact .base (.frz h1)
    · exact .kList h1 h3
  | tuple ds =>
    obtain ⟨q, xs, rfl, h1, h2⟩ := p.tup
    rcases sqT_le rep.sub h1 with (h1 | ⟨o, h1⟩) | ⟨o, its, n, h1, h3, _⟩
    · exact .base (.tup h1)
    · exact .fTuple h1
    · exact .kTuple h1 h3
  | dict _ =>
    have p' : At K F (.dict _) x := p
    cases p'
def vIsi (T : String) (ta : VTE) : VTE := fun e Kp => ta e fun s e1 => match pk s e1 with
  | some d => ∃ b, kitB (tyD d) T = some b ∧ Kp (.val (.bool b)) e1
  | none => False
theorem ve_isi {T : String} {x : Str} {p p2 : Pos} (hg : Gl X "isinstance") (hm : X.mg "isinstance" = none) (hgT : Gl X x) (hmT : X.mg x = none) (hv : bootBuiltins x = some (.type T)) (ha : VE X a ta) (hn : x ≠ "__name__" := by decide) (hdb : (x == ("__debug__" : Str)) = false := by decide)
    (hs : starEach [a, .Name x p2] X.env = (false, eval a X.env) :: starEach [.Name x p2] X.env := by rfl) (hs2 : starEach [.Name x p2] X.env = (false, eval (.Name x p2) X.env) :: starEach [] X.env := by rfl) (hpl : (backTo pos (starEach [.Name x p2] X.env)).any (·.1) = false := by rfl) :
    VE X (.Call (.Name "isinstance" p) [a, .Name x p2] [] pos) (vIsi T ta) :=
  PE.imp (pe_callB call_isi hg hm (by decide +kernel) (pa_cons ha (pa_cons (pe_bltn (v := .ty T) (u := .type T) hgT hmT hv rfl hn hdb) pa_nil hs2) hs) (by decide) (by decide) hs hpl) fun σ H Q q => by
    obtain ⟨R, F, A, e, Kp, rep, ht, fin⟩ := q
    refine ⟨R, F, A, e, _, rep, ht, fun s1 e1 x F1 A1 H1 k1 f1 p1 rep1 at1 => ?_⟩
    split at k1
    · rename_i d hd
      obtain ⟨b, h1, h2⟩ := k1
      exact ⟨x, .ty T, .type (tyD d), .type T, b, rfl, .ty T, ty_at rep1 at1 hd, kit_ty h1, (fin.tr f1 p1).val rep1 h2 (.bl b)⟩
    · exact k1.elim
/-! x += n -/
def vAug (g : Int → Int → Int) (i : Nat) (t : VTE) : VTS := fun D e => match e.sl[i]? with
  | some (some (.val (.int k))) => t e fun s e1 => (match pk s e1 with
    | some (.int j) => D.nx ⟨e1.sl.set i (some (.val (.int (g k j)))), e1.st⟩
    | _ => False)
  | _ => False
theorem vs_aug {i : Nat} {x : Str} {ex : Expr} {t : VTE} {op : Operator} {g : Int → Int → Int} {pos' : Pos} (hN : X.N.Nodup) (hi : X.N[i]? = some x) (hx : Loc X.env.scope x) (he : VE X ex t) (ho : PIp X op (ipI g)) (hp : ∀ {te : TE}, PE X ex te → PS X (.AugAssign (.Name x pos') op ex pos) (tAug i te (ipI g))) :
    VS X (.AugAssign (.Name x pos') op ex pos) (vAug g i t) := PS.imp (hp he) fun D σ H h => by
  obtain ⟨R, F, A, e, DV, rep, k, fin⟩ := h
  have k' : (match e.sl[i]? with | some (some (.val (.int k))) => t e fun s e1 => (match pk s e1 with | some (.int j) => DV.nx ⟨e1.sl.set i (some (.val (.int (g k j)))), e1.st⟩ | _ => False) | _ => False) := k
  split at k'
  · rename_i n hn
    obtain ⟨v, h1, h2⟩ := rep.slot i _ hn
    cases (show At X.K F (.int n) v from h2)
    refine ⟨.int n, h1, R, F, A, e, _, rep, k', fun s e1 y F1 A1 H1 k1 l1 p1 rep1 a1 => ?_⟩
    split at k1
    · rename_i j hj
      exact ⟨n, j, rfl, (rep1.pk a1 hj).int, fin.nx _ _ _ _ _ k1 l1 p1 (rep1.put (s := .val (.int (g n j))) (.int _))⟩
    · exact k1.elim
  · exact k'.elim
/-! texts -/
def txts : List D → Option (List Str)
  | [] => some []
  | .str x :: ds => (txts ds).map (x :: ·)
  | _ => none
theorem txts_at {K : PySem.W.Frag} {F : Hp} : ∀ {ds : List D} {vs : List V} {ys : List Str}, txts ds = some ys → AtL K F ds vs → vs = ys.map V.str
  | [], _, _, h, a => by
    cases h
    cases a
    rfl
  | .str x :: ds, _, ys, h, a => by
    have h' : (txts ds).map (x :: ·) = some ys := h
    obtain ⟨zs, hz, rfl⟩ := Option.map_eq_some_iff.mp h'
    cases a with
    | cons a1 a2 =>
      cases a1
      rw [txts_at hz a2] <;> rfl
  | .none :: _, _, _, h, _ => by cases h
  | .bool _ :: _, _, _, h, _ => by cases h
  | .int _ :: _, _, _, h, _ => by cases h
  | .list _ :: _, _, _, h, _ => by cases h
  | .tuple _ :: _, _, _, h, _ => by cases h
  | .dict _ :: _, _, _, h, _ => by cases h
def opJoin (s : Sl) (ss : List Sl) (e : En) (Kp : KE) : Prop := match pk s e, ss with
  | some (.str z), [t] => (match pk t e with
    | some (.list ds) => ∃ ys, txts ds = some ys ∧ (ys.map (·.length)).sum + ys.length * z.length ≤ 16777216 ∧ Kp (.val (.str (Txt.join z ys))) e
    | _ => False)
  | _, _ => False
theorem p_join {K : PySem.W.Frag} : PrimM K "str" (fun x xs H Q => ∃ a p, ∃ ys : List Str, x = .str a ∧ xs = [.ref p] ∧ (SqL K H p (ys.map V.str) ∨ SqT K H p (ys.map V.str)) ∧ (ys.map (·.length)).sum + ys.length * a.length ≤ 16777216 ∧ Q (.str (Txt.join a ys)) H) opJoin := by
  intro R F A σ H e x s xs ss Kp Q rep a0 a1 ho fin
  unfold opJoin at ho
  split at ho
  · rename_i z t hz
    obtain ⟨y, rfl, a2⟩ := a1.one
    split at ho
    · rename_i ds hd
      obtain ⟨ys, h1, h2, h3⟩ := ho
      obtain ⟨p, vs, rfl, q1, q2⟩ := rep.pk a2 hd
      rw [txts_at h1 q2] at q1
      exact ⟨z, p, ys, (rep.pk a0 hz).str, rfl, .inl q1, h2, fin.val rep h3 (.str _)⟩
    · exact ho.elim
  · exact ho.elim
/-- sorted(xs) of texts -/
def opSortS (ss : List Sl) (e : En) (Kp : KE) : Prop := match ss with
  | [s] => (match pk s e with
    | some (.list ds) => ∃ xs, txts ds = some xs ∧ xs.length < 64 ∧ ∀ ys : List Str, ys.Perm xs → sortedS ys = true → Kp (.val (.list (ys.map .str))) e
    | _ => False)
  | _ => False
theorem strs_at {K : PySem.W.Frag} {F : Hp} : ∀ ys : List Str, AtL K F (ys.map PyData.str) (ys.map V.str)
  | [] => .nil
  | y :: ys => .cons (.str y) (strs_at ys)
theorem ve_sortS {p : Pos} {t : VTA} (hg : Gl X "sorted") (hm : X.mg "sorted" = none) (ha : VA X [a] t) (he : starEach [a] X.env = (false, eval a X.env) :: starEach [] X.env := by rfl) : VE X (.Call (.Name "sorted" p) [a] [] pos) (vN opSortS t) := ve_blt (fun {R F A σ H e xs ss Kp Q} rep a1 ho fin => by
  unfold opSortS at ho
  split at ho
  · obtain ⟨x, rfl, a2⟩ := a1.one
    split at ho
    · rename_i ds h1
      obtain ⟨zs, h2, h3, h4⟩ := ho
      obtain ⟨q, ys, rfl, q1, q2⟩ := rep.pk a2 h1
      rw [txts_at h2 q2] at q1
      exact ⟨q, zs, rfl, q1, h3, fun ys' p hp1 hp2 hp => fin.newL rep hp (h4 ys' hp1 hp2) (strs_at ys')⟩
    · exact ho.elim
  · exact ho.elim) cr_sortedS hg hm (by decide +kernel) ha (by decide) (by decide) he
/-! a def by its name -/
structure VFn (P : Program) (w : World) (K : PySem.W.Frag) (mg : Str → Option Value) (base : Heap) (k : Nat) (x : Str) (ps : List Str) (p : VSp) : Prop where
  ex : ∃ f fd, FnOk P w K mg base CX0 k f fd ps (spV K p) ∧ PySem.W.keepIn K (.ref f) = true ∧ Binds K fd ps [] ∧ mg x = some (.ref f)
theorem VFn.mono {P : Program} {w : World} {K : PySem.W.Frag} {mg : Str → Option Value} {base : Heap} {j k : Nat} {x : Str} {ps : List Str} {p : VSp} (h : VFn P w K mg base j x ps p) (l : j ≤ k) : VFn P w K mg base k x ps p := by
  obtain ⟨f, fd, a, b, c, d⟩ := h.ex
  exact ⟨f, fd, a.mono l, b, c, d⟩
theorem spV_imp {K : PySem.W.Frag} {p p' : VSp} (h : ∀ ss st Kp, p' ss st Kp → p ss st Kp) : ∀ vs H Q E, spV K p' vs H Q E → spV K p vs H Q E := fun vs H Q E ⟨R, F, A, ss, st, Kp, r, q, z⟩ => ⟨R, F, A, ss, st, Kp, r, h _ _ _ q, z⟩
/-- a weaker promise -/
theorem VFn.imp {P : Program} {w : World} {K : PySem.W.Frag} {mg : Str → Option Value} {base : Heap} {k : Nat} {x : Str} {ps : List Str} {p p' : VSp} (h : VFn P w K mg base k x ps p) (g : ∀ ss st Kp, p' ss st Kp → p ss st Kp) : VFn P w K mg base k x ps p' := by
  obtain ⟨f, fd, a, b, c, d⟩ := h.ex
  exact ⟨f, fd, a.imp (spV_imp g), b, c, d⟩
theorem ve_call {own : List D → En → KE → Prop} {j k : Nat} {x : Str} {ps : List Str} {p : VSp} {pp : Pos} {es : List Expr} {t : VTA} (hw : FinW X.K own) (G : VFn X.prog X.w X.K X.mg X.base k x ps p) (hr : Room j X.A) (hk : k ≤ j) (hg : Gl X x)
    (ha : VA X (a :: es) t) (hdb : (x == ("__debug__" : Str)) = false := by decide) (he : starEach (a :: es) X.env = (false, eval a X.env) :: starEach es X.env := by rfl) (hpl : (backTo pos (starEach es X.env)).any (·.1) = false := by rfl) :
    VE X (.Call (.Name x pp) (a :: es) [] pos) (vN (opCallK own p) t) := by
  obtain ⟨f, fd, h1, h2, h3, h4⟩ := G.ex
  exact ve_callK hw h1 (hr.mono hk) hg h4 h2 h3 ha hdb he hpl
theorem opCall0 {K : PySem.W.Frag} {p : VSp} {own : List D → En → KE → Prop} (hw : FinW K own) {E : XK} (σ : L2.St) (H : Hp) (Q : VK) (h : liftE K (fun e Kp => opCallK own p [] e Kp) σ H Q) : spV K p ([] ++ []) H Q E := by
  obtain ⟨R, F, A, e, Kp, rep, ht, fin⟩ := h
  exact p_call hw (xs := []) (ss := []) rep .nil ht fin
def vCall0 (own : List D → En → KE → Prop) (p : VSp) : VTE := fun e Kp => opCallK own p [] e Kp
theorem ve_call0 {own : List D → En → KE → Prop} {j k : Nat} {x : Str} {ps : List Str} {p : VSp} {pp : Pos} (hw : FinW X.K own) (G : VFn X.prog X.w X.K X.mg X.base k x ps p) (hr : Room j X.A) (hk : k ≤ j) (hg : Gl X x)
    (hdb : (x == ("__debug__" : Str)) = false := by decide) : VE X (.Call (.Name x pp) [] [] pos) (vCall0 own p) := by
  obtain ⟨f, fd, h1, h2, h3, h4⟩ := G.ex
  exact PE.imp (pe_call0 h1 (hr.mono hk) hg h4 h2 h3 .nil pass0 hdb) fun σ H Q h => opCall0 (E := E0) hw σ H Q h
/-- what built-in names mean in the module -/
structure Blt (mg : Str → Option Value) : Prop where
  len : mg "len" = none
  max : mg "max" = none
  min : mg "min" = none
  range : mg "range" = none
  int : mg "int" = none
  str : mg "str" = none
  list : mg "list" = none
  tuple : mg "tuple" = none
  bool : mg "bool" = none
  sorted : mg "sorted" = none
  enumerate : mg "enumerate" = none
  zip : mg "zip" = none
  isinstance : mg "isinstance" = none
  all : mg "all" = none
  any : mg "any" = none
  sum : mg "sum" = none
  dict : mg "dict" = none
  set : mg "set" = none
end
end Vl
namespace Vl
open PySem L2 PySem.Spec PyProof.Rows
/-- a module's constant -/
structure VConst (K : PySem.W.Frag) (mg : Str → Option Value) (x : Str) (d : D) : Prop where
  ex : ∃ v u, mg x = some u ∧ RelV v u ∧ ∀ F, At K F d v
theorem ve_const {X : Cx} {x : Str} {d : D} {pos : Pos} (h : VConst X.K X.mg x d) (hg : Gl X x) (hdb : (x == ("__debug__" : Str)) = false := by decide) : VE X (.Name x pos) (vC d) := by
  obtain ⟨v, u, h1, h2, h3⟩ := h.ex
  exact ve_glob hg h1 h2 h3 hdb
/-- a def whose promise asks what can't be -/
theorem vac {P : Program} {w : World} {K : PySem.W.Frag} {mg : Str → Option Value} {base : Heap} {x qual : Str} {st : Stmt} {f : Addr} {fd : FuncData} {N ps : List Str} {k : Nat} {p : VSp} (F : Fun K x qual st f fd) (S : FnScope N ps (defScope st)) (no : ∀ ss st Kp, ¬ p ss st Kp) :
    FnOk P w K mg base CX0 (k + 1) f fd ps (spV K p) := by
  refine F.ok S (fun vs H Q E h => ?_) fun cdv A outer s H vs Q E hr h => ?_
  · obtain ⟨R, F, A, ss, st, Kp, rep, hp, _⟩ := h
    exact absurd hp (no _ _ _)
  · obtain ⟨R, F, A, ss, st, Kp, rep, hp, _⟩ := h
    exact absurd hp (no _ _ _)
end Vl
namespace Vl
open PySem L2 PySem.Spec PyProof.Rows
/-! readings that reckon -/
def kOpt (o : Option D) (k : D → Prop) : Prop := match o with
  | some d => k d
  | none => False
theorem kOpt_some {d : D} {k : D → Prop} : kOpt (some d) k = k d := rfl
theorem kOpt_none {k : D → Prop} : kOpt none k = False := rfl
theorem kOpt_ex {o : Option D} {k : D → Prop} (h : kOpt o k) : ∃ d, o = some d ∧ k d := by
  cases o with
  | none => exact h.elim
  | some d => exact ⟨d, rfl, h⟩
def xIx (s1 s2 : Sl) (e : En) (Kp : KE) : Prop := match pk s1 e, pk s2 e with
  | some (.tuple ds), some (.int i) => kOpt (atI ds i) fun d => Kp (.val d) e
  | some (.list ds), some (.int i) => kOpt (atI ds i) fun d => Kp (.val d) e
  | some (.str z), some (.int i) => ∃ c, z.length ≤ sizeLine ∧ atI z.cps.toList i = some c ∧ Kp (.val (.str ⟨#[c]⟩)) e
  | _, _ => False
theorem p_xix {K : PySem.W.Frag} : Prim2 K (rIx K) xIx := by
  intro R F A σ H e x y s1 s2 Kp Q rep a1 a2 ho fin
  refine p_ix rep a1 a2 ?_ fin
  unfold xIx at ho
  unfold opIx
  split at ho
  · rename_i ds i h1 h2
    first | exact kOpt_ex ho | (rw [h1, h2]; exact kOpt_ex ho)
  · rename_i ds i h1 h2
    first | exact kOpt_ex ho | (rw [h1, h2]; exact kOpt_ex ho)
  · rename_i z i h1 h2
    first | exact ho | (rw [h1, h2]; exact ho)
  · exact ho.elim
def xPop (s : Sl) (ss : List Sl) (e : En) (Kp : KE) : Prop := match s with
  | .obj j => (match e.st[j]? with
    | some (some ds) => kOpt ds.getLast? fun d => Kp (.val d) ⟨e.sl, e.st.set j (some ds.dropLast)⟩
    | _ => False)
  | _ => False
theorem p_xpop {K : PySem.W.Frag} : PrimM K "list" (fun x vs H Q => vs = [] → rPop x vs H Q) xPop := by
  intro R F A σ H e x s xs ss Kp Q rep a0 a1 ho fin hv
  refine p_pop rep a0 a1 ?_ fin hv
  unfold xPop at ho
  unfold opPop
  split at ho
  · rename_i j
    split at ho
    · rename_i ds hd
      first | exact kOpt_ex ho | (dsimp only; rw [hd]; exact kOpt_ex ho)
    · exact ho.elim
  · exact ho.elim
def kOpn (o : Option Nat) (k : Nat → Prop) : Prop := match o with
  | some d => k d
  | none => False
theorem kOpn_some {d : Nat} {k : Nat → Prop} : kOpn (some d) k = k d := rfl
theorem kOpn_ex {o : Option Nat} {k : Nat → Prop} (h : kOpn o k) : ∃ d, o = some d ∧ k d := by
  cases o with
  | none => exact h.elim
  | some d => exact ⟨d, rfl, h⟩
def xgSub (to ti : VTE) : VTG := fun s e Kp => to e fun so e1 => ti e1 fun si e2 => asD s e2 fun d e3 => match so with
  | .obj j => (match pk si e3 with
    | some (.int k) => (match e3.st[j]? with
      | some (some ds) => kOpn (ixN ds.length k) fun n => Kp ⟨e3.sl, e3.st.set j (some (ds.set n d))⟩
      | _ => False)
    | _ => False)
  | _ => False
theorem asD_imp {s : Sl} {e : En} {k k' : D → En → Prop} (f : ∀ d e, k d e → k' d e) (h : asD s e k) : asD s e k' := by
  cases s with
  | val d => exact f _ _ h
  | kn ds => exact h.elim
  | obj j =>
    have h' : (match e.st[j]? with | some (some ds) => k (.list ds) (e.kill j ds) | _ => False) := h
    show (match e.st[j]? with | some (some ds) => k' (.list ds) (e.kill j ds) | _ => False)
    split at h'
    · exact f _ _ h'
    · exact h'.elim
section
variable {X : Cx} {a b o i : Expr} {ta tb to ti : VTE} {pos : Pos}
theorem ve_xix (ha : VE X a ta) (hb : VE X b tb) (hs : PlainIx b := by exact fun _ _ => rfl) : VE X (.Subscript a b pos) (v2 xIx ta tb) := ve_ixR p_xix ix_seq ha hb hs
theorem ve_xpop {apos cpos : Pos} (ho : VE X o to) (hbase : attributeBase o "pop" X.env (eval o X.env) = eval o X.env := by rfl) (hline : (apos.endLine == cpos.line) = true := by rfl) :
    VE X (.Call (.Attribute o "pop" apos) [] [] cpos) (vM0 "list" xPop to) := PE.imp (pe_bm0 PySem.F.plainAttrs_list PySem.F.slot_list_pop PySem.F.type_list_pop mt_pop ho hbase hline) fun σ H Q h => by
  obtain ⟨R, F, A, e, Kp, rep, ht, fin⟩ := h
  exact ⟨R, F, A, e, _, rep, ht, fun s1 e1 x F1 A1 H1 k1 f1 p1 rep1 at1 => ⟨isT_ty rep1 at1 k1.1, p_xpop rep1 at1 .nil k1.2 (fin.tr f1 p1) rfl⟩⟩
def MonoE (t : VTE) : Prop := ∀ e (k k' : KE), (∀ s e, k s e → k' s e) → t e k → t e k'
theorem vg_xsub (mo : MonoE to) (mi : MonoE ti) (ho : VE X o to) (hi : VE X i ti) (hp : ∀ {u w : TE}, PE X o u → PE X i w → PG X (.Subscript o i pos) (gSub u w rSetL)) : VG X (.Subscript o i pos) [] (xgSub to ti) := PG.imp (vg_sub ho hi hp) fun v σ H Q h => by
  obtain ⟨R, F, A, e, s, Kp, rep, a, k, fin⟩ := h
  refine ⟨R, F, A, e, s, Kp, rep, a, ?_, fin⟩
  refine mo _ _ _ (fun so e1 k1 => mi _ _ _ (fun si e2 k2 => asD_imp (fun d e3 k3 => ?_) k2) k1) k
  cases so with
  | val _ => exact False.elim k3
  | kn _ => exact False.elim k3
  | obj j =>
    replace k3 : (match pk si e3 with | some (.int k) => (match e3.st[j]? with | some (some ds) => kOpn (ixN ds.length k) fun n => Kp ⟨e3.sl, e3.st.set j (some (ds.set n d))⟩ | _ => False) | _ => False) := k3
    show (match pk si e3 with | some (.int k) => (match e3.st[j]? with | some (some ds) => ∃ n, ixN ds.length k = some n ∧ Kp ⟨e3.sl, e3.st.set j (some (ds.set n d))⟩ | _ => False) | _ => False)
    split at k3
    · split at k3
      · exact kOpn_ex k3
      · exact k3.elim
    · exact k3.elim
theorem mono_var (i : Nat) : MonoE (vVar i) := fun e k k' f h => by
  have h' : (match e.sl[i]? with | some (some s) => k s e | _ => False) := h
  show (match e.sl[i]? with | some (some s) => k' s e | _ => False)
  split at h'
  · exact f _ _ h'
  · exact h'.elim
theorem mono_c (d : D) : MonoE (vC d) := fun e k k' f h => f _ _ h
end
end Vl
namespace Vl
open PySem L2 PySem.Spec PyProof.Rows
/-- how a def ends -/
def dV (n : Nat) (Kp : Sl → List (List D) → Prop) : VEnds := { nx := fun e => ret n (.val .none) e Kp, rt := fun s e => ret n s e Kp }
theorem dV_nx (n Kp e) : (dV n Kp).nx e = ret n (.val .none) e Kp := rfl
theorem dV_rt (n Kp s e) : (dV n Kp).rt s e = ret n s e Kp := rfl
/-- a def of the module -/
structure Df (K : PySem.W.Frag) (mg : Str → Option Value) (x : Str) (st : Stmt) (ps : List Str) : Prop where
  ex : ∃ f fd, Fun K x x st f fd ∧ Binds K fd ps [] ∧ mg x = some (.ref f)
section
variable {P : Program} {w : World} {K : PySem.W.Frag} {mg : Str → Option Value} {base : Heap}
theorem okF {x : Str} {st : Stmt} {N ps : List Str} {k : Nat} {p : VSp} {t : VTS} (Fd : Df K mg x st ps) (S : FnScope N ps (defScope st)) (len : ∀ ss st Kp, p ss st Kp → ss.length = ps.length)
    (hb : ∀ {f : Addr} {cdv : Value} {A : Around} {outer : List Env} {s : Shared} {H : Hp} {E : XK}, Room k (A.deeper (envOfC x (defScope st) s.heap.objs.size f cdv)) → VSs (cxOf CX0 P w K mg base N x (defScope st) f cdv A outer s H E).nox (defBody st) t)
    (rd : ∀ ss cs Kp, p ss cs Kp → t (dV cs.length Kp) ⟨startV N.length ss, cs.map some⟩) : VFn P w K mg base (k + 1) x ps p := by
  obtain ⟨f, fd, F, b, g⟩ := Fd.ex
  exact ⟨f, fd, okV F S len fun cdv A outer s H E hr => ⟨t, hb hr, rd⟩, F.kp, b, g⟩
theorem vacF {x : Str} {st : Stmt} {N ps : List Str} {k : Nat} {p : VSp} (Fd : Df K mg x st ps) (S : FnScope N ps (defScope st)) (no : ∀ ss st Kp, ¬ p ss st Kp) : VFn P w K mg base (k + 1) x ps p := by
  obtain ⟨f, fd, F, b, g⟩ := Fd.ex
  exact ⟨f, fd, vac F S no, F.kp, b, g⟩
end
theorem at0 {x : D} {xs : List D} : atI (x :: xs) 0 = some x := atI_nat (j := 0) rfl
theorem at1 {x y : D} {xs : List D} : atI (x :: y :: xs) 1 = some y := atI_nat (j := 1) rfl
theorem at2 {x y z : D} {xs : List D} : atI (x :: y :: z :: xs) 2 = some z := atI_nat (j := 2) rfl
theorem at3 {x y z u : D} {xs : List D} : atI (x :: y :: z :: u :: xs) 3 = some u := atI_nat (j := 3) rfl
theorem ix20 : ixN 2 0 = some 0 := rfl
theorem ix21 : ixN 2 1 = some 1 := rfl
theorem map_inj' {α β : Type} {f : α → β} (h : ∀ x y, f x = f y → x = y) : ∀ {a b : List α}, a.map f = b.map f → a = b
  | [], [], _ => rfl
  | [], _ :: _, e => by simp at e
  | _ :: _, [], e => by simp at e
  | x :: a, y :: b, e => by
    simp only [List.map_cons, List.cons.injEq] at e
    rw [h _ _ e.1, map_inj' h e.2]
theorem ofs_inj (a b : String) : (Str.ofString a = Str.ofString b) = (a = b) := by
  refine propext ⟨fun h => ?_, fun h => by rw [h]⟩
  rw [Str.ofString_eq_toList, Str.ofString_eq_toList] at h
  have h1 : a.toList.map Char.toNat = b.toList.map Char.toNat := by
    have := congrArg (fun s => s.cps.toList) h
    simpa using this
  exact String.toList_inj.mp (map_inj' (fun x y e => Char.ext (UInt32.toNat_inj.mp e)) h1)
theorem ofs_app (a b : String) : Str.ofString a ++ Str.ofString b = Str.ofString (a ++ b) := by
  rw [Str.ofString_eq_toList, Str.ofString_eq_toList, Str.ofString_eq_toList, String.toList_append, List.map_append]
  show Str.mk _ = Str.mk _
  congr 1
  simp
theorem ofs_len (a : String) : (Str.ofString a).length = a.length := by
  rw [Str.ofString_eq_toList]
  show (a.toList.map Char.toNat).toArray.size = _
  simp [String.length_toList]
def okEq : D → D → Prop
  | .int _, .int _ => True
  | .str _, .str _ => True
  | d, c => shp d = true ∧ shp c = true
theorem okEq_of {d c : D} (h1 : shp d = true) (h2 : shp c = true) : okEq d c := by
  unfold okEq
  split <;> first | trivial | exact ⟨h1, h2⟩
def xEq (neg : Bool) (s1 s2 : Sl) (e : En) (Kp : KE) : Prop := match pk s1 e, pk s2 e with
  | some d, some c => okEq d c ∧ Kp (.val (.bool (if neg then !PyData.eqv d c else PyData.eqv d c))) e
  | _, _ => False
theorem xEq_of {neg : Bool} {s1 s2 : Sl} {e : En} {Kp : KE} (h : xEq neg s1 s2 e Kp) : opEq neg s1 s2 e Kp := by
  unfold xEq at h
  unfold opEq
  split at h
  · rename_i d c h1 h2
    rw [h1, h2]
    split
    · rename_i i j a1 a2
      cases a1
      cases a2
      have q := h.2
      have z : PyData.eqv (.int i) (.int j) = decide (i = j) := Bool.eq_iff_iff.mpr (by show (i == j) = true ↔ _; simp)
      rw [z] at q
      exact q
    · rename_i i j a1 a2
      cases a1
      cases a2
      have q := h.2
      have z : PyData.eqv (.str i) (.str j) = decide (i = j) := Bool.eq_iff_iff.mpr (by show (i == j) = true ↔ _; simp)
      rw [z] at q
      exact q
    · rename_i d' c' n1 n2 a1 a2
      cases a1
      cases a2
      have q := h.1
      unfold okEq at q
      split at q
      · exact absurd rfl (n1 _ _ rfl)
      · exact absurd rfl (n2 _ _ rfl)
      · exact ⟨q.1, q.2, h.2⟩
    · rename_i n1
      exact n1 _ _ rfl rfl
  · exact h.elim
theorem p_xeq {K : PySem.W.Frag} {neg : Bool} : Prim2 K (rEq2 K neg) (xEq neg) := fun rep a1 a2 ho fin => p_eq rep a1 a2 (xEq_of ho) fin
section
variable {X : Cx} {a b : Expr} {ta tb : VTE} {pos : Pos}
theorem ve_xeq (hu : X.A.units + 190 < cLine) (ha : VE X a ta) (hb : VE X b tb) (hm : behindInMarks .Eq b = false := by exact nomark _) : VE X (.Compare a [.Eq] [b] pos) (v2 (xEq false) ta tb) := ve_cmp p_xeq (op_eq2 hu) ha hb hm
theorem ve_xne (hu : X.A.units + 190 < cLine) (ha : VE X a ta) (hb : VE X b tb) (hm : behindInMarks .NotEq b = false := by exact nomark _) : VE X (.Compare a [.NotEq] [b] pos) (v2 (xEq true) ta tb) := ve_cmp p_xeq (op_ne2 hu) ha hb hm
theorem vt_xeq (hu : X.A.units + 190 < cLine) (ha : VE X a ta) (hb : VE X b tb) (hm : behindInMarks .Eq b = false := by exact nomark _) : VT X (.Compare a [.Eq] [b] pos) (vTest (v2 (xEq false) ta tb)) := vt_cmp p_xeq (op_eq2 hu) ha hb hm
theorem vt_xne (hu : X.A.units + 190 < cLine) (ha : VE X a ta) (hb : VE X b tb) (hm : behindInMarks .NotEq b = false := by exact nomark _) : VT X (.Compare a [.NotEq] [b] pos) (vTest (v2 (xEq true) ta tb)) := vt_cmp p_xeq (op_ne2 hu) ha hb hm
end
theorem okEq_str (a b : Str) : okEq (.str a) (.str b) = True := rfl
theorem okEq_int (a b : Int) : okEq (.int a) (.int b) = True := rfl
/-! data is equal just where it is the same -/
theorem eqv_str (a b : Str) : PyData.eqv (.str a) (.str b) = decide (a = b) := by
  show (a == b) = _
  exact Bool.eq_iff_iff.mpr (by simp)
theorem eqvAll_cons (a b : D) (as bs : List D) : PyData.eqvAll (a :: as) (b :: bs) = (PyData.eqv a b && PyData.eqvAll as bs) := by
  rw [PyData.eqvAll]
theorem eqvAll_nil : PyData.eqvAll [] [] = true := by rw [PyData.eqvAll]
theorem eqv_tup (as bs : List D) : PyData.eqv (.tuple as) (.tuple bs) = PyData.eqvAll as bs := by rw [PyData.eqv]
theorem eqvAll_nc (b : D) (bs : List D) : PyData.eqvAll [] (b :: bs) = false := by rw [PyData.eqvAll]
theorem eqvAll_cn (b : D) (bs : List D) : PyData.eqvAll (b :: bs) [] = false := by rw [PyData.eqvAll]
theorem depthAll_nil : PyData.depthAll [] = 0 := by rw [PyData.depthAll]
theorem depthAll_cons (x : D) (xs : List D) : PyData.depthAll (x :: xs) = max x.depth (PyData.depthAll xs) := by rw [PyData.depthAll]
theorem depth_tup (xs : List D) : PyData.depth (.tuple xs) = PyData.depthAll xs + 1 := by rw [PyData.depth]
theorem depth_lst (xs : List D) : PyData.depth (.list xs) = PyData.depthAll xs + 1 := by rw [PyData.depth]
theorem depth_str (x : Str) : PyData.depth (.str x) = 0 := by rw [PyData.depth]
theorem depth_int (x : Int) : PyData.depth (.int x) = 0 := by rw [PyData.depth]
theorem can_tup (xs : List D) : PyData.canLay0 (.tuple xs) = PyData.canLayAll0 xs := by rw [PyData.canLay0]
theorem can_lst (xs : List D) : PyData.canLay0 (.list xs) = PyData.canLayAll0 xs := by rw [PyData.canLay0]
theorem can_str (x : Str) : PyData.canLay0 (.str x) = PyData.strOk x := by rw [PyData.canLay0]
theorem can_int (x : Int) : PyData.canLay0 (.int x) = true := by rw [PyData.canLay0]
theorem canAll_nil : PyData.canLayAll0 [] = true := by rw [PyData.canLayAll0]
theorem canAll_cons (x : D) (xs : List D) : PyData.canLayAll0 (x :: xs) = (x.canLay0 && PyData.canLayAll0 xs) := by rw [PyData.canLayAll0]
theorem cut1 (x : D) (xs : List D) : Vl.cut (x :: xs) (some 1) none = xs := by
  unfold Vl.cut HT.sIx
  simp
theorem eqv_int (a b : Int) : PyData.eqv (.int a) (.int b) = decide (a = b) := by
  show (a == b) = _
  exact Bool.eq_iff_iff.mpr (by simp)
theorem sz0 : (0 ≤ sizeLine) = True := eq_true (by decide)
theorem sz1 : (1 ≤ sizeLine) = True := eq_true (by decide)
theorem sz2 : (2 ≤ sizeLine) = True := eq_true (by decide)
theorem sz3 : (3 ≤ sizeLine) = True := eq_true (by decide)
theorem sz4 : (4 ≤ sizeLine) = True := eq_true (by decide)
theorem sz5 : (5 ≤ sizeLine) = True := eq_true (by decide)
theorem sz6 : (6 ≤ sizeLine) = True := eq_true (by decide)
theorem sz7 : (7 ≤ sizeLine) = True := eq_true (by decide)
theorem sz8 : (8 ≤ sizeLine) = True := eq_true (by decide)
theorem sz9 : (9 ≤ sizeLine) = True := eq_true (by decide)
theorem sz10 : (10 ≤ sizeLine) = True := eq_true (by decide)
theorem sz11 : (11 ≤ sizeLine) = True := eq_true (by decide)
theorem sz12 : (12 ≤ sizeLine) = True := eq_true (by decide)
theorem sz13 : (13 ≤ sizeLine) = True := eq_true (by decide)
theorem sz14 : (14 ≤ sizeLine) = True := eq_true (by decide)
theorem sz15 : (15 ≤ sizeLine) = True := eq_true (by decide)
theorem sz16 : (16 ≤ sizeLine) = True := eq_true (by decide)
theorem sz17 : (17 ≤ sizeLine) = True := eq_true (by decide)
theorem sz18 : (18 ≤ sizeLine) = True := eq_true (by decide)
theorem sz19 : (19 ≤ sizeLine) = True := eq_true (by decide)
theorem sz20 : (20 ≤ sizeLine) = True := eq_true (by decide)
theorem sz21 : (21 ≤ sizeLine) = True := eq_true (by decide)
theorem sz22 : (22 ≤ sizeLine) = True := eq_true (by decide)
theorem sz23 : (23 ≤ sizeLine) = True := eq_true (by decide)
theorem sz24 : (24 ≤ sizeLine) = True := eq_true (by decide)
theorem sz25 : (25 ≤ sizeLine) = True := eq_true (by decide)
theorem cpow1018 : CPow 10 18 = True := eq_true ⟨by decide, by decide, by decide⟩
theorem cmul_l {i j : Int} (h : -(2 ^ 64) < i ∧ i < 2 ^ 64) : CMul i j := .inl h
theorem cmul_r {i j : Int} (h : -(2 ^ 64) < j ∧ j < 2 ^ 64) : CMul i j := .inr h
end Vl
namespace Kf
open PySem L2 Vl PySem.Spec PyProof.Rows
/-- a row of numbers that is drawn from: what is left of the cell, and a number -/
def PoolK (n : Int) : Prop := 0 ≤ n ∧ n < 2147483647
def pTake : VSp := fun ss st Kp => match ss, st with
  | [.obj 0, .val (.int m)], [[.int c, .int n]] => PoolK n ∧ 0 < m ∧ m < 1073741824 ∧ ∀ r c' n' : Int, 0 ≤ r → r < m → PoolK n' → Kp (.val (.int r)) [[.int c', .int n']]
  | _, _ => False
def pPool : VSp := fun ss st Kp => ∃ (ns : List Int) (k : Nat), ss = [.kn (ns.map .int), .val (.int (k : Int))] ∧ st = [] ∧ ns.length ≤ 63 ∧ k ≤ 63 ∧
  ∀ c n : Int, PoolK n → Kp (.obj 0) [[.int c, .int n]]
theorem nm_nat {x m : Int} (hm : 0 < m) : 0 ≤ x.fmod m ∧ x.fmod m < m := ⟨Int.fmod_nonneg_of_pos x hm, Int.fmod_lt_of_pos x hm⟩
theorem at_any {α : Type} {xs : List α} {r : Int} (h0 : 0 ≤ r) (h1 : r < xs.length) : ∃ x, atI xs r = some x ∧ x ∈ xs := by
  obtain ⟨j, rfl⟩ : ∃ j : Nat, r = j := ⟨r.toNat, by omega⟩
  have hj : j < xs.length := by omega
  exact ⟨xs[j], atI_nat (by simp [hj]), List.getElem_mem hj⟩
/-! kinds -/
inductive Kd where
  | mark (m : Str)
  | one
  | to (a b : Kd)
  | both (a b : Kd)
deriving DecidableEq
def Kd.enc : Kd → D
  | .mark m => .tuple [.str "mark", .str m]
  | .one => .tuple [.str "one"]
  | .to a b => .tuple [.str "to", a.enc, b.enc]
  | .both a b => .tuple [.str "both", a.enc, b.enc]
def Kd.leaves : Kd → Nat
  | .mark _ => 1
  | .one => 1
  | .to a b => a.leaves + b.leaves
  | .both a b => a.leaves + b.leaves
def Kd.over (ms : List Str) : Kd → Prop
  | .mark m => m ∈ ms
  | .one => True
  | .to a b => a.over ms ∧ b.over ms
  | .both a b => a.over ms ∧ b.over ms
theorem Kd.leaves_pos : ∀ k : Kd, 1 ≤ k.leaves
  | .mark _ => Nat.le_refl _
  | .one => Nat.le_refl _
  | .to a b => by
    have := a.leaves_pos
    simp only [Kd.leaves]
    omega
  | .both a b => by
    have := a.leaves_pos
    simp only [Kd.leaves]
    omega
def pKind (N : Nat) : VSp := fun ss st Kp => match ss, st with
  | [.obj 0, .val (.int l), .val (.list ds)], [[.int c, .int n]] => PoolK n ∧ 1 ≤ l ∧ l ≤ N ∧ l < 1000 ∧ ∃ ms : List Str, ds = ms.map .str ∧ 0 < ms.length ∧ ms.length < 1000 ∧
    ∀ (k : Kd) (c' n' : Int), (k.leaves : Int) = l → k.over ms → PoolK n' → Kp (.val k.enc) [[.int c', .int n']]
  | _, _ => False
theorem Kd.eqv_iff (a b : Kd) : PyData.eqv a.enc b.enc = true ↔ a = b := by
  induction a generalizing b with
  | mark m =>
    cases b <;> simp only [Kd.enc, eqv_tup, eqvAll_cons, eqvAll_nil, eqvAll_nc, eqvAll_cn, eqv_str, Bool.and_eq_true, decide_eq_true_eq, reduceCtorEq, Kd.mark.injEq, Bool.false_eq_true, and_false, and_true, iff_false, false_and]
    · exact ⟨fun h => h.2, fun h => ⟨by decide, h⟩⟩
  | one =>
    cases b <;> simp only [Kd.enc, eqv_tup, eqvAll_cons, eqvAll_nil, eqvAll_nc, eqvAll_cn, eqv_str, Bool.and_eq_true, decide_eq_true_eq, reduceCtorEq, Bool.false_eq_true, and_false, and_true]
  | to x y ihx ihy =>
    cases b <;> simp only [Kd.enc, eqv_tup, eqvAll_cons, eqvAll_nil, eqvAll_nc, eqvAll_cn, eqv_str, Bool.and_eq_true, decide_eq_true_eq, reduceCtorEq, Kd.to.injEq, Bool.false_eq_true, and_false, and_true, ihx, ihy, iff_false, false_and]
    · exact ⟨fun h => h.2, fun h => ⟨by decide, h⟩⟩
    · exact fun h => absurd h.1 (by decide)
  | both x y ihx ihy =>
    cases b <;> simp only [Kd.enc, eqv_tup, eqvAll_cons, eqvAll_nil, eqvAll_nc, eqvAll_cn, eqv_str, Bool.and_eq_true, decide_eq_true_eq, reduceCtorEq, Kd.both.injEq, Bool.false_eq_true, and_false, and_true, ihx, ihy, iff_false, false_and]
    · exact fun h => absurd h.1 (by decide)
    · exact ⟨fun h => h.2, fun h => ⟨by decide, h⟩⟩
theorem Kd.eqv [DecidableEq Kd] (a b : Kd) : PyData.eqv a.enc b.enc = decide (a = b) := Bool.eq_iff_iff.mpr (by rw [Kd.eqv_iff]; simp)
def Kd.deep : Kd → Nat
  | .mark _ => 0
  | .one => 0
  | .to a b => max a.deep b.deep + 1
  | .both a b => max a.deep b.deep + 1
theorem Kd.deep_lt : ∀ k : Kd, k.deep < k.leaves
  | .mark _ => Nat.lt_succ_self _
  | .one => Nat.lt_succ_self _
  | .to a b => by
    have h1 := a.deep_lt
    have h2 := b.deep_lt
    simp only [Kd.deep, Kd.leaves]
    omega
  | .both a b => by
    have h1 := a.deep_lt
    have h2 := b.deep_lt
    simp only [Kd.deep, Kd.leaves]
    omega
theorem Kd.depth_enc : ∀ k : Kd, k.enc.depth = k.deep + 1
  | .mark m => by simp only [Kd.enc, depth_tup, depthAll_cons, depthAll_nil, depth_str, Kd.deep]; rfl
  | .one => by simp only [Kd.enc, depth_tup, depthAll_cons, depthAll_nil, depth_str, Kd.deep]; rfl
  | .to a b => by
    simp only [Kd.enc, depth_tup, depthAll_cons, depthAll_nil, depth_str, Kd.deep, a.depth_enc, b.depth_enc]
    omega
  | .both a b => by
    simp only [Kd.enc, depth_tup, depthAll_cons, depthAll_nil, depth_str, Kd.deep, a.depth_enc, b.depth_enc]
    omega
theorem Kd.can_enc {ms : List Str} (hm : ∀ m ∈ ms, PyData.strOk m = true) : ∀ k : Kd, k.over ms → k.enc.canLay0 = true
  | .mark m, h => by
    simp only [Kd.enc, can_tup, canAll_cons, canAll_nil, can_str, Bool.and_eq_true]
    exact ⟨by decide +kernel, hm m h, trivial⟩
  | .one, h => by
    simp only [Kd.enc, can_tup, canAll_cons, canAll_nil, can_str, Bool.and_eq_true]
    exact ⟨by decide +kernel, trivial⟩
  | .to a b, h => by
    simp only [Kd.enc, can_tup, canAll_cons, canAll_nil, can_str, Bool.and_eq_true]
    exact ⟨by decide +kernel, a.can_enc hm h.1, b.can_enc hm h.2, trivial⟩
  | .both a b, h => by
    simp only [Kd.enc, can_tup, canAll_cons, canAll_nil, can_str, Bool.and_eq_true]
    exact ⟨by decide +kernel, a.can_enc hm h.1, b.can_enc hm h.2, trivial⟩
theorem Kd.shp {ms : List Str} (hm : ∀ m ∈ ms, PyData.strOk m = true) {k : Kd} (h : k.over ms) (hl : k.leaves ≤ 180) : Vl.shp k.enc = true := by
  unfold Vl.shp
  have := k.deep_lt
  rw [k.can_enc hm h, k.depth_enc, decide_eq_true (by omega)]
  rfl
/-! programs -/
inductive Pg where
  | name (x : Str)
  | take (x : Str) (k : Kd) (p : Pg)
  | give (p q : Pg)
  | pair (p q : Pg)
  | first (p : Pg)
  | second (p : Pg)
  | thing
def Pg.enc : Pg → D
  | .name x => .tuple [.str "name", .str x]
  | .take x k p => .tuple [.str "take", .str x, k.enc, p.enc]
  | .give p q => .tuple [.str "give", p.enc, q.enc]
  | .pair p q => .tuple [.str "pair", p.enc, q.enc]
  | .first p => .tuple [.str "first", p.enc]
  | .second p => .tuple [.str "second", p.enc]
  | .thing => .tuple [.str "thing"]
def Pg.size : Pg → Nat
  | .name _ => 1
  | .take _ _ p => p.size + 1
  | .give p q => p.size + q.size + 1
  | .pair p q => p.size + q.size + 1
  | .first p => p.size + 1
  | .second p => p.size + 1
  | .thing => 1
def Pg.deep : Pg → Nat
  | .name _ => 0
  | .take _ _ p => p.deep + 1
  | .give p q => max p.deep q.deep + 1
  | .pair p q => max p.deep q.deep + 1
  | .first p => p.deep + 1
  | .second p => p.deep + 1
  | .thing => 0
/-- a row of names with their kinds, the innermost last -/
def encB (r : Str × Kd) : D := .tuple [.str r.1, r.2.enc]
def look : List (Str × Kd) → Str → Option Kd
  | [], _ => none
  | (y, k) :: r, x => match look r x with
    | some l => some l
    | none => if y = x then some k else none
inductive HasK : List (Str × Kd) → Pg → Kd → Prop
  | name {r : List (Str × Kd)} {x : Str} {k : Kd} : look r x = some k → HasK r (.name x) k
  | take {r : List (Str × Kd)} {x : Str} {k l : Kd} {p : Pg} : HasK (r ++ [(x, k)]) p l → HasK r (.take x k p) (.to k l)
  | give {r : List (Str × Kd)} {k l : Kd} {p q : Pg} : HasK r p (.to k l) → HasK r q k → HasK r (.give p q) l
  | pair {r : List (Str × Kd)} {k l : Kd} {p q : Pg} : HasK r p k → HasK r q l → HasK r (.pair p q) (.both k l)
  | first {r : List (Str × Kd)} {k l : Kd} {p : Pg} : HasK r p (.both k l) → HasK r (.first p) k
  | second {r : List (Str × Kd)} {k l : Kd} {p : Pg} : HasK r p (.both k l) → HasK r (.second p) l
  | thing {r : List (Str × Kd)} : HasK r .thing .one
theorem look_app {r : List (Str × Kd)} {x y : Str} {k : Kd} : look (r ++ [(y, k)]) x = if y = x then some k else look r x := by
  induction r with
  | nil =>
    simp only [List.nil_append, look]
  | cons p r ih =>
    obtain ⟨z, l⟩ := p
    simp only [List.cons_append, look, ih]
    by_cases h : y = x <;> simp [h]
theorem look_mem {r : List (Str × Kd)} {x : Str} {k : Kd} (h : look r x = some k) : (x, k) ∈ r := by
  induction r with
  | nil => cases h
  | cons p r ih =>
    obtain ⟨z, l⟩ := p
    simp only [look] at h
    split at h
    · rename_i m hm
      cases h
      exact List.mem_cons_of_mem _ (ih hm)
    · split at h
      · rename_i hz
        cases h
        rw [hz]
        exact List.mem_cons_self
      · cases h
end Kf
namespace Kf
open PySem L2 Vl PySem.Spec PyProof.Rows
def top (i : Nat) : Stmt := PySem.Challenge.pw_kindfill_k14_step_places.main.body.getD i (.Pass ⟨0, 0, 0, 0⟩)
abbrev sprogramsin : Stmt := top 1
abbrev nprogramsin : List Str := ["part"]
theorem scprogramsin : FnScope nprogramsin ["part"] (defScope sprogramsin) := ⟨rfl, rfl, rfl, by decide +kernel, rfl, by decide +kernel, by decide +kernel⟩
def t_programsin_1 : VTS := (vRet (vN opLst vNil))
def t_programsin_2 : VTS := (vRet (vN opLst (vCons (v2 xIx (vVar 0) (vC (.int 3))) vNil)))
def t_programsin_3 : VTS := (vRet (vN opList (vCons (vSl opSl (vVar 0) (vPart (vC (.int 1))) vNoPart) vNil)))
def t_programsin_4 : VTS := vSeq (vIfS (vTest (v2 (xEq false) (v2 xIx (vVar 0) (vC (.int 0))) (vC (.str "take")))) (t_programsin_2) vNext) (t_programsin_3)
def t_programsin_5 : VTS := vSeq (vIfS (vTest (v2 (opIn3 false) (v2 xIx (vVar 0) (vC (.int 0))) (vN opTup (vCons (vC (.str "name")) (vCons (vC (.str "gap")) vNil))))) (t_programsin_1) vNext) (t_programsin_4)
def t_programsin : VTS := (t_programsin_5)
theorem bd_programsin {P : Program} {w : World} {K : PySem.W.Frag} {mg : Str → Option Value} {base : Heap} {k : Nat} (B : Blt mg) {f : Addr} {cdv : Value} {A : Around} {outer : List Env} {s : Shared} {H : Hp} {E : XK}
    (hr : Room k (A.deeper (envOfC "programs_in" (defScope sprogramsin) s.heap.objs.size f cdv))) : VSs (cxOf CX0 P w K mg base nprogramsin "programs_in" (defScope sprogramsin) f cdv A outer s H E).nox (defBody sprogramsin) (t_programsin) := by
  have hu := u190 hr
  have h : VSs (cxOf CX0 P w K mg base nprogramsin "programs_in" (defScope sprogramsin) f cdv A outer s H E).nox (defBody sprogramsin) (vSeq (vIfS (vTest (v2 (opIn3 false) (v2 xIx (vVar 0) (vC (.int 0))) (vN opTup (vCons (vC (.str "name")) (vCons (vC (.str "gap")) vNil))))) ((vRet (vN opLst vNil))) vNext) (vSeq (vIfS (vTest (v2 (xEq false) (v2 xIx (vVar 0) (vC (.int 0))) (vC (.str "take")))) ((vRet (vN opLst (vCons (v2 xIx (vVar 0) (vC (.int 3))) vNil)))) vNext) ((vRet (vN opList (vCons (vSl opSl (vVar 0) (vPart (vC (.int 1))) vNoPart) vNil)))))) := (vss_cons (vs_if (vt_in hu (ve_xix (vp 0) ve_int) (ve_tup (va_cons ve_str (va_cons ve_str va_nil)))) (vss_one (vs_ret (ve_lst va_nil))) vss_nil)
    (vss_cons (vs_if (vt_xeq hu (ve_xix (vp 0) ve_int) ve_str) (vss_one (vs_ret (ve_lst (va_cons (ve_xix (vp 0) ve_int) va_nil)))) vss_nil)
    (vss_one (vs_ret (ve_list rfl B.list (va_cons (ve_slice (vp 0) (vo_some ve_int) vo_none) va_nil))))))
  exact h
theorem ok_programsin {P : Program} {w : World} {K : PySem.W.Frag} {mg : Str → Option Value} {base : Heap} {k : Nat} {p : VSp} (Fd : Df K mg "programs_in" sprogramsin ["part"]) (B : Blt mg)
    (len : ∀ ss st Kp, p ss st Kp → ss.length = 1) (rd : ∀ ss cs Kp, p ss cs Kp → t_programsin (dV cs.length Kp) ⟨startV 1 ss, cs.map some⟩) : VFn P w K mg base (k + 1) "programs_in" ["part"] p :=
  okF Fd scprogramsin len (fun hr => bd_programsin B hr) rd
abbrev scanstep : Stmt := top 4
abbrev ncanstep : List Str := ["part"]
theorem sccanstep : FnScope ncanstep ["part"] (defScope scanstep) := ⟨rfl, rfl, rfl, by decide +kernel, rfl, by decide +kernel, by decide +kernel⟩
def t_canstep_1 : VTS := (vRet (v2 (xEq false) (v2 xIx (v2 xIx (vVar 0) (vC (.int 1))) (vC (.int 0))) (vC (.str "take"))))
def t_canstep_2 : VTS := (vRet (vAndV (v2 (opIn3 false) (v2 xIx (vVar 0) (vC (.int 0))) (vN opTup (vCons (vC (.str "first")) (vCons (vC (.str "second")) vNil)))) (v2 (xEq false) (v2 xIx (v2 xIx (vVar 0) (vC (.int 1))) (vC (.int 0))) (vC (.str "pair")))))
def t_canstep_3 : VTS := vSeq (vIfS (vTest (v2 (xEq false) (v2 xIx (vVar 0) (vC (.int 0))) (vC (.str "give")))) (t_canstep_1) vNext) (t_canstep_2)
def t_canstep : VTS := (t_canstep_3)
theorem bd_canstep {P : Program} {w : World} {K : PySem.W.Frag} {mg : Str → Option Value} {base : Heap} {k : Nat} {f : Addr} {cdv : Value} {A : Around} {outer : List Env} {s : Shared} {H : Hp} {E : XK}
    (hr : Room k (A.deeper (envOfC "can_step" (defScope scanstep) s.heap.objs.size f cdv))) : VSs (cxOf CX0 P w K mg base ncanstep "can_step" (defScope scanstep) f cdv A outer s H E).nox (defBody scanstep) (t_canstep) := by
  have hu := u190 hr
  have h : VSs (cxOf CX0 P w K mg base ncanstep "can_step" (defScope scanstep) f cdv A outer s H E).nox (defBody scanstep) (vSeq (vIfS (vTest (v2 (xEq false) (v2 xIx (vVar 0) (vC (.int 0))) (vC (.str "give")))) ((vRet (v2 (xEq false) (v2 xIx (v2 xIx (vVar 0) (vC (.int 1))) (vC (.int 0))) (vC (.str "take"))))) vNext) ((vRet (vAndV (v2 (opIn3 false) (v2 xIx (vVar 0) (vC (.int 0))) (vN opTup (vCons (vC (.str "first")) (vCons (vC (.str "second")) vNil)))) (v2 (xEq false) (v2 xIx (v2 xIx (vVar 0) (vC (.int 1))) (vC (.int 0))) (vC (.str "pair"))))))) := (vss_cons (vs_if (vt_xeq hu (ve_xix (vp 0) ve_int) ve_str) (vss_one (vs_ret (ve_xeq hu (ve_xix (ve_xix (vp 0) ve_int) ve_int) ve_str))) vss_nil)
    (vss_one (vs_ret (ve_and (ve_in3 hu (ve_xix (vp 0) ve_int) (ve_tup (va_cons ve_str (va_cons ve_str va_nil)))) (ve_one (ve_xeq hu (ve_xix (ve_xix (vp 0) ve_int) ve_int) ve_str))))))
  exact h
theorem ok_canstep {P : Program} {w : World} {K : PySem.W.Frag} {mg : Str → Option Value} {base : Heap} {k : Nat} {p : VSp} (Fd : Df K mg "can_step" scanstep ["part"])
    (len : ∀ ss st Kp, p ss st Kp → ss.length = 1) (rd : ∀ ss cs Kp, p ss cs Kp → t_canstep (dV cs.length Kp) ⟨startV 1 ss, cs.map some⟩) : VFn P w K mg base (k + 1) "can_step" ["part"] p :=
  okF Fd sccanstep len (fun hr => bd_canstep hr) rd
abbrev sLpool : Stmt := top 7
abbrev nLpool : List Str := ["_law_script", "_law_k", "_law_cell", "_law_number"]
theorem scLpool : FnScope nLpool ["_law_script", "_law_k"] (defScope sLpool) := ⟨rfl, rfl, rfl, by decide +kernel, rfl, by decide +kernel, by decide +kernel⟩
def t_Lpool_1 : VTS := (vSet 2 (v2 xIx (vVar 0) (vVar 1)))
def t_Lpool_2 : VTS := (vSet 2 (vC (.int 0)))
def t_Lpool_3 : VTS := (vRet (vN opLstO (vCons (vVar 2) (vCons (vVar 3) vNil))))
def t_Lpool_4 : VTS := vSeq (vIfS (vTest (v2 opLt (vVar 2) (v2 opPow (vC (.int 10)) (vC (.int 18))))) (t_Lpool_2) vNext) (t_Lpool_3)
def t_Lpool_5 : VTS := vSeq (vSet 3 (v2 opMod (v2 opPow (v2 opAdd (v2 opAdd (v2 opMod (vVar 2) (vC (.int 2147483629))) (v2 opMul2 (v2 opMul2 (vC (.int 104729)) (vVar 1)) (vVar 1))) (vC (.int 11))) (vC (.int 3))) (vC (.int 2147483647)))) (t_Lpool_4)
def t_Lpool_6 : VTS := vSeq (vIfS (vTest (v2 opLt (vVar 1) (vN opLen (vCons (vVar 0) vNil)))) (t_Lpool_1) vNext) (t_Lpool_5)
def t_Lpool_7 : VTS := vSeq (vSet 2 (vC (.int 0))) (t_Lpool_6)
def t_Lpool : VTS := (t_Lpool_7)
theorem bd_Lpool {P : Program} {w : World} {K : PySem.W.Frag} {mg : Str → Option Value} {base : Heap} {k : Nat} (B : Blt mg) {f : Addr} {cdv : Value} {A : Around} {outer : List Env} {s : Shared} {H : Hp} {E : XK}
    (hr : Room k (A.deeper (envOfC "_law_pool" (defScope sLpool) s.heap.objs.size f cdv))) : VSs (cxOf CX0 P w K mg base nLpool "_law_pool" (defScope sLpool) f cdv A outer s H E).nox (defBody sLpool) (t_Lpool) := by
  have h : VSs (cxOf CX0 P w K mg base nLpool "_law_pool" (defScope sLpool) f cdv A outer s H E).nox (defBody sLpool) (vSeq (vSet 2 (vC (.int 0))) (vSeq (vIfS (vTest (v2 opLt (vVar 1) (vN opLen (vCons (vVar 0) vNil)))) ((vSet 2 (v2 xIx (vVar 0) (vVar 1)))) vNext) (vSeq (vSet 3 (v2 opMod (v2 opPow (v2 opAdd (v2 opAdd (v2 opMod (vVar 2) (vC (.int 2147483629))) (v2 opMul2 (v2 opMul2 (vC (.int 104729)) (vVar 1)) (vVar 1))) (vC (.int 11))) (vC (.int 3))) (vC (.int 2147483647)))) (vSeq (vIfS (vTest (v2 opLt (vVar 2) (v2 opPow (vC (.int 10)) (vC (.int 18))))) ((vSet 2 (vC (.int 0)))) vNext) ((vRet (vN opLstO (vCons (vVar 2) (vCons (vVar 3) vNil))))))))) := (vss_cons (vs_set (i := 2) scLpool.nd rfl (Or.inl rfl) ve_int)
    (vss_cons (vs_if (vt_lt (vp 1) (ve_len rfl B.len (va_cons (vp 0) va_nil))) (vss_one (vs_set (i := 2) scLpool.nd rfl (Or.inl rfl) (ve_xix (vp 0) (vp 1)))) vss_nil)
    (vss_cons (vs_set (i := 3) scLpool.nd rfl (Or.inl rfl) (ve_mod (ve_pow (ve_add (ve_add (ve_mod (vp 2) ve_int) (ve_mul2 (ve_mul2 ve_int (vp 1)) (vp 1))) ve_int) ve_int) ve_int))
    (vss_cons (vs_if (vt_lt (vp 2) (ve_pow ve_int ve_int)) (vss_one (vs_set (i := 2) scLpool.nd rfl (Or.inl rfl) ve_int)) vss_nil)
    (vss_one (vs_ret (ve_lstO (va_cons (vp 2) (va_cons (vp 3) va_nil)))))))))
  exact h
theorem ok_Lpool {P : Program} {w : World} {K : PySem.W.Frag} {mg : Str → Option Value} {base : Heap} {k : Nat} {p : VSp} (Fd : Df K mg "_law_pool" sLpool ["_law_script", "_law_k"]) (B : Blt mg)
    (len : ∀ ss st Kp, p ss st Kp → ss.length = 2) (rd : ∀ ss cs Kp, p ss cs Kp → t_Lpool (dV cs.length Kp) ⟨startV 4 ss, cs.map some⟩) : VFn P w K mg base (k + 1) "_law_pool" ["_law_script", "_law_k"] p :=
  okF Fd scLpool len (fun hr => bd_Lpool B hr) rd
abbrev sLtake : Stmt := top 8
abbrev nLtake : List Str := ["_law_pool_here", "_law_many", "_law_found"]
theorem scLtake : FnScope nLtake ["_law_pool_here", "_law_many"] (defScope sLtake) := ⟨rfl, rfl, rfl, by decide +kernel, rfl, by decide +kernel, by decide +kernel⟩
def t_Ltake_1 : VTS := (vRet (vVar 2))
def t_Ltake_2 : VTS := vSeq (vAsg (v2 opDiv (v2 xIx (vVar 0) (vC (.int 0))) (vVar 1)) (xgSub (vVar 0) (vC (.int 0)))) (t_Ltake_1)
def t_Ltake_3 : VTS := vSeq (vSet 2 (v2 opMod (v2 xIx (vVar 0) (vC (.int 0))) (vVar 1))) (t_Ltake_2)
def t_Ltake_4 : VTS := (vRet (v2 opMod (v2 opDiv (v2 opMod (v2 opMul2 (v2 xIx (vVar 0) (vC (.int 1))) (v2 xIx (vVar 0) (vC (.int 1)))) (vC (.int 2147483629))) (vC (.int 64))) (vVar 1)))
def t_Ltake_5 : VTS := vSeq (vAsg (v2 opMod (v2 opAdd (v2 opMul2 (v2 xIx (vVar 0) (vC (.int 1))) (vC (.int 48271))) (vC (.int 11))) (vC (.int 2147483647))) (xgSub (vVar 0) (vC (.int 1)))) (t_Ltake_4)
def t_Ltake_6 : VTS := vSeq (vIfS (vTest (v2 opGt (v2 xIx (vVar 0) (vC (.int 0))) (vC (.int 0)))) (t_Ltake_3) vNext) (t_Ltake_5)
def t_Ltake : VTS := (t_Ltake_6)
theorem bd_Ltake {P : Program} {w : World} {K : PySem.W.Frag} {mg : Str → Option Value} {base : Heap} {k : Nat} {f : Addr} {cdv : Value} {A : Around} {outer : List Env} {s : Shared} {H : Hp} {E : XK}
    (hr : Room k (A.deeper (envOfC "_law_take" (defScope sLtake) s.heap.objs.size f cdv))) : VSs (cxOf CX0 P w K mg base nLtake "_law_take" (defScope sLtake) f cdv A outer s H E).nox (defBody sLtake) (t_Ltake) := by
  have h : VSs (cxOf CX0 P w K mg base nLtake "_law_take" (defScope sLtake) f cdv A outer s H E).nox (defBody sLtake) (vSeq (vIfS (vTest (v2 opGt (v2 xIx (vVar 0) (vC (.int 0))) (vC (.int 0)))) (vSeq (vSet 2 (v2 opMod (v2 xIx (vVar 0) (vC (.int 0))) (vVar 1))) (vSeq (vAsg (v2 opDiv (v2 xIx (vVar 0) (vC (.int 0))) (vVar 1)) (xgSub (vVar 0) (vC (.int 0)))) ((vRet (vVar 2))))) vNext) (vSeq (vAsg (v2 opMod (v2 opAdd (v2 opMul2 (v2 xIx (vVar 0) (vC (.int 1))) (vC (.int 48271))) (vC (.int 11))) (vC (.int 2147483647))) (xgSub (vVar 0) (vC (.int 1)))) ((vRet (v2 opMod (v2 opDiv (v2 opMod (v2 opMul2 (v2 xIx (vVar 0) (vC (.int 1))) (v2 xIx (vVar 0) (vC (.int 1)))) (vC (.int 2147483629))) (vC (.int 64))) (vVar 1)))))) := (vss_cons (vs_if (vt_gt (ve_xix (vp 0) ve_int) ve_int) (vss_cons (vs_set (i := 2) scLtake.nd rfl (Or.inl rfl) (ve_mod (ve_xix (vp 0) ve_int) (vp 1)))
      (vss_cons (vs_asg (ve_div (ve_xix (vp 0) ve_int) (vp 1)) (vg_xsub (mono_var 0) (mono_c _) (vp 0) ve_int (fun a b => pg_sub a b set_list)))
      (vss_one (vs_ret (vp 2))))) vss_nil)
    (vss_cons (vs_asg (ve_mod (ve_add (ve_mul2 (ve_xix (vp 0) ve_int) ve_int) ve_int) ve_int) (vg_xsub (mono_var 0) (mono_c _) (vp 0) ve_int (fun a b => pg_sub a b set_list)))
    (vss_one (vs_ret (ve_mod (ve_div (ve_mod (ve_mul2 (ve_xix (vp 0) ve_int) (ve_xix (vp 0) ve_int)) ve_int) ve_int) (vp 1))))))
  exact h
theorem ok_Ltake {P : Program} {w : World} {K : PySem.W.Frag} {mg : Str → Option Value} {base : Heap} {k : Nat} {p : VSp} (Fd : Df K mg "_law_take" sLtake ["_law_pool_here", "_law_many"])
    (len : ∀ ss st Kp, p ss st Kp → ss.length = 2) (rd : ∀ ss cs Kp, p ss cs Kp → t_Ltake (dV cs.length Kp) ⟨startV 3 ss, cs.map some⟩) : VFn P w K mg base (k + 1) "_law_take" ["_law_pool_here", "_law_many"] p :=
  okF Fd scLtake len (fun hr => bd_Ltake hr) rd
abbrev sLkind : Stmt := top 9
abbrev nLkind : List Str := ["_law_pool_here", "_law_leaves", "_law_marks", "_law_first", "_law_one", "_law_other"]
theorem scLkind : FnScope nLkind ["_law_pool_here", "_law_leaves", "_law_marks"] (defScope sLkind) := ⟨rfl, rfl, rfl, by decide +kernel, rfl, by decide +kernel, by decide +kernel⟩
def t_Lkind_1 (p_Ltake p_Lkind : VSp) : VTS := (vRet (vN opTup (vCons (vC (.str "one")) vNil)))
def t_Lkind_2 (p_Ltake p_Lkind : VSp) : VTS := (vRet (vN opTup (vCons (vC (.str "mark")) (vCons (v2 xIx (vVar 2) (vN (opCallK ownD p_Ltake) (vCons (vVar 0) (vCons (vN opLen (vCons (vVar 2) vNil)) vNil)))) vNil))))
def t_Lkind_3 (p_Ltake p_Lkind : VSp) : VTS := vSeq (vIfS (vTest (v2 (xEq false) (vN (opCallK ownD p_Ltake) (vCons (vVar 0) (vCons (vC (.int 6)) vNil))) (vC (.int 0)))) (t_Lkind_1 p_Ltake p_Lkind) vNext) (t_Lkind_2 p_Ltake p_Lkind)
def t_Lkind_4 (p_Ltake p_Lkind : VSp) : VTS := (vRet (vN opTup (vCons (v2 xIx (vN opLst (vCons (vC (.str "to")) (vCons (vC (.str "to")) (vCons (vC (.str "to")) (vCons (vC (.str "both")) vNil))))) (vN (opCallK ownD p_Ltake) (vCons (vVar 0) (vCons (vC (.int 4)) vNil)))) (vCons (vVar 4) (vCons (vVar 5) vNil)))))
def t_Lkind_5 (p_Ltake p_Lkind : VSp) : VTS := vSeq (vSet 5 (vN (opCallK ownD p_Lkind) (vCons (vVar 0) (vCons (v2 opSub (vVar 1) (vVar 3)) (vCons (vVar 2) vNil))))) (t_Lkind_4 p_Ltake p_Lkind)
def t_Lkind_6 (p_Ltake p_Lkind : VSp) : VTS := vSeq (vSet 4 (vN (opCallK ownD p_Lkind) (vCons (vVar 0) (vCons (vVar 3) (vCons (vVar 2) vNil))))) (t_Lkind_5 p_Ltake p_Lkind)
def t_Lkind_7 (p_Ltake p_Lkind : VSp) : VTS := vSeq (vSet 3 (v2 opAdd (vC (.int 1)) (vN (opCallK ownD p_Ltake) (vCons (vVar 0) (vCons (v2 opSub (vVar 1) (vC (.int 1))) vNil))))) (t_Lkind_6 p_Ltake p_Lkind)
def t_Lkind_8 (p_Ltake p_Lkind : VSp) : VTS := vSeq (vIfS (vTest (v2 (xEq false) (vVar 1) (vC (.int 1)))) (t_Lkind_3 p_Ltake p_Lkind) vNext) (t_Lkind_7 p_Ltake p_Lkind)
def t_Lkind (p_Ltake p_Lkind : VSp) : VTS := (t_Lkind_8 p_Ltake p_Lkind)
theorem bd_Lkind {P : Program} {w : World} {K : PySem.W.Frag} {mg : Str → Option Value} {base : Heap} {k : Nat} {k_Ltake : Nat} {p_Ltake : VSp} (G_Ltake : VFn P w K mg base k_Ltake "_law_take" ["_law_pool_here", "_law_many"] p_Ltake) (h_Ltake : k_Ltake ≤ k) {k_Lkind : Nat} {p_Lkind : VSp} (G_Lkind : VFn P w K mg base k_Lkind "_law_kind" ["_law_pool_here", "_law_leaves", "_law_marks"] p_Lkind) (h_Lkind : k_Lkind ≤ k) (B : Blt mg) {f : Addr} {cdv : Value} {A : Around} {outer : List Env} {s : Shared} {H : Hp} {E : XK}
    (hr : Room k (A.deeper (envOfC "_law_kind" (defScope sLkind) s.heap.objs.size f cdv))) : VSs (cxOf CX0 P w K mg base nLkind "_law_kind" (defScope sLkind) f cdv A outer s H E).nox (defBody sLkind) (t_Lkind p_Ltake p_Lkind) := by
  have hu := u190 hr
  have h : VSs (cxOf CX0 P w K mg base nLkind "_law_kind" (defScope sLkind) f cdv A outer s H E).nox (defBody sLkind) (vSeq (vIfS (vTest (v2 (xEq false) (vVar 1) (vC (.int 1)))) (vSeq (vIfS (vTest (v2 (xEq false) (vN (opCallK ownD p_Ltake) (vCons (vVar 0) (vCons (vC (.int 6)) vNil))) (vC (.int 0)))) ((vRet (vN opTup (vCons (vC (.str "one")) vNil)))) vNext) ((vRet (vN opTup (vCons (vC (.str "mark")) (vCons (v2 xIx (vVar 2) (vN (opCallK ownD p_Ltake) (vCons (vVar 0) (vCons (vN opLen (vCons (vVar 2) vNil)) vNil)))) vNil)))))) vNext) (vSeq (vSet 3 (v2 opAdd (vC (.int 1)) (vN (opCallK ownD p_Ltake) (vCons (vVar 0) (vCons (v2 opSub (vVar 1) (vC (.int 1))) vNil))))) (vSeq (vSet 4 (vN (opCallK ownD p_Lkind) (vCons (vVar 0) (vCons (vVar 3) (vCons (vVar 2) vNil))))) (vSeq (vSet 5 (vN (opCallK ownD p_Lkind) (vCons (vVar 0) (vCons (v2 opSub (vVar 1) (vVar 3)) (vCons (vVar 2) vNil))))) ((vRet (vN opTup (vCons (v2 xIx (vN opLst (vCons (vC (.str "to")) (vCons (vC (.str "to")) (vCons (vC (.str "to")) (vCons (vC (.str "both")) vNil))))) (vN (opCallK ownD p_Ltake) (vCons (vVar 0) (vCons (vC (.int 4)) vNil)))) (vCons (vVar 4) (vCons (vVar 5) vNil)))))))))) := (vss_cons (vs_if (vt_xeq hu (vp 1) ve_int) (vss_cons (vs_if (vt_xeq hu (ve_call finW_D G_Ltake hr h_Ltake rfl (va_cons (vp 0) (va_cons ve_int va_nil))) ve_int) (vss_one (vs_ret (ve_tup (va_cons ve_str va_nil)))) vss_nil)
      (vss_one (vs_ret (ve_tup (va_cons ve_str (va_cons (ve_xix (vp 2) (ve_call finW_D G_Ltake hr h_Ltake rfl (va_cons (vp 0) (va_cons (ve_len rfl B.len (va_cons (vp 2) va_nil)) va_nil)))) va_nil)))))) vss_nil)
    (vss_cons (vs_set (i := 3) scLkind.nd rfl (Or.inl rfl) (ve_add ve_int (ve_call finW_D G_Ltake hr h_Ltake rfl (va_cons (vp 0) (va_cons (ve_sub (vp 1) ve_int) va_nil)))))
    (vss_cons (vs_set (i := 4) scLkind.nd rfl (Or.inl rfl) (ve_call finW_D G_Lkind hr h_Lkind rfl (va_cons (vp 0) (va_cons (vp 3) (va_cons (vp 2) va_nil)))))
    (vss_cons (vs_set (i := 5) scLkind.nd rfl (Or.inl rfl) (ve_call finW_D G_Lkind hr h_Lkind rfl (va_cons (vp 0) (va_cons (ve_sub (vp 1) (vp 3)) (va_cons (vp 2) va_nil)))))
    (vss_one (vs_ret (ve_tup (va_cons (ve_xix (ve_lst (va_cons ve_str (va_cons ve_str (va_cons ve_str (va_cons ve_str va_nil))))) (ve_call finW_D G_Ltake hr h_Ltake rfl (va_cons (vp 0) (va_cons ve_int va_nil)))) (va_cons (vp 4) (va_cons (vp 5) va_nil))))))))))
  exact h
theorem ok_Lkind {P : Program} {w : World} {K : PySem.W.Frag} {mg : Str → Option Value} {base : Heap} {k : Nat} {p : VSp} (Fd : Df K mg "_law_kind" sLkind ["_law_pool_here", "_law_leaves", "_law_marks"]) {k_Ltake : Nat} {p_Ltake : VSp} (G_Ltake : VFn P w K mg base k_Ltake "_law_take" ["_law_pool_here", "_law_many"] p_Ltake) (h_Ltake : k_Ltake ≤ k) {k_Lkind : Nat} {p_Lkind : VSp} (G_Lkind : VFn P w K mg base k_Lkind "_law_kind" ["_law_pool_here", "_law_leaves", "_law_marks"] p_Lkind) (h_Lkind : k_Lkind ≤ k) (B : Blt mg)
    (len : ∀ ss st Kp, p ss st Kp → ss.length = 3) (rd : ∀ ss cs Kp, p ss cs Kp → t_Lkind p_Ltake p_Lkind (dV cs.length Kp) ⟨startV 6 ss, cs.map some⟩) : VFn P w K mg base (k + 1) "_law_kind" ["_law_pool_here", "_law_leaves", "_law_marks"] p :=
  okF Fd scLkind len (fun hr => bd_Lkind G_Ltake h_Ltake G_Lkind h_Lkind B hr) rd
abbrev sLrow : Stmt := top 10
abbrev nLrow : List Str := ["_law_row_here", "_law_mark"]
theorem scLrow : FnScope nLrow [] (defScope sLrow) := ⟨rfl, rfl, rfl, by decide +kernel, rfl, by decide +kernel, by decide +kernel⟩
def t_Lrow_1 : VTS := (vSet 0 (v2 opAdd (vVar 0) (vN opLst (vCons (vN opTup (vCons (v2 opAdd (vC (.str "p")) (vVar 1)) (vCons (vN opTup (vCons (vC (.str "mark")) (vCons (vVar 1) vNil))) vNil))) (vCons (vN opTup (vCons (v2 opAdd (vC (.str "f")) (vVar 1)) (vCons (vN opTup (vCons (vC (.str "to")) (vCons (vN opTup (vCons (vC (.str "mark")) (vCons (vVar 1) vNil))) (vCons (vN opTup (vCons (vC (.str "mark")) (vCons (vVar 1) vNil))) vNil)))) vNil))) vNil)))))
def t_Lrow_2 : VTS := (vRet (vVar 0))
def t_Lrow_3 : VTS := vSeq (vFor (vSeqI (vN opLst (vCons (vC (.str "a")) (vCons (vC (.str "b")) vNil)))) (vgName 1)
      (t_Lrow_1)) (t_Lrow_2)
def t_Lrow_4 : VTS := vSeq (vSet 0 (vN opLst vNil)) (t_Lrow_3)
def t_Lrow : VTS := (t_Lrow_4)
theorem bd_Lrow {P : Program} {w : World} {K : PySem.W.Frag} {mg : Str → Option Value} {base : Heap} {k : Nat} {f : Addr} {cdv : Value} {A : Around} {outer : List Env} {s : Shared} {H : Hp} {E : XK}
    (hr : Room k (A.deeper (envOfC "_law_row" (defScope sLrow) s.heap.objs.size f cdv))) : VSs (cxOf CX0 P w K mg base nLrow "_law_row" (defScope sLrow) f cdv A outer s H E).nox (defBody sLrow) (t_Lrow) := by
  have h : VSs (cxOf CX0 P w K mg base nLrow "_law_row" (defScope sLrow) f cdv A outer s H E).nox (defBody sLrow) (vSeq (vSet 0 (vN opLst vNil)) (vSeq (vFor (vSeqI (vN opLst (vCons (vC (.str "a")) (vCons (vC (.str "b")) vNil)))) (vgName 1)
      ((vSet 0 (v2 opAdd (vVar 0) (vN opLst (vCons (vN opTup (vCons (v2 opAdd (vC (.str "p")) (vVar 1)) (vCons (vN opTup (vCons (vC (.str "mark")) (vCons (vVar 1) vNil))) vNil))) (vCons (vN opTup (vCons (v2 opAdd (vC (.str "f")) (vVar 1)) (vCons (vN opTup (vCons (vC (.str "to")) (vCons (vN opTup (vCons (vC (.str "mark")) (vCons (vVar 1) vNil))) (vCons (vN opTup (vCons (vC (.str "mark")) (vCons (vVar 1) vNil))) vNil)))) vNil))) vNil))))))) ((vRet (vVar 0))))) := (vss_cons (vs_set (i := 0) scLrow.nd rfl (Or.inl rfl) (ve_lst va_nil))
    (vss_cons (vs_for (vi_list (ve_lst (va_cons ve_str (va_cons ve_str va_nil)))) (vg_name (i := 1) scLrow.nd rfl (Or.inl rfl))
      (vss_one (vs_set (i := 0) scLrow.nd rfl (Or.inl rfl) (ve_add (vp 0) (ve_lst (va_cons (ve_tup (va_cons (ve_add ve_str (vp 1)) (va_cons (ve_tup (va_cons ve_str (va_cons (vp 1) va_nil))) va_nil))) (va_cons (ve_tup (va_cons (ve_add ve_str (vp 1)) (va_cons (ve_tup (va_cons ve_str (va_cons (ve_tup (va_cons ve_str (va_cons (vp 1) va_nil))) (va_cons (ve_tup (va_cons ve_str (va_cons (vp 1) va_nil))) va_nil)))) va_nil))) va_nil)))))) (fun a b c => ps_for PassesOwn.never rfl a b c))
    (vss_one (vs_ret (vp 0)))))
  exact h
theorem ok_Lrow {P : Program} {w : World} {K : PySem.W.Frag} {mg : Str → Option Value} {base : Heap} {k : Nat} {p : VSp} (Fd : Df K mg "_law_row" sLrow [])
    (len : ∀ ss st Kp, p ss st Kp → ss.length = 0) (rd : ∀ ss cs Kp, p ss cs Kp → t_Lrow (dV cs.length Kp) ⟨startV 2 ss, cs.map some⟩) : VFn P w K mg base (k + 1) "_law_row" [] p :=
  okF Fd scLrow len (fun hr => bd_Lrow hr) rd
abbrev sLapart : Stmt := top 12
abbrev nLapart : List Str := ["_law_pool_here", "_law_known", "_law_kind_here", "_law_room", "_law_other", "_law_way", "_law_name", "_law_body", "_law_pair"]
theorem scLapart : FnScope nLapart ["_law_pool_here", "_law_known", "_law_kind_here", "_law_room"] (defScope sLapart) := ⟨rfl, rfl, rfl, by decide +kernel, rfl, by decide +kernel, by decide +kernel⟩
def t_Lapart_1 (p_Lkind p_Ltake p_Lprogram : VSp) : VTS := (vRet (vN opTup (vCons (vC (.str "give")) (vCons (vN opTup (vCons (vC (.str "take")) (vCons (vVar 6) (vCons (vVar 4) (vCons (vVar 7) vNil))))) (vCons (vN (opCallK ownD p_Lprogram) (vCons (vVar 0) (vCons (vVar 1) (vCons (vVar 4) (vCons (v2 opSub (vVar 3) (vC (.int 1))) vNil))))) vNil)))))
def t_Lapart_2 (p_Lkind p_Ltake p_Lprogram : VSp) : VTS := vSeq (vSet 7 (vN (opCallK ownD p_Lprogram) (vCons (vVar 0) (vCons (v2 opAdd (vVar 1) (vN opLst (vCons (vN opTup (vCons (vVar 6) (vCons (vVar 4) vNil))) vNil))) (vCons (vVar 2) (vCons (v2 opSub (vVar 3) (vC (.int 1))) vNil)))))) (t_Lapart_1 p_Lkind p_Ltake p_Lprogram)
def t_Lapart_3 (p_Lkind p_Ltake p_Lprogram : VSp) : VTS := vSeq (vSet 6 (v2 xIx (vN opLst (vCons (vC (.str "x0")) (vCons (vC (.str "x1")) (vCons (vC (.str "x2")) (vCons (vC (.str "y")) (vCons (vC (.str "z")) (vCons (vC (.str "x7")) vNil))))))) (vN (opCallK ownD p_Ltake) (vCons (vVar 0) (vCons (vC (.int 6)) vNil))))) (t_Lapart_2 p_Lkind p_Ltake p_Lprogram)
def t_Lapart_4 (p_Lkind p_Ltake p_Lprogram : VSp) : VTS := (vRet (vN opTup (vCons (vC (.str "first")) (vCons (vVar 8) vNil))))
def t_Lapart_5 (p_Lkind p_Ltake p_Lprogram : VSp) : VTS := vSeq (vSet 8 (vN opTup (vCons (vC (.str "pair")) (vCons (vN (opCallK ownD p_Lprogram) (vCons (vVar 0) (vCons (vVar 1) (vCons (vVar 2) (vCons (v2 opSub (vVar 3) (vC (.int 1))) vNil))))) (vCons (vN (opCallK ownD p_Lprogram) (vCons (vVar 0) (vCons (vVar 1) (vCons (vVar 4) (vCons (v2 opSub (vVar 3) (vC (.int 1))) vNil))))) vNil))))) (t_Lapart_4 p_Lkind p_Ltake p_Lprogram)
def t_Lapart_6 (p_Lkind p_Ltake p_Lprogram : VSp) : VTS := (vRet (vN opTup (vCons (vC (.str "second")) (vCons (vVar 8) vNil))))
def t_Lapart_7 (p_Lkind p_Ltake p_Lprogram : VSp) : VTS := vSeq (vSet 8 (vN opTup (vCons (vC (.str "pair")) (vCons (vN (opCallK ownD p_Lprogram) (vCons (vVar 0) (vCons (vVar 1) (vCons (vVar 4) (vCons (v2 opSub (vVar 3) (vC (.int 1))) vNil))))) (vCons (vN (opCallK ownD p_Lprogram) (vCons (vVar 0) (vCons (vVar 1) (vCons (vVar 2) (vCons (v2 opSub (vVar 3) (vC (.int 1))) vNil))))) vNil))))) (t_Lapart_6 p_Lkind p_Ltake p_Lprogram)
def t_Lapart_8 (p_Lkind p_Ltake p_Lprogram : VSp) : VTS := vSeq (vIfS (vTest (v2 (xEq false) (vVar 5) (vC (.int 2)))) (t_Lapart_5 p_Lkind p_Ltake p_Lprogram) vNext) (t_Lapart_7 p_Lkind p_Ltake p_Lprogram)
def t_Lapart_9 (p_Lkind p_Ltake p_Lprogram : VSp) : VTS := vSeq (vIfS (vTest (v2 opLt (vVar 5) (vC (.int 2)))) (t_Lapart_3 p_Lkind p_Ltake p_Lprogram) vNext) (t_Lapart_8 p_Lkind p_Ltake p_Lprogram)
def t_Lapart_10 (p_Lkind p_Ltake p_Lprogram : VSp) : VTS := vSeq (vSet 5 (vN (opCallK ownD p_Ltake) (vCons (vVar 0) (vCons (vC (.int 4)) vNil)))) (t_Lapart_9 p_Lkind p_Ltake p_Lprogram)
def t_Lapart_11 (p_Lkind p_Ltake p_Lprogram : VSp) : VTS := vSeq (vSet 4 (vN (opCallK ownD p_Lkind) (vCons (vVar 0) (vCons (v2 opAdd (vC (.int 1)) (vN (opCallK ownD p_Ltake) (vCons (vVar 0) (vCons (vC (.int 3)) vNil)))) (vCons (vN opLst (vCons (vC (.str "a")) (vCons (vC (.str "b")) vNil))) vNil))))) (t_Lapart_10 p_Lkind p_Ltake p_Lprogram)
def t_Lapart (p_Lkind p_Ltake p_Lprogram : VSp) : VTS := (t_Lapart_11 p_Lkind p_Ltake p_Lprogram)
theorem bd_Lapart {P : Program} {w : World} {K : PySem.W.Frag} {mg : Str → Option Value} {base : Heap} {k : Nat} {k_Lkind : Nat} {p_Lkind : VSp} (G_Lkind : VFn P w K mg base k_Lkind "_law_kind" ["_law_pool_here", "_law_leaves", "_law_marks"] p_Lkind) (h_Lkind : k_Lkind ≤ k) {k_Ltake : Nat} {p_Ltake : VSp} (G_Ltake : VFn P w K mg base k_Ltake "_law_take" ["_law_pool_here", "_law_many"] p_Ltake) (h_Ltake : k_Ltake ≤ k) {k_Lprogram : Nat} {p_Lprogram : VSp} (G_Lprogram : VFn P w K mg base k_Lprogram "_law_program" ["_law_pool_here", "_law_known", "_law_kind_here", "_law_room"] p_Lprogram) (h_Lprogram : k_Lprogram ≤ k) {f : Addr} {cdv : Value} {A : Around} {outer : List Env} {s : Shared} {H : Hp} {E : XK}
    (hr : Room k (A.deeper (envOfC "_law_apart" (defScope sLapart) s.heap.objs.size f cdv))) : VSs (cxOf CX0 P w K mg base nLapart "_law_apart" (defScope sLapart) f cdv A outer s H E).nox (defBody sLapart) (t_Lapart p_Lkind p_Ltake p_Lprogram) := by
  have hu := u190 hr
  have h : VSs (cxOf CX0 P w K mg base nLapart "_law_apart" (defScope sLapart) f cdv A outer s H E).nox (defBody sLapart) (vSeq (vSet 4 (vN (opCallK ownD p_Lkind) (vCons (vVar 0) (vCons (v2 opAdd (vC (.int 1)) (vN (opCallK ownD p_Ltake) (vCons (vVar 0) (vCons (vC (.int 3)) vNil)))) (vCons (vN opLst (vCons (vC (.str "a")) (vCons (vC (.str "b")) vNil))) vNil))))) (vSeq (vSet 5 (vN (opCallK ownD p_Ltake) (vCons (vVar 0) (vCons (vC (.int 4)) vNil)))) (vSeq (vIfS (vTest (v2 opLt (vVar 5) (vC (.int 2)))) (vSeq (vSet 6 (v2 xIx (vN opLst (vCons (vC (.str "x0")) (vCons (vC (.str "x1")) (vCons (vC (.str "x2")) (vCons (vC (.str "y")) (vCons (vC (.str "z")) (vCons (vC (.str "x7")) vNil))))))) (vN (opCallK ownD p_Ltake) (vCons (vVar 0) (vCons (vC (.int 6)) vNil))))) (vSeq (vSet 7 (vN (opCallK ownD p_Lprogram) (vCons (vVar 0) (vCons (v2 opAdd (vVar 1) (vN opLst (vCons (vN opTup (vCons (vVar 6) (vCons (vVar 4) vNil))) vNil))) (vCons (vVar 2) (vCons (v2 opSub (vVar 3) (vC (.int 1))) vNil)))))) ((vRet (vN opTup (vCons (vC (.str "give")) (vCons (vN opTup (vCons (vC (.str "take")) (vCons (vVar 6) (vCons (vVar 4) (vCons (vVar 7) vNil))))) (vCons (vN (opCallK ownD p_Lprogram) (vCons (vVar 0) (vCons (vVar 1) (vCons (vVar 4) (vCons (v2 opSub (vVar 3) (vC (.int 1))) vNil))))) vNil)))))))) vNext) (vSeq (vIfS (vTest (v2 (xEq false) (vVar 5) (vC (.int 2)))) (vSeq (vSet 8 (vN opTup (vCons (vC (.str "pair")) (vCons (vN (opCallK ownD p_Lprogram) (vCons (vVar 0) (vCons (vVar 1) (vCons (vVar 2) (vCons (v2 opSub (vVar 3) (vC (.int 1))) vNil))))) (vCons (vN (opCallK ownD p_Lprogram) (vCons (vVar 0) (vCons (vVar 1) (vCons (vVar 4) (vCons (v2 opSub (vVar 3) (vC (.int 1))) vNil))))) vNil))))) ((vRet (vN opTup (vCons (vC (.str "first")) (vCons (vVar 8) vNil)))))) vNext) (vSeq (vSet 8 (vN opTup (vCons (vC (.str "pair")) (vCons (vN (opCallK ownD p_Lprogram) (vCons (vVar 0) (vCons (vVar 1) (vCons (vVar 4) (vCons (v2 opSub (vVar 3) (vC (.int 1))) vNil))))) (vCons (vN (opCallK ownD p_Lprogram) (vCons (vVar 0) (vCons (vVar 1) (vCons (vVar 2) (vCons (v2 opSub (vVar 3) (vC (.int 1))) vNil))))) vNil))))) ((vRet (vN opTup (vCons (vC (.str "second")) (vCons (vVar 8) vNil)))))))))) := (vss_cons (vs_set (i := 4) scLapart.nd rfl (Or.inl rfl) (ve_call finW_D G_Lkind hr h_Lkind rfl (va_cons (vp 0) (va_cons (ve_add ve_int (ve_call finW_D G_Ltake hr h_Ltake rfl (va_cons (vp 0) (va_cons ve_int va_nil)))) (va_cons (ve_lst (va_cons ve_str (va_cons ve_str va_nil))) va_nil)))))
    (vss_cons (vs_set (i := 5) scLapart.nd rfl (Or.inl rfl) (ve_call finW_D G_Ltake hr h_Ltake rfl (va_cons (vp 0) (va_cons ve_int va_nil))))
    (vss_cons (vs_if (vt_lt (vp 5) ve_int) (vss_cons (vs_set (i := 6) scLapart.nd rfl (Or.inl rfl) (ve_xix (ve_lst (va_cons ve_str (va_cons ve_str (va_cons ve_str (va_cons ve_str (va_cons ve_str (va_cons ve_str va_nil))))))) (ve_call finW_D G_Ltake hr h_Ltake rfl (va_cons (vp 0) (va_cons ve_int va_nil)))))
      (vss_cons (vs_set (i := 7) scLapart.nd rfl (Or.inl rfl) (ve_call finW_D G_Lprogram hr h_Lprogram rfl (va_cons (vp 0) (va_cons (ve_add (vp 1) (ve_lst (va_cons (ve_tup (va_cons (vp 6) (va_cons (vp 4) va_nil))) va_nil))) (va_cons (vp 2) (va_cons (ve_sub (vp 3) ve_int) va_nil))))))
      (vss_one (vs_ret (ve_tup (va_cons ve_str (va_cons (ve_tup (va_cons ve_str (va_cons (vp 6) (va_cons (vp 4) (va_cons (vp 7) va_nil))))) (va_cons (ve_call finW_D G_Lprogram hr h_Lprogram rfl (va_cons (vp 0) (va_cons (vp 1) (va_cons (vp 4) (va_cons (ve_sub (vp 3) ve_int) va_nil))))) va_nil)))))))) vss_nil)
    (vss_cons (vs_if (vt_xeq hu (vp 5) ve_int) (vss_cons (vs_set (i := 8) scLapart.nd rfl (Or.inl rfl) (ve_tup (va_cons ve_str (va_cons (ve_call finW_D G_Lprogram hr h_Lprogram rfl (va_cons (vp 0) (va_cons (vp 1) (va_cons (vp 2) (va_cons (ve_sub (vp 3) ve_int) va_nil))))) (va_cons (ve_call finW_D G_Lprogram hr h_Lprogram rfl (va_cons (vp 0) (va_cons (vp 1) (va_cons (vp 4) (va_cons (ve_sub (vp 3) ve_int) va_nil))))) va_nil)))))
      (vss_one (vs_ret (ve_tup (va_cons ve_str (va_cons (vp 8) va_nil)))))) vss_nil)
    (vss_cons (vs_set (i := 8) scLapart.nd rfl (Or.inl rfl) (ve_tup (va_cons ve_str (va_cons (ve_call finW_D G_Lprogram hr h_Lprogram rfl (va_cons (vp 0) (va_cons (vp 1) (va_cons (vp 4) (va_cons (ve_sub (vp 3) ve_int) va_nil))))) (va_cons (ve_call finW_D G_Lprogram hr h_Lprogram rfl (va_cons (vp 0) (va_cons (vp 1) (va_cons (vp 2) (va_cons (ve_sub (vp 3) ve_int) va_nil))))) va_nil)))))
    (vss_one (vs_ret (ve_tup (va_cons ve_str (va_cons (vp 8) va_nil))))))))))
  exact h
theorem ok_Lapart {P : Program} {w : World} {K : PySem.W.Frag} {mg : Str → Option Value} {base : Heap} {k : Nat} {p : VSp} (Fd : Df K mg "_law_apart" sLapart ["_law_pool_here", "_law_known", "_law_kind_here", "_law_room"]) {k_Lkind : Nat} {p_Lkind : VSp} (G_Lkind : VFn P w K mg base k_Lkind "_law_kind" ["_law_pool_here", "_law_leaves", "_law_marks"] p_Lkind) (h_Lkind : k_Lkind ≤ k) {k_Ltake : Nat} {p_Ltake : VSp} (G_Ltake : VFn P w K mg base k_Ltake "_law_take" ["_law_pool_here", "_law_many"] p_Ltake) (h_Ltake : k_Ltake ≤ k) {k_Lprogram : Nat} {p_Lprogram : VSp} (G_Lprogram : VFn P w K mg base k_Lprogram "_law_program" ["_law_pool_here", "_law_known", "_law_kind_here", "_law_room"] p_Lprogram) (h_Lprogram : k_Lprogram ≤ k)
    (len : ∀ ss st Kp, p ss st Kp → ss.length = 4) (rd : ∀ ss cs Kp, p ss cs Kp → t_Lapart p_Lkind p_Ltake p_Lprogram (dV cs.length Kp) ⟨startV 9 ss, cs.map some⟩) : VFn P w K mg base (k + 1) "_law_apart" ["_law_pool_here", "_law_known", "_law_kind_here", "_law_room"] p :=
  okF Fd scLapart len (fun hr => bd_Lapart G_Lkind h_Lkind G_Ltake h_Ltake G_Lprogram h_Lprogram hr) rd
abbrev sLprogram : Stmt := top 13
abbrev nLprogram : List Str := ["_law_pool_here", "_law_known", "_law_kind_here", "_law_room", "_law_name", "_law_names_here", "_law_one", "_law_some", "_law_own"]
theorem scLprogram : FnScope nLprogram ["_law_pool_here", "_law_known", "_law_kind_here", "_law_room"] (defScope sLprogram) := ⟨rfl, rfl, rfl, by decide +kernel, rfl, by decide +kernel, by decide +kernel⟩
def t_Lprogram_1 (p_Lnames p_Ltake p_Lapart p_Lprogram : VSp) : VTS := (vRet (v2 xIx (vVar 5) (vN (opCallK ownD p_Ltake) (vCons (vVar 0) (vCons (vN opLen (vCons (vVar 5) vNil)) vNil)))))
def t_Lprogram_2 (p_Lnames p_Ltake p_Lapart p_Lprogram : VSp) : VTS := (vRet (vN (opCallK ownD p_Lapart) (vCons (vVar 0) (vCons (vVar 1) (vCons (vVar 2) (vCons (vVar 3) vNil))))))
def t_Lprogram_3 (p_Lnames p_Ltake p_Lapart p_Lprogram : VSp) : VTS := (vRet (vN opTup (vCons (vC (.str "take")) (vCons (vVar 4) (vCons (v2 xIx (vVar 2) (vC (.int 1))) (vCons (vN (opCallK ownD p_Lprogram) (vCons (vVar 0) (vCons (v2 opAdd (vVar 1) (vN opLst (vCons (vN opTup (vCons (vVar 4) (vCons (v2 xIx (vVar 2) (vC (.int 1))) vNil))) vNil))) (vCons (v2 xIx (vVar 2) (vC (.int 2))) (vCons (v2 opSub (vVar 3) (vC (.int 1))) vNil))))) vNil))))))
def t_Lprogram_4 (p_Lnames p_Ltake p_Lapart p_Lprogram : VSp) : VTS := vSeq (vSet 4 (v2 xIx (vN opLst (vCons (vC (.str "x0")) (vCons (vC (.str "x1")) (vCons (vC (.str "x2")) (vCons (vC (.str "y")) (vCons (vC (.str "z")) (vCons (vC (.str "x7")) vNil))))))) (vN (opCallK ownD p_Ltake) (vCons (vVar 0) (vCons (vC (.int 6)) vNil))))) (t_Lprogram_3 p_Lnames p_Ltake p_Lapart p_Lprogram)
def t_Lprogram_5 (p_Lnames p_Ltake p_Lapart p_Lprogram : VSp) : VTS := (vRet (vN opTup (vCons (vC (.str "pair")) (vCons (vVar 6) (vCons (vN (opCallK ownD p_Lprogram) (vCons (vVar 0) (vCons (vVar 1) (vCons (v2 xIx (vVar 2) (vC (.int 2))) (vCons (v2 opSub (vVar 3) (vC (.int 1))) vNil))))) vNil)))))
def t_Lprogram_6 (p_Lnames p_Ltake p_Lapart p_Lprogram : VSp) : VTS := vSeq (vSet 6 (vN (opCallK ownD p_Lprogram) (vCons (vVar 0) (vCons (vVar 1) (vCons (v2 xIx (vVar 2) (vC (.int 1))) (vCons (v2 opSub (vVar 3) (vC (.int 1))) vNil)))))) (t_Lprogram_5 p_Lnames p_Ltake p_Lapart p_Lprogram)
def t_Lprogram_7 (p_Lnames p_Ltake p_Lapart p_Lprogram : VSp) : VTS := (vRet (vN opTup (vCons (vC (.str "thing")) vNil)))
def t_Lprogram_8 (p_Lnames p_Ltake p_Lapart p_Lprogram : VSp) : VTS := (vRet (v2 xIx (vVar 7) (vN (opCallK ownD p_Ltake) (vCons (vVar 0) (vCons (vC (.int 2)) vNil)))))
def t_Lprogram_9 (p_Lnames p_Ltake p_Lapart p_Lprogram : VSp) : VTS := vSeq (vSet 7 (vN opLst (vCons (vN opTup (vCons (vC (.str "give")) (vCons (vN opTup (vCons (vC (.str "name")) (vCons (v2 opAdd (vC (.str "f")) (v2 xIx (vVar 2) (vC (.int 1)))) vNil))) (vCons (vN opTup (vCons (vC (.str "name")) (vCons (v2 opAdd (vC (.str "p")) (v2 xIx (vVar 2) (vC (.int 1)))) vNil))) vNil)))) (vCons (vN opTup (vCons (vC (.str "name")) (vCons (v2 opAdd (vC (.str "p")) (v2 xIx (vVar 2) (vC (.int 1)))) vNil))) vNil)))) (t_Lprogram_8 p_Lnames p_Ltake p_Lapart p_Lprogram)
def t_Lprogram_10 (p_Lnames p_Ltake p_Lapart p_Lprogram : VSp) : VTS := vSeq (vIfS (vTest (v2 (xEq false) (v2 xIx (vVar 2) (vC (.int 0))) (vC (.str "one")))) (t_Lprogram_7 p_Lnames p_Ltake p_Lapart p_Lprogram) vNext) (t_Lprogram_9 p_Lnames p_Ltake p_Lapart p_Lprogram)
def t_Lprogram_11 (p_Lnames p_Ltake p_Lapart p_Lprogram : VSp) : VTS := vSeq (vIfS (vTest (v2 (xEq false) (v2 xIx (vVar 2) (vC (.int 0))) (vC (.str "both")))) (t_Lprogram_6 p_Lnames p_Ltake p_Lapart p_Lprogram) vNext) (t_Lprogram_10 p_Lnames p_Ltake p_Lapart p_Lprogram)
def t_Lprogram_12 (p_Lnames p_Ltake p_Lapart p_Lprogram : VSp) : VTS := vSeq (vIfS (vTest (v2 (xEq false) (v2 xIx (vVar 2) (vC (.int 0))) (vC (.str "to")))) (t_Lprogram_4 p_Lnames p_Ltake p_Lapart p_Lprogram) vNext) (t_Lprogram_11 p_Lnames p_Ltake p_Lapart p_Lprogram)
def t_Lprogram_13 (p_Lnames p_Ltake p_Lapart p_Lprogram : VSp) : VTS := vSeq (vIfS (vAndT (vTest (v2 opGt (vVar 3) (vC (.int 0)))) (vTest (v2 opGt (vN (opCallK ownD p_Ltake) (vCons (vVar 0) (vCons (vC (.int 3)) vNil))) (vC (.int 0))))) (t_Lprogram_2 p_Lnames p_Ltake p_Lapart p_Lprogram) vNext) (t_Lprogram_12 p_Lnames p_Ltake p_Lapart p_Lprogram)
def t_Lprogram_14 (p_Lnames p_Ltake p_Lapart p_Lprogram : VSp) : VTS := vSeq (vIfS (vAndT (vTest (v2 (xEq true) (vVar 5) (vN opLst vNil))) (vOrT (vTest (v2 opLt (vVar 3) (vC (.int 1)))) (vTest (v2 (xEq false) (vN (opCallK ownD p_Ltake) (vCons (vVar 0) (vCons (vC (.int 3)) vNil))) (vC (.int 0)))))) (t_Lprogram_1 p_Lnames p_Ltake p_Lapart p_Lprogram) vNext) (t_Lprogram_13 p_Lnames p_Ltake p_Lapart p_Lprogram)
def t_Lprogram_15 (p_Lnames p_Ltake p_Lapart p_Lprogram : VSp) : VTS := vSeq (vSet 5 (vLcK (vSeqI (vN (opCallK ownD p_Lnames) (vCons (vVar 1) vNil))) (vgTup 2 (vgCons (vgName 4) (vgCons (vgName 8) vgNil))) (vTest (v2 (xEq false) (vVar 8) (vVar 2))) (vN opTup (vCons (vC (.str "name")) (vCons (vVar 4) vNil))) [4, 8] finD)) (t_Lprogram_14 p_Lnames p_Ltake p_Lapart p_Lprogram)
def t_Lprogram (p_Lnames p_Ltake p_Lapart p_Lprogram : VSp) : VTS := (t_Lprogram_15 p_Lnames p_Ltake p_Lapart p_Lprogram)
theorem bd_Lprogram {P : Program} {w : World} {K : PySem.W.Frag} {mg : Str → Option Value} {base : Heap} {k : Nat} {k_Lnames : Nat} {p_Lnames : VSp} (G_Lnames : VFn P w K mg base k_Lnames "_law_names" ["_law_known"] p_Lnames) (h_Lnames : k_Lnames ≤ k) {k_Ltake : Nat} {p_Ltake : VSp} (G_Ltake : VFn P w K mg base k_Ltake "_law_take" ["_law_pool_here", "_law_many"] p_Ltake) (h_Ltake : k_Ltake ≤ k) {k_Lapart : Nat} {p_Lapart : VSp} (G_Lapart : VFn P w K mg base k_Lapart "_law_apart" ["_law_pool_here", "_law_known", "_law_kind_here", "_law_room"] p_Lapart) (h_Lapart : k_Lapart ≤ k) {k_Lprogram : Nat} {p_Lprogram : VSp} (G_Lprogram : VFn P w K mg base k_Lprogram "_law_program" ["_law_pool_here", "_law_known", "_law_kind_here", "_law_room"] p_Lprogram) (h_Lprogram : k_Lprogram ≤ k) (B : Blt mg) {f : Addr} {cdv : Value} {A : Around} {outer : List Env} {s : Shared} {H : Hp} {E : XK}
    (hr : Room k (A.deeper (envOfC "_law_program" (defScope sLprogram) s.heap.objs.size f cdv))) : VSs (cxOf CX0 P w K mg base nLprogram "_law_program" (defScope sLprogram) f cdv A outer s H E).nox (defBody sLprogram) (t_Lprogram p_Lnames p_Ltake p_Lapart p_Lprogram) := by
  have hu := u190 hr
  have h : VSs (cxOf CX0 P w K mg base nLprogram "_law_program" (defScope sLprogram) f cdv A outer s H E).nox (defBody sLprogram) (vSeq (vSet 5 (vLcK (vSeqI (vN (opCallK ownD p_Lnames) (vCons (vVar 1) vNil))) (vgTup 2 (vgCons (vgName 4) (vgCons (vgName 8) vgNil))) (vTest (v2 (xEq false) (vVar 8) (vVar 2))) (vN opTup (vCons (vC (.str "name")) (vCons (vVar 4) vNil))) [4, 8] finD)) (vSeq (vIfS (vAndT (vTest (v2 (xEq true) (vVar 5) (vN opLst vNil))) (vOrT (vTest (v2 opLt (vVar 3) (vC (.int 1)))) (vTest (v2 (xEq false) (vN (opCallK ownD p_Ltake) (vCons (vVar 0) (vCons (vC (.int 3)) vNil))) (vC (.int 0)))))) ((vRet (v2 xIx (vVar 5) (vN (opCallK ownD p_Ltake) (vCons (vVar 0) (vCons (vN opLen (vCons (vVar 5) vNil)) vNil)))))) vNext) (vSeq (vIfS (vAndT (vTest (v2 opGt (vVar 3) (vC (.int 0)))) (vTest (v2 opGt (vN (opCallK ownD p_Ltake) (vCons (vVar 0) (vCons (vC (.int 3)) vNil))) (vC (.int 0))))) ((vRet (vN (opCallK ownD p_Lapart) (vCons (vVar 0) (vCons (vVar 1) (vCons (vVar 2) (vCons (vVar 3) vNil))))))) vNext) (vSeq (vIfS (vTest (v2 (xEq false) (v2 xIx (vVar 2) (vC (.int 0))) (vC (.str "to")))) (vSeq (vSet 4 (v2 xIx (vN opLst (vCons (vC (.str "x0")) (vCons (vC (.str "x1")) (vCons (vC (.str "x2")) (vCons (vC (.str "y")) (vCons (vC (.str "z")) (vCons (vC (.str "x7")) vNil))))))) (vN (opCallK ownD p_Ltake) (vCons (vVar 0) (vCons (vC (.int 6)) vNil))))) ((vRet (vN opTup (vCons (vC (.str "take")) (vCons (vVar 4) (vCons (v2 xIx (vVar 2) (vC (.int 1))) (vCons (vN (opCallK ownD p_Lprogram) (vCons (vVar 0) (vCons (v2 opAdd (vVar 1) (vN opLst (vCons (vN opTup (vCons (vVar 4) (vCons (v2 xIx (vVar 2) (vC (.int 1))) vNil))) vNil))) (vCons (v2 xIx (vVar 2) (vC (.int 2))) (vCons (v2 opSub (vVar 3) (vC (.int 1))) vNil))))) vNil)))))))) vNext) (vSeq (vIfS (vTest (v2 (xEq false) (v2 xIx (vVar 2) (vC (.int 0))) (vC (.str "both")))) (vSeq (vSet 6 (vN (opCallK ownD p_Lprogram) (vCons (vVar 0) (vCons (vVar 1) (vCons (v2 xIx (vVar 2) (vC (.int 1))) (vCons (v2 opSub (vVar 3) (vC (.int 1))) vNil)))))) ((vRet (vN opTup (vCons (vC (.str "pair")) (vCons (vVar 6) (vCons (vN (opCallK ownD p_Lprogram) (vCons (vVar 0) (vCons (vVar 1) (vCons (v2 xIx (vVar 2) (vC (.int 2))) (vCons (v2 opSub (vVar 3) (vC (.int 1))) vNil))))) vNil))))))) vNext) (vSeq (vIfS (vTest (v2 (xEq false) (v2 xIx (vVar 2) (vC (.int 0))) (vC (.str "one")))) ((vRet (vN opTup (vCons (vC (.str "thing")) vNil)))) vNext) (vSeq (vSet 7 (vN opLst (vCons (vN opTup (vCons (vC (.str "give")) (vCons (vN opTup (vCons (vC (.str "name")) (vCons (v2 opAdd (vC (.str "f")) (v2 xIx (vVar 2) (vC (.int 1)))) vNil))) (vCons (vN opTup (vCons (vC (.str "name")) (vCons (v2 opAdd (vC (.str "p")) (v2 xIx (vVar 2) (vC (.int 1)))) vNil))) vNil)))) (vCons (vN opTup (vCons (vC (.str "name")) (vCons (v2 opAdd (vC (.str "p")) (v2 xIx (vVar 2) (vC (.int 1)))) vNil))) vNil)))) ((vRet (v2 xIx (vVar 7) (vN (opCallK ownD p_Ltake) (vCons (vVar 0) (vCons (vC (.int 2)) vNil))))))))))))) := (vss_cons (vs_setLcK (i := 5) (own := [("_law_name", 4), ("_law_own", 8)]) finD_ok rfl scLprogram.nd rfl rfl (sw_true rfl rfl rfl (by decide +kernel)) (vi_list (ve_call finW_D G_Lnames hr h_Lnames rfl (va_cons (vp 1) va_nil))) (blkOk_by (N := nLprogram) (sc := defScope sLprogram) (own := [("_law_name", 4), ("_law_own", 8)]) (by decide +kernel)) (by decide) (fun _ _ _ _ _ => (vg_tup rfl (vgs_cons (vg_name (i := 4) scLprogram.nd rfl (Or.inl rfl)) (vgs_cons (vg_name (i := 8) scLprogram.nd rfl (Or.inl rfl)) vgs_nil)))) (fun _ _ _ _ _ => (vts_one (vt_xeq hu (vp 8) (vp 2)))) (fun _ _ _ _ _ => (ve_tup (va_cons ve_str (va_cons (vp 4) va_nil)))))
    (vss_cons (vs_if (VW.vt (vw_and (vt_xne hu (vp 5) (ve_lst va_nil)) (vw_and1 (VW.vt (vw_or (vt_lt (vp 3) ve_int) (vw_or1 (vt_xeq hu (ve_call finW_D G_Ltake hr h_Ltake rfl (va_cons (vp 0) (va_cons ve_int va_nil))) ve_int))))))) (vss_one (vs_ret (ve_xix (vp 5) (ve_call finW_D G_Ltake hr h_Ltake rfl (va_cons (vp 0) (va_cons (ve_len rfl B.len (va_cons (vp 5) va_nil)) va_nil)))))) vss_nil)
    (vss_cons (vs_if (VW.vt (vw_and (vt_gt (vp 3) ve_int) (vw_and1 (vt_gt (ve_call finW_D G_Ltake hr h_Ltake rfl (va_cons (vp 0) (va_cons ve_int va_nil))) ve_int)))) (vss_one (vs_ret (ve_call finW_D G_Lapart hr h_Lapart rfl (va_cons (vp 0) (va_cons (vp 1) (va_cons (vp 2) (va_cons (vp 3) va_nil))))))) vss_nil)
    (vss_cons (vs_if (vt_xeq hu (ve_xix (vp 2) ve_int) ve_str) (vss_cons (vs_set (i := 4) scLprogram.nd rfl (Or.inl rfl) (ve_xix (ve_lst (va_cons ve_str (va_cons ve_str (va_cons ve_str (va_cons ve_str (va_cons ve_str (va_cons ve_str va_nil))))))) (ve_call finW_D G_Ltake hr h_Ltake rfl (va_cons (vp 0) (va_cons ve_int va_nil)))))
      (vss_one (vs_ret (ve_tup (va_cons ve_str (va_cons (vp 4) (va_cons (ve_xix (vp 2) ve_int) (va_cons (ve_call finW_D G_Lprogram hr h_Lprogram rfl (va_cons (vp 0) (va_cons (ve_add (vp 1) (ve_lst (va_cons (ve_tup (va_cons (vp 4) (va_cons (ve_xix (vp 2) ve_int) va_nil))) va_nil))) (va_cons (ve_xix (vp 2) ve_int) (va_cons (ve_sub (vp 3) ve_int) va_nil))))) va_nil)))))))) vss_nil)
    (vss_cons (vs_if (vt_xeq hu (ve_xix (vp 2) ve_int) ve_str) (vss_cons (vs_set (i := 6) scLprogram.nd rfl (Or.inl rfl) (ve_call finW_D G_Lprogram hr h_Lprogram rfl (va_cons (vp 0) (va_cons (vp 1) (va_cons (ve_xix (vp 2) ve_int) (va_cons (ve_sub (vp 3) ve_int) va_nil))))))
      (vss_one (vs_ret (ve_tup (va_cons ve_str (va_cons (vp 6) (va_cons (ve_call finW_D G_Lprogram hr h_Lprogram rfl (va_cons (vp 0) (va_cons (vp 1) (va_cons (ve_xix (vp 2) ve_int) (va_cons (ve_sub (vp 3) ve_int) va_nil))))) va_nil))))))) vss_nil)
    (vss_cons (vs_if (vt_xeq hu (ve_xix (vp 2) ve_int) ve_str) (vss_one (vs_ret (ve_tup (va_cons ve_str va_nil)))) vss_nil)
    (vss_cons (vs_set (i := 7) scLprogram.nd rfl (Or.inl rfl) (ve_lst (va_cons (ve_tup (va_cons ve_str (va_cons (ve_tup (va_cons ve_str (va_cons (ve_add ve_str (ve_xix (vp 2) ve_int)) va_nil))) (va_cons (ve_tup (va_cons ve_str (va_cons (ve_add ve_str (ve_xix (vp 2) ve_int)) va_nil))) va_nil)))) (va_cons (ve_tup (va_cons ve_str (va_cons (ve_add ve_str (ve_xix (vp 2) ve_int)) va_nil))) va_nil))))
    (vss_one (vs_ret (ve_xix (vp 7) (ve_call finW_D G_Ltake hr h_Ltake rfl (va_cons (vp 0) (va_cons ve_int va_nil)))))))))))))
  exact h
theorem ok_Lprogram {P : Program} {w : World} {K : PySem.W.Frag} {mg : Str → Option Value} {base : Heap} {k : Nat} {p : VSp} (Fd : Df K mg "_law_program" sLprogram ["_law_pool_here", "_law_known", "_law_kind_here", "_law_room"]) {k_Lnames : Nat} {p_Lnames : VSp} (G_Lnames : VFn P w K mg base k_Lnames "_law_names" ["_law_known"] p_Lnames) (h_Lnames : k_Lnames ≤ k) {k_Ltake : Nat} {p_Ltake : VSp} (G_Ltake : VFn P w K mg base k_Ltake "_law_take" ["_law_pool_here", "_law_many"] p_Ltake) (h_Ltake : k_Ltake ≤ k) {k_Lapart : Nat} {p_Lapart : VSp} (G_Lapart : VFn P w K mg base k_Lapart "_law_apart" ["_law_pool_here", "_law_known", "_law_kind_here", "_law_room"] p_Lapart) (h_Lapart : k_Lapart ≤ k) {k_Lprogram : Nat} {p_Lprogram : VSp} (G_Lprogram : VFn P w K mg base k_Lprogram "_law_program" ["_law_pool_here", "_law_known", "_law_kind_here", "_law_room"] p_Lprogram) (h_Lprogram : k_Lprogram ≤ k) (B : Blt mg)
    (len : ∀ ss st Kp, p ss st Kp → ss.length = 4) (rd : ∀ ss cs Kp, p ss cs Kp → t_Lprogram p_Lnames p_Ltake p_Lapart p_Lprogram (dV cs.length Kp) ⟨startV 9 ss, cs.map some⟩) : VFn P w K mg base (k + 1) "_law_program" ["_law_pool_here", "_law_known", "_law_kind_here", "_law_room"] p :=
  okF Fd scLprogram len (fun hr => bd_Lprogram G_Lnames h_Lnames G_Ltake h_Ltake G_Lapart h_Lapart G_Lprogram h_Lprogram B hr) rd
abbrev sLinner : Stmt := top 14
abbrev nLinner : List Str := ["_law_program_here"]
theorem scLinner : FnScope nLinner ["_law_program_here"] (defScope sLinner) := ⟨rfl, rfl, rfl, by decide +kernel, rfl, by decide +kernel, by decide +kernel⟩
def t_Linner_1 : VTS := (vRet (vN opLst (vCons (v2 xIx (vVar 0) (vC (.int 3))) vNil)))
def t_Linner_2 : VTS := (vRet (vN opList (vCons (vSl opSl (vVar 0) (vPart (vC (.int 1))) vNoPart) vNil)))
def t_Linner_3 : VTS := (vRet (vN opLst vNil))
def t_Linner_4 : VTS := vSeq (vIfS (vTest (v2 (opIn3 false) (v2 xIx (vVar 0) (vC (.int 0))) (vN opTup (vCons (vC (.str "give")) (vCons (vC (.str "pair")) (vCons (vC (.str "first")) (vCons (vC (.str "second")) vNil))))))) (t_Linner_2) vNext) (t_Linner_3)
def t_Linner_5 : VTS := vSeq (vIfS (vTest (v2 (xEq false) (v2 xIx (vVar 0) (vC (.int 0))) (vC (.str "take")))) (t_Linner_1) vNext) (t_Linner_4)
def t_Linner : VTS := (t_Linner_5)
theorem bd_Linner {P : Program} {w : World} {K : PySem.W.Frag} {mg : Str → Option Value} {base : Heap} {k : Nat} (B : Blt mg) {f : Addr} {cdv : Value} {A : Around} {outer : List Env} {s : Shared} {H : Hp} {E : XK}
    (hr : Room k (A.deeper (envOfC "_law_inner" (defScope sLinner) s.heap.objs.size f cdv))) : VSs (cxOf CX0 P w K mg base nLinner "_law_inner" (defScope sLinner) f cdv A outer s H E).nox (defBody sLinner) (t_Linner) := by
  have hu := u190 hr
  have h : VSs (cxOf CX0 P w K mg base nLinner "_law_inner" (defScope sLinner) f cdv A outer s H E).nox (defBody sLinner) (vSeq (vIfS (vTest (v2 (xEq false) (v2 xIx (vVar 0) (vC (.int 0))) (vC (.str "take")))) ((vRet (vN opLst (vCons (v2 xIx (vVar 0) (vC (.int 3))) vNil)))) vNext) (vSeq (vIfS (vTest (v2 (opIn3 false) (v2 xIx (vVar 0) (vC (.int 0))) (vN opTup (vCons (vC (.str "give")) (vCons (vC (.str "pair")) (vCons (vC (.str "first")) (vCons (vC (.str "second")) vNil))))))) ((vRet (vN opList (vCons (vSl opSl (vVar 0) (vPart (vC (.int 1))) vNoPart) vNil)))) vNext) ((vRet (vN opLst vNil))))) := (vss_cons (vs_if (vt_xeq hu (ve_xix (vp 0) ve_int) ve_str) (vss_one (vs_ret (ve_lst (va_cons (ve_xix (vp 0) ve_int) va_nil)))) vss_nil)
    (vss_cons (vs_if (vt_in hu (ve_xix (vp 0) ve_int) (ve_tup (va_cons ve_str (va_cons ve_str (va_cons ve_str (va_cons ve_str va_nil)))))) (vss_one (vs_ret (ve_list rfl B.list (va_cons (ve_slice (vp 0) (vo_some ve_int) vo_none) va_nil)))) vss_nil)
    (vss_one (vs_ret (ve_lst va_nil)))))
  exact h
theorem ok_Linner {P : Program} {w : World} {K : PySem.W.Frag} {mg : Str → Option Value} {base : Heap} {k : Nat} {p : VSp} (Fd : Df K mg "_law_inner" sLinner ["_law_program_here"]) (B : Blt mg)
    (len : ∀ ss st Kp, p ss st Kp → ss.length = 1) (rd : ∀ ss cs Kp, p ss cs Kp → t_Linner (dV cs.length Kp) ⟨startV 1 ss, cs.map some⟩) : VFn P w K mg base (k + 1) "_law_inner" ["_law_program_here"] p :=
  okF Fd scLinner len (fun hr => bd_Linner B hr) rd
abbrev sLcan : Stmt := top 15
abbrev nLcan : List Str := ["_law_part"]
theorem scLcan : FnScope nLcan ["_law_part"] (defScope sLcan) := ⟨rfl, rfl, rfl, by decide +kernel, rfl, by decide +kernel, by decide +kernel⟩
def t_Lcan_1 : VTS := (vRet (v2 (xEq false) (v2 xIx (v2 xIx (vVar 0) (vC (.int 1))) (vC (.int 0))) (vC (.str "take"))))
def t_Lcan_2 : VTS := (vRet (vAndV (v2 (opIn3 false) (v2 xIx (vVar 0) (vC (.int 0))) (vN opTup (vCons (vC (.str "first")) (vCons (vC (.str "second")) vNil)))) (v2 (xEq false) (v2 xIx (v2 xIx (vVar 0) (vC (.int 1))) (vC (.int 0))) (vC (.str "pair")))))
def t_Lcan_3 : VTS := vSeq (vIfS (vTest (v2 (xEq false) (v2 xIx (vVar 0) (vC (.int 0))) (vC (.str "give")))) (t_Lcan_1) vNext) (t_Lcan_2)
def t_Lcan : VTS := (t_Lcan_3)
theorem bd_Lcan {P : Program} {w : World} {K : PySem.W.Frag} {mg : Str → Option Value} {base : Heap} {k : Nat} {f : Addr} {cdv : Value} {A : Around} {outer : List Env} {s : Shared} {H : Hp} {E : XK}
    (hr : Room k (A.deeper (envOfC "_law_can" (defScope sLcan) s.heap.objs.size f cdv))) : VSs (cxOf CX0 P w K mg base nLcan "_law_can" (defScope sLcan) f cdv A outer s H E).nox (defBody sLcan) (t_Lcan) := by
  have hu := u190 hr
  have h : VSs (cxOf CX0 P w K mg base nLcan "_law_can" (defScope sLcan) f cdv A outer s H E).nox (defBody sLcan) (vSeq (vIfS (vTest (v2 (xEq false) (v2 xIx (vVar 0) (vC (.int 0))) (vC (.str "give")))) ((vRet (v2 (xEq false) (v2 xIx (v2 xIx (vVar 0) (vC (.int 1))) (vC (.int 0))) (vC (.str "take"))))) vNext) ((vRet (vAndV (v2 (opIn3 false) (v2 xIx (vVar 0) (vC (.int 0))) (vN opTup (vCons (vC (.str "first")) (vCons (vC (.str "second")) vNil)))) (v2 (xEq false) (v2 xIx (v2 xIx (vVar 0) (vC (.int 1))) (vC (.int 0))) (vC (.str "pair"))))))) := (vss_cons (vs_if (vt_xeq hu (ve_xix (vp 0) ve_int) ve_str) (vss_one (vs_ret (ve_xeq hu (ve_xix (ve_xix (vp 0) ve_int) ve_int) ve_str))) vss_nil)
    (vss_one (vs_ret (ve_and (ve_in3 hu (ve_xix (vp 0) ve_int) (ve_tup (va_cons ve_str (va_cons ve_str va_nil)))) (ve_one (ve_xeq hu (ve_xix (ve_xix (vp 0) ve_int) ve_int) ve_str))))))
  exact h
theorem ok_Lcan {P : Program} {w : World} {K : PySem.W.Frag} {mg : Str → Option Value} {base : Heap} {k : Nat} {p : VSp} (Fd : Df K mg "_law_can" sLcan ["_law_part"])
    (len : ∀ ss st Kp, p ss st Kp → ss.length = 1) (rd : ∀ ss cs Kp, p ss cs Kp → t_Lcan (dV cs.length Kp) ⟨startV 1 ss, cs.map some⟩) : VFn P w K mg base (k + 1) "_law_can" ["_law_part"] p :=
  okF Fd scLcan len (fun hr => bd_Lcan hr) rd
abbrev sLplaces : Stmt := top 16
abbrev nLplaces : List Str := ["_law_part", "_law_place", "_law_found", "_law_k", "_law_one"]
theorem scLplaces : FnScope nLplaces ["_law_part", "_law_place"] (defScope sLplaces) := ⟨rfl, rfl, rfl, by decide +kernel, rfl, by decide +kernel, by decide +kernel⟩
def t_Lplaces_1 (p_Lcan p_Linner p_Lplaces : VSp) : VTS := (vSet 2 (v2 opAdd (vVar 2) (vN (opCallK ownD p_Lplaces) (vCons (vVar 4) (vCons (v2 opAdd (vVar 1) (vN opLst (vCons (vVar 3) vNil))) vNil)))))
def t_Lplaces_2 (p_Lcan p_Linner p_Lplaces : VSp) : VTS := (vRet (vVar 2))
def t_Lplaces_3 (p_Lcan p_Linner p_Lplaces : VSp) : VTS := vSeq (vFor (vEnum (vCons (vN (opCallK ownD p_Linner) (vCons (vVar 0) vNil)) vNil)) (vgTup 2 (vgCons (vgName 3) (vgCons (vgName 4) vgNil)))
      (t_Lplaces_1 p_Lcan p_Linner p_Lplaces)) (t_Lplaces_2 p_Lcan p_Linner p_Lplaces)
def t_Lplaces_4 (p_Lcan p_Linner p_Lplaces : VSp) : VTS := vSeq (vSet 2 (v2 opMul2 (vN opLst (vCons (vVar 1) vNil)) (vN opInt (vCons (vN (opCallK ownD p_Lcan) (vCons (vVar 0) vNil)) vNil)))) (t_Lplaces_3 p_Lcan p_Linner p_Lplaces)
def t_Lplaces (p_Lcan p_Linner p_Lplaces : VSp) : VTS := (t_Lplaces_4 p_Lcan p_Linner p_Lplaces)
theorem bd_Lplaces {P : Program} {w : World} {K : PySem.W.Frag} {mg : Str → Option Value} {base : Heap} {k : Nat} {k_Lcan : Nat} {p_Lcan : VSp} (G_Lcan : VFn P w K mg base k_Lcan "_law_can" ["_law_part"] p_Lcan) (h_Lcan : k_Lcan ≤ k) {k_Linner : Nat} {p_Linner : VSp} (G_Linner : VFn P w K mg base k_Linner "_law_inner" ["_law_program_here"] p_Linner) (h_Linner : k_Linner ≤ k) {k_Lplaces : Nat} {p_Lplaces : VSp} (G_Lplaces : VFn P w K mg base k_Lplaces "_law_places" ["_law_part", "_law_place"] p_Lplaces) (h_Lplaces : k_Lplaces ≤ k) (B : Blt mg) {f : Addr} {cdv : Value} {A : Around} {outer : List Env} {s : Shared} {H : Hp} {E : XK}
    (hr : Room k (A.deeper (envOfC "_law_places" (defScope sLplaces) s.heap.objs.size f cdv))) : VSs (cxOf CX0 P w K mg base nLplaces "_law_places" (defScope sLplaces) f cdv A outer s H E).nox (defBody sLplaces) (t_Lplaces p_Lcan p_Linner p_Lplaces) := by
  have h : VSs (cxOf CX0 P w K mg base nLplaces "_law_places" (defScope sLplaces) f cdv A outer s H E).nox (defBody sLplaces) (vSeq (vSet 2 (v2 opMul2 (vN opLst (vCons (vVar 1) vNil)) (vN opInt (vCons (vN (opCallK ownD p_Lcan) (vCons (vVar 0) vNil)) vNil)))) (vSeq (vFor (vEnum (vCons (vN (opCallK ownD p_Linner) (vCons (vVar 0) vNil)) vNil)) (vgTup 2 (vgCons (vgName 3) (vgCons (vgName 4) vgNil)))
      ((vSet 2 (v2 opAdd (vVar 2) (vN (opCallK ownD p_Lplaces) (vCons (vVar 4) (vCons (v2 opAdd (vVar 1) (vN opLst (vCons (vVar 3) vNil))) vNil))))))) ((vRet (vVar 2))))) := (vss_cons (vs_set (i := 2) scLplaces.nd rfl (Or.inl rfl) (ve_mul2 (ve_lst (va_cons (vp 1) va_nil)) (ve_intB rfl B.int (va_cons (ve_call finW_D G_Lcan hr h_Lcan rfl (va_cons (vp 0) va_nil)) va_nil))))
    (vss_cons (vs_for (vi_enum rfl B.enumerate (va_cons (ve_call finW_D G_Linner hr h_Linner rfl (va_cons (vp 0) va_nil)) va_nil)) (vg_tup rfl (vgs_cons (vg_name (i := 3) scLplaces.nd rfl (Or.inl rfl)) (vgs_cons (vg_name (i := 4) scLplaces.nd rfl (Or.inl rfl)) vgs_nil)))
      (vss_one (vs_set (i := 2) scLplaces.nd rfl (Or.inl rfl) (ve_add (vp 2) (ve_call finW_D G_Lplaces hr h_Lplaces rfl (va_cons (vp 4) (va_cons (ve_add (vp 1) (ve_lst (va_cons (vp 3) va_nil))) va_nil)))))) (fun a b c => ps_for PassesOwn.never rfl a b c))
    (vss_one (vs_ret (vp 2)))))
  exact h
theorem ok_Lplaces {P : Program} {w : World} {K : PySem.W.Frag} {mg : Str → Option Value} {base : Heap} {k : Nat} {p : VSp} (Fd : Df K mg "_law_places" sLplaces ["_law_part", "_law_place"]) {k_Lcan : Nat} {p_Lcan : VSp} (G_Lcan : VFn P w K mg base k_Lcan "_law_can" ["_law_part"] p_Lcan) (h_Lcan : k_Lcan ≤ k) {k_Linner : Nat} {p_Linner : VSp} (G_Linner : VFn P w K mg base k_Linner "_law_inner" ["_law_program_here"] p_Linner) (h_Linner : k_Linner ≤ k) {k_Lplaces : Nat} {p_Lplaces : VSp} (G_Lplaces : VFn P w K mg base k_Lplaces "_law_places" ["_law_part", "_law_place"] p_Lplaces) (h_Lplaces : k_Lplaces ≤ k) (B : Blt mg)
    (len : ∀ ss st Kp, p ss st Kp → ss.length = 2) (rd : ∀ ss cs Kp, p ss cs Kp → t_Lplaces p_Lcan p_Linner p_Lplaces (dV cs.length Kp) ⟨startV 5 ss, cs.map some⟩) : VFn P w K mg base (k + 1) "_law_places" ["_law_part", "_law_place"] p :=
  okF Fd scLplaces len (fun hr => bd_Lplaces G_Lcan h_Lcan G_Linner h_Linner G_Lplaces h_Lplaces B hr) rd
abbrev sLdrawn : Stmt := top 17
abbrev nLdrawn : List Str := ["_law_pool_here", "_law_room", "_law_kind_here"]
theorem scLdrawn : FnScope nLdrawn ["_law_pool_here", "_law_room"] (defScope sLdrawn) := ⟨rfl, rfl, rfl, by decide +kernel, rfl, by decide +kernel, by decide +kernel⟩
def t_Ldrawn_1 (p_Lkind p_Ltake p_Lapart p_Lrow : VSp) : VTS := (vRet (vN (opCallK ownD p_Lapart) (vCons (vVar 0) (vCons (vCall0 ownD p_Lrow) (vCons (vVar 2) (vCons (vVar 1) vNil))))))
def t_Ldrawn_2 (p_Lkind p_Ltake p_Lapart p_Lrow : VSp) : VTS := vSeq (vSet 2 (vN (opCallK ownD p_Lkind) (vCons (vVar 0) (vCons (v2 opAdd (vC (.int 1)) (vN (opCallK ownD p_Ltake) (vCons (vVar 0) (vCons (vC (.int 3)) vNil)))) (vCons (vN opLst (vCons (vC (.str "a")) (vCons (vC (.str "b")) vNil))) vNil))))) (t_Ldrawn_1 p_Lkind p_Ltake p_Lapart p_Lrow)
def t_Ldrawn (p_Lkind p_Ltake p_Lapart p_Lrow : VSp) : VTS := (t_Ldrawn_2 p_Lkind p_Ltake p_Lapart p_Lrow)
theorem bd_Ldrawn {P : Program} {w : World} {K : PySem.W.Frag} {mg : Str → Option Value} {base : Heap} {k : Nat} {k_Lkind : Nat} {p_Lkind : VSp} (G_Lkind : VFn P w K mg base k_Lkind "_law_kind" ["_law_pool_here", "_law_leaves", "_law_marks"] p_Lkind) (h_Lkind : k_Lkind ≤ k) {k_Ltake : Nat} {p_Ltake : VSp} (G_Ltake : VFn P w K mg base k_Ltake "_law_take" ["_law_pool_here", "_law_many"] p_Ltake) (h_Ltake : k_Ltake ≤ k) {k_Lapart : Nat} {p_Lapart : VSp} (G_Lapart : VFn P w K mg base k_Lapart "_law_apart" ["_law_pool_here", "_law_known", "_law_kind_here", "_law_room"] p_Lapart) (h_Lapart : k_Lapart ≤ k) {k_Lrow : Nat} {p_Lrow : VSp} (G_Lrow : VFn P w K mg base k_Lrow "_law_row" [] p_Lrow) (h_Lrow : k_Lrow ≤ k) {f : Addr} {cdv : Value} {A : Around} {outer : List Env} {s : Shared} {H : Hp} {E : XK}
    (hr : Room k (A.deeper (envOfC "_law_drawn" (defScope sLdrawn) s.heap.objs.size f cdv))) : VSs (cxOf CX0 P w K mg base nLdrawn "_law_drawn" (defScope sLdrawn) f cdv A outer s H E).nox (defBody sLdrawn) (t_Ldrawn p_Lkind p_Ltake p_Lapart p_Lrow) := by
  have h : VSs (cxOf CX0 P w K mg base nLdrawn "_law_drawn" (defScope sLdrawn) f cdv A outer s H E).nox (defBody sLdrawn) (vSeq (vSet 2 (vN (opCallK ownD p_Lkind) (vCons (vVar 0) (vCons (v2 opAdd (vC (.int 1)) (vN (opCallK ownD p_Ltake) (vCons (vVar 0) (vCons (vC (.int 3)) vNil)))) (vCons (vN opLst (vCons (vC (.str "a")) (vCons (vC (.str "b")) vNil))) vNil))))) ((vRet (vN (opCallK ownD p_Lapart) (vCons (vVar 0) (vCons (vCall0 ownD p_Lrow) (vCons (vVar 2) (vCons (vVar 1) vNil)))))))) := (vss_cons (vs_set (i := 2) scLdrawn.nd rfl (Or.inl rfl) (ve_call finW_D G_Lkind hr h_Lkind rfl (va_cons (vp 0) (va_cons (ve_add ve_int (ve_call finW_D G_Ltake hr h_Ltake rfl (va_cons (vp 0) (va_cons ve_int va_nil)))) (va_cons (ve_lst (va_cons ve_str (va_cons ve_str va_nil))) va_nil)))))
    (vss_one (vs_ret (ve_call finW_D G_Lapart hr h_Lapart rfl (va_cons (vp 0) (va_cons (ve_call0 finW_D G_Lrow hr h_Lrow rfl) (va_cons (vp 2) (va_cons (vp 1) va_nil))))))))
  exact h
theorem ok_Ldrawn {P : Program} {w : World} {K : PySem.W.Frag} {mg : Str → Option Value} {base : Heap} {k : Nat} {p : VSp} (Fd : Df K mg "_law_drawn" sLdrawn ["_law_pool_here", "_law_room"]) {k_Lkind : Nat} {p_Lkind : VSp} (G_Lkind : VFn P w K mg base k_Lkind "_law_kind" ["_law_pool_here", "_law_leaves", "_law_marks"] p_Lkind) (h_Lkind : k_Lkind ≤ k) {k_Ltake : Nat} {p_Ltake : VSp} (G_Ltake : VFn P w K mg base k_Ltake "_law_take" ["_law_pool_here", "_law_many"] p_Ltake) (h_Ltake : k_Ltake ≤ k) {k_Lapart : Nat} {p_Lapart : VSp} (G_Lapart : VFn P w K mg base k_Lapart "_law_apart" ["_law_pool_here", "_law_known", "_law_kind_here", "_law_room"] p_Lapart) (h_Lapart : k_Lapart ≤ k) {k_Lrow : Nat} {p_Lrow : VSp} (G_Lrow : VFn P w K mg base k_Lrow "_law_row" [] p_Lrow) (h_Lrow : k_Lrow ≤ k)
    (len : ∀ ss st Kp, p ss st Kp → ss.length = 2) (rd : ∀ ss cs Kp, p ss cs Kp → t_Ldrawn p_Lkind p_Ltake p_Lapart p_Lrow (dV cs.length Kp) ⟨startV 3 ss, cs.map some⟩) : VFn P w K mg base (k + 1) "_law_drawn" ["_law_pool_here", "_law_room"] p :=
  okF Fd scLdrawn len (fun hr => bd_Ldrawn G_Lkind h_Lkind G_Ltake h_Ltake G_Lapart h_Lapart G_Lrow h_Lrow hr) rd
end Kf
namespace Kf
open PySem L2 Vl PySem.Spec PyProof.Rows
section
variable {P : Program} {w : World} {K : PySem.W.Frag} {mg : Str → Option Value} {base : Heap}
theorem f_take (Fd : Df K mg "_law_take" sLtake ["_law_pool_here", "_law_many"]) : VFn P w K mg base 1 "_law_take" ["_law_pool_here", "_law_many"] pTake := by
  have inv : ∀ ss st Kp, pTake ss st Kp → ∃ c n m : Int, ss = [.obj 0, .val (.int m)] ∧ st = [[.int c, .int n]] ∧ PoolK n ∧ 0 < m ∧ m < 1073741824 ∧ ∀ r c' n' : Int, 0 ≤ r → r < m → PoolK n' → Kp (.val (.int r)) [[.int c', .int n']] := fun ss st Kp h => by
    unfold pTake at h
    split at h
    · exact ⟨_, _, _, rfl, rfl, h⟩
    · exact h.elim
  refine ok_Ltake Fd (fun ss st Kp h => ?_) fun ss cs Kp h => ?_
  · obtain ⟨c, n, m, rfl, _⟩ := inv _ _ _ h
    rfl
  obtain ⟨c, n, m, rfl, rfl, ⟨n0, n1⟩, m0, m1, k⟩ := inv _ _ _ h
  have q1 := nm_nat (x := n * 48271 + 11) (m := 2147483647) (by decide)
  simp only [t_Ltake, t_Ltake_6, flatD, List.any_cons, List.any_nil, eqv_str, eqv_int, cut1, Bool.or_false, Bool.or_true, Bool.and_self, Bool.and_true, Bool.and_false, Bool.false_or, Bool.true_or, and_self, ofs_inj, ofs_app, ofs_len, String.reduceEq, String.reduceNe, String.reduceAppend, decide_true, decide_false, Bool.not_true, Bool.not_false, sz0, sz1, sz2, sz3, sz4, sz5, sz6, sz7, sz8, sz9, sz10, sz11, sz12, sz13, sz14, sz15, sz16, sz17, sz18, sz19, sz20, sz21, sz22, sz23, sz24, sz25, cpow1018, true_and, and_true, Nat.reduceAdd, Nat.reduceLT, Nat.reduceSub, Int.reduceNe, Int.reduceEq, Int.reduceLT, Int.reduceLE, Int.reduceToNat, ne_eq, not_false_eq_true, List.length_map, Nat.lt_irrefl, dV_nx, dV_rt, at0, at1, at2, at3, ix20, ix21, vSeq, vIfS, vTest, vTruth, truth, v2, v1, vN, vCons, vNil, vVar, vC, xIx, Vl.opI0, Vl.opI, pk, vSet, vAsg, xgSub, vRet, vRetN, vNext, vDrop, vBreak, vCont, asD, asDs, opMod, opDiv, opMul2, Vl.opAdd, opSub, opPow, opLt, Vl.opLe, opGt, Vl.opGe, xEq, okEq_str, okEq_int, Vl.opIn3, pkm, gModI, gDivI, gSubI, gMulI, gPowI, gGt, gLt, gLe, gGe, vNotT, vAndT, vOrT, vAndV, vOrV, opNot, opNotG, vIfE, opTup, opLst, opLstO, Vl.opLen, Vl.opInt, opList, opListO, opTuple, opII, gMax, gMin, vM, vM0, isT, xPop, Vl.opAppend, opExtend, opJoin, vgName, vgTup, vgCons, vgNil, kOpt_some, kOpn_some, vSl, vPart, vNoPart, opSl, opSlO, opRev, opCallK, ownD, ownO, objs, renum, uniq, getS, putS, vCall0, vFor, vSeqI, vTupI, vRng1, vRng2, vEnum, vZip, chkOf, vLcK, vYes, finD, finO, En.wipe, wipeE, En.trim, trimS, dropNone, clr, wth, Vl.ret, takeS, startV,  List.map_cons, List.map_nil, List.length_cons, List.length_nil, List.cons_append, List.nil_append, List.replicate, List.getElem?_cons_succ, List.getElem?_cons_zero, List.getElem?_nil, List.set_cons_succ, List.set_cons_zero, List.set_nil, List.all_nil, List.all_cons, Bool.true_and, Option.map_some, Option.map_none, if_true, if_false, decide_eq_true_eq, Bool.false_eq_true, List.take_succ_cons, List.take_zero, List.take_nil, List.drop_succ_cons, List.drop_zero, List.drop_nil, reduceIte, reduceCtorEq]
  split
  · simp only [t_Ltake_1, t_Ltake_2, t_Ltake_3, t_Ltake_4, t_Ltake_5, t_Ltake_6, t_Ltake, flatD, List.any_cons, List.any_nil, eqv_str, eqv_int, cut1, Bool.or_false, Bool.or_true, Bool.and_self, Bool.and_true, Bool.and_false, Bool.false_or, Bool.true_or, and_self, ofs_inj, ofs_app, ofs_len, String.reduceEq, String.reduceNe, String.reduceAppend, decide_true, decide_false, Bool.not_true, Bool.not_false, sz0, sz1, sz2, sz3, sz4, sz5, sz6, sz7, sz8, sz9, sz10, sz11, sz12, sz13, sz14, sz15, sz16, sz17, sz18, sz19, sz20, sz21, sz22, sz23, sz24, sz25, cpow1018, true_and, and_true, Nat.reduceAdd, Nat.reduceLT, Nat.reduceSub, Int.reduceNe, Int.reduceEq, Int.reduceLT, Int.reduceLE, Int.reduceToNat, ne_eq, not_false_eq_true, List.length_map, Nat.lt_irrefl, dV_nx, dV_rt, at0, at1, at2, at3, ix20, ix21, vSeq, vIfS, vTest, vTruth, truth, v2, v1, vN, vCons, vNil, vVar, vC, xIx, Vl.opI0, Vl.opI, pk, vSet, vAsg, xgSub, vRet, vRetN, vNext, vDrop, vBreak, vCont, asD, asDs, opMod, opDiv, opMul2, Vl.opAdd, opSub, opPow, opLt, Vl.opLe, opGt, Vl.opGe, xEq, okEq_str, okEq_int, Vl.opIn3, pkm, gModI, gDivI, gSubI, gMulI, gPowI, gGt, gLt, gLe, gGe, vNotT, vAndT, vOrT, vAndV, vOrV, opNot, opNotG, vIfE, opTup, opLst, opLstO, Vl.opLen, Vl.opInt, opList, opListO, opTuple, opII, gMax, gMin, vM, vM0, isT, xPop, Vl.opAppend, opExtend, opJoin, vgName, vgTup, vgCons, vgNil, kOpt_some, kOpn_some, vSl, vPart, vNoPart, opSl, opSlO, opRev, opCallK, ownD, ownO, objs, renum, uniq, getS, putS, vCall0, vFor, vSeqI, vTupI, vRng1, vRng2, vEnum, vZip, chkOf, vLcK, vYes, finD, finO, En.wipe, wipeE, En.trim, trimS, dropNone, clr, wth, Vl.ret, takeS, startV,  List.map_cons, List.map_nil, List.length_cons, List.length_nil, List.cons_append, List.nil_append, List.replicate, List.getElem?_cons_succ, List.getElem?_cons_zero, List.getElem?_nil, List.set_cons_succ, List.set_cons_zero, List.set_nil, List.all_nil, List.all_cons, Bool.true_and, Option.map_some, Option.map_none, if_true, if_false, decide_eq_true_eq, Bool.false_eq_true, List.take_succ_cons, List.take_zero, List.take_nil, List.drop_succ_cons, List.drop_zero, List.drop_nil, reduceIte, reduceCtorEq]
    exact ⟨by omega, ⟨by omega, by omega⟩, k _ _ _ (nm_nat m0).1 (nm_nat m0).2 ⟨n0, n1⟩⟩
  · simp only [t_Ltake_1, t_Ltake_2, t_Ltake_3, t_Ltake_4, t_Ltake_5, t_Ltake_6, t_Ltake, flatD, List.any_cons, List.any_nil, eqv_str, eqv_int, cut1, Bool.or_false, Bool.or_true, Bool.and_self, Bool.and_true, Bool.and_false, Bool.false_or, Bool.true_or, and_self, ofs_inj, ofs_app, ofs_len, String.reduceEq, String.reduceNe, String.reduceAppend, decide_true, decide_false, Bool.not_true, Bool.not_false, sz0, sz1, sz2, sz3, sz4, sz5, sz6, sz7, sz8, sz9, sz10, sz11, sz12, sz13, sz14, sz15, sz16, sz17, sz18, sz19, sz20, sz21, sz22, sz23, sz24, sz25, cpow1018, true_and, and_true, Nat.reduceAdd, Nat.reduceLT, Nat.reduceSub, Int.reduceNe, Int.reduceEq, Int.reduceLT, Int.reduceLE, Int.reduceToNat, ne_eq, not_false_eq_true, List.length_map, Nat.lt_irrefl, dV_nx, dV_rt, at0, at1, at2, at3, ix20, ix21, vSeq, vIfS, vTest, vTruth, truth, v2, v1, vN, vCons, vNil, vVar, vC, xIx, Vl.opI0, Vl.opI, pk, vSet, vAsg, xgSub, vRet, vRetN, vNext, vDrop, vBreak, vCont, asD, asDs, opMod, opDiv, opMul2, Vl.opAdd, opSub, opPow, opLt, Vl.opLe, opGt, Vl.opGe, xEq, okEq_str, okEq_int, Vl.opIn3, pkm, gModI, gDivI, gSubI, gMulI, gPowI, gGt, gLt, gLe, gGe, vNotT, vAndT, vOrT, vAndV, vOrV, opNot, opNotG, vIfE, opTup, opLst, opLstO, Vl.opLen, Vl.opInt, opList, opListO, opTuple, opII, gMax, gMin, vM, vM0, isT, xPop, Vl.opAppend, opExtend, opJoin, vgName, vgTup, vgCons, vgNil, kOpt_some, kOpn_some, vSl, vPart, vNoPart, opSl, opSlO, opRev, opCallK, ownD, ownO, objs, renum, uniq, getS, putS, vCall0, vFor, vSeqI, vTupI, vRng1, vRng2, vEnum, vZip, chkOf, vLcK, vYes, finD, finO, En.wipe, wipeE, En.trim, trimS, dropNone, clr, wth, Vl.ret, takeS, startV,  List.map_cons, List.map_nil, List.length_cons, List.length_nil, List.cons_append, List.nil_append, List.replicate, List.getElem?_cons_succ, List.getElem?_cons_zero, List.getElem?_nil, List.set_cons_succ, List.set_cons_zero, List.set_nil, List.all_nil, List.all_cons, Bool.true_and, Option.map_some, Option.map_none, if_true, if_false, decide_eq_true_eq, Bool.false_eq_true, List.take_succ_cons, List.take_zero, List.take_nil, List.drop_succ_cons, List.drop_zero, List.drop_nil, reduceIte, reduceCtorEq]
    exact ⟨.inl ⟨by omega, by omega⟩, .inl ⟨by omega, by omega⟩, ⟨by decide, by decide⟩, by omega, k _ _ _ (nm_nat m0).1 (nm_nat m0).2 q1⟩
theorem f_pool (Fd : Df K mg "_law_pool" sLpool ["_law_script", "_law_k"]) (B : Blt mg) : VFn P w K mg base 1 "_law_pool" ["_law_script", "_law_k"] pPool := by
  refine ok_Lpool Fd B (fun ss st Kp ⟨c, n, h, _⟩ => by rw [h]; rfl) ?_
  rintro ss cs Kp ⟨ns, n, rfl, rfl, n0, n1, k⟩
  have fin : ∀ (x : Int) (i2 : Option Sl), t_Lpool_5 (dV 0 Kp) ⟨[some (.kn (ns.map .int)), some (.val (.int n)), some (.val (.int x)), i2], []⟩ := fun x i2 => by
    have q1 := nm_nat (x := x) (m := 2147483629) (by decide)
    have nn : (n : Int) * n ≤ 63 * 63 := by
      have : n * n ≤ 63 * 63 := Nat.mul_le_mul n1 n1
      exact_mod_cast this
    have n2 : 0 ≤ (n : Int) * n := Int.mul_nonneg (by omega) (by omega)
    simp only [t_Lpool_5, flatD, List.any_cons, List.any_nil, eqv_str, eqv_int, cut1, Bool.or_false, Bool.or_true, Bool.and_self, Bool.and_true, Bool.and_false, Bool.false_or, Bool.true_or, and_self, ofs_inj, ofs_app, ofs_len, String.reduceEq, String.reduceNe, String.reduceAppend, decide_true, decide_false, Bool.not_true, Bool.not_false, sz0, sz1, sz2, sz3, sz4, sz5, sz6, sz7, sz8, sz9, sz10, sz11, sz12, sz13, sz14, sz15, sz16, sz17, sz18, sz19, sz20, sz21, sz22, sz23, sz24, sz25, cpow1018, true_and, and_true, Nat.reduceAdd, Nat.reduceLT, Nat.reduceSub, Int.reduceNe, Int.reduceEq, Int.reduceLT, Int.reduceLE, Int.reduceToNat, ne_eq, not_false_eq_true, List.length_map, Nat.lt_irrefl, dV_nx, dV_rt, at0, at1, at2, at3, ix20, ix21, vSeq, vIfS, vTest, vTruth, truth, v2, v1, vN, vCons, vNil, vVar, vC, xIx, Vl.opI0, Vl.opI, pk, vSet, vAsg, xgSub, vRet, vRetN, vNext, vDrop, vBreak, vCont, asD, asDs, opMod, opDiv, opMul2, Vl.opAdd, opSub, opPow, opLt, Vl.opLe, opGt, Vl.opGe, xEq, okEq_str, okEq_int, Vl.opIn3, pkm, gModI, gDivI, gSubI, gMulI, gPowI, gGt, gLt, gLe, gGe, vNotT, vAndT, vOrT, vAndV, vOrV, opNot, opNotG, vIfE, opTup, opLst, opLstO, Vl.opLen, Vl.opInt, opList, opListO, opTuple, opII, gMax, gMin, vM, vM0, isT, xPop, Vl.opAppend, opExtend, opJoin, vgName, vgTup, vgCons, vgNil, kOpt_some, kOpn_some, vSl, vPart, vNoPart, opSl, opSlO, opRev, opCallK, ownD, ownO, objs, renum, uniq, getS, putS, vCall0, vFor, vSeqI, vTupI, vRng1, vRng2, vEnum, vZip, chkOf, vLcK, vYes, finD, finO, En.wipe, wipeE, En.trim, trimS, dropNone, clr, wth, Vl.ret, takeS, startV,  List.map_cons, List.map_nil, List.length_cons, List.length_nil, List.cons_append, List.nil_append, List.replicate, List.getElem?_cons_succ, List.getElem?_cons_zero, List.getElem?_nil, List.set_cons_succ, List.set_cons_zero, List.set_nil, List.all_nil, List.all_cons, Bool.true_and, Option.map_some, Option.map_none, if_true, if_false, decide_eq_true_eq, Bool.false_eq_true, List.take_succ_cons, List.take_zero, List.take_nil, List.drop_succ_cons, List.drop_zero, List.drop_nil, reduceIte, reduceCtorEq]
    have na : (x.fmod 2147483629 + 104729 * ↑n * ↑n + 11).natAbs < 2 ^ 64 := by
      have : (104729 : Int) * n * n = 104729 * (n * n) := by rw [Int.mul_assoc]
      omega
    refine ⟨.inl ⟨by decide, by decide⟩, .inl ⟨by omega, by omega⟩, ⟨by decide, by decide, na⟩, ?_⟩
    simp only [t_Lpool_4, flatD, List.any_cons, List.any_nil, eqv_str, eqv_int, cut1, Bool.or_false, Bool.or_true, Bool.and_self, Bool.and_true, Bool.and_false, Bool.false_or, Bool.true_or, and_self, ofs_inj, ofs_app, ofs_len, String.reduceEq, String.reduceNe, String.reduceAppend, decide_true, decide_false, Bool.not_true, Bool.not_false, sz0, sz1, sz2, sz3, sz4, sz5, sz6, sz7, sz8, sz9, sz10, sz11, sz12, sz13, sz14, sz15, sz16, sz17, sz18, sz19, sz20, sz21, sz22, sz23, sz24, sz25, cpow1018, true_and, and_true, Nat.reduceAdd, Nat.reduceLT, Nat.reduceSub, Int.reduceNe, Int.reduceEq, Int.reduceLT, Int.reduceLE, Int.reduceToNat, ne_eq, not_false_eq_true, List.length_map, Nat.lt_irrefl, dV_nx, dV_rt, at0, at1, at2, at3, ix20, ix21, vSeq, vIfS, vTest, vTruth, truth, v2, v1, vN, vCons, vNil, vVar, vC, xIx, Vl.opI0, Vl.opI, pk, vSet, vAsg, xgSub, vRet, vRetN, vNext, vDrop, vBreak, vCont, asD, asDs, opMod, opDiv, opMul2, Vl.opAdd, opSub, opPow, opLt, Vl.opLe, opGt, Vl.opGe, xEq, okEq_str, okEq_int, Vl.opIn3, pkm, gModI, gDivI, gSubI, gMulI, gPowI, gGt, gLt, gLe, gGe, vNotT, vAndT, vOrT, vAndV, vOrV, opNot, opNotG, vIfE, opTup, opLst, opLstO, Vl.opLen, Vl.opInt, opList, opListO, opTuple, opII, gMax, gMin, vM, vM0, isT, xPop, Vl.opAppend, opExtend, opJoin, vgName, vgTup, vgCons, vgNil, kOpt_some, kOpn_some, vSl, vPart, vNoPart, opSl, opSlO, opRev, opCallK, ownD, ownO, objs, renum, uniq, getS, putS, vCall0, vFor, vSeqI, vTupI, vRng1, vRng2, vEnum, vZip, chkOf, vLcK, vYes, finD, finO, En.wipe, wipeE, En.trim, trimS, dropNone, clr, wth, Vl.ret, takeS, startV,  List.map_cons, List.map_nil, List.length_cons, List.length_nil, List.cons_append, List.nil_append, List.replicate, List.getElem?_cons_succ, List.getElem?_cons_zero, List.getElem?_nil, List.set_cons_succ, List.set_cons_zero, List.set_nil, List.all_nil, List.all_cons, Bool.true_and, Option.map_some, Option.map_none, if_true, if_false, decide_eq_true_eq, Bool.false_eq_true, List.take_succ_cons, List.take_zero, List.take_nil, List.drop_succ_cons, List.drop_zero, List.drop_nil, reduceIte, reduceCtorEq]
    have q2 := nm_nat (x := (x.fmod 2147483629 + 104729 * ↑n * ↑n + 11) ^ (3 : Int).toNat) (m := 2147483647) (by decide)
    split
    · simp only [t_Lpool_2, t_Lpool_3, flatD, List.any_cons, List.any_nil, eqv_str, eqv_int, cut1, Bool.or_false, Bool.or_true, Bool.and_self, Bool.and_true, Bool.and_false, Bool.false_or, Bool.true_or, and_self, ofs_inj, ofs_app, ofs_len, String.reduceEq, String.reduceNe, String.reduceAppend, decide_true, decide_false, Bool.not_true, Bool.not_false, sz0, sz1, sz2, sz3, sz4, sz5, sz6, sz7, sz8, sz9, sz10, sz11, sz12, sz13, sz14, sz15, sz16, sz17, sz18, sz19, sz20, sz21, sz22, sz23, sz24, sz25, cpow1018, true_and, and_true, Nat.reduceAdd, Nat.reduceLT, Nat.reduceSub, Int.reduceNe, Int.reduceEq, Int.reduceLT, Int.reduceLE, Int.reduceToNat, ne_eq, not_false_eq_true, List.length_map, Nat.lt_irrefl, dV_nx, dV_rt, at0, at1, at2, at3, ix20, ix21, vSeq, vIfS, vTest, vTruth, truth, v2, v1, vN, vCons, vNil, vVar, vC, xIx, Vl.opI0, Vl.opI, pk, vSet, vAsg, xgSub, vRet, vRetN, vNext, vDrop, vBreak, vCont, asD, asDs, opMod, opDiv, opMul2, Vl.opAdd, opSub, opPow, opLt, Vl.opLe, opGt, Vl.opGe, xEq, okEq_str, okEq_int, Vl.opIn3, pkm, gModI, gDivI, gSubI, gMulI, gPowI, gGt, gLt, gLe, gGe, vNotT, vAndT, vOrT, vAndV, vOrV, opNot, opNotG, vIfE, opTup, opLst, opLstO, Vl.opLen, Vl.opInt, opList, opListO, opTuple, opII, gMax, gMin, vM, vM0, isT, xPop, Vl.opAppend, opExtend, opJoin, vgName, vgTup, vgCons, vgNil, kOpt_some, kOpn_some, vSl, vPart, vNoPart, opSl, opSlO, opRev, opCallK, ownD, ownO, objs, renum, uniq, getS, putS, vCall0, vFor, vSeqI, vTupI, vRng1, vRng2, vEnum, vZip, chkOf, vLcK, vYes, finD, finO, En.wipe, wipeE, En.trim, trimS, dropNone, clr, wth, Vl.ret, takeS, startV,  List.map_cons, List.map_nil, List.length_cons, List.length_nil, List.cons_append, List.nil_append, List.replicate, List.getElem?_cons_succ, List.getElem?_cons_zero, List.getElem?_nil, List.set_cons_succ, List.set_cons_zero, List.set_nil, List.all_nil, List.all_cons, Bool.true_and, Option.map_some, Option.map_none, if_true, if_false, decide_eq_true_eq, Bool.false_eq_true, List.take_succ_cons, List.take_zero, List.take_nil, List.drop_succ_cons, List.drop_zero, List.drop_nil, reduceIte, reduceCtorEq]
      exact k _ _ q2
    · simp only [t_Lpool_3, flatD, List.any_cons, List.any_nil, eqv_str, eqv_int, cut1, Bool.or_false, Bool.or_true, Bool.and_self, Bool.and_true, Bool.and_false, Bool.false_or, Bool.true_or, and_self, ofs_inj, ofs_app, ofs_len, String.reduceEq, String.reduceNe, String.reduceAppend, decide_true, decide_false, Bool.not_true, Bool.not_false, sz0, sz1, sz2, sz3, sz4, sz5, sz6, sz7, sz8, sz9, sz10, sz11, sz12, sz13, sz14, sz15, sz16, sz17, sz18, sz19, sz20, sz21, sz22, sz23, sz24, sz25, cpow1018, true_and, and_true, Nat.reduceAdd, Nat.reduceLT, Nat.reduceSub, Int.reduceNe, Int.reduceEq, Int.reduceLT, Int.reduceLE, Int.reduceToNat, ne_eq, not_false_eq_true, List.length_map, Nat.lt_irrefl, dV_nx, dV_rt, at0, at1, at2, at3, ix20, ix21, vSeq, vIfS, vTest, vTruth, truth, v2, v1, vN, vCons, vNil, vVar, vC, xIx, Vl.opI0, Vl.opI, pk, vSet, vAsg, xgSub, vRet, vRetN, vNext, vDrop, vBreak, vCont, asD, asDs, opMod, opDiv, opMul2, Vl.opAdd, opSub, opPow, opLt, Vl.opLe, opGt, Vl.opGe, xEq, okEq_str, okEq_int, Vl.opIn3, pkm, gModI, gDivI, gSubI, gMulI, gPowI, gGt, gLt, gLe, gGe, vNotT, vAndT, vOrT, vAndV, vOrV, opNot, opNotG, vIfE, opTup, opLst, opLstO, Vl.opLen, Vl.opInt, opList, opListO, opTuple, opII, gMax, gMin, vM, vM0, isT, xPop, Vl.opAppend, opExtend, opJoin, vgName, vgTup, vgCons, vgNil, kOpt_some, kOpn_some, vSl, vPart, vNoPart, opSl, opSlO, opRev, opCallK, ownD, ownO, objs, renum, uniq, getS, putS, vCall0, vFor, vSeqI, vTupI, vRng1, vRng2, vEnum, vZip, chkOf, vLcK, vYes, finD, finO, En.wipe, wipeE, En.trim, trimS, dropNone, clr, wth, Vl.ret, takeS, startV,  List.map_cons, List.map_nil, List.length_cons, List.length_nil, List.cons_append, List.nil_append, List.replicate, List.getElem?_cons_succ, List.getElem?_cons_zero, List.getElem?_nil, List.set_cons_succ, List.set_cons_zero, List.set_nil, List.all_nil, List.all_cons, Bool.true_and, Option.map_some, Option.map_none, if_true, if_false, decide_eq_true_eq, Bool.false_eq_true, List.take_succ_cons, List.take_zero, List.take_nil, List.drop_succ_cons, List.drop_zero, List.drop_nil, reduceIte, reduceCtorEq]
      exact k _ _ q2
  simp only [t_Lpool, t_Lpool_7, t_Lpool_6, List.length_map, flatD, List.any_cons, List.any_nil, eqv_str, eqv_int, cut1, Bool.or_false, Bool.or_true, Bool.and_self, Bool.and_true, Bool.and_false, Bool.false_or, Bool.true_or, and_self, ofs_inj, ofs_app, ofs_len, String.reduceEq, String.reduceNe, String.reduceAppend, decide_true, decide_false, Bool.not_true, Bool.not_false, sz0, sz1, sz2, sz3, sz4, sz5, sz6, sz7, sz8, sz9, sz10, sz11, sz12, sz13, sz14, sz15, sz16, sz17, sz18, sz19, sz20, sz21, sz22, sz23, sz24, sz25, cpow1018, true_and, and_true, Nat.reduceAdd, Nat.reduceLT, Nat.reduceSub, Int.reduceNe, Int.reduceEq, Int.reduceLT, Int.reduceLE, Int.reduceToNat, ne_eq, not_false_eq_true, List.length_map, Nat.lt_irrefl, dV_nx, dV_rt, at0, at1, at2, at3, ix20, ix21, vSeq, vIfS, vTest, vTruth, truth, v2, v1, vN, vCons, vNil, vVar, vC, xIx, Vl.opI0, Vl.opI, pk, vSet, vAsg, xgSub, vRet, vRetN, vNext, vDrop, vBreak, vCont, asD, asDs, opMod, opDiv, opMul2, Vl.opAdd, opSub, opPow, opLt, Vl.opLe, opGt, Vl.opGe, xEq, okEq_str, okEq_int, Vl.opIn3, pkm, gModI, gDivI, gSubI, gMulI, gPowI, gGt, gLt, gLe, gGe, vNotT, vAndT, vOrT, vAndV, vOrV, opNot, opNotG, vIfE, opTup, opLst, opLstO, Vl.opLen, Vl.opInt, opList, opListO, opTuple, opII, gMax, gMin, vM, vM0, isT, xPop, Vl.opAppend, opExtend, opJoin, vgName, vgTup, vgCons, vgNil, kOpt_some, kOpn_some, vSl, vPart, vNoPart, opSl, opSlO, opRev, opCallK, ownD, ownO, objs, renum, uniq, getS, putS, vCall0, vFor, vSeqI, vTupI, vRng1, vRng2, vEnum, vZip, chkOf, vLcK, vYes, finD, finO, En.wipe, wipeE, En.trim, trimS, dropNone, clr, wth, Vl.ret, takeS, startV,  List.map_cons, List.map_nil, List.length_cons, List.length_nil, List.cons_append, List.nil_append, List.replicate, List.getElem?_cons_succ, List.getElem?_cons_zero, List.getElem?_nil, List.set_cons_succ, List.set_cons_zero, List.set_nil, List.all_nil, List.all_cons, Bool.true_and, Option.map_some, Option.map_none, if_true, if_false, decide_eq_true_eq, Bool.false_eq_true, List.take_succ_cons, List.take_zero, List.take_nil, List.drop_succ_cons, List.drop_zero, List.drop_nil, reduceIte, reduceCtorEq]
  split
  · rename_i hk
    obtain ⟨d, hd, hm⟩ := at_any (xs := ns.map PyData.int) (r := (n : Int)) (by omega) (by rw [List.length_map]; exact hk)
    obtain ⟨x, _, rfl⟩ := List.mem_map.mp hm
    simp only [t_Lpool_1, hd, flatD, List.any_cons, List.any_nil, eqv_str, eqv_int, cut1, Bool.or_false, Bool.or_true, Bool.and_self, Bool.and_true, Bool.and_false, Bool.false_or, Bool.true_or, and_self, ofs_inj, ofs_app, ofs_len, String.reduceEq, String.reduceNe, String.reduceAppend, decide_true, decide_false, Bool.not_true, Bool.not_false, sz0, sz1, sz2, sz3, sz4, sz5, sz6, sz7, sz8, sz9, sz10, sz11, sz12, sz13, sz14, sz15, sz16, sz17, sz18, sz19, sz20, sz21, sz22, sz23, sz24, sz25, cpow1018, true_and, and_true, Nat.reduceAdd, Nat.reduceLT, Nat.reduceSub, Int.reduceNe, Int.reduceEq, Int.reduceLT, Int.reduceLE, Int.reduceToNat, ne_eq, not_false_eq_true, List.length_map, Nat.lt_irrefl, dV_nx, dV_rt, at0, at1, at2, at3, ix20, ix21, vSeq, vIfS, vTest, vTruth, truth, v2, v1, vN, vCons, vNil, vVar, vC, xIx, Vl.opI0, Vl.opI, pk, vSet, vAsg, xgSub, vRet, vRetN, vNext, vDrop, vBreak, vCont, asD, asDs, opMod, opDiv, opMul2, Vl.opAdd, opSub, opPow, opLt, Vl.opLe, opGt, Vl.opGe, xEq, okEq_str, okEq_int, Vl.opIn3, pkm, gModI, gDivI, gSubI, gMulI, gPowI, gGt, gLt, gLe, gGe, vNotT, vAndT, vOrT, vAndV, vOrV, opNot, opNotG, vIfE, opTup, opLst, opLstO, Vl.opLen, Vl.opInt, opList, opListO, opTuple, opII, gMax, gMin, vM, vM0, isT, xPop, Vl.opAppend, opExtend, opJoin, vgName, vgTup, vgCons, vgNil, kOpt_some, kOpn_some, vSl, vPart, vNoPart, opSl, opSlO, opRev, opCallK, ownD, ownO, objs, renum, uniq, getS, putS, vCall0, vFor, vSeqI, vTupI, vRng1, vRng2, vEnum, vZip, chkOf, vLcK, vYes, finD, finO, En.wipe, wipeE, En.trim, trimS, dropNone, clr, wth, Vl.ret, takeS, startV,  List.map_cons, List.map_nil, List.length_cons, List.length_nil, List.cons_append, List.nil_append, List.replicate, List.getElem?_cons_succ, List.getElem?_cons_zero, List.getElem?_nil, List.set_cons_succ, List.set_cons_zero, List.set_nil, List.all_nil, List.all_cons, Bool.true_and, Option.map_some, Option.map_none, if_true, if_false, decide_eq_true_eq, Bool.false_eq_true, List.take_succ_cons, List.take_zero, List.take_nil, List.drop_succ_cons, List.drop_zero, List.drop_nil, reduceIte, reduceCtorEq]
    exact fin _ _
  · exact fin _ _
theorem f_kind (Fd : Df K mg "_law_kind" sLkind ["_law_pool_here", "_law_leaves", "_law_marks"]) (B : Blt mg) (GT : VFn P w K mg base 1 "_law_take" ["_law_pool_here", "_law_many"] pTake) : ∀ N : Nat, VFn P w K mg base (N + 2) "_law_kind" ["_law_pool_here", "_law_leaves", "_law_marks"] (pKind N) := by
  have inv : ∀ N ss st Kp, pKind N ss st Kp → ∃ (l c n : Int) (ms : List Str), ss = [.obj 0, .val (.int l), .val (.list (ms.map .str))] ∧ st = [[.int c, .int n]] ∧ PoolK n ∧ 1 ≤ l ∧ l ≤ N ∧ l < 1000 ∧ 0 < ms.length ∧ ms.length < 1000 ∧
      ∀ (k : Kd) (c' n' : Int), (k.leaves : Int) = l → k.over ms → PoolK n' → Kp (.val k.enc) [[.int c', .int n']] := fun N ss st Kp h => by
    unfold pKind at h
    split at h
    · obtain ⟨a, b, c, d, ms, rfl, e, f, g⟩ := h
      exact ⟨_, _, _, ms, rfl, rfl, a, b, c, d, e, f, g⟩
    · exact h.elim
  intro N
  induction N with
  | zero =>
    refine vacF Fd scLkind fun ss st Kp h => ?_
    obtain ⟨l, c, n, ms, _, _, _, h1, h2, _⟩ := inv _ _ _ _ h
    omega
  | succ N ih =>
    refine ok_Lkind Fd GT (by omega) ih (Nat.le_refl _) B (fun ss st Kp h => ?_) fun ss cs Kp h => ?_
    · obtain ⟨l, c, n, ms, rfl, _⟩ := inv _ _ _ _ h
      rfl
    obtain ⟨l, c, n, ms, rfl, rfl, pn, l1, l2, l3, m0, m1, k⟩ := inv _ _ _ _ h
    simp only [t_Lkind, t_Lkind_8, flatD, List.any_cons, List.any_nil, eqv_str, eqv_int, cut1, Bool.or_false, Bool.or_true, Bool.and_self, Bool.and_true, Bool.and_false, Bool.false_or, Bool.true_or, and_self, ofs_inj, ofs_app, ofs_len, String.reduceEq, String.reduceNe, String.reduceAppend, decide_true, decide_false, Bool.not_true, Bool.not_false, sz0, sz1, sz2, sz3, sz4, sz5, sz6, sz7, sz8, sz9, sz10, sz11, sz12, sz13, sz14, sz15, sz16, sz17, sz18, sz19, sz20, sz21, sz22, sz23, sz24, sz25, cpow1018, true_and, and_true, Nat.reduceAdd, Nat.reduceLT, Nat.reduceSub, Int.reduceNe, Int.reduceEq, Int.reduceLT, Int.reduceLE, Int.reduceToNat, ne_eq, not_false_eq_true, List.length_map, Nat.lt_irrefl, dV_nx, dV_rt, at0, at1, at2, at3, ix20, ix21, vSeq, vIfS, vTest, vTruth, truth, v2, v1, vN, vCons, vNil, vVar, vC, xIx, Vl.opI0, Vl.opI, pk, vSet, vAsg, xgSub, vRet, vRetN, vNext, vDrop, vBreak, vCont, asD, asDs, opMod, opDiv, opMul2, Vl.opAdd, opSub, opPow, opLt, Vl.opLe, opGt, Vl.opGe, xEq, okEq_str, okEq_int, Vl.opIn3, pkm, gModI, gDivI, gSubI, gMulI, gPowI, gGt, gLt, gLe, gGe, vNotT, vAndT, vOrT, vAndV, vOrV, opNot, opNotG, vIfE, opTup, opLst, opLstO, Vl.opLen, Vl.opInt, opList, opListO, opTuple, opII, gMax, gMin, vM, vM0, isT, xPop, Vl.opAppend, opExtend, opJoin, vgName, vgTup, vgCons, vgNil, kOpt_some, kOpn_some, vSl, vPart, vNoPart, opSl, opSlO, opRev, opCallK, ownD, ownO, objs, renum, uniq, getS, putS, vCall0, vFor, vSeqI, vTupI, vRng1, vRng2, vEnum, vZip, chkOf, vLcK, vYes, finD, finO, En.wipe, wipeE, En.trim, trimS, dropNone, clr, wth, Vl.ret, takeS, startV,  List.map_cons, List.map_nil, List.length_cons, List.length_nil, List.cons_append, List.nil_append, List.replicate, List.getElem?_cons_succ, List.getElem?_cons_zero, List.getElem?_nil, List.set_cons_succ, List.set_cons_zero, List.set_nil, List.all_nil, List.all_cons, Bool.true_and, Option.map_some, Option.map_none, if_true, if_false, decide_eq_true_eq, Bool.false_eq_true, List.take_succ_cons, List.take_zero, List.take_nil, List.drop_succ_cons, List.drop_zero, List.drop_nil, reduceIte, reduceCtorEq]
    split
    · simp only [t_Lkind_3, pTake, flatD, List.any_cons, List.any_nil, eqv_str, eqv_int, cut1, Bool.or_false, Bool.or_true, Bool.and_self, Bool.and_true, Bool.and_false, Bool.false_or, Bool.true_or, and_self, ofs_inj, ofs_app, ofs_len, String.reduceEq, String.reduceNe, String.reduceAppend, decide_true, decide_false, Bool.not_true, Bool.not_false, sz0, sz1, sz2, sz3, sz4, sz5, sz6, sz7, sz8, sz9, sz10, sz11, sz12, sz13, sz14, sz15, sz16, sz17, sz18, sz19, sz20, sz21, sz22, sz23, sz24, sz25, cpow1018, true_and, and_true, Nat.reduceAdd, Nat.reduceLT, Nat.reduceSub, Int.reduceNe, Int.reduceEq, Int.reduceLT, Int.reduceLE, Int.reduceToNat, ne_eq, not_false_eq_true, List.length_map, Nat.lt_irrefl, dV_nx, dV_rt, at0, at1, at2, at3, ix20, ix21, vSeq, vIfS, vTest, vTruth, truth, v2, v1, vN, vCons, vNil, vVar, vC, xIx, Vl.opI0, Vl.opI, pk, vSet, vAsg, xgSub, vRet, vRetN, vNext, vDrop, vBreak, vCont, asD, asDs, opMod, opDiv, opMul2, Vl.opAdd, opSub, opPow, opLt, Vl.opLe, opGt, Vl.opGe, xEq, okEq_str, okEq_int, Vl.opIn3, pkm, gModI, gDivI, gSubI, gMulI, gPowI, gGt, gLt, gLe, gGe, vNotT, vAndT, vOrT, vAndV, vOrV, opNot, opNotG, vIfE, opTup, opLst, opLstO, Vl.opLen, Vl.opInt, opList, opListO, opTuple, opII, gMax, gMin, vM, vM0, isT, xPop, Vl.opAppend, opExtend, opJoin, vgName, vgTup, vgCons, vgNil, kOpt_some, kOpn_some, vSl, vPart, vNoPart, opSl, opSlO, opRev, opCallK, ownD, ownO, objs, renum, uniq, getS, putS, vCall0, vFor, vSeqI, vTupI, vRng1, vRng2, vEnum, vZip, chkOf, vLcK, vYes, finD, finO, En.wipe, wipeE, En.trim, trimS, dropNone, clr, wth, Vl.ret, takeS, startV,  List.map_cons, List.map_nil, List.length_cons, List.length_nil, List.cons_append, List.nil_append, List.replicate, List.getElem?_cons_succ, List.getElem?_cons_zero, List.getElem?_nil, List.set_cons_succ, List.set_cons_zero, List.set_nil, List.all_nil, List.all_cons, Bool.true_and, Option.map_some, Option.map_none, if_true, if_false, decide_eq_true_eq, Bool.false_eq_true, List.take_succ_cons, List.take_zero, List.take_nil, List.drop_succ_cons, List.drop_zero, List.drop_nil, reduceIte, reduceCtorEq]
      refine ⟨pn, fun r c' n' r0 r1 pn' => ?_⟩
      split
      · simp only [t_Lkind_1, flatD, List.any_cons, List.any_nil, eqv_str, eqv_int, cut1, Bool.or_false, Bool.or_true, Bool.and_self, Bool.and_true, Bool.and_false, Bool.false_or, Bool.true_or, and_self, ofs_inj, ofs_app, ofs_len, String.reduceEq, String.reduceNe, String.reduceAppend, decide_true, decide_false, Bool.not_true, Bool.not_false, sz0, sz1, sz2, sz3, sz4, sz5, sz6, sz7, sz8, sz9, sz10, sz11, sz12, sz13, sz14, sz15, sz16, sz17, sz18, sz19, sz20, sz21, sz22, sz23, sz24, sz25, cpow1018, true_and, and_true, Nat.reduceAdd, Nat.reduceLT, Nat.reduceSub, Int.reduceNe, Int.reduceEq, Int.reduceLT, Int.reduceLE, Int.reduceToNat, ne_eq, not_false_eq_true, List.length_map, Nat.lt_irrefl, dV_nx, dV_rt, at0, at1, at2, at3, ix20, ix21, vSeq, vIfS, vTest, vTruth, truth, v2, v1, vN, vCons, vNil, vVar, vC, xIx, Vl.opI0, Vl.opI, pk, vSet, vAsg, xgSub, vRet, vRetN, vNext, vDrop, vBreak, vCont, asD, asDs, opMod, opDiv, opMul2, Vl.opAdd, opSub, opPow, opLt, Vl.opLe, opGt, Vl.opGe, xEq, okEq_str, okEq_int, Vl.opIn3, pkm, gModI, gDivI, gSubI, gMulI, gPowI, gGt, gLt, gLe, gGe, vNotT, vAndT, vOrT, vAndV, vOrV, opNot, opNotG, vIfE, opTup, opLst, opLstO, Vl.opLen, Vl.opInt, opList, opListO, opTuple, opII, gMax, gMin, vM, vM0, isT, xPop, Vl.opAppend, opExtend, opJoin, vgName, vgTup, vgCons, vgNil, kOpt_some, kOpn_some, vSl, vPart, vNoPart, opSl, opSlO, opRev, opCallK, ownD, ownO, objs, renum, uniq, getS, putS, vCall0, vFor, vSeqI, vTupI, vRng1, vRng2, vEnum, vZip, chkOf, vLcK, vYes, finD, finO, En.wipe, wipeE, En.trim, trimS, dropNone, clr, wth, Vl.ret, takeS, startV,  List.map_cons, List.map_nil, List.length_cons, List.length_nil, List.cons_append, List.nil_append, List.replicate, List.getElem?_cons_succ, List.getElem?_cons_zero, List.getElem?_nil, List.set_cons_succ, List.set_cons_zero, List.set_nil, List.all_nil, List.all_cons, Bool.true_and, Option.map_some, Option.map_none, if_true, if_false, decide_eq_true_eq, Bool.false_eq_true, List.take_succ_cons, List.take_zero, List.take_nil, List.drop_succ_cons, List.drop_zero, List.drop_nil, reduceIte, reduceCtorEq]
        exact k .one _ _ (by simp only [Kd.leaves]; omega) trivial pn'
      · simp only [t_Lkind_2, pTake, flatD, List.any_cons, List.any_nil, eqv_str, eqv_int, cut1, Bool.or_false, Bool.or_true, Bool.and_self, Bool.and_true, Bool.and_false, Bool.false_or, Bool.true_or, and_self, ofs_inj, ofs_app, ofs_len, String.reduceEq, String.reduceNe, String.reduceAppend, decide_true, decide_false, Bool.not_true, Bool.not_false, sz0, sz1, sz2, sz3, sz4, sz5, sz6, sz7, sz8, sz9, sz10, sz11, sz12, sz13, sz14, sz15, sz16, sz17, sz18, sz19, sz20, sz21, sz22, sz23, sz24, sz25, cpow1018, true_and, and_true, Nat.reduceAdd, Nat.reduceLT, Nat.reduceSub, Int.reduceNe, Int.reduceEq, Int.reduceLT, Int.reduceLE, Int.reduceToNat, ne_eq, not_false_eq_true, List.length_map, Nat.lt_irrefl, dV_nx, dV_rt, at0, at1, at2, at3, ix20, ix21, vSeq, vIfS, vTest, vTruth, truth, v2, v1, vN, vCons, vNil, vVar, vC, xIx, Vl.opI0, Vl.opI, pk, vSet, vAsg, xgSub, vRet, vRetN, vNext, vDrop, vBreak, vCont, asD, asDs, opMod, opDiv, opMul2, Vl.opAdd, opSub, opPow, opLt, Vl.opLe, opGt, Vl.opGe, xEq, okEq_str, okEq_int, Vl.opIn3, pkm, gModI, gDivI, gSubI, gMulI, gPowI, gGt, gLt, gLe, gGe, vNotT, vAndT, vOrT, vAndV, vOrV, opNot, opNotG, vIfE, opTup, opLst, opLstO, Vl.opLen, Vl.opInt, opList, opListO, opTuple, opII, gMax, gMin, vM, vM0, isT, xPop, Vl.opAppend, opExtend, opJoin, vgName, vgTup, vgCons, vgNil, kOpt_some, kOpn_some, vSl, vPart, vNoPart, opSl, opSlO, opRev, opCallK, ownD, ownO, objs, renum, uniq, getS, putS, vCall0, vFor, vSeqI, vTupI, vRng1, vRng2, vEnum, vZip, chkOf, vLcK, vYes, finD, finO, En.wipe, wipeE, En.trim, trimS, dropNone, clr, wth, Vl.ret, takeS, startV,  List.map_cons, List.map_nil, List.length_cons, List.length_nil, List.cons_append, List.nil_append, List.replicate, List.getElem?_cons_succ, List.getElem?_cons_zero, List.getElem?_nil, List.set_cons_succ, List.set_cons_zero, List.set_nil, List.all_nil, List.all_cons, Bool.true_and, Option.map_some, Option.map_none, if_true, if_false, decide_eq_true_eq, Bool.false_eq_true, List.take_succ_cons, List.take_zero, List.take_nil, List.drop_succ_cons, List.drop_zero, List.drop_nil, reduceIte, reduceCtorEq]
        refine ⟨pn', by omega, by omega, fun r c' n' r0 r1 pn' => ?_⟩
        obtain ⟨d, hd, hm⟩ := at_any (xs := ms.map PyData.str) r0 (by rw [List.length_map]; exact r1)
        obtain ⟨x, hx, rfl⟩ := List.mem_map.mp hm
        simp only [hd, flatD, List.any_cons, List.any_nil, eqv_str, eqv_int, cut1, Bool.or_false, Bool.or_true, Bool.and_self, Bool.and_true, Bool.and_false, Bool.false_or, Bool.true_or, and_self, ofs_inj, ofs_app, ofs_len, String.reduceEq, String.reduceNe, String.reduceAppend, decide_true, decide_false, Bool.not_true, Bool.not_false, sz0, sz1, sz2, sz3, sz4, sz5, sz6, sz7, sz8, sz9, sz10, sz11, sz12, sz13, sz14, sz15, sz16, sz17, sz18, sz19, sz20, sz21, sz22, sz23, sz24, sz25, cpow1018, true_and, and_true, Nat.reduceAdd, Nat.reduceLT, Nat.reduceSub, Int.reduceNe, Int.reduceEq, Int.reduceLT, Int.reduceLE, Int.reduceToNat, ne_eq, not_false_eq_true, List.length_map, Nat.lt_irrefl, dV_nx, dV_rt, at0, at1, at2, at3, ix20, ix21, vSeq, vIfS, vTest, vTruth, truth, v2, v1, vN, vCons, vNil, vVar, vC, xIx, Vl.opI0, Vl.opI, pk, vSet, vAsg, xgSub, vRet, vRetN, vNext, vDrop, vBreak, vCont, asD, asDs, opMod, opDiv, opMul2, Vl.opAdd, opSub, opPow, opLt, Vl.opLe, opGt, Vl.opGe, xEq, okEq_str, okEq_int, Vl.opIn3, pkm, gModI, gDivI, gSubI, gMulI, gPowI, gGt, gLt, gLe, gGe, vNotT, vAndT, vOrT, vAndV, vOrV, opNot, opNotG, vIfE, opTup, opLst, opLstO, Vl.opLen, Vl.opInt, opList, opListO, opTuple, opII, gMax, gMin, vM, vM0, isT, xPop, Vl.opAppend, opExtend, opJoin, vgName, vgTup, vgCons, vgNil, kOpt_some, kOpn_some, vSl, vPart, vNoPart, opSl, opSlO, opRev, opCallK, ownD, ownO, objs, renum, uniq, getS, putS, vCall0, vFor, vSeqI, vTupI, vRng1, vRng2, vEnum, vZip, chkOf, vLcK, vYes, finD, finO, En.wipe, wipeE, En.trim, trimS, dropNone, clr, wth, Vl.ret, takeS, startV,  List.map_cons, List.map_nil, List.length_cons, List.length_nil, List.cons_append, List.nil_append, List.replicate, List.getElem?_cons_succ, List.getElem?_cons_zero, List.getElem?_nil, List.set_cons_succ, List.set_cons_zero, List.set_nil, List.all_nil, List.all_cons, Bool.true_and, Option.map_some, Option.map_none, if_true, if_false, decide_eq_true_eq, Bool.false_eq_true, List.take_succ_cons, List.take_zero, List.take_nil, List.drop_succ_cons, List.drop_zero, List.drop_nil, reduceIte, reduceCtorEq]
        exact k (.mark x) _ _ (by simp only [Kd.leaves]; omega) hx pn'
    · simp only [t_Lkind_7, pTake, flatD, List.any_cons, List.any_nil, eqv_str, eqv_int, cut1, Bool.or_false, Bool.or_true, Bool.and_self, Bool.and_true, Bool.and_false, Bool.false_or, Bool.true_or, and_self, ofs_inj, ofs_app, ofs_len, String.reduceEq, String.reduceNe, String.reduceAppend, decide_true, decide_false, Bool.not_true, Bool.not_false, sz0, sz1, sz2, sz3, sz4, sz5, sz6, sz7, sz8, sz9, sz10, sz11, sz12, sz13, sz14, sz15, sz16, sz17, sz18, sz19, sz20, sz21, sz22, sz23, sz24, sz25, cpow1018, true_and, and_true, Nat.reduceAdd, Nat.reduceLT, Nat.reduceSub, Int.reduceNe, Int.reduceEq, Int.reduceLT, Int.reduceLE, Int.reduceToNat, ne_eq, not_false_eq_true, List.length_map, Nat.lt_irrefl, dV_nx, dV_rt, at0, at1, at2, at3, ix20, ix21, vSeq, vIfS, vTest, vTruth, truth, v2, v1, vN, vCons, vNil, vVar, vC, xIx, Vl.opI0, Vl.opI, pk, vSet, vAsg, xgSub, vRet, vRetN, vNext, vDrop, vBreak, vCont, asD, asDs, opMod, opDiv, opMul2, Vl.opAdd, opSub, opPow, opLt, Vl.opLe, opGt, Vl.opGe, xEq, okEq_str, okEq_int, Vl.opIn3, pkm, gModI, gDivI, gSubI, gMulI, gPowI, gGt, gLt, gLe, gGe, vNotT, vAndT, vOrT, vAndV, vOrV, opNot, opNotG, vIfE, opTup, opLst, opLstO, Vl.opLen, Vl.opInt, opList, opListO, opTuple, opII, gMax, gMin, vM, vM0, isT, xPop, Vl.opAppend, opExtend, opJoin, vgName, vgTup, vgCons, vgNil, kOpt_some, kOpn_some, vSl, vPart, vNoPart, opSl, opSlO, opRev, opCallK, ownD, ownO, objs, renum, uniq, getS, putS, vCall0, vFor, vSeqI, vTupI, vRng1, vRng2, vEnum, vZip, chkOf, vLcK, vYes, finD, finO, En.wipe, wipeE, En.trim, trimS, dropNone, clr, wth, Vl.ret, takeS, startV,  List.map_cons, List.map_nil, List.length_cons, List.length_nil, List.cons_append, List.nil_append, List.replicate, List.getElem?_cons_succ, List.getElem?_cons_zero, List.getElem?_nil, List.set_cons_succ, List.set_cons_zero, List.set_nil, List.all_nil, List.all_cons, Bool.true_and, Option.map_some, Option.map_none, if_true, if_false, decide_eq_true_eq, Bool.false_eq_true, List.take_succ_cons, List.take_zero, List.take_nil, List.drop_succ_cons, List.drop_zero, List.drop_nil, reduceIte, reduceCtorEq]
      refine ⟨pn, by omega, by omega, fun r c' n' r0 r1 pn' => ?_⟩
      simp only [t_Lkind_6, pKind, flatD, List.any_cons, List.any_nil, eqv_str, eqv_int, cut1, Bool.or_false, Bool.or_true, Bool.and_self, Bool.and_true, Bool.and_false, Bool.false_or, Bool.true_or, and_self, ofs_inj, ofs_app, ofs_len, String.reduceEq, String.reduceNe, String.reduceAppend, decide_true, decide_false, Bool.not_true, Bool.not_false, sz0, sz1, sz2, sz3, sz4, sz5, sz6, sz7, sz8, sz9, sz10, sz11, sz12, sz13, sz14, sz15, sz16, sz17, sz18, sz19, sz20, sz21, sz22, sz23, sz24, sz25, cpow1018, true_and, and_true, Nat.reduceAdd, Nat.reduceLT, Nat.reduceSub, Int.reduceNe, Int.reduceEq, Int.reduceLT, Int.reduceLE, Int.reduceToNat, ne_eq, not_false_eq_true, List.length_map, Nat.lt_irrefl, dV_nx, dV_rt, at0, at1, at2, at3, ix20, ix21, vSeq, vIfS, vTest, vTruth, truth, v2, v1, vN, vCons, vNil, vVar, vC, xIx, Vl.opI0, Vl.opI, pk, vSet, vAsg, xgSub, vRet, vRetN, vNext, vDrop, vBreak, vCont, asD, asDs, opMod, opDiv, opMul2, Vl.opAdd, opSub, opPow, opLt, Vl.opLe, opGt, Vl.opGe, xEq, okEq_str, okEq_int, Vl.opIn3, pkm, gModI, gDivI, gSubI, gMulI, gPowI, gGt, gLt, gLe, gGe, vNotT, vAndT, vOrT, vAndV, vOrV, opNot, opNotG, vIfE, opTup, opLst, opLstO, Vl.opLen, Vl.opInt, opList, opListO, opTuple, opII, gMax, gMin, vM, vM0, isT, xPop, Vl.opAppend, opExtend, opJoin, vgName, vgTup, vgCons, vgNil, kOpt_some, kOpn_some, vSl, vPart, vNoPart, opSl, opSlO, opRev, opCallK, ownD, ownO, objs, renum, uniq, getS, putS, vCall0, vFor, vSeqI, vTupI, vRng1, vRng2, vEnum, vZip, chkOf, vLcK, vYes, finD, finO, En.wipe, wipeE, En.trim, trimS, dropNone, clr, wth, Vl.ret, takeS, startV,  List.map_cons, List.map_nil, List.length_cons, List.length_nil, List.cons_append, List.nil_append, List.replicate, List.getElem?_cons_succ, List.getElem?_cons_zero, List.getElem?_nil, List.set_cons_succ, List.set_cons_zero, List.set_nil, List.all_nil, List.all_cons, Bool.true_and, Option.map_some, Option.map_none, if_true, if_false, decide_eq_true_eq, Bool.false_eq_true, List.take_succ_cons, List.take_zero, List.take_nil, List.drop_succ_cons, List.drop_zero, List.drop_nil, reduceIte, reduceCtorEq]
      refine ⟨pn', by omega, by omega, by omega, ms, rfl, m0, m1, fun a c2 n2 ha oa pn2 => ?_⟩
      simp only [t_Lkind_5, pKind, flatD, List.any_cons, List.any_nil, eqv_str, eqv_int, cut1, Bool.or_false, Bool.or_true, Bool.and_self, Bool.and_true, Bool.and_false, Bool.false_or, Bool.true_or, and_self, ofs_inj, ofs_app, ofs_len, String.reduceEq, String.reduceNe, String.reduceAppend, decide_true, decide_false, Bool.not_true, Bool.not_false, sz0, sz1, sz2, sz3, sz4, sz5, sz6, sz7, sz8, sz9, sz10, sz11, sz12, sz13, sz14, sz15, sz16, sz17, sz18, sz19, sz20, sz21, sz22, sz23, sz24, sz25, cpow1018, true_and, and_true, Nat.reduceAdd, Nat.reduceLT, Nat.reduceSub, Int.reduceNe, Int.reduceEq, Int.reduceLT, Int.reduceLE, Int.reduceToNat, ne_eq, not_false_eq_true, List.length_map, Nat.lt_irrefl, dV_nx, dV_rt, at0, at1, at2, at3, ix20, ix21, vSeq, vIfS, vTest, vTruth, truth, v2, v1, vN, vCons, vNil, vVar, vC, xIx, Vl.opI0, Vl.opI, pk, vSet, vAsg, xgSub, vRet, vRetN, vNext, vDrop, vBreak, vCont, asD, asDs, opMod, opDiv, opMul2, Vl.opAdd, opSub, opPow, opLt, Vl.opLe, opGt, Vl.opGe, xEq, okEq_str, okEq_int, Vl.opIn3, pkm, gModI, gDivI, gSubI, gMulI, gPowI, gGt, gLt, gLe, gGe, vNotT, vAndT, vOrT, vAndV, vOrV, opNot, opNotG, vIfE, opTup, opLst, opLstO, Vl.opLen, Vl.opInt, opList, opListO, opTuple, opII, gMax, gMin, vM, vM0, isT, xPop, Vl.opAppend, opExtend, opJoin, vgName, vgTup, vgCons, vgNil, kOpt_some, kOpn_some, vSl, vPart, vNoPart, opSl, opSlO, opRev, opCallK, ownD, ownO, objs, renum, uniq, getS, putS, vCall0, vFor, vSeqI, vTupI, vRng1, vRng2, vEnum, vZip, chkOf, vLcK, vYes, finD, finO, En.wipe, wipeE, En.trim, trimS, dropNone, clr, wth, Vl.ret, takeS, startV,  List.map_cons, List.map_nil, List.length_cons, List.length_nil, List.cons_append, List.nil_append, List.replicate, List.getElem?_cons_succ, List.getElem?_cons_zero, List.getElem?_nil, List.set_cons_succ, List.set_cons_zero, List.set_nil, List.all_nil, List.all_cons, Bool.true_and, Option.map_some, Option.map_none, if_true, if_false, decide_eq_true_eq, Bool.false_eq_true, List.take_succ_cons, List.take_zero, List.take_nil, List.drop_succ_cons, List.drop_zero, List.drop_nil, reduceIte, reduceCtorEq]
      refine ⟨pn2, by omega, by omega, by omega, ms, rfl, m0, m1, fun b c3 n3 hb ob pn3 => ?_⟩
      simp only [t_Lkind_4, pTake, flatD, List.any_cons, List.any_nil, eqv_str, eqv_int, cut1, Bool.or_false, Bool.or_true, Bool.and_self, Bool.and_true, Bool.and_false, Bool.false_or, Bool.true_or, and_self, ofs_inj, ofs_app, ofs_len, String.reduceEq, String.reduceNe, String.reduceAppend, decide_true, decide_false, Bool.not_true, Bool.not_false, sz0, sz1, sz2, sz3, sz4, sz5, sz6, sz7, sz8, sz9, sz10, sz11, sz12, sz13, sz14, sz15, sz16, sz17, sz18, sz19, sz20, sz21, sz22, sz23, sz24, sz25, cpow1018, true_and, and_true, Nat.reduceAdd, Nat.reduceLT, Nat.reduceSub, Int.reduceNe, Int.reduceEq, Int.reduceLT, Int.reduceLE, Int.reduceToNat, ne_eq, not_false_eq_true, List.length_map, Nat.lt_irrefl, dV_nx, dV_rt, at0, at1, at2, at3, ix20, ix21, vSeq, vIfS, vTest, vTruth, truth, v2, v1, vN, vCons, vNil, vVar, vC, xIx, Vl.opI0, Vl.opI, pk, vSet, vAsg, xgSub, vRet, vRetN, vNext, vDrop, vBreak, vCont, asD, asDs, opMod, opDiv, opMul2, Vl.opAdd, opSub, opPow, opLt, Vl.opLe, opGt, Vl.opGe, xEq, okEq_str, okEq_int, Vl.opIn3, pkm, gModI, gDivI, gSubI, gMulI, gPowI, gGt, gLt, gLe, gGe, vNotT, vAndT, vOrT, vAndV, vOrV, opNot, opNotG, vIfE, opTup, opLst, opLstO, Vl.opLen, Vl.opInt, opList, opListO, opTuple, opII, gMax, gMin, vM, vM0, isT, xPop, Vl.opAppend, opExtend, opJoin, vgName, vgTup, vgCons, vgNil, kOpt_some, kOpn_some, vSl, vPart, vNoPart, opSl, opSlO, opRev, opCallK, ownD, ownO, objs, renum, uniq, getS, putS, vCall0, vFor, vSeqI, vTupI, vRng1, vRng2, vEnum, vZip, chkOf, vLcK, vYes, finD, finO, En.wipe, wipeE, En.trim, trimS, dropNone, clr, wth, Vl.ret, takeS, startV,  List.map_cons, List.map_nil, List.length_cons, List.length_nil, List.cons_append, List.nil_append, List.replicate, List.getElem?_cons_succ, List.getElem?_cons_zero, List.getElem?_nil, List.set_cons_succ, List.set_cons_zero, List.set_nil, List.all_nil, List.all_cons, Bool.true_and, Option.map_some, Option.map_none, if_true, if_false, decide_eq_true_eq, Bool.false_eq_true, List.take_succ_cons, List.take_zero, List.take_nil, List.drop_succ_cons, List.drop_zero, List.drop_nil, reduceIte, reduceCtorEq]
      refine ⟨pn3, fun r c' n' r0 r1 pn' => ?_⟩
      have kt := k (.to a b) c' n' (by simp only [Kd.leaves]; omega) ⟨oa, ob⟩ pn'
      have kb := k (.both a b) c' n' (by simp only [Kd.leaves]; omega) ⟨oa, ob⟩ pn'
      obtain rfl | rfl | rfl | rfl : r = 0 ∨ r = 1 ∨ r = 2 ∨ r = 3 := by omega
      all_goals simp only [flatD, List.any_cons, List.any_nil, eqv_str, eqv_int, cut1, Bool.or_false, Bool.or_true, Bool.and_self, Bool.and_true, Bool.and_false, Bool.false_or, Bool.true_or, and_self, ofs_inj, ofs_app, ofs_len, String.reduceEq, String.reduceNe, String.reduceAppend, decide_true, decide_false, Bool.not_true, Bool.not_false, sz0, sz1, sz2, sz3, sz4, sz5, sz6, sz7, sz8, sz9, sz10, sz11, sz12, sz13, sz14, sz15, sz16, sz17, sz18, sz19, sz20, sz21, sz22, sz23, sz24, sz25, cpow1018, true_and, and_true, Nat.reduceAdd, Nat.reduceLT, Nat.reduceSub, Int.reduceNe, Int.reduceEq, Int.reduceLT, Int.reduceLE, Int.reduceToNat, ne_eq, not_false_eq_true, List.length_map, Nat.lt_irrefl, dV_nx, dV_rt, at0, at1, at2, at3, ix20, ix21, vSeq, vIfS, vTest, vTruth, truth, v2, v1, vN, vCons, vNil, vVar, vC, xIx, Vl.opI0, Vl.opI, pk, vSet, vAsg, xgSub, vRet, vRetN, vNext, vDrop, vBreak, vCont, asD, asDs, opMod, opDiv, opMul2, Vl.opAdd, opSub, opPow, opLt, Vl.opLe, opGt, Vl.opGe, xEq, okEq_str, okEq_int, Vl.opIn3, pkm, gModI, gDivI, gSubI, gMulI, gPowI, gGt, gLt, gLe, gGe, vNotT, vAndT, vOrT, vAndV, vOrV, opNot, opNotG, vIfE, opTup, opLst, opLstO, Vl.opLen, Vl.opInt, opList, opListO, opTuple, opII, gMax, gMin, vM, vM0, isT, xPop, Vl.opAppend, opExtend, opJoin, vgName, vgTup, vgCons, vgNil, kOpt_some, kOpn_some, vSl, vPart, vNoPart, opSl, opSlO, opRev, opCallK, ownD, ownO, objs, renum, uniq, getS, putS, vCall0, vFor, vSeqI, vTupI, vRng1, vRng2, vEnum, vZip, chkOf, vLcK, vYes, finD, finO, En.wipe, wipeE, En.trim, trimS, dropNone, clr, wth, Vl.ret, takeS, startV,  List.map_cons, List.map_nil, List.length_cons, List.length_nil, List.cons_append, List.nil_append, List.replicate, List.getElem?_cons_succ, List.getElem?_cons_zero, List.getElem?_nil, List.set_cons_succ, List.set_cons_zero, List.set_nil, List.all_nil, List.all_cons, Bool.true_and, Option.map_some, Option.map_none, if_true, if_false, decide_eq_true_eq, Bool.false_eq_true, List.take_succ_cons, List.take_zero, List.take_nil, List.drop_succ_cons, List.drop_zero, List.drop_nil, reduceIte, reduceCtorEq]
      · exact kt
      · exact kt
      · exact kt
      · exact kb
end
end Kf
namespace Kf
open PySem L2 Vl PySem.Spec PyProof.Rows
def row14 : List (Str × Kd) := [("pa", .mark "a"), ("fa", .to (.mark "a") (.mark "a")), ("pb", .mark "b"), ("fb", .to (.mark "b") (.mark "b"))]
def pRow : VSp := fun ss st Kp => ss = [] ∧ st = [] ∧ Kp (.val (.list (row14.map encB))) []
/-- a part's own parts -/
def Pg.inn : Pg → List Pg
  | .name _ => []
  | .take _ _ p => [p]
  | .give p q => [p, q]
  | .pair p q => [p, q]
  | .first p => [p]
  | .second p => [p]
  | .thing => []
def Pg.isTake : Pg → Bool
  | .take _ _ _ => true
  | _ => false
def Pg.isPair : Pg → Bool
  | .pair _ _ => true
  | _ => false
def Pg.can : Pg → Bool
  | .give p _ => p.isTake
  | .first p => p.isPair
  | .second p => p.isPair
  | _ => false
def pInn : VSp := fun ss st Kp => ∃ p : Pg, ss = [.val p.enc] ∧ st = [] ∧ Kp (.val (.list (p.inn.map Pg.enc))) []
def pCan : VSp := fun ss st Kp => ∃ p : Pg, ss = [.val p.enc] ∧ st = [] ∧ Kp (.val (.bool p.can)) []
section
variable {P : Program} {w : World} {K : PySem.W.Frag} {mg : Str → Option Value} {base : Heap}
theorem f_row (Fd : Df K mg "_law_row" sLrow []) : VFn P w K mg base 1 "_law_row" [] pRow := by
  refine ok_Lrow Fd (fun ss st Kp h => by rw [h.1]; rfl) ?_
  rintro ss cs Kp ⟨rfl, rfl, k⟩
  simp only [t_Lrow_1, t_Lrow_2, t_Lrow_3, t_Lrow_4, t_Lrow, fl, flatD, List.any_cons, List.any_nil, eqv_str, eqv_int, cut1, Bool.or_false, Bool.or_true, Bool.and_self, Bool.and_true, Bool.and_false, Bool.false_or, Bool.true_or, and_self, ofs_inj, ofs_app, ofs_len, String.reduceEq, String.reduceNe, String.reduceAppend, decide_true, decide_false, Bool.not_true, Bool.not_false, sz0, sz1, sz2, sz3, sz4, sz5, sz6, sz7, sz8, sz9, sz10, sz11, sz12, sz13, sz14, sz15, sz16, sz17, sz18, sz19, sz20, sz21, sz22, sz23, sz24, sz25, cpow1018, true_and, and_true, Nat.reduceAdd, Nat.reduceLT, Nat.reduceSub, Int.reduceNe, Int.reduceEq, Int.reduceLT, Int.reduceLE, Int.reduceToNat, ne_eq, not_false_eq_true, List.length_map, Nat.lt_irrefl, dV_nx, dV_rt, at0, at1, at2, at3, ix20, ix21, vSeq, vIfS, vTest, vTruth, truth, v2, v1, vN, vCons, vNil, vVar, vC, xIx, Vl.opI0, Vl.opI, pk, vSet, vAsg, xgSub, vRet, vRetN, vNext, vDrop, vBreak, vCont, asD, asDs, opMod, opDiv, opMul2, Vl.opAdd, opSub, opPow, opLt, Vl.opLe, opGt, Vl.opGe, xEq, okEq_str, okEq_int, Vl.opIn3, pkm, gModI, gDivI, gSubI, gMulI, gPowI, gGt, gLt, gLe, gGe, vNotT, vAndT, vOrT, vAndV, vOrV, opNot, opNotG, vIfE, opTup, opLst, opLstO, Vl.opLen, Vl.opInt, opList, opListO, opTuple, opII, gMax, gMin, vM, vM0, isT, xPop, Vl.opAppend, opExtend, opJoin, vgName, vgTup, vgCons, vgNil, kOpt_some, kOpn_some, vSl, vPart, vNoPart, opSl, opSlO, opRev, opCallK, ownD, ownO, objs, renum, uniq, getS, putS, vCall0, vFor, vSeqI, vTupI, vRng1, vRng2, vEnum, vZip, chkOf, vLcK, vYes, finD, finO, En.wipe, wipeE, En.trim, trimS, dropNone, clr, wth, Vl.ret, takeS, startV,  List.map_cons, List.map_nil, List.length_cons, List.length_nil, List.cons_append, List.nil_append, List.replicate, List.getElem?_cons_succ, List.getElem?_cons_zero, List.getElem?_nil, List.set_cons_succ, List.set_cons_zero, List.set_nil, List.all_nil, List.all_cons, Bool.true_and, Option.map_some, Option.map_none, if_true, if_false, decide_eq_true_eq, Bool.false_eq_true, List.take_succ_cons, List.take_zero, List.take_nil, List.drop_succ_cons, List.drop_zero, List.drop_nil, reduceIte, reduceCtorEq]
  exact ⟨by decide, by decide, by decide, by decide, k⟩
theorem f_inner (Fd : Df K mg "_law_inner" sLinner ["_law_program_here"]) (B : Blt mg) : VFn P w K mg base 1 "_law_inner" ["_law_program_here"] pInn := by
  refine ok_Linner Fd B (fun ss st Kp ⟨p, h, _⟩ => by rw [h]; rfl) ?_
  rintro ss cs Kp ⟨p, rfl, rfl, k⟩
  cases p <;> simp only [t_Linner_1, t_Linner_2, t_Linner_3, t_Linner_4, t_Linner_5, t_Linner, Pg.enc, flatD, List.any_cons, List.any_nil, eqv_str, eqv_int, cut1, Bool.or_false, Bool.or_true, Bool.and_self, Bool.and_true, Bool.and_false, Bool.false_or, Bool.true_or, and_self, ofs_inj, ofs_app, ofs_len, String.reduceEq, String.reduceNe, String.reduceAppend, decide_true, decide_false, Bool.not_true, Bool.not_false, sz0, sz1, sz2, sz3, sz4, sz5, sz6, sz7, sz8, sz9, sz10, sz11, sz12, sz13, sz14, sz15, sz16, sz17, sz18, sz19, sz20, sz21, sz22, sz23, sz24, sz25, cpow1018, true_and, and_true, Nat.reduceAdd, Nat.reduceLT, Nat.reduceSub, Int.reduceNe, Int.reduceEq, Int.reduceLT, Int.reduceLE, Int.reduceToNat, ne_eq, not_false_eq_true, List.length_map, Nat.lt_irrefl, dV_nx, dV_rt, at0, at1, at2, at3, ix20, ix21, vSeq, vIfS, vTest, vTruth, truth, v2, v1, vN, vCons, vNil, vVar, vC, xIx, Vl.opI0, Vl.opI, pk, vSet, vAsg, xgSub, vRet, vRetN, vNext, vDrop, vBreak, vCont, asD, asDs, opMod, opDiv, opMul2, Vl.opAdd, opSub, opPow, opLt, Vl.opLe, opGt, Vl.opGe, xEq, okEq_str, okEq_int, Vl.opIn3, pkm, gModI, gDivI, gSubI, gMulI, gPowI, gGt, gLt, gLe, gGe, vNotT, vAndT, vOrT, vAndV, vOrV, opNot, opNotG, vIfE, opTup, opLst, opLstO, Vl.opLen, Vl.opInt, opList, opListO, opTuple, opII, gMax, gMin, vM, vM0, isT, xPop, Vl.opAppend, opExtend, opJoin, vgName, vgTup, vgCons, vgNil, kOpt_some, kOpn_some, vSl, vPart, vNoPart, opSl, opSlO, opRev, opCallK, ownD, ownO, objs, renum, uniq, getS, putS, vCall0, vFor, vSeqI, vTupI, vRng1, vRng2, vEnum, vZip, chkOf, vLcK, vYes, finD, finO, En.wipe, wipeE, En.trim, trimS, dropNone, clr, wth, Vl.ret, takeS, startV,  List.map_cons, List.map_nil, List.length_cons, List.length_nil, List.cons_append, List.nil_append, List.replicate, List.getElem?_cons_succ, List.getElem?_cons_zero, List.getElem?_nil, List.set_cons_succ, List.set_cons_zero, List.set_nil, List.all_nil, List.all_cons, Bool.true_and, Option.map_some, Option.map_none, if_true, if_false, decide_eq_true_eq, Bool.false_eq_true, List.take_succ_cons, List.take_zero, List.take_nil, List.drop_succ_cons, List.drop_zero, List.drop_nil, reduceIte, reduceCtorEq] <;> exact k
theorem f_can (Fd : Df K mg "_law_can" sLcan ["_law_part"]) : VFn P w K mg base 1 "_law_can" ["_law_part"] pCan := by
  refine ok_Lcan Fd (fun ss st Kp ⟨p, h, _⟩ => by rw [h]; rfl) ?_
  rintro ss cs Kp ⟨p, rfl, rfl, k⟩
  cases p with
  | give p q => cases p <;> simp only [t_Lcan_1, t_Lcan_2, t_Lcan_3, t_Lcan, Pg.enc, flatD, List.any_cons, List.any_nil, eqv_str, eqv_int, cut1, Bool.or_false, Bool.or_true, Bool.and_self, Bool.and_true, Bool.and_false, Bool.false_or, Bool.true_or, and_self, ofs_inj, ofs_app, ofs_len, String.reduceEq, String.reduceNe, String.reduceAppend, decide_true, decide_false, Bool.not_true, Bool.not_false, sz0, sz1, sz2, sz3, sz4, sz5, sz6, sz7, sz8, sz9, sz10, sz11, sz12, sz13, sz14, sz15, sz16, sz17, sz18, sz19, sz20, sz21, sz22, sz23, sz24, sz25, cpow1018, true_and, and_true, Nat.reduceAdd, Nat.reduceLT, Nat.reduceSub, Int.reduceNe, Int.reduceEq, Int.reduceLT, Int.reduceLE, Int.reduceToNat, ne_eq, not_false_eq_true, List.length_map, Nat.lt_irrefl, dV_nx, dV_rt, at0, at1, at2, at3, ix20, ix21, vSeq, vIfS, vTest, vTruth, truth, v2, v1, vN, vCons, vNil, vVar, vC, xIx, Vl.opI0, Vl.opI, pk, vSet, vAsg, xgSub, vRet, vRetN, vNext, vDrop, vBreak, vCont, asD, asDs, opMod, opDiv, opMul2, Vl.opAdd, opSub, opPow, opLt, Vl.opLe, opGt, Vl.opGe, xEq, okEq_str, okEq_int, Vl.opIn3, pkm, gModI, gDivI, gSubI, gMulI, gPowI, gGt, gLt, gLe, gGe, vNotT, vAndT, vOrT, vAndV, vOrV, opNot, opNotG, vIfE, opTup, opLst, opLstO, Vl.opLen, Vl.opInt, opList, opListO, opTuple, opII, gMax, gMin, vM, vM0, isT, xPop, Vl.opAppend, opExtend, opJoin, vgName, vgTup, vgCons, vgNil, kOpt_some, kOpn_some, vSl, vPart, vNoPart, opSl, opSlO, opRev, opCallK, ownD, ownO, objs, renum, uniq, getS, putS, vCall0, vFor, vSeqI, vTupI, vRng1, vRng2, vEnum, vZip, chkOf, vLcK, vYes, finD, finO, En.wipe, wipeE, En.trim, trimS, dropNone, clr, wth, Vl.ret, takeS, startV,  List.map_cons, List.map_nil, List.length_cons, List.length_nil, List.cons_append, List.nil_append, List.replicate, List.getElem?_cons_succ, List.getElem?_cons_zero, List.getElem?_nil, List.set_cons_succ, List.set_cons_zero, List.set_nil, List.all_nil, List.all_cons, Bool.true_and, Option.map_some, Option.map_none, if_true, if_false, decide_eq_true_eq, Bool.false_eq_true, List.take_succ_cons, List.take_zero, List.take_nil, List.drop_succ_cons, List.drop_zero, List.drop_nil, reduceIte, reduceCtorEq] <;> exact k
  | first p => cases p <;> simp only [t_Lcan_1, t_Lcan_2, t_Lcan_3, t_Lcan, Pg.enc, flatD, List.any_cons, List.any_nil, eqv_str, eqv_int, cut1, Bool.or_false, Bool.or_true, Bool.and_self, Bool.and_true, Bool.and_false, Bool.false_or, Bool.true_or, and_self, ofs_inj, ofs_app, ofs_len, String.reduceEq, String.reduceNe, String.reduceAppend, decide_true, decide_false, Bool.not_true, Bool.not_false, sz0, sz1, sz2, sz3, sz4, sz5, sz6, sz7, sz8, sz9, sz10, sz11, sz12, sz13, sz14, sz15, sz16, sz17, sz18, sz19, sz20, sz21, sz22, sz23, sz24, sz25, cpow1018, true_and, and_true, Nat.reduceAdd, Nat.reduceLT, Nat.reduceSub, Int.reduceNe, Int.reduceEq, Int.reduceLT, Int.reduceLE, Int.reduceToNat, ne_eq, not_false_eq_true, List.length_map, Nat.lt_irrefl, dV_nx, dV_rt, at0, at1, at2, at3, ix20, ix21, vSeq, vIfS, vTest, vTruth, truth, v2, v1, vN, vCons, vNil, vVar, vC, xIx, Vl.opI0, Vl.opI, pk, vSet, vAsg, xgSub, vRet, vRetN, vNext, vDrop, vBreak, vCont, asD, asDs, opMod, opDiv, opMul2, Vl.opAdd, opSub, opPow, opLt, Vl.opLe, opGt, Vl.opGe, xEq, okEq_str, okEq_int, Vl.opIn3, pkm, gModI, gDivI, gSubI, gMulI, gPowI, gGt, gLt, gLe, gGe, vNotT, vAndT, vOrT, vAndV, vOrV, opNot, opNotG, vIfE, opTup, opLst, opLstO, Vl.opLen, Vl.opInt, opList, opListO, opTuple, opII, gMax, gMin, vM, vM0, isT, xPop, Vl.opAppend, opExtend, opJoin, vgName, vgTup, vgCons, vgNil, kOpt_some, kOpn_some, vSl, vPart, vNoPart, opSl, opSlO, opRev, opCallK, ownD, ownO, objs, renum, uniq, getS, putS, vCall0, vFor, vSeqI, vTupI, vRng1, vRng2, vEnum, vZip, chkOf, vLcK, vYes, finD, finO, En.wipe, wipeE, En.trim, trimS, dropNone, clr, wth, Vl.ret, takeS, startV,  List.map_cons, List.map_nil, List.length_cons, List.length_nil, List.cons_append, List.nil_append, List.replicate, List.getElem?_cons_succ, List.getElem?_cons_zero, List.getElem?_nil, List.set_cons_succ, List.set_cons_zero, List.set_nil, List.all_nil, List.all_cons, Bool.true_and, Option.map_some, Option.map_none, if_true, if_false, decide_eq_true_eq, Bool.false_eq_true, List.take_succ_cons, List.take_zero, List.take_nil, List.drop_succ_cons, List.drop_zero, List.drop_nil, reduceIte, reduceCtorEq] <;> exact k
  | second p => cases p <;> simp only [t_Lcan_1, t_Lcan_2, t_Lcan_3, t_Lcan, Pg.enc, flatD, List.any_cons, List.any_nil, eqv_str, eqv_int, cut1, Bool.or_false, Bool.or_true, Bool.and_self, Bool.and_true, Bool.and_false, Bool.false_or, Bool.true_or, and_self, ofs_inj, ofs_app, ofs_len, String.reduceEq, String.reduceNe, String.reduceAppend, decide_true, decide_false, Bool.not_true, Bool.not_false, sz0, sz1, sz2, sz3, sz4, sz5, sz6, sz7, sz8, sz9, sz10, sz11, sz12, sz13, sz14, sz15, sz16, sz17, sz18, sz19, sz20, sz21, sz22, sz23, sz24, sz25, cpow1018, true_and, and_true, Nat.reduceAdd, Nat.reduceLT, Nat.reduceSub, Int.reduceNe, Int.reduceEq, Int.reduceLT, Int.reduceLE, Int.reduceToNat, ne_eq, not_false_eq_true, List.length_map, Nat.lt_irrefl, dV_nx, dV_rt, at0, at1, at2, at3, ix20, ix21, vSeq, vIfS, vTest, vTruth, truth, v2, v1, vN, vCons, vNil, vVar, vC, xIx, Vl.opI0, Vl.opI, pk, vSet, vAsg, xgSub, vRet, vRetN, vNext, vDrop, vBreak, vCont, asD, asDs, opMod, opDiv, opMul2, Vl.opAdd, opSub, opPow, opLt, Vl.opLe, opGt, Vl.opGe, xEq, okEq_str, okEq_int, Vl.opIn3, pkm, gModI, gDivI, gSubI, gMulI, gPowI, gGt, gLt, gLe, gGe, vNotT, vAndT, vOrT, vAndV, vOrV, opNot, opNotG, vIfE, opTup, opLst, opLstO, Vl.opLen, Vl.opInt, opList, opListO, opTuple, opII, gMax, gMin, vM, vM0, isT, xPop, Vl.opAppend, opExtend, opJoin, vgName, vgTup, vgCons, vgNil, kOpt_some, kOpn_some, vSl, vPart, vNoPart, opSl, opSlO, opRev, opCallK, ownD, ownO, objs, renum, uniq, getS, putS, vCall0, vFor, vSeqI, vTupI, vRng1, vRng2, vEnum, vZip, chkOf, vLcK, vYes, finD, finO, En.wipe, wipeE, En.trim, trimS, dropNone, clr, wth, Vl.ret, takeS, startV,  List.map_cons, List.map_nil, List.length_cons, List.length_nil, List.cons_append, List.nil_append, List.replicate, List.getElem?_cons_succ, List.getElem?_cons_zero, List.getElem?_nil, List.set_cons_succ, List.set_cons_zero, List.set_nil, List.all_nil, List.all_cons, Bool.true_and, Option.map_some, Option.map_none, if_true, if_false, decide_eq_true_eq, Bool.false_eq_true, List.take_succ_cons, List.take_zero, List.take_nil, List.drop_succ_cons, List.drop_zero, List.drop_nil, reduceIte, reduceCtorEq] <;> exact k
  | _ => simp only [t_Lcan_1, t_Lcan_2, t_Lcan_3, t_Lcan, Pg.enc, flatD, List.any_cons, List.any_nil, eqv_str, eqv_int, cut1, Bool.or_false, Bool.or_true, Bool.and_self, Bool.and_true, Bool.and_false, Bool.false_or, Bool.true_or, and_self, ofs_inj, ofs_app, ofs_len, String.reduceEq, String.reduceNe, String.reduceAppend, decide_true, decide_false, Bool.not_true, Bool.not_false, sz0, sz1, sz2, sz3, sz4, sz5, sz6, sz7, sz8, sz9, sz10, sz11, sz12, sz13, sz14, sz15, sz16, sz17, sz18, sz19, sz20, sz21, sz22, sz23, sz24, sz25, cpow1018, true_and, and_true, Nat.reduceAdd, Nat.reduceLT, Nat.reduceSub, Int.reduceNe, Int.reduceEq, Int.reduceLT, Int.reduceLE, Int.reduceToNat, ne_eq, not_false_eq_true, List.length_map, Nat.lt_irrefl, dV_nx, dV_rt, at0, at1, at2, at3, ix20, ix21, vSeq, vIfS, vTest, vTruth, truth, v2, v1, vN, vCons, vNil, vVar, vC, xIx, Vl.opI0, Vl.opI, pk, vSet, vAsg, xgSub, vRet, vRetN, vNext, vDrop, vBreak, vCont, asD, asDs, opMod, opDiv, opMul2, Vl.opAdd, opSub, opPow, opLt, Vl.opLe, opGt, Vl.opGe, xEq, okEq_str, okEq_int, Vl.opIn3, pkm, gModI, gDivI, gSubI, gMulI, gPowI, gGt, gLt, gLe, gGe, vNotT, vAndT, vOrT, vAndV, vOrV, opNot, opNotG, vIfE, opTup, opLst, opLstO, Vl.opLen, Vl.opInt, opList, opListO, opTuple, opII, gMax, gMin, vM, vM0, isT, xPop, Vl.opAppend, opExtend, opJoin, vgName, vgTup, vgCons, vgNil, kOpt_some, kOpn_some, vSl, vPart, vNoPart, opSl, opSlO, opRev, opCallK, ownD, ownO, objs, renum, uniq, getS, putS, vCall0, vFor, vSeqI, vTupI, vRng1, vRng2, vEnum, vZip, chkOf, vLcK, vYes, finD, finO, En.wipe, wipeE, En.trim, trimS, dropNone, clr, wth, Vl.ret, takeS, startV,  List.map_cons, List.map_nil, List.length_cons, List.length_nil, List.cons_append, List.nil_append, List.replicate, List.getElem?_cons_succ, List.getElem?_cons_zero, List.getElem?_nil, List.set_cons_succ, List.set_cons_zero, List.set_nil, List.all_nil, List.all_cons, Bool.true_and, Option.map_some, Option.map_none, if_true, if_false, decide_eq_true_eq, Bool.false_eq_true, List.take_succ_cons, List.take_zero, List.take_nil, List.drop_succ_cons, List.drop_zero, List.drop_nil, reduceIte, reduceCtorEq] <;> exact k
theorem f_programsin (Fd : Df K mg "programs_in" sprogramsin ["part"]) (B : Blt mg) : VFn P w K mg base 1 "programs_in" ["part"] pInn := by
  refine ok_programsin Fd B (fun ss st Kp ⟨p, h, _⟩ => by rw [h]; rfl) ?_
  rintro ss cs Kp ⟨p, rfl, rfl, k⟩
  cases p <;> simp only [t_programsin_1, t_programsin_2, t_programsin_3, t_programsin_4, t_programsin_5, t_programsin, Pg.enc, flatD, List.any_cons, List.any_nil, eqv_str, eqv_int, cut1, Bool.or_false, Bool.or_true, Bool.and_self, Bool.and_true, Bool.and_false, Bool.false_or, Bool.true_or, and_self, ofs_inj, ofs_app, ofs_len, String.reduceEq, String.reduceNe, String.reduceAppend, decide_true, decide_false, Bool.not_true, Bool.not_false, sz0, sz1, sz2, sz3, sz4, sz5, sz6, sz7, sz8, sz9, sz10, sz11, sz12, sz13, sz14, sz15, sz16, sz17, sz18, sz19, sz20, sz21, sz22, sz23, sz24, sz25, cpow1018, true_and, and_true, Nat.reduceAdd, Nat.reduceLT, Nat.reduceSub, Int.reduceNe, Int.reduceEq, Int.reduceLT, Int.reduceLE, Int.reduceToNat, ne_eq, not_false_eq_true, List.length_map, Nat.lt_irrefl, dV_nx, dV_rt, at0, at1, at2, at3, ix20, ix21, vSeq, vIfS, vTest, vTruth, truth, v2, v1, vN, vCons, vNil, vVar, vC, xIx, Vl.opI0, Vl.opI, pk, vSet, vAsg, xgSub, vRet, vRetN, vNext, vDrop, vBreak, vCont, asD, asDs, opMod, opDiv, opMul2, Vl.opAdd, opSub, opPow, opLt, Vl.opLe, opGt, Vl.opGe, xEq, okEq_str, okEq_int, Vl.opIn3, pkm, gModI, gDivI, gSubI, gMulI, gPowI, gGt, gLt, gLe, gGe, vNotT, vAndT, vOrT, vAndV, vOrV, opNot, opNotG, vIfE, opTup, opLst, opLstO, Vl.opLen, Vl.opInt, opList, opListO, opTuple, opII, gMax, gMin, vM, vM0, isT, xPop, Vl.opAppend, opExtend, opJoin, vgName, vgTup, vgCons, vgNil, kOpt_some, kOpn_some, vSl, vPart, vNoPart, opSl, opSlO, opRev, opCallK, ownD, ownO, objs, renum, uniq, getS, putS, vCall0, vFor, vSeqI, vTupI, vRng1, vRng2, vEnum, vZip, chkOf, vLcK, vYes, finD, finO, En.wipe, wipeE, En.trim, trimS, dropNone, clr, wth, Vl.ret, takeS, startV,  List.map_cons, List.map_nil, List.length_cons, List.length_nil, List.cons_append, List.nil_append, List.replicate, List.getElem?_cons_succ, List.getElem?_cons_zero, List.getElem?_nil, List.set_cons_succ, List.set_cons_zero, List.set_nil, List.all_nil, List.all_cons, Bool.true_and, Option.map_some, Option.map_none, if_true, if_false, decide_eq_true_eq, Bool.false_eq_true, List.take_succ_cons, List.take_zero, List.take_nil, List.drop_succ_cons, List.drop_zero, List.drop_nil, reduceIte, reduceCtorEq] <;> exact k
theorem f_canstep (Fd : Df K mg "can_step" scanstep ["part"]) : VFn P w K mg base 1 "can_step" ["part"] pCan := by
  refine ok_canstep Fd (fun ss st Kp ⟨p, h, _⟩ => by rw [h]; rfl) ?_
  rintro ss cs Kp ⟨p, rfl, rfl, k⟩
  cases p with
  | give p q => cases p <;> simp only [t_canstep_1, t_canstep_2, t_canstep_3, t_canstep, Pg.enc, flatD, List.any_cons, List.any_nil, eqv_str, eqv_int, cut1, Bool.or_false, Bool.or_true, Bool.and_self, Bool.and_true, Bool.and_false, Bool.false_or, Bool.true_or, and_self, ofs_inj, ofs_app, ofs_len, String.reduceEq, String.reduceNe, String.reduceAppend, decide_true, decide_false, Bool.not_true, Bool.not_false, sz0, sz1, sz2, sz3, sz4, sz5, sz6, sz7, sz8, sz9, sz10, sz11, sz12, sz13, sz14, sz15, sz16, sz17, sz18, sz19, sz20, sz21, sz22, sz23, sz24, sz25, cpow1018, true_and, and_true, Nat.reduceAdd, Nat.reduceLT, Nat.reduceSub, Int.reduceNe, Int.reduceEq, Int.reduceLT, Int.reduceLE, Int.reduceToNat, ne_eq, not_false_eq_true, List.length_map, Nat.lt_irrefl, dV_nx, dV_rt, at0, at1, at2, at3, ix20, ix21, vSeq, vIfS, vTest, vTruth, truth, v2, v1, vN, vCons, vNil, vVar, vC, xIx, Vl.opI0, Vl.opI, pk, vSet, vAsg, xgSub, vRet, vRetN, vNext, vDrop, vBreak, vCont, asD, asDs, opMod, opDiv, opMul2, Vl.opAdd, opSub, opPow, opLt, Vl.opLe, opGt, Vl.opGe, xEq, okEq_str, okEq_int, Vl.opIn3, pkm, gModI, gDivI, gSubI, gMulI, gPowI, gGt, gLt, gLe, gGe, vNotT, vAndT, vOrT, vAndV, vOrV, opNot, opNotG, vIfE, opTup, opLst, opLstO, Vl.opLen, Vl.opInt, opList, opListO, opTuple, opII, gMax, gMin, vM, vM0, isT, xPop, Vl.opAppend, opExtend, opJoin, vgName, vgTup, vgCons, vgNil, kOpt_some, kOpn_some, vSl, vPart, vNoPart, opSl, opSlO, opRev, opCallK, ownD, ownO, objs, renum, uniq, getS, putS, vCall0, vFor, vSeqI, vTupI, vRng1, vRng2, vEnum, vZip, chkOf, vLcK, vYes, finD, finO, En.wipe, wipeE, En.trim, trimS, dropNone, clr, wth, Vl.ret, takeS, startV,  List.map_cons, List.map_nil, List.length_cons, List.length_nil, List.cons_append, List.nil_append, List.replicate, List.getElem?_cons_succ, List.getElem?_cons_zero, List.getElem?_nil, List.set_cons_succ, List.set_cons_zero, List.set_nil, List.all_nil, List.all_cons, Bool.true_and, Option.map_some, Option.map_none, if_true, if_false, decide_eq_true_eq, Bool.false_eq_true, List.take_succ_cons, List.take_zero, List.take_nil, List.drop_succ_cons, List.drop_zero, List.drop_nil, reduceIte, reduceCtorEq] <;> exact k
  | first p => cases p <;> simp only [t_canstep_1, t_canstep_2, t_canstep_3, t_canstep, Pg.enc, flatD, List.any_cons, List.any_nil, eqv_str, eqv_int, cut1, Bool.or_false, Bool.or_true, Bool.and_self, Bool.and_true, Bool.and_false, Bool.false_or, Bool.true_or, and_self, ofs_inj, ofs_app, ofs_len, String.reduceEq, String.reduceNe, String.reduceAppend, decide_true, decide_false, Bool.not_true, Bool.not_false, sz0, sz1, sz2, sz3, sz4, sz5, sz6, sz7, sz8, sz9, sz10, sz11, sz12, sz13, sz14, sz15, sz16, sz17, sz18, sz19, sz20, sz21, sz22, sz23, sz24, sz25, cpow1018, true_and, and_true, Nat.reduceAdd, Nat.reduceLT, Nat.reduceSub, Int.reduceNe, Int.reduceEq, Int.reduceLT, Int.reduceLE, Int.reduceToNat, ne_eq, not_false_eq_true, List.length_map, Nat.lt_irrefl, dV_nx, dV_rt, at0, at1, at2, at3, ix20, ix21, vSeq, vIfS, vTest, vTruth, truth, v2, v1, vN, vCons, vNil, vVar, vC, xIx, Vl.opI0, Vl.opI, pk, vSet, vAsg, xgSub, vRet, vRetN, vNext, vDrop, vBreak, vCont, asD, asDs, opMod, opDiv, opMul2, Vl.opAdd, opSub, opPow, opLt, Vl.opLe, opGt, Vl.opGe, xEq, okEq_str, okEq_int, Vl.opIn3, pkm, gModI, gDivI, gSubI, gMulI, gPowI, gGt, gLt, gLe, gGe, vNotT, vAndT, vOrT, vAndV, vOrV, opNot, opNotG, vIfE, opTup, opLst, opLstO, Vl.opLen, Vl.opInt, opList, opListO, opTuple, opII, gMax, gMin, vM, vM0, isT, xPop, Vl.opAppend, opExtend, opJoin, vgName, vgTup, vgCons, vgNil, kOpt_some, kOpn_some, vSl, vPart, vNoPart, opSl, opSlO, opRev, opCallK, ownD, ownO, objs, renum, uniq, getS, putS, vCall0, vFor, vSeqI, vTupI, vRng1, vRng2, vEnum, vZip, chkOf, vLcK, vYes, finD, finO, En.wipe, wipeE, En.trim, trimS, dropNone, clr, wth, Vl.ret, takeS, startV,  List.map_cons, List.map_nil, List.length_cons, List.length_nil, List.cons_append, List.nil_append, List.replicate, List.getElem?_cons_succ, List.getElem?_cons_zero, List.getElem?_nil, List.set_cons_succ, List.set_cons_zero, List.set_nil, List.all_nil, List.all_cons, Bool.true_and, Option.map_some, Option.map_none, if_true, if_false, decide_eq_true_eq, Bool.false_eq_true, List.take_succ_cons, List.take_zero, List.take_nil, List.drop_succ_cons, List.drop_zero, List.drop_nil, reduceIte, reduceCtorEq] <;> exact k
  | second p => cases p <;> simp only [t_canstep_1, t_canstep_2, t_canstep_3, t_canstep, Pg.enc, flatD, List.any_cons, List.any_nil, eqv_str, eqv_int, cut1, Bool.or_false, Bool.or_true, Bool.and_self, Bool.and_true, Bool.and_false, Bool.false_or, Bool.true_or, and_self, ofs_inj, ofs_app, ofs_len, String.reduceEq, String.reduceNe, String.reduceAppend, decide_true, decide_false, Bool.not_true, Bool.not_false, sz0, sz1, sz2, sz3, sz4, sz5, sz6, sz7, sz8, sz9, sz10, sz11, sz12, sz13, sz14, sz15, sz16, sz17, sz18, sz19, sz20, sz21, sz22, sz23, sz24, sz25, cpow1018, true_and, and_true, Nat.reduceAdd, Nat.reduceLT, Nat.reduceSub, Int.reduceNe, Int.reduceEq, Int.reduceLT, Int.reduceLE, Int.reduceToNat, ne_eq, not_false_eq_true, List.length_map, Nat.lt_irrefl, dV_nx, dV_rt, at0, at1, at2, at3, ix20, ix21, vSeq, vIfS, vTest, vTruth, truth, v2, v1, vN, vCons, vNil, vVar, vC, xIx, Vl.opI0, Vl.opI, pk, vSet, vAsg, xgSub, vRet, vRetN, vNext, vDrop, vBreak, vCont, asD, asDs, opMod, opDiv, opMul2, Vl.opAdd, opSub, opPow, opLt, Vl.opLe, opGt, Vl.opGe, xEq, okEq_str, okEq_int, Vl.opIn3, pkm, gModI, gDivI, gSubI, gMulI, gPowI, gGt, gLt, gLe, gGe, vNotT, vAndT, vOrT, vAndV, vOrV, opNot, opNotG, vIfE, opTup, opLst, opLstO, Vl.opLen, Vl.opInt, opList, opListO, opTuple, opII, gMax, gMin, vM, vM0, isT, xPop, Vl.opAppend, opExtend, opJoin, vgName, vgTup, vgCons, vgNil, kOpt_some, kOpn_some, vSl, vPart, vNoPart, opSl, opSlO, opRev, opCallK, ownD, ownO, objs, renum, uniq, getS, putS, vCall0, vFor, vSeqI, vTupI, vRng1, vRng2, vEnum, vZip, chkOf, vLcK, vYes, finD, finO, En.wipe, wipeE, En.trim, trimS, dropNone, clr, wth, Vl.ret, takeS, startV,  List.map_cons, List.map_nil, List.length_cons, List.length_nil, List.cons_append, List.nil_append, List.replicate, List.getElem?_cons_succ, List.getElem?_cons_zero, List.getElem?_nil, List.set_cons_succ, List.set_cons_zero, List.set_nil, List.all_nil, List.all_cons, Bool.true_and, Option.map_some, Option.map_none, if_true, if_false, decide_eq_true_eq, Bool.false_eq_true, List.take_succ_cons, List.take_zero, List.take_nil, List.drop_succ_cons, List.drop_zero, List.drop_nil, reduceIte, reduceCtorEq] <;> exact k
  | _ => simp only [t_canstep_1, t_canstep_2, t_canstep_3, t_canstep, Pg.enc, flatD, List.any_cons, List.any_nil, eqv_str, eqv_int, cut1, Bool.or_false, Bool.or_true, Bool.and_self, Bool.and_true, Bool.and_false, Bool.false_or, Bool.true_or, and_self, ofs_inj, ofs_app, ofs_len, String.reduceEq, String.reduceNe, String.reduceAppend, decide_true, decide_false, Bool.not_true, Bool.not_false, sz0, sz1, sz2, sz3, sz4, sz5, sz6, sz7, sz8, sz9, sz10, sz11, sz12, sz13, sz14, sz15, sz16, sz17, sz18, sz19, sz20, sz21, sz22, sz23, sz24, sz25, cpow1018, true_and, and_true, Nat.reduceAdd, Nat.reduceLT, Nat.reduceSub, Int.reduceNe, Int.reduceEq, Int.reduceLT, Int.reduceLE, Int.reduceToNat, ne_eq, not_false_eq_true, List.length_map, Nat.lt_irrefl, dV_nx, dV_rt, at0, at1, at2, at3, ix20, ix21, vSeq, vIfS, vTest, vTruth, truth, v2, v1, vN, vCons, vNil, vVar, vC, xIx, Vl.opI0, Vl.opI, pk, vSet, vAsg, xgSub, vRet, vRetN, vNext, vDrop, vBreak, vCont, asD, asDs, opMod, opDiv, opMul2, Vl.opAdd, opSub, opPow, opLt, Vl.opLe, opGt, Vl.opGe, xEq, okEq_str, okEq_int, Vl.opIn3, pkm, gModI, gDivI, gSubI, gMulI, gPowI, gGt, gLt, gLe, gGe, vNotT, vAndT, vOrT, vAndV, vOrV, opNot, opNotG, vIfE, opTup, opLst, opLstO, Vl.opLen, Vl.opInt, opList, opListO, opTuple, opII, gMax, gMin, vM, vM0, isT, xPop, Vl.opAppend, opExtend, opJoin, vgName, vgTup, vgCons, vgNil, kOpt_some, kOpn_some, vSl, vPart, vNoPart, opSl, opSlO, opRev, opCallK, ownD, ownO, objs, renum, uniq, getS, putS, vCall0, vFor, vSeqI, vTupI, vRng1, vRng2, vEnum, vZip, chkOf, vLcK, vYes, finD, finO, En.wipe, wipeE, En.trim, trimS, dropNone, clr, wth, Vl.ret, takeS, startV,  List.map_cons, List.map_nil, List.length_cons, List.length_nil, List.cons_append, List.nil_append, List.replicate, List.getElem?_cons_succ, List.getElem?_cons_zero, List.getElem?_nil, List.set_cons_succ, List.set_cons_zero, List.set_nil, List.all_nil, List.all_cons, Bool.true_and, Option.map_some, Option.map_none, if_true, if_false, decide_eq_true_eq, Bool.false_eq_true, List.take_succ_cons, List.take_zero, List.take_nil, List.drop_succ_cons, List.drop_zero, List.drop_nil, reduceIte, reduceCtorEq] <;> exact k
end
end Kf
namespace Kf
open PySem L2 Vl PySem.Spec PyProof.Rows
def encPl (pl : List Int) : D := .list (pl.map .int)
def here (b : Bool) (pl : List Int) : List (List Int) := if b then [pl] else []
def Pg.places : Pg → List Int → List (List Int)
  | .name _, _ => []
  | .take _ _ p, pl => p.places (pl ++ [0])
  | .give p q, pl => here p.isTake pl ++ p.places (pl ++ [0]) ++ q.places (pl ++ [1])
  | .pair p q, pl => p.places (pl ++ [0]) ++ q.places (pl ++ [1])
  | .first p, pl => here p.isPair pl ++ p.places (pl ++ [0])
  | .second p, pl => here p.isPair pl ++ p.places (pl ++ [0])
  | .thing, _ => []
theorem here_len (b : Bool) (pl : List Int) : (here b pl).length ≤ 1 := by
  cases b <;> simp [here]
theorem Pg.places_len : ∀ (p : Pg) (pl : List Int), (p.places pl).length ≤ p.size
  | .name _, _ => Nat.zero_le _
  | .take _ _ p, pl => by
    have := p.places_len (pl ++ [0])
    simp only [Pg.places, Pg.size]
    omega
  | .give p q, pl => by
    have h1 := p.places_len (pl ++ [0])
    have h2 := q.places_len (pl ++ [1])
    have h3 := here_len p.isTake pl
    simp only [Pg.places, Pg.size, List.length_append]
    omega
  | .pair p q, pl => by
    have h1 := p.places_len (pl ++ [0])
    have h2 := q.places_len (pl ++ [1])
    simp only [Pg.places, Pg.size, List.length_append]
    omega
  | .first p, pl => by
    have h1 := p.places_len (pl ++ [0])
    have h3 := here_len p.isPair pl
    simp only [Pg.places, Pg.size, List.length_append]
    omega
  | .second p, pl => by
    have h1 := p.places_len (pl ++ [0])
    have h3 := here_len p.isPair pl
    simp only [Pg.places, Pg.size, List.length_append]
    omega
  | .thing, _ => Nat.zero_le _
def pPlaces (N : Nat) : VSp := fun ss st Kp => ∃ (p : Pg) (pl : List Int), ss = [.val p.enc, .val (encPl pl)] ∧ st = [] ∧ p.deep < N ∧ pl.length + p.deep ≤ 1000 ∧ p.size ≤ 2000000 ∧ Kp (.val (.list ((p.places pl).map encPl))) []
theorem big {n : Nat} (h : n ≤ 16000000) : n ≤ sizeLine := Nat.le_trans h (by decide)
section
variable {P : Program} {w : World} {K : PySem.W.Frag} {mg : Str → Option Value} {base : Heap}
theorem f_places (Fd : Df K mg "_law_places" sLplaces ["_law_part", "_law_place"]) (B : Blt mg) (GC : VFn P w K mg base 1 "_law_can" ["_law_part"] pCan) (GI : VFn P w K mg base 1 "_law_inner" ["_law_program_here"] pInn) :
    ∀ N : Nat, VFn P w K mg base (N + 2) "_law_places" ["_law_part", "_law_place"] (pPlaces N) := by
  intro N
  induction N with
  | zero => exact vacF Fd scLplaces fun ss st Kp ⟨p, pl, _, _, h, _⟩ => Nat.not_lt_zero _ h
  | succ N ih =>
    refine ok_Lplaces Fd GC (by omega) GI (by omega) ih (Nat.le_refl _) B (fun ss st Kp ⟨p, pl, h, _⟩ => by rw [h]; rfl) ?_
    rintro ss cs Kp ⟨p, pl, rfl, rfl, hd, hl, hs, k⟩
    simp only [t_Lplaces, t_Lplaces_4, pCan, encPl, flatD, List.any_cons, List.any_nil, eqv_str, eqv_int, cut1, Bool.or_false, Bool.or_true, Bool.and_self, Bool.and_true, Bool.and_false, Bool.false_or, Bool.true_or, and_self, ofs_inj, ofs_app, ofs_len, String.reduceEq, String.reduceNe, String.reduceAppend, decide_true, decide_false, Bool.not_true, Bool.not_false, sz0, sz1, sz2, sz3, sz4, sz5, sz6, sz7, sz8, sz9, sz10, sz11, sz12, sz13, sz14, sz15, sz16, sz17, sz18, sz19, sz20, sz21, sz22, sz23, sz24, sz25, cpow1018, true_and, and_true, Nat.reduceAdd, Nat.reduceLT, Nat.reduceSub, Int.reduceNe, Int.reduceEq, Int.reduceLT, Int.reduceLE, Int.reduceToNat, ne_eq, not_false_eq_true, List.length_map, Nat.lt_irrefl, dV_nx, dV_rt, at0, at1, at2, at3, ix20, ix21, vSeq, vIfS, vTest, vTruth, truth, v2, v1, vN, vCons, vNil, vVar, vC, xIx, Vl.opI0, Vl.opI, pk, vSet, vAsg, xgSub, vRet, vRetN, vNext, vDrop, vBreak, vCont, asD, asDs, opMod, opDiv, opMul2, Vl.opAdd, opSub, opPow, opLt, Vl.opLe, opGt, Vl.opGe, xEq, okEq_str, okEq_int, Vl.opIn3, pkm, gModI, gDivI, gSubI, gMulI, gPowI, gGt, gLt, gLe, gGe, vNotT, vAndT, vOrT, vAndV, vOrV, opNot, opNotG, vIfE, opTup, opLst, opLstO, Vl.opLen, Vl.opInt, opList, opListO, opTuple, opII, gMax, gMin, vM, vM0, isT, xPop, Vl.opAppend, opExtend, opJoin, vgName, vgTup, vgCons, vgNil, kOpt_some, kOpn_some, vSl, vPart, vNoPart, opSl, opSlO, opRev, opCallK, ownD, ownO, objs, renum, uniq, getS, putS, vCall0, vFor, vSeqI, vTupI, vRng1, vRng2, vEnum, vZip, chkOf, vLcK, vYes, finD, finO, En.wipe, wipeE, En.trim, trimS, dropNone, clr, wth, Vl.ret, takeS, startV,  List.map_cons, List.map_nil, List.length_cons, List.length_nil, List.cons_append, List.nil_append, List.replicate, List.getElem?_cons_succ, List.getElem?_cons_zero, List.getElem?_nil, List.set_cons_succ, List.set_cons_zero, List.set_nil, List.all_nil, List.all_cons, Bool.true_and, Option.map_some, Option.map_none, if_true, if_false, decide_eq_true_eq, Bool.false_eq_true, List.take_succ_cons, List.take_zero, List.take_nil, List.drop_succ_cons, List.drop_zero, List.drop_nil, reduceIte, reduceCtorEq]
    refine ⟨p, rfl, ?_⟩
    have main : ∀ h : List (List Int), h = here p.can pl → t_Lplaces_3 pCan pInn (pPlaces N) (dV 0 Kp) ⟨[some (.val p.enc), some (.val (.list (pl.map .int))), some (.val (.list (h.map encPl))), none, none], []⟩ := fun h hh => by
      simp only [t_Lplaces_3, pInn, flatD, List.any_cons, List.any_nil, eqv_str, eqv_int, cut1, Bool.or_false, Bool.or_true, Bool.and_self, Bool.and_true, Bool.and_false, Bool.false_or, Bool.true_or, and_self, ofs_inj, ofs_app, ofs_len, String.reduceEq, String.reduceNe, String.reduceAppend, decide_true, decide_false, Bool.not_true, Bool.not_false, sz0, sz1, sz2, sz3, sz4, sz5, sz6, sz7, sz8, sz9, sz10, sz11, sz12, sz13, sz14, sz15, sz16, sz17, sz18, sz19, sz20, sz21, sz22, sz23, sz24, sz25, cpow1018, true_and, and_true, Nat.reduceAdd, Nat.reduceLT, Nat.reduceSub, Int.reduceNe, Int.reduceEq, Int.reduceLT, Int.reduceLE, Int.reduceToNat, ne_eq, not_false_eq_true, List.length_map, Nat.lt_irrefl, dV_nx, dV_rt, at0, at1, at2, at3, ix20, ix21, vSeq, vIfS, vTest, vTruth, truth, v2, v1, vN, vCons, vNil, vVar, vC, xIx, Vl.opI0, Vl.opI, pk, vSet, vAsg, xgSub, vRet, vRetN, vNext, vDrop, vBreak, vCont, asD, asDs, opMod, opDiv, opMul2, Vl.opAdd, opSub, opPow, opLt, Vl.opLe, opGt, Vl.opGe, xEq, okEq_str, okEq_int, Vl.opIn3, pkm, gModI, gDivI, gSubI, gMulI, gPowI, gGt, gLt, gLe, gGe, vNotT, vAndT, vOrT, vAndV, vOrV, opNot, opNotG, vIfE, opTup, opLst, opLstO, Vl.opLen, Vl.opInt, opList, opListO, opTuple, opII, gMax, gMin, vM, vM0, isT, xPop, Vl.opAppend, opExtend, opJoin, vgName, vgTup, vgCons, vgNil, kOpt_some, kOpn_some, vSl, vPart, vNoPart, opSl, opSlO, opRev, opCallK, ownD, ownO, objs, renum, uniq, getS, putS, vCall0, vFor, vSeqI, vTupI, vRng1, vRng2, vEnum, vZip, chkOf, vLcK, vYes, finD, finO, En.wipe, wipeE, En.trim, trimS, dropNone, clr, wth, Vl.ret, takeS, startV,  List.map_cons, List.map_nil, List.length_cons, List.length_nil, List.cons_append, List.nil_append, List.replicate, List.getElem?_cons_succ, List.getElem?_cons_zero, List.getElem?_nil, List.set_cons_succ, List.set_cons_zero, List.set_nil, List.all_nil, List.all_cons, Bool.true_and, Option.map_some, Option.map_none, if_true, if_false, decide_eq_true_eq, Bool.false_eq_true, List.take_succ_cons, List.take_zero, List.take_nil, List.drop_succ_cons, List.drop_zero, List.drop_nil, reduceIte, reduceCtorEq]
      refine ⟨p, rfl, ?_⟩
      have l1 := p.places_len
      have l2 : h.length ≤ 1 := hh ▸ here_len p.can pl
      have e0 : ∀ q : Pg, [Sl.val q.enc, Sl.val (PyData.list (pl.map PyData.int ++ [PyData.int ↑(0 : Nat)]))] = [Sl.val q.enc, Sl.val (encPl (pl ++ [0]))] := fun q => by simp [encPl]
      have e1 : ∀ q : Pg, [Sl.val q.enc, Sl.val (PyData.list (pl.map PyData.int ++ [PyData.int ↑(0 + 1 : Nat)]))] = [Sl.val q.enc, Sl.val (encPl (pl ++ [1]))] := fun q => by simp [encPl]
      have n0 : ∀ i : Int, (pl ++ [i]).length = pl.length + 1 := fun i => by simp
      cases p with
      | name x =>
        simp only [Pg.inn, enumD, fl, t_Lplaces_1, t_Lplaces_2, t_Lplaces_3, t_Lplaces_4, t_Lplaces, flatD, List.any_cons, List.any_nil, eqv_str, eqv_int, cut1, Bool.or_false, Bool.or_true, Bool.and_self, Bool.and_true, Bool.and_false, Bool.false_or, Bool.true_or, and_self, ofs_inj, ofs_app, ofs_len, String.reduceEq, String.reduceNe, String.reduceAppend, decide_true, decide_false, Bool.not_true, Bool.not_false, sz0, sz1, sz2, sz3, sz4, sz5, sz6, sz7, sz8, sz9, sz10, sz11, sz12, sz13, sz14, sz15, sz16, sz17, sz18, sz19, sz20, sz21, sz22, sz23, sz24, sz25, cpow1018, true_and, and_true, Nat.reduceAdd, Nat.reduceLT, Nat.reduceSub, Int.reduceNe, Int.reduceEq, Int.reduceLT, Int.reduceLE, Int.reduceToNat, ne_eq, not_false_eq_true, List.length_map, Nat.lt_irrefl, dV_nx, dV_rt, at0, at1, at2, at3, ix20, ix21, vSeq, vIfS, vTest, vTruth, truth, v2, v1, vN, vCons, vNil, vVar, vC, xIx, Vl.opI0, Vl.opI, pk, vSet, vAsg, xgSub, vRet, vRetN, vNext, vDrop, vBreak, vCont, asD, asDs, opMod, opDiv, opMul2, Vl.opAdd, opSub, opPow, opLt, Vl.opLe, opGt, Vl.opGe, xEq, okEq_str, okEq_int, Vl.opIn3, pkm, gModI, gDivI, gSubI, gMulI, gPowI, gGt, gLt, gLe, gGe, vNotT, vAndT, vOrT, vAndV, vOrV, opNot, opNotG, vIfE, opTup, opLst, opLstO, Vl.opLen, Vl.opInt, opList, opListO, opTuple, opII, gMax, gMin, vM, vM0, isT, xPop, Vl.opAppend, opExtend, opJoin, vgName, vgTup, vgCons, vgNil, kOpt_some, kOpn_some, vSl, vPart, vNoPart, opSl, opSlO, opRev, opCallK, ownD, ownO, objs, renum, uniq, getS, putS, vCall0, vFor, vSeqI, vTupI, vRng1, vRng2, vEnum, vZip, chkOf, vLcK, vYes, finD, finO, En.wipe, wipeE, En.trim, trimS, dropNone, clr, wth, Vl.ret, takeS, startV,  List.map_cons, List.map_nil, List.length_cons, List.length_nil, List.cons_append, List.nil_append, List.replicate, List.getElem?_cons_succ, List.getElem?_cons_zero, List.getElem?_nil, List.set_cons_succ, List.set_cons_zero, List.set_nil, List.all_nil, List.all_cons, Bool.true_and, Option.map_some, Option.map_none, if_true, if_false, decide_eq_true_eq, Bool.false_eq_true, List.take_succ_cons, List.take_zero, List.take_nil, List.drop_succ_cons, List.drop_zero, List.drop_nil, reduceIte, reduceCtorEq]
        rw [hh]
        exact k
      | thing =>
        simp only [Pg.inn, enumD, fl, t_Lplaces_1, t_Lplaces_2, t_Lplaces_3, t_Lplaces_4, t_Lplaces, flatD, List.any_cons, List.any_nil, eqv_str, eqv_int, cut1, Bool.or_false, Bool.or_true, Bool.and_self, Bool.and_true, Bool.and_false, Bool.false_or, Bool.true_or, and_self, ofs_inj, ofs_app, ofs_len, String.reduceEq, String.reduceNe, String.reduceAppend, decide_true, decide_false, Bool.not_true, Bool.not_false, sz0, sz1, sz2, sz3, sz4, sz5, sz6, sz7, sz8, sz9, sz10, sz11, sz12, sz13, sz14, sz15, sz16, sz17, sz18, sz19, sz20, sz21, sz22, sz23, sz24, sz25, cpow1018, true_and, and_true, Nat.reduceAdd, Nat.reduceLT, Nat.reduceSub, Int.reduceNe, Int.reduceEq, Int.reduceLT, Int.reduceLE, Int.reduceToNat, ne_eq, not_false_eq_true, List.length_map, Nat.lt_irrefl, dV_nx, dV_rt, at0, at1, at2, at3, ix20, ix21, vSeq, vIfS, vTest, vTruth, truth, v2, v1, vN, vCons, vNil, vVar, vC, xIx, Vl.opI0, Vl.opI, pk, vSet, vAsg, xgSub, vRet, vRetN, vNext, vDrop, vBreak, vCont, asD, asDs, opMod, opDiv, opMul2, Vl.opAdd, opSub, opPow, opLt, Vl.opLe, opGt, Vl.opGe, xEq, okEq_str, okEq_int, Vl.opIn3, pkm, gModI, gDivI, gSubI, gMulI, gPowI, gGt, gLt, gLe, gGe, vNotT, vAndT, vOrT, vAndV, vOrV, opNot, opNotG, vIfE, opTup, opLst, opLstO, Vl.opLen, Vl.opInt, opList, opListO, opTuple, opII, gMax, gMin, vM, vM0, isT, xPop, Vl.opAppend, opExtend, opJoin, vgName, vgTup, vgCons, vgNil, kOpt_some, kOpn_some, vSl, vPart, vNoPart, opSl, opSlO, opRev, opCallK, ownD, ownO, objs, renum, uniq, getS, putS, vCall0, vFor, vSeqI, vTupI, vRng1, vRng2, vEnum, vZip, chkOf, vLcK, vYes, finD, finO, En.wipe, wipeE, En.trim, trimS, dropNone, clr, wth, Vl.ret, takeS, startV,  List.map_cons, List.map_nil, List.length_cons, List.length_nil, List.cons_append, List.nil_append, List.replicate, List.getElem?_cons_succ, List.getElem?_cons_zero, List.getElem?_nil, List.set_cons_succ, List.set_cons_zero, List.set_nil, List.all_nil, List.all_cons, Bool.true_and, Option.map_some, Option.map_none, if_true, if_false, decide_eq_true_eq, Bool.false_eq_true, List.take_succ_cons, List.take_zero, List.take_nil, List.drop_succ_cons, List.drop_zero, List.drop_nil, reduceIte, reduceCtorEq]
        rw [hh]
        exact k
      | take x kd p =>
        simp only [Pg.deep] at hd hl
        simp only [Pg.size] at hs
        have q1 := p.places_len (pl ++ [0])
        simp only [Pg.inn, enumD, fl, pPlaces, t_Lplaces_1, t_Lplaces_2, t_Lplaces_3, t_Lplaces_4, t_Lplaces, flatD, List.any_cons, List.any_nil, eqv_str, eqv_int, cut1, Bool.or_false, Bool.or_true, Bool.and_self, Bool.and_true, Bool.and_false, Bool.false_or, Bool.true_or, and_self, ofs_inj, ofs_app, ofs_len, String.reduceEq, String.reduceNe, String.reduceAppend, decide_true, decide_false, Bool.not_true, Bool.not_false, sz0, sz1, sz2, sz3, sz4, sz5, sz6, sz7, sz8, sz9, sz10, sz11, sz12, sz13, sz14, sz15, sz16, sz17, sz18, sz19, sz20, sz21, sz22, sz23, sz24, sz25, cpow1018, true_and, and_true, Nat.reduceAdd, Nat.reduceLT, Nat.reduceSub, Int.reduceNe, Int.reduceEq, Int.reduceLT, Int.reduceLE, Int.reduceToNat, ne_eq, not_false_eq_true, List.length_map, Nat.lt_irrefl, dV_nx, dV_rt, at0, at1, at2, at3, ix20, ix21, vSeq, vIfS, vTest, vTruth, truth, v2, v1, vN, vCons, vNil, vVar, vC, xIx, Vl.opI0, Vl.opI, pk, vSet, vAsg, xgSub, vRet, vRetN, vNext, vDrop, vBreak, vCont, asD, asDs, opMod, opDiv, opMul2, Vl.opAdd, opSub, opPow, opLt, Vl.opLe, opGt, Vl.opGe, xEq, okEq_str, okEq_int, Vl.opIn3, pkm, gModI, gDivI, gSubI, gMulI, gPowI, gGt, gLt, gLe, gGe, vNotT, vAndT, vOrT, vAndV, vOrV, opNot, opNotG, vIfE, opTup, opLst, opLstO, Vl.opLen, Vl.opInt, opList, opListO, opTuple, opII, gMax, gMin, vM, vM0, isT, xPop, Vl.opAppend, opExtend, opJoin, vgName, vgTup, vgCons, vgNil, kOpt_some, kOpn_some, vSl, vPart, vNoPart, opSl, opSlO, opRev, opCallK, ownD, ownO, objs, renum, uniq, getS, putS, vCall0, vFor, vSeqI, vTupI, vRng1, vRng2, vEnum, vZip, chkOf, vLcK, vYes, finD, finO, En.wipe, wipeE, En.trim, trimS, dropNone, clr, wth, Vl.ret, takeS, startV,  List.map_cons, List.map_nil, List.length_cons, List.length_nil, List.cons_append, List.nil_append, List.replicate, List.getElem?_cons_succ, List.getElem?_cons_zero, List.getElem?_nil, List.set_cons_succ, List.set_cons_zero, List.set_nil, List.all_nil, List.all_cons, Bool.true_and, Option.map_some, Option.map_none, if_true, if_false, decide_eq_true_eq, Bool.false_eq_true, List.take_succ_cons, List.take_zero, List.take_nil, List.drop_succ_cons, List.drop_zero, List.drop_nil, reduceIte, reduceCtorEq]
        refine ⟨big (by omega), p, pl ++ [0], e0 p, by omega, by rw [n0]; omega, by omega, big (by omega), ?_⟩
        simp only [Pg.places, Pg.can, List.map_append] at k hh
        rw [hh]
        exact k
      | give p q =>
        simp only [Pg.deep] at hd hl
        simp only [Pg.size] at hs
        have q1 := p.places_len (pl ++ [0])
        have q2 := q.places_len (pl ++ [1])
        simp only [Pg.inn, enumD, fl, pPlaces, t_Lplaces_1, t_Lplaces_2, t_Lplaces_3, t_Lplaces_4, t_Lplaces, flatD, List.any_cons, List.any_nil, eqv_str, eqv_int, cut1, Bool.or_false, Bool.or_true, Bool.and_self, Bool.and_true, Bool.and_false, Bool.false_or, Bool.true_or, and_self, ofs_inj, ofs_app, ofs_len, String.reduceEq, String.reduceNe, String.reduceAppend, decide_true, decide_false, Bool.not_true, Bool.not_false, sz0, sz1, sz2, sz3, sz4, sz5, sz6, sz7, sz8, sz9, sz10, sz11, sz12, sz13, sz14, sz15, sz16, sz17, sz18, sz19, sz20, sz21, sz22, sz23, sz24, sz25, cpow1018, true_and, and_true, Nat.reduceAdd, Nat.reduceLT, Nat.reduceSub, Int.reduceNe, Int.reduceEq, Int.reduceLT, Int.reduceLE, Int.reduceToNat, ne_eq, not_false_eq_true, List.length_map, Nat.lt_irrefl, dV_nx, dV_rt, at0, at1, at2, at3, ix20, ix21, vSeq, vIfS, vTest, vTruth, truth, v2, v1, vN, vCons, vNil, vVar, vC, xIx, Vl.opI0, Vl.opI, pk, vSet, vAsg, xgSub, vRet, vRetN, vNext, vDrop, vBreak, vCont, asD, asDs, opMod, opDiv, opMul2, Vl.opAdd, opSub, opPow, opLt, Vl.opLe, opGt, Vl.opGe, xEq, okEq_str, okEq_int, Vl.opIn3, pkm, gModI, gDivI, gSubI, gMulI, gPowI, gGt, gLt, gLe, gGe, vNotT, vAndT, vOrT, vAndV, vOrV, opNot, opNotG, vIfE, opTup, opLst, opLstO, Vl.opLen, Vl.opInt, opList, opListO, opTuple, opII, gMax, gMin, vM, vM0, isT, xPop, Vl.opAppend, opExtend, opJoin, vgName, vgTup, vgCons, vgNil, kOpt_some, kOpn_some, vSl, vPart, vNoPart, opSl, opSlO, opRev, opCallK, ownD, ownO, objs, renum, uniq, getS, putS, vCall0, vFor, vSeqI, vTupI, vRng1, vRng2, vEnum, vZip, chkOf, vLcK, vYes, finD, finO, En.wipe, wipeE, En.trim, trimS, dropNone, clr, wth, Vl.ret, takeS, startV,  List.map_cons, List.map_nil, List.length_cons, List.length_nil, List.cons_append, List.nil_append, List.replicate, List.getElem?_cons_succ, List.getElem?_cons_zero, List.getElem?_nil, List.set_cons_succ, List.set_cons_zero, List.set_nil, List.all_nil, List.all_cons, Bool.true_and, Option.map_some, Option.map_none, if_true, if_false, decide_eq_true_eq, Bool.false_eq_true, List.take_succ_cons, List.take_zero, List.take_nil, List.drop_succ_cons, List.drop_zero, List.drop_nil, reduceIte, reduceCtorEq]
        refine ⟨big (by omega), p, pl ++ [0], e0 p, by omega, by rw [n0]; omega, by omega, big (by omega), big (by omega), q, pl ++ [1], e1 q, by omega, by rw [n0]; omega, by omega, ?_, ?_⟩
        · rw [List.length_append, List.length_map, List.length_map]
          exact big (by omega)
        simp only [Pg.places, Pg.can, List.map_append] at k hh
        rw [hh]
        exact k
      | pair p q =>
        simp only [Pg.deep] at hd hl
        simp only [Pg.size] at hs
        have q1 := p.places_len (pl ++ [0])
        have q2 := q.places_len (pl ++ [1])
        simp only [Pg.inn, enumD, fl, pPlaces, t_Lplaces_1, t_Lplaces_2, t_Lplaces_3, t_Lplaces_4, t_Lplaces, flatD, List.any_cons, List.any_nil, eqv_str, eqv_int, cut1, Bool.or_false, Bool.or_true, Bool.and_self, Bool.and_true, Bool.and_false, Bool.false_or, Bool.true_or, and_self, ofs_inj, ofs_app, ofs_len, String.reduceEq, String.reduceNe, String.reduceAppend, decide_true, decide_false, Bool.not_true, Bool.not_false, sz0, sz1, sz2, sz3, sz4, sz5, sz6, sz7, sz8, sz9, sz10, sz11, sz12, sz13, sz14, sz15, sz16, sz17, sz18, sz19, sz20, sz21, sz22, sz23, sz24, sz25, cpow1018, true_and, and_true, Nat.reduceAdd, Nat.reduceLT, Nat.reduceSub, Int.reduceNe, Int.reduceEq, Int.reduceLT, Int.reduceLE, Int.reduceToNat, ne_eq, not_false_eq_true, List.length_map, Nat.lt_irrefl, dV_nx, dV_rt, at0, at1, at2, at3, ix20, ix21, vSeq, vIfS, vTest, vTruth, truth, v2, v1, vN, vCons, vNil, vVar, vC, xIx, Vl.opI0, Vl.opI, pk, vSet, vAsg, xgSub, vRet, vRetN, vNext, vDrop, vBreak, vCont, asD, asDs, opMod, opDiv, opMul2, Vl.opAdd, opSub, opPow, opLt, Vl.opLe, opGt, Vl.opGe, xEq, okEq_str, okEq_int, Vl.opIn3, pkm, gModI, gDivI, gSubI, gMulI, gPowI, gGt, gLt, gLe, gGe, vNotT, vAndT, vOrT, vAndV, vOrV, opNot, opNotG, vIfE, opTup, opLst, opLstO, Vl.opLen, Vl.opInt, opList, opListO, opTuple, opII, gMax, gMin, vM, vM0, isT, xPop, Vl.opAppend, opExtend, opJoin, vgName, vgTup, vgCons, vgNil, kOpt_some, kOpn_some, vSl, vPart, vNoPart, opSl, opSlO, opRev, opCallK, ownD, ownO, objs, renum, uniq, getS, putS, vCall0, vFor, vSeqI, vTupI, vRng1, vRng2, vEnum, vZip, chkOf, vLcK, vYes, finD, finO, En.wipe, wipeE, En.trim, trimS, dropNone, clr, wth, Vl.ret, takeS, startV,  List.map_cons, List.map_nil, List.length_cons, List.length_nil, List.cons_append, List.nil_append, List.replicate, List.getElem?_cons_succ, List.getElem?_cons_zero, List.getElem?_nil, List.set_cons_succ, List.set_cons_zero, List.set_nil, List.all_nil, List.all_cons, Bool.true_and, Option.map_some, Option.map_none, if_true, if_false, decide_eq_true_eq, Bool.false_eq_true, List.take_succ_cons, List.take_zero, List.take_nil, List.drop_succ_cons, List.drop_zero, List.drop_nil, reduceIte, reduceCtorEq]
        refine ⟨big (by omega), p, pl ++ [0], e0 p, by omega, by rw [n0]; omega, by omega, big (by omega), big (by omega), q, pl ++ [1], e1 q, by omega, by rw [n0]; omega, by omega, ?_, ?_⟩
        · rw [List.length_append, List.length_map, List.length_map]
          exact big (by omega)
        simp only [Pg.places, Pg.can, List.map_append] at k hh
        rw [hh]
        exact k
      | first p =>
        simp only [Pg.deep] at hd hl
        simp only [Pg.size] at hs
        have q1 := p.places_len (pl ++ [0])
        simp only [Pg.inn, enumD, fl, pPlaces, t_Lplaces_1, t_Lplaces_2, t_Lplaces_3, t_Lplaces_4, t_Lplaces, flatD, List.any_cons, List.any_nil, eqv_str, eqv_int, cut1, Bool.or_false, Bool.or_true, Bool.and_self, Bool.and_true, Bool.and_false, Bool.false_or, Bool.true_or, and_self, ofs_inj, ofs_app, ofs_len, String.reduceEq, String.reduceNe, String.reduceAppend, decide_true, decide_false, Bool.not_true, Bool.not_false, sz0, sz1, sz2, sz3, sz4, sz5, sz6, sz7, sz8, sz9, sz10, sz11, sz12, sz13, sz14, sz15, sz16, sz17, sz18, sz19, sz20, sz21, sz22, sz23, sz24, sz25, cpow1018, true_and, and_true, Nat.reduceAdd, Nat.reduceLT, Nat.reduceSub, Int.reduceNe, Int.reduceEq, Int.reduceLT, Int.reduceLE, Int.reduceToNat, ne_eq, not_false_eq_true, List.length_map, Nat.lt_irrefl, dV_nx, dV_rt, at0, at1, at2, at3, ix20, ix21, vSeq, vIfS, vTest, vTruth, truth, v2, v1, vN, vCons, vNil, vVar, vC, xIx, Vl.opI0, Vl.opI, pk, vSet, vAsg, xgSub, vRet, vRetN, vNext, vDrop, vBreak, vCont, asD, asDs, opMod, opDiv, opMul2, Vl.opAdd, opSub, opPow, opLt, Vl.opLe, opGt, Vl.opGe, xEq, okEq_str, okEq_int, Vl.opIn3, pkm, gModI, gDivI, gSubI, gMulI, gPowI, gGt, gLt, gLe, gGe, vNotT, vAndT, vOrT, vAndV, vOrV, opNot, opNotG, vIfE, opTup, opLst, opLstO, Vl.opLen, Vl.opInt, opList, opListO, opTuple, opII, gMax, gMin, vM, vM0, isT, xPop, Vl.opAppend, opExtend, opJoin, vgName, vgTup, vgCons, vgNil, kOpt_some, kOpn_some, vSl, vPart, vNoPart, opSl, opSlO, opRev, opCallK, ownD, ownO, objs, renum, uniq, getS, putS, vCall0, vFor, vSeqI, vTupI, vRng1, vRng2, vEnum, vZip, chkOf, vLcK, vYes, finD, finO, En.wipe, wipeE, En.trim, trimS, dropNone, clr, wth, Vl.ret, takeS, startV,  List.map_cons, List.map_nil, List.length_cons, List.length_nil, List.cons_append, List.nil_append, List.replicate, List.getElem?_cons_succ, List.getElem?_cons_zero, List.getElem?_nil, List.set_cons_succ, List.set_cons_zero, List.set_nil, List.all_nil, List.all_cons, Bool.true_and, Option.map_some, Option.map_none, if_true, if_false, decide_eq_true_eq, Bool.false_eq_true, List.take_succ_cons, List.take_zero, List.take_nil, List.drop_succ_cons, List.drop_zero, List.drop_nil, reduceIte, reduceCtorEq]
        refine ⟨big (by omega), p, pl ++ [0], e0 p, by omega, by rw [n0]; omega, by omega, big (by omega), ?_⟩
        simp only [Pg.places, Pg.can, List.map_append] at k hh
        rw [hh]
        exact k
      | second p =>
        simp only [Pg.deep] at hd hl
        simp only [Pg.size] at hs
        have q1 := p.places_len (pl ++ [0])
        simp only [Pg.inn, enumD, fl, pPlaces, t_Lplaces_1, t_Lplaces_2, t_Lplaces_3, t_Lplaces_4, t_Lplaces, flatD, List.any_cons, List.any_nil, eqv_str, eqv_int, cut1, Bool.or_false, Bool.or_true, Bool.and_self, Bool.and_true, Bool.and_false, Bool.false_or, Bool.true_or, and_self, ofs_inj, ofs_app, ofs_len, String.reduceEq, String.reduceNe, String.reduceAppend, decide_true, decide_false, Bool.not_true, Bool.not_false, sz0, sz1, sz2, sz3, sz4, sz5, sz6, sz7, sz8, sz9, sz10, sz11, sz12, sz13, sz14, sz15, sz16, sz17, sz18, sz19, sz20, sz21, sz22, sz23, sz24, sz25, cpow1018, true_and, and_true, Nat.reduceAdd, Nat.reduceLT, Nat.reduceSub, Int.reduceNe, Int.reduceEq, Int.reduceLT, Int.reduceLE, Int.reduceToNat, ne_eq, not_false_eq_true, List.length_map, Nat.lt_irrefl, dV_nx, dV_rt, at0, at1, at2, at3, ix20, ix21, vSeq, vIfS, vTest, vTruth, truth, v2, v1, vN, vCons, vNil, vVar, vC, xIx, Vl.opI0, Vl.opI, pk, vSet, vAsg, xgSub, vRet, vRetN, vNext, vDrop, vBreak, vCont, asD, asDs, opMod, opDiv, opMul2, Vl.opAdd, opSub, opPow, opLt, Vl.opLe, opGt, Vl.opGe, xEq, okEq_str, okEq_int, Vl.opIn3, pkm, gModI, gDivI, gSubI, gMulI, gPowI, gGt, gLt, gLe, gGe, vNotT, vAndT, vOrT, vAndV, vOrV, opNot, opNotG, vIfE, opTup, opLst, opLstO, Vl.opLen, Vl.opInt, opList, opListO, opTuple, opII, gMax, gMin, vM, vM0, isT, xPop, Vl.opAppend, opExtend, opJoin, vgName, vgTup, vgCons, vgNil, kOpt_some, kOpn_some, vSl, vPart, vNoPart, opSl, opSlO, opRev, opCallK, ownD, ownO, objs, renum, uniq, getS, putS, vCall0, vFor, vSeqI, vTupI, vRng1, vRng2, vEnum, vZip, chkOf, vLcK, vYes, finD, finO, En.wipe, wipeE, En.trim, trimS, dropNone, clr, wth, Vl.ret, takeS, startV,  List.map_cons, List.map_nil, List.length_cons, List.length_nil, List.cons_append, List.nil_append, List.replicate, List.getElem?_cons_succ, List.getElem?_cons_zero, List.getElem?_nil, List.set_cons_succ, List.set_cons_zero, List.set_nil, List.all_nil, List.all_cons, Bool.true_and, Option.map_some, Option.map_none, if_true, if_false, decide_eq_true_eq, Bool.false_eq_true, List.take_succ_cons, List.take_zero, List.take_nil, List.drop_succ_cons, List.drop_zero, List.drop_nil, reduceIte, reduceCtorEq]
        refine ⟨big (by omega), p, pl ++ [0], e0 p, by omega, by rw [n0]; omega, by omega, big (by omega), ?_⟩
        simp only [Pg.places, Pg.can, List.map_append] at k hh
        rw [hh]
        exact k
    cases hc : p.can with
    | true =>
      simp only [flatD, List.any_cons, List.any_nil, eqv_str, eqv_int, cut1, Bool.or_false, Bool.or_true, Bool.and_self, Bool.and_true, Bool.and_false, Bool.false_or, Bool.true_or, and_self, ofs_inj, ofs_app, ofs_len, String.reduceEq, String.reduceNe, String.reduceAppend, decide_true, decide_false, Bool.not_true, Bool.not_false, sz0, sz1, sz2, sz3, sz4, sz5, sz6, sz7, sz8, sz9, sz10, sz11, sz12, sz13, sz14, sz15, sz16, sz17, sz18, sz19, sz20, sz21, sz22, sz23, sz24, sz25, cpow1018, true_and, and_true, Nat.reduceAdd, Nat.reduceLT, Nat.reduceSub, Int.reduceNe, Int.reduceEq, Int.reduceLT, Int.reduceLE, Int.reduceToNat, ne_eq, not_false_eq_true, List.length_map, Nat.lt_irrefl, dV_nx, dV_rt, at0, at1, at2, at3, ix20, ix21, vSeq, vIfS, vTest, vTruth, truth, v2, v1, vN, vCons, vNil, vVar, vC, xIx, Vl.opI0, Vl.opI, pk, vSet, vAsg, xgSub, vRet, vRetN, vNext, vDrop, vBreak, vCont, asD, asDs, opMod, opDiv, opMul2, Vl.opAdd, opSub, opPow, opLt, Vl.opLe, opGt, Vl.opGe, xEq, okEq_str, okEq_int, Vl.opIn3, pkm, gModI, gDivI, gSubI, gMulI, gPowI, gGt, gLt, gLe, gGe, vNotT, vAndT, vOrT, vAndV, vOrV, opNot, opNotG, vIfE, opTup, opLst, opLstO, Vl.opLen, Vl.opInt, opList, opListO, opTuple, opII, gMax, gMin, vM, vM0, isT, xPop, Vl.opAppend, opExtend, opJoin, vgName, vgTup, vgCons, vgNil, kOpt_some, kOpn_some, vSl, vPart, vNoPart, opSl, opSlO, opRev, opCallK, ownD, ownO, objs, renum, uniq, getS, putS, vCall0, vFor, vSeqI, vTupI, vRng1, vRng2, vEnum, vZip, chkOf, vLcK, vYes, finD, finO, En.wipe, wipeE, En.trim, trimS, dropNone, clr, wth, Vl.ret, takeS, startV,  List.map_cons, List.map_nil, List.length_cons, List.length_nil, List.cons_append, List.nil_append, List.replicate, List.getElem?_cons_succ, List.getElem?_cons_zero, List.getElem?_nil, List.set_cons_succ, List.set_cons_zero, List.set_nil, List.all_nil, List.all_cons, Bool.true_and, Option.map_some, Option.map_none, if_true, if_false, decide_eq_true_eq, Bool.false_eq_true, List.take_succ_cons, List.take_zero, List.take_nil, List.drop_succ_cons, List.drop_zero, List.drop_nil, reduceIte, reduceCtorEq]
      exact ⟨by decide, by decide, by decide, main [pl] (by rw [hc]; rfl)⟩
    | false =>
      simp only [flatD, List.any_cons, List.any_nil, eqv_str, eqv_int, cut1, Bool.or_false, Bool.or_true, Bool.and_self, Bool.and_true, Bool.and_false, Bool.false_or, Bool.true_or, and_self, ofs_inj, ofs_app, ofs_len, String.reduceEq, String.reduceNe, String.reduceAppend, decide_true, decide_false, Bool.not_true, Bool.not_false, sz0, sz1, sz2, sz3, sz4, sz5, sz6, sz7, sz8, sz9, sz10, sz11, sz12, sz13, sz14, sz15, sz16, sz17, sz18, sz19, sz20, sz21, sz22, sz23, sz24, sz25, cpow1018, true_and, and_true, Nat.reduceAdd, Nat.reduceLT, Nat.reduceSub, Int.reduceNe, Int.reduceEq, Int.reduceLT, Int.reduceLE, Int.reduceToNat, ne_eq, not_false_eq_true, List.length_map, Nat.lt_irrefl, dV_nx, dV_rt, at0, at1, at2, at3, ix20, ix21, vSeq, vIfS, vTest, vTruth, truth, v2, v1, vN, vCons, vNil, vVar, vC, xIx, Vl.opI0, Vl.opI, pk, vSet, vAsg, xgSub, vRet, vRetN, vNext, vDrop, vBreak, vCont, asD, asDs, opMod, opDiv, opMul2, Vl.opAdd, opSub, opPow, opLt, Vl.opLe, opGt, Vl.opGe, xEq, okEq_str, okEq_int, Vl.opIn3, pkm, gModI, gDivI, gSubI, gMulI, gPowI, gGt, gLt, gLe, gGe, vNotT, vAndT, vOrT, vAndV, vOrV, opNot, opNotG, vIfE, opTup, opLst, opLstO, Vl.opLen, Vl.opInt, opList, opListO, opTuple, opII, gMax, gMin, vM, vM0, isT, xPop, Vl.opAppend, opExtend, opJoin, vgName, vgTup, vgCons, vgNil, kOpt_some, kOpn_some, vSl, vPart, vNoPart, opSl, opSlO, opRev, opCallK, ownD, ownO, objs, renum, uniq, getS, putS, vCall0, vFor, vSeqI, vTupI, vRng1, vRng2, vEnum, vZip, chkOf, vLcK, vYes, finD, finO, En.wipe, wipeE, En.trim, trimS, dropNone, clr, wth, Vl.ret, takeS, startV,  List.map_cons, List.map_nil, List.length_cons, List.length_nil, List.cons_append, List.nil_append, List.replicate, List.getElem?_cons_succ, List.getElem?_cons_zero, List.getElem?_nil, List.set_cons_succ, List.set_cons_zero, List.set_nil, List.all_nil, List.all_cons, Bool.true_and, Option.map_some, Option.map_none, if_true, if_false, decide_eq_true_eq, Bool.false_eq_true, List.take_succ_cons, List.take_zero, List.take_nil, List.drop_succ_cons, List.drop_zero, List.drop_nil, reduceIte, reduceCtorEq]
      exact ⟨by decide, by decide, by decide, main [] (by rw [hc]; rfl)⟩
end
end Kf
namespace Kf
open PySem L2 Vl PySem.Spec PyProof.Rows
abbrev ab : List Str := ["a", "b"]
def Kd.ok (k : Kd) : Prop := k.over ab ∧ k.leaves ≤ 3
structure Known (r : List (Str × Kd)) : Prop where
  each : ∀ x ∈ r, PyData.strOk x.1 = true ∧ x.2.ok
  pa : look r "pa" = some (.mark "a")
  pb : look r "pb" = some (.mark "b")
  fa : look r "fa" = some (.to (.mark "a") (.mark "a"))
  fb : look r "fb" = some (.to (.mark "b") (.mark "b"))
abbrev six : List Str := ["x0", "x1", "x2", "y", "z", "x7"]
theorem six_ne {x : Str} (h : x ∈ six) : PyData.strOk x = true ∧ x ≠ "pa" ∧ x ≠ "pb" ∧ x ≠ "fa" ∧ x ≠ "fb" := by
  revert x
  decide +kernel
theorem ab_ok : ∀ m ∈ ab, PyData.strOk m = true := by decide +kernel
theorem Kd.ok.shp {k : Kd} (h : k.ok) : Vl.shp k.enc = true := Kd.shp ab_ok h.1 (by have := h.2; omega)
theorem Known.add {r : List (Str × Kd)} (h : Known r) {x : Str} {k : Kd} (hx : x ∈ six) (hk : k.ok) : Known (r ++ [(x, k)]) := by
  obtain ⟨h0, h1, h2, h3, h4⟩ := six_ne hx
  refine ⟨fun y hy => ?_, ?_, ?_, ?_, ?_⟩
  · rcases List.mem_append.mp hy with hy | hy
    · exact h.each y hy
    · rw [List.mem_singleton.mp hy]
      exact ⟨h0, hk⟩
  · rw [look_app, if_neg h1]; exact h.pa
  · rw [look_app, if_neg h2]; exact h.pb
  · rw [look_app, if_neg h3]; exact h.fa
  · rw [look_app, if_neg h4]; exact h.fb
theorem known14 : Known row14 := by
  refine ⟨?_, by decide +kernel, by decide +kernel, by decide +kernel, by decide +kernel⟩
  unfold row14
  simp only [List.mem_cons, List.not_mem_nil, or_false, forall_eq_or_imp, forall_eq, Kd.ok, Kd.over, Kd.leaves]
  decide +kernel
def pNames : VSp := fun ss st Kp => ∃ r : List (Str × Kd), ss = [.val (.list (r.map encB))] ∧ st = [] ∧ r.length < 60 ∧ ∀ res : List (Str × Kd), (∀ x ∈ res, look r x.1 = some x.2) → res.length ≤ r.length → Kp (.val (.list (res.map encB))) []
def pProg (N : Nat) : VSp := fun ss st Kp => ∃ (r : List (Str × Kd)) (k : Kd) (room c n : Int), ss = [.obj 0, .val (.list (r.map encB)), .val k.enc, .val (.int room)] ∧ st = [[.int c, .int n]] ∧ PoolK n ∧ Known r ∧ r.length + N ≤ 55 ∧ k.ok ∧ 3 * max room 0 + k.leaves ≤ N ∧
  ∀ (p : Pg) (c' n' : Int), HasK r p k → p.size + 2 ≤ 4 * 2 ^ N → p.deep ≤ 2 * N → PoolK n' → Kp (.val p.enc) [[.int c', .int n']]
def pApart (N : Nat) : VSp := fun ss st Kp => ∃ (r : List (Str × Kd)) (k : Kd) (room c n : Int), ss = [.obj 0, .val (.list (r.map encB)), .val k.enc, .val (.int room)] ∧ st = [[.int c, .int n]] ∧ PoolK n ∧ Known r ∧ r.length + N ≤ 55 ∧ k.ok ∧ 1 ≤ room ∧ 3 * room + k.leaves ≤ N ∧
  ∀ (p : Pg) (c' n' : Int), HasK r p k → p.size + 2 ≤ 4 * 2 ^ N → p.deep ≤ 2 * N → PoolK n' → Kp (.val p.enc) [[.int c', .int n']]
abbrev nameD (x : Str) : D := .tuple [.str "name", .str x]
theorem shp_names {xs : List Str} (h : ∀ x ∈ xs, PyData.strOk x = true) : Vl.shp (.list (xs.map nameD)) = true := by
  have h1 : PyData.canLayAll0 (xs.map nameD) = true := by
    induction xs with
    | nil => exact canAll_nil
    | cons x xs ih =>
      simp only [List.map_cons, canAll_cons, can_tup, canAll_nil, can_str, Bool.and_eq_true]
      exact ⟨⟨by decide +kernel, h x List.mem_cons_self, trivial⟩, ih fun y hy => h y (List.mem_cons_of_mem _ hy)⟩
  have h2 : PyData.depthAll (xs.map nameD) ≤ 1 := by
    clear h h1
    induction xs with
    | nil => rw [List.map_nil, depthAll_nil]; omega
    | cons x xs ih =>
      simp only [List.map_cons, depthAll_cons, depth_tup, depthAll_nil, depth_str]
      omega
  unfold Vl.shp
  rw [can_lst, h1, depth_lst, decide_eq_true (by omega)] <;> rfl
theorem shp_nil : Vl.shp (.list []) = true := shp_names (xs := []) (by simp)
theorem eqv_nil (xs : List D) : PyData.eqv (.list xs) (.list []) = decide (xs = []) := by
  cases xs with
  | nil => rw [PyData.eqv, eqvAll_nil]; rfl
  | cons x xs => rw [PyData.eqv, eqvAll_cn]; rfl
theorem cl_names {k : Kd} (hk : k.ok) {d1 d3 : D} {st : Option (List D)} {Kq : List D → En → Prop} : ∀ (res : List (Str × Kd)) (acc : List Str), (∀ x ∈ res, x.2.ok) → acc.length + res.length ≤ 1000 →
    (∀ xs : List Str, (∀ x ∈ xs, x ∈ acc ∨ (x, k) ∈ res) → xs.length ≤ acc.length + res.length → Kq (xs.map nameD) ⟨[some (.obj 0), some (.val d1), some (.val k.enc), some (.val d3), none, none, none, none, none], [st]⟩) →
    cl (vgTup 2 (vgCons (vgName 4) (vgCons (vgName 8) vgNil))) (vTest (v2 (xEq false) (vVar 8) (vVar 2))) (vN opTup (vCons (vC (.str "name")) (vCons (vVar 4) vNil))) none [4, 8] 1 (res.map encB) (acc.map nameD) ⟨[some (.obj 0), some (.val d1), some (.val k.enc), some (.val d3), none, none, none, none, none], [st]⟩ Kq
  | [], acc, _, hl, q => by
    simp only [List.map_nil, cl, wth]
    exact q acc (fun x hx => .inl hx) (by omega)
  | (x, l) :: res, acc, hr, hl, q => by
    have hl' : l.ok := (hr (x, l) List.mem_cons_self)
    rw [List.length_cons] at hl
    simp only [List.map_cons, cl, encB, Kd.eqv, flatD, List.any_cons, List.any_nil, eqv_str, eqv_int, cut1, Bool.or_false, Bool.or_true, Bool.and_self, Bool.and_true, Bool.and_false, Bool.false_or, Bool.true_or, and_self, ofs_inj, ofs_app, ofs_len, String.reduceEq, String.reduceNe, String.reduceAppend, decide_true, decide_false, Bool.not_true, Bool.not_false, sz0, sz1, sz2, sz3, sz4, sz5, sz6, sz7, sz8, sz9, sz10, sz11, sz12, sz13, sz14, sz15, sz16, sz17, sz18, sz19, sz20, sz21, sz22, sz23, sz24, sz25, cpow1018, true_and, and_true, Nat.reduceAdd, Nat.reduceLT, Nat.reduceSub, Int.reduceNe, Int.reduceEq, Int.reduceLT, Int.reduceLE, Int.reduceToNat, ne_eq, not_false_eq_true, List.length_map, Nat.lt_irrefl, dV_nx, dV_rt, at0, at1, at2, at3, ix20, ix21, vSeq, vIfS, vTest, vTruth, truth, v2, v1, vN, vCons, vNil, vVar, vC, xIx, Vl.opI0, Vl.opI, pk, vSet, vAsg, xgSub, vRet, vRetN, vNext, vDrop, vBreak, vCont, asD, asDs, opMod, opDiv, opMul2, Vl.opAdd, opSub, opPow, opLt, Vl.opLe, opGt, Vl.opGe, xEq, okEq_str, okEq_int, Vl.opIn3, pkm, gModI, gDivI, gSubI, gMulI, gPowI, gGt, gLt, gLe, gGe, vNotT, vAndT, vOrT, vAndV, vOrV, opNot, opNotG, vIfE, opTup, opLst, opLstO, Vl.opLen, Vl.opInt, opList, opListO, opTuple, opII, gMax, gMin, vM, vM0, isT, xPop, Vl.opAppend, opExtend, opJoin, vgName, vgTup, vgCons, vgNil, kOpt_some, kOpn_some, vSl, vPart, vNoPart, opSl, opSlO, opRev, opCallK, ownD, ownO, objs, renum, uniq, getS, putS, vCall0, vFor, vSeqI, vTupI, vRng1, vRng2, vEnum, vZip, chkOf, vLcK, vYes, finD, finO, En.wipe, wipeE, En.trim, trimS, dropNone, clr, wth, Vl.ret, takeS, startV,  List.map_cons, List.map_nil, List.length_cons, List.length_nil, List.cons_append, List.nil_append, List.replicate, List.getElem?_cons_succ, List.getElem?_cons_zero, List.getElem?_nil, List.set_cons_succ, List.set_cons_zero, List.set_nil, List.all_nil, List.all_cons, Bool.true_and, Option.map_some, Option.map_none, if_true, if_false, decide_eq_true_eq, Bool.false_eq_true, List.take_succ_cons, List.take_zero, List.take_nil, List.drop_succ_cons, List.drop_zero, List.drop_nil, reduceIte, reduceCtorEq]
    refine ⟨okEq_of hl'.shp hk.shp, ?_⟩
    split
    · rename_i e
      subst e
      refine ⟨small1000 (by omega), ?_⟩
      have ih := cl_names hk (d1 := d1) (d3 := d3) (st := st) (Kq := Kq) res (acc ++ [x]) (fun y hy => hr y (List.mem_cons_of_mem _ hy)) (by rw [List.length_append, List.length_singleton]; omega) (fun xs h1 h2 => q xs (fun y hy => ?_) ?_)
      · rw [List.map_append] at ih
        exact ih
      · rcases h1 y hy with h | h
        · rcases List.mem_append.mp h with h | h
          · exact .inl h
          · rw [List.mem_singleton.mp h]
            exact .inr List.mem_cons_self
        · exact .inr (List.mem_cons_of_mem _ h)
      · rw [List.length_append, List.length_singleton] at h2
        rw [List.length_cons]
        omega
    · exact cl_names hk res acc (fun y hy => hr y (List.mem_cons_of_mem _ hy)) (by omega) (fun xs h1 h2 => q xs (fun y hy => (h1 y hy).imp id (List.mem_cons_of_mem _)) (by rw [List.length_cons]; omega))
theorem pow1 (N : Nat) : 4 * 2 ^ (N + 1) = 2 * (4 * 2 ^ N) := by rw [Nat.pow_succ]; omega
section
variable {P : Program} {w : World} {K : PySem.W.Frag} {mg : Str → Option Value} {base : Heap}
theorem f_apart (Fd : Df K mg "_law_apart" sLapart ["_law_pool_here", "_law_known", "_law_kind_here", "_law_room"]) (GK : VFn P w K mg base 5 "_law_kind" ["_law_pool_here", "_law_leaves", "_law_marks"] (pKind 3)) (GT : VFn P w K mg base 1 "_law_take" ["_law_pool_here", "_law_many"] pTake)
    {N : Nat} (GP : VFn P w K mg base (2 * N + 6) "_law_program" ["_law_pool_here", "_law_known", "_law_kind_here", "_law_room"] (pProg N)) : VFn P w K mg base (2 * N + 7) "_law_apart" ["_law_pool_here", "_law_known", "_law_kind_here", "_law_room"] (pApart (N + 1)) := by
  refine ok_Lapart Fd GK (by omega) GT (by omega) GP (by omega) (fun ss st Kp ⟨_, _, _, _, _, h, _⟩ => by rw [h]; rfl) ?_
  rintro ss cs Kp ⟨r, k, room, c, n, rfl, rfl, pn, kr, rl, ko, r1, r2, q⟩
  have kp := k.leaves_pos
  simp only [t_Lapart, t_Lapart_11, pTake, pKind, flatD, List.any_cons, List.any_nil, eqv_str, eqv_int, cut1, Bool.or_false, Bool.or_true, Bool.and_self, Bool.and_true, Bool.and_false, Bool.false_or, Bool.true_or, and_self, ofs_inj, ofs_app, ofs_len, String.reduceEq, String.reduceNe, String.reduceAppend, decide_true, decide_false, Bool.not_true, Bool.not_false, sz0, sz1, sz2, sz3, sz4, sz5, sz6, sz7, sz8, sz9, sz10, sz11, sz12, sz13, sz14, sz15, sz16, sz17, sz18, sz19, sz20, sz21, sz22, sz23, sz24, sz25, cpow1018, true_and, and_true, Nat.reduceAdd, Nat.reduceLT, Nat.reduceSub, Int.reduceNe, Int.reduceEq, Int.reduceLT, Int.reduceLE, Int.reduceToNat, ne_eq, not_false_eq_true, List.length_map, Nat.lt_irrefl, dV_nx, dV_rt, at0, at1, at2, at3, ix20, ix21, vSeq, vIfS, vTest, vTruth, truth, v2, v1, vN, vCons, vNil, vVar, vC, xIx, Vl.opI0, Vl.opI, pk, vSet, vAsg, xgSub, vRet, vRetN, vNext, vDrop, vBreak, vCont, asD, asDs, opMod, opDiv, opMul2, Vl.opAdd, opSub, opPow, opLt, Vl.opLe, opGt, Vl.opGe, xEq, okEq_str, okEq_int, Vl.opIn3, pkm, gModI, gDivI, gSubI, gMulI, gPowI, gGt, gLt, gLe, gGe, vNotT, vAndT, vOrT, vAndV, vOrV, opNot, opNotG, vIfE, opTup, opLst, opLstO, Vl.opLen, Vl.opInt, opList, opListO, opTuple, opII, gMax, gMin, vM, vM0, isT, xPop, Vl.opAppend, opExtend, opJoin, vgName, vgTup, vgCons, vgNil, kOpt_some, kOpn_some, vSl, vPart, vNoPart, opSl, opSlO, opRev, opCallK, ownD, ownO, objs, renum, uniq, getS, putS, vCall0, vFor, vSeqI, vTupI, vRng1, vRng2, vEnum, vZip, chkOf, vLcK, vYes, finD, finO, En.wipe, wipeE, En.trim, trimS, dropNone, clr, wth, Vl.ret, takeS, startV,  List.map_cons, List.map_nil, List.length_cons, List.length_nil, List.cons_append, List.nil_append, List.replicate, List.getElem?_cons_succ, List.getElem?_cons_zero, List.getElem?_nil, List.set_cons_succ, List.set_cons_zero, List.set_nil, List.all_nil, List.all_cons, Bool.true_and, Option.map_some, Option.map_none, if_true, if_false, decide_eq_true_eq, Bool.false_eq_true, List.take_succ_cons, List.take_zero, List.take_nil, List.drop_succ_cons, List.drop_zero, List.drop_nil, reduceIte, reduceCtorEq]
  refine ⟨pn, fun l c2 n2 l0 l1 pn2 => ⟨pn2, by omega, by omega, by omega, ab, rfl, by decide, by decide, fun o c3 n3 ol oo pn3 => ?_⟩⟩
  have hoo : o.ok := ⟨oo, by omega⟩
  simp only [t_Lapart_10, pTake, flatD, List.any_cons, List.any_nil, eqv_str, eqv_int, cut1, Bool.or_false, Bool.or_true, Bool.and_self, Bool.and_true, Bool.and_false, Bool.false_or, Bool.true_or, and_self, ofs_inj, ofs_app, ofs_len, String.reduceEq, String.reduceNe, String.reduceAppend, decide_true, decide_false, Bool.not_true, Bool.not_false, sz0, sz1, sz2, sz3, sz4, sz5, sz6, sz7, sz8, sz9, sz10, sz11, sz12, sz13, sz14, sz15, sz16, sz17, sz18, sz19, sz20, sz21, sz22, sz23, sz24, sz25, cpow1018, true_and, and_true, Nat.reduceAdd, Nat.reduceLT, Nat.reduceSub, Int.reduceNe, Int.reduceEq, Int.reduceLT, Int.reduceLE, Int.reduceToNat, ne_eq, not_false_eq_true, List.length_map, Nat.lt_irrefl, dV_nx, dV_rt, at0, at1, at2, at3, ix20, ix21, vSeq, vIfS, vTest, vTruth, truth, v2, v1, vN, vCons, vNil, vVar, vC, xIx, Vl.opI0, Vl.opI, pk, vSet, vAsg, xgSub, vRet, vRetN, vNext, vDrop, vBreak, vCont, asD, asDs, opMod, opDiv, opMul2, Vl.opAdd, opSub, opPow, opLt, Vl.opLe, opGt, Vl.opGe, xEq, okEq_str, okEq_int, Vl.opIn3, pkm, gModI, gDivI, gSubI, gMulI, gPowI, gGt, gLt, gLe, gGe, vNotT, vAndT, vOrT, vAndV, vOrV, opNot, opNotG, vIfE, opTup, opLst, opLstO, Vl.opLen, Vl.opInt, opList, opListO, opTuple, opII, gMax, gMin, vM, vM0, isT, xPop, Vl.opAppend, opExtend, opJoin, vgName, vgTup, vgCons, vgNil, kOpt_some, kOpn_some, vSl, vPart, vNoPart, opSl, opSlO, opRev, opCallK, ownD, ownO, objs, renum, uniq, getS, putS, vCall0, vFor, vSeqI, vTupI, vRng1, vRng2, vEnum, vZip, chkOf, vLcK, vYes, finD, finO, En.wipe, wipeE, En.trim, trimS, dropNone, clr, wth, Vl.ret, takeS, startV,  List.map_cons, List.map_nil, List.length_cons, List.length_nil, List.cons_append, List.nil_append, List.replicate, List.getElem?_cons_succ, List.getElem?_cons_zero, List.getElem?_nil, List.set_cons_succ, List.set_cons_zero, List.set_nil, List.all_nil, List.all_cons, Bool.true_and, Option.map_some, Option.map_none, if_true, if_false, decide_eq_true_eq, Bool.false_eq_true, List.take_succ_cons, List.take_zero, List.take_nil, List.drop_succ_cons, List.drop_zero, List.drop_nil, reduceIte, reduceCtorEq]
  refine ⟨pn3, fun way c4 n4 w0 w1 pn4 => ?_⟩
  simp only [t_Lapart_9, flatD, List.any_cons, List.any_nil, eqv_str, eqv_int, cut1, Bool.or_false, Bool.or_true, Bool.and_self, Bool.and_true, Bool.and_false, Bool.false_or, Bool.true_or, and_self, ofs_inj, ofs_app, ofs_len, String.reduceEq, String.reduceNe, String.reduceAppend, decide_true, decide_false, Bool.not_true, Bool.not_false, sz0, sz1, sz2, sz3, sz4, sz5, sz6, sz7, sz8, sz9, sz10, sz11, sz12, sz13, sz14, sz15, sz16, sz17, sz18, sz19, sz20, sz21, sz22, sz23, sz24, sz25, cpow1018, true_and, and_true, Nat.reduceAdd, Nat.reduceLT, Nat.reduceSub, Int.reduceNe, Int.reduceEq, Int.reduceLT, Int.reduceLE, Int.reduceToNat, ne_eq, not_false_eq_true, List.length_map, Nat.lt_irrefl, dV_nx, dV_rt, at0, at1, at2, at3, ix20, ix21, vSeq, vIfS, vTest, vTruth, truth, v2, v1, vN, vCons, vNil, vVar, vC, xIx, Vl.opI0, Vl.opI, pk, vSet, vAsg, xgSub, vRet, vRetN, vNext, vDrop, vBreak, vCont, asD, asDs, opMod, opDiv, opMul2, Vl.opAdd, opSub, opPow, opLt, Vl.opLe, opGt, Vl.opGe, xEq, okEq_str, okEq_int, Vl.opIn3, pkm, gModI, gDivI, gSubI, gMulI, gPowI, gGt, gLt, gLe, gGe, vNotT, vAndT, vOrT, vAndV, vOrV, opNot, opNotG, vIfE, opTup, opLst, opLstO, Vl.opLen, Vl.opInt, opList, opListO, opTuple, opII, gMax, gMin, vM, vM0, isT, xPop, Vl.opAppend, opExtend, opJoin, vgName, vgTup, vgCons, vgNil, kOpt_some, kOpn_some, vSl, vPart, vNoPart, opSl, opSlO, opRev, opCallK, ownD, ownO, objs, renum, uniq, getS, putS, vCall0, vFor, vSeqI, vTupI, vRng1, vRng2, vEnum, vZip, chkOf, vLcK, vYes, finD, finO, En.wipe, wipeE, En.trim, trimS, dropNone, clr, wth, Vl.ret, takeS, startV,  List.map_cons, List.map_nil, List.length_cons, List.length_nil, List.cons_append, List.nil_append, List.replicate, List.getElem?_cons_succ, List.getElem?_cons_zero, List.getElem?_nil, List.set_cons_succ, List.set_cons_zero, List.set_nil, List.all_nil, List.all_cons, Bool.true_and, Option.map_some, Option.map_none, if_true, if_false, decide_eq_true_eq, Bool.false_eq_true, List.take_succ_cons, List.take_zero, List.take_nil, List.drop_succ_cons, List.drop_zero, List.drop_nil, reduceIte, reduceCtorEq]
  split
  · simp only [t_Lapart_3, pTake, flatD, List.any_cons, List.any_nil, eqv_str, eqv_int, cut1, Bool.or_false, Bool.or_true, Bool.and_self, Bool.and_true, Bool.and_false, Bool.false_or, Bool.true_or, and_self, ofs_inj, ofs_app, ofs_len, String.reduceEq, String.reduceNe, String.reduceAppend, decide_true, decide_false, Bool.not_true, Bool.not_false, sz0, sz1, sz2, sz3, sz4, sz5, sz6, sz7, sz8, sz9, sz10, sz11, sz12, sz13, sz14, sz15, sz16, sz17, sz18, sz19, sz20, sz21, sz22, sz23, sz24, sz25, cpow1018, true_and, and_true, Nat.reduceAdd, Nat.reduceLT, Nat.reduceSub, Int.reduceNe, Int.reduceEq, Int.reduceLT, Int.reduceLE, Int.reduceToNat, ne_eq, not_false_eq_true, List.length_map, Nat.lt_irrefl, dV_nx, dV_rt, at0, at1, at2, at3, ix20, ix21, vSeq, vIfS, vTest, vTruth, truth, v2, v1, vN, vCons, vNil, vVar, vC, xIx, Vl.opI0, Vl.opI, pk, vSet, vAsg, xgSub, vRet, vRetN, vNext, vDrop, vBreak, vCont, asD, asDs, opMod, opDiv, opMul2, Vl.opAdd, opSub, opPow, opLt, Vl.opLe, opGt, Vl.opGe, xEq, okEq_str, okEq_int, Vl.opIn3, pkm, gModI, gDivI, gSubI, gMulI, gPowI, gGt, gLt, gLe, gGe, vNotT, vAndT, vOrT, vAndV, vOrV, opNot, opNotG, vIfE, opTup, opLst, opLstO, Vl.opLen, Vl.opInt, opList, opListO, opTuple, opII, gMax, gMin, vM, vM0, isT, xPop, Vl.opAppend, opExtend, opJoin, vgName, vgTup, vgCons, vgNil, kOpt_some, kOpn_some, vSl, vPart, vNoPart, opSl, opSlO, opRev, opCallK, ownD, ownO, objs, renum, uniq, getS, putS, vCall0, vFor, vSeqI, vTupI, vRng1, vRng2, vEnum, vZip, chkOf, vLcK, vYes, finD, finO, En.wipe, wipeE, En.trim, trimS, dropNone, clr, wth, Vl.ret, takeS, startV,  List.map_cons, List.map_nil, List.length_cons, List.length_nil, List.cons_append, List.nil_append, List.replicate, List.getElem?_cons_succ, List.getElem?_cons_zero, List.getElem?_nil, List.set_cons_succ, List.set_cons_zero, List.set_nil, List.all_nil, List.all_cons, Bool.true_and, Option.map_some, Option.map_none, if_true, if_false, decide_eq_true_eq, Bool.false_eq_true, List.take_succ_cons, List.take_zero, List.take_nil, List.drop_succ_cons, List.drop_zero, List.drop_nil, reduceIte, reduceCtorEq]
    refine ⟨pn4, fun i c5 n5 i0 i1 pn5 => ?_⟩
    obtain ⟨x, hx, hm⟩ := at_any (xs := six.map PyData.str) i0 i1
    obtain ⟨y, hy, rfl⟩ := List.mem_map.mp hm
    have hx' : atI [PyData.str (Str.ofString "x0"), .str (Str.ofString "x1"), .str (Str.ofString "x2"), .str (Str.ofString "y"), .str (Str.ofString "z"), .str (Str.ofString "x7")] i = some (.str y) := hx
    simp only [hx', t_Lapart_2, pProg, flatD, List.any_cons, List.any_nil, eqv_str, eqv_int, cut1, Bool.or_false, Bool.or_true, Bool.and_self, Bool.and_true, Bool.and_false, Bool.false_or, Bool.true_or, and_self, ofs_inj, ofs_app, ofs_len, String.reduceEq, String.reduceNe, String.reduceAppend, decide_true, decide_false, Bool.not_true, Bool.not_false, sz0, sz1, sz2, sz3, sz4, sz5, sz6, sz7, sz8, sz9, sz10, sz11, sz12, sz13, sz14, sz15, sz16, sz17, sz18, sz19, sz20, sz21, sz22, sz23, sz24, sz25, cpow1018, true_and, and_true, Nat.reduceAdd, Nat.reduceLT, Nat.reduceSub, Int.reduceNe, Int.reduceEq, Int.reduceLT, Int.reduceLE, Int.reduceToNat, ne_eq, not_false_eq_true, List.length_map, Nat.lt_irrefl, dV_nx, dV_rt, at0, at1, at2, at3, ix20, ix21, vSeq, vIfS, vTest, vTruth, truth, v2, v1, vN, vCons, vNil, vVar, vC, xIx, Vl.opI0, Vl.opI, pk, vSet, vAsg, xgSub, vRet, vRetN, vNext, vDrop, vBreak, vCont, asD, asDs, opMod, opDiv, opMul2, Vl.opAdd, opSub, opPow, opLt, Vl.opLe, opGt, Vl.opGe, xEq, okEq_str, okEq_int, Vl.opIn3, pkm, gModI, gDivI, gSubI, gMulI, gPowI, gGt, gLt, gLe, gGe, vNotT, vAndT, vOrT, vAndV, vOrV, opNot, opNotG, vIfE, opTup, opLst, opLstO, Vl.opLen, Vl.opInt, opList, opListO, opTuple, opII, gMax, gMin, vM, vM0, isT, xPop, Vl.opAppend, opExtend, opJoin, vgName, vgTup, vgCons, vgNil, kOpt_some, kOpn_some, vSl, vPart, vNoPart, opSl, opSlO, opRev, opCallK, ownD, ownO, objs, renum, uniq, getS, putS, vCall0, vFor, vSeqI, vTupI, vRng1, vRng2, vEnum, vZip, chkOf, vLcK, vYes, finD, finO, En.wipe, wipeE, En.trim, trimS, dropNone, clr, wth, Vl.ret, takeS, startV,  List.map_cons, List.map_nil, List.length_cons, List.length_nil, List.cons_append, List.nil_append, List.replicate, List.getElem?_cons_succ, List.getElem?_cons_zero, List.getElem?_nil, List.set_cons_succ, List.set_cons_zero, List.set_nil, List.all_nil, List.all_cons, Bool.true_and, Option.map_some, Option.map_none, if_true, if_false, decide_eq_true_eq, Bool.false_eq_true, List.take_succ_cons, List.take_zero, List.take_nil, List.drop_succ_cons, List.drop_zero, List.drop_nil, reduceIte, reduceCtorEq]
    have hyo : Known (r ++ [(y, o)]) := kr.add hy hoo
    refine ⟨big (by omega), r ++ [(y, o)], k, room - 1, c5, n5, by rw [List.map_append] <;> rfl, rfl, pn5, hyo, by rw [List.length_append, List.length_singleton]; omega, ko, by omega, fun p c6 n6 p1 p2 p3 pn6 => ?_⟩
    simp only [t_Lapart_1, pProg, flatD, List.any_cons, List.any_nil, eqv_str, eqv_int, cut1, Bool.or_false, Bool.or_true, Bool.and_self, Bool.and_true, Bool.and_false, Bool.false_or, Bool.true_or, and_self, ofs_inj, ofs_app, ofs_len, String.reduceEq, String.reduceNe, String.reduceAppend, decide_true, decide_false, Bool.not_true, Bool.not_false, sz0, sz1, sz2, sz3, sz4, sz5, sz6, sz7, sz8, sz9, sz10, sz11, sz12, sz13, sz14, sz15, sz16, sz17, sz18, sz19, sz20, sz21, sz22, sz23, sz24, sz25, cpow1018, true_and, and_true, Nat.reduceAdd, Nat.reduceLT, Nat.reduceSub, Int.reduceNe, Int.reduceEq, Int.reduceLT, Int.reduceLE, Int.reduceToNat, ne_eq, not_false_eq_true, List.length_map, Nat.lt_irrefl, dV_nx, dV_rt, at0, at1, at2, at3, ix20, ix21, vSeq, vIfS, vTest, vTruth, truth, v2, v1, vN, vCons, vNil, vVar, vC, xIx, Vl.opI0, Vl.opI, pk, vSet, vAsg, xgSub, vRet, vRetN, vNext, vDrop, vBreak, vCont, asD, asDs, opMod, opDiv, opMul2, Vl.opAdd, opSub, opPow, opLt, Vl.opLe, opGt, Vl.opGe, xEq, okEq_str, okEq_int, Vl.opIn3, pkm, gModI, gDivI, gSubI, gMulI, gPowI, gGt, gLt, gLe, gGe, vNotT, vAndT, vOrT, vAndV, vOrV, opNot, opNotG, vIfE, opTup, opLst, opLstO, Vl.opLen, Vl.opInt, opList, opListO, opTuple, opII, gMax, gMin, vM, vM0, isT, xPop, Vl.opAppend, opExtend, opJoin, vgName, vgTup, vgCons, vgNil, kOpt_some, kOpn_some, vSl, vPart, vNoPart, opSl, opSlO, opRev, opCallK, ownD, ownO, objs, renum, uniq, getS, putS, vCall0, vFor, vSeqI, vTupI, vRng1, vRng2, vEnum, vZip, chkOf, vLcK, vYes, finD, finO, En.wipe, wipeE, En.trim, trimS, dropNone, clr, wth, Vl.ret, takeS, startV,  List.map_cons, List.map_nil, List.length_cons, List.length_nil, List.cons_append, List.nil_append, List.replicate, List.getElem?_cons_succ, List.getElem?_cons_zero, List.getElem?_nil, List.set_cons_succ, List.set_cons_zero, List.set_nil, List.all_nil, List.all_cons, Bool.true_and, Option.map_some, Option.map_none, if_true, if_false, decide_eq_true_eq, Bool.false_eq_true, List.take_succ_cons, List.take_zero, List.take_nil, List.drop_succ_cons, List.drop_zero, List.drop_nil, reduceIte, reduceCtorEq]
    refine ⟨r, o, room - 1, c6, n6, rfl, rfl, pn6, kr, by omega, hoo, by omega, fun p' c7 n7 h1 h2 h3 pn7 => ?_⟩
    refine q (.give (.take y o p) p') c7 n7 (.give (.take p1) h1) ?_ ?_ pn7
    · rw [pow1]; simp only [Pg.size]; omega
    · simp only [Pg.deep]; omega
  · simp only [t_Lapart_8, flatD, List.any_cons, List.any_nil, eqv_str, eqv_int, cut1, Bool.or_false, Bool.or_true, Bool.and_self, Bool.and_true, Bool.and_false, Bool.false_or, Bool.true_or, and_self, ofs_inj, ofs_app, ofs_len, String.reduceEq, String.reduceNe, String.reduceAppend, decide_true, decide_false, Bool.not_true, Bool.not_false, sz0, sz1, sz2, sz3, sz4, sz5, sz6, sz7, sz8, sz9, sz10, sz11, sz12, sz13, sz14, sz15, sz16, sz17, sz18, sz19, sz20, sz21, sz22, sz23, sz24, sz25, cpow1018, true_and, and_true, Nat.reduceAdd, Nat.reduceLT, Nat.reduceSub, Int.reduceNe, Int.reduceEq, Int.reduceLT, Int.reduceLE, Int.reduceToNat, ne_eq, not_false_eq_true, List.length_map, Nat.lt_irrefl, dV_nx, dV_rt, at0, at1, at2, at3, ix20, ix21, vSeq, vIfS, vTest, vTruth, truth, v2, v1, vN, vCons, vNil, vVar, vC, xIx, Vl.opI0, Vl.opI, pk, vSet, vAsg, xgSub, vRet, vRetN, vNext, vDrop, vBreak, vCont, asD, asDs, opMod, opDiv, opMul2, Vl.opAdd, opSub, opPow, opLt, Vl.opLe, opGt, Vl.opGe, xEq, okEq_str, okEq_int, Vl.opIn3, pkm, gModI, gDivI, gSubI, gMulI, gPowI, gGt, gLt, gLe, gGe, vNotT, vAndT, vOrT, vAndV, vOrV, opNot, opNotG, vIfE, opTup, opLst, opLstO, Vl.opLen, Vl.opInt, opList, opListO, opTuple, opII, gMax, gMin, vM, vM0, isT, xPop, Vl.opAppend, opExtend, opJoin, vgName, vgTup, vgCons, vgNil, kOpt_some, kOpn_some, vSl, vPart, vNoPart, opSl, opSlO, opRev, opCallK, ownD, ownO, objs, renum, uniq, getS, putS, vCall0, vFor, vSeqI, vTupI, vRng1, vRng2, vEnum, vZip, chkOf, vLcK, vYes, finD, finO, En.wipe, wipeE, En.trim, trimS, dropNone, clr, wth, Vl.ret, takeS, startV,  List.map_cons, List.map_nil, List.length_cons, List.length_nil, List.cons_append, List.nil_append, List.replicate, List.getElem?_cons_succ, List.getElem?_cons_zero, List.getElem?_nil, List.set_cons_succ, List.set_cons_zero, List.set_nil, List.all_nil, List.all_cons, Bool.true_and, Option.map_some, Option.map_none, if_true, if_false, decide_eq_true_eq, Bool.false_eq_true, List.take_succ_cons, List.take_zero, List.take_nil, List.drop_succ_cons, List.drop_zero, List.drop_nil, reduceIte, reduceCtorEq]
    split
    · simp only [t_Lapart_5, pProg, flatD, List.any_cons, List.any_nil, eqv_str, eqv_int, cut1, Bool.or_false, Bool.or_true, Bool.and_self, Bool.and_true, Bool.and_false, Bool.false_or, Bool.true_or, and_self, ofs_inj, ofs_app, ofs_len, String.reduceEq, String.reduceNe, String.reduceAppend, decide_true, decide_false, Bool.not_true, Bool.not_false, sz0, sz1, sz2, sz3, sz4, sz5, sz6, sz7, sz8, sz9, sz10, sz11, sz12, sz13, sz14, sz15, sz16, sz17, sz18, sz19, sz20, sz21, sz22, sz23, sz24, sz25, cpow1018, true_and, and_true, Nat.reduceAdd, Nat.reduceLT, Nat.reduceSub, Int.reduceNe, Int.reduceEq, Int.reduceLT, Int.reduceLE, Int.reduceToNat, ne_eq, not_false_eq_true, List.length_map, Nat.lt_irrefl, dV_nx, dV_rt, at0, at1, at2, at3, ix20, ix21, vSeq, vIfS, vTest, vTruth, truth, v2, v1, vN, vCons, vNil, vVar, vC, xIx, Vl.opI0, Vl.opI, pk, vSet, vAsg, xgSub, vRet, vRetN, vNext, vDrop, vBreak, vCont, asD, asDs, opMod, opDiv, opMul2, Vl.opAdd, opSub, opPow, opLt, Vl.opLe, opGt, Vl.opGe, xEq, okEq_str, okEq_int, Vl.opIn3, pkm, gModI, gDivI, gSubI, gMulI, gPowI, gGt, gLt, gLe, gGe, vNotT, vAndT, vOrT, vAndV, vOrV, opNot, opNotG, vIfE, opTup, opLst, opLstO, Vl.opLen, Vl.opInt, opList, opListO, opTuple, opII, gMax, gMin, vM, vM0, isT, xPop, Vl.opAppend, opExtend, opJoin, vgName, vgTup, vgCons, vgNil, kOpt_some, kOpn_some, vSl, vPart, vNoPart, opSl, opSlO, opRev, opCallK, ownD, ownO, objs, renum, uniq, getS, putS, vCall0, vFor, vSeqI, vTupI, vRng1, vRng2, vEnum, vZip, chkOf, vLcK, vYes, finD, finO, En.wipe, wipeE, En.trim, trimS, dropNone, clr, wth, Vl.ret, takeS, startV,  List.map_cons, List.map_nil, List.length_cons, List.length_nil, List.cons_append, List.nil_append, List.replicate, List.getElem?_cons_succ, List.getElem?_cons_zero, List.getElem?_nil, List.set_cons_succ, List.set_cons_zero, List.set_nil, List.all_nil, List.all_cons, Bool.true_and, Option.map_some, Option.map_none, if_true, if_false, decide_eq_true_eq, Bool.false_eq_true, List.take_succ_cons, List.take_zero, List.take_nil, List.drop_succ_cons, List.drop_zero, List.drop_nil, reduceIte, reduceCtorEq]
      refine ⟨r, k, room - 1, c4, n4, rfl, rfl, pn4, kr, by omega, ko, by omega, fun p c6 n6 p1 p2 p3 pn6 => ?_⟩
      refine ⟨r, o, room - 1, c6, n6, rfl, rfl, pn6, kr, by omega, hoo, by omega, fun p' c7 n7 h1 h2 h3 pn7 => ?_⟩
      simp only [t_Lapart_4, flatD, List.any_cons, List.any_nil, eqv_str, eqv_int, cut1, Bool.or_false, Bool.or_true, Bool.and_self, Bool.and_true, Bool.and_false, Bool.false_or, Bool.true_or, and_self, ofs_inj, ofs_app, ofs_len, String.reduceEq, String.reduceNe, String.reduceAppend, decide_true, decide_false, Bool.not_true, Bool.not_false, sz0, sz1, sz2, sz3, sz4, sz5, sz6, sz7, sz8, sz9, sz10, sz11, sz12, sz13, sz14, sz15, sz16, sz17, sz18, sz19, sz20, sz21, sz22, sz23, sz24, sz25, cpow1018, true_and, and_true, Nat.reduceAdd, Nat.reduceLT, Nat.reduceSub, Int.reduceNe, Int.reduceEq, Int.reduceLT, Int.reduceLE, Int.reduceToNat, ne_eq, not_false_eq_true, List.length_map, Nat.lt_irrefl, dV_nx, dV_rt, at0, at1, at2, at3, ix20, ix21, vSeq, vIfS, vTest, vTruth, truth, v2, v1, vN, vCons, vNil, vVar, vC, xIx, Vl.opI0, Vl.opI, pk, vSet, vAsg, xgSub, vRet, vRetN, vNext, vDrop, vBreak, vCont, asD, asDs, opMod, opDiv, opMul2, Vl.opAdd, opSub, opPow, opLt, Vl.opLe, opGt, Vl.opGe, xEq, okEq_str, okEq_int, Vl.opIn3, pkm, gModI, gDivI, gSubI, gMulI, gPowI, gGt, gLt, gLe, gGe, vNotT, vAndT, vOrT, vAndV, vOrV, opNot, opNotG, vIfE, opTup, opLst, opLstO, Vl.opLen, Vl.opInt, opList, opListO, opTuple, opII, gMax, gMin, vM, vM0, isT, xPop, Vl.opAppend, opExtend, opJoin, vgName, vgTup, vgCons, vgNil, kOpt_some, kOpn_some, vSl, vPart, vNoPart, opSl, opSlO, opRev, opCallK, ownD, ownO, objs, renum, uniq, getS, putS, vCall0, vFor, vSeqI, vTupI, vRng1, vRng2, vEnum, vZip, chkOf, vLcK, vYes, finD, finO, En.wipe, wipeE, En.trim, trimS, dropNone, clr, wth, Vl.ret, takeS, startV,  List.map_cons, List.map_nil, List.length_cons, List.length_nil, List.cons_append, List.nil_append, List.replicate, List.getElem?_cons_succ, List.getElem?_cons_zero, List.getElem?_nil, List.set_cons_succ, List.set_cons_zero, List.set_nil, List.all_nil, List.all_cons, Bool.true_and, Option.map_some, Option.map_none, if_true, if_false, decide_eq_true_eq, Bool.false_eq_true, List.take_succ_cons, List.take_zero, List.take_nil, List.drop_succ_cons, List.drop_zero, List.drop_nil, reduceIte, reduceCtorEq]
      refine q (.first (.pair p p')) c7 n7 (.first (.pair p1 h1)) ?_ ?_ pn7
      · rw [pow1]; simp only [Pg.size]; omega
      · simp only [Pg.deep]; omega
    · simp only [t_Lapart_7, pProg, flatD, List.any_cons, List.any_nil, eqv_str, eqv_int, cut1, Bool.or_false, Bool.or_true, Bool.and_self, Bool.and_true, Bool.and_false, Bool.false_or, Bool.true_or, and_self, ofs_inj, ofs_app, ofs_len, String.reduceEq, String.reduceNe, String.reduceAppend, decide_true, decide_false, Bool.not_true, Bool.not_false, sz0, sz1, sz2, sz3, sz4, sz5, sz6, sz7, sz8, sz9, sz10, sz11, sz12, sz13, sz14, sz15, sz16, sz17, sz18, sz19, sz20, sz21, sz22, sz23, sz24, sz25, cpow1018, true_and, and_true, Nat.reduceAdd, Nat.reduceLT, Nat.reduceSub, Int.reduceNe, Int.reduceEq, Int.reduceLT, Int.reduceLE, Int.reduceToNat, ne_eq, not_false_eq_true, List.length_map, Nat.lt_irrefl, dV_nx, dV_rt, at0, at1, at2, at3, ix20, ix21, vSeq, vIfS, vTest, vTruth, truth, v2, v1, vN, vCons, vNil, vVar, vC, xIx, Vl.opI0, Vl.opI, pk, vSet, vAsg, xgSub, vRet, vRetN, vNext, vDrop, vBreak, vCont, asD, asDs, opMod, opDiv, opMul2, Vl.opAdd, opSub, opPow, opLt, Vl.opLe, opGt, Vl.opGe, xEq, okEq_str, okEq_int, Vl.opIn3, pkm, gModI, gDivI, gSubI, gMulI, gPowI, gGt, gLt, gLe, gGe, vNotT, vAndT, vOrT, vAndV, vOrV, opNot, opNotG, vIfE, opTup, opLst, opLstO, Vl.opLen, Vl.opInt, opList, opListO, opTuple, opII, gMax, gMin, vM, vM0, isT, xPop, Vl.opAppend, opExtend, opJoin, vgName, vgTup, vgCons, vgNil, kOpt_some, kOpn_some, vSl, vPart, vNoPart, opSl, opSlO, opRev, opCallK, ownD, ownO, objs, renum, uniq, getS, putS, vCall0, vFor, vSeqI, vTupI, vRng1, vRng2, vEnum, vZip, chkOf, vLcK, vYes, finD, finO, En.wipe, wipeE, En.trim, trimS, dropNone, clr, wth, Vl.ret, takeS, startV,  List.map_cons, List.map_nil, List.length_cons, List.length_nil, List.cons_append, List.nil_append, List.replicate, List.getElem?_cons_succ, List.getElem?_cons_zero, List.getElem?_nil, List.set_cons_succ, List.set_cons_zero, List.set_nil, List.all_nil, List.all_cons, Bool.true_and, Option.map_some, Option.map_none, if_true, if_false, decide_eq_true_eq, Bool.false_eq_true, List.take_succ_cons, List.take_zero, List.take_nil, List.drop_succ_cons, List.drop_zero, List.drop_nil, reduceIte, reduceCtorEq]
      refine ⟨r, o, room - 1, c4, n4, rfl, rfl, pn4, kr, by omega, hoo, by omega, fun p c6 n6 p1 p2 p3 pn6 => ?_⟩
      refine ⟨r, k, room - 1, c6, n6, rfl, rfl, pn6, kr, by omega, ko, by omega, fun p' c7 n7 h1 h2 h3 pn7 => ?_⟩
      simp only [t_Lapart_6, flatD, List.any_cons, List.any_nil, eqv_str, eqv_int, cut1, Bool.or_false, Bool.or_true, Bool.and_self, Bool.and_true, Bool.and_false, Bool.false_or, Bool.true_or, and_self, ofs_inj, ofs_app, ofs_len, String.reduceEq, String.reduceNe, String.reduceAppend, decide_true, decide_false, Bool.not_true, Bool.not_false, sz0, sz1, sz2, sz3, sz4, sz5, sz6, sz7, sz8, sz9, sz10, sz11, sz12, sz13, sz14, sz15, sz16, sz17, sz18, sz19, sz20, sz21, sz22, sz23, sz24, sz25, cpow1018, true_and, and_true, Nat.reduceAdd, Nat.reduceLT, Nat.reduceSub, Int.reduceNe, Int.reduceEq, Int.reduceLT, Int.reduceLE, Int.reduceToNat, ne_eq, not_false_eq_true, List.length_map, Nat.lt_irrefl, dV_nx, dV_rt, at0, at1, at2, at3, ix20, ix21, vSeq, vIfS, vTest, vTruth, truth, v2, v1, vN, vCons, vNil, vVar, vC, xIx, Vl.opI0, Vl.opI, pk, vSet, vAsg, xgSub, vRet, vRetN, vNext, vDrop, vBreak, vCont, asD, asDs, opMod, opDiv, opMul2, Vl.opAdd, opSub, opPow, opLt, Vl.opLe, opGt, Vl.opGe, xEq, okEq_str, okEq_int, Vl.opIn3, pkm, gModI, gDivI, gSubI, gMulI, gPowI, gGt, gLt, gLe, gGe, vNotT, vAndT, vOrT, vAndV, vOrV, opNot, opNotG, vIfE, opTup, opLst, opLstO, Vl.opLen, Vl.opInt, opList, opListO, opTuple, opII, gMax, gMin, vM, vM0, isT, xPop, Vl.opAppend, opExtend, opJoin, vgName, vgTup, vgCons, vgNil, kOpt_some, kOpn_some, vSl, vPart, vNoPart, opSl, opSlO, opRev, opCallK, ownD, ownO, objs, renum, uniq, getS, putS, vCall0, vFor, vSeqI, vTupI, vRng1, vRng2, vEnum, vZip, chkOf, vLcK, vYes, finD, finO, En.wipe, wipeE, En.trim, trimS, dropNone, clr, wth, Vl.ret, takeS, startV,  List.map_cons, List.map_nil, List.length_cons, List.length_nil, List.cons_append, List.nil_append, List.replicate, List.getElem?_cons_succ, List.getElem?_cons_zero, List.getElem?_nil, List.set_cons_succ, List.set_cons_zero, List.set_nil, List.all_nil, List.all_cons, Bool.true_and, Option.map_some, Option.map_none, if_true, if_false, decide_eq_true_eq, Bool.false_eq_true, List.take_succ_cons, List.take_zero, List.take_nil, List.drop_succ_cons, List.drop_zero, List.drop_nil, reduceIte, reduceCtorEq]
      refine q (.second (.pair p p')) c7 n7 (.second (.pair p1 h1)) ?_ ?_ pn7
      · rw [pow1]; simp only [Pg.size]; omega
      · simp only [Pg.deep]; omega
theorem f_prog (FA : Df K mg "_law_apart" sLapart ["_law_pool_here", "_law_known", "_law_kind_here", "_law_room"]) (Fd : Df K mg "_law_program" sLprogram ["_law_pool_here", "_law_known", "_law_kind_here", "_law_room"]) (B : Blt mg)
    (GK : VFn P w K mg base 5 "_law_kind" ["_law_pool_here", "_law_leaves", "_law_marks"] (pKind 3)) (GT : VFn P w K mg base 1 "_law_take" ["_law_pool_here", "_law_many"] pTake) (GN : VFn P w K mg base 1 "_law_names" ["_law_known"] pNames) :
    ∀ N : Nat, VFn P w K mg base (2 * N + 6) "_law_program" ["_law_pool_here", "_law_known", "_law_kind_here", "_law_room"] (pProg N) := by
  intro N
  induction N with
  | zero =>
    refine vacF Fd scLprogram fun ss st Kp ⟨r, k, room, c, n, _, _, _, _, _, _, h, _⟩ => ?_
    have := k.leaves_pos
    omega
  | succ N ih =>
    have ga := f_apart FA GK GT ih
    refine ok_Lprogram Fd GN (by omega) GT (by omega) ga (Nat.le_refl _) ih (by omega) B (fun ss st Kp ⟨_, _, _, _, _, h, _⟩ => by rw [h]; rfl) ?_
    rintro ss cs Kp ⟨r, k, room, c, n, rfl, rfl, pn, kr, rl, ko, rm, q⟩
    simp only [t_Lprogram, t_Lprogram_15, pNames, flatD, List.any_cons, List.any_nil, eqv_str, eqv_int, cut1, Bool.or_false, Bool.or_true, Bool.and_self, Bool.and_true, Bool.and_false, Bool.false_or, Bool.true_or, and_self, ofs_inj, ofs_app, ofs_len, String.reduceEq, String.reduceNe, String.reduceAppend, decide_true, decide_false, Bool.not_true, Bool.not_false, sz0, sz1, sz2, sz3, sz4, sz5, sz6, sz7, sz8, sz9, sz10, sz11, sz12, sz13, sz14, sz15, sz16, sz17, sz18, sz19, sz20, sz21, sz22, sz23, sz24, sz25, cpow1018, true_and, and_true, Nat.reduceAdd, Nat.reduceLT, Nat.reduceSub, Int.reduceNe, Int.reduceEq, Int.reduceLT, Int.reduceLE, Int.reduceToNat, ne_eq, not_false_eq_true, List.length_map, Nat.lt_irrefl, dV_nx, dV_rt, at0, at1, at2, at3, ix20, ix21, vSeq, vIfS, vTest, vTruth, truth, v2, v1, vN, vCons, vNil, vVar, vC, xIx, Vl.opI0, Vl.opI, pk, vSet, vAsg, xgSub, vRet, vRetN, vNext, vDrop, vBreak, vCont, asD, asDs, opMod, opDiv, opMul2, Vl.opAdd, opSub, opPow, opLt, Vl.opLe, opGt, Vl.opGe, xEq, okEq_str, okEq_int, Vl.opIn3, pkm, gModI, gDivI, gSubI, gMulI, gPowI, gGt, gLt, gLe, gGe, vNotT, vAndT, vOrT, vAndV, vOrV, opNot, opNotG, vIfE, opTup, opLst, opLstO, Vl.opLen, Vl.opInt, opList, opListO, opTuple, opII, gMax, gMin, vM, vM0, isT, xPop, Vl.opAppend, opExtend, opJoin, vgName, vgTup, vgCons, vgNil, kOpt_some, kOpn_some, vSl, vPart, vNoPart, opSl, opSlO, opRev, opCallK, ownD, ownO, objs, renum, uniq, getS, putS, vCall0, vFor, vSeqI, vTupI, vRng1, vRng2, vEnum, vZip, chkOf, vLcK, vYes, finD, finO, En.wipe, wipeE, En.trim, trimS, dropNone, clr, wth, Vl.ret, takeS, startV,  List.map_cons, List.map_nil, List.length_cons, List.length_nil, List.cons_append, List.nil_append, List.replicate, List.getElem?_cons_succ, List.getElem?_cons_zero, List.getElem?_nil, List.set_cons_succ, List.set_cons_zero, List.set_nil, List.all_nil, List.all_cons, Bool.true_and, Option.map_some, Option.map_none, if_true, if_false, decide_eq_true_eq, Bool.false_eq_true, List.take_succ_cons, List.take_zero, List.take_nil, List.drop_succ_cons, List.drop_zero, List.drop_nil, reduceIte, reduceCtorEq]
    refine ⟨r, rfl, by omega, fun res hres hlen => ?_⟩
    refine cl_names ko res [] (fun x hx => ((kr.each _ (look_mem (hres x hx))).2)) (by simp only [List.length_nil]; omega) fun xs hxs hxl => ?_
    have hxs' : ∀ x ∈ xs, look r x = some k := fun x hx => by
      rcases hxs x hx with h | h
      · cases h
      · exact hres _ h
    have hok : ∀ x ∈ xs, PyData.strOk x = true := fun x hx => (kr.each _ (look_mem (hxs' x hx))).1
    rw [List.length_nil] at hxl
    have n1 : ∀ (x : Str) (c' n' : Int), look r x = some k → PoolK n' → Kp (.val (nameD x)) [[.int c', .int n']] := fun x c' n' hx pn' => q (.name x) c' n' (.name hx) (by rw [pow1]; simp only [Pg.size]; have := Nat.one_le_two_pow (n := N); omega) (by simp only [Pg.deep]; omega) pn'
    -- behind the names
    have rest : ∀ c n : Int, PoolK n → t_Lprogram_13 pNames pTake (pApart (N + 1)) (pProg N) (dV 1 Kp) ⟨[some (.obj 0), some (.val (.list (r.map encB))), some (.val k.enc), some (.val (.int room)), none, some (.val (.list (xs.map nameD))), none, none, none], [some [.int c, .int n]]⟩ := fun c n pn => by
      have wide : ∀ c n : Int, PoolK n → t_Lprogram_12 pNames pTake (pApart (N + 1)) (pProg N) (dV 1 Kp) ⟨[some (.obj 0), some (.val (.list (r.map encB))), some (.val k.enc), some (.val (.int room)), none, some (.val (.list (xs.map nameD))), none, none, none], [some [.int c, .int n]]⟩ := fun c n pn => by
        cases k with
        | to a b =>
          have hb : b.ok := ⟨ko.1.2, by have := ko.2; simp only [Kd.leaves] at this; omega⟩
          have ha : a.ok := ⟨ko.1.1, by have := ko.2; simp only [Kd.leaves] at this; omega⟩
          have lp := a.leaves_pos
          simp only [Kd.leaves] at rm
          simp only [t_Lprogram_12, t_Lprogram_4, pTake, Kd.enc, flatD, List.any_cons, List.any_nil, eqv_str, eqv_int, cut1, Bool.or_false, Bool.or_true, Bool.and_self, Bool.and_true, Bool.and_false, Bool.false_or, Bool.true_or, and_self, ofs_inj, ofs_app, ofs_len, String.reduceEq, String.reduceNe, String.reduceAppend, decide_true, decide_false, Bool.not_true, Bool.not_false, sz0, sz1, sz2, sz3, sz4, sz5, sz6, sz7, sz8, sz9, sz10, sz11, sz12, sz13, sz14, sz15, sz16, sz17, sz18, sz19, sz20, sz21, sz22, sz23, sz24, sz25, cpow1018, true_and, and_true, Nat.reduceAdd, Nat.reduceLT, Nat.reduceSub, Int.reduceNe, Int.reduceEq, Int.reduceLT, Int.reduceLE, Int.reduceToNat, ne_eq, not_false_eq_true, List.length_map, Nat.lt_irrefl, dV_nx, dV_rt, at0, at1, at2, at3, ix20, ix21, vSeq, vIfS, vTest, vTruth, truth, v2, v1, vN, vCons, vNil, vVar, vC, xIx, Vl.opI0, Vl.opI, pk, vSet, vAsg, xgSub, vRet, vRetN, vNext, vDrop, vBreak, vCont, asD, asDs, opMod, opDiv, opMul2, Vl.opAdd, opSub, opPow, opLt, Vl.opLe, opGt, Vl.opGe, xEq, okEq_str, okEq_int, Vl.opIn3, pkm, gModI, gDivI, gSubI, gMulI, gPowI, gGt, gLt, gLe, gGe, vNotT, vAndT, vOrT, vAndV, vOrV, opNot, opNotG, vIfE, opTup, opLst, opLstO, Vl.opLen, Vl.opInt, opList, opListO, opTuple, opII, gMax, gMin, vM, vM0, isT, xPop, Vl.opAppend, opExtend, opJoin, vgName, vgTup, vgCons, vgNil, kOpt_some, kOpn_some, vSl, vPart, vNoPart, opSl, opSlO, opRev, opCallK, ownD, ownO, objs, renum, uniq, getS, putS, vCall0, vFor, vSeqI, vTupI, vRng1, vRng2, vEnum, vZip, chkOf, vLcK, vYes, finD, finO, En.wipe, wipeE, En.trim, trimS, dropNone, clr, wth, Vl.ret, takeS, startV,  List.map_cons, List.map_nil, List.length_cons, List.length_nil, List.cons_append, List.nil_append, List.replicate, List.getElem?_cons_succ, List.getElem?_cons_zero, List.getElem?_nil, List.set_cons_succ, List.set_cons_zero, List.set_nil, List.all_nil, List.all_cons, Bool.true_and, Option.map_some, Option.map_none, if_true, if_false, decide_eq_true_eq, Bool.false_eq_true, List.take_succ_cons, List.take_zero, List.take_nil, List.drop_succ_cons, List.drop_zero, List.drop_nil, reduceIte, reduceCtorEq]
          refine ⟨pn, fun i c5 n5 i0 i1 pn5 => ?_⟩
          obtain ⟨x, hx, hm⟩ := at_any (xs := six.map PyData.str) i0 i1
          obtain ⟨y, hy, rfl⟩ := List.mem_map.mp hm
          have hx' : atI [PyData.str (Str.ofString "x0"), .str (Str.ofString "x1"), .str (Str.ofString "x2"), .str (Str.ofString "y"), .str (Str.ofString "z"), .str (Str.ofString "x7")] i = some (.str y) := hx
          simp only [hx', t_Lprogram_3, pProg, flatD, List.any_cons, List.any_nil, eqv_str, eqv_int, cut1, Bool.or_false, Bool.or_true, Bool.and_self, Bool.and_true, Bool.and_false, Bool.false_or, Bool.true_or, and_self, ofs_inj, ofs_app, ofs_len, String.reduceEq, String.reduceNe, String.reduceAppend, decide_true, decide_false, Bool.not_true, Bool.not_false, sz0, sz1, sz2, sz3, sz4, sz5, sz6, sz7, sz8, sz9, sz10, sz11, sz12, sz13, sz14, sz15, sz16, sz17, sz18, sz19, sz20, sz21, sz22, sz23, sz24, sz25, cpow1018, true_and, and_true, Nat.reduceAdd, Nat.reduceLT, Nat.reduceSub, Int.reduceNe, Int.reduceEq, Int.reduceLT, Int.reduceLE, Int.reduceToNat, ne_eq, not_false_eq_true, List.length_map, Nat.lt_irrefl, dV_nx, dV_rt, at0, at1, at2, at3, ix20, ix21, vSeq, vIfS, vTest, vTruth, truth, v2, v1, vN, vCons, vNil, vVar, vC, xIx, Vl.opI0, Vl.opI, pk, vSet, vAsg, xgSub, vRet, vRetN, vNext, vDrop, vBreak, vCont, asD, asDs, opMod, opDiv, opMul2, Vl.opAdd, opSub, opPow, opLt, Vl.opLe, opGt, Vl.opGe, xEq, okEq_str, okEq_int, Vl.opIn3, pkm, gModI, gDivI, gSubI, gMulI, gPowI, gGt, gLt, gLe, gGe, vNotT, vAndT, vOrT, vAndV, vOrV, opNot, opNotG, vIfE, opTup, opLst, opLstO, Vl.opLen, Vl.opInt, opList, opListO, opTuple, opII, gMax, gMin, vM, vM0, isT, xPop, Vl.opAppend, opExtend, opJoin, vgName, vgTup, vgCons, vgNil, kOpt_some, kOpn_some, vSl, vPart, vNoPart, opSl, opSlO, opRev, opCallK, ownD, ownO, objs, renum, uniq, getS, putS, vCall0, vFor, vSeqI, vTupI, vRng1, vRng2, vEnum, vZip, chkOf, vLcK, vYes, finD, finO, En.wipe, wipeE, En.trim, trimS, dropNone, clr, wth, Vl.ret, takeS, startV,  List.map_cons, List.map_nil, List.length_cons, List.length_nil, List.cons_append, List.nil_append, List.replicate, List.getElem?_cons_succ, List.getElem?_cons_zero, List.getElem?_nil, List.set_cons_succ, List.set_cons_zero, List.set_nil, List.all_nil, List.all_cons, Bool.true_and, Option.map_some, Option.map_none, if_true, if_false, decide_eq_true_eq, Bool.false_eq_true, List.take_succ_cons, List.take_zero, List.take_nil, List.drop_succ_cons, List.drop_zero, List.drop_nil, reduceIte, reduceCtorEq]
          refine ⟨big (by omega), r ++ [(y, a)], b, room - 1, c5, n5, by rw [List.map_append] <;> rfl, rfl, pn5, kr.add hy ha, by rw [List.length_append, List.length_singleton]; omega, hb, by omega, fun p c6 n6 p1 p2 p3 pn6 => ?_⟩
          refine q (.take y a p) c6 n6 (.take p1) ?_ ?_ pn6
          · rw [pow1]; simp only [Pg.size]; omega
          · simp only [Pg.deep]; omega
        | both a b =>
          have hb : b.ok := ⟨ko.1.2, by have := ko.2; simp only [Kd.leaves] at this; omega⟩
          have ha : a.ok := ⟨ko.1.1, by have := ko.2; simp only [Kd.leaves] at this; omega⟩
          have lp := a.leaves_pos
          have lq := b.leaves_pos
          simp only [Kd.leaves] at rm
          simp only [t_Lprogram_12, t_Lprogram_11, t_Lprogram_6, pProg, Kd.enc, flatD, List.any_cons, List.any_nil, eqv_str, eqv_int, cut1, Bool.or_false, Bool.or_true, Bool.and_self, Bool.and_true, Bool.and_false, Bool.false_or, Bool.true_or, and_self, ofs_inj, ofs_app, ofs_len, String.reduceEq, String.reduceNe, String.reduceAppend, decide_true, decide_false, Bool.not_true, Bool.not_false, sz0, sz1, sz2, sz3, sz4, sz5, sz6, sz7, sz8, sz9, sz10, sz11, sz12, sz13, sz14, sz15, sz16, sz17, sz18, sz19, sz20, sz21, sz22, sz23, sz24, sz25, cpow1018, true_and, and_true, Nat.reduceAdd, Nat.reduceLT, Nat.reduceSub, Int.reduceNe, Int.reduceEq, Int.reduceLT, Int.reduceLE, Int.reduceToNat, ne_eq, not_false_eq_true, List.length_map, Nat.lt_irrefl, dV_nx, dV_rt, at0, at1, at2, at3, ix20, ix21, vSeq, vIfS, vTest, vTruth, truth, v2, v1, vN, vCons, vNil, vVar, vC, xIx, Vl.opI0, Vl.opI, pk, vSet, vAsg, xgSub, vRet, vRetN, vNext, vDrop, vBreak, vCont, asD, asDs, opMod, opDiv, opMul2, Vl.opAdd, opSub, opPow, opLt, Vl.opLe, opGt, Vl.opGe, xEq, okEq_str, okEq_int, Vl.opIn3, pkm, gModI, gDivI, gSubI, gMulI, gPowI, gGt, gLt, gLe, gGe, vNotT, vAndT, vOrT, vAndV, vOrV, opNot, opNotG, vIfE, opTup, opLst, opLstO, Vl.opLen, Vl.opInt, opList, opListO, opTuple, opII, gMax, gMin, vM, vM0, isT, xPop, Vl.opAppend, opExtend, opJoin, vgName, vgTup, vgCons, vgNil, kOpt_some, kOpn_some, vSl, vPart, vNoPart, opSl, opSlO, opRev, opCallK, ownD, ownO, objs, renum, uniq, getS, putS, vCall0, vFor, vSeqI, vTupI, vRng1, vRng2, vEnum, vZip, chkOf, vLcK, vYes, finD, finO, En.wipe, wipeE, En.trim, trimS, dropNone, clr, wth, Vl.ret, takeS, startV,  List.map_cons, List.map_nil, List.length_cons, List.length_nil, List.cons_append, List.nil_append, List.replicate, List.getElem?_cons_succ, List.getElem?_cons_zero, List.getElem?_nil, List.set_cons_succ, List.set_cons_zero, List.set_nil, List.all_nil, List.all_cons, Bool.true_and, Option.map_some, Option.map_none, if_true, if_false, decide_eq_true_eq, Bool.false_eq_true, List.take_succ_cons, List.take_zero, List.take_nil, List.drop_succ_cons, List.drop_zero, List.drop_nil, reduceIte, reduceCtorEq]
          refine ⟨r, a, room - 1, c, n, rfl, rfl, pn, kr, by omega, ha, by omega, fun p c6 n6 p1 p2 p3 pn6 => ?_⟩
          simp only [t_Lprogram_5, pProg, Kd.enc, flatD, List.any_cons, List.any_nil, eqv_str, eqv_int, cut1, Bool.or_false, Bool.or_true, Bool.and_self, Bool.and_true, Bool.and_false, Bool.false_or, Bool.true_or, and_self, ofs_inj, ofs_app, ofs_len, String.reduceEq, String.reduceNe, String.reduceAppend, decide_true, decide_false, Bool.not_true, Bool.not_false, sz0, sz1, sz2, sz3, sz4, sz5, sz6, sz7, sz8, sz9, sz10, sz11, sz12, sz13, sz14, sz15, sz16, sz17, sz18, sz19, sz20, sz21, sz22, sz23, sz24, sz25, cpow1018, true_and, and_true, Nat.reduceAdd, Nat.reduceLT, Nat.reduceSub, Int.reduceNe, Int.reduceEq, Int.reduceLT, Int.reduceLE, Int.reduceToNat, ne_eq, not_false_eq_true, List.length_map, Nat.lt_irrefl, dV_nx, dV_rt, at0, at1, at2, at3, ix20, ix21, vSeq, vIfS, vTest, vTruth, truth, v2, v1, vN, vCons, vNil, vVar, vC, xIx, Vl.opI0, Vl.opI, pk, vSet, vAsg, xgSub, vRet, vRetN, vNext, vDrop, vBreak, vCont, asD, asDs, opMod, opDiv, opMul2, Vl.opAdd, opSub, opPow, opLt, Vl.opLe, opGt, Vl.opGe, xEq, okEq_str, okEq_int, Vl.opIn3, pkm, gModI, gDivI, gSubI, gMulI, gPowI, gGt, gLt, gLe, gGe, vNotT, vAndT, vOrT, vAndV, vOrV, opNot, opNotG, vIfE, opTup, opLst, opLstO, Vl.opLen, Vl.opInt, opList, opListO, opTuple, opII, gMax, gMin, vM, vM0, isT, xPop, Vl.opAppend, opExtend, opJoin, vgName, vgTup, vgCons, vgNil, kOpt_some, kOpn_some, vSl, vPart, vNoPart, opSl, opSlO, opRev, opCallK, ownD, ownO, objs, renum, uniq, getS, putS, vCall0, vFor, vSeqI, vTupI, vRng1, vRng2, vEnum, vZip, chkOf, vLcK, vYes, finD, finO, En.wipe, wipeE, En.trim, trimS, dropNone, clr, wth, Vl.ret, takeS, startV,  List.map_cons, List.map_nil, List.length_cons, List.length_nil, List.cons_append, List.nil_append, List.replicate, List.getElem?_cons_succ, List.getElem?_cons_zero, List.getElem?_nil, List.set_cons_succ, List.set_cons_zero, List.set_nil, List.all_nil, List.all_cons, Bool.true_and, Option.map_some, Option.map_none, if_true, if_false, decide_eq_true_eq, Bool.false_eq_true, List.take_succ_cons, List.take_zero, List.take_nil, List.drop_succ_cons, List.drop_zero, List.drop_nil, reduceIte, reduceCtorEq]
          refine ⟨r, b, room - 1, c6, n6, rfl, rfl, pn6, kr, by omega, hb, by omega, fun p' c7 n7 h1 h2 h3 pn7 => ?_⟩
          refine q (.pair p p') c7 n7 (.pair p1 h1) ?_ ?_ pn7
          · rw [pow1]; simp only [Pg.size]; omega
          · simp only [Pg.deep]; omega
        | one =>
          simp only [t_Lprogram_12, t_Lprogram_11, t_Lprogram_10, t_Lprogram_7, Kd.enc, flatD, List.any_cons, List.any_nil, eqv_str, eqv_int, cut1, Bool.or_false, Bool.or_true, Bool.and_self, Bool.and_true, Bool.and_false, Bool.false_or, Bool.true_or, and_self, ofs_inj, ofs_app, ofs_len, String.reduceEq, String.reduceNe, String.reduceAppend, decide_true, decide_false, Bool.not_true, Bool.not_false, sz0, sz1, sz2, sz3, sz4, sz5, sz6, sz7, sz8, sz9, sz10, sz11, sz12, sz13, sz14, sz15, sz16, sz17, sz18, sz19, sz20, sz21, sz22, sz23, sz24, sz25, cpow1018, true_and, and_true, Nat.reduceAdd, Nat.reduceLT, Nat.reduceSub, Int.reduceNe, Int.reduceEq, Int.reduceLT, Int.reduceLE, Int.reduceToNat, ne_eq, not_false_eq_true, List.length_map, Nat.lt_irrefl, dV_nx, dV_rt, at0, at1, at2, at3, ix20, ix21, vSeq, vIfS, vTest, vTruth, truth, v2, v1, vN, vCons, vNil, vVar, vC, xIx, Vl.opI0, Vl.opI, pk, vSet, vAsg, xgSub, vRet, vRetN, vNext, vDrop, vBreak, vCont, asD, asDs, opMod, opDiv, opMul2, Vl.opAdd, opSub, opPow, opLt, Vl.opLe, opGt, Vl.opGe, xEq, okEq_str, okEq_int, Vl.opIn3, pkm, gModI, gDivI, gSubI, gMulI, gPowI, gGt, gLt, gLe, gGe, vNotT, vAndT, vOrT, vAndV, vOrV, opNot, opNotG, vIfE, opTup, opLst, opLstO, Vl.opLen, Vl.opInt, opList, opListO, opTuple, opII, gMax, gMin, vM, vM0, isT, xPop, Vl.opAppend, opExtend, opJoin, vgName, vgTup, vgCons, vgNil, kOpt_some, kOpn_some, vSl, vPart, vNoPart, opSl, opSlO, opRev, opCallK, ownD, ownO, objs, renum, uniq, getS, putS, vCall0, vFor, vSeqI, vTupI, vRng1, vRng2, vEnum, vZip, chkOf, vLcK, vYes, finD, finO, En.wipe, wipeE, En.trim, trimS, dropNone, clr, wth, Vl.ret, takeS, startV,  List.map_cons, List.map_nil, List.length_cons, List.length_nil, List.cons_append, List.nil_append, List.replicate, List.getElem?_cons_succ, List.getElem?_cons_zero, List.getElem?_nil, List.set_cons_succ, List.set_cons_zero, List.set_nil, List.all_nil, List.all_cons, Bool.true_and, Option.map_some, Option.map_none, if_true, if_false, decide_eq_true_eq, Bool.false_eq_true, List.take_succ_cons, List.take_zero, List.take_nil, List.drop_succ_cons, List.drop_zero, List.drop_nil, reduceIte, reduceCtorEq]
          refine q .thing c n .thing ?_ ?_ pn
          · rw [pow1]; simp only [Pg.size]; have := Nat.one_le_two_pow (n := N); omega
          · simp only [Pg.deep]; omega
        | mark m =>
          have hm : m = "a" ∨ m = "b" := by
            have := ko.1
            simpa [Kd.over] using this
          have fin : ∀ (p : Pg) (c' n' : Int), HasK r p (.mark m) → p.size ≤ 3 → p.deep ≤ 1 → PoolK n' → Kp (.val p.enc) [[.int c', .int n']] := fun p c' n' h1 h2 h3 h4 => by
            refine q p c' n' h1 ?_ (by omega) h4
            rw [pow1]; have := Nat.one_le_two_pow (n := N); omega
          rcases hm with rfl | rfl
          · simp only [t_Lprogram_12, t_Lprogram_11, t_Lprogram_10, t_Lprogram_9, t_Lprogram_8, pTake, Kd.enc, flatD, List.any_cons, List.any_nil, eqv_str, eqv_int, cut1, Bool.or_false, Bool.or_true, Bool.and_self, Bool.and_true, Bool.and_false, Bool.false_or, Bool.true_or, and_self, ofs_inj, ofs_app, ofs_len, String.reduceEq, String.reduceNe, String.reduceAppend, decide_true, decide_false, Bool.not_true, Bool.not_false, sz0, sz1, sz2, sz3, sz4, sz5, sz6, sz7, sz8, sz9, sz10, sz11, sz12, sz13, sz14, sz15, sz16, sz17, sz18, sz19, sz20, sz21, sz22, sz23, sz24, sz25, cpow1018, true_and, and_true, Nat.reduceAdd, Nat.reduceLT, Nat.reduceSub, Int.reduceNe, Int.reduceEq, Int.reduceLT, Int.reduceLE, Int.reduceToNat, ne_eq, not_false_eq_true, List.length_map, Nat.lt_irrefl, dV_nx, dV_rt, at0, at1, at2, at3, ix20, ix21, vSeq, vIfS, vTest, vTruth, truth, v2, v1, vN, vCons, vNil, vVar, vC, xIx, Vl.opI0, Vl.opI, pk, vSet, vAsg, xgSub, vRet, vRetN, vNext, vDrop, vBreak, vCont, asD, asDs, opMod, opDiv, opMul2, Vl.opAdd, opSub, opPow, opLt, Vl.opLe, opGt, Vl.opGe, xEq, okEq_str, okEq_int, Vl.opIn3, pkm, gModI, gDivI, gSubI, gMulI, gPowI, gGt, gLt, gLe, gGe, vNotT, vAndT, vOrT, vAndV, vOrV, opNot, opNotG, vIfE, opTup, opLst, opLstO, Vl.opLen, Vl.opInt, opList, opListO, opTuple, opII, gMax, gMin, vM, vM0, isT, xPop, Vl.opAppend, opExtend, opJoin, vgName, vgTup, vgCons, vgNil, kOpt_some, kOpn_some, vSl, vPart, vNoPart, opSl, opSlO, opRev, opCallK, ownD, ownO, objs, renum, uniq, getS, putS, vCall0, vFor, vSeqI, vTupI, vRng1, vRng2, vEnum, vZip, chkOf, vLcK, vYes, finD, finO, En.wipe, wipeE, En.trim, trimS, dropNone, clr, wth, Vl.ret, takeS, startV,  List.map_cons, List.map_nil, List.length_cons, List.length_nil, List.cons_append, List.nil_append, List.replicate, List.getElem?_cons_succ, List.getElem?_cons_zero, List.getElem?_nil, List.set_cons_succ, List.set_cons_zero, List.set_nil, List.all_nil, List.all_cons, Bool.true_and, Option.map_some, Option.map_none, if_true, if_false, decide_eq_true_eq, Bool.false_eq_true, List.take_succ_cons, List.take_zero, List.take_nil, List.drop_succ_cons, List.drop_zero, List.drop_nil, reduceIte, reduceCtorEq]
            refine ⟨by decide, by decide, by decide, pn, fun i c' n' i0 i1 pn' => ?_⟩
            obtain rfl | rfl : i = 0 ∨ i = 1 := by omega
            · simp only [flatD, List.any_cons, List.any_nil, eqv_str, eqv_int, cut1, Bool.or_false, Bool.or_true, Bool.and_self, Bool.and_true, Bool.and_false, Bool.false_or, Bool.true_or, and_self, ofs_inj, ofs_app, ofs_len, String.reduceEq, String.reduceNe, String.reduceAppend, decide_true, decide_false, Bool.not_true, Bool.not_false, sz0, sz1, sz2, sz3, sz4, sz5, sz6, sz7, sz8, sz9, sz10, sz11, sz12, sz13, sz14, sz15, sz16, sz17, sz18, sz19, sz20, sz21, sz22, sz23, sz24, sz25, cpow1018, true_and, and_true, Nat.reduceAdd, Nat.reduceLT, Nat.reduceSub, Int.reduceNe, Int.reduceEq, Int.reduceLT, Int.reduceLE, Int.reduceToNat, ne_eq, not_false_eq_true, List.length_map, Nat.lt_irrefl, dV_nx, dV_rt, at0, at1, at2, at3, ix20, ix21, vSeq, vIfS, vTest, vTruth, truth, v2, v1, vN, vCons, vNil, vVar, vC, xIx, Vl.opI0, Vl.opI, pk, vSet, vAsg, xgSub, vRet, vRetN, vNext, vDrop, vBreak, vCont, asD, asDs, opMod, opDiv, opMul2, Vl.opAdd, opSub, opPow, opLt, Vl.opLe, opGt, Vl.opGe, xEq, okEq_str, okEq_int, Vl.opIn3, pkm, gModI, gDivI, gSubI, gMulI, gPowI, gGt, gLt, gLe, gGe, vNotT, vAndT, vOrT, vAndV, vOrV, opNot, opNotG, vIfE, opTup, opLst, opLstO, Vl.opLen, Vl.opInt, opList, opListO, opTuple, opII, gMax, gMin, vM, vM0, isT, xPop, Vl.opAppend, opExtend, opJoin, vgName, vgTup, vgCons, vgNil, kOpt_some, kOpn_some, vSl, vPart, vNoPart, opSl, opSlO, opRev, opCallK, ownD, ownO, objs, renum, uniq, getS, putS, vCall0, vFor, vSeqI, vTupI, vRng1, vRng2, vEnum, vZip, chkOf, vLcK, vYes, finD, finO, En.wipe, wipeE, En.trim, trimS, dropNone, clr, wth, Vl.ret, takeS, startV,  List.map_cons, List.map_nil, List.length_cons, List.length_nil, List.cons_append, List.nil_append, List.replicate, List.getElem?_cons_succ, List.getElem?_cons_zero, List.getElem?_nil, List.set_cons_succ, List.set_cons_zero, List.set_nil, List.all_nil, List.all_cons, Bool.true_and, Option.map_some, Option.map_none, if_true, if_false, decide_eq_true_eq, Bool.false_eq_true, List.take_succ_cons, List.take_zero, List.take_nil, List.drop_succ_cons, List.drop_zero, List.drop_nil, reduceIte, reduceCtorEq]
              exact fin (.give (.name "fa") (.name "pa")) _ _ (.give (.name kr.fa) (.name kr.pa)) (by decide) (by decide) pn'
            · simp only [flatD, List.any_cons, List.any_nil, eqv_str, eqv_int, cut1, Bool.or_false, Bool.or_true, Bool.and_self, Bool.and_true, Bool.and_false, Bool.false_or, Bool.true_or, and_self, ofs_inj, ofs_app, ofs_len, String.reduceEq, String.reduceNe, String.reduceAppend, decide_true, decide_false, Bool.not_true, Bool.not_false, sz0, sz1, sz2, sz3, sz4, sz5, sz6, sz7, sz8, sz9, sz10, sz11, sz12, sz13, sz14, sz15, sz16, sz17, sz18, sz19, sz20, sz21, sz22, sz23, sz24, sz25, cpow1018, true_and, and_true, Nat.reduceAdd, Nat.reduceLT, Nat.reduceSub, Int.reduceNe, Int.reduceEq, Int.reduceLT, Int.reduceLE, Int.reduceToNat, ne_eq, not_false_eq_true, List.length_map, Nat.lt_irrefl, dV_nx, dV_rt, at0, at1, at2, at3, ix20, ix21, vSeq, vIfS, vTest, vTruth, truth, v2, v1, vN, vCons, vNil, vVar, vC, xIx, Vl.opI0, Vl.opI, pk, vSet, vAsg, xgSub, vRet, vRetN, vNext, vDrop, vBreak, vCont, asD, asDs, opMod, opDiv, opMul2, Vl.opAdd, opSub, opPow, opLt, Vl.opLe, opGt, Vl.opGe, xEq, okEq_str, okEq_int, Vl.opIn3, pkm, gModI, gDivI, gSubI, gMulI, gPowI, gGt, gLt, gLe, gGe, vNotT, vAndT, vOrT, vAndV, vOrV, opNot, opNotG, vIfE, opTup, opLst, opLstO, Vl.opLen, Vl.opInt, opList, opListO, opTuple, opII, gMax, gMin, vM, vM0, isT, xPop, Vl.opAppend, opExtend, opJoin, vgName, vgTup, vgCons, vgNil, kOpt_some, kOpn_some, vSl, vPart, vNoPart, opSl, opSlO, opRev, opCallK, ownD, ownO, objs, renum, uniq, getS, putS, vCall0, vFor, vSeqI, vTupI, vRng1, vRng2, vEnum, vZip, chkOf, vLcK, vYes, finD, finO, En.wipe, wipeE, En.trim, trimS, dropNone, clr, wth, Vl.ret, takeS, startV,  List.map_cons, List.map_nil, List.length_cons, List.length_nil, List.cons_append, List.nil_append, List.replicate, List.getElem?_cons_succ, List.getElem?_cons_zero, List.getElem?_nil, List.set_cons_succ, List.set_cons_zero, List.set_nil, List.all_nil, List.all_cons, Bool.true_and, Option.map_some, Option.map_none, if_true, if_false, decide_eq_true_eq, Bool.false_eq_true, List.take_succ_cons, List.take_zero, List.take_nil, List.drop_succ_cons, List.drop_zero, List.drop_nil, reduceIte, reduceCtorEq]
              exact fin (.name "pa") _ _ (.name kr.pa) (by decide) (by decide) pn'
          · simp only [t_Lprogram_12, t_Lprogram_11, t_Lprogram_10, t_Lprogram_9, t_Lprogram_8, pTake, Kd.enc, flatD, List.any_cons, List.any_nil, eqv_str, eqv_int, cut1, Bool.or_false, Bool.or_true, Bool.and_self, Bool.and_true, Bool.and_false, Bool.false_or, Bool.true_or, and_self, ofs_inj, ofs_app, ofs_len, String.reduceEq, String.reduceNe, String.reduceAppend, decide_true, decide_false, Bool.not_true, Bool.not_false, sz0, sz1, sz2, sz3, sz4, sz5, sz6, sz7, sz8, sz9, sz10, sz11, sz12, sz13, sz14, sz15, sz16, sz17, sz18, sz19, sz20, sz21, sz22, sz23, sz24, sz25, cpow1018, true_and, and_true, Nat.reduceAdd, Nat.reduceLT, Nat.reduceSub, Int.reduceNe, Int.reduceEq, Int.reduceLT, Int.reduceLE, Int.reduceToNat, ne_eq, not_false_eq_true, List.length_map, Nat.lt_irrefl, dV_nx, dV_rt, at0, at1, at2, at3, ix20, ix21, vSeq, vIfS, vTest, vTruth, truth, v2, v1, vN, vCons, vNil, vVar, vC, xIx, Vl.opI0, Vl.opI, pk, vSet, vAsg, xgSub, vRet, vRetN, vNext, vDrop, vBreak, vCont, asD, asDs, opMod, opDiv, opMul2, Vl.opAdd, opSub, opPow, opLt, Vl.opLe, opGt, Vl.opGe, xEq, okEq_str, okEq_int, Vl.opIn3, pkm, gModI, gDivI, gSubI, gMulI, gPowI, gGt, gLt, gLe, gGe, vNotT, vAndT, vOrT, vAndV, vOrV, opNot, opNotG, vIfE, opTup, opLst, opLstO, Vl.opLen, Vl.opInt, opList, opListO, opTuple, opII, gMax, gMin, vM, vM0, isT, xPop, Vl.opAppend, opExtend, opJoin, vgName, vgTup, vgCons, vgNil, kOpt_some, kOpn_some, vSl, vPart, vNoPart, opSl, opSlO, opRev, opCallK, ownD, ownO, objs, renum, uniq, getS, putS, vCall0, vFor, vSeqI, vTupI, vRng1, vRng2, vEnum, vZip, chkOf, vLcK, vYes, finD, finO, En.wipe, wipeE, En.trim, trimS, dropNone, clr, wth, Vl.ret, takeS, startV,  List.map_cons, List.map_nil, List.length_cons, List.length_nil, List.cons_append, List.nil_append, List.replicate, List.getElem?_cons_succ, List.getElem?_cons_zero, List.getElem?_nil, List.set_cons_succ, List.set_cons_zero, List.set_nil, List.all_nil, List.all_cons, Bool.true_and, Option.map_some, Option.map_none, if_true, if_false, decide_eq_true_eq, Bool.false_eq_true, List.take_succ_cons, List.take_zero, List.take_nil, List.drop_succ_cons, List.drop_zero, List.drop_nil, reduceIte, reduceCtorEq]
            refine ⟨by decide, by decide, by decide, pn, fun i c' n' i0 i1 pn' => ?_⟩
            obtain rfl | rfl : i = 0 ∨ i = 1 := by omega
            · simp only [flatD, List.any_cons, List.any_nil, eqv_str, eqv_int, cut1, Bool.or_false, Bool.or_true, Bool.and_self, Bool.and_true, Bool.and_false, Bool.false_or, Bool.true_or, and_self, ofs_inj, ofs_app, ofs_len, String.reduceEq, String.reduceNe, String.reduceAppend, decide_true, decide_false, Bool.not_true, Bool.not_false, sz0, sz1, sz2, sz3, sz4, sz5, sz6, sz7, sz8, sz9, sz10, sz11, sz12, sz13, sz14, sz15, sz16, sz17, sz18, sz19, sz20, sz21, sz22, sz23, sz24, sz25, cpow1018, true_and, and_true, Nat.reduceAdd, Nat.reduceLT, Nat.reduceSub, Int.reduceNe, Int.reduceEq, Int.reduceLT, Int.reduceLE, Int.reduceToNat, ne_eq, not_false_eq_true, List.length_map, Nat.lt_irrefl, dV_nx, dV_rt, at0, at1, at2, at3, ix20, ix21, vSeq, vIfS, vTest, vTruth, truth, v2, v1, vN, vCons, vNil, vVar, vC, xIx, Vl.opI0, Vl.opI, pk, vSet, vAsg, xgSub, vRet, vRetN, vNext, vDrop, vBreak, vCont, asD, asDs, opMod, opDiv, opMul2, Vl.opAdd, opSub, opPow, opLt, Vl.opLe, opGt, Vl.opGe, xEq, okEq_str, okEq_int, Vl.opIn3, pkm, gModI, gDivI, gSubI, gMulI, gPowI, gGt, gLt, gLe, gGe, vNotT, vAndT, vOrT, vAndV, vOrV, opNot, opNotG, vIfE, opTup, opLst, opLstO, Vl.opLen, Vl.opInt, opList, opListO, opTuple, opII, gMax, gMin, vM, vM0, isT, xPop, Vl.opAppend, opExtend, opJoin, vgName, vgTup, vgCons, vgNil, kOpt_some, kOpn_some, vSl, vPart, vNoPart, opSl, opSlO, opRev, opCallK, ownD, ownO, objs, renum, uniq, getS, putS, vCall0, vFor, vSeqI, vTupI, vRng1, vRng2, vEnum, vZip, chkOf, vLcK, vYes, finD, finO, En.wipe, wipeE, En.trim, trimS, dropNone, clr, wth, Vl.ret, takeS, startV,  List.map_cons, List.map_nil, List.length_cons, List.length_nil, List.cons_append, List.nil_append, List.replicate, List.getElem?_cons_succ, List.getElem?_cons_zero, List.getElem?_nil, List.set_cons_succ, List.set_cons_zero, List.set_nil, List.all_nil, List.all_cons, Bool.true_and, Option.map_some, Option.map_none, if_true, if_false, decide_eq_true_eq, Bool.false_eq_true, List.take_succ_cons, List.take_zero, List.take_nil, List.drop_succ_cons, List.drop_zero, List.drop_nil, reduceIte, reduceCtorEq]
              exact fin (.give (.name "fb") (.name "pb")) _ _ (.give (.name kr.fb) (.name kr.pb)) (by decide) (by decide) pn'
            · simp only [flatD, List.any_cons, List.any_nil, eqv_str, eqv_int, cut1, Bool.or_false, Bool.or_true, Bool.and_self, Bool.and_true, Bool.and_false, Bool.false_or, Bool.true_or, and_self, ofs_inj, ofs_app, ofs_len, String.reduceEq, String.reduceNe, String.reduceAppend, decide_true, decide_false, Bool.not_true, Bool.not_false, sz0, sz1, sz2, sz3, sz4, sz5, sz6, sz7, sz8, sz9, sz10, sz11, sz12, sz13, sz14, sz15, sz16, sz17, sz18, sz19, sz20, sz21, sz22, sz23, sz24, sz25, cpow1018, true_and, and_true, Nat.reduceAdd, Nat.reduceLT, Nat.reduceSub, Int.reduceNe, Int.reduceEq, Int.reduceLT, Int.reduceLE, Int.reduceToNat, ne_eq, not_false_eq_true, List.length_map, Nat.lt_irrefl, dV_nx, dV_rt, at0, at1, at2, at3, ix20, ix21, vSeq, vIfS, vTest, vTruth, truth, v2, v1, vN, vCons, vNil, vVar, vC, xIx, Vl.opI0, Vl.opI, pk, vSet, vAsg, xgSub, vRet, vRetN, vNext, vDrop, vBreak, vCont, asD, asDs, opMod, opDiv, opMul2, Vl.opAdd, opSub, opPow, opLt, Vl.opLe, opGt, Vl.opGe, xEq, okEq_str, okEq_int, Vl.opIn3, pkm, gModI, gDivI, gSubI, gMulI, gPowI, gGt, gLt, gLe, gGe, vNotT, vAndT, vOrT, vAndV, vOrV, opNot, opNotG, vIfE, opTup, opLst, opLstO, Vl.opLen, Vl.opInt, opList, opListO, opTuple, opII, gMax, gMin, vM, vM0, isT, xPop, Vl.opAppend, opExtend, opJoin, vgName, vgTup, vgCons, vgNil, kOpt_some, kOpn_some, vSl, vPart, vNoPart, opSl, opSlO, opRev, opCallK, ownD, ownO, objs, renum, uniq, getS, putS, vCall0, vFor, vSeqI, vTupI, vRng1, vRng2, vEnum, vZip, chkOf, vLcK, vYes, finD, finO, En.wipe, wipeE, En.trim, trimS, dropNone, clr, wth, Vl.ret, takeS, startV,  List.map_cons, List.map_nil, List.length_cons, List.length_nil, List.cons_append, List.nil_append, List.replicate, List.getElem?_cons_succ, List.getElem?_cons_zero, List.getElem?_nil, List.set_cons_succ, List.set_cons_zero, List.set_nil, List.all_nil, List.all_cons, Bool.true_and, Option.map_some, Option.map_none, if_true, if_false, decide_eq_true_eq, Bool.false_eq_true, List.take_succ_cons, List.take_zero, List.take_nil, List.drop_succ_cons, List.drop_zero, List.drop_nil, reduceIte, reduceCtorEq]
              exact fin (.name "pb") _ _ (.name kr.pb) (by decide) (by decide) pn'
      simp only [t_Lprogram_13, pTake, flatD, List.any_cons, List.any_nil, eqv_str, eqv_int, cut1, Bool.or_false, Bool.or_true, Bool.and_self, Bool.and_true, Bool.and_false, Bool.false_or, Bool.true_or, and_self, ofs_inj, ofs_app, ofs_len, String.reduceEq, String.reduceNe, String.reduceAppend, decide_true, decide_false, Bool.not_true, Bool.not_false, sz0, sz1, sz2, sz3, sz4, sz5, sz6, sz7, sz8, sz9, sz10, sz11, sz12, sz13, sz14, sz15, sz16, sz17, sz18, sz19, sz20, sz21, sz22, sz23, sz24, sz25, cpow1018, true_and, and_true, Nat.reduceAdd, Nat.reduceLT, Nat.reduceSub, Int.reduceNe, Int.reduceEq, Int.reduceLT, Int.reduceLE, Int.reduceToNat, ne_eq, not_false_eq_true, List.length_map, Nat.lt_irrefl, dV_nx, dV_rt, at0, at1, at2, at3, ix20, ix21, vSeq, vIfS, vTest, vTruth, truth, v2, v1, vN, vCons, vNil, vVar, vC, xIx, Vl.opI0, Vl.opI, pk, vSet, vAsg, xgSub, vRet, vRetN, vNext, vDrop, vBreak, vCont, asD, asDs, opMod, opDiv, opMul2, Vl.opAdd, opSub, opPow, opLt, Vl.opLe, opGt, Vl.opGe, xEq, okEq_str, okEq_int, Vl.opIn3, pkm, gModI, gDivI, gSubI, gMulI, gPowI, gGt, gLt, gLe, gGe, vNotT, vAndT, vOrT, vAndV, vOrV, opNot, opNotG, vIfE, opTup, opLst, opLstO, Vl.opLen, Vl.opInt, opList, opListO, opTuple, opII, gMax, gMin, vM, vM0, isT, xPop, Vl.opAppend, opExtend, opJoin, vgName, vgTup, vgCons, vgNil, kOpt_some, kOpn_some, vSl, vPart, vNoPart, opSl, opSlO, opRev, opCallK, ownD, ownO, objs, renum, uniq, getS, putS, vCall0, vFor, vSeqI, vTupI, vRng1, vRng2, vEnum, vZip, chkOf, vLcK, vYes, finD, finO, En.wipe, wipeE, En.trim, trimS, dropNone, clr, wth, Vl.ret, takeS, startV,  List.map_cons, List.map_nil, List.length_cons, List.length_nil, List.cons_append, List.nil_append, List.replicate, List.getElem?_cons_succ, List.getElem?_cons_zero, List.getElem?_nil, List.set_cons_succ, List.set_cons_zero, List.set_nil, List.all_nil, List.all_cons, Bool.true_and, Option.map_some, Option.map_none, if_true, if_false, decide_eq_true_eq, Bool.false_eq_true, List.take_succ_cons, List.take_zero, List.take_nil, List.drop_succ_cons, List.drop_zero, List.drop_nil, reduceIte, reduceCtorEq]
      split
      · refine ⟨pn, fun l c2 n2 l0 l1 pn2 => ?_⟩
        split
        · simp only [t_Lprogram_2, pApart, flatD, List.any_cons, List.any_nil, eqv_str, eqv_int, cut1, Bool.or_false, Bool.or_true, Bool.and_self, Bool.and_true, Bool.and_false, Bool.false_or, Bool.true_or, and_self, ofs_inj, ofs_app, ofs_len, String.reduceEq, String.reduceNe, String.reduceAppend, decide_true, decide_false, Bool.not_true, Bool.not_false, sz0, sz1, sz2, sz3, sz4, sz5, sz6, sz7, sz8, sz9, sz10, sz11, sz12, sz13, sz14, sz15, sz16, sz17, sz18, sz19, sz20, sz21, sz22, sz23, sz24, sz25, cpow1018, true_and, and_true, Nat.reduceAdd, Nat.reduceLT, Nat.reduceSub, Int.reduceNe, Int.reduceEq, Int.reduceLT, Int.reduceLE, Int.reduceToNat, ne_eq, not_false_eq_true, List.length_map, Nat.lt_irrefl, dV_nx, dV_rt, at0, at1, at2, at3, ix20, ix21, vSeq, vIfS, vTest, vTruth, truth, v2, v1, vN, vCons, vNil, vVar, vC, xIx, Vl.opI0, Vl.opI, pk, vSet, vAsg, xgSub, vRet, vRetN, vNext, vDrop, vBreak, vCont, asD, asDs, opMod, opDiv, opMul2, Vl.opAdd, opSub, opPow, opLt, Vl.opLe, opGt, Vl.opGe, xEq, okEq_str, okEq_int, Vl.opIn3, pkm, gModI, gDivI, gSubI, gMulI, gPowI, gGt, gLt, gLe, gGe, vNotT, vAndT, vOrT, vAndV, vOrV, opNot, opNotG, vIfE, opTup, opLst, opLstO, Vl.opLen, Vl.opInt, opList, opListO, opTuple, opII, gMax, gMin, vM, vM0, isT, xPop, Vl.opAppend, opExtend, opJoin, vgName, vgTup, vgCons, vgNil, kOpt_some, kOpn_some, vSl, vPart, vNoPart, opSl, opSlO, opRev, opCallK, ownD, ownO, objs, renum, uniq, getS, putS, vCall0, vFor, vSeqI, vTupI, vRng1, vRng2, vEnum, vZip, chkOf, vLcK, vYes, finD, finO, En.wipe, wipeE, En.trim, trimS, dropNone, clr, wth, Vl.ret, takeS, startV,  List.map_cons, List.map_nil, List.length_cons, List.length_nil, List.cons_append, List.nil_append, List.replicate, List.getElem?_cons_succ, List.getElem?_cons_zero, List.getElem?_nil, List.set_cons_succ, List.set_cons_zero, List.set_nil, List.all_nil, List.all_cons, Bool.true_and, Option.map_some, Option.map_none, if_true, if_false, decide_eq_true_eq, Bool.false_eq_true, List.take_succ_cons, List.take_zero, List.take_nil, List.drop_succ_cons, List.drop_zero, List.drop_nil, reduceIte, reduceCtorEq]
          exact ⟨r, k, room, c2, n2, rfl, rfl, pn2, kr, rl, ko, by omega, by omega, q⟩
        · exact wide _ _ pn2
      · exact wide _ _ pn
    simp only [t_Lprogram_14, pTake, eqv_nil, flatD, List.any_cons, List.any_nil, eqv_str, eqv_int, cut1, Bool.or_false, Bool.or_true, Bool.and_self, Bool.and_true, Bool.and_false, Bool.false_or, Bool.true_or, and_self, ofs_inj, ofs_app, ofs_len, String.reduceEq, String.reduceNe, String.reduceAppend, decide_true, decide_false, Bool.not_true, Bool.not_false, sz0, sz1, sz2, sz3, sz4, sz5, sz6, sz7, sz8, sz9, sz10, sz11, sz12, sz13, sz14, sz15, sz16, sz17, sz18, sz19, sz20, sz21, sz22, sz23, sz24, sz25, cpow1018, true_and, and_true, Nat.reduceAdd, Nat.reduceLT, Nat.reduceSub, Int.reduceNe, Int.reduceEq, Int.reduceLT, Int.reduceLE, Int.reduceToNat, ne_eq, not_false_eq_true, List.length_map, Nat.lt_irrefl, dV_nx, dV_rt, at0, at1, at2, at3, ix20, ix21, vSeq, vIfS, vTest, vTruth, truth, v2, v1, vN, vCons, vNil, vVar, vC, xIx, Vl.opI0, Vl.opI, pk, vSet, vAsg, xgSub, vRet, vRetN, vNext, vDrop, vBreak, vCont, asD, asDs, opMod, opDiv, opMul2, Vl.opAdd, opSub, opPow, opLt, Vl.opLe, opGt, Vl.opGe, xEq, okEq_str, okEq_int, Vl.opIn3, pkm, gModI, gDivI, gSubI, gMulI, gPowI, gGt, gLt, gLe, gGe, vNotT, vAndT, vOrT, vAndV, vOrV, opNot, opNotG, vIfE, opTup, opLst, opLstO, Vl.opLen, Vl.opInt, opList, opListO, opTuple, opII, gMax, gMin, vM, vM0, isT, xPop, Vl.opAppend, opExtend, opJoin, vgName, vgTup, vgCons, vgNil, kOpt_some, kOpn_some, vSl, vPart, vNoPart, opSl, opSlO, opRev, opCallK, ownD, ownO, objs, renum, uniq, getS, putS, vCall0, vFor, vSeqI, vTupI, vRng1, vRng2, vEnum, vZip, chkOf, vLcK, vYes, finD, finO, En.wipe, wipeE, En.trim, trimS, dropNone, clr, wth, Vl.ret, takeS, startV,  List.map_cons, List.map_nil, List.length_cons, List.length_nil, List.cons_append, List.nil_append, List.replicate, List.getElem?_cons_succ, List.getElem?_cons_zero, List.getElem?_nil, List.set_cons_succ, List.set_cons_zero, List.set_nil, List.all_nil, List.all_cons, Bool.true_and, Option.map_some, Option.map_none, if_true, if_false, decide_eq_true_eq, Bool.false_eq_true, List.take_succ_cons, List.take_zero, List.take_nil, List.drop_succ_cons, List.drop_zero, List.drop_nil, reduceIte, reduceCtorEq]
    refine ⟨okEq_of (shp_names hok) shp_nil, ?_⟩
    have told : ∀ (D : VEnds) (c n : Int), D.rt = (dV 1 Kp).rt → xs ≠ [] → PoolK n → t_Lprogram_1 pNames pTake (pApart (N + 1)) (pProg N) D ⟨[some (.obj 0), some (.val (.list (r.map encB))), some (.val k.enc), some (.val (.int room)), none, some (.val (.list (xs.map nameD))), none, none, none], [some [.int c, .int n]]⟩ := fun D c n hD hn pn => by
      have hp : 0 < xs.length := List.length_pos_iff.mpr hn
      simp only [t_Lprogram_1, pTake, hD, flatD, List.any_cons, List.any_nil, eqv_str, eqv_int, cut1, Bool.or_false, Bool.or_true, Bool.and_self, Bool.and_true, Bool.and_false, Bool.false_or, Bool.true_or, and_self, ofs_inj, ofs_app, ofs_len, String.reduceEq, String.reduceNe, String.reduceAppend, decide_true, decide_false, Bool.not_true, Bool.not_false, sz0, sz1, sz2, sz3, sz4, sz5, sz6, sz7, sz8, sz9, sz10, sz11, sz12, sz13, sz14, sz15, sz16, sz17, sz18, sz19, sz20, sz21, sz22, sz23, sz24, sz25, cpow1018, true_and, and_true, Nat.reduceAdd, Nat.reduceLT, Nat.reduceSub, Int.reduceNe, Int.reduceEq, Int.reduceLT, Int.reduceLE, Int.reduceToNat, ne_eq, not_false_eq_true, List.length_map, Nat.lt_irrefl, dV_nx, dV_rt, at0, at1, at2, at3, ix20, ix21, vSeq, vIfS, vTest, vTruth, truth, v2, v1, vN, vCons, vNil, vVar, vC, xIx, Vl.opI0, Vl.opI, pk, vSet, vAsg, xgSub, vRet, vRetN, vNext, vDrop, vBreak, vCont, asD, asDs, opMod, opDiv, opMul2, Vl.opAdd, opSub, opPow, opLt, Vl.opLe, opGt, Vl.opGe, xEq, okEq_str, okEq_int, Vl.opIn3, pkm, gModI, gDivI, gSubI, gMulI, gPowI, gGt, gLt, gLe, gGe, vNotT, vAndT, vOrT, vAndV, vOrV, opNot, opNotG, vIfE, opTup, opLst, opLstO, Vl.opLen, Vl.opInt, opList, opListO, opTuple, opII, gMax, gMin, vM, vM0, isT, xPop, Vl.opAppend, opExtend, opJoin, vgName, vgTup, vgCons, vgNil, kOpt_some, kOpn_some, vSl, vPart, vNoPart, opSl, opSlO, opRev, opCallK, ownD, ownO, objs, renum, uniq, getS, putS, vCall0, vFor, vSeqI, vTupI, vRng1, vRng2, vEnum, vZip, chkOf, vLcK, vYes, finD, finO, En.wipe, wipeE, En.trim, trimS, dropNone, clr, wth, Vl.ret, takeS, startV,  List.map_cons, List.map_nil, List.length_cons, List.length_nil, List.cons_append, List.nil_append, List.replicate, List.getElem?_cons_succ, List.getElem?_cons_zero, List.getElem?_nil, List.set_cons_succ, List.set_cons_zero, List.set_nil, List.all_nil, List.all_cons, Bool.true_and, Option.map_some, Option.map_none, if_true, if_false, decide_eq_true_eq, Bool.false_eq_true, List.take_succ_cons, List.take_zero, List.take_nil, List.drop_succ_cons, List.drop_zero, List.drop_nil, reduceIte, reduceCtorEq]
      refine ⟨pn, by omega, by omega, fun i c' n' i0 i1 pn' => ?_⟩
      obtain ⟨x, hx, hm⟩ := at_any (xs := xs.map nameD) i0 (by rw [List.length_map]; exact i1)
      obtain ⟨y, hy, rfl⟩ := List.mem_map.mp hm
      simp only [hx, flatD, List.any_cons, List.any_nil, eqv_str, eqv_int, cut1, Bool.or_false, Bool.or_true, Bool.and_self, Bool.and_true, Bool.and_false, Bool.false_or, Bool.true_or, and_self, ofs_inj, ofs_app, ofs_len, String.reduceEq, String.reduceNe, String.reduceAppend, decide_true, decide_false, Bool.not_true, Bool.not_false, sz0, sz1, sz2, sz3, sz4, sz5, sz6, sz7, sz8, sz9, sz10, sz11, sz12, sz13, sz14, sz15, sz16, sz17, sz18, sz19, sz20, sz21, sz22, sz23, sz24, sz25, cpow1018, true_and, and_true, Nat.reduceAdd, Nat.reduceLT, Nat.reduceSub, Int.reduceNe, Int.reduceEq, Int.reduceLT, Int.reduceLE, Int.reduceToNat, ne_eq, not_false_eq_true, List.length_map, Nat.lt_irrefl, dV_nx, dV_rt, at0, at1, at2, at3, ix20, ix21, vSeq, vIfS, vTest, vTruth, truth, v2, v1, vN, vCons, vNil, vVar, vC, xIx, Vl.opI0, Vl.opI, pk, vSet, vAsg, xgSub, vRet, vRetN, vNext, vDrop, vBreak, vCont, asD, asDs, opMod, opDiv, opMul2, Vl.opAdd, opSub, opPow, opLt, Vl.opLe, opGt, Vl.opGe, xEq, okEq_str, okEq_int, Vl.opIn3, pkm, gModI, gDivI, gSubI, gMulI, gPowI, gGt, gLt, gLe, gGe, vNotT, vAndT, vOrT, vAndV, vOrV, opNot, opNotG, vIfE, opTup, opLst, opLstO, Vl.opLen, Vl.opInt, opList, opListO, opTuple, opII, gMax, gMin, vM, vM0, isT, xPop, Vl.opAppend, opExtend, opJoin, vgName, vgTup, vgCons, vgNil, kOpt_some, kOpn_some, vSl, vPart, vNoPart, opSl, opSlO, opRev, opCallK, ownD, ownO, objs, renum, uniq, getS, putS, vCall0, vFor, vSeqI, vTupI, vRng1, vRng2, vEnum, vZip, chkOf, vLcK, vYes, finD, finO, En.wipe, wipeE, En.trim, trimS, dropNone, clr, wth, Vl.ret, takeS, startV,  List.map_cons, List.map_nil, List.length_cons, List.length_nil, List.cons_append, List.nil_append, List.replicate, List.getElem?_cons_succ, List.getElem?_cons_zero, List.getElem?_nil, List.set_cons_succ, List.set_cons_zero, List.set_nil, List.all_nil, List.all_cons, Bool.true_and, Option.map_some, Option.map_none, if_true, if_false, decide_eq_true_eq, Bool.false_eq_true, List.take_succ_cons, List.take_zero, List.take_nil, List.drop_succ_cons, List.drop_zero, List.drop_nil, reduceIte, reduceCtorEq]
      exact n1 y _ _ (hxs' y hy) pn'
    have en : xs.map nameD = [] ↔ xs = [] := by simp
    by_cases hn : xs = []
    · rw [decide_eq_true (en.mpr hn)]
      exact rest _ _ pn
    · rw [decide_eq_false fun z => hn (en.mp z)]
      simp only [flatD, List.any_cons, List.any_nil, eqv_str, eqv_int, cut1, Bool.or_false, Bool.or_true, Bool.and_self, Bool.and_true, Bool.and_false, Bool.false_or, Bool.true_or, and_self, ofs_inj, ofs_app, ofs_len, String.reduceEq, String.reduceNe, String.reduceAppend, decide_true, decide_false, Bool.not_true, Bool.not_false, sz0, sz1, sz2, sz3, sz4, sz5, sz6, sz7, sz8, sz9, sz10, sz11, sz12, sz13, sz14, sz15, sz16, sz17, sz18, sz19, sz20, sz21, sz22, sz23, sz24, sz25, cpow1018, true_and, and_true, Nat.reduceAdd, Nat.reduceLT, Nat.reduceSub, Int.reduceNe, Int.reduceEq, Int.reduceLT, Int.reduceLE, Int.reduceToNat, ne_eq, not_false_eq_true, List.length_map, Nat.lt_irrefl, dV_nx, dV_rt, at0, at1, at2, at3, ix20, ix21, vSeq, vIfS, vTest, vTruth, truth, v2, v1, vN, vCons, vNil, vVar, vC, xIx, Vl.opI0, Vl.opI, pk, vSet, vAsg, xgSub, vRet, vRetN, vNext, vDrop, vBreak, vCont, asD, asDs, opMod, opDiv, opMul2, Vl.opAdd, opSub, opPow, opLt, Vl.opLe, opGt, Vl.opGe, xEq, okEq_str, okEq_int, Vl.opIn3, pkm, gModI, gDivI, gSubI, gMulI, gPowI, gGt, gLt, gLe, gGe, vNotT, vAndT, vOrT, vAndV, vOrV, opNot, opNotG, vIfE, opTup, opLst, opLstO, Vl.opLen, Vl.opInt, opList, opListO, opTuple, opII, gMax, gMin, vM, vM0, isT, xPop, Vl.opAppend, opExtend, opJoin, vgName, vgTup, vgCons, vgNil, kOpt_some, kOpn_some, vSl, vPart, vNoPart, opSl, opSlO, opRev, opCallK, ownD, ownO, objs, renum, uniq, getS, putS, vCall0, vFor, vSeqI, vTupI, vRng1, vRng2, vEnum, vZip, chkOf, vLcK, vYes, finD, finO, En.wipe, wipeE, En.trim, trimS, dropNone, clr, wth, Vl.ret, takeS, startV,  List.map_cons, List.map_nil, List.length_cons, List.length_nil, List.cons_append, List.nil_append, List.replicate, List.getElem?_cons_succ, List.getElem?_cons_zero, List.getElem?_nil, List.set_cons_succ, List.set_cons_zero, List.set_nil, List.all_nil, List.all_cons, Bool.true_and, Option.map_some, Option.map_none, if_true, if_false, decide_eq_true_eq, Bool.false_eq_true, List.take_succ_cons, List.take_zero, List.take_nil, List.drop_succ_cons, List.drop_zero, List.drop_nil, reduceIte, reduceCtorEq]
      split
      · exact told _ _ _ rfl hn pn
      · refine ⟨pn, fun l c2 n2 l0 l1 pn2 => ?_⟩
        split
        · exact told _ _ _ rfl hn pn2
        · exact rest _ _ pn2
end
end Kf
namespace Kf
open PySem L2 Vl PySem.Spec PyProof.Rows
abbrev sLnames : Stmt := top 11
abbrev nLnames : List Str := ["_law_known", "_law_found", "_law_name", "_law_kind_here"]
theorem scLnames : FnScope nLnames ["_law_known"] (defScope sLnames) := ⟨rfl, rfl, rfl, by decide +kernel, rfl, by decide +kernel, by decide +kernel⟩

/-- a def by hand ends with new data -/
theorem done_new {K : PySem.W.Frag} {R F : Hp} {A : List Addr} {σ : L2.St} {H H' : Hp} {e : En} (rep : Rep K R F A σ H e) (same : L2.Same H H') {v : V} {d : D} (hv : At K (fun b => if (H b).isSome then F b else H' b) d v) :
    Rep K R (fun b => if (H b).isSome then F b else H' b) A [some v] H' ⟨[some (.val d)], e.st⟩ ∧ Le F (fun b => if (H b).isSome then F b else H' b) := by
  have lF : Le F (fun b => if (H b).isSome then F b else H' b) := fun b o h => by
    have hb := rep.sub b o h
    show (if (H b).isSome then F b else H' b) = some o
    rw [hb]
    exact h
  refine ⟨⟨fun b o h => ?_, fun b o h => same _ _ (rep.keep b o h), fun a o z => ⟨?_, (rep.apart a o z).2⟩, rfl, rep.lenA, rep.nodup, fun a ha => ?_, fun i s z => ?_, fun j ds z => ?_⟩, lF⟩
  · have h' : (if (H b).isSome then F b else H' b) = some o := h
    split at h'
    · exact same _ _ (rep.sub b o h')
    · exact h'
  · show (if (H a).isSome then F a else H' a) = none
    rw [rep.keep a o z]
    exact (rep.apart a o z).1
  · obtain ⟨o, ho⟩ := rep.live a ha
    exact ⟨o, same _ _ ho⟩
  · cases i with
    | zero =>
      have z' : some (some (Sl.val d)) = some (some s) := z
      cases z'
      exact ⟨v, rfl, hv⟩
    | succ i => simp at z
  · obtain ⟨a, xs, h1, h2, h3, h4⟩ := rep.store j ds z
    refine ⟨a, xs, h1, ?_, same _ _ h3, AtL.le lF _ _ h4⟩
    show (if (H a).isSome then F a else H' a) = none
    rw [h3]
    exact h2
/-- what the dict of names holds behind the first i pairs -/
structure Dn (K : PySem.W.Frag) (F : Hp) (r : List (Str × Kd)) (kvs : List (L2.Key × V)) : Prop where
  keys : ∃ ks : List Str, kvs.map (·.1) = ks.map Sum.inr ∧ ks.length ≤ r.length
  at_ : ∀ x k, look r x = some k → ∃ v, valV kvs (Sum.inr x) = some v ∧ At K F k.enc v
  no : ∀ x, look r x = none → valV kvs (Sum.inr x) = none
theorem Dn.nil {K : PySem.W.Frag} {F : Hp} : Dn K F [] [] := ⟨⟨[], rfl, Nat.le_refl _⟩, fun x k h => (nomatch (show (none : Option Kd) = some k from h)), fun x _ => rfl⟩
theorem same_new {H : Hp} {p : Addr} {o : HO} (h : H p = none) : L2.Same H (upd H p o) := fun b u e => by
  rw [upd_ne (ne_of_none e h)]
  exact e
/-- what stood still, and what is new but at D -/
def frD (H F : Hp) (D : Addr) (H' : Hp) : Hp := fun b => if (H b).isSome then F b else if b = D then none else H' b
theorem frD_le {H F H2 H3 : Hp} {D : Addr} (h : ∀ b o, H b = none → b ≠ D → H2 b = some o → H3 b = some o) : Le (frD H F D H2) (frD H F D H3) := fun b o e => by
  unfold frD at e ⊢
  split at e
  · rename_i q
    rw [if_pos q]
    exact e
  · rename_i q
    rw [if_neg q]
    split at e
    · cases e
    · rename_i q2
      rw [if_neg q2]
      refine h b o ?_ q2 e
      cases z : H b with
      | none => rfl
      | some u => rw [z] at q; exact absurd rfl q
theorem frD_all {H F H2 : Hp} {D : Addr} (s : Le F H) : Le (frD H F D H2) (fun b => if (H b).isSome then F b else H2 b) := fun b o e => by
  unfold frD at e
  show (if (H b).isSome then F b else H2 b) = some o
  split at e
  · rename_i q
    rw [if_pos q]
    exact e
  · rename_i q
    rw [if_neg q]
    split at e
    · cases e
    · exact e
theorem le_frD {H F H2 : Hp} {D : Addr} (s : Le F H) : Le F (frD H F D H2) := fun b o e => by
  unfold frD
  rw [if_pos (by rw [s b o e]; rfl)]
  exact e
theorem frD_new {H F H2 : Hp} {D b : Addr} {o : HO} (h : H b = none) (n : b ≠ D) (e : H2 b = some o) : frD H F D H2 b = some o := by
  unfold frD
  rw [h, if_neg (by simp), if_neg n]
  exact e
theorem Dn.put {K : PySem.W.Frag} {F : Hp} {r : List (Str × Kd)} {kvs : List (L2.Key × V)} (d : Dn K F r kvs) {x : Str} {k : Kd} {v : V} (h : At K F k.enc v) : Dn K F (r ++ [(x, k)]) (putK kvs (Sum.inr x) v) := by
  obtain ⟨ks, h1, h2⟩ := d.keys
  refine ⟨?_, fun y l e => ?_, fun y e => ?_⟩
  · cases z : valV kvs (Sum.inr x) with
    | none =>
      rw [putK_new v z]
      exact ⟨ks ++ [x], by simp [h1], by simp; omega⟩
    | some u =>
      refine ⟨ks, ?_, by simp; omega⟩
      unfold putK
      rw [valV_any, z]
      simp only [Option.isSome_some, if_true, List.map_map]
      rw [← h1]
      refine List.map_congr_left fun p _ => ?_
      show (if p.1 = Sum.inr x then (p.1, v) else p).1 = p.1
      split <;> rfl
  · rw [look_app] at e
    rw [valV_put]
    split at e
    · rename_i hx
      cases e
      subst hx
      exact ⟨v, by rw [if_pos rfl], h⟩
    · rename_i hx
      obtain ⟨u, h3, h4⟩ := d.at_ y l e
      exact ⟨u, by rw [if_neg (fun z => hx (Sum.inr.inj z).symm)]; exact h3, h4⟩
  · rw [look_app] at e
    rw [valV_put]
    split at e
    · cases e
    · rename_i hx
      rw [if_neg (fun z => hx (Sum.inr.inj z).symm)]
      exact d.no y e
theorem valV_key {kvs : List (L2.Key × V)} {k : L2.Key} (h : k ∈ kvs.map (·.1)) : ∃ v, valV kvs k = some v := by
  cases z : valV kvs k with
  | some v => exact ⟨v, rfl⟩
  | none =>
    have := valV_any k kvs
    rw [z] at this
    simp only [Option.isSome_none, List.any_eq_false, decide_eq_true_eq] at this
    obtain ⟨p, hp, e⟩ := List.mem_map.mp h
    exact absurd e (this p hp)
section
variable {P : Program} {w : World} {K : PySem.W.Frag} {mg : Str → Option Value} {base : Heap}
theorem f_names (Fd : Df K mg "_law_names" sLnames ["_law_known"]) (B : Blt mg) : VFn P w K mg base 1 "_law_names" ["_law_known"] pNames := by
  obtain ⟨f, fd, F, b, g⟩ := Fd.ex
  refine ⟨f, fd, F.ok scLnames (fun vs H Q E h => ?_) (fun cdv A outer s H vs Q E hr h => ?_), F.kp, b, g⟩
  · obtain ⟨R, F0, A0, ss, st, Kp, rep, ⟨r, rfl, rfl, _⟩, _⟩ := h
    have := rep.len
    simpa using this.symm
  · obtain ⟨R, F0, A0, ss, st, Kp, rep, ⟨r, rfl, rfl, rl, q⟩, fin⟩ := h
    obtain ⟨v, rfl⟩ : ∃ v, vs = [v] := by
      have := rep.len
      simp at this
      exact List.length_eq_one_iff.mp this.symm
    obtain ⟨v', e1, e2⟩ := rep.slot 0 _ rfl
    cases e1
    have e3 : At K F0 (.list (r.map encB)) v := e2
    obtain ⟨a, xs, rfl, ha, hx⟩ : ∃ a xs, v = .ref a ∧ F0 a = some (.lst xs) ∧ AtL K F0 (r.map encB) xs := by
      cases e3 with
      | lst h1 h2 => exact ⟨_, _, rfl, h1, h2⟩
    have hu := hu_of hr
    refine ⟨_, pss_cons (ps_set (i := 1) scLnames.nd rfl (Or.inr rfl) pe_dnewK)
      (pss_cons (ps_for PassesOwn.never rfl (pi_list (pv 0)) (pg_tup rfl (pgs_cons (pg_name (i := 2) scLnames.nd rfl (Or.inl rfl)) (pgs_cons (pg_name (i := 3) scLnames.nd rfl (Or.inl rfl)) pgs_nil)))
        (pss_one (ps_dput hu (pv 1) (pv 2) (pv 3) rfl)))
      (pss_one (ps_ret (pe_lc (own := [("_law_name", 2)]) (g := gName 2) (tt := tYes) (by rfl) scLnames.nd (pi_list (pe_callB (call_sortedD (by rfl)) (by rfl) B.sorted (by decide +kernel) (pa_cons (pv 1) pa_nil))) (blkOk_by (N := nLnames) (sc := defScope sLnames) (by decide +kernel)) (fun _ _ _ _ _ => pg_name (i := 2) scLnames.nd rfl (Or.inl rfl)) (fun _ _ _ _ _ => pts_nil)
        (fun _ _ _ _ _ => pe_tup (pa_cons (pv 2) (pa_cons (pe_dget hu (pv 1) (pv 2) (fun _ _ => rfl)) pa_nil))))))), ?_⟩
    intro d hd
    have hd' : H d = none := hd
    have Hxs : ∀ {H' : Hp}, L2.Same H H' → SqL K H' a xs := fun {H'} s => SqL.of (s _ _ (rep.sub _ _ ha))
    have hlen : xs.length = r.length := by rw [hx.len, List.length_map]
    refine ⟨_, rfl, a, rfl, ⟨xs, Hxs (same_new hd')⟩, for_list (K := K) (a := a) (xs := xs) (fun i σ H' => ∃ (i2 i3 : Option V) (kvs : List (L2.Key × V)), σ = [some (.ref a), some (.ref d), i2, i3] ∧ H' d = some (.dK kvs) ∧ L2.Same H H' ∧ Dn K F0 (r.take i) kvs) ⟨none, none, [], rfl, upd_same, same_new hd', Dn.nil⟩ (fun i σ H' _ ⟨_, _, _, _, _, s, _⟩ => Hxs s) ?_ ?_⟩
    · rintro i x σ H2 hix ⟨i2, i3, kvs, rfl, hdk, s, dn⟩
      have hi : i < r.length := by
        have := (List.getElem?_eq_some_iff.mp hix).1
        omega
      obtain ⟨dd, hdd, hat⟩ := hx.getV hix
      have edd : dd = encB (r[i]) := by
        rw [List.getElem?_map, List.getElem?_eq_getElem hi] at hdd
        exact (Option.some.inj hdd).symm
      subst edd
      have hat' : At K F0 (.tuple [.str (r[i]).1, (r[i]).2.enc]) x := hat
      cases hat' with
      | tup h1 h2 =>
        cases h2 with
        | cons h2 h3 =>
          cases h2
          cases h3 with
          | cons h3 h4 =>
            cases h4
            rename_i t v
            refine ⟨t, _, rfl, sqT_le (rep.sub.trans s) h1, rfl, ?_⟩
            refine ⟨_, _, rfl, _, _, rfl, rfl, ?_⟩
            refine ⟨_, rfl, _, rfl, _, rfl, d, _, rfl, DPut.k (k := Sum.inr (r[i]).1) hdk (small1000 ?_), ?_⟩
            · obtain ⟨ks, k1, k2⟩ := dn.keys
              have e1 := congrArg List.length k1
              simp only [List.length_map, List.length_take] at e1 k2
              omega
            refine ⟨_, _, _, rfl, upd_same, fun b o h => ?_, ?_⟩
            · rw [upd_ne (ne_of_none h hd')]
              exact s _ _ h
            · rw [List.take_add_one, List.getElem?_eq_getElem hi]
              exact dn.put h3
    · rintro σ H2 ⟨i2, i3, kvs, rfl, hdk, s, dn⟩
      rw [hlen, List.take_length] at dn
      obtain ⟨ks, k1, k2⟩ := dn.keys
      refine ⟨_, rfl, d, kvs, ks, rfl, .inl hdk, k1, by omega, fun ys p perm srt hp => ⟨p, rfl, ⟨_, SqL.of upd_same⟩, fun D hD => ?_⟩⟩
      have hp' : H p = none := s.free hp
      have np : d ≠ p := ne_of_none hdk hp
      have hD2 : H2 D = none := (same_new (o := .lst (ys.map V.str)) hp).free hD
      have nD : d ≠ D := ne_of_none hdk hD2
      have nDp : p ≠ D := fun z => by rw [← z, upd_same] at hD; cases hD
      have yl : ys.length ≤ r.length := by rw [perm.length_eq]; omega
      refine lc_list (K := K) (a := p) (xs := ys.map V.str) (fun i H' => ∃ (us : List V) (res : List (Str × Kd)), H' D = some (.lst us) ∧ H' d = some (.dK kvs) ∧ H' p = some (.lst (ys.map V.str)) ∧ L2.Same H H' ∧ res.length = i ∧ (∀ x ∈ res, look r x.1 = some x.2) ∧ us.length = i ∧ AtL K (frD H F0 D H') (res.map encB) us)
        ⟨[], [], upd_same, by rw [upd_ne nD, upd_ne np]; exact hdk, by rw [upd_ne nDp, upd_same], fun b o h => ?_, rfl, by simp, rfl, .nil⟩ (fun i H' _ ⟨_, _, _, _, h, _⟩ => SqL.of h) ?_ ?_
      · rw [upd_ne (ne_of_none h (s.free hD2)), upd_ne (ne_of_none h hp')]
        exact s _ _ h
      · rintro i x H3 hix ⟨us, res, u1, u2, u3, s3, u4, u5, u6, u7⟩
        rw [List.getElem?_map] at hix
        obtain ⟨y, hy, rfl⟩ := Option.map_eq_some_iff.mp hix
        have yk : y ∈ ks := perm.mem_iff.mp (List.mem_of_getElem? hy)
        have il : i < ys.length := (List.getElem?_eq_some_iff.mp hy).1
        obtain ⟨v, hv⟩ := valV_key (kvs := kvs) (k := Sum.inr y) (by rw [k1]; exact List.mem_map.mpr ⟨y, yk, rfl⟩)
        obtain ⟨k, hk, hat⟩ : ∃ k, look r y = some k ∧ At K F0 k.enc v := by
          cases z : look r y with
          | none =>
            rw [dn.no y z] at hv
            cases hv
          | some k =>
            obtain ⟨u, w1, w2⟩ := dn.at_ y k z
            rw [hv] at w1
            cases w1
            exact ⟨k, rfl, w2⟩
        refine ⟨rfl, ?_⟩
        unfold tYes
        dsimp only
        rw [if_pos rfl]
        refine ⟨_, rfl, _, rfl, _, rfl, d, v, rfl, by rw [← hv]; exact DGet.k (k := Sum.inr y) u2, by show 2 ≤ sizeLine; decide, fun T hT => ?_⟩
        have nTD : D ≠ T := ne_of_none u1 hT
        have T0 : H T = none := s3.free hT
        have D0 : H D = none := s.free hD2
        refine ⟨us, by rw [upd_ne nTD]; exact u1, small1000 (by omega), us ++ [.ref T], res ++ [(y, k)], upd_same, ?_, ?_, fun b o h => ?_, by simp [u4], fun z hz => ?_, by simp [u6], ?_⟩
        · rw [upd_ne nD, upd_ne (ne_of_none u2 hT)]; exact u2
        · rw [upd_ne nDp, upd_ne (ne_of_none u3 hT)]; exact u3
        · rw [upd_ne (ne_of_none h D0), upd_ne (ne_of_none h T0)]
          exact s3 _ _ h
        · rcases List.mem_append.mp hz with hz | hz
          · exact u5 z hz
          · rw [List.mem_singleton.mp hz]
            exact hk
        · have lf : Le (frD H F0 D H3) (frD H F0 D (upd (upd H3 T (.tup [.str y, v])) D (.lst (us ++ [.ref T])))) := frD_le fun b o h1 h2 h3 => by
            rw [upd_ne h2, upd_ne (ne_of_none h3 hT)]
            exact h3
          rw [List.map_append]
          refine (AtL.le lf _ _ u7).app (AtL.one ?_)
          exact .tup (SqT.of (frD_new T0 (Ne.symm nTD) (by rw [upd_ne (Ne.symm nTD), upd_same]))) (.cons (.str y) (.cons (At.le (le_frD rep.sub) _ _ hat) .nil))
      · rintro H3 ⟨us, res, u1, u2, u3, s3, u4, u5, u6, u7⟩
        rw [List.length_map] at u4
        have hv : At K (fun b => if (H b).isSome then F0 b else H3 b) (.list (res.map encB)) (.ref D) := .lst (xs := us) (by
          show (if (H D).isSome then F0 D else H3 D) = _
          rw [s.free hD2]
          exact u1) (AtL.le (frD_all rep.sub) _ _ u7)
        obtain ⟨rep', l'⟩ := done_new rep s3 hv
        exact fin (.val (.list (res.map encB))) [] _ _ A0 _ (q res u5 (by omega)) l' (pfx_refl _) rep'
end
end Kf
namespace Kf
open PySem L2 Vl PySem.Spec PyProof.Rows
abbrev splacedin : Stmt := top 2
abbrev nplacedin : List Str := ["part", "place", "step", "inner"]
theorem scplacedin : FnScope nplacedin ["part", "place"] (defScope splacedin) := ⟨rfl, rfl, rfl, by decide +kernel, rfl, by decide +kernel, by decide +kernel⟩
abbrev sstepplaces : Stmt := top 5
abbrev nstepplaces : List Str := ["program", "places", "todo", "part", "place"]
theorem scstepplaces : FnScope nstepplaces ["program"] (defScope sstepplaces) := ⟨rfl, rfl, rfl, by decide +kernel, rfl, by decide +kernel, by decide +kernel⟩
abbrev sLlists : Stmt := top 18
abbrev nLlists : List Str := ["_law_thing", "_law_found", "_law_part"]
theorem scLlists : FnScope nLlists ["_law_thing"] (defScope sLlists) := ⟨rfl, rfl, rfl, by decide +kernel, rfl, by decide +kernel, by decide +kernel⟩
abbrev sLunshared : Stmt := top 19
abbrev nLunshared : List Str := ["_law_thing", "_law_lists_here", "_law_one", "_law_sizes", "_law_size"]
theorem scLunshared : FnScope nLunshared ["_law_thing"] (defScope sLunshared) := ⟨rfl, rfl, rfl, by decide +kernel, rfl, by decide +kernel, by decide +kernel⟩

/-! calls of defs over data by hand -/
/-- all but what stands still -/
def restH (H F : Hp) : Hp := fun a => if (F a).isSome then none else H a
theorem restH_some {H F : Hp} {a : Addr} {o : HO} : restH H F a = some o ↔ F a = none ∧ H a = some o := by
  unfold restH
  cases z : F a <;> simp
theorem pure_in {K : PySem.W.Frag} {H F : Hp} {vs : List V} {ss : List Sl} (le : Le F H) (h : SlAts K F [] vs ss) : Rep K (restH H F) F [] (vs.map some) H ⟨ss.map some, []⟩ := by
  refine ⟨le, fun a o z => (restH_some.mp z).2, fun a o z => ⟨(restH_some.mp z).1, by simp⟩, by simp [h.len], rfl, List.nodup_nil, fun a ha => by simp at ha, fun i s z => ?_, fun j ds z => by simp at z⟩
  have z' : (ss.map some)[i]? = some (some s) := z
  rw [List.getElem?_map] at z'
  obtain ⟨t, ht, hs⟩ := Option.map_eq_some_iff.mp z'
  cases hs
  obtain ⟨v, h1, h2⟩ := slAts_get h ht
  exact ⟨v, by rw [List.getElem?_map, h1] <;> rfl, h2⟩
theorem pure_out {K : PySem.W.Frag} {H F F' H' : Hp} {A' : List Addr} {v : V} {d : D} {st' : List (Option (List D))} (rep : Rep K (restH H F) F' A' [some v] H' ⟨[some (.val d)], st'⟩) (leH : Le F H) (l : Le F F') : L2.Same H H' ∧ Le F' H' ∧ (∀ a o, H a = some o → F a = none → F' a = none) ∧ At K F' d v := by
  refine ⟨fun a o h => ?_, rep.sub, fun a o h n => (rep.apart a o (restH_some.mpr ⟨n, h⟩)).1, ?_⟩
  · cases z : F a with
    | none => exact rep.keep _ _ (restH_some.mpr ⟨z, h⟩)
    | some u =>
      have := leH _ _ z
      rw [h] at this
      cases this
      exact rep.sub _ _ (l _ _ z)
  · obtain ⟨u, h1, h2⟩ := rep.slot 0 _ rfl
    cases h1
    exact h2
inductive All2 {α β : Type} (R : α → β → Prop) : List α → List β → Prop
  | nil : All2 R [] []
  | cons {a : α} {b : β} {as : List α} {bs : List β} : R a b → All2 R as bs → All2 R (a :: as) (b :: bs)
theorem All2.len {α β : Type} {R : α → β → Prop} {as : List α} {bs : List β} (h : All2 R as bs) : as.length = bs.length := by
  induction h with
  | nil => rfl
  | cons _ _ ih => simp [ih]
theorem All2.imp {α β : Type} {R S : α → β → Prop} {as : List α} {bs : List β} (h : All2 R as bs) (f : ∀ a b, a ∈ as → R a b → S a b) : All2 S as bs := by
  induction h with
  | nil => exact .nil
  | cons h _ ih => exact .cons (f _ _ List.mem_cons_self h) (ih fun a b m => f a b (List.mem_cons_of_mem _ m))
theorem All2.app {α β : Type} {R : α → β → Prop} {as cs : List α} {bs ds : List β} (h : All2 R as bs) (g : All2 R cs ds) : All2 R (as ++ cs) (bs ++ ds) := by
  induction h with
  | nil => exact g
  | cons h _ ih => exact .cons h ih
theorem All2.rev {α β : Type} {R : α → β → Prop} {as : List α} {bs : List β} (h : All2 R as bs) : All2 R as.reverse bs.reverse := by
  induction h with
  | nil => exact .nil
  | cons h _ ih =>
    rw [List.reverse_cons, List.reverse_cons]
    exact ih.app (.cons h .nil)
theorem All2.last {α β : Type} {R : α → β → Prop} {as : List α} {a : α} {bs : List β} (h : All2 R (as ++ [a]) bs) : ∃ cs b, bs = cs ++ [b] ∧ All2 R as cs ∧ R a b := by
  induction as generalizing bs with
  | nil =>
    cases h with
    | cons h1 h2 =>
      cases h2
      exact ⟨[], _, rfl, .nil, h1⟩
  | cons x as ih =>
    cases h with
    | cons h1 h2 =>
      obtain ⟨cs, b, rfl, h3, h4⟩ := ih h2
      exact ⟨_ :: cs, b, rfl, .cons h1 h3, h4⟩
/-- a part that is still to be looked at, with the list of its place -/
structure Td where
  p : Pg
  pl : List Int
  q : Addr
def TdAt (K : PySem.W.Frag) (F H : Hp) (t : Td) (u : V) : Prop := ∃ T v, u = .ref T ∧ H T = some (.tup [v, .ref t.q]) ∧ At K F t.p.enc v ∧ H t.q = some (.lst (t.pl.map .int))
theorem TdAt.mono {K : PySem.W.Frag} {F F' H H' : Hp} (l : Le F F') (s : L2.Same H H') {t : Td} {u : V} (h : TdAt K F H t u) : TdAt K F' H' t u := by
  obtain ⟨T, v, e, h1, h2, h3⟩ := h
  exact ⟨T, v, e, s _ _ h1, At.le l _ _ h2, s _ _ h3⟩
/-- the own parts of a part, each with its place's list -/
def inns (pl : List Int) : Nat → List Pg → List Addr → List Td
  | i, p :: ps, q :: qs => ⟨p, pl ++ [(i : Int)], q⟩ :: inns pl (i + 1) ps qs
  | _, _, _ => []
def spPlaced (K : PySem.W.Frag) : Sp := fun vs H Q _ => ∃ (F : Hp) (p : Pg) (pl : List Int) (vp : V) (L : Addr), vs = [vp, .ref L] ∧ Le F H ∧ At K F p.enc vp ∧ H L = some (.lst (pl.map .int)) ∧ pl.length ≤ 1000 ∧
  ∀ (D : Addr) (us : List V) (qs : List Addr) (F' H' : Hp), L2.Same H H' → H D = none → H' D = some (.lst us) → Le F F' → Le F' H' → (∀ a o, H a = some o → F a = none → F' a = none) → F' D = none → All2 (TdAt K F' H') (inns pl 0 p.inn qs) us → qs.length = p.inn.length → qs.Nodup → (∀ q ∈ qs, H q = none ∧ F' q = none ∧ q ≠ D) → Q (.ref D) H'
theorem lc_enum {K : PySem.W.Frag} {a : Addr} {xs : List V} {g : TG} {tt : TT} {te : TE} {vs : List Nat} {σ : L2.St} {H1 : Hp} {D : Addr} {Qd : Hp → Prop} (Pv : Nat → Hp → Prop) (h0 : Pv 0 (upd H1 D (.lst []))) (hl : ∀ i H, i ≤ xs.length → Pv i H → SqL K H a xs)
    (hs : ∀ i x H T, xs[i]? = some x → Pv i H → H T = none → g (.ref T) (wipe σ vs) (upd H T (.tup [.int ((i : Nat) : Int), x])) fun σ2 H2 => wipe σ2 vs = wipe σ vs ∧ tt σ2 H2 fun b H3 =>
      if b = true then te σ2 H3 fun y H4 => ∃ acc, H4 D = some (.lst acc) ∧ acc.length < sizeLine ∧ Pv (i + 1) (upd H4 D (.lst (acc ++ [y]))) else Pv (i + 1) H3) (hd : ∀ H, Pv xs.length H → Qd H) :
    ∃ W : Nat → Nat → Hp → Prop, (∃ m, W 0 m (upd H1 D (.lst []))) ∧ ∀ i m H, W i m H →
      ((Ite K a).stop i H ∧ Qd H) ∨ ((Ite K a).go i H ∧ ∃ Nx : Hp → Prop, (∀ H', Nx H' → ∃ m', m' < m ∧ W (i + 1) m' H') ∧ ∀ x H', (Ite K a).yld i H x H' → g x (wipe σ vs) H' fun σ2 H2 => wipe σ2 vs = wipe σ vs ∧ tt σ2 H2 fun b H3 =>
        if b = true then te σ2 H3 fun y H4 => ∃ acc, H4 D = some (.lst acc) ∧ acc.length < sizeLine ∧ Nx (upd H4 D (.lst (acc ++ [y]))) else Nx H3) := by
  refine ⟨fun i m H => m = xs.length - i ∧ i ≤ xs.length ∧ Pv i H, ⟨xs.length, by simp, Nat.zero_le _, h0⟩, ?_⟩
  rintro i m H ⟨rfl, hi, p⟩
  have q := hl i H hi p
  by_cases hlt : i < xs.length
  · refine .inr ⟨⟨xs, xs[i], q, by simp [hlt]⟩, Pv (i + 1), fun H' p' => ⟨xs.length - (i + 1), by omega, rfl, hlt, p'⟩, fun x H' y => ?_⟩
    obtain ⟨T, z, rfl, hT, rfl, y⟩ := y
    exact hs i z H T (y xs q) p hT
  · have e : i = xs.length := by omega
    subst e
    exact .inl ⟨⟨xs, q, Nat.le_refl _⟩, hd H p⟩
theorem inns_q {pl : List Int} {t : Td} : ∀ {ps : List Pg} {i : Nat} {qs : List Addr}, t ∈ inns pl i ps qs → t.q ∈ qs
  | [], _, _, h => by simp [inns] at h
  | _ :: _, _, [], h => by simp [inns] at h
  | p :: ps, i, q :: qs, h => by
    have h' : t ∈ (⟨p, pl ++ [(i : Int)], q⟩ : Td) :: inns pl (i + 1) ps qs := h
    rcases List.mem_cons.mp h' with h | h
    · rw [h]
      exact List.mem_cons_self
    · exact List.mem_cons_of_mem _ (inns_q h)
theorem inns_app (pl : List Int) : ∀ (ps : List Pg) (i : Nat) (qs : List Addr) (p : Pg) (q : Addr), qs.length = ps.length → inns pl i (ps ++ [p]) (qs ++ [q]) = inns pl i ps qs ++ [⟨p, pl ++ [((i + ps.length : Nat) : Int)], q⟩]
  | [], i, [], p, q, _ => rfl
  | x :: ps, i, y :: qs, p, q, h => by
    show _ :: inns pl (i + 1) (ps ++ [p]) (qs ++ [q]) = _
    rw [inns_app pl ps (i + 1) qs p q (by simpa using h), List.length_cons, show i + 1 + ps.length = i + (ps.length + 1) from by omega]
    rfl
  | [], _, _ :: _, _, _, h => by simp at h
  | _ :: _, _, [], _, _, h => by simp at h
section
variable {P : Program} {w : World} {K : PySem.W.Frag} {mg : Str → Option Value} {base : Heap}
theorem ok_placed {f : Addr} {fd : FuncData} (F : Fun K "placed_in" "placed_in" splacedin f fd) (GI : VFn P w K mg base 1 "programs_in" ["part"] pInn) (B : Blt mg) : FnOk P w K mg base CX0 2 f fd ["part", "place"] (spPlaced K) := by
  refine F.ok scplacedin (fun vs H Q E h => ?_) (fun cdv A outer s H vs Q E hr h => ?_)
  · obtain ⟨_, _, _, _, _, rfl, _⟩ := h
    rfl
  · obtain ⟨F0, p, pl, vp, L, rfl, le, hp, hL, hl, k⟩ := h
    obtain ⟨f1, fd1, G, kp, b, g⟩ := GI.ex
    refine ⟨_, pss_one (ps_ret (pe_lc (own := [("step", 2), ("inner", 3)]) (g := gTup K 2 (gCons (gName 2) (gCons (gName 3) gNil))) (tt := tYes) (by rfl) scplacedin.nd (pi_enum (by rfl) B.enumerate (pa_cons (pe_call G hr (by rfl) g kp b .nil pass0 (pa_cons (pv 0) pa_nil)) pa_nil)) (blkOk_by (N := nplacedin) (sc := defScope splacedin) (by decide +kernel))
      (fun _ _ _ _ _ => pg_tup rfl (pgs_cons (pg_name (i := 2) scplacedin.nd rfl (Or.inl rfl)) (pgs_cons (pg_name (i := 3) scplacedin.nd rfl (Or.inl rfl)) pgs_nil))) (fun _ _ _ _ _ => pts_nil)
      (fun _ _ _ _ _ => pe_tup (pa_cons (pv 3) (pa_cons (pe_op op_cat (pv 1) (pe_lst (pa_cons (pv 2) pa_nil))) pa_nil))))), ?_⟩
    refine ⟨_, rfl, restH H F0, F0, [], [.val p.enc], [], fun s st' => s = .val (.list (p.inn.map Pg.enc)) ∧ st' = [], pure_in le (.cons (s := .val p.enc) hp .nil), ⟨p, rfl, rfl, rfl, rfl⟩, fun s st' v F1 A1 H1 k1 l1 p1 rep1 => ?_⟩
    obtain ⟨rfl, rfl⟩ := k1
    obtain ⟨s1, le1, ap1, hv⟩ := pure_out rep1 le l1
    obtain ⟨a, xs, rfl, ha, hx⟩ : ∃ a xs, v = .ref a ∧ F1 a = some (.lst xs) ∧ AtL K F1 (p.inn.map Pg.enc) xs := by
      cases hv with
      | lst h1 h2 => exact ⟨_, _, rfl, h1, h2⟩
    have hxl : xs.length = p.inn.length := by rw [hx.len, List.length_map]
    have small : p.inn.length ≤ 2 := by cases p <;> simp [Pg.inn]
    refine ⟨a, xs, rfl, SqL.of (le1 _ _ ha), fun D hD => ?_⟩
    have D0 : H D = none := s1.free hD
    have FD : F1 D = none := le1.free hD
    refine lc_enum (K := K) (a := a) (xs := xs) (fun i H' => ∃ (us : List V) (qs : List Addr), H' D = some (.lst us) ∧ L2.Same H1 H' ∧ us.length = i ∧ qs.length = i ∧ qs.Nodup ∧ (∀ q ∈ qs, H q = none ∧ F1 q = none ∧ q ≠ D ∧ ∃ o, H' q = some o) ∧ All2 (TdAt K F1 H') (inns pl 0 (p.inn.take i) qs) us)
      ⟨[], [], upd_same, same_new hD, rfl, rfl, List.nodup_nil, by simp, .nil⟩ (fun i H' _ ⟨_, _, _, s, _⟩ => SqL.of (s _ _ (le1 _ _ ha))) ?_ ?_
    · rintro i x H2 T hix ⟨us, qs, u1, s2, u2, u3, u4, u5, u6⟩ hT
      have hi : i < p.inn.length := by
        have := (List.getElem?_eq_some_iff.mp hix).1
        omega
      obtain ⟨dd, hdd, hat⟩ := hx.getV hix
      have edd : dd = (p.inn[i]).enc := by
        rw [List.getElem?_map, List.getElem?_eq_getElem hi] at hdd
        exact (Option.some.inj hdd).symm
      subst edd
      have nTD : D ≠ T := ne_of_none u1 hT
      refine ⟨T, _, rfl, SqT.of upd_same, rfl, _, _, rfl, _, _, rfl, rfl, rfl, ?_⟩
      unfold tYes
      dsimp only
      rw [if_pos rfl]
      have hL2 : H2 L = some (.lst (pl.map .int)) := s2 _ _ (s1 _ _ hL)
      have nLT : L ≠ T := ne_of_none hL2 hT
      refine ⟨_, rfl, _, rfl, _, rfl, by show 1 ≤ sizeLine; decide, fun M hM => ?_⟩
      have M2 : H2 M = none := (same_new (o := .tup [.int ((i : Nat) : Int), x]) hT).free hM
      have nLM : L ≠ M := ne_of_none hL2 M2
      have nTM : T ≠ M := fun z => by rw [← z, upd_same] at hM; cases hM
      refine ⟨L, M, _, _, rfl, rfl, by rw [upd_ne nLM, upd_ne nLT]; exact hL2, upd_same, ?_, fun q hq => ?_⟩
      · rw [List.length_map]
        show pl.length + 1 ≤ sizeLine
        exact big (by omega)
      have qM : upd H2 T (.tup [.int ((i : Nat) : Int), x]) q = none := (same_new (o := .lst [.int ((i : Nat) : Int)]) hM).free hq
      have q2 : H2 q = none := (same_new (o := .tup [.int ((i : Nat) : Int), x]) hT).free qM
      have q0 : H q = none := s1.free (s2.free q2)
      have nqD : q ≠ D := fun z => by rw [z, u1] at q2; cases q2
      refine ⟨by show 2 ≤ sizeLine; decide, fun U hU => ?_⟩
      have qN : upd (upd H2 T (.tup [.int ((i : Nat) : Int), x])) M (.lst [.int ((i : Nat) : Int)]) U = none := (same_new hq).free hU
      have UM := (same_new hM).free qN
      have U2 : H2 U = none := (same_new hT).free UM
      have nUD : D ≠ U := ne_of_none u1 U2
      have nMD : D ≠ M := ne_of_none u1 M2
      have nqU : q ≠ U := fun z => by rw [← z, upd_same] at hU; cases hU
      have s3 : ∀ b o, b ≠ D → H2 b = some o → upd (upd (upd (upd (upd H2 T (.tup [.int ((i : Nat) : Int), x])) M (.lst [.int ((i : Nat) : Int)])) q (.lst (pl.map V.int ++ [.int ((i : Nat) : Int)]))) U (.tup [x, .ref q])) D (.lst (us ++ [.ref U])) b = some o := fun b o n h => by
        rw [upd_ne n, upd_ne (ne_of_none h U2), upd_ne (ne_of_none h q2), upd_ne (ne_of_none h M2), upd_ne (ne_of_none h hT)]
        exact h
      refine ⟨us, ?_, small1000 (by omega), us ++ [.ref U], qs ++ [q], upd_same, fun b o h => ?_, by simp [u2], by simp [u3], ?_, fun z hz => ?_, ?_⟩
      · rw [upd_ne nUD, upd_ne (Ne.symm nqD), upd_ne nMD, upd_ne nTD]
        exact u1
      · exact s3 b o (ne_of_none h hD) (s2 _ _ h)
      · rw [List.nodup_append]
        refine ⟨u4, by simp, fun z hz y hy e => ?_⟩
        obtain ⟨_, _, _, o, ho⟩ := u5 z hz
        rw [e, List.mem_singleton.mp hy, q2] at ho
        cases ho
      · rcases List.mem_append.mp hz with hz | hz
        · obtain ⟨z1, z2, z3, o, ho⟩ := u5 z hz
          exact ⟨z1, z2, z3, o, s3 _ _ z3 ho⟩
        · rw [List.mem_singleton.mp hz]
          refine ⟨q0, le1.free (s2.free q2), nqD, .lst (pl.map V.int ++ [.int ((i : Nat) : Int)]), ?_⟩
          rw [upd_ne nqD, upd_ne nqU, upd_same]
      · have et : p.inn.take (i + 1) = p.inn.take i ++ [p.inn[i]] := by rw [List.take_add_one, List.getElem?_eq_getElem hi] <;> rfl
        have lt : (p.inn.take i).length = i := by rw [List.length_take]; omega
        rw [et, inns_app pl _ 0 qs _ q (by rw [lt, u3]), Nat.zero_add, lt]
        refine (u6.imp fun t u ht h => ?_).app (.cons ⟨U, x, rfl, ?_, hat, ?_⟩ .nil)
        · obtain ⟨T', v', e, h1, h2, h3⟩ := h
          refine ⟨T', v', e, s3 _ _ (fun z => ?_) h1, h2, s3 _ _ (fun z => ?_) h3⟩
          · rw [z, u1] at h1; cases h1
          · exact (u5 t.q (inns_q ht)).2.2.1 z
        · rw [upd_ne (Ne.symm nUD), upd_same]
        · rw [upd_ne nqD, upd_ne nqU, upd_same, List.map_append] <;> rfl
    · rintro H2 ⟨us, qs, u1, s2, u2, u3, u4, u5, u6⟩
      rw [hxl, List.take_length] at u6
      refine k D us qs F1 H2 (s1.trans s2) D0 u1 l1 (fun b o h => s2 _ _ (le1 _ _ h)) ap1 FD u6 (by omega) u4 fun q hq => ?_
      obtain ⟨z1, z2, z3, _⟩ := u5 q hq
      exact ⟨z1, z2, z3⟩
end
end Kf
namespace Kf
open PySem L2 Vl PySem.Spec PyProof.Rows
theorem All2.imp' {α β : Type} {R S : α → β → Prop} {as : List α} {bs : List β} (h : All2 R as bs) (f : ∀ a b, a ∈ as → b ∈ bs → R a b → S a b) : All2 S as bs := by
  induction h with
  | nil => exact .nil
  | cons h _ ih => exact .cons (f _ _ List.mem_cons_self List.mem_cons_self h) (ih fun a b m m' => f a b (List.mem_cons_of_mem _ m) (List.mem_cons_of_mem _ m'))
theorem all2_get {α β : Type} {R : α → β → Prop} {as : List α} {bs : List β} (h : All2 R as bs) {i : Nat} {a : α} (e : as[i]? = some a) : ∃ b, R a b := by
  induction h generalizing i with
  | nil => simp at e
  | cons h _ ih =>
    cases i with
    | zero =>
      simp at e
      exact ⟨_, e ▸ h⟩
    | succ i => exact ih (i := i) (by simpa using e)
theorem all2_mem {α β : Type} {R : α → β → Prop} {as : List α} {bs : List β} (h : All2 R as bs) {b : β} (e : b ∈ bs) : ∃ a, R a b := by
  induction h with
  | nil => cases e
  | cons h _ ih =>
    rcases List.mem_cons.mp e with e | e
    · exact ⟨_, e ▸ h⟩
    · exact ih e
theorem nd_swap {a c : List Addr} {q : Addr} (h : (a ++ ([q] ++ c)).Nodup) : (a ++ (c ++ [q])).Nodup := by
  have p : (a ++ (c ++ [q])).Perm (a ++ ([q] ++ c)) := List.Perm.append_left a List.perm_append_comm
  exact p.nodup_iff.mpr h
theorem nd_drop {a c : List Addr} {q : Addr} (h : (a ++ ([q] ++ c)).Nodup) : (a ++ c).Nodup := by
  have s : (a ++ c).Sublist (a ++ ([q] ++ c)) := List.Sublist.append (List.Sublist.refl a) (List.sublist_append_right [q] c)
  exact s.nodup h
theorem nd_mix {a c n : List Addr} (h : (a ++ c).Nodup) (hn : n.Nodup) (d : ∀ q ∈ n, ∀ z ∈ a ++ c, q ≠ z) : (a ++ n.reverse ++ c).Nodup := by
  have p : (a ++ n.reverse ++ c).Perm (n ++ (a ++ c)) := by
    refine (List.Perm.append_right c (List.Perm.append_left a n.reverse_perm)).trans ?_
    refine (List.Perm.append_right c List.perm_append_comm).trans ?_
    rw [List.append_assoc]
  refine p.nodup_iff.mpr ?_
  rw [List.nodup_append]
  exact ⟨hn, h, d⟩
def PlAt (H : Hp) (pl : List Int) (q : Addr) : Prop := H q = some (.lst (pl.map .int))
def due (ts : List Td) : List (List Int) := ts.flatMap fun t => t.p.places t.pl
def szT (ts : List Td) : Nat := (ts.map fun t => t.p.size).sum
theorem due_app (a b : List Td) : due (a ++ b) = due a ++ due b := by simp [due]
theorem szT_app (a b : List Td) : szT (a ++ b) = szT a + szT b := by simp [szT]
theorem szT_rev (a : List Td) : szT a.reverse = szT a := by
  induction a with
  | nil => rfl
  | cons x a ih => rw [List.reverse_cons, szT_app, ih]; simp [szT]; omega
theorem Pg.size_pos : ∀ p : Pg, 1 ≤ p.size
  | .name _ => Nat.le_refl _
  | .take _ _ p => by simp only [Pg.size]; omega
  | .give p q => by simp only [Pg.size]; omega
  | .pair p q => by simp only [Pg.size]; omega
  | .first p => by simp only [Pg.size]; omega
  | .second p => by simp only [Pg.size]; omega
  | .thing => Nat.le_refl _
theorem szT_len (a : List Td) : a.length ≤ szT a := by
  induction a with
  | nil => exact Nat.zero_le _
  | cons x a ih =>
    have := x.p.size_pos
    simp only [List.length_cons, szT, List.map_cons, List.sum_cons] at *
    omega
/-- the parts of a part: what is due, their sizes -/
theorem inns_due (p : Pg) (pl : List Int) (qs : List Addr) (h : qs.length = p.inn.length) : here p.can pl ++ due (inns pl 0 p.inn qs) = p.places pl := by
  cases p with
  | name x => rfl
  | thing => rfl
  | take x k p =>
    match qs, h with
    | [q], _ => simp [Pg.inn, inns, due, Pg.places, Pg.can, here]
  | give p p' =>
    match qs, h with
    | [q, q'], _ => simp [Pg.inn, inns, due, Pg.places, Pg.can]
  | pair p p' =>
    match qs, h with
    | [q, q'], _ => simp [Pg.inn, inns, due, Pg.places, Pg.can, here]
  | first p =>
    match qs, h with
    | [q], _ => simp [Pg.inn, inns, due, Pg.places, Pg.can]
  | second p =>
    match qs, h with
    | [q], _ => simp [Pg.inn, inns, due, Pg.places, Pg.can]
theorem inns_sz (p : Pg) (pl : List Int) (qs : List Addr) (h : qs.length = p.inn.length) : szT (inns pl 0 p.inn qs) + 1 = p.size := by
  cases p with
  | name x => rfl
  | thing => rfl
  | take x k p =>
    match qs, h with
    | [q], _ => simp [Pg.inn, inns, szT, Pg.size]
  | give p p' =>
    match qs, h with
    | [q, q'], _ => simp [Pg.inn, inns, szT, Pg.size]
  | pair p p' =>
    match qs, h with
    | [q, q'], _ => simp [Pg.inn, inns, szT, Pg.size]
  | first p =>
    match qs, h with
    | [q], _ => simp [Pg.inn, inns, szT, Pg.size]
  | second p =>
    match qs, h with
    | [q], _ => simp [Pg.inn, inns, szT, Pg.size]
theorem inns_far {p : Pg} {pl : List Int} {qs : List Addr} {t : Td} {n : Nat} (hn : pl.length + p.deep ≤ n) : t ∈ inns pl 0 p.inn qs → t.pl.length + t.p.deep ≤ n := by
  intro h
  cases p with
  | name x => simp [Pg.inn, inns] at h
  | thing => simp [Pg.inn, inns] at h
  | take x k p =>
    match qs, h with
    | q :: _, h =>
      simp [Pg.inn, inns, Pg.deep] at h hn
      subst h
      simp
      omega
  | give p p' =>
    match qs, h with
    | [q], h =>
      simp [Pg.inn, inns, Pg.deep] at h hn
      subst h
      simp
      omega
    | q :: q' :: _, h =>
      simp [Pg.inn, inns, Pg.deep] at h hn
      rcases h with rfl | rfl <;> simp <;> omega
  | pair p p' =>
    match qs, h with
    | [q], h =>
      simp [Pg.inn, inns, Pg.deep] at h hn
      subst h
      simp
      omega
    | q :: q' :: _, h =>
      simp [Pg.inn, inns, Pg.deep] at h hn
      rcases h with rfl | rfl <;> simp <;> omega
  | first p =>
    match qs, h with
    | q :: _, h =>
      simp [Pg.inn, inns, Pg.deep] at h hn
      subst h
      simp
      omega
  | second p =>
    match qs, h with
    | q :: _, h =>
      simp [Pg.inn, inns, Pg.deep] at h hn
      subst h
      simp
      omega
theorem inns_qs {pl : List Int} : ∀ {ps : List Pg} {i : Nat} {qs : List Addr}, qs.length = ps.length → (inns pl i ps qs).map (·.q) = qs
  | [], _, [], _ => rfl
  | p :: ps, i, q :: qs, h => by
    show q :: (inns pl (i + 1) ps qs).map (·.q) = _
    rw [inns_qs (by simpa using h)]
  | [], _, _ :: _, h => by simp at h
  | _ :: _, _, [], h => by simp at h
def spSteps (K : PySem.W.Frag) : Sp := fun vs H Q _ => ∃ (F : Hp) (p : Pg) (vp : V), vs = [vp] ∧ Le F H ∧ At K F p.enc vp ∧ p.deep ≤ 900 ∧ p.size ≤ 2000000 ∧
  ∀ (PL : Addr) (qs : List Addr) (H' : Hp), L2.Same H H' → H PL = none → H' PL = some (.lst (qs.map V.ref)) → All2 (PlAt H') (p.places []) qs → qs.Nodup → (∀ q ∈ qs, H q = none ∧ q ≠ PL) → Q (.ref PL) H'
/-- the state at the loop's head -/
structure SpI (K : PySem.W.Frag) (H : Hp) (p : Pg) (PL TL : Addr) (H' F' : Hp) (ts : List Td) (us : List V) (dn : List (List Int)) (qs : List Addr) : Prop where
  todo : H' TL = some (.lst us)
  each : All2 (TdAt K F' H') ts us
  told : H' PL = some (.lst (qs.map V.ref))
  lists : All2 (PlAt H') dn qs
  all : dn ++ due ts.reverse = p.places []
  nd : (ts.map (·.q) ++ qs).Nodup
  new : ∀ q ∈ ts.map (·.q) ++ qs, H q = none ∧ q ≠ PL ∧ q ≠ TL ∧ F' q = none
  le : Le F' H'
  fP : F' PL = none
  fT : F' TL = none
  same : L2.Same H H'
  far : ∀ t ∈ ts, t.pl.length + t.p.deep ≤ 900
  size : szT ts ≤ p.size
section
variable {P : Program} {w : World} {K : PySem.W.Frag} {mg : Str → Option Value} {base : Heap}
theorem ok_steps {f : Addr} {fd : FuncData} (F : Fun K "step_places" "step_places" sstepplaces f fd) (GC : VFn P w K mg base 1 "can_step" ["part"] pCan) {f2 : Addr} {fd2 : FuncData} (GP : FnOk P w K mg base CX0 2 f2 fd2 ["part", "place"] (spPlaced K)) (kP : PySem.W.keepIn K (.ref f2) = true) (bP : Binds K fd2 ["part", "place"] []) (gP : mg "placed_in" = some (.ref f2)) :
    FnOk P w K mg base CX0 3 f fd ["program"] (spSteps K) := by
  refine F.ok scstepplaces (fun vs H Q E h => ?_) (fun cdv A outer s H vs Q E hr h => ?_)
  · obtain ⟨_, _, _, rfl, _⟩ := h
    rfl
  · obtain ⟨F0, p, vp, rfl, le, hp, hd, hs, k⟩ := h
    obtain ⟨f1, fd1, G, kp, b, g⟩ := GC.ex
    have hr1 : Room 1 _ := hr.mono (by omega)
    refine ⟨_, pss_cons (ps_set (i := 1) scstepplaces.nd rfl (Or.inl rfl) (pe_lst pa_nil))
      (pss_cons (ps_set (i := 2) scstepplaces.nd rfl (Or.inl rfl) (pe_lst (pa_cons (pe_tup (pa_cons (pv 0) (pa_cons (pe_lst pa_nil) pa_nil))) pa_nil)))
      (pss_cons (ps_while PassesOwn.never (pt_truth (pv 2) (by intro _; rfl))
        (pss_cons (ps_asg (pe_bm0 PySem.F.plainAttrs_list PySem.F.slot_list_pop PySem.F.type_list_pop mt_pop (pv 2)) (pg_tup rfl (pgs_cons (pg_name (i := 3) scstepplaces.nd rfl (Or.inl rfl)) (pgs_cons (pg_name (i := 4) scstepplaces.nd rfl (Or.inl rfl)) pgs_nil))))
        (pss_cons (ps_if (pt_val (pe_call G hr1 (by rfl) g kp b .nil pass0 (pa_cons (pv 3) pa_nil))) (pss_one (ps_expr (pe_bm PySem.F.plainAttrs_list PySem.F.slot_list_append PySem.F.type_list_append mt_append (pv 1) (pa_cons (pv 4) pa_nil)))) pss_nil)
        (pss_one (ps_expr (pe_bm PySem.F.plainAttrs_list PySem.F.slot_list_extend PySem.F.type_list_extend mt_extend (pv 2) (pa_cons (pe_revL (pe_call GP hr (by rfl) gP kP bP .nil pass0 (pa_cons (pv 3) (pa_cons (pv 4) pa_nil)))) pa_nil)))))))
      (pss_one (ps_ret (pv 1))))), ?_⟩
    refine ⟨by show 0 ≤ sizeLine; decide, fun PL hPL => ?_⟩
    have sP := same_new (o := .lst []) hPL
    refine ⟨_, rfl, by show 0 ≤ sizeLine; decide, fun q0 hq0 => ⟨by show 2 ≤ sizeLine; decide, fun T0 hT0 => ⟨by show 1 ≤ sizeLine; decide, fun TL hTL => ?_⟩⟩⟩
    have sq := same_new (o := .lst []) hq0
    have sT := same_new (o := .tup [vp, .ref q0]) hT0
    have sL := same_new (o := .lst [.ref T0]) hTL
    have q00 : H q0 = none := sP.free hq0
    have T00 : H T0 = none := sP.free (sq.free hT0)
    have L00 : H TL = none := sP.free (sq.free (sT.free hTL))
    have nPq : PL ≠ q0 := fun z => by rw [← z, upd_same] at hq0; cases hq0
    have nPT : PL ≠ TL := fun z => by
      have := sq.free (sT.free hTL)
      rw [← z, upd_same] at this
      cases this
    have nqT : q0 ≠ T0 := fun z => by rw [← z, upd_same] at hT0; cases hT0
    have nqL : q0 ≠ TL := fun z => by
      have := sT.free hTL
      rw [← z, upd_same] at this
      cases this
    have nTL : T0 ≠ TL := fun z => by rw [← z, upd_same] at hTL; cases hTL
    have nPT0 : PL ≠ T0 := fun z => by
      have := sq.free hT0
      rw [← z, upd_same] at this
      cases this
    have s5 : ∀ b o, H b = some o → upd (upd (upd (upd H PL (.lst [])) q0 (.lst [])) T0 (.tup [vp, .ref q0])) TL (.lst [.ref T0]) b = some o := fun b o h => sL _ _ (sT _ _ (sq _ _ (sP _ _ h)))
    refine ⟨fun m σ H' => ∃ (i3 i4 : Option V) (F' : Hp) (ts : List Td) (us : List V) (dn : List (List Int)) (qs : List Addr), σ = [some vp, some (.ref PL), some (.ref TL), i3, i4] ∧ m = szT ts ∧ SpI K H p PL TL H' F' ts us dn qs,
      ⟨_, none, none, F0, [⟨p, [], q0⟩], [.ref T0], [], [], rfl, rfl, ⟨upd_same, .cons ⟨T0, vp, rfl, by rw [upd_ne nTL, upd_same], hp, by rw [upd_ne nqL, upd_ne nqT, upd_same] <;> rfl⟩ .nil, by rw [upd_ne nPT, upd_ne nPT0, upd_ne nPq, upd_same] <;> rfl, .nil, by simp [due], by simp, ?_, fun b o h => s5 _ _ (le _ _ h), le.free hPL, le.free L00, s5, ?_, by simp [szT]⟩⟩, ?_⟩
    · intro q hq
      have : q = q0 := by simpa using hq
      subst this
      exact ⟨q00, Ne.symm nPq, nqL, le.free q00⟩
    · intro t ht
      have : t = ⟨p, [], q0⟩ := by simpa using ht
      subst this
      show 0 + p.deep ≤ 900
      omega
    rintro m σ H' ⟨i3, i4, F', ts, us, dn, qs, rfl, rfl, I⟩
    refine ⟨_, rfl, !us.isEmpty, .inl ⟨us, SqL.of I.todo, rfl⟩, ?_⟩
    have ul := I.each.len
    rcases List.eq_nil_or_concat ts with rfl | ⟨ts0, t, rfl⟩
    · have ue : us = [] := by
        cases us with
        | nil => rfl
        | cons _ _ => simp at ul
      subst ue
      refine iteF ?_
      refine ⟨_, rfl, ?_⟩
      have e := I.all
      simp [due] at e
      subst e
      exact k PL qs H' I.same hPL I.told I.lists (by simpa using I.nd) fun q hq => ⟨(I.new q (by simpa using hq)).1, (I.new q (by simpa using hq)).2.1⟩
    · rw [List.concat_eq_append] at *
      obtain ⟨us0, u, rfl, e0, hu⟩ := I.each.last
      have ne : (!(us0 ++ [u]).isEmpty) = true := by simp
      rw [ne]
      refine iteT ?_
      obtain ⟨T, v, rfl, hT, hv, hq⟩ := hu
      have htq : t.q ∈ (ts0 ++ [t]).map (·.q) ++ qs := by simp
      obtain ⟨q_0, q_P, q_L, q_F⟩ := I.new _ htq
      have szt : szT (ts0 ++ [t]) = szT ts0 + t.p.size := by rw [szT_app]; simp [szT]
      refine ⟨fun σ' H2 => ∃ (i3 i4 : Option V) (F' : Hp) (ts : List Td) (us : List V) (dn : List (List Int)) (qs : List Addr), σ' = [some vp, some (.ref PL), some (.ref TL), i3, i4] ∧ szT ts < szT (ts0 ++ [t]) ∧ SpI K H p PL TL H2 F' ts us dn qs, fun σ' H2 ⟨j3, j4, F2, ts2, us2, dn2, qs2, e1, e2, e3⟩ => ⟨_, e2, j3, j4, F2, ts2, us2, dn2, qs2, e1, rfl, e3⟩, ?_⟩
      -- part, place = todo.pop()
      refine ⟨_, rfl, .inl ⟨rfl, _, SqL.of I.todo⟩, TL, us0 ++ [.ref T], .ref T, rfl, rfl, I.todo, by simp, ?_⟩
      rw [List.dropLast_concat]
      have k1 : ∀ b o, b ≠ TL → H' b = some o → upd H' TL (.lst us0) b = some o := fun b o n h => by rw [upd_ne n]; exact h
      have nT : T ≠ TL := fun z => by rw [z, I.todo] at hT; cases hT
      have nTP : T ≠ PL := fun z => by rw [z, I.told] at hT; cases hT
      refine ⟨T, _, rfl, SqT.of (k1 _ _ nT hT), rfl, ?_⟩
      refine ⟨_, _, rfl, _, _, rfl, rfl, ?_⟩
      -- can_step
      have le1 : Le F' (upd H' TL (.lst us0)) := fun b o h => k1 _ _ (fun z => by rw [z, I.fT] at h; cases h) (I.le _ _ h)
      refine ⟨_, rfl, restH (upd H' TL (.lst us0)) F', F', [], [.val t.p.enc], [], fun s st' => s = .val (.bool t.p.can) ∧ st' = [], pure_in le1 (.cons (s := .val t.p.enc) hv .nil), ⟨t.p, rfl, rfl, rfl, rfl⟩, fun s st' vb F1 A1 H1 kk l1 _ rep1 => ?_⟩
      obtain ⟨rfl, rfl⟩ := kk
      obtain ⟨s1, lf1, ap1, hvb⟩ := pure_out rep1 le1 l1
      cases (show At K F1 (.bool t.p.can) vb from hvb)
      refine ⟨_, rfl, ?_⟩
      have HT1 : H1 TL = some (.lst us0) := s1 _ _ upd_same
      have HP1 : H1 PL = some (.lst (qs.map V.ref)) := s1 _ _ (k1 _ _ nPT I.told)
      have FP1 : F1 PL = none := ap1 _ _ (k1 _ _ nPT I.told) I.fP
      have FT1 : F1 TL = none := ap1 _ _ upd_same I.fT
      have told1 : H1 PL = some (.lst (qs.map V.ref)) := HP1
      have nda := I.nd
      rw [List.map_append, List.append_assoc] at nda
      cases hc : t.p.can with
      | true =>
        refine iteT ?_
        refine ⟨_, rfl, .inl ⟨rfl, _, SqL.of HP1⟩, _, rfl, PL, _, _, rfl, rfl, HP1, ?_, ?_⟩
        · rw [List.length_map]
          have q1 : qs.length ≤ p.size := by
            have e1 := I.lists.len
            have e2 := congrArg List.length I.all
            have e3 := p.places_len []
            rw [List.length_append] at e2
            omega
          exact Nat.lt_of_le_of_lt (show qs.length ≤ 2000000 by omega) (by decide)
        obtain ⟨H3, hH3⟩ : ∃ H3, H3 = upd H1 PL (.lst (qs.map V.ref ++ [.ref t.q])) := ⟨_, rfl⟩
        obtain ⟨dn3, hdn3⟩ : ∃ dn3, dn3 = dn ++ [t.pl] := ⟨_, rfl⟩
        obtain ⟨qs3, hqs3⟩ : ∃ qs3, qs3 = qs ++ [t.q] := ⟨_, rfl⟩
        rw [← hH3]
        have k3 : ∀ b o, b ≠ PL → H1 b = some o → H3 b = some o := fun b o n h => by rw [hH3, upd_ne n]; exact h
        have told3 : H3 PL = some (.lst (qs3.map V.ref)) := by rw [hH3, upd_same, hqs3, List.map_append] <;> rfl
        have dn_eq : dn3 = dn ++ here t.p.can t.pl := by rw [hdn3, hc] <;> rfl
        have sub3 : ∀ q ∈ ts0.map (·.q) ++ qs3, q ∈ (ts0 ++ [t]).map (·.q) ++ qs := fun q h => by
          rw [hqs3] at h
          simp only [List.map_append, List.mem_append, List.map_cons, List.map_nil, List.mem_singleton] at h ⊢
          rcases h with h | h | h
          · exact .inl (.inl h)
          · exact .inr h
          · exact .inl (.inr h)
        have nd3 : (ts0.map (·.q) ++ qs3).Nodup := by
          rw [hqs3]
          exact nd_swap nda
        have lists3 : All2 (PlAt H3) dn3 qs3 := by
          rw [hdn3, hqs3]
          refine (I.lists.imp' fun x y hx hy h => ?_).app (.cons ?_ .nil)
          · have ym := I.new y (List.mem_append_right _ hy)
            exact k3 _ _ ym.2.1 (s1 _ _ (k1 _ _ ym.2.2.1 h))
          · exact k3 _ _ q_P (s1 _ _ (k1 _ _ q_L hq))
        -- todo.extend(placed_in(part, place)[::-1])
        have sz := t.p.size_pos
        have lf3 : Le F1 H3 := fun b o h => k3 _ _ (fun z => by rw [z, FP1] at h; cases h) (lf1 _ _ h)
        have hq3 : H3 t.q = some (.lst (t.pl.map .int)) := k3 _ _ q_P (s1 _ _ (k1 _ _ q_L hq))
        have HT3 : H3 TL = some (.lst us0) := k3 _ _ (Ne.symm nPT) HT1
        have far := I.far t (by simp)
        refine ⟨_, rfl, .inl ⟨rfl, _, SqL.of HT3⟩, _, rfl, _, rfl, F1, t.p, t.pl, v, t.q, rfl, lf3, At.le l1 _ _ hv, hq3, by omega, fun D us' qs' F4 H4 s4 hD D4 l4 lf4 ap4 FD4 all4 ql qnd qnew => ?_⟩
        refine ⟨D, us', rfl, SqL.of D4, fun D2 hD2 => ?_⟩
        have s5 := same_new (o := .lst us'.reverse) hD2
        have TL4 : H4 TL = some (.lst us0) := s4 _ _ HT3
        have nTD : TL ≠ D := ne_of_none HT3 hD
        have nTD2 : TL ≠ D2 := ne_of_none TL4 hD2
        have PL3 := told3
        have PL4 : H4 PL = some (.lst (qs3.map V.ref)) := s4 _ _ told3
        have nPD2 : PL ≠ D2 := ne_of_none PL4 hD2
        have a4l := all4.len
        have si := inns_sz t.p t.pl qs' ql
        have lenT0 := szT_len ts0
        have lenI := szT_len (inns t.pl 0 t.p.inn qs')
        have isz := I.size
        rw [szt] at isz
        have u0l := e0.len
        refine ⟨TL, D2, us0, us'.reverse, rfl, rfl, by rw [upd_ne nTD2]; exact TL4, upd_same, by rw [List.length_reverse]; exact big (by omega), ?_⟩
        -- the loop's head again
        have k5 : ∀ b o, b ≠ TL → b ≠ PL → H' b = some o → upd (upd H4 D2 (.lst us'.reverse)) TL (.lst (us0 ++ us'.reverse)) b = some o := fun b o n1 n2 h => by
          rw [upd_ne n1]
          exact s5 _ _ (s4 _ _ (k3 _ _ n2 (s1 _ _ (k1 _ _ n1 h))))
        have k6 : ∀ b o, b ≠ TL → H4 b = some o → upd (upd H4 D2 (.lst us'.reverse)) TL (.lst (us0 ++ us'.reverse)) b = some o := fun b o n1 h => by
          rw [upd_ne n1]
          exact s5 _ _ h
        have F4T : F4 TL = none := ap4 _ _ HT3 FT1
        have F4P : F4 PL = none := ap4 _ _ told3 FP1
        have tq : ∀ x ∈ inns t.pl 0 t.p.inn qs', x.q ∈ qs' := fun x hx => inns_q hx
        have qold : ∀ q ∈ qs', ∀ z ∈ (ts0 ++ [t]).map (·.q) ++ qs, q ≠ z := fun q hqm z hz e => by
          have h3 := (qnew q hqm).1
          have : ∃ o, H3 z = some o := by
            rcases List.mem_append.mp hz with hz | hz
            · obtain ⟨t', ht', rfl⟩ := List.mem_map.mp hz
              obtain ⟨iu, hiu⟩ := List.getElem?_of_mem ht'
              obtain ⟨_, _, _, _, _, _, ho⟩ := all2_get I.each hiu
              exact ⟨_, k3 _ _ (I.new t'.q (List.mem_append_left _ hz)).2.1 (s1 _ _ (k1 _ _ (I.new t'.q (List.mem_append_left _ hz)).2.2.1 ho))⟩
            · obtain ⟨pl', ho⟩ := all2_mem I.lists hz
              exact ⟨_, k3 _ _ (I.new z (List.mem_append_right _ hz)).2.1 (s1 _ _ (k1 _ _ (I.new z (List.mem_append_right _ hz)).2.2.1 ho))⟩
          obtain ⟨o, ho⟩ := this
          rw [← e, h3] at ho
          cases ho
        refine ⟨_, _, F4, ts0 ++ (inns t.pl 0 t.p.inn qs').reverse, us0 ++ us'.reverse, dn3, qs3, rfl, ?_, ⟨upd_same, ?_, ?_, ?_, ?_, ?_, ?_, ?_, F4P, F4T, ?_, ?_, ?_⟩⟩
        · rw [szt, szT_app, szT_rev]
          omega
        · refine (e0.imp fun x y hx h => ?_).app (all4.rev.imp fun x y hx h => ?_)
          · obtain ⟨T', v', e, h1, h2, h3⟩ := h
            have xm : x.q ∈ (ts0 ++ [t]).map (·.q) ++ qs := by simp; exact .inl ⟨x, hx, rfl⟩
            obtain ⟨z0, z1, z2, z3⟩ := I.new _ xm
            exact ⟨T', v', e, k5 _ _ (fun z => by rw [z, I.todo] at h1; cases h1) (fun z => by rw [z, I.told] at h1; cases h1) h1, At.le (l1.trans l4) _ _ h2, k5 _ _ z2 z1 h3⟩
          · obtain ⟨T', v', e, h1, h2, h3⟩ := h
            have xq := qnew _ (tq x (List.mem_reverse.mp hx))
            refine ⟨T', v', e, k6 _ _ (fun z => by rw [z, TL4] at h1; cases h1) h1, h2, k6 _ _ (fun z => ?_) h3⟩
            have := xq.1
            rw [z, HT3] at this
            cases this
        · rw [upd_ne nPT, upd_ne nPD2]
          exact PL4
        · refine lists3.imp' fun x y hx hy h => ?_
          have ym := I.new y (sub3 y (List.mem_append_right _ hy))
          exact k6 _ _ ym.2.2.1 (s4 _ _ h)
        · rw [List.reverse_append, List.reverse_reverse, due_app, ← List.append_assoc, dn_eq, List.append_assoc dn, inns_due t.p t.pl qs' ql]
          have := I.all
          rw [List.reverse_append, due_app] at this
          simpa [due] using this
        · rw [List.map_append, List.map_reverse, inns_qs ql]
          exact nd_mix nd3 qnd (fun q hqm z hz e => qold q hqm z (sub3 z hz) e)
        · intro q hqm
          rw [List.map_append, List.map_reverse, inns_qs ql] at hqm
          have hqm' : q ∈ ts0.map (·.q) ++ qs3 ∨ q ∈ qs' := by
            simp only [List.mem_append, List.mem_reverse] at hqm ⊢
            rcases hqm with (h | h) | h
            · exact .inl (.inl h)
            · exact .inr h
            · exact .inl (.inr h)
          rcases hqm' with h | h
          · obtain ⟨z0, z1, z2, z3⟩ := I.new _ (sub3 q h)
            have : ∃ o, H3 q = some o ∧ F1 q = none := by
              have hz := sub3 q h
              rcases List.mem_append.mp hz with hz | hz
              · obtain ⟨t', ht', rfl⟩ := List.mem_map.mp hz
                obtain ⟨iu, hiu⟩ := List.getElem?_of_mem ht'
                obtain ⟨_, _, _, _, _, _, ho⟩ := all2_get I.each hiu
                exact ⟨_, k3 _ _ z1 (s1 _ _ (k1 _ _ z2 ho)), ap1 _ _ (k1 _ _ z2 ho) z3⟩
              · obtain ⟨pl', ho⟩ := all2_mem I.lists hz
                exact ⟨_, k3 _ _ z1 (s1 _ _ (k1 _ _ z2 ho)), ap1 _ _ (k1 _ _ z2 ho) z3⟩
            obtain ⟨o, ho, hf⟩ := this
            exact ⟨z0, z1, z2, ap4 _ _ ho hf⟩
          · obtain ⟨y1, y2, y3⟩ := qnew q h
            have h1q : H1 q = none := by
              cases z : H1 q with
              | none => rfl
              | some o =>
                by_cases hp : q = PL
                · rw [hp, told3] at y1; cases y1
                · rw [k3 _ _ hp z] at y1; cases y1
            have h0q : H' q = none := by
              cases z : H' q with
              | none => rfl
              | some o =>
                by_cases hp : q = TL
                · rw [hp, HT3] at y1; cases y1
                · rw [s1 _ _ (k1 _ _ hp z)] at h1q; cases h1q
            refine ⟨I.same.free h0q, fun z => ?_, fun z => ?_, y2⟩
            · rw [z, told3] at y1; cases y1
            · rw [z, HT3] at y1; cases y1
        · intro b o h
          exact k6 _ _ (fun z => by rw [z, F4T] at h; cases h) (lf4 _ _ h)
        · intro b o h
          exact k5 _ _ (ne_of_none h L00) (ne_of_none h hPL) (I.same _ _ h)
        · intro x hx
          rcases List.mem_append.mp hx with hx | hx
          · exact I.far x (List.mem_append_left _ hx)
          · exact inns_far far (List.mem_reverse.mp hx)
        · rw [szT_app, szT_rev]
          omega
      | false =>
        refine iteF ?_
        obtain ⟨H3, hH3⟩ : ∃ H3, H3 = H1 := ⟨_, rfl⟩
        obtain ⟨dn3, hdn3⟩ : ∃ dn3, dn3 = dn := ⟨_, rfl⟩
        obtain ⟨qs3, hqs3⟩ : ∃ qs3, qs3 = qs := ⟨_, rfl⟩
        rw [← hH3]
        have k3 : ∀ b o, b ≠ PL → H1 b = some o → H3 b = some o := fun b o n h => by rw [hH3]; exact h
        have told3 : H3 PL = some (.lst (qs3.map V.ref)) := by rw [hH3, hqs3]; exact HP1
        have dn_eq : dn3 = dn ++ here t.p.can t.pl := by rw [hdn3, hc]; simp [here]
        have sub3 : ∀ q ∈ ts0.map (·.q) ++ qs3, q ∈ (ts0 ++ [t]).map (·.q) ++ qs := fun q h => by
          rw [hqs3] at h
          simp only [List.map_append, List.mem_append, List.map_cons, List.map_nil, List.mem_singleton] at h ⊢
          rcases h with h | h
          · exact .inl (.inl h)
          · exact .inr h
        have nd3 : (ts0.map (·.q) ++ qs3).Nodup := by
          rw [hqs3]
          exact nd_drop nda
        have lists3 : All2 (PlAt H3) dn3 qs3 := by
          rw [hdn3, hqs3]
          refine I.lists.imp' fun x y hx hy h => ?_
          have ym := I.new y (List.mem_append_right _ hy)
          exact k3 _ _ ym.2.1 (s1 _ _ (k1 _ _ ym.2.2.1 h))
        -- todo.extend(placed_in(part, place)[::-1])
        have sz := t.p.size_pos
        have lf3 : Le F1 H3 := fun b o h => k3 _ _ (fun z => by rw [z, FP1] at h; cases h) (lf1 _ _ h)
        have hq3 : H3 t.q = some (.lst (t.pl.map .int)) := k3 _ _ q_P (s1 _ _ (k1 _ _ q_L hq))
        have HT3 : H3 TL = some (.lst us0) := k3 _ _ (Ne.symm nPT) HT1
        have far := I.far t (by simp)
        refine ⟨_, rfl, .inl ⟨rfl, _, SqL.of HT3⟩, _, rfl, _, rfl, F1, t.p, t.pl, v, t.q, rfl, lf3, At.le l1 _ _ hv, hq3, by omega, fun D us' qs' F4 H4 s4 hD D4 l4 lf4 ap4 FD4 all4 ql qnd qnew => ?_⟩
        refine ⟨D, us', rfl, SqL.of D4, fun D2 hD2 => ?_⟩
        have s5 := same_new (o := .lst us'.reverse) hD2
        have TL4 : H4 TL = some (.lst us0) := s4 _ _ HT3
        have nTD : TL ≠ D := ne_of_none HT3 hD
        have nTD2 : TL ≠ D2 := ne_of_none TL4 hD2
        have PL3 := told3
        have PL4 : H4 PL = some (.lst (qs3.map V.ref)) := s4 _ _ told3
        have nPD2 : PL ≠ D2 := ne_of_none PL4 hD2
        have a4l := all4.len
        have si := inns_sz t.p t.pl qs' ql
        have lenT0 := szT_len ts0
        have lenI := szT_len (inns t.pl 0 t.p.inn qs')
        have isz := I.size
        rw [szt] at isz
        have u0l := e0.len
        refine ⟨TL, D2, us0, us'.reverse, rfl, rfl, by rw [upd_ne nTD2]; exact TL4, upd_same, by rw [List.length_reverse]; exact big (by omega), ?_⟩
        -- the loop's head again
        have k5 : ∀ b o, b ≠ TL → b ≠ PL → H' b = some o → upd (upd H4 D2 (.lst us'.reverse)) TL (.lst (us0 ++ us'.reverse)) b = some o := fun b o n1 n2 h => by
          rw [upd_ne n1]
          exact s5 _ _ (s4 _ _ (k3 _ _ n2 (s1 _ _ (k1 _ _ n1 h))))
        have k6 : ∀ b o, b ≠ TL → H4 b = some o → upd (upd H4 D2 (.lst us'.reverse)) TL (.lst (us0 ++ us'.reverse)) b = some o := fun b o n1 h => by
          rw [upd_ne n1]
          exact s5 _ _ h
        have F4T : F4 TL = none := ap4 _ _ HT3 FT1
        have F4P : F4 PL = none := ap4 _ _ told3 FP1
        have tq : ∀ x ∈ inns t.pl 0 t.p.inn qs', x.q ∈ qs' := fun x hx => inns_q hx
        have qold : ∀ q ∈ qs', ∀ z ∈ (ts0 ++ [t]).map (·.q) ++ qs, q ≠ z := fun q hqm z hz e => by
          have h3 := (qnew q hqm).1
          have : ∃ o, H3 z = some o := by
            rcases List.mem_append.mp hz with hz | hz
            · obtain ⟨t', ht', rfl⟩ := List.mem_map.mp hz
              obtain ⟨iu, hiu⟩ := List.getElem?_of_mem ht'
              obtain ⟨_, _, _, _, _, _, ho⟩ := all2_get I.each hiu
              exact ⟨_, k3 _ _ (I.new t'.q (List.mem_append_left _ hz)).2.1 (s1 _ _ (k1 _ _ (I.new t'.q (List.mem_append_left _ hz)).2.2.1 ho))⟩
            · obtain ⟨pl', ho⟩ := all2_mem I.lists hz
              exact ⟨_, k3 _ _ (I.new z (List.mem_append_right _ hz)).2.1 (s1 _ _ (k1 _ _ (I.new z (List.mem_append_right _ hz)).2.2.1 ho))⟩
          obtain ⟨o, ho⟩ := this
          rw [← e, h3] at ho
          cases ho
        refine ⟨_, _, F4, ts0 ++ (inns t.pl 0 t.p.inn qs').reverse, us0 ++ us'.reverse, dn3, qs3, rfl, ?_, ⟨upd_same, ?_, ?_, ?_, ?_, ?_, ?_, ?_, F4P, F4T, ?_, ?_, ?_⟩⟩
        · rw [szt, szT_app, szT_rev]
          omega
        · refine (e0.imp fun x y hx h => ?_).app (all4.rev.imp fun x y hx h => ?_)
          · obtain ⟨T', v', e, h1, h2, h3⟩ := h
            have xm : x.q ∈ (ts0 ++ [t]).map (·.q) ++ qs := by simp; exact .inl ⟨x, hx, rfl⟩
            obtain ⟨z0, z1, z2, z3⟩ := I.new _ xm
            exact ⟨T', v', e, k5 _ _ (fun z => by rw [z, I.todo] at h1; cases h1) (fun z => by rw [z, I.told] at h1; cases h1) h1, At.le (l1.trans l4) _ _ h2, k5 _ _ z2 z1 h3⟩
          · obtain ⟨T', v', e, h1, h2, h3⟩ := h
            have xq := qnew _ (tq x (List.mem_reverse.mp hx))
            refine ⟨T', v', e, k6 _ _ (fun z => by rw [z, TL4] at h1; cases h1) h1, h2, k6 _ _ (fun z => ?_) h3⟩
            have := xq.1
            rw [z, HT3] at this
            cases this
        · rw [upd_ne nPT, upd_ne nPD2]
          exact PL4
        · refine lists3.imp' fun x y hx hy h => ?_
          have ym := I.new y (sub3 y (List.mem_append_right _ hy))
          exact k6 _ _ ym.2.2.1 (s4 _ _ h)
        · rw [List.reverse_append, List.reverse_reverse, due_app, ← List.append_assoc, dn_eq, List.append_assoc dn, inns_due t.p t.pl qs' ql]
          have := I.all
          rw [List.reverse_append, due_app] at this
          simpa [due] using this
        · rw [List.map_append, List.map_reverse, inns_qs ql]
          exact nd_mix nd3 qnd (fun q hqm z hz e => qold q hqm z (sub3 z hz) e)
        · intro q hqm
          rw [List.map_append, List.map_reverse, inns_qs ql] at hqm
          have hqm' : q ∈ ts0.map (·.q) ++ qs3 ∨ q ∈ qs' := by
            simp only [List.mem_append, List.mem_reverse] at hqm ⊢
            rcases hqm with (h | h) | h
            · exact .inl (.inl h)
            · exact .inr h
            · exact .inl (.inr h)
          rcases hqm' with h | h
          · obtain ⟨z0, z1, z2, z3⟩ := I.new _ (sub3 q h)
            have : ∃ o, H3 q = some o ∧ F1 q = none := by
              have hz := sub3 q h
              rcases List.mem_append.mp hz with hz | hz
              · obtain ⟨t', ht', rfl⟩ := List.mem_map.mp hz
                obtain ⟨iu, hiu⟩ := List.getElem?_of_mem ht'
                obtain ⟨_, _, _, _, _, _, ho⟩ := all2_get I.each hiu
                exact ⟨_, k3 _ _ z1 (s1 _ _ (k1 _ _ z2 ho)), ap1 _ _ (k1 _ _ z2 ho) z3⟩
              · obtain ⟨pl', ho⟩ := all2_mem I.lists hz
                exact ⟨_, k3 _ _ z1 (s1 _ _ (k1 _ _ z2 ho)), ap1 _ _ (k1 _ _ z2 ho) z3⟩
            obtain ⟨o, ho, hf⟩ := this
            exact ⟨z0, z1, z2, ap4 _ _ ho hf⟩
          · obtain ⟨y1, y2, y3⟩ := qnew q h
            have h1q : H1 q = none := by
              cases z : H1 q with
              | none => rfl
              | some o =>
                by_cases hp : q = PL
                · rw [hp, told3] at y1; cases y1
                · rw [k3 _ _ hp z] at y1; cases y1
            have h0q : H' q = none := by
              cases z : H' q with
              | none => rfl
              | some o =>
                by_cases hp : q = TL
                · rw [hp, HT3] at y1; cases y1
                · rw [s1 _ _ (k1 _ _ hp z)] at h1q; cases h1q
            refine ⟨I.same.free h0q, fun z => ?_, fun z => ?_, y2⟩
            · rw [z, told3] at y1; cases y1
            · rw [z, HT3] at y1; cases y1
        · intro b o h
          exact k6 _ _ (fun z => by rw [z, F4T] at h; cases h) (lf4 _ _ h)
        · intro b o h
          exact k5 _ _ (ne_of_none h L00) (ne_of_none h hPL) (I.same _ _ h)
        · intro x hx
          rcases List.mem_append.mp hx with hx | hx
          · exact I.far x (List.mem_append_left _ hx)
          · exact inns_far far (List.mem_reverse.mp hx)
        · rw [szT_app, szT_rev]
          omega
end
end Kf
namespace Kf
open PySem L2 Vl PySem.Spec PyProof.Rows
/-- a thing of lists and whole numbers, n deep, and its lists, itself ahead -/
def LsAt (H : Hp) : Nat → V → List Addr → Prop
  | 0, v, ls => (∃ i, v = .int i) ∧ ls = []
  | n + 1, v, ls => ∃ a xs lss, v = .ref a ∧ H a = some (.lst xs) ∧ All2 (fun l x => LsAt H n x l) lss xs ∧ ls = a :: lss.flatten
theorem LsAt.mono {H H' : Hp} (s : L2.Same H H') : ∀ {n : Nat} {v : V} {ls : List Addr}, LsAt H n v ls → LsAt H' n v ls
  | 0, _, _, h => h
  | n + 1, _, _, ⟨a, xs, lss, e, h1, h2, h3⟩ => ⟨a, xs, lss, e, s _ _ h1, h2.imp fun _ _ _ h => LsAt.mono s h, h3⟩
def spLists (n : Nat) : Sp := fun vs H Q _ => ∃ (v : V) (ls : List Addr), vs = [v] ∧ LsAt H n v ls ∧ ls.length ≤ 3000000 ∧ ∀ (D : Addr) (H' : Hp), L2.Same H H' → H D = none → H' D = some (.lst (ls.map V.ref)) → Q (.ref D) H'
theorem all2_at {α β : Type} {R : α → β → Prop} {as : List α} {bs : List β} (h : All2 R as bs) {i : Nat} {b : β} (e : bs[i]? = some b) : ∃ a, as[i]? = some a ∧ R a b := by
  induction h generalizing i with
  | nil => simp at e
  | cons h _ ih =>
    cases i with
    | zero =>
      simp at e
      exact ⟨_, rfl, e ▸ h⟩
    | succ i => exact ih (i := i) (by simpa using e)
theorem flat_take {ls : List (List Addr)} {i : Nat} {l : List Addr} (h : ls[i]? = some l) : (ls.take (i + 1)).flatten = (ls.take i).flatten ++ l := by
  rw [List.take_add_one, h]
  simp
theorem flat_le {ls : List (List Addr)} {i : Nat} : (ls.take i).flatten.length ≤ ls.flatten.length := by
  have e := congrArg List.flatten (List.take_append_drop i ls)
  rw [List.flatten_append] at e
  have := congrArg List.length e
  rw [List.length_append] at this
  omega
section
variable {P : Program} {w : World} {K : PySem.W.Frag} {mg : Str → Option Value} {base : Heap}
theorem ok_lists {f : Addr} {fd : FuncData} (F : Fun K "_law_lists" "_law_lists" sLlists f fd) (b : Binds K fd ["_law_thing"] []) (g : mg "_law_lists" = some (.ref f)) (B : Blt mg) : ∀ n : Nat, FnOk P w K mg base CX0 (n + 2) f fd ["_law_thing"] (spLists n) := by
  have len : ∀ n vs H Q E, spLists n vs H Q E → vs.length = 1 := fun n vs H Q E ⟨v, ls, e, _⟩ => by rw [e]; rfl
  intro n
  induction n with
  | zero =>
    have G0 : FnOk P w K mg base CX0 1 f fd ["_law_thing"] (fun _ _ _ _ => False) := F.ok scLlists (fun _ _ _ _ h => h.elim) (fun _ _ _ _ _ _ _ _ _ h => h.elim)
    refine F.ok scLlists (len 0) (fun cdv A outer s H vs Q E hr h => ?_)
    obtain ⟨v, ls, rfl, ⟨⟨i, rfl⟩, rfl⟩, _, k⟩ := h
    refine ⟨_, pss_cons (ps_set (i := 1) scLlists.nd rfl (Or.inl rfl) (pe_lst pa_nil))
      (pss_cons (ps_if (pt_val (pe_callB call_isi (by rfl) B.isinstance (by decide +kernel) (pa_cons (pv 0) (pa_cons (pe_bltn (v := .ty "list") (u := .type "list") (by rfl) B.list (by decide +kernel) rfl) pa_nil)))) (pss_one (ps_expr (pe_bm PySem.F.plainAttrs_list PySem.F.slot_list_append PySem.F.type_list_append mt_append (pv 1) (pa_cons (pv 0) pa_nil)))) pss_nil)
      (pss_cons (ps_if (pt_val (pe_callB call_isiT (by rfl) B.isinstance (by decide +kernel) (pa_cons (pv 0) (pa_cons (pe_tup (pa_cons (pe_bltn (v := .ty "list") (u := .type "list") (by rfl) B.list (by decide +kernel) rfl) (pa_cons (pe_bltn (v := .ty "tuple") (u := .type "tuple") (by rfl) B.tuple (by decide +kernel) rfl) pa_nil))) pa_nil)))) (pss_one (ps_for PassesOwn.never rfl (pi_list (pv 0)) (pg_name (i := 2) scLlists.nd rfl (Or.inl rfl))
        (pss_one (ps_expr (pe_bm PySem.F.plainAttrs_list PySem.F.slot_list_extend PySem.F.type_list_extend mt_extend (pv 1) (pa_cons (pe_call G0 hr (by rfl) g F.kp b .nil pass0 (pa_cons (pv 2) pa_nil)) pa_nil)))))) pss_nil)
      (pss_one (ps_ret (pv 1))))), ?_⟩
    refine ⟨by show 0 ≤ sizeLine; decide, fun D hD => ?_⟩
    have kl : kitB "int" "list" = some false := by decide +kernel
    have kt : kitB "int" "tuple" = some false := by decide +kernel
    refine ⟨_, rfl, .int i, .ty "list", .type "int", .type "list", false, rfl, .ty "list", .base (.int i), kit_ty kl, _, rfl, ?_⟩
    refine iteF ?_
    refine ⟨_, rfl, by show 2 ≤ sizeLine; decide, fun T hT => ⟨.int i, T, _, .type "int", _, false, rfl, upd_same, .cons (.ty "list") (.cons (.ty "tuple") .nil), .base (.int i), kitAny_cons (kit_ty kl) (fun _ => kitAny_cons (kit_ty kt) (fun _ => rfl) (fun z => nomatch z)) (fun z => nomatch z), _, rfl, ?_⟩⟩
    refine iteF ?_
    refine ⟨_, rfl, ?_⟩
    have nDT : D ≠ T := fun z => by rw [← z, upd_same] at hT; cases hT
    exact k D _ ((same_new hD).trans (same_new hT)) hD (by rw [upd_ne nDT, upd_same] <;> rfl)
  | succ n ih =>
    refine F.ok scLlists (len (n + 1)) (fun cdv A outer s H vs Q E hr h => ?_)
    have G0 := ih
    obtain ⟨v, ls, rfl, ⟨a, xs, lss, rfl, ha, hx, rfl⟩, hl, k⟩ := h
    refine ⟨_, pss_cons (ps_set (i := 1) scLlists.nd rfl (Or.inl rfl) (pe_lst pa_nil))
      (pss_cons (ps_if (pt_val (pe_callB call_isi (by rfl) B.isinstance (by decide +kernel) (pa_cons (pv 0) (pa_cons (pe_bltn (v := .ty "list") (u := .type "list") (by rfl) B.list (by decide +kernel) rfl) pa_nil)))) (pss_one (ps_expr (pe_bm PySem.F.plainAttrs_list PySem.F.slot_list_append PySem.F.type_list_append mt_append (pv 1) (pa_cons (pv 0) pa_nil)))) pss_nil)
      (pss_cons (ps_if (pt_val (pe_callB call_isiT (by rfl) B.isinstance (by decide +kernel) (pa_cons (pv 0) (pa_cons (pe_tup (pa_cons (pe_bltn (v := .ty "list") (u := .type "list") (by rfl) B.list (by decide +kernel) rfl) (pa_cons (pe_bltn (v := .ty "tuple") (u := .type "tuple") (by rfl) B.tuple (by decide +kernel) rfl) pa_nil))) pa_nil)))) (pss_one (ps_for PassesOwn.never rfl (pi_list (pv 0)) (pg_name (i := 2) scLlists.nd rfl (Or.inl rfl))
        (pss_one (ps_expr (pe_bm PySem.F.plainAttrs_list PySem.F.slot_list_extend PySem.F.type_list_extend mt_extend (pv 1) (pa_cons (pe_call G0 hr (by rfl) g F.kp b .nil pass0 (pa_cons (pv 2) pa_nil)) pa_nil)))))) pss_nil)
      (pss_one (ps_ret (pv 1))))), ?_⟩
    refine ⟨by show 0 ≤ sizeLine; decide, fun D hD => ?_⟩
    have kl : kitB "list" "list" = some true := by decide +kernel
    have nDa : D ≠ a := fun z => by rw [← z, hD] at ha; cases ha
    have ha1 : upd H D (.lst []) a = some (.lst xs) := by rw [upd_ne (Ne.symm nDa)]; exact ha
    refine ⟨_, rfl, .ref a, .ty "list", .type "list", .type "list", true, rfl, .ty "list", .base (.lst ha1), kit_ty kl, _, rfl, ?_⟩
    refine iteT ?_
    refine ⟨_, rfl, .inl ⟨rfl, _, SqL.of upd_same⟩, _, rfl, D, [], .ref a, rfl, rfl, upd_same, by decide, ?_⟩
    have ha2 : upd (upd H D (.lst [])) D (.lst ([] ++ [.ref a])) a = some (.lst xs) := by rw [upd_ne (Ne.symm nDa)]; exact ha1
    refine ⟨_, rfl, by show 2 ≤ sizeLine; decide, fun T hT => ?_⟩
    have nDT : D ≠ T := fun z => by rw [← z, upd_same] at hT; cases hT
    have sT := same_new (o := .tup [.ty "list", .ty "tuple"]) hT
    refine ⟨.ref a, T, _, .type "list", _, true, rfl, upd_same, .cons (.ty "list") (.cons (.ty "tuple") .nil), .base (.lst (sT _ _ ha2)), kitAny_cons (kit_ty kl) (fun z => nomatch z) (fun _ => rfl), _, rfl, ?_⟩
    refine iteT ?_
    have s0 : ∀ b o, H b = some o → upd (upd (upd H D (.lst [])) D (.lst ([] ++ [.ref a]))) T (.tup [.ty "list", .ty "tuple"]) b = some o := fun b o h => by
      refine sT _ _ ?_
      rw [upd_ne (ne_of_none h hD), upd_ne (ne_of_none h hD)]
      exact h
    refine ⟨_, rfl, a, rfl, ⟨xs, SqL.of (sT _ _ ha2)⟩, for_list (K := K) (a := a) (xs := xs) (fun i σ H' => ∃ i2 : Option V, σ = [some (.ref a), some (.ref D), i2] ∧ H' D = some (.lst ((a :: (lss.take i).flatten).map V.ref)) ∧ L2.Same H H') ⟨none, rfl, by rw [upd_ne nDT, upd_same] <;> rfl, s0⟩ (fun i σ H' _ ⟨_, _, _, s⟩ => SqL.of (s _ _ ha)) ?_ ?_⟩
    · rintro i x σ H2 hix ⟨i2, rfl, hd2, s2⟩
      obtain ⟨l, hl1, hl2⟩ := all2_at hx hix
      have ft := flat_take hl1
      have fl := flat_le (ls := lss) (i := i + 1)
      rw [ft, List.length_append] at fl
      rw [List.length_cons] at hl
      refine ⟨_, rfl, .inl ⟨rfl, _, SqL.of hd2⟩, _, rfl, x, l, rfl, LsAt.mono s2 hl2, by omega, fun D2 H3 s3 d0 d3 => ?_⟩
      refine ⟨D, D2, _, _, rfl, rfl, s3 _ _ hd2, d3, ?_, ?_⟩
      · rw [List.length_map, List.length_map, List.length_cons]
        exact big (by omega)
      · refine ⟨_, rfl, ?_, fun b o h => ?_⟩
        · rw [upd_same, ft, ← List.map_append] <;> rfl
        · rw [upd_ne (ne_of_none h hD)]
          exact s3 _ _ (s2 _ _ h)
    · rintro σ H2 ⟨i2, rfl, hd2, s2⟩
      refine ⟨_, rfl, ?_⟩
      rw [← hx.len, List.take_length] at hd2
      exact k D H2 s2 hD hd2
end
end Kf
namespace Kf
open PySem L2 Vl PySem.Spec PyProof.Rows
theorem lsAt_lst {H : Hp} : ∀ {n : Nat} {v : V} {ls : List Addr}, LsAt H n v ls → ∀ l ∈ ls, ∃ xs, H l = some (.lst xs)
  | 0, _, _, ⟨_, e⟩, l, hl => by
    rw [e] at hl
    cases hl
  | n + 1, _, _, ⟨a, xs, lss, e, h1, h2, h3⟩, l, hl => by
    rw [h3] at hl
    rcases List.mem_cons.mp hl with hl | hl
    · rw [hl]
      exact ⟨xs, h1⟩
    · obtain ⟨m, hm, hlm⟩ := List.mem_flatten.mp hl
      obtain ⟨i, hi⟩ := List.getElem?_of_mem hm
      obtain ⟨b, hb⟩ := all2_get h2 hi
      exact lsAt_lst hb l hlm
def intsD (zs : List Int) : D := .list (zs.map .int)
theorem dp_ints {K : PySem.W.Frag} {H : Hp} : ∀ zs : List Int, DpAll K H (zs.map V.int) (zs.map PyData.int)
  | [] => .nil
  | z :: zs => .cons (.int z) (dp_ints zs)
theorem can_ints : ∀ zs : List Int, PyData.canLayAll0 (zs.map PyData.int) = true
  | [] => canAll_nil
  | z :: zs => by
    rw [List.map_cons, canAll_cons, can_int, can_ints zs] <;> rfl
theorem depth_ints : ∀ zs : List Int, PyData.depthAll (zs.map PyData.int) = 0
  | [] => depthAll_nil
  | z :: zs => by
    rw [List.map_cons, depthAll_cons, depth_int, depth_ints zs] <;> rfl
theorem shp_ints (zs : List Int) : Vl.shp (intsD zs) = true := by
  unfold Vl.shp intsD
  rw [can_lst, can_ints, depth_lst, depth_ints]
  rfl
theorem eqv_lst (as bs : List D) : PyData.eqv (.list as) (.list bs) = PyData.eqvAll as bs := by rw [PyData.eqv]
theorem eqv_ints : ∀ zs ys : List Int, PyData.eqvAll (zs.map PyData.int) (ys.map PyData.int) = decide (zs = ys)
  | [], [] => by rw [List.map_nil, eqvAll_nil]; rfl
  | [], y :: ys => by rw [List.map_nil, List.map_cons, eqvAll_nc]; rfl
  | z :: zs, [] => by rw [List.map_nil, List.map_cons, eqvAll_cn]; rfl
  | z :: zs, y :: ys => by
    rw [List.map_cons, List.map_cons, eqvAll_cons, eqv_int, eqv_ints zs ys]
    by_cases h : z = y <;> simp [h]
def rLenK (K : PySem.W.Frag) : List V → Hp → VK → Prop := fun xs H Q => ∃ p ys, xs = [V.ref p] ∧ (SqL K H p ys ∨ SqT K H p ys) ∧ Q (V.int (ys.length : Nat)) H
def spUnsh : Sp := fun vs H Q _ => ∃ (v : V) (ls : List Addr), vs = [v] ∧ LsAt H 2 v ls ∧ ls.Nodup ∧ ls.length ≤ 3000000 ∧ (∀ l ∈ ls, ∀ xs, H l = some (.lst xs) → xs.length ≤ 3000000) ∧ ∀ H', (∀ b o, b ∉ ls → H b = some o → H' b = some o) → Q (.bl true) H'
section
variable {P : Program} {w : World} {K : PySem.W.Frag} {mg : Str → Option Value} {base : Heap}
theorem ok_unsh {f : Addr} {fd : FuncData} (F : Fun K "_law_unshared" "_law_unshared" sLunshared f fd) {f1 : Addr} {fd1 : FuncData} (G : FnOk P w K mg base CX0 4 f1 fd1 ["_law_thing"] (spLists 2)) (kp : PySem.W.keepIn K (.ref f1) = true) (b : Binds K fd1 ["_law_thing"] []) (g : mg "_law_lists" = some (.ref f1)) (B : Blt mg) :
    FnOk P w K mg base CX0 5 f fd ["_law_thing"] spUnsh := by
  refine F.ok scLunshared (fun vs H Q E h => ?_) (fun cdv A outer s H vs Q E hr h => ?_)
  · obtain ⟨_, _, rfl, _⟩ := h
    rfl
  · obtain ⟨v, ls, rfl, hls, nd, hl, hx, k⟩ := h
    have hu := u190 hr
    refine ⟨_, pss_cons (ps_set (i := 1) scLunshared.nd rfl (Or.inl rfl) (pe_call G hr (by rfl) g kp b .nil pass0 (pa_cons (pv 0) pa_nil)))
      (pss_cons (ps_setLc (i := 3) (own := [("_law_one", 2)]) (g := gName 2) (tt := tYes) (by rfl) scLunshared.nd rfl rfl (sw_true rfl rfl rfl (by decide +kernel)) (pi_list (pv 1)) (blkOk_by (N := nLunshared) (sc := defScope sLunshared) (by decide +kernel)) (fun _ _ _ _ _ => pg_name (i := 2) scLunshared.nd rfl (Or.inl rfl)) (fun _ _ _ _ _ => pts_nil)
        (fun _ _ _ _ _ => pe_callB (r := rLenK K) call_len_seq (by rfl) B.len PySem.boot_len (pa_cons (pv 2) pa_nil)))
      (pss_cons (ps_for PassesOwn.never rfl (pi_list (pv 1)) (pg_name (i := 2) scLunshared.nd rfl (Or.inl rfl))
        (pss_one (ps_expr (pe_bm PySem.F.plainAttrs_list PySem.F.slot_list_append PySem.F.type_list_append mt_append (pv 2) (pa_cons pe_non pa_nil)))))
      (pss_one (ps_ret (pe_cmpR (op_eqW hu) (pe_lc (own := [("_law_one", 2)]) (g := gName 2) (tt := tYes) (by rfl) scLunshared.nd (pi_list (pv 1)) (blkOk_by (N := nLunshared) (sc := defScope sLunshared) (by decide +kernel)) (fun _ _ _ _ _ => pg_name (i := 2) scLunshared.nd rfl (Or.inl rfl)) (fun _ _ _ _ _ => pts_nil)
          (fun _ _ _ _ _ => pe_callB (r := rLenK K) call_len_seq (by rfl) B.len PySem.boot_len (pa_cons (pv 2) pa_nil)))
        (pe_lc (own := [("_law_size", 4)]) (g := gName 4) (tt := tYes) (by rfl) scLunshared.nd (pi_list (pv 3)) (blkOk_by (N := nLunshared) (sc := defScope sLunshared) (by decide +kernel)) (fun _ _ _ _ _ => pg_name (i := 4) scLunshared.nd rfl (Or.inl rfl)) (fun _ _ _ _ _ => pts_nil)
          (fun _ _ _ _ _ => pe_op op_add (pv 4) pe_int)) (nomark _)))))), ?_⟩
    refine ⟨_, rfl, v, ls, rfl, hls, hl, fun L H1 s1 hL hL1 => ?_⟩
    have nL : L ∉ ls := fun z => by
      obtain ⟨xs, e⟩ := lsAt_lst hls L z
      rw [hL] at e
      cases e
    refine ⟨_, rfl, L, rfl, ⟨_, SqL.of hL1⟩, fun S hS => lc_list (K := K) (a := L) (xs := ls.map V.ref) (fun i H' => ∃ zs : List Int, H' S = some (.lst (zs.map V.int)) ∧ L2.Same H1 H' ∧ zs.length = i ∧ ∀ j l xs, j < i → ls[j]? = some l → H l = some (.lst xs) → zs[j]? = some (xs.length : Int)) ⟨[], upd_same, same_new hS, rfl, fun j _ _ h => by omega⟩ (fun i H' _ ⟨_, _, q, _⟩ => SqL.of (q _ _ hL1)) ?_ ?_⟩
    · rintro i x H2 hix ⟨zs, u1, s2, u2, u3⟩
      rw [List.getElem?_map] at hix
      obtain ⟨l, hl', rfl⟩ := Option.map_eq_some_iff.mp hix
      have il := (List.getElem?_eq_some_iff.mp hl').1
      obtain ⟨xs, ex⟩ := lsAt_lst hls l (List.mem_of_getElem? hl')
      refine ⟨rfl, ?_⟩
      unfold tYes
      dsimp only
      rw [if_pos rfl]
      refine ⟨_, rfl, l, xs, rfl, .inl (SqL.of (s2 _ _ (s1 _ _ ex))), _, u1, Nat.lt_of_le_of_lt (show _ ≤ 3000000 by rw [List.length_map]; omega) (by decide), zs ++ [(xs.length : Int)], ?_, fun b o h => ?_, by simp [u2], fun j l' xs' hj e1 e2 => ?_⟩
      · rw [upd_same, List.map_append] <;> rfl
      · rw [upd_ne (ne_of_none h hS)]
        exact s2 _ _ h
      · rcases Nat.lt_or_ge j i with h | h
        · rw [List.getElem?_append_left (by omega)]
          exact u3 j l' xs' h e1 e2
        · have : j = i := by omega
          subst this
          rw [hl'] at e1
          cases e1
          rw [ex] at e2
          cases e2
          rw [List.getElem?_append_right (by omega), u2]
          simp
    · rintro H2 ⟨zs, u1, s2, u2, u3⟩
      rw [List.length_map] at u2 u3
      have hL2 := s2 _ _ hL1
      have nS : S ∉ ls := fun z => by
        obtain ⟨xs, e⟩ := lsAt_lst hls S z
        rw [s1 _ _ e] at hS
        cases hS
      refine ⟨_, rfl, L, rfl, ⟨_, SqL.of hL2⟩, for_list (K := K) (a := L) (xs := ls.map V.ref) (fun i σ H' => ∃ i2 : Option V, σ = [some v, some (.ref L), i2, some (.ref S), none] ∧ H' L = some (.lst (ls.map V.ref)) ∧ H' S = some (.lst (zs.map V.int)) ∧ (∀ b o, b ∉ ls → H b = some o → H' b = some o) ∧
        ∀ j l xs, ls[j]? = some l → H l = some (.lst xs) → H' l = some (.lst (if j < i then xs ++ [.non] else xs))) ⟨none, rfl, hL2, u1, fun b o _ h => s2 _ _ (s1 _ _ h), fun j l xs e1 e2 => s2 _ _ (s1 _ _ e2)⟩ (fun i σ H' _ ⟨_, _, q, _⟩ => SqL.of q) ?_ ?_⟩
      · rintro i x σ H3 hix ⟨i2, rfl, hL3, hS3, h3, e3⟩
        rw [List.getElem?_map] at hix
        obtain ⟨l, hl', rfl⟩ := Option.map_eq_some_iff.mp hix
        obtain ⟨xs, ex⟩ := lsAt_lst hls l (List.mem_of_getElem? hl')
        have lm := List.mem_of_getElem? hl'
        have e4 := e3 i l xs hl' ex
        rw [if_neg (Nat.lt_irrefl i)] at e4
        have xl := hx l lm xs ex
        refine ⟨_, rfl, .inl ⟨rfl, _, SqL.of e4⟩, l, xs, .non, rfl, rfl, e4, Nat.lt_of_le_of_lt xl (by decide), ?_⟩
        have nLl : L ≠ l := fun z => nL (by rw [z]; exact lm)
        have nSl : S ≠ l := fun z => nS (by rw [z]; exact lm)
        refine ⟨_, rfl, by rw [upd_ne nLl]; exact hL3, by rw [upd_ne nSl]; exact hS3, fun b o n h => ?_, fun j l' xs' e1 e2 => ?_⟩
        · have nb : b ≠ l := fun z => n (by rw [z]; exact lm)
          rw [upd_ne nb]
          exact h3 b o n h
        · by_cases hj : j = i
          · subst hj
            rw [hl'] at e1
            cases e1
            rw [ex] at e2
            cases e2
            rw [upd_same, if_pos (Nat.lt_succ_self _)]
          · have nl : l' ≠ l := fun z => hj (nodup_at nd (by rw [← z]; exact e1) hl')
            rw [upd_ne nl, e3 j l' xs' e1 e2]
            by_cases hji : j < i
            · rw [if_pos hji, if_pos (by omega)]
            · rw [if_neg hji, if_neg (by omega)]
      · rintro σ H3 ⟨i2, rfl, hL3, hS3, h3, e3⟩
        rw [List.length_map] at e3
        refine ⟨_, rfl, L, rfl, ⟨_, SqL.of hL3⟩, fun D hD => lc_list (K := K) (a := L) (xs := ls.map V.ref) (fun i H' => ∃ ys : List Int, H' D = some (.lst (ys.map V.int)) ∧ L2.Same H3 H' ∧ ys = (zs.take i).map (· + 1)) ⟨[], upd_same, same_new hD, rfl⟩ (fun i H' _ ⟨_, _, q, _⟩ => SqL.of (q _ _ hL3)) ?_ ?_⟩
        · rintro i x H4 hix ⟨ys, y1, s4, y2⟩
          rw [List.getElem?_map] at hix
          obtain ⟨l, hl', rfl⟩ := Option.map_eq_some_iff.mp hix
          have il := (List.getElem?_eq_some_iff.mp hl').1
          obtain ⟨xs, ex⟩ := lsAt_lst hls l (List.mem_of_getElem? hl')
          have e4 := e3 i l xs hl' ex
          rw [if_pos il] at e4
          have z1 := u3 i l xs il hl' ex
          refine ⟨rfl, ?_⟩
          unfold tYes
          dsimp only
          rw [if_pos rfl]
          have yl : ys.length ≤ i := by rw [y2, List.length_map, List.length_take]; omega
          refine ⟨_, rfl, l, xs ++ [.non], rfl, .inl (SqL.of (s4 _ _ e4)), _, y1, Nat.lt_of_le_of_lt (show _ ≤ 3000000 by rw [List.length_map]; omega) (by decide), ys ++ [(xs.length : Int) + 1], ?_, fun b o h => ?_, ?_⟩
          · rw [upd_same, List.map_append, List.length_append] <;> rfl
          · rw [upd_ne (ne_of_none h hD)]
            exact s4 _ _ h
          · rw [y2, List.take_add_one, z1, List.map_append] <;> rfl
        · rintro H4 ⟨ys, y1, s4, y2⟩
          rw [List.length_map, ← u2, List.take_length] at y2
          refine ⟨_, rfl, S, rfl, ⟨_, SqL.of (s4 _ _ hS3)⟩, fun D2 hD2 => lc_list (K := K) (a := S) (xs := zs.map V.int) (fun i H' => ∃ ws : List Int, H' D2 = some (.lst (ws.map V.int)) ∧ L2.Same H4 H' ∧ ws = (zs.take i).map (· + 1)) ⟨[], upd_same, same_new hD2, rfl⟩ (fun i H' _ ⟨_, _, q, _⟩ => SqL.of (q _ _ (s4 _ _ hS3))) ?_ ?_⟩
          · rintro i x H5 hix ⟨ws, w1, s5, w2⟩
            rw [List.getElem?_map] at hix
            obtain ⟨z, hz, rfl⟩ := Option.map_eq_some_iff.mp hix
            have il := (List.getElem?_eq_some_iff.mp hz).1
            refine ⟨rfl, ?_⟩
            unfold tYes
            dsimp only
            rw [if_pos rfl]
            have wl : ws.length ≤ i := by rw [w2, List.length_map, List.length_take]; omega
            refine ⟨_, rfl, z, 1, rfl, rfl, _, w1, Nat.lt_of_le_of_lt (show _ ≤ 3000000 by rw [List.length_map]; omega) (by decide), ws ++ [z + 1], ?_, fun b o h => ?_, ?_⟩
            · rw [upd_same, List.map_append] <;> rfl
            · rw [upd_ne (ne_of_none h hD2)]
              exact s5 _ _ h
            · rw [w2, List.take_add_one, hz, List.map_append] <;> rfl
          · rintro H5 ⟨ws, w1, s5, w2⟩
            rw [List.length_map, List.take_length] at w2
            refine ⟨intsD ys, intsD ws, .lst (SqL.of (s5 _ _ y1)) (dp_ints ys), .lst (SqL.of w1) (dp_ints ws), shp_ints _, shp_ints _, ?_⟩
            have e : PyData.eqv (intsD ys) (intsD ws) = true := by
              unfold intsD
              rw [eqv_lst, eqv_ints, y2, w2]
              simp
            rw [e]
            exact k H5 fun b o n h => s5 _ _ (s4 _ _ (h3 b o n h))
end
end Kf
namespace Kf
open PySem L2 Vl PySem.Spec PyProof.Rows
def pDrawn : VSp := fun ss st Kp => match ss, st with
  | [.obj 0, .val (.int room)], [[.int c, .int n]] => PoolK n ∧ 1 ≤ room ∧ room ≤ 4 ∧ ∀ (p : Pg) (k : Kd) (c' n' : Int), HasK row14 p k → k.ok → p.size ≤ 131070 → p.deep ≤ 30 → PoolK n' → Kp (.val p.enc) [[.int c', .int n']]
  | _, _ => False
section
variable {P : Program} {w : World} {K : PySem.W.Frag} {mg : Str → Option Value} {base : Heap}
theorem f_drawn (Fd : Df K mg "_law_drawn" sLdrawn ["_law_pool_here", "_law_room"]) (GK : VFn P w K mg base 5 "_law_kind" ["_law_pool_here", "_law_leaves", "_law_marks"] (pKind 3)) (GT : VFn P w K mg base 1 "_law_take" ["_law_pool_here", "_law_many"] pTake) (GA : VFn P w K mg base 35 "_law_apart" ["_law_pool_here", "_law_known", "_law_kind_here", "_law_room"] (pApart 15)) (GR : VFn P w K mg base 1 "_law_row" [] pRow) :
    VFn P w K mg base 36 "_law_drawn" ["_law_pool_here", "_law_room"] pDrawn := by
  have inv : ∀ ss st Kp, pDrawn ss st Kp → ∃ room c n : Int, ss = [.obj 0, .val (.int room)] ∧ st = [[.int c, .int n]] ∧ PoolK n ∧ 1 ≤ room ∧ room ≤ 4 ∧ ∀ (p : Pg) (k : Kd) (c' n' : Int), HasK row14 p k → k.ok → p.size ≤ 131070 → p.deep ≤ 30 → PoolK n' → Kp (.val p.enc) [[.int c', .int n']] := fun ss st Kp h => by
    unfold pDrawn at h
    split at h
    · exact ⟨_, _, _, rfl, rfl, h⟩
    · exact h.elim
  refine ok_Ldrawn Fd GK (by omega) GT (by omega) GA (by omega) GR (by omega) (fun ss st Kp h => ?_) fun ss cs Kp h => ?_
  · obtain ⟨_, _, _, rfl, _⟩ := inv _ _ _ h
    rfl
  obtain ⟨room, c, n, rfl, rfl, pn, r1, r2, k⟩ := inv _ _ _ h
  simp only [t_Ldrawn, t_Ldrawn_2, pTake, pKind, flatD, List.any_cons, List.any_nil, eqv_str, eqv_int, cut1, Bool.or_false, Bool.or_true, Bool.and_self, Bool.and_true, Bool.and_false, Bool.false_or, Bool.true_or, and_self, ofs_inj, ofs_app, ofs_len, String.reduceEq, String.reduceNe, String.reduceAppend, decide_true, decide_false, Bool.not_true, Bool.not_false, sz0, sz1, sz2, sz3, sz4, sz5, sz6, sz7, sz8, sz9, sz10, sz11, sz12, sz13, sz14, sz15, sz16, sz17, sz18, sz19, sz20, sz21, sz22, sz23, sz24, sz25, cpow1018, true_and, and_true, Nat.reduceAdd, Nat.reduceLT, Nat.reduceSub, Int.reduceNe, Int.reduceEq, Int.reduceLT, Int.reduceLE, Int.reduceToNat, ne_eq, not_false_eq_true, List.length_map, Nat.lt_irrefl, dV_nx, dV_rt, at0, at1, at2, at3, ix20, ix21, vSeq, vIfS, vTest, vTruth, truth, v2, v1, vN, vCons, vNil, vVar, vC, xIx, Vl.opI0, Vl.opI, pk, vSet, vAsg, xgSub, vRet, vRetN, vNext, vDrop, vBreak, vCont, asD, asDs, opMod, opDiv, opMul2, Vl.opAdd, opSub, opPow, opLt, Vl.opLe, opGt, Vl.opGe, xEq, okEq_str, okEq_int, Vl.opIn3, pkm, gModI, gDivI, gSubI, gMulI, gPowI, gGt, gLt, gLe, gGe, vNotT, vAndT, vOrT, vAndV, vOrV, opNot, opNotG, vIfE, opTup, opLst, opLstO, Vl.opLen, Vl.opInt, opList, opListO, opTuple, opII, gMax, gMin, vM, vM0, isT, xPop, Vl.opAppend, opExtend, opJoin, vgName, vgTup, vgCons, vgNil, kOpt_some, kOpn_some, vSl, vPart, vNoPart, opSl, opSlO, opRev, opCallK, ownD, ownO, objs, renum, uniq, getS, putS, vCall0, vFor, vSeqI, vTupI, vRng1, vRng2, vEnum, vZip, chkOf, vLcK, vYes, finD, finO, En.wipe, wipeE, En.trim, trimS, dropNone, clr, wth, Vl.ret, takeS, startV,  List.map_cons, List.map_nil, List.length_cons, List.length_nil, List.cons_append, List.nil_append, List.replicate, List.getElem?_cons_succ, List.getElem?_cons_zero, List.getElem?_nil, List.set_cons_succ, List.set_cons_zero, List.set_nil, List.all_nil, List.all_cons, Bool.true_and, Option.map_some, Option.map_none, if_true, if_false, decide_eq_true_eq, Bool.false_eq_true, List.take_succ_cons, List.take_zero, List.take_nil, List.drop_succ_cons, List.drop_zero, List.drop_nil, reduceIte, reduceCtorEq]
  refine ⟨pn, fun l c2 n2 l0 l1 pn2 => ⟨pn2, by omega, by omega, by omega, ab, rfl, by decide, by decide, fun o c3 n3 ol oo pn3 => ?_⟩⟩
  have hoo : o.ok := ⟨oo, by omega⟩
  simp only [t_Ldrawn_1, pRow, pApart, flatD, List.any_cons, List.any_nil, eqv_str, eqv_int, cut1, Bool.or_false, Bool.or_true, Bool.and_self, Bool.and_true, Bool.and_false, Bool.false_or, Bool.true_or, and_self, ofs_inj, ofs_app, ofs_len, String.reduceEq, String.reduceNe, String.reduceAppend, decide_true, decide_false, Bool.not_true, Bool.not_false, sz0, sz1, sz2, sz3, sz4, sz5, sz6, sz7, sz8, sz9, sz10, sz11, sz12, sz13, sz14, sz15, sz16, sz17, sz18, sz19, sz20, sz21, sz22, sz23, sz24, sz25, cpow1018, true_and, and_true, Nat.reduceAdd, Nat.reduceLT, Nat.reduceSub, Int.reduceNe, Int.reduceEq, Int.reduceLT, Int.reduceLE, Int.reduceToNat, ne_eq, not_false_eq_true, List.length_map, Nat.lt_irrefl, dV_nx, dV_rt, at0, at1, at2, at3, ix20, ix21, vSeq, vIfS, vTest, vTruth, truth, v2, v1, vN, vCons, vNil, vVar, vC, xIx, Vl.opI0, Vl.opI, pk, vSet, vAsg, xgSub, vRet, vRetN, vNext, vDrop, vBreak, vCont, asD, asDs, opMod, opDiv, opMul2, Vl.opAdd, opSub, opPow, opLt, Vl.opLe, opGt, Vl.opGe, xEq, okEq_str, okEq_int, Vl.opIn3, pkm, gModI, gDivI, gSubI, gMulI, gPowI, gGt, gLt, gLe, gGe, vNotT, vAndT, vOrT, vAndV, vOrV, opNot, opNotG, vIfE, opTup, opLst, opLstO, Vl.opLen, Vl.opInt, opList, opListO, opTuple, opII, gMax, gMin, vM, vM0, isT, xPop, Vl.opAppend, opExtend, opJoin, vgName, vgTup, vgCons, vgNil, kOpt_some, kOpn_some, vSl, vPart, vNoPart, opSl, opSlO, opRev, opCallK, ownD, ownO, objs, renum, uniq, getS, putS, vCall0, vFor, vSeqI, vTupI, vRng1, vRng2, vEnum, vZip, chkOf, vLcK, vYes, finD, finO, En.wipe, wipeE, En.trim, trimS, dropNone, clr, wth, Vl.ret, takeS, startV,  List.map_cons, List.map_nil, List.length_cons, List.length_nil, List.cons_append, List.nil_append, List.replicate, List.getElem?_cons_succ, List.getElem?_cons_zero, List.getElem?_nil, List.set_cons_succ, List.set_cons_zero, List.set_nil, List.all_nil, List.all_cons, Bool.true_and, Option.map_some, Option.map_none, if_true, if_false, decide_eq_true_eq, Bool.false_eq_true, List.take_succ_cons, List.take_zero, List.take_nil, List.drop_succ_cons, List.drop_zero, List.drop_nil, reduceIte, reduceCtorEq]
  refine ⟨row14, o, room, c3, n3, rfl, rfl, pn3, known14, by decide, hoo, r1, by have := hoo.2; omega, fun p c4 n4 h1 h2 h3 pn4 => k p o c4 n4 h1 hoo (by omega) (by omega) pn4⟩
end
/-! the pool by hand -/
def restP (p : Addr) (H F : Hp) : Hp := fun b => if b = p then none else restH H F b
theorem restP_some {p : Addr} {H F : Hp} {a : Addr} {o : HO} : restP p H F a = some o ↔ a ≠ p ∧ F a = none ∧ H a = some o := by
  unfold restP
  by_cases h : a = p
  · simp [h]
  · rw [if_neg h, restH_some]
    simp [h]
theorem pool_in {K : PySem.W.Frag} {H F : Hp} {p : Addr} {c n : Int} (hp : H p = some (.lst [.int c, .int n])) (le : Le F H) (fp : F p = none) {vs : List V} {ss : List Sl} (h : SlAts K F [p] vs ss) : Rep K (restP p H F) F [p] (vs.map some) H ⟨ss.map some, [some [.int c, .int n]]⟩ := by
  refine ⟨le, fun a o z => (restP_some.mp z).2.2, fun a o z => ⟨(restP_some.mp z).2.1, by simpa using (restP_some.mp z).1⟩, by simp [h.len], rfl, by simp, fun a ha => ?_, fun i s z => ?_, fun j ds z => ?_⟩
  · have : a = p := by simpa using ha
    subst this
    exact ⟨_, hp⟩
  · have z' : (ss.map some)[i]? = some (some s) := z
    rw [List.getElem?_map] at z'
    obtain ⟨t, ht, hs⟩ := Option.map_eq_some_iff.mp z'
    cases hs
    obtain ⟨v, h1, h2⟩ := slAts_get h ht
    exact ⟨v, by rw [List.getElem?_map, h1] <;> rfl, h2⟩
  · cases j with
    | zero =>
      have z' : some (some [PyData.int c, .int n]) = some (some ds) := z
      cases z'
      exact ⟨p, _, rfl, fp, hp, .cons (.int c) (.cons (.int n) .nil)⟩
    | succ j => simp at z
theorem pool_out {K : PySem.W.Frag} {H F F' H' : Hp} {A' : List Addr} {p : Addr} {v : V} {d : D} {c n : Int} (rep : Rep K (restP p H F) F' A' [some v] H' ⟨[some (.val d)], [some [.int c, .int n]]⟩) (pre : [p] <+: A') (le : Le F H) (l : Le F F') :
    (∀ b o, b ≠ p → H b = some o → H' b = some o) ∧ H' p = some (.lst [.int c, .int n]) ∧ Le F' H' ∧ At K F' d v ∧ (∀ b o, b ≠ p → H b = some o → F b = none → F' b = none) ∧ F' p = none := by
  obtain ⟨a, xs, h1, h2, h3, h4⟩ := rep.store 0 _ rfl
  have ea : A'[0]? = some p := by
    obtain ⟨t, rfl⟩ := pre
    rfl
  rw [ea] at h1
  cases h1
  refine ⟨fun b o nb h => ?_, ?_, rep.sub, ?_, fun b o nb h f => (rep.apart b o (restP_some.mpr ⟨nb, f, h⟩)).1, h2⟩
  · cases z : F b with
    | none => exact rep.keep _ _ (restP_some.mpr ⟨nb, z, h⟩)
    | some u =>
      have := le _ _ z
      rw [h] at this
      cases this
      exact rep.sub _ _ (l _ _ z)
  · cases h4 with
    | cons x1 x2 =>
      cases x1
      cases x2 with
      | cons x2 x3 =>
        cases x2
        cases x3
        exact h3
  · obtain ⟨u, h1, h2⟩ := rep.slot 0 _ rfl
    cases h1
    exact h2
theorem sqL_only {K : PySem.W.Frag} {H : Hp} {a : Addr} {xs : List V} (h : SqL K H a xs) : ∃ F : Hp, Le F H ∧ SqL K F a xs ∧ ∀ b, b ≠ a → F b = none := by
  refine ⟨fun b => if b = a then H b else none, fun b o e => ?_, ?_, fun b n => if_neg n⟩
  · have e' : (if b = a then H b else none) = some o := e
    split at e'
    · exact e'
    · cases e'
  · rcases h with (h | ⟨o, h⟩) | h
    · exact .inl (.inl (by show (if a = a then H a else none) = _; rw [if_pos rfl]; exact h))
    · exact .inl (.inr ⟨o, by show (if a = a then H a else none) = _; rw [if_pos rfl]; exact h⟩)
    · exact .inr h
/-! lists of places as data -/
theorem pls_dp {K : PySem.W.Frag} {H : Hp} {pls : List (List Int)} {qs : List Addr} (h : All2 (PlAt H) pls qs) : DpAll K H (qs.map V.ref) (pls.map encPl) := by
  induction h with
  | nil => exact .nil
  | cons h _ ih => exact .cons (.lst (SqL.of h) (dp_ints _)) ih
theorem shp_pls (pls : List (List Int)) : Vl.shp (.list (pls.map encPl)) = true := by
  have h1 : PyData.canLayAll0 (pls.map encPl) = true := by
    induction pls with
    | nil => exact canAll_nil
    | cons x xs ih => rw [List.map_cons, canAll_cons, ih, encPl, can_lst, can_ints] <;> rfl
  have h2 : PyData.depthAll (pls.map encPl) ≤ 1 := by
    clear h1
    induction pls with
    | nil => rw [List.map_nil, depthAll_nil]; omega
    | cons x xs ih =>
      rw [List.map_cons, depthAll_cons, encPl, depth_lst, depth_ints]
      omega
  unfold Vl.shp
  rw [can_lst, h1, depth_lst, decide_eq_true (by omega)] <;> rfl
theorem pls_eqv (pls : List (List Int)) : PyData.eqv (.list (pls.map encPl)) (.list (pls.map encPl)) = true := by
  rw [eqv_lst]
  induction pls with
  | nil => exact eqvAll_nil
  | cons x xs ih =>
    rw [List.map_cons, eqvAll_cons, ih, encPl, eqv_lst, eqv_ints]
    simp
theorem ls_ints {H : Hp} (zs : List Int) : All2 (fun l x => LsAt H 0 x l) (zs.map fun _ => ([] : List Addr)) (zs.map V.int) := by
  induction zs with
  | nil => exact .nil
  | cons z zs ih => exact .cons ⟨⟨z, rfl⟩, rfl⟩ ih
theorem ls_flat (zs : List Int) : (zs.map fun _ => ([] : List Addr)).flatten = [] := by
  induction zs with
  | nil => rfl
  | cons z zs ih => simp
theorem ls_pls {H : Hp} {pls : List (List Int)} {qs : List Addr} (h : All2 (PlAt H) pls qs) : All2 (fun l x => LsAt H 1 x l) (qs.map fun q => [q]) (qs.map V.ref) := by
  induction h with
  | nil => exact .nil
  | @cons pl q _ _ h _ ih => exact .cons ⟨q, _, _, rfl, h, ls_ints pl, by rw [ls_flat]⟩ ih
theorem ls_sing (qs : List Addr) : (qs.map fun q => [q]).flatten = qs := by
  induction qs with
  | nil => rfl
  | cons q qs ih => simp [ih]
def spLaw (K : PySem.W.Frag) : Sp := fun vs H Q _ => ∃ (a : Addr) (ns : List Int), vs = [.ref a] ∧ SqL K H a (ns.map V.int) ∧ ns.length ≤ 63 ∧ ∀ H', Q (.bl true) H'
end Kf
namespace Kf
open PySem L2 Vl PySem.Spec PyProof.Rows
abbrev slaw : Stmt := top 20
abbrev nlaw : List Str := ["_law_script", "_law_k", "_law_pool_here", "_law_program_here", "_law_due", "_law_found"]
theorem sclaw : FnScope nlaw ["_law_script"] (defScope slaw) := ⟨rfl, rfl, rfl, by decide +kernel, rfl, by decide +kernel, by decide +kernel⟩

theorem shp_places (p : Pg) (pl : List Int) : Vl.shp (.list ((p.places pl).map encPl)) = true := shp_pls _
theorem ints_at {K : PySem.W.Frag} {F : Hp} : ∀ ns : List Int, AtL K F (ns.map .int) (ns.map V.int)
  | [] => .nil
  | n :: ns => .cons (.int n) (ints_at ns)
theorem all2_memD {α β : Type} {R : α → β → Prop} {as : List α} {bs : List β} (h : All2 R as bs) {b : β} (e : b ∈ bs) : ∃ a ∈ as, R a b := by
  induction h with
  | nil => cases e
  | cons h _ ih =>
    rcases List.mem_cons.mp e with e | e
    · exact ⟨_, List.mem_cons_self, e ▸ h⟩
    · obtain ⟨a, ha, hr⟩ := ih e
      exact ⟨a, List.mem_cons_of_mem _ ha, hr⟩
theorem here_mem {b : Bool} {pl x : List Int} (h : x ∈ here b pl) : x = pl := by
  cases b <;> simp [here] at h
  exact h
theorem Pg.place_len : ∀ (p : Pg) (pl x : List Int), x ∈ p.places pl → x.length ≤ pl.length + p.deep
  | .name _, _, x, h => by simp [Pg.places] at h
  | .thing, _, x, h => by simp [Pg.places] at h
  | .take _ _ p, pl, x, h => by
    have := p.place_len (pl ++ [0]) x h
    simp only [Pg.deep, List.length_append, List.length_singleton] at *
    omega
  | .give p q, pl, x, h => by
    simp only [Pg.places, List.mem_append] at h
    simp only [Pg.deep]
    rcases h with (h | h) | h
    · rw [here_mem h]; omega
    · have := p.place_len _ x h
      rw [List.length_append, List.length_singleton] at this
      omega
    · have := q.place_len _ x h
      rw [List.length_append, List.length_singleton] at this
      omega
  | .pair p q, pl, x, h => by
    simp only [Pg.places, List.mem_append] at h
    simp only [Pg.deep]
    rcases h with h | h
    · have := p.place_len _ x h
      rw [List.length_append, List.length_singleton] at this
      omega
    · have := q.place_len _ x h
      rw [List.length_append, List.length_singleton] at this
      omega
  | .first p, pl, x, h => by
    simp only [Pg.places, List.mem_append] at h
    simp only [Pg.deep]
    rcases h with h | h
    · rw [here_mem h]; omega
    · have := p.place_len _ x h
      rw [List.length_append, List.length_singleton] at this
      omega
  | .second p, pl, x, h => by
    simp only [Pg.places, List.mem_append] at h
    simp only [Pg.deep]
    rcases h with h | h
    · rw [here_mem h]; omega
    · have := p.place_len _ x h
      rw [List.length_append, List.length_singleton] at this
      omega
section
variable {P : Program} {w : World} {K : PySem.W.Frag} {mg : Str → Option Value} {base : Heap}
theorem ok_law {f f1 f2 : Addr} {fd fd1 fd2 : FuncData} (F : Fun K "law" "law" slaw f fd) (GO : VFn P w K mg base 1 "_law_pool" ["_law_script", "_law_k"] pPool) (GT : VFn P w K mg base 1 "_law_take" ["_law_pool_here", "_law_many"] pTake) (GD : VFn P w K mg base 36 "_law_drawn" ["_law_pool_here", "_law_room"] pDrawn) (GL : VFn P w K mg base 42 "_law_places" ["_law_part", "_law_place"] (pPlaces 40))
    (GS : FnOk P w K mg base CX0 3 f1 fd1 ["program"] (spSteps K)) (kS : PySem.W.keepIn K (.ref f1) = true) (bS : Binds K fd1 ["program"] []) (gS : mg "step_places" = some (.ref f1))
    (GU : FnOk P w K mg base CX0 5 f2 fd2 ["_law_thing"] spUnsh) (kU : PySem.W.keepIn K (.ref f2) = true) (bU : Binds K fd2 ["_law_thing"] []) (gU : mg "_law_unshared" = some (.ref f2)) (B : Blt mg) :
    FnOk P w K mg base CX0 43 f fd ["_law_script"] (spLaw K) := by
  obtain ⟨fo, fdo, GO, kO, bO, gO⟩ := GO.ex
  obtain ⟨ft, fdt, GT, kT, bT, gT⟩ := GT.ex
  obtain ⟨fe, fde, GD, kD, bD, gD⟩ := GD.ex
  obtain ⟨fl, fdl, GL, kL, bL, gL⟩ := GL.ex
  refine F.ok sclaw (fun vs H Q E h => ?_) (fun cdv A outer s H vs Q E hr h => ?_)
  · obtain ⟨a, ns, rfl, _⟩ := h
    rfl
  · obtain ⟨a, ns, rfl, hS, hl, k⟩ := h
    have hu := u190 hr
    have hr1 : Room 1 _ := hr.mono (by omega)
    have hr3 : Room 3 _ := hr.mono (by omega)
    have hr5 : Room 5 _ := hr.mono (by omega)
    have hr36 : Room 36 _ := hr.mono (by omega)
    refine ⟨_, pss_cons (ps_for PassesOwn.never rfl (pi_range1 (by rfl) B.range (pa_cons (pe_callB (call_max2 (by rfl)) (by rfl) B.max (by decide +kernel) (pa_cons pe_int (pa_cons (pe_callB (call_min2 (by rfl)) (by rfl) B.min (by decide +kernel) (pa_cons (pe_callB call_len_seq (by rfl) B.len PySem.boot_len (pa_cons (pv 0) pa_nil)) (pa_cons pe_int pa_nil))) pa_nil))) pa_nil)) (pg_name (i := 1) sclaw.nd rfl (Or.inl rfl))
        (pss_cons (ps_set (i := 2) sclaw.nd rfl (Or.inl rfl) (pe_call GO hr1 (by rfl) gO kO bO .nil pass0 (pa_cons (pv 0) (pa_cons (pv 1) pa_nil))))
        (pss_cons (ps_set (i := 3) sclaw.nd rfl (Or.inl rfl) (pe_call GD hr36 (by rfl) gD kD bD .nil pass0 (pa_cons (pv 2) (pa_cons (pe_op op_add pe_int (pe_call GT hr1 (by rfl) gT kT bT .nil pass0 (pa_cons (pv 2) (pa_cons pe_int pa_nil)))) pa_nil))))
        (pss_cons (ps_set (i := 4) sclaw.nd rfl (Or.inl rfl) (pe_call GL hr (by rfl) gL kL bL .nil pass0 (pa_cons (pv 3) (pa_cons (pe_lst pa_nil) pa_nil))))
        (pss_cons (ps_set (i := 5) sclaw.nd rfl (Or.inl rfl) (pe_call GS hr3 (by rfl) gS kS bS .nil pass0 (pa_cons (pv 3) pa_nil)))
        (pss_cons (ps_if (pt_cmpR (op_neW hu) (pv 5) (pv 4) (nomark _)) (pss_one (ps_ret pe_bl)) pss_nil)
        (pss_one (ps_if (PW.pt (pw_or (pt_not (pt_val (pe_call GU hr5 (by rfl) gU kU bU .nil pass0 (pa_cons (pv 5) pa_nil)))) (pw_or1 (pt_cmpR (op_neW hu) (pe_call GS hr3 (by rfl) gS kS bS .nil pass0 (pa_cons (pv 3) pa_nil)) (pv 4) (nomark _))))) (pss_one (ps_ret pe_bl)) pss_nil))))))))
      (pss_one (ps_ret pe_bl)), ?_⟩
    refine ⟨_, rfl, a, _, rfl, .inl hS, _, _, rfl, _, _, rfl, ?_⟩
    rw [List.length_map]
    obtain ⟨j, hj, hj1, hj2⟩ : ∃ j : Int, (if (if (12 : Int) < (ns.length : Int) then 12 else (ns.length : Int)) > 1 then (if (12 : Int) < (ns.length : Int) then 12 else (ns.length : Int)) else 1) = j ∧ 1 ≤ j ∧ j ≤ 12 := ⟨_, rfl, by split <;> (try split) <;> omega, by split <;> (try split) <;> omega⟩
    rw [hj]
    refine ⟨j, rfl, by omega, by omega, for_range (lo := 0) (n := j.toNat) (fun i σ H2 => ∃ (i1 i2 i3 i4 i5 : Option V), σ = [some (.ref a), i1, i2, i3, i4, i5] ∧ L2.Same H H2) ⟨none, none, none, none, none, rfl, L2.Same.refl H⟩ ?_ ?_⟩
    · rintro i σ H2 hi ⟨i1, i2, i3, i4, i5, rfl, s2⟩
      -- the pool
      have hS2 : SqL K H2 a (ns.map V.int) := sqL_le s2 hS
      obtain ⟨Fa, lFa, hSa, nFa⟩ := sqL_only hS2
      refine ⟨_, rfl, _, rfl, restH H2 Fa, Fa, [], [.kn (ns.map .int), .val (.int (i : Int))], [], fun s st' => ∃ c n : Int, s = .obj 0 ∧ st' = [[.int c, .int n]] ∧ PoolK n, pure_in lFa (.cons (s := .kn (ns.map .int)) ⟨a, _, rfl, hSa, ints_at ns⟩ (.cons (s := .val (.int (i : Int))) (by rw [Int.zero_add]; exact .int _) .nil)), ⟨ns, i, rfl, rfl, hl, by omega, fun c n h => ⟨c, n, rfl, rfl, h⟩⟩, fun s st' v F3 A3 H3 kk l3 _ rep3 => ?_⟩
      obtain ⟨c, n, rfl, rfl, pn⟩ := kk
      obtain ⟨v', ev, p, ep, rfl⟩ := rep3.slot 0 _ rfl
      cases ev
      obtain ⟨p', xs, e1, e2, e3, e4⟩ := rep3.store 0 _ rfl
      rw [ep] at e1
      cases e1
      have hp3 : H3 p = some (.lst [.int c, .int n]) := by
        cases e4 with
        | cons x1 x2 =>
          cases x1
          cases x2 with
          | cons x2 x3 =>
            cases x2
            cases x3
            exact e3
      have p2 : H2 p = none := by
        cases z : H2 p with
        | none => rfl
        | some o =>
          cases zf : Fa p with
          | none => exact absurd (List.mem_of_getElem? ep) (rep3.apart p o (restH_some.mpr ⟨zf, z⟩)).2
          | some u =>
            rw [l3 _ _ zf] at e2
            cases e2
      have s3 : L2.Same H2 H3 := fun b o h => by
        cases z : Fa b with
        | none => exact rep3.keep _ _ (restH_some.mpr ⟨z, h⟩)
        | some u =>
          have := lFa _ _ z
          rw [h] at this
          cases this
          exact rep3.sub _ _ (l3 _ _ z)
      -- 1 + take(pool, 4)
      have lE : ∀ H' : Hp, Le (fun _ => none) H' := fun H' b o e => by cases e
      refine ⟨_, rfl, _, rfl, restP p H3 (fun _ => none), fun _ => none, [p], [.obj 0, .val (.int 4)], [[.int c, .int n]], fun s st' => ∃ r c' n' : Int, s = .val (.int r) ∧ st' = [[.int c', .int n']] ∧ 0 ≤ r ∧ r < 4 ∧ PoolK n', pool_in hp3 (lE _) rfl (.cons (s := .obj 0) ⟨p, rfl, rfl⟩ (.cons (s := .val (.int 4)) (.int 4) .nil)), ⟨pn, by decide, by decide, fun r c' n' h1 h2 h3 => ⟨r, c', n', rfl, rfl, h1, h2, h3⟩⟩, fun s st' v F4 A4 H4 kk l4 pre4 rep4 => ?_⟩
      obtain ⟨r, c4, n4, rfl, rfl, r0, r1, pn4⟩ := kk
      obtain ⟨s4, hp4, _, hv4, _, _⟩ := pool_out rep4 pre4 (lE _) l4
      cases (show At K F4 (.int r) v from hv4)
      -- drawn
      refine ⟨_, _, rfl, rfl, restP p H4 (fun _ => none), fun _ => none, [p], [.obj 0, .val (.int (1 + r))], [[.int c4, .int n4]], fun s st' => ∃ (pg : Pg) (c' n' : Int), s = .val pg.enc ∧ st' = [[.int c', .int n']] ∧ pg.size ≤ 131070 ∧ pg.deep ≤ 30, pool_in hp4 (lE _) rfl (.cons (s := .obj 0) ⟨p, rfl, rfl⟩ (.cons (s := .val (.int (1 + r))) (.int _) .nil)), ⟨pn4, by omega, by omega, fun pg kd c' n' _ _ h1 h2 _ => ⟨pg, c', n', rfl, rfl, h1, h2⟩⟩, fun s st' v F5 A5 H5 kk l5 pre5 rep5 => ?_⟩
      obtain ⟨pg, c5, n5, rfl, rfl, z1, z2⟩ := kk
      obtain ⟨s5, hp5, lf5, hv5, ap5, fp5⟩ := pool_out rep5 pre5 (lE _) l5
      have s25 : L2.Same H2 H5 := fun b o h => s5 _ _ (ne_of_none h p2) (s4 _ _ (ne_of_none h p2) (s3 _ _ h))
      -- the law's places
      refine ⟨_, rfl, by show 0 ≤ sizeLine; decide, fun L0 hL0 => ?_⟩
      have F50 : F5 L0 = none := lf5.free hL0
      have lf6 : Le (upd F5 L0 (.lst [])) (upd H5 L0 (.lst [])) := fun b o h => by
        by_cases hb : b = L0
        · rw [hb, upd_same] at h ⊢
          exact h
        · rw [upd_ne hb] at h ⊢
          exact lf5 _ _ h
      have lF : Le F5 (upd F5 L0 (.lst [])) := Le.new F50
      refine ⟨restH (upd H5 L0 (.lst [])) (upd F5 L0 (.lst [])), upd F5 L0 (.lst []), [], [.val pg.enc, .val (encPl [])], [], fun s st' => s = .val (.list ((pg.places []).map encPl)) ∧ st' = [], pure_in lf6 (.cons (s := .val pg.enc) (At.le lF _ _ hv5) (.cons (s := .val (encPl [])) (.lst upd_same .nil) .nil)), ⟨pg, [], rfl, rfl, by omega, by show 0 + pg.deep ≤ 1000; omega, by omega, rfl, rfl⟩, fun s st' vd F7 A7 H7 kk l7 _ rep7 => ?_⟩
      obtain ⟨rfl, rfl⟩ := kk
      obtain ⟨s7, lf7, ap7, hv7⟩ := pure_out rep7 lf6 l7
      have s57 : L2.Same H5 H7 := (same_new hL0).trans s7
      have hv7p : At K F7 pg.enc v := At.le (lF.trans l7) _ _ hv5
      -- step_places
      refine ⟨_, rfl, F7, pg, v, rfl, lf7, hv7p, by omega, by omega, fun PL qs H8 s8 d8 h8 all8 nd8 new8 => ?_⟩
      have hd8 : Dp K H8 (.ref PL) (.list ((pg.places []).map encPl)) := .lst (SqL.of h8) (pls_dp all8)
      have lf8 : Le F7 H8 := fun b o h => s8 _ _ (lf7 _ _ h)
      refine ⟨_, rfl, _, rfl, _, _, hd8, At.dp lf8 _ _ hv7, shp_places _ _, shp_places _ _, ?_⟩
      rw [pls_eqv]
      refine ⟨_, rfl, ?_⟩
      refine iteF ?_
      -- unshared
      have ls : LsAt H8 2 (.ref PL) (PL :: qs) := ⟨PL, _, _, rfl, h8, ls_pls all8, by rw [ls_sing]⟩
      have ql := all8.len
      have pl := pg.places_len []
      have nin : ∀ q ∈ PL :: qs, H7 q = none := fun q hq => by
        rcases List.mem_cons.mp hq with h | h
        · rw [h]; exact d8
        · exact (new8 q h).1
      refine ⟨_, rfl, .ref PL, PL :: qs, rfl, ls, ?_, by rw [List.length_cons]; omega, fun l hl xs ex => ?_, fun H9 s9 => ?_⟩
      · rw [List.nodup_cons]
        exact ⟨fun z => (new8 PL z).2 rfl, nd8⟩
      · rcases List.mem_cons.mp hl with h | h
        · rw [h, h8] at ex
          cases ex
          rw [List.length_map]
          omega
        · obtain ⟨pl', hpl, em⟩ := all2_memD all8 h
          have em' : H8 l = some (.lst (pl'.map .int)) := em
          rw [em'] at ex
          cases ex
          rw [List.length_map]
          have := pg.place_len [] pl' hpl
          rw [List.length_nil] at this
          omega
      have s79 : L2.Same H7 H9 := fun b o h => s9 _ _ (fun z => by rw [nin b z] at h; cases h) (s8 _ _ h)
      have lf9 : Le F7 H9 := fun b o h => s79 _ _ (lf7 _ _ h)
      refine ⟨_, rfl, ?_⟩
      refine iteF ?_
      refine ⟨_, rfl, F7, pg, v, rfl, lf9, hv7p, by omega, by omega, fun PL2 qs2 H10 s10 d10 h10 all10 _ _ => ?_⟩
      have hd10 : Dp K H10 (.ref PL2) (.list ((pg.places []).map encPl)) := .lst (SqL.of h10) (pls_dp all10)
      have lf10 : Le F7 H10 := fun b o h => s10 _ _ (lf9 _ _ h)
      refine ⟨_, rfl, _, _, hd10, At.dp lf10 _ _ hv7, shp_places _ _, shp_places _ _, ?_⟩
      rw [pls_eqv]
      refine ⟨_, rfl, ?_⟩
      refine iteF ?_
      exact ⟨_, _, _, _, _, rfl, fun b o h => s10 _ _ (s79 _ _ (s57 _ _ (s25 _ _ (s2 _ _ h))))⟩
    · rintro σ H2 ⟨i1, i2, i3, i4, i5, rfl, s2⟩
      exact k _
end
end Kf
namespace Kf
open PySem L2 Vl PySem.Spec PyProof.Rows
/-! the end -/
theorem all_mk {l : PySem.W.OpenLaw} {w : World} {K : PySem.W.Frag} {h : Heap} {mg : Str → Option Value} {fa f0 f1 f2 f3 f4 f5 f6 f7 f8 f9 f10 f11 f12 f13 f14 f15 f16 f17 : Addr} (X : K.In h) (G : h.Ns mainGlobals mg) (hfa : mg "law" = some (.ref fa))
    {od0 an0 od1 an1 od2 an2 od3 an3 od4 an4 od5 an5 od6 an6 od7 an7 od8 an8 od9 an9 od10 an10 od11 an11 od12 an12 od13 an13 od14 an14 od15 an15 od16 an16 od17 an17 : Option Addr}
    {sl0 sl1 sl2 sl3 sl4 sl5 sl6 sl7 sl8 sl9 sl10 sl11 sl12 sl13 sl14 sl15 sl16 sl17 : Array (Option Value)} {oc0 kV0 dc0 pm0 cd0 ct0 oc1 kV1 dc1 pm1 cd1 ct1 oc2 kV2 dc2 pm2 cd2 ct2 oc3 kV3 dc3 pm3 cd3 ct3 oc4 kV4 dc4 pm4 cd4 ct4 oc5 kV5 dc5 pm5 cd5 ct5 oc6 kV6 dc6 pm6 cd6 ct6 oc7 kV7 dc7 pm7 cd7 ct7 oc8 kV8 dc8 pm8 cd8 ct8 oc9 kV9 dc9 pm9 cd9 ct9 oc10 kV10 dc10 pm10 cd10 ct10 oc11 kV11 dc11 pm11 cd11 ct11 oc12 kV12 dc12 pm12 cd12 ct12 oc13 kV13 dc13 pm13 cd13 ct13 oc14 kV14 dc14 pm14 cd14 ct14 oc15 kV15 dc15 pm15 cd15 ct15 oc16 kV16 dc16 pm16 cd16 ct16 oc17 kV17 dc17 pm17 cd17 ct17 : Value}
    (a0 : PySem.W.nsIn K mainGlobals "law" = some (some (.ref f0)))
    (l0 : K.lookup f0 = some ⟨oc0, od0, .func (PySem.W.fnOf "law" "law" (defArgs slaw) (defBody slaw) (defScope slaw) .none kV0 dc0 pm0 an0 cd0 ct0), sl0⟩)
    (c0 : PySem.W.codeIn K cd0 "law" = true) (k0 : PySem.W.keepIn K (.ref f0) = true)
    (a1 : PySem.W.nsIn K mainGlobals "_law_pool" = some (some (.ref f1)))
    (l1 : K.lookup f1 = some ⟨oc1, od1, .func (PySem.W.fnOf "_law_pool" "_law_pool" (defArgs sLpool) (defBody sLpool) (defScope sLpool) .none kV1 dc1 pm1 an1 cd1 ct1), sl1⟩)
    (c1 : PySem.W.codeIn K cd1 "_law_pool" = true) (k1 : PySem.W.keepIn K (.ref f1) = true)
    (a2 : PySem.W.nsIn K mainGlobals "_law_take" = some (some (.ref f2)))
    (l2 : K.lookup f2 = some ⟨oc2, od2, .func (PySem.W.fnOf "_law_take" "_law_take" (defArgs sLtake) (defBody sLtake) (defScope sLtake) .none kV2 dc2 pm2 an2 cd2 ct2), sl2⟩)
    (c2 : PySem.W.codeIn K cd2 "_law_take" = true) (k2 : PySem.W.keepIn K (.ref f2) = true)
    (a3 : PySem.W.nsIn K mainGlobals "_law_kind" = some (some (.ref f3)))
    (l3 : K.lookup f3 = some ⟨oc3, od3, .func (PySem.W.fnOf "_law_kind" "_law_kind" (defArgs sLkind) (defBody sLkind) (defScope sLkind) .none kV3 dc3 pm3 an3 cd3 ct3), sl3⟩)
    (c3 : PySem.W.codeIn K cd3 "_law_kind" = true) (k3 : PySem.W.keepIn K (.ref f3) = true)
    (a4 : PySem.W.nsIn K mainGlobals "_law_row" = some (some (.ref f4)))
    (l4 : K.lookup f4 = some ⟨oc4, od4, .func (PySem.W.fnOf "_law_row" "_law_row" (defArgs sLrow) (defBody sLrow) (defScope sLrow) .none kV4 dc4 pm4 an4 cd4 ct4), sl4⟩)
    (c4 : PySem.W.codeIn K cd4 "_law_row" = true) (k4 : PySem.W.keepIn K (.ref f4) = true)
    (a5 : PySem.W.nsIn K mainGlobals "_law_names" = some (some (.ref f5)))
    (l5 : K.lookup f5 = some ⟨oc5, od5, .func (PySem.W.fnOf "_law_names" "_law_names" (defArgs sLnames) (defBody sLnames) (defScope sLnames) .none kV5 dc5 pm5 an5 cd5 ct5), sl5⟩)
    (c5 : PySem.W.codeIn K cd5 "_law_names" = true) (k5 : PySem.W.keepIn K (.ref f5) = true)
    (a6 : PySem.W.nsIn K mainGlobals "_law_apart" = some (some (.ref f6)))
    (l6 : K.lookup f6 = some ⟨oc6, od6, .func (PySem.W.fnOf "_law_apart" "_law_apart" (defArgs sLapart) (defBody sLapart) (defScope sLapart) .none kV6 dc6 pm6 an6 cd6 ct6), sl6⟩)
    (c6 : PySem.W.codeIn K cd6 "_law_apart" = true) (k6 : PySem.W.keepIn K (.ref f6) = true)
    (a7 : PySem.W.nsIn K mainGlobals "_law_program" = some (some (.ref f7)))
    (l7 : K.lookup f7 = some ⟨oc7, od7, .func (PySem.W.fnOf "_law_program" "_law_program" (defArgs sLprogram) (defBody sLprogram) (defScope sLprogram) .none kV7 dc7 pm7 an7 cd7 ct7), sl7⟩)
    (c7 : PySem.W.codeIn K cd7 "_law_program" = true) (k7 : PySem.W.keepIn K (.ref f7) = true)
    (a8 : PySem.W.nsIn K mainGlobals "_law_inner" = some (some (.ref f8)))
    (l8 : K.lookup f8 = some ⟨oc8, od8, .func (PySem.W.fnOf "_law_inner" "_law_inner" (defArgs sLinner) (defBody sLinner) (defScope sLinner) .none kV8 dc8 pm8 an8 cd8 ct8), sl8⟩)
    (c8 : PySem.W.codeIn K cd8 "_law_inner" = true) (k8 : PySem.W.keepIn K (.ref f8) = true)
    (a9 : PySem.W.nsIn K mainGlobals "_law_can" = some (some (.ref f9)))
    (l9 : K.lookup f9 = some ⟨oc9, od9, .func (PySem.W.fnOf "_law_can" "_law_can" (defArgs sLcan) (defBody sLcan) (defScope sLcan) .none kV9 dc9 pm9 an9 cd9 ct9), sl9⟩)
    (c9 : PySem.W.codeIn K cd9 "_law_can" = true) (k9 : PySem.W.keepIn K (.ref f9) = true)
    (a10 : PySem.W.nsIn K mainGlobals "_law_places" = some (some (.ref f10)))
    (l10 : K.lookup f10 = some ⟨oc10, od10, .func (PySem.W.fnOf "_law_places" "_law_places" (defArgs sLplaces) (defBody sLplaces) (defScope sLplaces) .none kV10 dc10 pm10 an10 cd10 ct10), sl10⟩)
    (c10 : PySem.W.codeIn K cd10 "_law_places" = true) (k10 : PySem.W.keepIn K (.ref f10) = true)
    (a11 : PySem.W.nsIn K mainGlobals "_law_drawn" = some (some (.ref f11)))
    (l11 : K.lookup f11 = some ⟨oc11, od11, .func (PySem.W.fnOf "_law_drawn" "_law_drawn" (defArgs sLdrawn) (defBody sLdrawn) (defScope sLdrawn) .none kV11 dc11 pm11 an11 cd11 ct11), sl11⟩)
    (c11 : PySem.W.codeIn K cd11 "_law_drawn" = true) (k11 : PySem.W.keepIn K (.ref f11) = true)
    (a12 : PySem.W.nsIn K mainGlobals "_law_lists" = some (some (.ref f12)))
    (l12 : K.lookup f12 = some ⟨oc12, od12, .func (PySem.W.fnOf "_law_lists" "_law_lists" (defArgs sLlists) (defBody sLlists) (defScope sLlists) .none kV12 dc12 pm12 an12 cd12 ct12), sl12⟩)
    (c12 : PySem.W.codeIn K cd12 "_law_lists" = true) (k12 : PySem.W.keepIn K (.ref f12) = true)
    (a13 : PySem.W.nsIn K mainGlobals "_law_unshared" = some (some (.ref f13)))
    (l13 : K.lookup f13 = some ⟨oc13, od13, .func (PySem.W.fnOf "_law_unshared" "_law_unshared" (defArgs sLunshared) (defBody sLunshared) (defScope sLunshared) .none kV13 dc13 pm13 an13 cd13 ct13), sl13⟩)
    (c13 : PySem.W.codeIn K cd13 "_law_unshared" = true) (k13 : PySem.W.keepIn K (.ref f13) = true)
    (a14 : PySem.W.nsIn K mainGlobals "programs_in" = some (some (.ref f14)))
    (l14 : K.lookup f14 = some ⟨oc14, od14, .func (PySem.W.fnOf "programs_in" "programs_in" (defArgs sprogramsin) (defBody sprogramsin) (defScope sprogramsin) .none kV14 dc14 pm14 an14 cd14 ct14), sl14⟩)
    (c14 : PySem.W.codeIn K cd14 "programs_in" = true) (k14 : PySem.W.keepIn K (.ref f14) = true)
    (a15 : PySem.W.nsIn K mainGlobals "placed_in" = some (some (.ref f15)))
    (l15 : K.lookup f15 = some ⟨oc15, od15, .func (PySem.W.fnOf "placed_in" "placed_in" (defArgs splacedin) (defBody splacedin) (defScope splacedin) .none kV15 dc15 pm15 an15 cd15 ct15), sl15⟩)
    (c15 : PySem.W.codeIn K cd15 "placed_in" = true) (k15 : PySem.W.keepIn K (.ref f15) = true)
    (a16 : PySem.W.nsIn K mainGlobals "can_step" = some (some (.ref f16)))
    (l16 : K.lookup f16 = some ⟨oc16, od16, .func (PySem.W.fnOf "can_step" "can_step" (defArgs scanstep) (defBody scanstep) (defScope scanstep) .none kV16 dc16 pm16 an16 cd16 ct16), sl16⟩)
    (c16 : PySem.W.codeIn K cd16 "can_step" = true) (k16 : PySem.W.keepIn K (.ref f16) = true)
    (a17 : PySem.W.nsIn K mainGlobals "step_places" = some (some (.ref f17)))
    (l17 : K.lookup f17 = some ⟨oc17, od17, .func (PySem.W.fnOf "step_places" "step_places" (defArgs sstepplaces) (defBody sstepplaces) (defScope sstepplaces) .none kV17 dc17 pm17 an17 cd17 ct17), sl17⟩)
    (c17 : PySem.W.codeIn K cd17 "step_places" = true) (k17 : PySem.W.keepIn K (.ref f17) = true)
    (z0 : PySem.W.nsIn K mainGlobals "len" = some none)
    (z1 : PySem.W.nsIn K mainGlobals "max" = some none)
    (z2 : PySem.W.nsIn K mainGlobals "min" = some none)
    (z3 : PySem.W.nsIn K mainGlobals "range" = some none)
    (z4 : PySem.W.nsIn K mainGlobals "int" = some none)
    (z5 : PySem.W.nsIn K mainGlobals "str" = some none)
    (z6 : PySem.W.nsIn K mainGlobals "list" = some none)
    (z7 : PySem.W.nsIn K mainGlobals "tuple" = some none)
    (z8 : PySem.W.nsIn K mainGlobals "bool" = some none)
    (z9 : PySem.W.nsIn K mainGlobals "sorted" = some none)
    (z10 : PySem.W.nsIn K mainGlobals "enumerate" = some none)
    (z11 : PySem.W.nsIn K mainGlobals "zip" = some none)
    (z12 : PySem.W.nsIn K mainGlobals "isinstance" = some none)
    (z13 : PySem.W.nsIn K mainGlobals "all" = some none)
    (z14 : PySem.W.nsIn K mainGlobals "any" = some none)
    (z15 : PySem.W.nsIn K mainGlobals "sum" = some none)
    (z16 : PySem.W.nsIn K mainGlobals "dict" = some none)
    (z17 : PySem.W.nsIn K mainGlobals "set" = some none) :
    ∃ fd : FuncData, (∀ (s : Shared) (v : Value), BindsTo s fd ⟨[v], []⟩ [("_law_script", v)]) ∧ ∀ base : Heap, K.In base → base.Ns mainGlobals mg → FnOk l.prog w K mg base CX0 43 fa fd ["_law_script"] (spLaw K) := by
  have e := hfa.symm.trans (PySem.W.mg_of X G a0)
  cases e
  have F0 := fun_mk (st := slaw) l0 c0 k0
  have F1 := fun_mk (st := sLpool) l1 c1 k1
  have b1 := F1.binds (ps := ["_law_script", "_law_k"]) fun _ _ _ _ _ _ us hl => match us, hl with | [_, _], _ => rfl
  have g1 := PySem.W.mg_of X G a1
  have F2 := fun_mk (st := sLtake) l2 c2 k2
  have b2 := F2.binds (ps := ["_law_pool_here", "_law_many"]) fun _ _ _ _ _ _ us hl => match us, hl with | [_, _], _ => rfl
  have g2 := PySem.W.mg_of X G a2
  have F3 := fun_mk (st := sLkind) l3 c3 k3
  have b3 := F3.binds (ps := ["_law_pool_here", "_law_leaves", "_law_marks"]) fun _ _ _ _ _ _ us hl => match us, hl with | [_, _, _], _ => rfl
  have g3 := PySem.W.mg_of X G a3
  have F4 := fun_mk (st := sLrow) l4 c4 k4
  have b4 := F4.binds (ps := []) fun _ _ _ _ _ _ us hl => match us, hl with | [], _ => rfl
  have g4 := PySem.W.mg_of X G a4
  have F5 := fun_mk (st := sLnames) l5 c5 k5
  have b5 := F5.binds (ps := ["_law_known"]) fun _ _ _ _ _ _ us hl => match us, hl with | [_], _ => rfl
  have g5 := PySem.W.mg_of X G a5
  have F6 := fun_mk (st := sLapart) l6 c6 k6
  have b6 := F6.binds (ps := ["_law_pool_here", "_law_known", "_law_kind_here", "_law_room"]) fun _ _ _ _ _ _ us hl => match us, hl with | [_, _, _, _], _ => rfl
  have g6 := PySem.W.mg_of X G a6
  have F7 := fun_mk (st := sLprogram) l7 c7 k7
  have b7 := F7.binds (ps := ["_law_pool_here", "_law_known", "_law_kind_here", "_law_room"]) fun _ _ _ _ _ _ us hl => match us, hl with | [_, _, _, _], _ => rfl
  have g7 := PySem.W.mg_of X G a7
  have F8 := fun_mk (st := sLinner) l8 c8 k8
  have b8 := F8.binds (ps := ["_law_program_here"]) fun _ _ _ _ _ _ us hl => match us, hl with | [_], _ => rfl
  have g8 := PySem.W.mg_of X G a8
  have F9 := fun_mk (st := sLcan) l9 c9 k9
  have b9 := F9.binds (ps := ["_law_part"]) fun _ _ _ _ _ _ us hl => match us, hl with | [_], _ => rfl
  have g9 := PySem.W.mg_of X G a9
  have F10 := fun_mk (st := sLplaces) l10 c10 k10
  have b10 := F10.binds (ps := ["_law_part", "_law_place"]) fun _ _ _ _ _ _ us hl => match us, hl with | [_, _], _ => rfl
  have g10 := PySem.W.mg_of X G a10
  have F11 := fun_mk (st := sLdrawn) l11 c11 k11
  have b11 := F11.binds (ps := ["_law_pool_here", "_law_room"]) fun _ _ _ _ _ _ us hl => match us, hl with | [_, _], _ => rfl
  have g11 := PySem.W.mg_of X G a11
  have F12 := fun_mk (st := sLlists) l12 c12 k12
  have b12 := F12.binds (ps := ["_law_thing"]) fun _ _ _ _ _ _ us hl => match us, hl with | [_], _ => rfl
  have g12 := PySem.W.mg_of X G a12
  have F13 := fun_mk (st := sLunshared) l13 c13 k13
  have b13 := F13.binds (ps := ["_law_thing"]) fun _ _ _ _ _ _ us hl => match us, hl with | [_], _ => rfl
  have g13 := PySem.W.mg_of X G a13
  have F14 := fun_mk (st := sprogramsin) l14 c14 k14
  have b14 := F14.binds (ps := ["part"]) fun _ _ _ _ _ _ us hl => match us, hl with | [_], _ => rfl
  have g14 := PySem.W.mg_of X G a14
  have F15 := fun_mk (st := splacedin) l15 c15 k15
  have b15 := F15.binds (ps := ["part", "place"]) fun _ _ _ _ _ _ us hl => match us, hl with | [_, _], _ => rfl
  have g15 := PySem.W.mg_of X G a15
  have F16 := fun_mk (st := scanstep) l16 c16 k16
  have b16 := F16.binds (ps := ["part"]) fun _ _ _ _ _ _ us hl => match us, hl with | [_], _ => rfl
  have g16 := PySem.W.mg_of X G a16
  have F17 := fun_mk (st := sstepplaces) l17 c17 k17
  have b17 := F17.binds (ps := ["program"]) fun _ _ _ _ _ _ us hl => match us, hl with | [_], _ => rfl
  have g17 := PySem.W.mg_of X G a17
  have m0 := PySem.W.mg_none_of X G z0
  have m1 := PySem.W.mg_none_of X G z1
  have m2 := PySem.W.mg_none_of X G z2
  have m3 := PySem.W.mg_none_of X G z3
  have m4 := PySem.W.mg_none_of X G z4
  have m5 := PySem.W.mg_none_of X G z5
  have m6 := PySem.W.mg_none_of X G z6
  have m7 := PySem.W.mg_none_of X G z7
  have m8 := PySem.W.mg_none_of X G z8
  have m9 := PySem.W.mg_none_of X G z9
  have m10 := PySem.W.mg_none_of X G z10
  have m11 := PySem.W.mg_none_of X G z11
  have m12 := PySem.W.mg_none_of X G z12
  have m13 := PySem.W.mg_none_of X G z13
  have m14 := PySem.W.mg_none_of X G z14
  have m15 := PySem.W.mg_none_of X G z15
  have m16 := PySem.W.mg_none_of X G z16
  have m17 := PySem.W.mg_none_of X G z17
  exact ⟨PySem.W.fnOf "law" "law" (defArgs slaw) (defBody slaw) (defScope slaw) .none kV0 dc0 pm0 an0 cd0 ct0, fun s v => .of_eq rfl, fun base _ _ => by
    have D_Lpool : Df K mg "_law_pool" sLpool ["_law_script", "_law_k"] := ⟨_, _, F1, b1, g1⟩
    have D_Ltake : Df K mg "_law_take" sLtake ["_law_pool_here", "_law_many"] := ⟨_, _, F2, b2, g2⟩
    have D_Lkind : Df K mg "_law_kind" sLkind ["_law_pool_here", "_law_leaves", "_law_marks"] := ⟨_, _, F3, b3, g3⟩
    have D_Lrow : Df K mg "_law_row" sLrow [] := ⟨_, _, F4, b4, g4⟩
    have D_Lnames : Df K mg "_law_names" sLnames ["_law_known"] := ⟨_, _, F5, b5, g5⟩
    have D_Lapart : Df K mg "_law_apart" sLapart ["_law_pool_here", "_law_known", "_law_kind_here", "_law_room"] := ⟨_, _, F6, b6, g6⟩
    have D_Lprogram : Df K mg "_law_program" sLprogram ["_law_pool_here", "_law_known", "_law_kind_here", "_law_room"] := ⟨_, _, F7, b7, g7⟩
    have D_Linner : Df K mg "_law_inner" sLinner ["_law_program_here"] := ⟨_, _, F8, b8, g8⟩
    have D_Lcan : Df K mg "_law_can" sLcan ["_law_part"] := ⟨_, _, F9, b9, g9⟩
    have D_Lplaces : Df K mg "_law_places" sLplaces ["_law_part", "_law_place"] := ⟨_, _, F10, b10, g10⟩
    have D_Ldrawn : Df K mg "_law_drawn" sLdrawn ["_law_pool_here", "_law_room"] := ⟨_, _, F11, b11, g11⟩
    have D_Llists : Df K mg "_law_lists" sLlists ["_law_thing"] := ⟨_, _, F12, b12, g12⟩
    have D_Lunshared : Df K mg "_law_unshared" sLunshared ["_law_thing"] := ⟨_, _, F13, b13, g13⟩
    have D_programsin : Df K mg "programs_in" sprogramsin ["part"] := ⟨_, _, F14, b14, g14⟩
    have D_placedin : Df K mg "placed_in" splacedin ["part", "place"] := ⟨_, _, F15, b15, g15⟩
    have D_canstep : Df K mg "can_step" scanstep ["part"] := ⟨_, _, F16, b16, g16⟩
    have D_stepplaces : Df K mg "step_places" sstepplaces ["program"] := ⟨_, _, F17, b17, g17⟩
    have B : Blt mg := ⟨m0, m1, m2, m3, m4, m5, m6, m7, m8, m9, m10, m11, m12, m13, m14, m15, m16, m17⟩
    have GO := f_pool (P := l.prog) (w := w) (base := base) D_Lpool B
    have GT := f_take (P := l.prog) (w := w) (base := base) D_Ltake
    have GK := f_kind (P := l.prog) (w := w) (base := base) D_Lkind B GT 3
    have GN := f_names (P := l.prog) (w := w) (base := base) D_Lnames B
    have GP := f_prog (P := l.prog) (w := w) (base := base) D_Lapart D_Lprogram B GK GT GN 14
    have GA := f_apart (P := l.prog) (w := w) (base := base) D_Lapart GK GT GP
    have GR := f_row (P := l.prog) (w := w) (base := base) D_Lrow
    have GD := f_drawn (P := l.prog) (w := w) (base := base) D_Ldrawn GK GT GA GR
    have GC := f_can (P := l.prog) (w := w) (base := base) D_Lcan
    have GI := f_inner (P := l.prog) (w := w) (base := base) D_Linner B
    have GL := f_places (P := l.prog) (w := w) (base := base) D_Lplaces B GC GI 40
    have GPI := f_programsin (P := l.prog) (w := w) (base := base) D_programsin B
    have GCS := f_canstep (P := l.prog) (w := w) (base := base) D_canstep
    have GPL := ok_placed (P := l.prog) (w := w) (base := base) F15 GPI B
    have GS := ok_steps (P := l.prog) (w := w) (base := base) F17 GCS GPL F15.kp b15 g15
    have GLS := ok_lists (P := l.prog) (w := w) (base := base) F12 b12 g12 B 2
    have GU := ok_unsh (P := l.prog) (w := w) (base := base) F13 GLS F12.kp b12 g12 B
    exact ok_law F0 GO GT GD GL GS F17.kp b17 g17 GU F13.kp b13 g13 B⟩
theorem walk {l : PySem.W.OpenLaw} {q : Program} {loose : List Str} {XP : (Str → Option Value) → Heap → Prop} {YP : World → Heap → Prop} {d : DefRec} {K : Params → PySem.W.Frag} (hn : l.most = some 63) (hdf : d.params.defaults = [])
    (hY : ∀ (w : World) (h : Heap), YP w h → (K w.params).In h)
    (F : ∀ (w : World) (mg : Str → Option Value) (fa : Addr) (h : Heap), (K w.params).In h → h.Ns mainGlobals mg → mg d.name = some (.ref fa) →
      ∃ fd : FuncData, (∀ (s : Shared) (u : Value), BindsTo s fd ⟨[u], []⟩ [("_law_script", u)]) ∧ ∀ base : Heap, (K w.params).In base → base.Ns mainGlobals mg → FnOk l.prog w (K w.params) mg base CX0 43 fa fd ["_law_script"] (spLaw (K w.params))) :
    PySem.W.WalkO q loose XP YP l.row.toRowW d [] (fun f vs => PySem.call f vs) :=
  L2.walk_of (n := 63) (k := 43) (x := "_law_script") (CX := fun _ => CX0) (sp := fun w => spLaw (K w.params)) hn (by decide) hdf ⟨rfl, by decide, by decide⟩ hY F (fun _ _ a ns hl _ hS => ⟨a, ns, rfl, hS, hl, fun _ => rfl⟩) fun _ _ _ _ _ z => z
end Kf
open PySem PySem.W PyProof.Rows
set_option maxRecDepth 100000 in
set_option maxHeartbeats 0 in
theorem PySem.Challenge.cw_kindfill_k14_step_places_holds : PySem.Challenge.rw_kindfill_k14_step_places.Holds := by
  w_on; o_law; k_head; (case hw => w_witness2)
  k_fill
  refine Kf.walk (l := PySem.Challenge.rw_kindfill_k14_step_places) rfl rfl (fun w h Y => PySem.W.kIn_of Y) ?F
  case F =>
    intro w mg fa h KX G hmg
    refine' Kf.all_mk KX G hmg ?a0 ?l0 ?c0 ?k0 ?a1 ?l1 ?c1 ?k1 ?a2 ?l2 ?c2 ?k2 ?a3 ?l3 ?c3 ?k3 ?a4 ?l4 ?c4 ?k4 ?a5 ?l5 ?c5 ?k5 ?a6 ?l6 ?c6 ?k6 ?a7 ?l7 ?c7 ?k7 ?a8 ?l8 ?c8 ?k8 ?a9 ?l9 ?c9 ?k9 ?a10 ?l10 ?c10 ?k10 ?a11 ?l11 ?c11 ?k11 ?a12 ?l12 ?c12 ?k12 ?a13 ?l13 ?c13 ?k13 ?a14 ?l14 ?c14 ?k14 ?a15 ?l15 ?c15 ?k15 ?a16 ?l16 ?c16 ?k16 ?a17 ?l17 ?c17 ?k17 ?z0 ?z1 ?z2 ?z3 ?z4 ?z5 ?z6 ?z7 ?z8 ?z9 ?z10 ?z11 ?z12 ?z13 ?z14 ?z15 ?z16 ?z17
    (case a0 => k_is)
    (case l0 => k_is)
    (case c0 => k_is)
    (case k0 => k_is)
    (case a1 => k_is)
    (case l1 => k_is)
    (case c1 => k_is)
    (case k1 => k_is)
    (case a2 => k_is)
    (case l2 => k_is)
    (case c2 => k_is)
    (case k2 => k_is)
    (case a3 => k_is)
    (case l3 => k_is)
    (case c3 => k_is)
    (case k3 => k_is)
    (case a4 => k_is)
    (case l4 => k_is)
    (case c4 => k_is)
    (case k4 => k_is)
    (case a5 => k_is)
    (case l5 => k_is)
    (case c5 => k_is)
    (case k5 => k_is)
    (case a6 => k_is)
    (case l6 => k_is)
    (case c6 => k_is)
    (case k6 => k_is)
    (case a7 => k_is)
    (case l7 => k_is)
    (case c7 => k_is)
    (case k7 => k_is)
    (case a8 => k_is)
    (case l8 => k_is)
    (case c8 => k_is)
    (case k8 => k_is)
    (case a9 => k_is)
    (case l9 => k_is)
    (case c9 => k_is)
    (case k9 => k_is)
    (case a10 => k_is)
    (case l10 => k_is)
    (case c10 => k_is)
    (case k10 => k_is)
    (case a11 => k_is)
    (case l11 => k_is)
    (case c11 => k_is)
    (case k11 => k_is)
    (case a12 => k_is)
    (case l12 => k_is)
    (case c12 => k_is)
    (case k12 => k_is)
    (case a13 => k_is)
    (case l13 => k_is)
    (case c13 => k_is)
    (case k13 => k_is)
    (case a14 => k_is)
    (case l14 => k_is)
    (case c14 => k_is)
    (case k14 => k_is)
    (case a15 => k_is)
    (case l15 => k_is)
    (case c15 => k_is)
    (case k15 => k_is)
    (case a16 => k_is)
    (case l16 => k_is)
    (case c16 => k_is)
    (case k16 => k_is)
    (case a17 => k_is)
    (case l17 => k_is)
    (case c17 => k_is)
    (case k17 => k_is)
    (case z0 => k_is)
    (case z1 => k_is)
    (case z2 => k_is)
    (case z3 => k_is)
    (case z4 => k_is)
    (case z5 => k_is)
    (case z6 => k_is)
    (case z7 => k_is)
    (case z8 => k_is)
    (case z9 => k_is)
    (case z10 => k_is)
    (case z11 => k_is)
    (case z12 => k_is)
    (case z13 => k_is)
    (case z14 => k_is)
    (case z15 => k_is)
    (case z16 => k_is)
    (case z17 => k_is)
