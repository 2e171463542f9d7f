import PyProof.Rows.All
import Wide.All
import OpenK.AllK
import Wide.FinOn
import HandS.ForMost
import HandS.IsInst
import HandS.Flow
import HandS.Style
import HandS.Text
import HandS.AnyAll
import HandS.EndTab
import HandS.More
import HandS.Walk
import HandS.Codes
import HandS.NoneIn
import HandS.ForExc
import HandS.Zip
import HandS.Iter
import HandS.RevRange
import PySem.Challenge.RW_kindfill_k35_held_world_by_world
set_option Elab.async false
set_option maxRecDepth 100000
namespace Kf
open PySem L2
def top (i : Nat) : Stmt := PySem.Challenge.pw_kindfill_k35_held_world_by_world.main.body.getD i (.Pass ⟨0, 0, 0, 0⟩)
abbrev sHolds : Stmt := top 1
abbrev sLaid : Stmt := top 2
abbrev sWhere : Stmt := top 3
abbrev sPool : Stmt := top 5
abbrev sTake : Stmt := top 6
abbrev sMarks : Stmt := top 7
abbrev sKind : Stmt := top 8
abbrev sTree : Stmt := top 9
abbrev sAll : Stmt := top 10
abbrev sRises : Stmt := top 11
abbrev sRight : Stmt := top 12
abbrev sLaw : Stmt := top 13
/-- a pool at p: what is left of the cell, and a number -/
def PoolAt (H : Hp) (p : Addr) : Prop := ∃ c n : Int, H p = some (.lst [.int c, .int n]) ∧ 0 ≤ n ∧ n < 2147483647
def spTake : Sp := fun vs H Q _ => ∃ (p : Addr) (m : Int), vs = [.ref p, .int m] ∧ PoolAt H p ∧ 0 < m ∧ m < 1073741824 ∧
  ∀ (r : Int) (H' : Hp), 0 ≤ r → r < m → PoolAt H' p → (∀ b, b ≠ p → H' b = H b) → Q (.int r) H'
def spPool (K : PySem.W.Frag) : Sp := fun vs H Q _ => ∃ (a : Addr) (ns : List Int) (k : Nat), vs = [.ref a, .int (k : Int)] ∧ SqL K H a (ns.map V.int) ∧ ns.length ≤ 63 ∧ k ≤ 63 ∧
  ∀ (p : Addr) (H' : Hp), H p = none → PoolAt H' p → (∀ b, b ≠ p → H' b = H b) → Q (.ref p) H'
theorem nm_nat {x m : Int} (hm : 0 < m) : 0 ≤ x.fmod m ∧ x.fmod m < m := ⟨Int.fmod_nonneg_of_pos x hm, Int.fmod_lt_of_pos x hm⟩
section
variable {P : Program} {w : World} {K : PySem.W.Frag} {mg : Str → Option Value} {base : Heap}
theorem scTake : FnScope ["_law_pool_here", "_law_many", "_law_found"] ["_law_pool_here", "_law_many"] (defScope sTake) := ⟨rfl, rfl, rfl, by decide +kernel, rfl, by decide +kernel, by decide +kernel⟩
theorem ok_take {f : Addr} {fd : FuncData} (F : Fun K "_law_take" "_law_take" sTake f fd) : FnOk P w K mg base CX0 1 f fd ["_law_pool_here", "_law_many"] spTake := by
  refine F.ok scTake (fun vs H Q E h => ?_) (fun cdv A outer s H vs Q E hr h => ?_)
  · obtain ⟨p, m, rfl, _⟩ := h
    rfl
  · obtain ⟨p, m, rfl, ⟨c, n, hp, hn0, hn1⟩, hm0, hm1, k⟩ := h
    refine ⟨_, pss_cons (ps_if (pt_cmpR op_gt (pe_ix ix_list (pv 0) pe_int (fun _ _ => rfl)) pe_int (nomark _))
        (pss_cons (ps_set (i := 2) scTake.nd rfl (Or.inl rfl) (pe_op op_modN (pe_ix ix_list (pv 0) pe_int (fun _ _ => rfl)) (pv 1)))
        (pss_cons (ps_asg (pe_op op_fdivN (pe_ix ix_list (pv 0) pe_int (fun _ _ => rfl)) (pv 1)) (pg_sub (pv 0) pe_int set_list))
        (pss_one (ps_ret (pv 2))))) pss_nil)
      (pss_cons (ps_asg (pe_op op_modN (pe_op op_add (pe_op op_mul (pe_ix ix_list (pv 0) pe_int (fun _ _ => rfl)) pe_int) pe_int) pe_int) (pg_sub (pv 0) pe_int set_list))
      (pss_one (ps_ret (pe_op op_modN (pe_op op_fdivN (pe_op op_modN (pe_op op_mul (pe_ix ix_list (pv 0) pe_int (fun _ _ => rfl)) (pe_ix ix_list (pv 0) pe_int (fun _ _ => rfl))) pe_int) pe_int) (pv 1))))), ?_⟩
    refine ⟨_, rfl, p, _, _, _, rfl, rfl, SqL.of hp, atI_nat (j := 0) rfl, _, _, rfl, rfl, _, rfl, ?_⟩
    have M := nm_nat (x := c) hm0
    refine ite2 (fun _ => ?_) (fun _ => ?_)
    · refine ⟨_, rfl, p, _, _, _, rfl, rfl, SqL.of hp, atI_nat (j := 0) rfl, _, rfl, _, _, rfl, rfl, by omega, ?_⟩
      refine ⟨_, rfl, p, _, _, _, rfl, rfl, SqL.of hp, atI_nat (j := 0) rfl, _, rfl, _, _, rfl, rfl, ⟨by omega, by omega⟩, ?_⟩
      refine ⟨_, rfl, p, _, _, 0, rfl, rfl, hp, rfl, ?_⟩
      refine ⟨_, rfl, ?_⟩
      exact k _ _ M.1 M.2 ⟨_, _, upd_same, hn0, hn1⟩ fun b hb => upd_ne hb
    · have N0 := nm_nat (x := n * 48271 + 11) (m := 2147483647) (by decide)
      refine ⟨_, rfl, p, _, _, _, rfl, rfl, SqL.of hp, atI_nat (j := 1) rfl, _, _, rfl, rfl, .inl ⟨by omega, by omega⟩, _, _, rfl, rfl, _, _, rfl, rfl, (by show (2147483647 : Int) ≠ 0; decide), ?_⟩
      refine ⟨_, rfl, p, _, _, 1, rfl, rfl, hp, rfl, ?_⟩
      have N1 := nm_nat (x := (n * 48271 + 11).fmod 2147483647 * (n * 48271 + 11).fmod 2147483647) (m := 2147483629) (by decide)
      refine ⟨_, rfl, p, _, _, _, rfl, rfl, SqL.of upd_same, atI_nat (j := 1) rfl, _, rfl, p, _, _, _, rfl, rfl, SqL.of upd_same, atI_nat (j := 1) rfl, _, _, rfl, rfl, .inl ⟨by omega, by omega⟩, ?_⟩
      refine ⟨_, _, rfl, rfl, (by show (2147483629 : Int) ≠ 0; decide), _, _, rfl, rfl, ⟨by decide, by decide⟩, _, rfl, _, _, rfl, rfl, by omega, ?_⟩
      exact k _ _ (nm_nat hm0).1 (nm_nat hm0).2 ⟨_, _, upd_same, N0.1, N0.2⟩ fun b hb => upd_ne hb
theorem scPool : FnScope ["_law_script", "_law_k", "_law_cell", "_law_number"] ["_law_script", "_law_k"] (defScope sPool) := ⟨rfl, rfl, rfl, by decide +kernel, rfl, by decide +kernel, by decide +kernel⟩
theorem ok_pool {f : Addr} {fd : FuncData} (F : Fun K "_law_pool" "_law_pool" sPool f fd) (mLen : mg "len" = none) : FnOk P w K mg base CX0 1 f fd ["_law_script", "_law_k"] (spPool K) := by
  refine F.ok scPool (fun vs H Q E h => ?_) (fun cdv A outer s H vs Q E hr h => ?_)
  · obtain ⟨a, ns, j, rfl, _⟩ := h
    rfl
  · obtain ⟨a, ns, j, rfl, hS, hl, hj, k⟩ := h
    refine ⟨_, pss_cons (ps_set (i := 2) scPool.nd rfl (Or.inl rfl) pe_int)
      (pss_cons (ps_if (pt_cmpR op_lt (pv 1) (pe_callB call_len_seq (by rfl) mLen PySem.boot_len (pa_cons (pv 0) pa_nil)) (nomark _))
        (pss_one (ps_set (i := 2) scPool.nd rfl (Or.inl rfl) (pe_ix ix_list (pv 0) (pv 1) (fun _ _ => rfl)))) pss_nil)
      (pss_cons (ps_set (i := 3) scPool.nd rfl (Or.inl rfl) (pe_op op_modN (pe_op op_pow (pe_op op_add (pe_op op_add (pe_op op_modN (pv 2) pe_int) (pe_op op_mul (pe_op op_mul pe_int (pv 1)) (pv 1))) pe_int) pe_int) pe_int))
      (pss_cons (ps_if (pt_cmpR op_lt (pv 2) (pe_op op_pow pe_int pe_int) (nomark _))
        (pss_one (ps_set (i := 2) scPool.nd rfl (Or.inl rfl) pe_int)) pss_nil)
      (pss_one (ps_ret (pe_lst (pa_cons (pv 2) (pa_cons (pv 3) pa_nil)))))))), ?_⟩
    have B : ∀ c : Int, 0 ≤ (c.fmod 2147483629 + 104729 * (j : Int) * (j : Int) + 11) ∧ (c.fmod 2147483629 + 104729 * (j : Int) * (j : Int) + 11) < 2 ^ 33 := fun c => by
      have M := nm_nat (x := c) (m := 2147483629) (by decide)
      have hj2 : (j : Int) * (j : Int) ≤ 63 * 63 := Int.mul_le_mul (by omega) (by omega) (by omega) (by omega)
      have hj0 : 0 ≤ (j : Int) * (j : Int) := Int.mul_nonneg (by omega) (by omega)
      have e : 104729 * (j : Int) * (j : Int) = 104729 * ((j : Int) * (j : Int)) := Int.mul_assoc _ _ _
      omega
    refine ⟨_, rfl, _, rfl, a, _, rfl, .inl hS, _, _, rfl, rfl, _, rfl, ?_⟩
    refine ite2 (fun hlt => ?_) (fun _ => ?_)
    · have hj' : j < ns.length := by simpa using hlt
      refine ⟨_, rfl, _, rfl, a, _, _, _, rfl, rfl, hS, atI_nat (j := j) (v := .int ns[j]) (by simp [hj']), ?_⟩
      generalize ns[j] = c
      have N := nm_nat (x := (c.fmod 2147483629 + 104729 * (j : Int) * (j : Int) + 11) ^ 3) (m := 2147483647) (by decide)
      have Bc := B c
      refine ⟨_, rfl, _, _, rfl, rfl, (by show (2147483629 : Int) ≠ 0; decide), _, rfl, _, _, rfl, rfl, .inl ⟨by decide, by decide⟩, _, rfl, _, _, rfl, rfl, .inl ⟨by omega, by omega⟩, ?_⟩
      refine ⟨_, _, rfl, rfl, _, _, rfl, rfl, _, _, rfl, rfl, ⟨by decide, by decide, by omega⟩, _, _, rfl, rfl, (by show (2147483647 : Int) ≠ 0; decide), ?_⟩
      refine ⟨_, rfl, _, _, rfl, rfl, ⟨by decide, by decide, by decide⟩, _, _, rfl, rfl, _, rfl, ?_⟩
      refine ite2 (fun _ => ?_) (fun _ => ?_)
      · exact ⟨_, rfl, _, rfl, (by show 2 ≤ sizeLine; decide), fun p hp => k _ _ hp ⟨_, _, upd_same, N.1, N.2⟩ fun b hb => upd_ne hb⟩
      · exact ⟨_, rfl, _, rfl, (by show 2 ≤ sizeLine; decide), fun p hp => k _ _ hp ⟨_, _, upd_same, N.1, N.2⟩ fun b hb => upd_ne hb⟩
    · have N := nm_nat (x := ((0 : Int).fmod 2147483629 + 104729 * (j : Int) * (j : Int) + 11) ^ 3) (m := 2147483647) (by decide)
      have Bc := B 0
      refine ⟨_, rfl, _, _, rfl, rfl, (by show (2147483629 : Int) ≠ 0; decide), _, rfl, _, _, rfl, rfl, .inl ⟨by decide, by decide⟩, _, rfl, _, _, rfl, rfl, .inl ⟨by omega, by omega⟩, ?_⟩
      refine ⟨_, _, rfl, rfl, _, _, rfl, rfl, _, _, rfl, rfl, ⟨by decide, by decide, by omega⟩, _, _, rfl, rfl, (by show (2147483647 : Int) ≠ 0; decide), ?_⟩
      refine ⟨_, rfl, _, _, rfl, rfl, ⟨by decide, by decide, by decide⟩, _, _, rfl, rfl, _, rfl, ?_⟩
      refine ite2 (fun _ => ?_) (fun _ => ?_)
      · exact ⟨_, rfl, _, rfl, (by show 2 ≤ sizeLine; decide), fun p hp => k _ _ hp ⟨_, _, upd_same, N.1, N.2⟩ fun b hb => upd_ne hb⟩
      · exact ⟨_, rfl, _, rfl, (by show 2 ≤ sizeLine; decide), fun p hp => k _ _ hp ⟨_, _, upd_same, N.1, N.2⟩ fun b hb => upd_ne hb⟩
end
theorem at_any {α : Type} {xs : List α} {r : Int} (h0 : 0 ≤ r) (h1 : r < xs.length) : ∃ v, atI xs r = some v ∧ v ∈ xs := by
  obtain ⟨n, rfl⟩ : ∃ n : Nat, r = n := ⟨r.toNat, by omega⟩
  have hn : n < xs.length := by omega
  exact ⟨xs[n], atI_nat (by simp [hn]), by simp⟩
theorem PoolAt.upd {H : Hp} {p l : Addr} {o : HO} (h : PoolAt H p) (hl : H l = none) : PoolAt (upd H l o) p := by
  obtain ⟨c, n, e, h0, h1⟩ := h
  exact ⟨c, n, by rw [upd_ne (ne_of_none e hl)]; exact e, h0, h1⟩
theorem PoolAt.ne {H : Hp} {p l : Addr} (h : PoolAt H p) (hl : H l = none) : l ≠ p := by
  obtain ⟨c, n, e, h0, h1⟩ := h
  exact (ne_of_none e hl).symm
theorem kept_upd {H H1 : Hp} {p l : Addr} {o : HO} (k : ∀ b u, b ≠ p → H b = some u → H1 b = some u) (hl : H1 l = none) : ∀ b u, b ≠ p → H b = some u → (upd H1 l o) b = some u := fun b u hb e => by
  rw [upd_ne (ne_of_none (k b u hb e) hl)]
  exact k b u hb e
theorem kept_eq {H H1 H2 : Hp} {p : Addr} (k : ∀ b u, b ≠ p → H b = some u → H1 b = some u) (e2 : ∀ b, b ≠ p → H2 b = H1 b) : ∀ b u, b ≠ p → H b = some u → H2 b = some u := fun b u hb e => (e2 b hb).trans (k b u hb e)
theorem small40 {n : Nat} (h : n ≤ 1000) : n ≤ sizeLine := Nat.le_trans h (by decide)

/-! kinds -/
inductive Kd where
  | one
  | mark (m : Str)
  | two (b : Bool) (k l : Kd)
def word (b : Bool) : Str := if b then "to" else "both"
def KdAt (H : Hp) : Kd → V → Prop
  | .one, v => ∃ a, v = .ref a ∧ H a = some (.tup [.str "one"])
  | .mark m, v => ∃ a, v = .ref a ∧ H a = some (.tup [.str "mark", .str m])
  | .two b k l, v => ∃ a x y, v = .ref a ∧ H a = some (.tup [.str (word b), x, y]) ∧ KdAt H k x ∧ KdAt H l y
/-- a mark: one to six small letters -/
structure MkOk (m : Str) : Prop where
  lay : PySem.PyData.canLay0 (.str m) = true
  pos : 1 ≤ m.length
  short : m.length ≤ 6
  free : 32 ∉ m.cps.toList
  nobr : 40 ∉ m.cps.toList
/-- tuples that stood stand -/
def Tups (H H' : Hp) : Prop := ∀ b xs, H b = some (.tup xs) → H' b = some (.tup xs)
theorem Tups.trans {H H1 H2 : Hp} (a : Tups H H1) (b : Tups H1 H2) : Tups H H2 := fun c xs e => b c xs (a c xs e)
theorem KdAt.mono {H H' : Hp} (t : Tups H H') : ∀ (k : Kd) (v : V), KdAt H k v → KdAt H' k v
  | .one, _, ⟨a, e, h⟩ => ⟨a, e, t _ _ h⟩
  | .mark _, _, ⟨a, e, h⟩ => ⟨a, e, t _ _ h⟩
  | .two _ k l, _, ⟨a, x, y, e, h, hk, hl⟩ => ⟨a, x, y, e, t _ _ h, KdAt.mono t k x hk, KdAt.mono t l y hl⟩
namespace Kd
def leaves : Kd → Nat
  | one => 1
  | mark _ => 1
  | two _ k l => k.leaves + l.leaves
def deep : Kd → Nat
  | one => 0
  | mark _ => 0
  | two _ k l => max k.deep l.deep + 1
def subs : Kd → List Kd
  | one => []
  | mark _ => []
  | two _ k l => [k, l]
def data : Kd → PyData
  | one => .tuple [.str "one"]
  | mark m => .tuple [.str "mark", .str m]
  | two b k l => .tuple [.str (word b), k.data, l.data]
def Ok : Kd → Prop
  | one => True
  | mark m => MkOk m
  | two _ k l => k.Ok ∧ l.Ok
theorem leaves_pos : ∀ k : Kd, 0 < k.leaves
  | one => Nat.one_pos
  | mark _ => Nat.one_pos
  | two _ k l => Nat.add_pos_left (leaves_pos k) _
theorem deep_lt : ∀ k : Kd, k.deep < k.leaves
  | one => Nat.one_pos
  | mark _ => Nat.one_pos
  | two _ k l => by
    have h1 := deep_lt k
    have h2 := deep_lt l
    show max k.deep l.deep + 1 < k.leaves + l.leaves
    have := leaves_pos k
    have := leaves_pos l
    omega
end Kd
/-- side by side -/
def All2 {α : Type} (R : α → V → Prop) : List α → List V → Prop
  | [], [] => True
  | k :: ks, v :: vs => R k v ∧ All2 R ks vs
  | _, _ => False
section
variable {α : Type} {R S : α → V → Prop}
theorem All2.mono (f : ∀ k v, R k v → S k v) : ∀ {ks : List α} {vs : List V}, All2 R ks vs → All2 S ks vs
  | [], [], _ => trivial
  | _ :: _, _ :: _, ⟨h, t⟩ => ⟨f _ _ h, All2.mono f t⟩
  | [], _ :: _, h => h.elim
  | _ :: _, [], h => h.elim
theorem All2.app : ∀ {ks : List α} {vs : List V} {ls : List α} {us : List V}, All2 R ks vs → All2 R ls us → All2 R (ks ++ ls) (vs ++ us)
  | [], [], _, _, _, g => g
  | _ :: _, _ :: _, _, _, ⟨h, t⟩, g => ⟨h, All2.app t g⟩
  | [], _ :: _, _, _, h, _ => h.elim
  | _ :: _, [], _, _, h, _ => h.elim
theorem All2.len : ∀ {ks : List α} {vs : List V}, All2 R ks vs → ks.length = vs.length
  | [], [], _ => rfl
  | _ :: _, _ :: _, ⟨_, t⟩ => congrArg (· + 1) (All2.len t)
  | [], _ :: _, h => h.elim
  | _ :: _, [], h => h.elim
/-- the last one -/
theorem All2.last : ∀ {ks : List α} {vs : List V}, All2 R ks vs → vs ≠ [] → ∃ ls k v, ks = ls ++ [k] ∧ vs = vs.dropLast ++ [v] ∧ All2 R ls vs.dropLast ∧ R k v ∧ vs[vs.length - 1]? = some v
  | [], [], _, h => absurd rfl h
  | [k], [v], ⟨h, _⟩, _ => ⟨[], k, v, rfl, rfl, trivial, h, rfl⟩
  | k :: k2 :: ks, v :: v2 :: vs, ⟨h, t⟩, _ => by
    obtain ⟨ls, k', v', e1, e2, a, r, q⟩ := All2.last t (by simp)
    refine ⟨k :: ls, k', v', by rw [e1]; rfl, ?_, ⟨h, a⟩, r, ?_⟩
    · show v :: v2 :: vs = v :: ((v2 :: vs).dropLast ++ [v'])
      rw [← e2]
    · exact q
  | [], _ :: _, h, _ => h.elim
  | _ :: _, [], h, _ => h.elim
  | [_], _ :: _ :: _, h, _ => h.2.elim
  | _ :: _ :: _, [_], h, _ => h.2.elim
end
theorem tups_of {H H' : Hp} (s : Same H H') : Tups H H' := fun b _ e => s b _ e
theorem tups_lst {H : Hp} {T : Addr} {xs ys : List V} (h : H T = some (.lst xs)) : Tups H (upd H T (.lst ys)) := fun b zs e => by
  have n : b ≠ T := ne_of e h (by intro z; cases z)
  rw [upd_ne n]
  exact e
theorem same_new {H : Hp} {p : Addr} {o : HO} (h : H p = none) : Same H (upd H p o) := fun b u e => by
  rw [upd_ne (ne_of_none e h)]
  exact e
theorem same_over {H H3 : Hp} {T : Addr} {o : HO} (S : Same H H3) (h : H T = none) : Same H (upd H3 T o) := fun b u e => by
  rw [upd_ne (ne_of_none e h)]
  exact S b u e
theorem All2.get {α : Type} {R : α → V → Prop} : ∀ {ks : List α} {vs : List V} {i : Nat} {v : V}, All2 R ks vs → vs[i]? = some v → ∃ k, ks[i]? = some k ∧ R k v
  | [], [], _, _, _, e => by simp at e
  | k :: _, v :: _, 0, _, ⟨h, _⟩, e => ⟨k, rfl, by simp at e; exact e ▸ h⟩
  | _ :: _, _ :: _, i + 1, _, ⟨_, t⟩, e => All2.get (i := i) t e
  | [], _ :: _, _, _, h, _ => h.elim
  | _ :: _, [], _, _, h, _ => h.elim
def Kept (p : Addr) (H H' : Hp) : Prop := ∀ b o, b ≠ p → H b = some o → H' b = some o
theorem Kept.trans {p : Addr} {H H1 H2 : Hp} (a : Kept p H H1) (b : Kept p H1 H2) : Kept p H H2 := fun c o n e => b c o n (a c o n e)
theorem kept_same {p : Addr} {H H1 : Hp} (s : Same H H1) : Kept p H H1 := fun b o _ e => s b o e
theorem kept_take {p : Addr} {H H1 : Hp} (e : ∀ b, b ≠ p → H1 b = H b) : Kept p H H1 := fun b _ n h => (e b n).trans h
theorem tups_kept {p : Addr} {H H1 : Hp} (k : Kept p H H1) (hp : PoolAt H p) : Tups H H1 := fun b _ e => by
  obtain ⟨c, n, z, _⟩ := hp
  exact k b _ (ne_of e z (by intro q; cases q)) e
theorem pool_marks {H : Hp} {p M : Addr} {ms : List Str} (hp : PoolAt H p) (hM : H M = some (.lst (ms.map V.str))) : M ≠ p := fun z => by
  obtain ⟨c, n, e, _⟩ := hp
  rw [z, e] at hM
  cases ms with
  | nil => cases hM
  | cons a r => cases hM
theorem PoolAt.same {H H1 : Hp} {p : Addr} (hp : PoolAt H p) (s : Same H H1) : PoolAt H1 p := by
  obtain ⟨c, n, e, h⟩ := hp
  exact ⟨c, n, s _ _ e, h⟩
theorem data_depth : ∀ k : Kd, k.data.depth = k.deep + 1
  | .one => by simp only [Kd.data, Kd.deep, PyData.depth, PyData.depthAll] <;> rfl
  | .mark m => by simp only [Kd.data, Kd.deep, PyData.depth, PyData.depthAll] <;> rfl
  | .two b k l => by
    have h1 := data_depth k
    have h2 := data_depth l
    simp only [Kd.data, Kd.deep, PyData.depth, PyData.depthAll, h1, h2]
    omega
theorem data_ok : ∀ k : Kd, k.Ok → k.data.canLay0 = true
  | .one, _ => by decide +kernel
  | .mark m, h => by
    have h' : PyData.canLay0 (.str m) = true := h.lay
    have e : PyData.canLay0 (.str "mark") = true := by decide +kernel
    simp only [Kd.data, PyData.canLay0, PyData.canLayAll0] at h' e ⊢
    rw [h', e] <;> rfl
  | .two b k l, ⟨h1, h2⟩ => by
    have i1 := data_ok k h1
    have i2 := data_ok l h2
    have e : PyData.canLay0 (.str (word b)) = true := by cases b <;> decide +kernel
    simp only [PyData.canLay0] at e
    simp only [Kd.data, PyData.canLay0, PyData.canLayAll0, i1, i2, e]
    rfl
theorem kd_dp {K : PySem.W.Frag} {H : Hp} : ∀ (k : Kd) (v : V), KdAt H k v → Dp K H v k.data
  | .one, _, ⟨a, e, h⟩ => by
    subst e
    exact .tup (SqT.of h) (.cons (.str _) .nil)
  | .mark m, _, ⟨a, e, h⟩ => by
    subst e
    exact .tup (SqT.of h) (.cons (.str _) (.cons (.str _) .nil))
  | .two b k l, _, ⟨a, x, y, e, h, h1, h2⟩ => by
    subst e
    exact .tup (SqT.of h) (.cons (.str _) (.cons (kd_dp k x h1) (.cons (kd_dp l y h2) .nil)))
theorem ixt {X : Cx} {K : PySem.W.Frag} (e : X.K = K) : IxR X (rIxT K) := by
  rw [← e]
  exact ix_tup
theorem in_at {X : Cx} {K : PySem.W.Frag} (e : X.K = K) : OpR X (compareOp .In) (rIn K false) := by
  rw [← e]
  exact op_in_seq
/-- a world at u: its marks, and the number of the one below it -/
def WdAt (H : Hp) (w : List Str × Int) (u : V) : Prop := ∃ a m, u = .ref a ∧ H a = some (.tup [.ref m, .int w.2]) ∧ H m = some (.lst (w.1.map V.str))
theorem WdAt.same {H H' : Hp} (s : Same H H') : ∀ w u, WdAt H w u → WdAt H' w u := fun _ _ ⟨a, m, e, h1, h2⟩ => ⟨a, m, e, s _ _ h1, s _ _ h2⟩
def WsAt (H : Hp) (W : Addr) (ws : List (List Str × Int)) : Prop := ∃ us, H W = some (.lst us) ∧ All2 (WdAt H) ws us
theorem WsAt.same {H H' : Hp} {W : Addr} {ws : List (List Str × Int)} (s : Same H H') (h : WsAt H W ws) : WsAt H' W ws := by
  obtain ⟨us, e, a⟩ := h
  exact ⟨us, s _ _ e, a.mono (WdAt.same s)⟩
/-- from the world number n down to 1: what is not so makes what is below it not so -/
def sunk (ws : List (List Str × Int)) : Nat → List Bool → List Bool
  | 0, bs => bs
  | n + 1, bs => sunk ws n (if bs.getD (n + 1) true then bs else bs.set ((ws.getD (n + 1) ([], 0)).2.toNat) false)
theorem sunk_succ (ws : List (List Str × Int)) (n : Nat) (bs : List Bool) : sunk ws (n + 1) bs = sunk ws n (if bs.getD (n + 1) true then bs else bs.set ((ws.getD (n + 1) ([], 0)).2.toNat) false) := rfl
/-- where a kind holds, world by world -/
def whB (ws : List (List Str × Int)) : Kd → List Bool
  | .one => ws.map fun _ => true
  | .mark m => ws.map fun w => decide (m ∈ w.1)
  | .two b k l => if b then sunk ws (ws.length - 1) (List.zipWith (fun h t => t || !h) (whB ws k) (whB ws l)) else List.zipWith (fun h t => h && t) (whB ws k) (whB ws l)
theorem sunk_len (ws : List (List Str × Int)) : ∀ n bs, (sunk ws n bs).length = bs.length
  | 0, _ => rfl
  | n + 1, bs => by
    unfold sunk
    rw [sunk_len ws n]
    split <;> simp
theorem whB_len (ws : List (List Str × Int)) : ∀ k, (whB ws k).length = ws.length
  | .one => by simp [whB]
  | .mark m => by simp [whB]
  | .two b k l => by
    have h1 := whB_len ws k
    have h2 := whB_len ws l
    cases b <;> simp [whB, sunk_len, h1, h2]
def bls (bs : List Bool) : List V := bs.map V.bl
/-- each world but the first stands behind the one below it -/
def Behind (ws : List (List Str × Int)) : Prop := ∀ (i : Nat) (w : List Str × Int), ws[i + 1]? = some w → 0 ≤ w.2 ∧ w.2 ≤ (i : Int)
def spWhere (n : Nat) : Sp := fun vs H Q _ => ∃ (W : Addr) (v : V) (k : Kd) (ws : List (List Str × Int)), vs = [.ref W, v] ∧ KdAt H k v ∧ k.deep < n ∧ WsAt H W ws ∧ 1 ≤ ws.length ∧ ws.length ≤ 900 ∧ Behind ws ∧
  ∀ (l : Addr) (H' : Hp), H l = none → Same H H' → H' l = some (.lst (bls (whB ws k))) → Q (.ref l) H'
theorem bls_at {b : List Bool} {i : Nat} {x : V} (h : (bls b)[i]? = some x) : ∃ c, x = .bl c ∧ b[i]? = some c := by
  unfold bls at h
  rw [List.getElem?_map] at h
  obtain ⟨c, e, r⟩ := Option.map_eq_some_iff.mp h
  exact ⟨c, r.symm, e⟩
theorem zip_step {f : Bool → Bool → Bool} {b1 b2 : List Bool} {i : Nat} {c1 c2 : Bool} (h1 : b1[i]? = some c1) (h2 : b2[i]? = some c2) : bls ((List.zipWith f b1 b2).take (i + 1)) = bls ((List.zipWith f b1 b2).take i) ++ [.bl (f c1 c2)] := by
  have e : (List.zipWith f b1 b2)[i]? = some (f c1 c2) := by
    rw [List.getElem?_zipWith, h1, h2]
  unfold bls
  rw [List.take_add_one, e, List.map_append]
  rfl
theorem inV_marks (m : Str) : ∀ ms : List Str, inV (.str m) (ms.map V.str) = decide (m ∈ ms)
  | [] => rfl
  | x :: ms => by
    have h := inV_marks m ms
    unfold inV at h ⊢
    rw [List.map_cons, List.any_cons, h]
    show ((x == m) || decide (m ∈ ms)) = decide (m ∈ x :: ms)
    by_cases hx : x = m
    · subst hx
      simp
    · have hx' : ¬ m = x := fun z => hx z.symm
      simp [hx, hx']
theorem all_flat : ∀ ms : List Str, (ms.map V.str).all flatV = true
  | [] => rfl
  | _ :: ms => by
    rw [List.map_cons, List.all_cons, all_flat ms]
    rfl
theorem small1000 {n : Nat} (h : n < 1000) : n < sizeLine := Nat.lt_of_lt_of_le h (by decide)
section
variable {P : Program} {w : World} {K : PySem.W.Frag} {mg : Str → Option Value} {base : Heap}
theorem scWhere : FnScope ["worlds", "kind", "one", "other", "told", "number", "marks", "below", "world", "here", "there"] ["worlds", "kind"] (defScope sWhere) := ⟨rfl, rfl, rfl, by decide +kernel, rfl, by decide +kernel, by decide +kernel⟩
theorem ok_where {f : Addr} {fd : FuncData} (F : Fun K "where_holds" "where_holds" sWhere f fd) (bF : Binds K fd ["worlds", "kind"] []) (gF : mg "where_holds" = some (.ref f)) (mLen : mg "len" = none) (mRange : mg "range" = none) (mZip : mg "zip" = none) :
    ∀ n : Nat, FnOk P w K mg base CX0 (n + 1) f fd ["worlds", "kind"] (spWhere n) := by
  intro n
  induction n with
  | zero =>
    refine F.ok scWhere (fun vs H Q E h => ?_) (fun cdv A outer s H vs Q E hr h => ?_)
    · obtain ⟨W, v, k, ws, rfl, _⟩ := h
      rfl
    · obtain ⟨W, v, k, ws, _, _, h0, _⟩ := h
      omega
  | succ n GW =>
    refine F.ok scWhere (fun vs H Q E h => ?_) (fun cdv A outer s H vs Q E hr h => ?_)
    · obtain ⟨W, v, k, ws, rfl, _⟩ := h
      rfl
    · obtain ⟨W, v, kd, ws, rfl, hk, hd, hW, w1, w2, hb, k⟩ := h
      refine ⟨_, pss_cons (ps_if (pt_cmpR op_eq (pe_ix ix_tup (pv 1) pe_int (fun _ _ => rfl)) pe_str (nomark _))
          (pss_one (ps_ret (pe_lc (own := [("marks", 6), ("below", 7)]) (g := gTup K 2 (gCons (gName 6) (gCons (gName 7) gNil))) (tt := tYes) (by rfl) scWhere.nd (pi_list (pv 0)) (blkOk_by (N := ["worlds", "kind", "one", "other", "told", "number", "marks", "below", "world", "here", "there"]) (sc := defScope sWhere) (by decide +kernel))
            (fun _ _ _ _ _ => pg_tup (by rfl) (pgs_cons (pg_name (i := 6) scWhere.nd rfl (Or.inl rfl)) (pgs_cons (pg_name (i := 7) scWhere.nd rfl (Or.inl rfl)) pgs_nil))) (fun _ _ _ _ _ => pts_nil)
            (fun _ _ _ _ _ => pe_cmpR (in_at (K := K) rfl) (pe_ix (ixt (K := K) rfl) (pv 1) pe_int (fun _ _ => rfl)) (pv 6) (by rfl))))) pss_nil)
        (pss_cons (ps_if (pt_cmpR op_eq (pe_ix ix_tup (pv 1) pe_int (fun _ _ => rfl)) pe_str (nomark _))
          (pss_one (ps_ret (pe_lc (own := [("world", 8)]) (g := gName 8) (tt := tYes) (by rfl) scWhere.nd (pi_list (pv 0)) (blkOk_by (N := ["worlds", "kind", "one", "other", "told", "number", "marks", "below", "world", "here", "there"]) (sc := defScope sWhere) (by decide +kernel))
            (fun _ _ _ _ _ => pg_name (i := 8) scWhere.nd rfl (Or.inl rfl)) (fun _ _ _ _ _ => pts_nil) (fun _ _ _ _ _ => pe_bl)))) pss_nil)
        (pss_cons (ps_set (i := 2) scWhere.nd rfl (Or.inl rfl) (pe_call GW hr (by rfl) gF F.kp bF .nil pass0 (pa_cons (pv 0) (pa_cons (pe_ix ix_tup (pv 1) pe_int (fun _ _ => rfl)) pa_nil))))
        (pss_cons (ps_set (i := 3) scWhere.nd rfl (Or.inl rfl) (pe_call GW hr (by rfl) gF F.kp bF .nil pass0 (pa_cons (pv 0) (pa_cons (pe_ix ix_tup (pv 1) pe_int (fun _ _ => rfl)) pa_nil))))
        (pss_cons (ps_if (pt_cmpR op_eq (pe_ix ix_tup (pv 1) pe_int (fun _ _ => rfl)) pe_str (nomark _))
          (pss_one (ps_ret (pe_lc (own := [("here", 9), ("there", 10)]) (g := gTup K 2 (gCons (gName 9) (gCons (gName 10) gNil))) (tt := tYes) (by rfl) scWhere.nd (pi_zip (by rfl) mZip (pa_cons (pv 2) (pa_cons (pv 3) pa_nil))) (blkOk_by (N := ["worlds", "kind", "one", "other", "told", "number", "marks", "below", "world", "here", "there"]) (sc := defScope sWhere) (by decide +kernel))
            (fun _ _ _ _ _ => pg_tup (by rfl) (pgs_cons (pg_name (i := 9) scWhere.nd rfl (Or.inl rfl)) (pgs_cons (pg_name (i := 10) scWhere.nd rfl (Or.inl rfl)) pgs_nil))) (fun _ _ _ _ _ => pts_nil)
            (fun _ _ _ _ _ => pe_and (pv 9) (pe_one (pv 10)))))) pss_nil)
        (pss_cons (ps_setLc (i := 4) (own := [("here", 9), ("there", 10)]) (g := gTup K 2 (gCons (gName 9) (gCons (gName 10) gNil))) (tt := tYes) (by rfl) scWhere.nd rfl rfl (sw_true rfl rfl rfl (by decide +kernel)) (pi_zip (by rfl) mZip (pa_cons (pv 2) (pa_cons (pv 3) pa_nil))) (blkOk_by (N := ["worlds", "kind", "one", "other", "told", "number", "marks", "below", "world", "here", "there"]) (sc := defScope sWhere) (by decide +kernel))
            (fun _ _ _ _ _ => pg_tup (by rfl) (pgs_cons (pg_name (i := 9) scWhere.nd rfl (Or.inl rfl)) (pgs_cons (pg_name (i := 10) scWhere.nd rfl (Or.inl rfl)) pgs_nil))) (fun _ _ _ _ _ => pts_nil)
            (fun _ _ _ _ _ => pe_or (pv 10) (pe_one (pe_not (pv 9)))))
        (pss_cons (ps_for PassesOwn.never rfl (pi_range3 (by rfl) mRange (pa_cons (pe_op op_sub (pe_callB call_len_seq (by rfl) mLen PySem.boot_len (pa_cons (pv 0) pa_nil)) pe_int) (pa_cons pe_int (pa_cons (pe_un un_neg pe_int) pa_nil)))) (pg_name (i := 5) scWhere.nd rfl (Or.inl rfl))
          (pss_one (ps_if (pt_not (pt_val (pe_ix ix_list (pv 4) (pv 5) (fun _ _ => rfl)))) (pss_one (ps_asg pe_bl (pg_sub (pv 4) (pe_ix ix_tup (pe_ix ix_list (pv 0) (pv 5) (fun _ _ => rfl)) pe_int (fun _ _ => rfl)) set_list))) pss_nil))) (pss_one (ps_ret (pv 4))))))))), ?_⟩
      cases kd with
      | one =>
        obtain ⟨a, rfl, ha⟩ := hk
        refine ⟨_, rfl, a, _, _, _, rfl, rfl, SqT.of ha, atI_nat (j := 0) rfl, rfl, _, rfl, ?_⟩
        refine ite2 (fun z => by cases z) (fun _ => ?_)
        refine ⟨_, rfl, a, _, _, _, rfl, rfl, SqT.of ha, atI_nat (j := 0) rfl, rfl, _, rfl, ?_⟩
        refine ite2 (fun _ => ?_) (fun z => absurd (by decide +kernel) z)
        obtain ⟨us, hU, hA⟩ := hW
        refine ⟨_, rfl, W, rfl, ⟨_, SqL.of hU⟩, fun D hD => lc_list (K := K) (a := W) (xs := us) (fun i H' => H' D = some (.lst (bls (List.replicate i true))) ∧ Same H H') ⟨upd_same, same_new hD⟩ (fun i H' _ q => SqL.of (q.2 _ _ hU)) ?_ ?_⟩
        · rintro i y H' hy ⟨q1, q2⟩
          refine ⟨rfl, ?_⟩
          unfold tYes
          dsimp only
          rw [if_pos rfl]
          refine ⟨_, q1, small1000 (by unfold bls; rw [List.length_map, List.length_replicate]; have := hA.len; have := (List.getElem?_eq_some_iff.mp hy).1; omega), ?_, fun b o e => (upd_ne (ne_of_none e hD)).trans (q2 b o e)⟩
          rw [upd_same, List.replicate_succ']
          unfold bls
          rw [List.map_append] <;> rfl
        · rintro H' ⟨q1, q2⟩
          refine k D H' hD q2 ?_
          rw [q1]
          have e : whB ws Kd.one = List.replicate us.length true := by
            rw [← hA.len]
            simp [whB, List.map_const']
          rw [e]
      | mark m =>
        obtain ⟨a, rfl, ha⟩ := hk
        refine ⟨_, rfl, a, _, _, _, rfl, rfl, SqT.of ha, atI_nat (j := 0) rfl, rfl, _, rfl, ?_⟩
        refine ite2 (fun _ => ?_) (fun z => absurd (by decide +kernel) z)
        obtain ⟨us, hU, hA⟩ := hW
        refine ⟨_, rfl, W, rfl, ⟨_, SqL.of hU⟩, fun D hD => lc_list (K := K) (a := W) (xs := us) (fun i H' => H' D = some (.lst (bls ((ws.take i).map fun w => decide (m ∈ w.1)))) ∧ Same H H') ⟨upd_same, same_new hD⟩ (fun i H' _ q => SqL.of (q.2 _ _ hU)) ?_ ?_⟩
        · rintro i y H' hy ⟨q1, q2⟩
          obtain ⟨⟨ms, bl⟩, hw, t, mm, rfl, ht, hm⟩ := (hA.mono (WdAt.same q2)).get hy
          refine ⟨t, _, rfl, SqT.of ht, rfl, _, _, rfl, _, _, rfl, rfl, rfl, ?_⟩
          unfold tYes
          dsimp only
          rw [if_pos rfl]
          refine ⟨_, rfl, a, _, _, _, rfl, rfl, SqT.of (q2 _ _ ha), atI_nat (j := 1) rfl, _, rfl, mm, _, rfl, .inl (SqL.of hm), rfl, all_flat ms, _, q1, small1000 ?_, ?_, fun b o e => (upd_ne (ne_of_none e hD)).trans (q2 b o e)⟩
          · unfold bls
            rw [List.length_map, List.length_map, List.length_take]
            omega
          · rw [upd_same, List.take_add_one, hw, inV_marks]
            unfold bls
            rw [List.map_append, List.map_append] <;> rfl
        · rintro H' ⟨q1, q2⟩
          refine k D H' hD q2 ?_
          rw [q1, ← hA.len, List.take_length] <;> rfl
      | two b k1 k2 =>
        obtain ⟨a, x1, x2, rfl, ha, h1, h2⟩ := hk
        have hd' : max k1.deep k2.deep + 1 < n + 1 := hd
        have no : ∀ z : Str, z = "mark" ∨ z = "one" → ¬ decide (V.str (word b) = V.str z) = true := fun z hz e => by
          have e := of_decide_eq_true e
          rcases hz with rfl | rfl <;> cases b <;> exact absurd e (by decide +kernel)
        refine ⟨_, rfl, a, _, _, _, rfl, rfl, SqT.of ha, atI_nat (j := 0) rfl, rfl, _, rfl, ?_⟩
        refine ite2 (fun z => absurd z (no _ (.inl rfl))) (fun _ => ?_)
        refine ⟨_, rfl, a, _, _, _, rfl, rfl, SqT.of ha, atI_nat (j := 0) rfl, rfl, _, rfl, ?_⟩
        refine ite2 (fun z => absurd z (no _ (.inr rfl))) (fun _ => ?_)
        refine ⟨_, rfl, _, rfl, a, _, _, _, rfl, rfl, SqT.of ha, atI_nat (j := 1) rfl, W, x1, k1, ws, rfl, h1, by omega, hW, w1, w2, hb, fun l1 H1 n1 s1 e1 => ?_⟩
        refine ⟨_, rfl, _, rfl, a, _, _, _, rfl, rfl, SqT.of (s1 _ _ ha), atI_nat (j := 2) rfl, W, x2, k2, ws, rfl, KdAt.mono (tups_of s1) _ _ h2, by omega, hW.same s1, w1, w2, hb, fun l2 H2 n2 s2 e2 => ?_⟩
        have s12 := Same.trans s1 s2
        have f1 := s2 _ _ e1
        have L1 := whB_len ws k1
        have L2 := whB_len ws k2
        have lz : min (bls (whB ws k1)).length (bls (whB ws k2)).length = ws.length := by
          unfold bls
          rw [List.length_map, List.length_map, L1, L2]
          omega
        refine ⟨_, rfl, a, _, _, _, rfl, rfl, SqT.of (s12 _ _ ha), atI_nat (j := 0) rfl, rfl, _, rfl, ?_⟩
        cases b with
        | false =>
          refine ite2 (fun _ => ?_) (fun z => absurd (by show decide (V.str "both" = V.str "both") = true; decide +kernel) z)
          refine ⟨_, rfl, _, rfl, l1, l2, _, _, rfl, SqL.of f1, SqL.of e2, fun D hD => lc_it (walk_zip (K := K) (xs := bls (whB ws k1)) (ys := bls (whB ws k2)) lz.symm) (fun i H' => H' D = some (.lst (bls ((List.zipWith (fun h t => h && t) (whB ws k1) (whB ws k2)).take i))) ∧ Same H2 H') ⟨upd_same, same_new hD⟩ (fun i H' _ q => ⟨SqL.of (q.2 _ _ f1), SqL.of (q.2 _ _ e2)⟩) ?_ ?_⟩
          · rintro i x H3 H4 hi ⟨q1, q2⟩ ⟨T, xh, xt, rfl, hT, rfl, g1, g2⟩
            obtain ⟨c1, rfl, p1⟩ := bls_at g1
            obtain ⟨c2, rfl, p2⟩ := bls_at g2
            have sT := same_new (o := .tup [V.bl c1, V.bl c2]) hT
            refine ⟨T, _, rfl, SqT.of upd_same, rfl, _, _, rfl, _, _, rfl, rfl, rfl, ?_⟩
            unfold tYes
            dsimp only
            rw [if_pos rfl]
            have fin : ∀ y : V, y = .bl (c1 && c2) → ∃ acc, (upd H3 T (.tup [V.bl c1, V.bl c2])) D = some (.lst acc) ∧ acc.length < sizeLine ∧ (upd (upd H3 T (.tup [V.bl c1, V.bl c2])) D (.lst (acc ++ [y]))) D = some (.lst (bls ((List.zipWith (fun h t => h && t) (whB ws k1) (whB ws k2)).take (i + 1)))) ∧ Same H2 (upd (upd H3 T (.tup [V.bl c1, V.bl c2])) D (.lst (acc ++ [y]))) := fun y hy => by
              subst hy
              refine ⟨_, sT _ _ q1, small1000 ?_, ?_, fun b o e => (upd_ne (ne_of_none e hD)).trans (sT _ _ (q2 b o e))⟩
              · unfold bls
                rw [List.length_map, List.length_take]
                omega
              · rw [upd_same, zip_step (f := fun h t => h && t) p1 p2]
            refine ⟨_, rfl, c1, rfl, ?_⟩
            cases c1 with
            | false => exact fin _ rfl
            | true => exact ⟨_, rfl, fin _ (by cases c2 <;> rfl)⟩
          · rintro H' ⟨q1, q2⟩
            refine k D H' ?_ (Same.trans s12 q2) ?_
            · exact s12.free hD
            · rw [q1]
              have e : (List.zipWith (fun h t => h && t) (whB ws k1) (whB ws k2)).length ≤ ws.length := by
                rw [List.length_zipWith]
                omega
              rw [List.take_of_length_le e] <;> rfl
        | true =>
          refine ite2 (fun z => absurd z (by show ¬ decide (V.str "to" = V.str "both") = true; decide +kernel)) (fun _ => ?_)
          refine ⟨_, rfl, _, rfl, l1, l2, _, _, rfl, SqL.of f1, SqL.of e2, fun D hD => lc_it (walk_zip (K := K) (xs := bls (whB ws k1)) (ys := bls (whB ws k2)) lz.symm) (fun i H' => H' D = some (.lst (bls ((List.zipWith (fun h t => t || !h) (whB ws k1) (whB ws k2)).take i))) ∧ Same H2 H') ⟨upd_same, same_new hD⟩ (fun i H' _ q => ⟨SqL.of (q.2 _ _ f1), SqL.of (q.2 _ _ e2)⟩) ?_ ?_⟩
          · rintro i x H3 H4 hi ⟨q1, q2⟩ ⟨T, xh, xt, rfl, hT, rfl, g1, g2⟩
            obtain ⟨c1, rfl, p1⟩ := bls_at g1
            obtain ⟨c2, rfl, p2⟩ := bls_at g2
            have sT := same_new (o := .tup [V.bl c1, V.bl c2]) hT
            refine ⟨T, _, rfl, SqT.of upd_same, rfl, _, _, rfl, _, _, rfl, rfl, rfl, ?_⟩
            unfold tYes
            dsimp only
            rw [if_pos rfl]
            have fin : ∀ y : V, y = .bl (c2 || !c1) → ∃ acc, (upd H3 T (.tup [V.bl c1, V.bl c2])) D = some (.lst acc) ∧ acc.length < sizeLine ∧ (upd (upd H3 T (.tup [V.bl c1, V.bl c2])) D (.lst (acc ++ [y]))) D = some (.lst (bls ((List.zipWith (fun h t => t || !h) (whB ws k1) (whB ws k2)).take (i + 1)))) ∧ Same H2 (upd (upd H3 T (.tup [V.bl c1, V.bl c2])) D (.lst (acc ++ [y]))) := fun y hy => by
              subst hy
              refine ⟨_, sT _ _ q1, small1000 ?_, ?_, fun b o e => (upd_ne (ne_of_none e hD)).trans (sT _ _ (q2 b o e))⟩
              · unfold bls
                rw [List.length_map, List.length_take]
                omega
              · rw [upd_same, zip_step (f := fun h t => t || !h) p1 p2]
            refine ⟨_, rfl, c2, rfl, ?_⟩
            cases c2 with
            | true => exact fin _ rfl
            | false => exact ⟨_, rfl, c1, rfl, fin _ rfl⟩
          · rintro H3 ⟨q1, q2⟩
            have e0 : (List.zipWith (fun h t => t || !h) (whB ws k1) (whB ws k2)).length = ws.length := by
              rw [List.length_zipWith]
              omega
            rw [← e0, List.take_length] at q1
            obtain ⟨us, hU, hA⟩ := hW
            have s03 := Same.trans s12 q2
            have lu : us.length = ws.length := hA.len.symm
            refine ⟨_, rfl, W, _, rfl, .inl (SqL.of (s03 _ _ hU)), _, _, rfl, rfl, _, rfl, ?_⟩
            refine ⟨_, _, _, _, rfl, RgC.neg (by omega) (by omega) (by omega) (by omega), for_rangeC (n := ((us.length : Int) - 1 - 0).toNat) (fun j σ H' => ∃ (i5 : Option V) (bs : List Bool), σ = [some (.ref W), some (.ref a), some (.ref l1), some (.ref l2), some (.ref D), i5, none, none, none, none, none] ∧ H' D = some (.lst (bls bs)) ∧ bs.length = ws.length ∧ sunk ws (ws.length - 1 - j) bs = sunk ws (ws.length - 1) (List.zipWith (fun h t => t || !h) (whB ws k1) (whB ws k2)) ∧ Same H2 H')
              ⟨none, _, rfl, q1, e0, rfl, q2⟩ ?_ ?_⟩
            · rintro j σ H4 hj ⟨i5, bs, rfl, r1, r2, r3, r4⟩
              obtain ⟨m, hm⟩ : ∃ m, ws.length - 1 - j = m + 1 := ⟨ws.length - 1 - j - 1, by omega⟩
              have en : ((us.length : Int) - 1 + (j : Int) * -1) = ((m + 1 : Nat) : Int) := by omega
              have em : ws.length - 1 - (j + 1) = m := by omega
              rw [en, em]
              rw [hm] at r3
              have hw : ws[m + 1]? = some (ws[m + 1]'(by omega)) := List.getElem?_eq_getElem (by omega)
              have hc : bs[m + 1]? = some (bs[m + 1]'(by omega)) := List.getElem?_eq_getElem (by omega)
              generalize ws[m + 1]'(by omega) = wd at hw
              generalize bs[m + 1]'(by omega) = c at hc
              have hcv : (bls bs)[m + 1]? = some (.bl c) := by
                unfold bls
                rw [List.getElem?_map, hc] <;> rfl
              refine ⟨_, rfl, _, rfl, D, _, _, _, rfl, rfl, SqL.of r1, atI_nat (j := m + 1) hcv, c, rfl, ?_⟩
              have gc : bs.getD (m + 1) true = c := by
                rw [List.getD_eq_getElem?_getD, hc] <;> rfl
              rw [sunk_succ] at r3
              rw [gc] at r3
              cases c with
              | true => exact ⟨_, bs, rfl, r1, r2, by rw [if_pos rfl] at r3; exact r3, r4⟩
              | false =>
                rw [if_neg Bool.false_ne_true] at r3
                have gw : ws.getD (m + 1) ([], 0) = wd := by
                  rw [List.getD_eq_getElem?_getD, hw] <;> rfl
                rw [gw] at r3
                obtain ⟨b0, b1⟩ := hb m wd hw
                have hu0 : us[m + 1]? = some (us[m + 1]'(by omega)) := List.getElem?_eq_getElem (by omega)
                obtain ⟨w', hw', t, mm, eu, ht, _⟩ := (hA.mono (WdAt.same (Same.trans s12 r4))).get hu0
                rw [hw] at hw'
                cases hw'
                have hu : us[m + 1]? = some (.ref t) := hu0.trans (congrArg some eu)
                have jx : ixN (bls bs).length wd.2 = some wd.2.toNat := by
                  have z : (bls bs).length = ws.length := by
                    unfold bls
                    rw [List.length_map, r2]
                  unfold ixN
                  rw [z]
                  split <;> simp <;> omega
                refine ⟨_, rfl, _, rfl, _, rfl, W, _, _, _, rfl, rfl, SqL.of (Same.trans s12 r4 _ _ hU), atI_nat (j := m + 1) hu, t, _, _, _, rfl, rfl, SqT.of ht, atI_nat (j := 1) rfl, D, _, _, _, rfl, rfl, r1, jx, ?_⟩
                refine ⟨_, bs.set wd.2.toNat false, rfl, ?_, by rw [List.length_set]; exact r2, r3, fun b o e => (upd_ne (ne_of_none e hD)).trans (r4 b o e)⟩
                rw [upd_same]
                unfold bls
                rw [List.map_set]
            · rintro σ H4 ⟨i5, bs, rfl, r1, r2, r3, r4⟩
              refine ⟨_, rfl, k D H4 (s12.free hD) (Same.trans s12 r4) ?_⟩
              rw [r1]
              have e : ws.length - 1 - ((us.length : Int) - 1 - 0).toNat = 0 := by omega
              rw [e] at r3
              have e2 : bs = whB ws (.two true k1 k2) := r3.trans rfl
              rw [e2]
end
/-! trees -/
mutual
inductive Tr where
  | mk (ms : List Str) (f : Fo)
inductive Fo where
  | nil
  | cons (t : Tr) (f : Fo)
end
def Tr.ms : Tr → List Str
  | .mk ms _ => ms
def Tr.kids : Tr → Fo
  | .mk _ f => f
def Fo.list : Fo → List Tr
  | .nil => []
  | .cons t f => t :: f.list
mutual
def Tr.all : Tr → List Tr
  | .mk ms f => .mk ms f :: f.all
def Fo.all : Fo → List Tr
  | .nil => []
  | .cons t f => t.all ++ f.all
end
mutual
def Tr.size : Tr → Nat
  | .mk _ f => f.size + 1
def Fo.size : Fo → Nat
  | .nil => 0
  | .cons t f => t.size + f.size
end
theorem Fo.mem_all : ∀ (f : Fo) (u : Tr), u ∈ f.all ↔ ∃ t ∈ f.list, u ∈ t.all
  | .nil, u => by simp [Fo.all, Fo.list]
  | .cons t f, u => by
    have h := Fo.mem_all f u
    simp [Fo.all, Fo.list, h]
/-- where a kind holds, by the worlds above -/
def frc : Kd → Tr → Bool
  | .one, _ => true
  | .mark m, t => decide (m ∈ t.ms)
  | .two b k l, t => if b then t.all.all fun u => frc l u || !frc k u else frc k t && frc l t
/-! what sunk tells -/
abbrev Wd := List Str × Int
def par (ws : List Wd) (j : Nat) : Nat := (ws.getD j ([], 0)).2.toNat
theorem sunk_high (ws : List Wd) : ∀ (N : Nat) (bs : List Bool) (i : Nat), (∀ j, 1 ≤ j → j ≤ N → par ws j < j) → N ≤ i → (sunk ws N bs)[i]? = bs[i]?
  | 0, _, _, _, _ => rfl
  | N + 1, bs, i, hp, hi => by
    rw [sunk_succ, sunk_high ws N _ i (fun j h1 h2 => hp j h1 (by omega)) (by omega)]
    have q := hp (N + 1) (by omega) (Nat.le_refl _)
    unfold par at q
    split
    · rfl
    · rw [List.getElem?_set_ne (by omega)]
/-- at i stands what stood there, and what all have that have i below them -/
theorem sunk_at (ws : List Wd) : ∀ (N : Nat) (bs : List Bool) (i : Nat), N < bs.length → i < bs.length → (∀ j, 1 ≤ j → j ≤ N → par ws j < j) →
    ((sunk ws N bs)[i]? = some true ↔ bs[i]? = some true ∧ ∀ j, 1 ≤ j → j ≤ N → par ws j = i → (sunk ws N bs)[j]? = some true)
  | 0, bs, i, _, _, _ => ⟨fun h => ⟨h, fun j h1 h2 _ => by omega⟩, fun h => h.1⟩
  | N + 1, bs, i, hN, hi, hp => by
    have hp' : ∀ j, 1 ≤ j → j ≤ N → par ws j < j := fun j h1 h2 => hp j h1 (by omega)
    have q := hp (N + 1) (by omega) (Nat.le_refl _)
    rw [sunk_succ]
    obtain ⟨c, hc⟩ : ∃ c, bs[N + 1]? = some c := ⟨_, List.getElem?_eq_getElem hN⟩
    have gc : bs.getD (N + 1) true = c := by
      rw [List.getD_eq_getElem?_getD, hc] <;> rfl
    rw [gc]
    cases c with
    | true =>
      rw [if_pos rfl, sunk_at ws N bs i (by omega) hi hp']
      have top := sunk_high ws N bs (N + 1) hp' (by omega)
      refine ⟨fun h => ⟨h.1, fun j h1 h2 e => ?_⟩, fun h => ⟨h.1, fun j h1 h2 e => h.2 j h1 (by omega) e⟩⟩
      rcases Nat.lt_or_ge N j with z | z
      · obtain rfl : j = N + 1 := by omega
        exact top.trans hc
      · exact h.2 j h1 z e
    | false =>
      rw [if_neg Bool.false_ne_true]
      have e0 : (ws.getD (N + 1) ([], 0)).2.toNat = par ws (N + 1) := rfl
      rw [e0]
      have top := sunk_high ws N (bs.set (par ws (N + 1)) false) (N + 1) hp' (by omega)
      rw [List.getElem?_set_ne (by omega), hc] at top
      rw [sunk_at ws N _ i (by rw [List.length_set]; omega) (by rw [List.length_set]; omega) hp']
      refine ⟨fun h => ⟨?_, fun j h1 h2 e => ?_⟩, fun h => ⟨?_, fun j h1 h2 e => h.2 j h1 (by omega) e⟩⟩
      · by_cases z : par ws (N + 1) = i
        · have := h.1
          rw [z, List.getElem?_set_self (by omega)] at this
          cases this
        · have := h.1
          rw [List.getElem?_set_ne z] at this
          exact this
      · rcases Nat.lt_or_ge N j with z | z
        · obtain rfl : j = N + 1 := by omega
          have := h.1
          rw [e, List.getElem?_set_self (by omega)] at this
          cases this
        · exact h.2 j h1 z e
      · by_cases z : par ws (N + 1) = i
        · have := h.2 (N + 1) (by omega) (Nat.le_refl _) z
          rw [top] at this
          cases this
        · rw [List.getElem?_set_ne z]
          exact h.1
/-- the worlds ws are those of the trees ts, side by side -/
structure Laid (ws : List Wd) (ts : List Tr) : Prop where
  len : ws.length = ts.length
  ms : ∀ (i : Nat) (w : Wd) (t : Tr), ws[i]? = some w → ts[i]? = some t → w.1 = t.ms
  par : ∀ j, 1 ≤ j → j < ws.length → par ws j < j
  kids : ∀ (i : Nat) (t : Tr), ts[i]? = some t → ∀ u, u ∈ t.kids.list ↔ ∃ j, 1 ≤ j ∧ Kf.par ws j = i ∧ ts[j]? = some u
mutual
theorem Tr.pos : ∀ t : Tr, 0 < t.size
  | .mk _ f => by
    unfold Tr.size
    omega
end
theorem Fo.mem_size : ∀ (f : Fo) (t : Tr), t ∈ f.list → t.size ≤ f.size
  | .nil, t, h => by simp [Fo.list] at h
  | .cons x f, t, h => by
    unfold Fo.size
    rcases List.mem_cons.mp h with rfl | h
    · omega
    · have := Fo.mem_size f t h
      omega
/-- what is so in a world and in all above it -/
theorem sunk_all {ws : List Wd} {ts : List Tr} (L : Laid ws ts) (g : Tr → Bool) {bs : List Bool} (hb : bs = ts.map g) (h1 : 1 ≤ ws.length) : ∀ (n i : Nat) (t : Tr), t.size ≤ n → ts[i]? = some t →
    ((sunk ws (ws.length - 1) bs)[i]? = some true ↔ ∀ u ∈ t.all, g u = true) := by
  have bl : bs.length = ws.length := by rw [hb, List.length_map, L.len]
  intro n
  induction n with
  | zero =>
    intro i t hs _
    have := t.pos
    omega
  | succ n ih =>
    intro i t hs hi
    have il : i < ts.length := (List.getElem?_eq_some_iff.mp hi).1
    rw [sunk_at ws _ bs i (by omega) (by rw [bl, L.len]; exact il) (fun j a b => L.par j a (by omega))]
    have e0 : bs[i]? = some true ↔ g t = true := by
      rw [hb, List.getElem?_map, hi]
      simp
    rw [e0]
    obtain ⟨ms, f⟩ := t
    have sz : ∀ u ∈ f.list, u.size ≤ n := fun u hu => by
      have := Fo.mem_size f u hu
      have hs : f.size + 1 ≤ n + 1 := hs
      omega
    have kd := L.kids i _ hi
    constructor
    · rintro ⟨g0, gs⟩ u hu
      unfold Tr.all at hu
      rcases List.mem_cons.mp hu with rfl | hu
      · exact g0
      · obtain ⟨x, hx, hux⟩ := (Fo.mem_all f u).mp hu
        obtain ⟨j, j1, jp, jt⟩ := (kd x).mp hx
        have jl : j < ts.length := (List.getElem?_eq_some_iff.mp jt).1
        exact (ih j x (sz x hx) jt).mp (gs j j1 (by rw [L.len]; omega) jp) u hux
    · intro h
      refine ⟨h _ (by unfold Tr.all; exact List.mem_cons_self), fun j j1 j2 jp => ?_⟩
      have jl : j < ts.length := by
        have := L.len
        omega
      have jt : ts[j]? = some ts[j] := List.getElem?_eq_getElem jl
      have hx := (kd ts[j]).mpr ⟨j, j1, jp, jt⟩
      refine (ih j _ (sz _ hx) jt).mpr fun u hu => h u ?_
      unfold Tr.all
      exact List.mem_cons_of_mem _ ((Fo.mem_all f u).mpr ⟨_, hx, hu⟩)
theorem whB_frc {ws : List Wd} {ts : List Tr} (L : Laid ws ts) (h1 : 1 ≤ ws.length) : ∀ k : Kd, whB ws k = ts.map (frc k)
  | .one => by
    refine List.ext_getElem? fun i => ?_
    simp only [whB, List.getElem?_map]
    rcases Nat.lt_or_ge i ws.length with z | z
    · rw [List.getElem?_eq_getElem z, List.getElem?_eq_getElem (by rw [← L.len]; exact z)] <;> rfl
    · rw [List.getElem?_eq_none z, List.getElem?_eq_none (by rw [← L.len]; exact z)] <;> rfl
  | .mark m => by
    refine List.ext_getElem? fun i => ?_
    simp only [whB, List.getElem?_map]
    rcases Nat.lt_or_ge i ws.length with z | z
    · have z2 : i < ts.length := by rw [← L.len]; exact z
      have e := L.ms i _ _ (List.getElem?_eq_getElem z) (List.getElem?_eq_getElem z2)
      rw [List.getElem?_eq_getElem z, List.getElem?_eq_getElem z2]
      simp [frc, e]
    · rw [List.getElem?_eq_none z, List.getElem?_eq_none (by rw [← L.len]; exact z)] <;> rfl
  | .two b k l => by
    have i1 := whB_frc L h1 k
    have i2 := whB_frc L h1 l
    cases b with
    | false =>
      have e : whB ws (.two false k l) = List.zipWith (fun h t => h && t) (whB ws k) (whB ws l) := rfl
      rw [e, i1, i2, List.zipWith_map]
      simp [frc, List.zipWith_self]
    | true =>
      have e : whB ws (.two true k l) = sunk ws (ws.length - 1) (List.zipWith (fun h t => t || !h) (whB ws k) (whB ws l)) := rfl
      rw [e, i1, i2, List.zipWith_map, List.zipWith_self]
      have key := fun i t hi => sunk_all L (fun t => frc l t || !frc k t) rfl h1 t.size i t (Nat.le_refl _) hi
      refine List.ext_getElem? fun i => ?_
      rw [List.getElem?_map]
      have sl : (sunk ws (ws.length - 1) (ts.map fun t => frc l t || !frc k t)).length = ts.length := by rw [sunk_len, List.length_map]
      rcases Nat.lt_or_ge i ts.length with z | z
      · have kz := key i _ (List.getElem?_eq_getElem z)
        rw [List.getElem?_eq_getElem z]
        have x : (frc (.two true k l) ts[i]) = true ↔ ∀ u ∈ ts[i].all, (frc l u || !frc k u) = true := by
          show (ts[i].all.all fun u => frc l u || !frc k u) = true ↔ _
          rw [List.all_eq_true]
        rw [← x] at kz
        have sg := List.getElem?_eq_getElem (l := sunk ws (ws.length - 1) (ts.map fun t => frc l t || !frc k t)) (by rw [sl]; exact z)
        rw [sg] at kz ⊢
        simp only [Option.map_some]
        congr 1
        rw [Bool.eq_iff_iff]
        exact ⟨fun h => kz.mp (congrArg some h), fun h => Option.some.inj (kz.mpr h)⟩
      · rw [List.getElem?_eq_none (by rw [sl]; exact z), List.getElem?_eq_none z] <;> rfl
/-! a tree laid out -/
def szs (ks : List (Tr × Int)) : Nat := (ks.map fun p => p.1.size).sum
/-- on the way: ks is still to come, ws and ts are laid -/
structure LP (t : Tr) (ks : List (Tr × Int)) (ts : List Tr) (ws : List Wd) : Prop where
  len : ws.length = ts.length
  ms : ∀ (i : Nat) (w : Wd) (t : Tr), ws[i]? = some w → ts[i]? = some t → w.1 = t.ms
  behind : ∀ (j : Nat) (w : Wd), ws[j + 1]? = some w → 0 ≤ w.2 ∧ w.2 ≤ (j : Int)
  first : (ts = [] ∧ ks = [(t, -1)]) ∨ (ts[0]? = some t ∧ ∀ p ∈ ks, 0 ≤ p.2 ∧ p.2 < (ws.length : Int))
  kids : ∀ (i : Nat) (x : Tr), ts[i]? = some x → ∀ u, u ∈ x.kids.list ↔ (∃ j, 1 ≤ j ∧ par ws j = i ∧ ts[j]? = some u) ∨ (u, (i : Int)) ∈ ks
  size : ws.length + szs ks = t.size
theorem LP.start (t : Tr) : LP t [(t, -1)] [] [] :=
  ⟨rfl, fun i w t h => by simp at h, fun j w h => by simp at h, .inl ⟨rfl, rfl⟩, fun i x h => by simp at h, by simp [szs]⟩
theorem par_app {ws : List Wd} {w : Wd} {j : Nat} (h : j < ws.length) : par (ws ++ [w]) j = par ws j := by
  unfold par
  rw [List.getD_eq_getElem?_getD, List.getD_eq_getElem?_getD, List.getElem?_append_left h]
theorem par_new {ws : List Wd} {w : Wd} : par (ws ++ [w]) ws.length = w.2.toNat := by
  unfold par
  rw [List.getD_eq_getElem?_getD, List.getElem?_concat_length] <;> rfl
theorem szs_kids (n : Int) : ∀ f : Fo, szs (f.list.map fun u => (u, n)) = f.size
  | .nil => rfl
  | .cons t f => by
    have h := szs_kids n f
    unfold szs at h ⊢
    simp only [Fo.list, List.map_cons, List.sum_cons, Fo.size]
    omega
theorem szs_app (a b : List (Tr × Int)) : szs (a ++ b) = szs a + szs b := by
  unfold szs
  rw [List.map_append, List.sum_append]
theorem szs_one (p : Tr × Int) : szs [p] = p.1.size := by simp [szs]
theorem LP.step {t : Tr} {ls : List (Tr × Int)} {ts : List Tr} {ws : List Wd} {ms : List Str} {f : Fo} {b : Int} (L : LP t (ls ++ [(.mk ms f, b)]) ts ws) :
    LP t (ls ++ f.list.map fun u => (u, (ws.length : Int))) (ts ++ [.mk ms f]) (ws ++ [(ms, b)]) := by
  have ln := L.len
  refine ⟨by rw [List.length_append, List.length_append, ln]; rfl, fun i w x hw hx => ?_, fun j w hw => ?_, ?_, fun i x hx u => ?_, ?_⟩
  · rcases Nat.lt_or_ge i ws.length with z | z
    · rw [List.getElem?_append_left z] at hw
      rw [List.getElem?_append_left (by omega)] at hx
      exact L.ms i w x hw hx
    · have il := (List.getElem?_eq_some_iff.mp hw).1
      rw [List.length_append] at il
      obtain rfl : i = ws.length := by
        have : [(ms, b)].length = 1 := rfl
        omega
      rw [List.getElem?_concat_length] at hw
      rw [ln, List.getElem?_concat_length] at hx
      cases hw
      cases hx
      rfl
  · rcases Nat.lt_or_ge (j + 1) ws.length with z | z
    · rw [List.getElem?_append_left z] at hw
      exact L.behind j w hw
    · have il := (List.getElem?_eq_some_iff.mp hw).1
      rw [List.length_append] at il
      have e : j + 1 = ws.length := by
        have : [(ms, b)].length = 1 := rfl
        omega
      rw [e, List.getElem?_concat_length] at hw
      cases hw
      rcases L.first with ⟨h, _⟩ | ⟨_, h⟩
      · rw [h] at ln
        simp at ln
        simp [ln] at e
      · have := h (.mk ms f, b) (by simp)
        dsimp only at this ⊢
        omega
  · refine .inr ?_
    rcases L.first with ⟨h, hk⟩ | ⟨h0, h⟩
    · have hl : ls = [] := by
        have := congrArg List.length hk
        rw [List.length_append] at this
        exact List.eq_nil_of_length_eq_zero (by simpa using this)
      subst hl
      rw [List.nil_append] at hk
      have hk' : (Tr.mk ms f, b) = (t, -1) := List.head_eq_of_cons_eq hk
      cases hk'
      subst h
      have wl : ws.length = 0 := ln
      refine ⟨rfl, fun p hp => ?_⟩
      rw [List.nil_append] at hp
      obtain ⟨u, _, rfl⟩ := List.mem_map.mp hp
      rw [List.length_append]
      dsimp only
      have : [(ms, (-1 : Int))].length = 1 := rfl
      omega
    · refine ⟨by rw [List.getElem?_append_left (List.getElem?_eq_some_iff.mp h0).1]; exact h0, fun p hp => ?_⟩
      rw [List.length_append]
      have : [(ms, b)].length = 1 := rfl
      rcases List.mem_append.mp hp with hp | hp
      · have := h p (List.mem_append_left _ hp)
        omega
      · obtain ⟨u, _, rfl⟩ := List.mem_map.mp hp
        dsimp only
        omega
  · have pn : par (ws ++ [(ms, b)]) ws.length = b.toNat := par_new
    rcases Nat.lt_or_ge i ts.length with z | z
    · rw [List.getElem?_append_left z] at hx
      rw [L.kids i x hx u]
      have fr : ∀ p ∈ ls ++ [(Tr.mk ms f, b)], 0 ≤ p.2 ∧ p.2 < (ws.length : Int) := by
        rcases L.first with ⟨h, _⟩ | ⟨_, h⟩
        · rw [h] at z
          simp at z
        · exact h
      constructor
      · rintro (⟨j, j1, jp, jt⟩ | h)
        · have jl := (List.getElem?_eq_some_iff.mp jt).1
          exact .inl ⟨j, j1, by rw [par_app (by omega)]; exact jp, by rw [List.getElem?_append_left jl]; exact jt⟩
        · rcases List.mem_append.mp h with h | h
          · exact .inr (List.mem_append_left _ h)
          · have h := List.mem_singleton.mp h
            cases h
            refine .inl ⟨ws.length, by omega, by rw [pn]; omega, by rw [ln, List.getElem?_concat_length]⟩
      · rintro (⟨j, j1, jp, jt⟩ | h)
        · have jl := (List.getElem?_eq_some_iff.mp jt).1
          rw [List.length_append] at jl
          have l1 : [Tr.mk ms f].length = 1 := rfl
          rcases Nat.lt_or_ge j ts.length with zz | zz
          · rw [List.getElem?_append_left zz] at jt
            rw [par_app (by omega)] at jp
            exact .inl ⟨j, j1, jp, jt⟩
          · obtain rfl : j = ws.length := by omega
            rw [pn] at jp
            rw [ln, List.getElem?_concat_length] at jt
            cases jt
            have := fr (.mk ms f, b) (by simp)
            dsimp only at this
            refine .inr (List.mem_append_right _ ?_)
            have e : b = (i : Int) := by omega
            rw [e]
            exact List.mem_singleton.mpr rfl
        · rcases List.mem_append.mp h with h | h
          · exact .inr (List.mem_append_left _ h)
          · obtain ⟨x2, _, e⟩ := List.mem_map.mp h
            injection e with e1 e2
            omega
    · have il := (List.getElem?_eq_some_iff.mp hx).1
      rw [List.length_append] at il
      have l1 : [Tr.mk ms f].length = 1 := rfl
      obtain rfl : i = ts.length := by omega
      rw [List.getElem?_concat_length] at hx
      cases hx
      show u ∈ f.list ↔ _
      constructor
      · intro h
        refine .inr (List.mem_append_right _ (List.mem_map.mpr ⟨u, h, ?_⟩))
        rw [ln]
      · rintro (⟨j, j1, jp, jt⟩ | h)
        · exfalso
          have jl := (List.getElem?_eq_some_iff.mp jt).1
          rw [List.length_append] at jl
          rcases Nat.lt_or_ge j ws.length with zz | zz
          · rw [par_app zz] at jp
            obtain ⟨m, rfl⟩ : ∃ m, j = m + 1 := ⟨j - 1, by omega⟩
            have hb := L.behind m _ (List.getElem?_eq_getElem zz)
            unfold par at jp
            rw [List.getD_eq_getElem?_getD, List.getElem?_eq_getElem zz] at jp
            simp only [Option.getD_some] at jp
            omega
          · obtain rfl : j = ws.length := by omega
            rw [pn] at jp
            rcases L.first with ⟨h, _⟩ | ⟨_, h⟩
            · rw [h] at ln
              simp at ln
              simp [ln] at j1
            · have := h (.mk ms f, b) (by simp)
              dsimp only at this
              omega
        · rcases List.mem_append.mp h with h | h
          · exfalso
            rcases L.first with ⟨h2, hk⟩ | ⟨_, h2⟩
            · have hl : ls = [] := by
                have := congrArg List.length hk
                rw [List.length_append] at this
                exact List.eq_nil_of_length_eq_zero (by simpa using this)
              rw [hl] at h
              cases h
            · have := h2 (u, (ts.length : Int)) (List.mem_append_left _ h)
              dsimp only at this
              omega
          · obtain ⟨x2, hx2, e⟩ := List.mem_map.mp h
            injection e with e1 e2
            rw [← e1]
            exact hx2
  · have s := L.size
    rw [szs_app, szs_one] at s
    rw [szs_app, szs_kids, List.length_append]
    have e : (Tr.mk ms f).size = f.size + 1 := rfl
    rw [e] at s
    have : [(ms, b)].length = 1 := rfl
    omega
theorem LP.done {t : Tr} {ts : List Tr} {ws : List Wd} (L : LP t [] ts ws) : Laid ws ts ∧ ts[0]? = some t ∧ Behind ws ∧ ws.length = t.size := by
  have ln := L.len
  have f0 : ts[0]? = some t := by
    rcases L.first with ⟨_, h⟩ | ⟨h, _⟩
    · cases h
    · exact h
  refine ⟨⟨ln, L.ms, fun j j1 j2 => ?_, fun i x hx u => ?_⟩, f0, L.behind, ?_⟩
  · obtain ⟨m, rfl⟩ : ∃ m, j = m + 1 := ⟨j - 1, by omega⟩
    have hb := L.behind m _ (List.getElem?_eq_getElem j2)
    unfold par
    rw [List.getD_eq_getElem?_getD, List.getElem?_eq_getElem j2]
    simp only [Option.getD_some]
    omega
  · rw [L.kids i x hx u]
    exact ⟨fun h => h.resolve_right (by simp), .inl⟩
  · have s := L.size
    simpa [szs] using s
mutual
def TrAt (H : Hp) : Tr → V → Prop
  | .mk ms f, v => ∃ a m l us, v = .ref a ∧ H a = some (.tup [.ref m, .ref l]) ∧ H m = some (.lst (ms.map V.str)) ∧ H l = some (.lst us) ∧ FoAt H f us
def FoAt (H : Hp) : Fo → List V → Prop
  | .nil, us => us = []
  | .cons t f, us => ∃ u r, us = u :: r ∧ TrAt H t u ∧ FoAt H f r
end
mutual
theorem TrAt.same {H H' : Hp} (s : Same H H') : ∀ (t : Tr) (v : V), TrAt H t v → TrAt H' t v
  | .mk ms f, v, h => by
    unfold TrAt at h ⊢
    obtain ⟨a, m, l, us, e, h1, h2, h3, h4⟩ := h
    exact ⟨a, m, l, us, e, s _ _ h1, s _ _ h2, s _ _ h3, FoAt.same s f us h4⟩
theorem FoAt.same {H H' : Hp} (s : Same H H') : ∀ (f : Fo) (us : List V), FoAt H f us → FoAt H' f us
  | .nil, us, h => by
    unfold FoAt at h ⊢
    exact h
  | .cons t f, us, h => by
    unfold FoAt at h ⊢
    obtain ⟨u, r, e, h1, h2⟩ := h
    exact ⟨u, r, e, TrAt.same s t u h1, FoAt.same s f r h2⟩
end
theorem FoAt.all2 {H : Hp} : ∀ (f : Fo) (us : List V), FoAt H f us → All2 (TrAt H) f.list us
  | .nil, us, h => by
    unfold FoAt at h
    subst h
    exact trivial
  | .cons t f, us, h => by
    unfold FoAt at h
    obtain ⟨u, r, rfl, h1, h2⟩ := h
    exact ⟨h1, FoAt.all2 f r h2⟩
/-- one that waits: a tuple of a tree, which stood in H0, and a number -/
def StAt (H0 H : Hp) (p : Tr × Int) (u : V) : Prop := ∃ a v, u = .ref a ∧ H a = some (.tup [v, .int p.2]) ∧ TrAt H0 p.1 v
def Wd0 (H0 H : Hp) (w : Wd) (u : V) : Prop := ∃ a m, u = .ref a ∧ H a = some (.tup [.ref m, .int w.2]) ∧ H0 m = some (.lst (w.1.map V.str))
theorem StAt.mono {H0 H H' : Hp} (t : Tups H H') : ∀ p u, StAt H0 H p u → StAt H0 H' p u := fun _ _ ⟨a, v, e, h1, h2⟩ => ⟨a, v, e, t _ _ h1, h2⟩
theorem Wd0.mono {H0 H H' : Hp} (t : Tups H H') : ∀ p u, Wd0 H0 H p u → Wd0 H0 H' p u := fun _ _ ⟨a, v, e, h1, h2⟩ => ⟨a, v, e, t _ _ h1, h2⟩
def spLaid : Sp := fun vs H Q _ => ∃ (v : V) (t : Tr), vs = [v] ∧ TrAt H t v ∧ t.size ≤ 60 ∧
  ∀ (D : Addr) (ws : List Wd) (ts : List Tr) (H' : Hp), Same H H' → WsAt H' D ws → Laid ws ts → ts[0]? = some t → Behind ws → ws.length = t.size → Q (.ref D) H'
def spHolds (n : Nat) : Sp := fun vs H Q _ => ∃ (v y : V) (t : Tr) (k : Kd), vs = [v, y] ∧ TrAt H t v ∧ t.size ≤ 60 ∧ KdAt H k y ∧ k.deep < n ∧ ∀ H', Same H H' → Q (.bl (frc k t)) H'
theorem szs_len (ks : List (Tr × Int)) : ks.length ≤ szs ks := by
  induction ks with
  | nil => exact Nat.le_refl _
  | cons p ks ih =>
    have h := p.1.pos
    unfold szs at ih ⊢
    rw [List.map_cons, List.sum_cons, List.length_cons]
    omega
section
variable {P : Program} {w : World} {K : PySem.W.Frag} {mg : Str → Option Value} {base : Heap}
theorem scLaid : FnScope ["tree", "worlds", "todo", "world", "below", "inner"] ["tree"] (defScope sLaid) := ⟨rfl, rfl, rfl, by decide +kernel, rfl, by decide +kernel, by decide +kernel⟩
theorem scHolds : FnScope ["tree", "kind"] ["tree", "kind"] (defScope sHolds) := ⟨rfl, rfl, rfl, by decide +kernel, rfl, by decide +kernel, by decide +kernel⟩
theorem ok_holds {f fL fW : Addr} {fd fdL fdW : FuncData} (F : Fun K "holds" "holds" sHolds f fd) (GL : FnOk P w K mg base CX0 1 fL fdL ["tree"] spLaid) (kL : PySem.W.keepIn K (.ref fL) = true) (bL : Binds K fdL ["tree"] []) (gL : mg "laid_out" = some (.ref fL))
    {n : Nat} (GW : FnOk P w K mg base CX0 (n + 1) fW fdW ["worlds", "kind"] (spWhere n)) (kW : PySem.W.keepIn K (.ref fW) = true) (bW : Binds K fdW ["worlds", "kind"] []) (gW : mg "where_holds" = some (.ref fW)) : FnOk P w K mg base CX0 (n + 2) f fd ["tree", "kind"] (spHolds n) := by
  refine F.ok scHolds (fun vs H Q E h => ?_) (fun cdv A outer s H vs Q E hr h => ?_)
  · obtain ⟨v, y, t, k, rfl, _⟩ := h
    rfl
  · obtain ⟨v, y, t, kd, rfl, ht, hs, hk, hd, k⟩ := h
    have hr1 : Room 1 _ := hr.mono (by omega)
    refine ⟨_, pss_one (ps_ret (pe_ix ix_list (pe_call GW hr (by rfl) gW kW bW .nil pass0 (pa_cons (pe_call GL hr1 (by rfl) gL kL bL .nil pass0 (pa_cons (pv 0) pa_nil)) (pa_cons (pv 1) pa_nil))) pe_int (fun _ _ => rfl))), ?_⟩
    have tp := t.pos
    refine ⟨_, rfl, v, t, rfl, ht, hs, fun D ws ts H1 s1 hW L t0 B wl => ?_⟩
    refine ⟨_, rfl, D, y, kd, ws, rfl, KdAt.mono (tups_of s1) _ _ hk, hd, hW, by omega, by omega, B, fun l H2 nl s2 e2 => ?_⟩
    rw [whB_frc L (by omega) kd] at e2
    refine ⟨l, _, _, .bl (frc kd t), rfl, rfl, SqL.of e2, atI_nat (j := 0) ?_, k H2 (Same.trans s1 s2)⟩
    unfold bls
    rw [List.getElem?_map, List.getElem?_map, t0] <;> rfl
theorem ok_laid {f : Addr} {fd : FuncData} (F : Fun K "laid_out" "laid_out" sLaid f fd) (mLen : mg "len" = none) : FnOk P w K mg base CX0 1 f fd ["tree"] spLaid := by
  refine F.ok scLaid (fun vs H Q E h => ?_) (fun cdv A outer s H vs Q E hr h => ?_)
  · obtain ⟨v, t, rfl, _⟩ := h
    rfl
  · obtain ⟨v, t, rfl, ht, hs, k⟩ := h
    refine ⟨_, pss_cons (ps_set (i := 1) scLaid.nd rfl (Or.inl rfl) (pe_lst pa_nil))
      (pss_cons (ps_set (i := 2) scLaid.nd rfl (Or.inl rfl) (pe_lst (pa_cons (pe_tup (pa_cons (pv 0) (pa_cons (pe_un un_neg pe_int) pa_nil))) pa_nil)))
      (pss_cons (ps_while PassesOwn.never (pt_truth (pv 2) (by intro _; rfl))
        (pss_cons (ps_asg (pe_bm0 PySem.F.plainAttrs_list PySem.F.slot_list_pop PySem.F.type_list_pop mt_pop (pv 2)) (pg_tup (by rfl) (pgs_cons (pg_name (i := 3) scLaid.nd rfl (Or.inl rfl)) (pgs_cons (pg_name (i := 4) scLaid.nd rfl (Or.inl rfl)) pgs_nil))))
        (pss_cons (ps_for PassesOwn.never rfl (pi_list (pe_ix ix_tup (pv 3) pe_int (fun _ _ => rfl))) (pg_name (i := 5) scLaid.nd rfl (Or.inl rfl))
          (pss_one (ps_expr (pe_bm PySem.F.plainAttrs_list PySem.F.slot_list_append PySem.F.type_list_append mt_append (pv 2) (pa_cons (pe_tup (pa_cons (pv 5) (pa_cons (pe_callB call_len_seq (by rfl) mLen PySem.boot_len (pa_cons (pv 1) pa_nil)) pa_nil))) pa_nil)))))
        (pss_one (ps_expr (pe_bm PySem.F.plainAttrs_list PySem.F.slot_list_append PySem.F.type_list_append mt_append (pv 1) (pa_cons (pe_tup (pa_cons (pe_ix ix_tup (pv 3) pe_int (fun _ _ => rfl)) (pa_cons (pv 4) pa_nil))) pa_nil)))))))
      (pss_one (ps_ret (pv 1))))), ?_⟩
    refine ⟨by show 0 ≤ sizeLine; decide, fun D hD => ?_⟩
    have sD := same_new (o := .lst []) hD
    refine ⟨_, rfl, _, rfl, by show 2 ≤ sizeLine; decide, fun t0 ht0 => ⟨by show 1 ≤ sizeLine; decide, fun T hT2 => ?_⟩⟩
    have st0 := same_new (o := .tup [v, .int (-1)]) ht0
    have sT2 := same_new (o := .lst [V.ref t0]) hT2
    have S0 := Same.trans (Same.trans sD st0) sT2
    have hT : H T = none := (Same.trans sD st0).free hT2
    have hDT : D ≠ T := fun z => by
      rw [← z, st0 _ _ upd_same] at hT2
      cases hT2
    refine ⟨fun n σ H2 => ∃ (ks : List (Tr × Int)) (vs : List V) (ts : List Tr) (ws : List Wd) (us : List V) (i3 i4 i5 : Option V), σ = [some v, some (.ref D), some (.ref T), i3, i4, i5] ∧ H2 T = some (.lst vs) ∧ H2 D = some (.lst us) ∧ All2 (StAt H H2) ks vs ∧ All2 (Wd0 H H2) ws us ∧ Same H H2 ∧ LP t ks ts ws ∧ n = szs ks,
      ⟨szs [(t, -1)], [(t, -1)], [.ref t0], [], [], [], none, none, none, rfl, upd_same, sT2 _ _ (st0 _ _ upd_same), ⟨⟨t0, v, rfl, sT2 _ _ upd_same, ht⟩, trivial⟩, trivial, S0, LP.start t, rfl⟩, ?_⟩
    rintro n σ H2 ⟨ks, vs, ts, ws, us, i3, i4, i5, rfl, hv, hu, hA, hB, hS, L, rfl⟩
    refine ⟨_, rfl, _, .inl ⟨_, SqL.of hv, rfl⟩, ?_⟩
    by_cases he : vs = []
    · subst he
      refine iteF ?_
      obtain rfl : ks = [] := List.eq_nil_of_length_eq_zero hA.len
      obtain ⟨La, t0', B, wl⟩ := L.done
      refine ⟨_, rfl, k D ws ts H2 hS ⟨us, hu, hB.mono fun w u ⟨a, m, e, h1, h2⟩ => ⟨a, m, e, h1, hS _ _ h2⟩⟩ La t0' B wl⟩
    · obtain ⟨ls, kx, y, rfl, ev, hl, hr2, hy⟩ := hA.last he
      have e1 : (!vs.isEmpty) = true := by cases vs with | nil => exact absurd rfl he | cons a r => rfl
      rw [if_pos e1]
      obtain ⟨⟨ms, fo⟩, b⟩ := kx
      obtain ⟨a, v1, rfl, ha, hv1⟩ := hr2
      unfold TrAt at hv1
      obtain ⟨a1, m1, l1, us1, rfl, h1, h2, h3, h4⟩ := hv1
      have lsz := L.size
      have lks := szs_len (ls ++ [(Tr.mk ms fo, b)])
      rw [List.length_append] at lks
      have kl := szs_len (fo.list.map fun u => (u, (0 : Int)))
      rw [szs_kids, List.length_map] at kl
      have lz2 := lsz
      rw [szs_app, szs_one] at lz2
      have lz3 : (Tr.mk ms fo).size = fo.size + 1 := rfl
      dsimp only at lz2
      have lz4 := szs_len ls
      refine ⟨_, fun _ _ z => z, ?_⟩
      refine ⟨_, rfl, .inl ⟨rfl, _, .inl (.inl hv)⟩, T, vs, .ref a, rfl, rfl, hv, hy, ?_⟩
      have t1 : Tups H2 (upd H2 T (.lst vs.dropLast)) := tups_lst hv
      have hu1 : (upd H2 T (.lst vs.dropLast)) D = some (.lst us) := by rw [upd_ne hDT]; exact hu
      have hT3 : (upd H2 T (.lst vs.dropLast)) T = some (.lst vs.dropLast) := upd_same
      have hl1 := hl.mono (StAt.mono t1)
      have hB1 := hB.mono (Wd0.mono t1)
      have ha1 := t1 _ _ ha
      have hS1 : Same H (upd H2 T (.lst vs.dropLast)) := same_over hS hT
      generalize upd H2 T (.lst vs.dropLast) = H3 at *
      refine ⟨a, _, rfl, SqT.of ha1, rfl, _, _, rfl, _, _, rfl, rfl, ?_⟩
      refine ⟨_, rfl, a1, _, _, _, rfl, rfl, SqT.of (hS1 _ _ h1), atI_nat (j := 1) rfl, l1, rfl, ⟨_, SqL.of (hS1 _ _ h3)⟩, for_list (K := K) (a := l1) (xs := us1) (fun i σ H4 => ∃ (xs : List V) (j5 : Option V), σ = [some v, some (.ref D), some (.ref T), some (.ref a1), some (.int b), j5] ∧ H4 T = some (.lst xs) ∧ H4 D = some (.lst us) ∧
          All2 (StAt H H4) (ls ++ (fo.list.take i).map fun u => (u, (ws.length : Int))) xs ∧ All2 (Wd0 H H4) ws us ∧ Same H H4) ⟨vs.dropLast, _, rfl, hT3, hu1, by simpa using hl1, hB1, hS1⟩ (fun i σ H4 _ ⟨_, _, _, _, _, _, _, q⟩ => SqL.of (q _ _ h3)) ?_ ?_⟩
      · rintro i x σ H4 hx ⟨xs, j5, rfl, q1, q2, q3, q4, q5⟩
        obtain ⟨u, hu', tr⟩ := (FoAt.all2 fo us1 h4).get hx
        have ul : us.length = ws.length := q4.len.symm
        have il := (List.getElem?_eq_some_iff.mp hu').1
        have xl := q3.len
        rw [List.length_append, List.length_map, List.length_take] at xl
        refine ⟨_, rfl, .inl ⟨rfl, _, .inl (.inl q1)⟩, _, rfl, _, rfl, D, _, rfl, .inl (SqL.of q2), by show 2 ≤ sizeLine; decide, fun tn htn => ?_⟩
        have sn := same_new (o := .tup [x, .int (us.length : Int)]) htn
        have nt : tn ≠ T := fun z => by rw [z, q1] at htn; cases htn
        refine ⟨T, _, _, rfl, rfl, sn _ _ q1, small1000 (by omega), ?_⟩
        have tt : Tups H4 (upd (upd H4 tn (.tup [x, .int (us.length : Int)])) T (.lst (xs ++ [.ref tn]))) := Tups.trans (tups_of sn) (tups_lst (sn _ _ q1))
        refine ⟨xs ++ [.ref tn], _, rfl, upd_same, by rw [upd_ne hDT]; exact sn _ _ q2, ?_, q4.mono (Wd0.mono tt), same_over (Same.trans q5 sn) hT⟩
        rw [List.take_add_one, hu', List.map_append, ← List.append_assoc]
        refine (q3.mono (StAt.mono tt)).app (ls := [(u, (ws.length : Int))]) (us := [V.ref tn]) ⟨⟨tn, x, rfl, ?_, tr⟩, trivial⟩
        rw [upd_ne nt, upd_same, ul]
      · rintro σ H4 ⟨xs, j5, rfl, q1, q2, q3, q4, q5⟩
        have fl : fo.list.length = us1.length := (FoAt.all2 fo us1 h4).len
        rw [← fl, List.take_length] at q3
        have ul : us.length = ws.length := q4.len.symm
        refine ⟨_, rfl, .inl ⟨rfl, _, .inl (.inl q2)⟩, _, rfl, a1, _, _, _, rfl, rfl, SqT.of (q5 _ _ h1), atI_nat (j := 0) rfl, _, rfl, by show 2 ≤ sizeLine; decide, fun tn htn => ?_⟩
        have sn := same_new (o := .tup [V.ref m1, .int b]) htn
        have nt : tn ≠ D := fun z => by rw [z, q2] at htn; cases htn
        refine ⟨D, _, _, rfl, rfl, sn _ _ q2, small1000 (by omega), ?_⟩
        have tt : Tups H4 (upd (upd H4 tn (.tup [V.ref m1, .int b])) D (.lst (us ++ [.ref tn]))) := Tups.trans (tups_of sn) (tups_lst (sn _ _ q2))
        have L2 := L.step
        have s1 := L2.size
        rw [List.length_append] at s1
        have l1 : [(ms, b)].length = 1 := rfl
        refine ⟨szs (ls ++ fo.list.map fun u => (u, (ws.length : Int))), by omega, _, xs, _, _, us ++ [.ref tn], _, _, _, rfl, by rw [upd_ne (Ne.symm hDT)]; exact sn _ _ q1, upd_same, q3.mono (StAt.mono tt), ?_, same_over (Same.trans q5 sn) hD, L2, rfl⟩
        exact (q4.mono (Wd0.mono tt)).app (ls := [(ms, b)]) (us := [V.ref tn]) ⟨⟨tn, m1, rfl, by rw [upd_ne nt, upd_same], h2⟩, trivial⟩
end
def spKind (n : Nat) : Sp := fun vs H Q _ => ∃ (p M : Addr) (L : Nat) (ms : List Str), vs = [.ref p, .int (L : Int), .ref M] ∧ PoolAt H p ∧ 1 ≤ L ∧ L ≤ n ∧ L ≤ 1000 ∧ H M = some (.lst (ms.map V.str)) ∧ 1 ≤ ms.length ∧ ms.length ≤ 1000 ∧
  ∀ (v : V) (k : Kd) (H' : Hp), KdAt H' k v → k.leaves = L → PoolAt H' p → Kept p H H' → Q v H'
section
variable {P : Program} {w : World} {K : PySem.W.Frag} {mg : Str → Option Value} {base : Heap}
theorem scKind : FnScope ["_law_pool_here", "_law_leaves", "_law_marks_here", "_law_first", "_law_one", "_law_other"] ["_law_pool_here", "_law_leaves", "_law_marks_here"] (defScope sKind) := ⟨rfl, rfl, rfl, by decide +kernel, rfl, by decide +kernel, by decide +kernel⟩
theorem ok_kind {f fT : Addr} {fd fdT : FuncData} (F : Fun K "_law_kind" "_law_kind" sKind f fd) (bF : Binds K fd ["_law_pool_here", "_law_leaves", "_law_marks_here"] []) (gF : mg "_law_kind" = some (.ref f))
    (FT : Fun K "_law_take" "_law_take" sTake fT fdT) (bT : Binds K fdT ["_law_pool_here", "_law_many"] []) (gT : mg "_law_take" = some (.ref fT)) (mLen : mg "len" = none) :
    ∀ n : Nat, FnOk P w K mg base CX0 (n + 2) f fd ["_law_pool_here", "_law_leaves", "_law_marks_here"] (spKind n) := by
  have GT : FnOk P w K mg base CX0 1 fT fdT ["_law_pool_here", "_law_many"] spTake := ok_take FT
  intro n
  induction n with
  | zero =>
    refine F.ok scKind (fun vs H Q E h => ?_) (fun cdv A outer s H vs Q E hr h => ?_)
    · obtain ⟨p, M, L, ms, rfl, _⟩ := h
      rfl
    · obtain ⟨p, M, L, ms, _, _, h1, h2, _⟩ := h
      omega
  | succ n GK =>
    refine F.ok scKind (fun vs H Q E h => ?_) (fun cdv A outer s H vs Q E hr h => ?_)
    · obtain ⟨p, M, L, ms, rfl, _⟩ := h
      rfl
    · obtain ⟨p, M, L, ms, rfl, hp, l1, l2, l3, hM, m1, m2, k⟩ := h
      have hr1 : Room 1 _ := hr.mono (by omega)
      refine ⟨_, pss_cons (ps_if (pt_cmpR op_eq (pv 1) pe_int (nomark _))
          (pss_cons (ps_if (pt_cmpR op_eq (pe_call GT hr1 (by rfl) gT FT.kp bT .nil pass0 (pa_cons (pv 0) (pa_cons pe_int pa_nil))) pe_int (nomark _)) (pss_one (ps_ret (pe_tup (pa_cons pe_str pa_nil)))) pss_nil)
          (pss_one (ps_ret (pe_tup (pa_cons pe_str (pa_cons (pe_ix ix_list (pv 2) (pe_call GT hr1 (by rfl) gT FT.kp bT .nil pass0 (pa_cons (pv 0) (pa_cons (pe_callB call_len_seq (by rfl) mLen PySem.boot_len (pa_cons (pv 2) pa_nil)) pa_nil))) (fun _ _ => rfl)) pa_nil)))))) pss_nil)
        (pss_cons (ps_set (i := 3) scKind.nd rfl (Or.inl rfl) (pe_op op_add pe_int (pe_call GT hr1 (by rfl) gT FT.kp bT .nil pass0 (pa_cons (pv 0) (pa_cons (pe_op op_sub (pv 1) pe_int) pa_nil)))))
        (pss_cons (ps_set (i := 4) scKind.nd rfl (Or.inl rfl) (pe_call GK hr (by rfl) gF F.kp bF .nil pass0 (pa_cons (pv 0) (pa_cons (pv 3) (pa_cons (pv 2) pa_nil)))))
        (pss_cons (ps_set (i := 5) scKind.nd rfl (Or.inl rfl) (pe_call GK hr (by rfl) gF F.kp bF .nil pass0 (pa_cons (pv 0) (pa_cons (pe_op op_sub (pv 1) (pv 3)) (pa_cons (pv 2) pa_nil)))))
        (pss_one (ps_ret (pe_tup (pa_cons (pe_ix ix_list (pe_lst (pa_cons pe_str (pa_cons pe_str (pa_cons pe_str (pa_cons pe_str pa_nil))))) (pe_call GT hr1 (by rfl) gT FT.kp bT .nil pass0 (pa_cons (pv 0) (pa_cons pe_int pa_nil))) (fun _ _ => rfl)) (pa_cons (pv 4) (pa_cons (pv 5) pa_nil))))))))), ?_⟩
      refine ⟨_, rfl, rfl, _, rfl, ?_⟩
      refine ite2 (fun hc => ?_) (fun hc => ?_)
      · have hL : L = 1 := by
          have z := of_decide_eq_true hc
          injection z with z
          omega
        subst hL
        refine ⟨_, rfl, p, 6, rfl, hp, by decide, by decide, fun r H1 r0 r1 hp1 e1 => ?_⟩
        refine ⟨rfl, _, rfl, ?_⟩
        refine ite2 (fun _ => ?_) (fun _ => ?_)
        · refine ⟨by show 1 ≤ sizeLine; decide, fun t ht => ?_⟩
          exact k (.ref t) .one _ ⟨t, rfl, upd_same⟩ rfl (hp1.same (same_new ht)) ((kept_take e1).trans (kept_same (same_new ht)))
        · have k1 := kept_take e1
          have hM1 := k1 _ _ (pool_marks hp hM) hM
          refine ⟨_, rfl, _, rfl, _, rfl, M, _, rfl, .inl (SqL.of hM1), p, _, rfl, hp1, by rw [List.length_map]; omega, by rw [List.length_map]; omega, fun q H2 q0 q1 hp2 e2 => ?_⟩
          have hM2 := kept_take e2 _ _ (pool_marks hp1 hM1) hM1
          obtain ⟨u, hu, hm⟩ := at_any (xs := ms.map V.str) q0 q1
          obtain ⟨mk, hmk, rfl⟩ := List.mem_map.mp hm
          refine ⟨M, _, _, _, rfl, rfl, SqL.of hM2, hu, by show 2 ≤ sizeLine; decide, fun t ht => ?_⟩
          exact k (.ref t) (.mark mk) _ ⟨t, rfl, upd_same⟩ rfl (hp2.same (same_new ht)) ((k1.trans (kept_take e2)).trans (kept_same (same_new ht)))
      · have hL : 2 ≤ L := by
          rcases Nat.lt_or_ge L 2 with z | z
          · exact absurd (decide_eq_true (by rw [show L = 1 by omega]; rfl)) hc
          · exact z
        have eL : ((L : Int) - 1) = ((L - 1 : Nat) : Int) := by omega
        refine ⟨_, rfl, _, rfl, _, _, rfl, rfl, p, _, rfl, hp, by omega, by omega, fun r H1 r0 r1 hp1 e1 => ?_⟩
        obtain ⟨rn, rfl⟩ : ∃ rn : Nat, r = rn := ⟨r.toNat, by omega⟩
        refine ⟨_, _, rfl, rfl, ?_⟩
        have k1 := kept_take e1
        have hM1 := k1 _ _ (pool_marks hp hM) hM
        refine ⟨_, rfl, _, rfl, _, rfl, p, M, 1 + rn, ms, rfl, hp1, by omega, by omega, by omega, hM1, m1, m2, fun v1 kd1 H2 h1 hl1 hp2 k2 => ?_⟩
        have hM2 := k2 _ _ (pool_marks hp1 hM1) hM1
        have e3 : ((L : Int) - (1 + (rn : Int))) = ((L - (1 + rn) : Nat) : Int) := by omega
        refine ⟨_, rfl, _, rfl, _, rfl, _, _, rfl, rfl, _, rfl, p, M, L - (1 + rn), ms, ?_, hp2, by omega, by omega, by omega, hM2, m1, m2, fun v2 kd2 H3 h2 hl2 hp3 k3 => ?_⟩
        · rw [← e3]
          rfl
        refine ⟨by show 4 ≤ sizeLine; decide, fun l hl => ?_⟩
        have sl := same_new (o := .lst [V.str "to", V.str "to", V.str "to", V.str "both"]) hl
        have nl := hp3.ne hl
        refine ⟨_, rfl, p, 4, rfl, hp3.upd hl, by decide, by decide, fun q H4 q0 q1 hp4 e4 => ?_⟩
        obtain ⟨u, hu, hm⟩ := at_any (xs := [V.str "to", V.str "to", V.str "to", V.str "both"]) q0 q1
        obtain ⟨b, rfl⟩ : ∃ b, u = V.str (word b) := by
          simp only [List.mem_cons, List.not_mem_nil, or_false] at hm
          rcases hm with rfl | rfl | rfl | rfl
          · exact ⟨true, rfl⟩
          · exact ⟨true, rfl⟩
          · exact ⟨true, rfl⟩
          · exact ⟨false, rfl⟩
        refine ⟨l, _, _, _, rfl, rfl, SqL.of ((e4 l nl).trans upd_same), hu, ?_⟩
        refine ⟨_, rfl, _, rfl, by show 3 ≤ sizeLine; decide, fun t ht => ?_⟩
        have st : Same H4 (upd H4 t (.tup [.str (word b), v1, v2])) := same_new ht
        have k34 : Kept p H3 (upd H4 t (.tup [.str (word b), v1, v2])) := ((kept_same sl).trans (kept_take e4)).trans (kept_same st)
        refine k (.ref t) (.two b kd1 kd2) _ ⟨t, v1, v2, rfl, upd_same, KdAt.mono (Tups.trans (tups_kept k3 hp2) (tups_kept k34 hp3)) _ _ h1, KdAt.mono (tups_kept k34 hp3) _ _ h2⟩ ?_ (hp4.same st) (((k1.trans k2).trans k3).trans k34)
        show kd1.leaves + kd2.leaves = L
        omega
end
theorem ixl {X : Cx} {K : PySem.W.Frag} (e : X.K = K) : IxR X (rIxL K) := by
  rw [← e]
  exact ix_list
theorem sum_short : ∀ ys : List Str, (∀ y ∈ ys, y.length ≤ 1) → (ys.map (·.length)).sum ≤ ys.length
  | [], _ => Nat.le_refl _
  | x :: r, h => by
    have i := sum_short r fun y hy => h y (List.mem_cons_of_mem _ hy)
    have a := h x (by simp)
    rw [List.map_cons, List.sum_cons, List.length_cons]
    omega
theorem letters26 : (("abcdefghijklmnopqrstuvwxyz" : Str)).cps.toList.length = 26 := by decide +kernel
theorem letters_ok : ∀ c ∈ (("abcdefghijklmnopqrstuvwxyz" : Str)).cps.toList, c < 0x110000 := by decide +kernel
theorem tl_app (a b : Str) : (a ++ b).cps.toList = a.cps.toList ++ b.cps.toList := by
  show (a.cps ++ b.cps).toList = _
  simp
theorem strOk_iff (x : Str) : PyData.strOk x = true ↔ ∀ c ∈ x.cps.toList, c < 0x110000 := by
  unfold PyData.strOk
  rw [← Array.all_toList, List.all_eq_true]
  simp
theorem join_ok (us : List Str) (h : ∀ u ∈ us, PyData.strOk u = true) : PyData.strOk (Txt.join "" us) = true := by
  rw [TL.join_eq]
  have b1 : PyData.strOk "" = true := by decide +kernel
  induction us with
  | nil => exact b1
  | cons x r ih =>
    cases r with
    | nil => exact h x List.mem_cons_self
    | cons y t =>
      have h1 := ih fun u hu => h u (List.mem_cons_of_mem _ hu)
      show PyData.strOk (x ++ "" ++ Str.join "" (y :: t)) = true
      rw [strOk_iff] at *
      intro c hc
      rw [tl_app, tl_app, List.mem_append, List.mem_append] at hc
      rcases hc with (hc | hc) | hc
      · exact (strOk_iff x).mp (h x List.mem_cons_self) c hc
      · exact b1 c hc
      · exact h1 c hc
def spMarks : Sp := fun vs H Q _ => ∃ p : Addr, vs = [.ref p] ∧ PoolAt H p ∧
  ∀ (M : Addr) (ms : List Str) (H' : Hp), H' M = some (.lst (ms.map V.str)) → 1 ≤ ms.length → ms.length ≤ 4 → (∀ m ∈ ms, PyData.strOk m = true) → PoolAt H' p → Kept p H H' → M ≠ p → Q (.ref M) H'
section
variable {P : Program} {w : World} {K : PySem.W.Frag} {mg : Str → Option Value} {base : Heap}
theorem scMarks : FnScope ["_law_pool_here", "_law_size", "_law_at", "_law_signs", "_law_found", "_law_k", "_law_places", "_law_j", "_law_place"] ["_law_pool_here"] (defScope sMarks) := ⟨rfl, rfl, rfl, by decide +kernel, rfl, by decide +kernel, by decide +kernel⟩
abbrev nMarks : List Str := ["_law_pool_here", "_law_size", "_law_at", "_law_signs", "_law_found", "_law_k", "_law_places", "_law_j", "_law_place"]
theorem ok_marks {f fT : Addr} {fd fdT : FuncData} (F : Fun K "_law_marks" "_law_marks" sMarks f fd) (GT : FnOk P w K mg base CX0 1 fT fdT ["_law_pool_here", "_law_many"] spTake) (kT : PySem.W.keepIn K (.ref fT) = true) (bT : Binds K fdT ["_law_pool_here", "_law_many"] []) (gT : mg "_law_take" = some (.ref fT))
    (mRange : mg "range" = none) (mInt : mg "int" = none) : FnOk P w K mg base CX0 2 f fd ["_law_pool_here"] spMarks := by
  refine F.ok scMarks (fun vs H Q E h => ?_) (fun cdv A outer s H vs Q E hr h => ?_)
  · obtain ⟨p, rfl, _⟩ := h
    rfl
  · obtain ⟨p, rfl, hp, k⟩ := h
    refine ⟨_, pss_cons (ps_set (i := 1) scMarks.nd rfl (Or.inl rfl) (pe_op op_add pe_int (pe_call GT hr (by rfl) gT kT bT .nil pass0 (pa_cons (pv 0) (pa_cons pe_int pa_nil)))))
      (pss_cons (ps_set (i := 2) scMarks.nd rfl (Or.inr rfl) (pe_call GT hr (by rfl) gT kT bT .nil pass0 (pa_cons (pv 0) (pa_cons (pv 1) pa_nil))))
      (pss_cons (ps_set (i := 3) scMarks.nd rfl (Or.inr rfl) (pe_lc (own := [("_law_j", 7)]) (g := gName 7) (tt := tYes) (by rfl) scMarks.nd (pi_range1 (by rfl) mRange (pa_cons (pv 1) pa_nil)) (blkOk_by (N := nMarks) (sc := defScope sMarks) (by decide +kernel)) (fun _ _ _ _ _ => pg_name (i := 7) scMarks.nd rfl (Or.inl rfl)) (fun _ _ _ _ _ => pts_nil)
          (fun _ _ _ _ _ => pe_call GT hr (by rfl) gT kT bT .nil pass0 (pa_cons (pv 0) (pa_cons pe_int pa_nil)))))
      (pss_cons (ps_set (i := 4) scMarks.nd rfl (Or.inl rfl) (pe_lst pa_nil))
      (pss_cons (ps_for PassesOwn.never rfl (pi_range1 (by rfl) mRange (pa_cons (pe_op op_add pe_int (pe_call GT hr (by rfl) gT kT bT .nil pass0 (pa_cons (pv 0) (pa_cons pe_int pa_nil)))) pa_nil)) (pg_name (i := 5) scMarks.nd rfl (Or.inr rfl))
        (pss_cons (ps_setLc (i := 6) (own := [("_law_j", 7)]) (g := gName 7) (tt := tYes) (by rfl) scMarks.nd rfl rfl (sw_true rfl rfl rfl (by decide +kernel)) (pi_range1 (by rfl) mRange (pa_cons (pv 1) pa_nil)) (blkOk_by (N := nMarks) (sc := defScope sMarks) (by decide +kernel)) (fun _ _ _ _ _ => pg_name (i := 7) scMarks.nd rfl (Or.inl rfl)) (fun _ _ _ _ _ => pts_nil)
          (fun _ _ _ _ _ => pe_op op_modN (pe_op op_add (pe_ix (ixl (K := K) rfl) (pv 3) (pv 7) (fun _ _ => rfl)) (pe_op op_mul (pe_op op_mul pe_int (pv 5)) (pe_callTy call_int1 (by rfl) mInt (by decide +kernel) (pa_cons (pe_cmpR op_eq (pv 7) (pv 2) (nomark _)) pa_nil)))) pe_int))
        (pss_one (ps_expr (pe_bm PySem.F.plainAttrs_list PySem.F.slot_list_append PySem.F.type_list_append mt_append (pv 4) (pa_cons (pe_join pe_str (pe_lc (own := [("_law_place", 8)]) (g := gName 8) (tt := tYes) (by rfl) scMarks.nd (pi_list (pv 6)) (blkOk_by (N := nMarks) (sc := defScope sMarks) (by decide +kernel)) (fun _ _ _ _ _ => pg_name (i := 8) scMarks.nd rfl (Or.inl rfl)) (fun _ _ _ _ _ => pts_nil)
          (fun _ _ _ _ _ => pe_ix ix_str pe_str (pv 8) (fun _ _ => rfl)))) pa_nil))))))
      (pss_one (ps_ret (pv 4))))))), ?_⟩
    refine ⟨_, rfl, p, 6, rfl, hp, by decide, by decide, fun sz H1 z0 z1 hp1 e1 => ⟨_, _, rfl, rfl, ?_⟩⟩
    refine ⟨_, rfl, _, rfl, p, 1 + sz, rfl, hp1, by omega, by omega, fun at' H2 a0 a1 hp2 e2 => ?_⟩
    refine ⟨_, rfl, 1 + sz, rfl, by omega, by omega, fun D hD => lc_range (lo := 0) (n := (1 + sz).toNat) (fun i H' => ∃ ys : List Int, H' D = some (.lst (ys.map V.int)) ∧ ys.length = i ∧ (∀ y ∈ ys, 0 ≤ y ∧ y < 26) ∧ PoolAt H' p ∧ Kept p H2 H') ⟨[], upd_same, rfl, by simp, hp2.upd hD, kept_same (same_new hD)⟩ ?_ ?_⟩
    · have nD := hp2.ne hD
      rintro i H' hi ⟨ys, hy, hl, hz, hq, kk⟩
      refine ⟨rfl, ?_⟩
      unfold tYes
      dsimp only
      rw [if_pos rfl]
      refine ⟨_, rfl, p, 26, rfl, hq, by decide, by decide, fun r H5 r0 r1 hp5 e5 => ?_⟩
      refine ⟨_, (e5 D nD).trans hy, small1000 (by rw [List.length_map]; omega), ys ++ [r], ?_, by rw [List.length_append, hl]; rfl, ?_, ?_, ?_⟩
      · rw [upd_same, List.map_append] <;> rfl
      · intro y m
        rcases List.mem_append.mp m with m | m
        · exact hz y m
        · rw [List.mem_singleton.mp m]
          exact ⟨r0, r1⟩
      · obtain ⟨c1, n1, z1, z2, z3⟩ := hp5
        exact ⟨c1, n1, by rw [upd_ne nD.symm]; exact z1, z2, z3⟩
      · intro b o nb e
        rw [upd_ne (ne_of_none e hD)]
        exact (e5 b nb).trans (kk b o nb e)
    · rintro H3 ⟨ys, hy, hl, hz, hp3, k3⟩
      have nD := hp2.ne hD
      have k1 := kept_take e1
      have k2 := k1.trans (kept_take e2)
      refine ⟨by show 0 ≤ sizeLine; decide, fun Fd hFd => ?_⟩
      have sF := same_new (o := .lst []) hFd
      have nF := hp3.ne hFd
      have nFD : Fd ≠ D := fun z => by rw [z, hy] at hFd; cases hFd
      refine ⟨_, rfl, p, 4, rfl, hp3.same sF, by decide, by decide, fun q H4 q0 q1 hp4 e4 => ⟨_, _, rfl, rfl, 1 + q, rfl, by omega, by omega, ?_⟩⟩
      have out : ∀ {X : Addr}, X ≠ p → H3 X = none → H X = none := fun {X} nx e => by
        cases z : H X with
        | none => rfl
        | some o =>
          have := k3 X o nx (k2 X o nx z)
          rw [e] at this
          cases this
      have D0 : H D = none := by
        cases z : H D with
        | none => rfl
        | some o =>
          have := k2 D o nD z
          rw [hD] at this
          cases this
      have F0 := out nF hFd
      have kk4 : Kept p H H4 := ((k2.trans k3).trans (kept_same sF)).trans (kept_take e4)
      refine for_range (lo := 0) (n := (1 + q).toNat) (fun i σ H' => ∃ (i5 i6 : Option V) (zs : List Str), σ = [some (.ref p), some (.int (1 + sz)), some (.int at'), some (.ref D), some (.ref Fd), i5, i6, none, none] ∧ H' D = some (.lst (ys.map V.int)) ∧ H' Fd = some (.lst (zs.map V.str)) ∧ zs.length = i ∧ (∀ z ∈ zs, PyData.strOk z = true) ∧ PoolAt H' p ∧ Kept p H H')
        ⟨none, none, [], rfl, (e4 D nD).trans (sF _ _ hy), (e4 Fd nF).trans upd_same, rfl, by simp, hp4, kk4⟩ ?_ ?_
      · rintro i σ H5 hi ⟨i5, i6, zs, rfl, r1, r2, r3, r3', r4, r5⟩
        rw [Int.zero_add]
        refine ⟨_, rfl, 1 + sz, rfl, by omega, by omega, fun PL hPL => lc_range (lo := 0) (n := (1 + sz).toNat) (fun j H' => ∃ xs : List Int, H' PL = some (.lst (xs.map V.int)) ∧ xs.length = j ∧ (∀ y ∈ xs, 0 ≤ y ∧ y < 26) ∧ Same H5 H') ⟨[], upd_same, rfl, by simp, same_new hPL⟩ ?_ ?_⟩
        · rintro j H6 hj ⟨xs, x1, x2, x3, x4⟩
          rw [Int.zero_add]
          refine ⟨rfl, ?_⟩
          unfold tYes
          dsimp only
          rw [if_pos rfl]
          have hjl : j < ys.length := by omega
          have hyj : (ys.map V.int)[j]? = some (.int ys[j]) := by
            rw [List.getElem?_map, List.getElem?_eq_getElem hjl] <;> rfl
          refine ⟨_, rfl, _, rfl, D, _, _, _, rfl, rfl, SqL.of (x4 _ _ r1), atI_nat (j := j) hyj, _, rfl, _, _, rfl, rfl, .inl ⟨by decide, by decide⟩, _, rfl, _, rfl, rfl, .inr ⟨_, rfl, ?_⟩⟩
          obtain ⟨bt, hbt, bt0, bt1⟩ : ∃ bt : Int, (if decide (V.int (j : Int) = V.int at') = true then (1 : Int) else 0) = bt ∧ 0 ≤ bt ∧ bt ≤ 1 := ⟨_, rfl, by split <;> decide, by split <;> decide⟩
          rw [hbt]
          have N := nm_nat (x := ys[j] + 5 * (i : Int) * bt) (m := 26) (by decide)
          refine ⟨_, _, rfl, rfl, .inl ⟨by omega, by omega⟩, _, _, rfl, rfl, _, _, rfl, rfl, (by show (26 : Int) ≠ 0; decide), _, x1, small1000 (by rw [List.length_map]; omega), xs ++ [(ys[j] + 5 * (i : Int) * bt).fmod 26], ?_, by rw [List.length_append, x2]; rfl, ?_, fun b o e => (upd_ne (ne_of_none e hPL)).trans (x4 b o e)⟩
          · rw [upd_same, List.map_append] <;> rfl
          · intro y m
            rcases List.mem_append.mp m with m | m
            · exact x3 y m
            · rw [List.mem_singleton.mp m]
              exact N
        · rintro H6 ⟨xs, x1, x2, x3, x4⟩
          refine ⟨_, rfl, .inl ⟨rfl, _, .inl (.inl (x4 _ _ r2))⟩, ⟨_, rfl⟩, _, rfl, PL, rfl, ⟨_, SqL.of x1⟩, fun D2 hD2 => lc_list (K := K) (a := PL) (xs := xs.map V.int) (fun j H' => ∃ us : List Str, H' D2 = some (.lst (us.map V.str)) ∧ us.length = j ∧ (∀ y ∈ us, y.length ≤ 1 ∧ PyData.strOk y = true) ∧ Same H6 H') ⟨[], upd_same, rfl, by simp, same_new hD2⟩ (fun j H' _ ⟨_, _, _, _, q⟩ => SqL.of (q _ _ x1)) ?_ ?_⟩
          · rintro j y H7 hy7 ⟨us, u1, u2, u3, u4⟩
            rw [List.getElem?_map] at hy7
            obtain ⟨n, hn, rfl⟩ := Option.map_eq_some_iff.mp hy7
            obtain ⟨n0, n1⟩ := x3 n (List.mem_of_getElem? hn)
            have jl := (List.getElem?_eq_some_iff.mp hn).1
            refine ⟨rfl, ?_⟩
            unfold tYes
            dsimp only
            rw [if_pos rfl]
            obtain ⟨c, hc, mc⟩ := at_any (xs := (("abcdefghijklmnopqrstuvwxyz" : Str)).cps.toList) n0 (by rw [letters26]; exact n1)
            refine ⟨_, rfl, _, _, c, rfl, rfl, (by decide +kernel), hc, _, u1, small1000 (by rw [List.length_map]; omega), us ++ [⟨#[c]⟩], ?_, by rw [List.length_append, u2]; rfl, ?_, fun b o e => (upd_ne (ne_of_none e hD2)).trans (u4 b o e)⟩
            · rw [upd_same, List.map_append] <;> rfl
            · intro y m
              rcases List.mem_append.mp m with m | m
              · exact u3 y m
              · rw [List.mem_singleton.mp m]
                refine ⟨Nat.le_refl _, (strOk_iff _).mpr fun x hx => ?_⟩
                rw [List.mem_singleton.mp hx]
                exact letters_ok c mc
          · rintro H7 ⟨us, u1, u2, u3, u4⟩
            rw [List.length_map] at u2
            have ss := sum_short us fun y hy => (u3 y hy).1
            refine ⟨_, D2, us, rfl, rfl, .inl (SqL.of u1), ?_, ?_⟩
            · have e : (("" : Str)).length = 0 := by decide
              rw [e]
              exact small40 (by omega)
            · have s57 : Same H5 H7 := Same.trans x4 u4
              refine ⟨Fd, _, _, rfl, rfl, s57 _ _ r2, small1000 (by rw [List.length_map]; omega), ?_⟩
              refine ⟨_, _, zs ++ [Txt.join "" us], rfl, by rw [upd_ne (Ne.symm nFD)]; exact s57 _ _ r1, by rw [upd_same, List.map_append]; rfl, by rw [List.length_append, r3]; rfl, fun z hz => ?_, ?_, fun b o nb e => ?_⟩
              · rcases List.mem_append.mp hz with hz | hz
                · exact r3' z hz
                · rw [List.mem_singleton.mp hz]
                  exact join_ok us fun y hy => (u3 y hy).2
              · obtain ⟨c1, n1, z1, z2, z3⟩ := r4
                exact ⟨c1, n1, by rw [upd_ne (Ne.symm nF)]; exact s57 _ _ z1, z2, z3⟩
              · rw [upd_ne (ne_of_none e F0)]
                exact s57 _ _ (r5 b o nb e)
      · rintro σ H5 ⟨i5, i6, zs, rfl, r1, r2, r3, r3', r4, r5⟩
        exact ⟨_, rfl, k Fd zs H5 r2 (by omega) (by omega) r3' r4 r5 nF⟩
end
mutual
def Tr.grows : Tr → Prop
  | .mk ms f => f.grown ms ∧ True
def Fo.grown : Fo → List Str → Prop
  | .nil, _ => True
  | .cons t f, ms => (∀ m ∈ ms, m ∈ t.ms) ∧ t.grows ∧ f.grown ms
end
theorem Fo.grown_mem : ∀ (f : Fo) (ms : List Str), f.grown ms → ∀ t ∈ f.list, (∀ m ∈ ms, m ∈ t.ms) ∧ t.grows
  | .nil, _, _, t, h => by simp [Fo.list] at h
  | .cons x f, ms, g, t, h => by
    unfold Fo.grown at g
    rcases List.mem_cons.mp h with rfl | h
    · exact ⟨g.1, g.2.1⟩
    · exact Fo.grown_mem f ms g.2.2 t h
theorem all_self (t : Tr) : t ∈ t.all := by
  cases t with
  | mk ms f =>
    unfold Tr.all
    exact List.mem_cons_self
/-- all above are above those that are above -/
theorem all_trans : ∀ (n : Nat) (t u x : Tr), t.size ≤ n → u ∈ t.all → x ∈ u.all → x ∈ t.all := by
  intro n
  induction n with
  | zero =>
    intro t u x h
    have := t.pos
    omega
  | succ n ih =>
    rintro ⟨ms, f⟩ u x h hu hx
    unfold Tr.all at hu ⊢
    rcases List.mem_cons.mp hu with rfl | hu
    · unfold Tr.all at hx
      exact hx
    · obtain ⟨c, hc, hcu⟩ := (Fo.mem_all f u).mp hu
      have sz := Fo.mem_size f c hc
      have h : f.size + 1 ≤ n + 1 := h
      exact List.mem_cons_of_mem _ ((Fo.mem_all f x).mpr ⟨c, hc, ih c u x (by omega) hcu hx⟩)
theorem marks_up : ∀ (n : Nat) (t u : Tr), t.size ≤ n → t.grows → u ∈ t.all → (∀ m ∈ t.ms, m ∈ u.ms) := by
  intro n
  induction n with
  | zero =>
    intro t u h
    have := t.pos
    omega
  | succ n ih =>
    rintro ⟨ms, f⟩ u h g hu
    unfold Tr.all at hu
    rcases List.mem_cons.mp hu with rfl | hu
    · exact fun m hm => hm
    · obtain ⟨c, hc, hcu⟩ := (Fo.mem_all f u).mp hu
      have sz := Fo.mem_size f c hc
      have h : f.size + 1 ≤ n + 1 := h
      unfold Tr.grows at g
      have q := Fo.grown_mem f ms g.1 c hc
      exact fun m hm => ih c u (by omega) q.2 hcu m (q.1 m hm)
theorem frc_to (k l : Kd) (t : Tr) : frc (.two true k l) t = true ↔ ∀ u ∈ t.all, frc k u = true → frc l u = true := by
  show (t.all.all fun u => frc l u || !frc k u) = true ↔ _
  rw [List.all_eq_true]
  refine ⟨fun h u hu hk => ?_, fun h u hu => ?_⟩
  · have := h u hu
    rw [hk] at this
    simpa using this
  · cases e : frc k u with
    | false => simp
    | true => simp [h u hu e]
theorem frc_both (k l : Kd) (t : Tr) : frc (.two false k l) t = (frc k t && frc l t) := rfl
/-- what holds stays -/
theorem frc_up {t : Tr} (g : t.grows) : ∀ (k : Kd) (u : Tr), u ∈ t.all → frc k t = true → frc k u = true
  | .one, _, _, _ => rfl
  | .mark m, u, hu, h => decide_eq_true (marks_up _ t u (Nat.le_refl _) g hu m (of_decide_eq_true h))
  | .two true k l, u, hu, h => by
    rw [frc_to] at h ⊢
    exact fun x hx => h x (all_trans _ t u x (Nat.le_refl _) hu hx)
  | .two false k l, u, hu, h => by
    rw [frc_both, Bool.and_eq_true] at h ⊢
    exact ⟨frc_up g k u hu h.1, frc_up g l u hu h.2⟩
theorem grows_all : ∀ (n : Nat) (t u : Tr), t.size ≤ n → t.grows → u ∈ t.all → u.grows := by
  intro n
  induction n with
  | zero =>
    intro t u h
    have := t.pos
    omega
  | succ n ih =>
    rintro ⟨ms, f⟩ u h g hu
    unfold Tr.all at hu
    rcases List.mem_cons.mp hu with rfl | hu
    · exact g
    · obtain ⟨c, hc, hcu⟩ := (Fo.mem_all f u).mp hu
      have sz := Fo.mem_size f c hc
      have h : f.size + 1 ≤ n + 1 := h
      unfold Tr.grows at g
      exact ih c u (by omega) (Fo.grown_mem f ms g.1 c hc).2 hcu
theorem fo_flat : ∀ g : Fo, g.all = (g.list.map Tr.all).flatten
  | .nil => rfl
  | .cons t f => by
    have h := fo_flat f
    unfold Fo.all Fo.list
    rw [h, List.map_cons, List.flatten_cons]
mutual
theorem all_len : ∀ t : Tr, t.all.length = t.size
  | .mk ms f => by
    unfold Tr.all Tr.size
    rw [List.length_cons, fo_len f]
theorem fo_len : ∀ f : Fo, f.all.length = f.size
  | .nil => rfl
  | .cons t f => by
    unfold Fo.all Fo.size
    rw [List.length_append, all_len t, fo_len f]
end
theorem flat_take {α β : Type} (g : α → List β) (L : List α) (i : Nat) : (((L.take i).map g).flatten).length ≤ ((L.map g).flatten).length := by
  have e : L.map g = (L.take i).map g ++ (L.drop i).map g := by rw [← List.map_append, List.take_append_drop]
  rw [e, List.flatten_append, List.length_append]
  omega
/-- what stands in H' and not in H -/
def frsh (H H' : Hp) : Hp := fun b => if (H b).isSome then none else H' b
theorem frsh_some {H H' : Hp} {b : Addr} {o : HO} : frsh H H' b = some o ↔ H b = none ∧ H' b = some o := by
  unfold frsh
  cases e : H b with
  | none => simp
  | some x => simp
theorem frsh_same {H0 H1 H2 H3 : Hp} (d : ∀ b, H0 b = none → H2 b = none) (k : ∀ b o, H0 b = none → H1 b = some o → H3 b = some o) : Same (frsh H0 H1) (frsh H2 H3) := fun b o e => by
  obtain ⟨e1, e2⟩ := frsh_some.mp e
  exact frsh_some.mpr ⟨d b e1, k b o e1 e2⟩
theorem frsh_sub {H0 H1 H3 : Hp} (k : ∀ b o, H0 b = none → H1 b = some o → H3 b = some o) : Same (frsh H0 H1) H3 := fun b o e => by
  obtain ⟨e1, e2⟩ := frsh_some.mp e
  exact k b o e1 e2
theorem kept_dom {p : Addr} {H H' : Hp} (k : Kept p H H') (hp : ∃ o, H' p = some o) : ∀ b, H' b = none → H b = none := fun b e => by
  cases z : H b with
  | none => rfl
  | some o =>
    by_cases hb : b = p
    · obtain ⟨x, hx⟩ := hp
      rw [hb, hx] at e
      cases e
    · rw [k b o hb z] at e
      cases e
theorem PoolAt.some {H : Hp} {p : Addr} (h : PoolAt H p) : ∃ o, H p = some o := by
  obtain ⟨c, n, e, _⟩ := h
  exact ⟨_, e⟩
def szT : Nat → Nat
  | 0 => 1
  | r + 1 => 1 + 2 * szT r
def ofL : List Tr → Fo
  | [] => .nil
  | t :: ts => .cons t (ofL ts)
theorem ofL_at {H : Hp} : ∀ (ts : List Tr) (us : List V), All2 (TrAt H) ts us → FoAt H (ofL ts) us
  | [], [], _ => by
    unfold ofL FoAt
    rfl
  | t :: ts, u :: us, ⟨h, r⟩ => by
    unfold ofL FoAt
    exact ⟨u, us, rfl, h, ofL_at ts us r⟩
  | [], _ :: _, h => h.elim
  | _ :: _, [], h => h.elim
theorem ofL_grown {ms : List Str} : ∀ ts : List Tr, (∀ t ∈ ts, (∀ m ∈ ms, m ∈ t.ms) ∧ t.grows) → (ofL ts).grown ms
  | [], _ => by
    unfold ofL Fo.grown
    trivial
  | t :: ts, h => by
    unfold ofL Fo.grown
    have q := h t (by simp)
    exact ⟨q.1, q.2, ofL_grown ts fun x hx => h x (List.mem_cons_of_mem _ hx)⟩
theorem ofL_size {n : Nat} : ∀ ts : List Tr, (∀ t ∈ ts, t.size ≤ n) → (ofL ts).size ≤ ts.length * n
  | [], _ => by
    unfold ofL Fo.size
    omega
  | t :: ts, h => by
    unfold ofL Fo.size
    have q := h t (by simp)
    have r := ofL_size ts fun x hx => h x (List.mem_cons_of_mem _ hx)
    rw [List.length_cons, Nat.add_mul]
    omega
/-- the marks of all worlds are of these -/
def tOk (ms : List Str) (t : Tr) : Prop := ∀ u ∈ t.all, (∀ m ∈ u.ms, m ∈ ms) ∧ u.ms.length ≤ ms.length
theorem ofL_list : ∀ ts : List Tr, (ofL ts).list = ts
  | [] => rfl
  | t :: ts => congrArg (t :: ·) (ofL_list ts)
theorem tOk.mk {ms os : List Str} {ts : List Tr} (h1 : ∀ m ∈ os, m ∈ ms) (h2 : os.length ≤ ms.length) (h : ∀ t ∈ ts, tOk ms t) : tOk ms (.mk os (ofL ts)) := fun u hu => by
  unfold Tr.all at hu
  rcases List.mem_cons.mp hu with rfl | hu
  · exact ⟨h1, h2⟩
  · obtain ⟨t, ht, hut⟩ := (Fo.mem_all _ u).mp hu
    rw [ofL_list] at ht
    exact h t ht u hut
def spTree (n : Nat) : Sp := fun vs H Q _ => ∃ (p M G : Addr) (r : Nat) (ms had : List Str), vs = [.ref p, .ref M, .ref G, .int (r : Int)] ∧ PoolAt H p ∧ r < n ∧ H M = some (.lst (ms.map V.str)) ∧ ms.length ≤ 60 ∧ H G = some (.lst (had.map V.str)) ∧ (∀ m ∈ had, m ∈ ms) ∧
  ∀ (v : V) (t : Tr) (H' : Hp), TrAt (frsh H H') t v → t.grows → (∀ m ∈ had, m ∈ t.ms) → t.size ≤ szT r → tOk ms t → PoolAt H' p → Kept p H H' → Q v H'
section
variable {P : Program} {w : World} {K : PySem.W.Frag} {mg : Str → Option Value} {base : Heap}
abbrev nTree : List Str := ["_law_pool_here", "_law_marks_here", "_law_had", "_law_room", "_law_own", "_law_many", "_law_mark", "_law_k"]
theorem scTree : FnScope nTree ["_law_pool_here", "_law_marks_here", "_law_had", "_law_room"] (defScope sTree) := ⟨rfl, rfl, rfl, by decide +kernel, rfl, by decide +kernel, by decide +kernel⟩
theorem ok_tree {f fT : Addr} {fd fdT : FuncData} (F : Fun K "_law_tree" "_law_tree" sTree f fd) (bF : Binds K fd ["_law_pool_here", "_law_marks_here", "_law_had", "_law_room"] []) (gF : mg "_law_tree" = some (.ref f))
    (GT : FnOk P w K mg base CX0 1 fT fdT ["_law_pool_here", "_law_many"] spTake) (kT : PySem.W.keepIn K (.ref fT) = true) (bT : Binds K fdT ["_law_pool_here", "_law_many"] []) (gT : mg "_law_take" = some (.ref fT))
    (mRange : mg "range" = none) (mInt : mg "int" = none) (mSorted : mg "sorted" = none) : ∀ n : Nat, FnOk P w K mg base CX0 (n + 2) f fd ["_law_pool_here", "_law_marks_here", "_law_had", "_law_room"] (spTree n) := by
  intro n
  induction n with
  | zero =>
    refine F.ok scTree (fun vs H Q E h => ?_) (fun cdv A outer s H vs Q E hr h => ?_)
    · obtain ⟨p, M, G, r, ms, had, rfl, _⟩ := h
      rfl
    · obtain ⟨p, M, G, r, ms, had, _, _, h0, _⟩ := h
      omega
  | succ n GR =>
    refine F.ok scTree (fun vs H Q E h => ?_) (fun cdv A outer s H vs Q E hr h => ?_)
    · obtain ⟨p, M, G, r, ms, had, rfl, _⟩ := h
      rfl
    · obtain ⟨p, M, G, r, ms, had, rfl, hp, hrn, hM, ml, hG, hsub, k⟩ := h
      have hr1 : Room 1 _ := hr.mono (by omega)
      refine ⟨_, pss_cons (ps_set (i := 4) scTree.nd rfl (Or.inr rfl) (pe_lc (own := [("_law_mark", 6)]) (g := gName 6) (by rfl) scTree.nd (pi_list (pe_callB cr_sortedS (by rfl) mSorted (by decide +kernel) (pa_cons (pv 1) pa_nil))) (blkOk_by (N := nTree) (sc := defScope sTree) (by decide +kernel)) (fun _ _ _ _ _ => pg_name (i := 6) scTree.nd rfl (Or.inl rfl))
          (fun _ _ _ _ _ => pts_one (PW.pt (pw_or (pt_cmpR (in_at (K := K) rfl) (pv 6) (pv 2) (by rfl)) (pw_or1 (pt_cmpR op_eq (pe_call GT hr1 (by rfl) gT kT bT .nil pass0 (pa_cons (pv 0) (pa_cons pe_int pa_nil))) pe_int (nomark _))))))
          (fun _ _ _ _ _ => pv 6)))
        (pss_cons (ps_set (i := 5) scTree.nd rfl (Or.inl rfl) (pe_op op_mul (pe_call GT hr1 (by rfl) gT kT bT .nil pass0 (pa_cons (pv 0) (pa_cons pe_int pa_nil))) (pe_callTy call_int1 (by rfl) mInt (by decide +kernel) (pa_cons (pe_cmpR op_gt (pv 3) pe_int (nomark _)) pa_nil))))
        (pss_one (ps_ret (pe_tup (pa_cons (pv 4) (pa_cons (pe_lc (own := [("_law_k", 7)]) (g := gName 7) (tt := tYes) (by rfl) scTree.nd (pi_range1 (by rfl) mRange (pa_cons (pv 5) pa_nil)) (blkOk_by (N := nTree) (sc := defScope sTree) (by decide +kernel)) (fun _ _ _ _ _ => pg_name (i := 7) scTree.nd rfl (Or.inl rfl)) (fun _ _ _ _ _ => pts_nil)
          (fun _ _ _ _ _ => pe_call GR hr (by rfl) gF F.kp bF .nil pass0 (pa_cons (pv 0) (pa_cons (pv 1) (pa_cons (pv 4) (pa_cons (pe_op op_sub (pv 3) pe_int) pa_nil)))))) pa_nil)))))), ?_⟩
      have nM := pool_marks hp hM
      have nG := pool_marks hp hG
      refine ⟨_, rfl, M, ms, rfl, SqL.of hM, by omega, fun ys S perm _ hS => ?_⟩
      have sS := same_new (o := .lst (ys.map V.str)) hS
      have yl := perm.length_eq
      refine ⟨S, rfl, ⟨_, SqL.of upd_same⟩, fun D hD => ?_⟩
      have nS : S ≠ p := fun z => by
        obtain ⟨o, e⟩ := hp.some
        rw [z, e] at hS
        cases hS
      have nD : D ≠ p := (hp.same sS).ne hD
      refine lc_list (K := K) (a := S) (xs := ys.map V.str) (fun j H' => ∃ os : List Str, H' D = some (.lst (os.map V.str)) ∧ ((∀ m ∈ ys.take j, m ∈ had → m ∈ os) ∧ ∀ m ∈ os, m ∈ ys) ∧ os.length ≤ j ∧ PoolAt H' p ∧ Kept p (upd H S (.lst (ys.map V.str))) H') ⟨[], upd_same, ⟨by simp, by simp⟩, by simp, (hp.same sS).upd hD, kept_same (same_new hD)⟩ (fun j H' _ ⟨_, _, _, _, _, q⟩ => SqL.of (q S _ nS upd_same)) ?_ ?_
      · rintro j y H' hy ⟨os, o1, o2, o3, o4, o5⟩
        rw [List.getElem?_map] at hy
        obtain ⟨m, hm, rfl⟩ := Option.map_eq_some_iff.mp hy
        have jl := (List.getElem?_eq_some_iff.mp hm).1
        refine ⟨rfl, ?_⟩
        have hG' := o5 G _ nG (sS _ _ hG)
        have ts : ys.take (j + 1) = ys.take j ++ [m] := by
          rw [List.take_add_one, hm] <;> rfl
        have add : ∀ H3 : Hp, H3 D = some (.lst (os.map V.str)) → PoolAt H3 p → Kept p (upd H S (.lst (ys.map V.str))) H3 → ∃ acc, H3 D = some (.lst acc) ∧ acc.length < sizeLine ∧ ∃ os' : List Str, (upd H3 D (.lst (acc ++ [.str m]))) D = some (.lst (os'.map V.str)) ∧ ((∀ x ∈ ys.take (j + 1), x ∈ had → x ∈ os') ∧ ∀ x ∈ os', x ∈ ys) ∧ os'.length ≤ j + 1 ∧
            PoolAt (upd H3 D (.lst (acc ++ [.str m]))) p ∧ Kept p (upd H S (.lst (ys.map V.str))) (upd H3 D (.lst (acc ++ [.str m]))) := fun H3 h3 hp3 k3 => by
          refine ⟨_, h3, small1000 (by rw [List.length_map]; omega), os ++ [m], by rw [upd_same, List.map_append] <;> rfl, ⟨fun x hx hh => ?_, fun x hx => ?_⟩, ?_, ?_, fun b o nb e => ?_⟩
          · rw [ts] at hx
            rcases List.mem_append.mp hx with hx | hx
            · exact List.mem_append_left _ (o2.1 x hx hh)
            · exact List.mem_append_right _ hx
          · rcases List.mem_append.mp hx with hx | hx
            · exact o2.2 x hx
            · rw [List.mem_singleton.mp hx]
              exact List.mem_of_getElem? hm
          · rw [List.length_append]
            exact Nat.add_le_add_right o3 1
          · obtain ⟨c1, n1, z1, z2, z3⟩ := hp3
            exact ⟨c1, n1, by rw [upd_ne (Ne.symm nD)]; exact z1, z2, z3⟩
          · rw [upd_ne (ne_of_none e hD)]
            exact k3 b o nb e
        refine ⟨_, rfl, _, rfl, G, _, rfl, .inl (SqL.of hG'), rfl, all_flat had, _, rfl, ?_⟩
        refine ite2 (fun hin => ?_) (fun hout => ?_)
        · exact ⟨_, rfl, add H' o1 o4 o5⟩
        · have nin : m ∉ had := fun z => hout (by
            show inV (.str m) (had.map V.str) = true
            rw [inV_marks]
            exact decide_eq_true z)
          refine ⟨_, rfl, p, 3, rfl, o4, by decide, by decide, fun q H3 q0 q1 hp3 e3 => ?_⟩
          refine ⟨rfl, _, rfl, ?_⟩
          have k3 := o5.trans (kept_take e3)
          refine ite2 (fun _ => ⟨_, rfl, add H3 ((e3 D nD).trans o1) hp3 k3⟩) (fun _ => ⟨os, (e3 D nD).trans o1, ⟨fun x hx hh => ?_, o2.2⟩, by omega, hp3, k3⟩)
          rw [ts] at hx
          rcases List.mem_append.mp hx with hx | hx
          · exact o2.1 x hx hh
          · rw [List.mem_singleton.mp hx] at hh
            exact absurd hh nin
      · rintro H2 ⟨os, o1, o2, o3, o4, o5⟩
        have all : ∀ m ∈ had, m ∈ os := fun m hm => by
          rw [List.length_map, List.take_length] at o2
          exact o2.1 m (perm.mem_iff.mpr (hsub m hm)) hm
        rw [List.length_map] at o3
        have k2 : Kept p H H2 := (kept_same sS).trans o5
        refine ⟨_, rfl, p, 3, rfl, o4, by decide, by decide, fun q H3 q0 q1 hp3 e3 => ?_⟩
        have k3 := k2.trans (kept_take e3)
        refine ⟨_, rfl, _, _, rfl, rfl, .inr ⟨_, rfl, ?_⟩⟩
        obtain ⟨bt, hbt, bt0, bt1⟩ : ∃ bt : Int, (if decide ((0 : Int) < (r : Int)) = true then (1 : Int) else 0) = bt ∧ 0 ≤ bt ∧ bt ≤ 1 := ⟨_, rfl, by split <;> decide, by split <;> decide⟩
        have mz : r = 0 → bt = 0 := fun z => by
          rw [← hbt, z]
          rfl
        rw [hbt]
        obtain ⟨mn, hmn, mn2, mn0⟩ : ∃ mn : Nat, q * bt = (mn : Int) ∧ mn ≤ 2 ∧ (r = 0 → mn = 0) := by
          obtain rfl | rfl : bt = 0 ∨ bt = 1 := by omega
          · exact ⟨0, by omega, by omega, fun _ => rfl⟩
          · exact ⟨q.toNat, by omega, by omega, fun z => by have := mz z; omega⟩
        refine ⟨_, _, rfl, rfl, .inl ⟨by omega, by omega⟩, ?_⟩
        refine ⟨_, rfl, _, rfl, (mn : Int), by rw [← hmn] <;> rfl, by omega, by omega, fun D2 hD2 => lc_range (lo := 0) (n := (mn : Int).toNat) (fun j H' => ∃ (us : List V) (ts : List Tr), H' D2 = some (.lst us) ∧ All2 (TrAt (frsh (upd H3 D2 (.lst [])) H')) ts us ∧ ts.length = j ∧ (∀ t ∈ ts, ((∀ m ∈ os, m ∈ t.ms) ∧ t.grows) ∧ t.size ≤ szT (r - 1) ∧ tOk ms t) ∧ PoolAt H' p ∧ Kept p H3 H')
          ⟨[], [], upd_same, trivial, rfl, by simp, hp3.upd hD2, kept_same (same_new hD2)⟩ ?_ ?_⟩
        · have n2 := hp3.ne hD2
          rintro j H4 hj ⟨us, ts, u1, u2, u3, u4, u5, u6⟩
          have r1 : 1 ≤ r := by
            rcases Nat.eq_zero_or_pos r with z | z
            · have := mn0 z
              omega
            · exact z
          refine ⟨rfl, ?_⟩
          unfold tYes
          dsimp only
          rw [if_pos rfl]
          have er : ((r : Int) - 1) = ((r - 1 : Nat) : Int) := by omega
          refine ⟨_, rfl, _, rfl, _, rfl, _, rfl, _, _, rfl, rfl, p, M, D, r - 1, ms, os, by rw [← er]; rfl, u5, by omega, u6 _ _ nM (k3 _ _ nM hM), ml, u6 _ _ nD ((e3 D nD).trans o1), ?_, fun v t H5 t1 t2 t3 t4 t4' t5 t6 => ?_⟩
          · exact fun m hm => perm.mem_iff.mp (o2.2 m hm)
          have B4 : ∀ b, H4 b = none → (upd H3 D2 (.lst [])) b = none := fun b e => by
            have nb : b ≠ D2 := fun z => by rw [z, u1] at e; cases e
            rw [upd_ne nb]
            exact kept_dom u6 u5.some b e
          have B2 : ∀ b, (upd H3 D2 (.lst [])) b = none → b ≠ D2 ∧ b ≠ p := fun b e => by
            refine ⟨fun z => ?_, fun z => ?_⟩
            · rw [z, upd_same] at e
              cases e
            · obtain ⟨o, ho⟩ := hp3.some
              rw [z, upd_ne (Ne.symm n2), ho] at e
              cases e
          refine ⟨_, t6 _ _ n2 u1, small1000 (by have := u2.len; omega), us ++ [v], ts ++ [t], upd_same, ?_, by rw [List.length_append, u3]; rfl, fun x hx => ?_, ?_, fun b o nb e => ?_⟩
          · refine (u2.mono (TrAt.same (frsh_same (fun b e => e) fun b o e1 e2 => ?_))).app (ls := [t]) (us := [v]) ⟨TrAt.same (frsh_same B4 fun b o e1 e2 => ?_) _ _ t1, trivial⟩
            · obtain ⟨x1, x2⟩ := B2 b e1
              rw [upd_ne x1]
              exact t6 _ _ x2 e2
            · obtain ⟨x1, x2⟩ := B2 b (B4 b e1)
              rw [upd_ne x1]
              exact e2
          · rcases List.mem_append.mp hx with hx | hx
            · exact u4 x hx
            · rw [List.mem_singleton.mp hx]
              exact ⟨⟨t3, t2⟩, t4, t4'⟩
          · obtain ⟨c1, n1, z1, z2, z3⟩ := t5
            exact ⟨c1, n1, by rw [upd_ne (Ne.symm n2)]; exact z1, z2, z3⟩
          · rw [upd_ne (ne_of_none e hD2)]
            exact t6 _ _ nb (u6 _ _ nb e)
        · rintro H4 ⟨us, ts, u1, u2, u3, u4, u5, u6⟩
          have k4 := k3.trans u6
          have n2 := hp3.ne hD2
          refine ⟨by show 2 ≤ sizeLine; decide, fun a ha => ?_⟩
          have sa := same_new (o := .tup [.ref D, .ref D2]) ha
          have dH := kept_dom k4 u5.some
          have D0 : H D = none := by
            cases z : H D with
            | none => rfl
            | some o =>
              have := sS _ _ z
              rw [hD] at this
              cases this
          have D20 : H D2 = none := kept_dom k3 hp3.some D2 hD2
          have B1 : ∀ b, (upd H3 D2 (.lst [])) b = none → H b = none := fun b e => by
            have nb : b ≠ D2 := fun z => by rw [z, upd_same] at e; cases e
            rw [upd_ne nb] at e
            exact kept_dom k3 hp3.some b e
          refine k (.ref a) (.mk os (ofL ts)) _ ?_ ?_ all ?_ (tOk.mk (fun m hm => perm.mem_iff.mp (o2.2 m hm)) (by rw [← yl]; exact o3) fun t ht => (u4 t ht).2.2) (u5.same sa) (k4.trans (kept_same sa))
          · unfold TrAt
            refine ⟨a, D, D2, us, rfl, frsh_some.mpr ⟨dH a ha, upd_same⟩, frsh_some.mpr ⟨D0, sa _ _ (u6 _ _ nD ((e3 D nD).trans o1))⟩, frsh_some.mpr ⟨D20, sa _ _ u1⟩, ofL_at ts us (u2.mono (TrAt.same (frsh_same B1 fun b o e1 e2 => sa _ _ e2)))⟩
          · unfold Tr.grows
            exact ⟨ofL_grown ts fun t ht => (u4 t ht).1, trivial⟩
          · have z := ofL_size ts fun t ht => (u4 t ht).2.1
            show (ofL ts).size + 1 ≤ szT r
            have lt : ts.length = mn := by omega
            cases r with
            | zero =>
              have := mn0 rfl
              have : ts.length = 0 := by omega
              rw [this] at z
              show (ofL ts).size + 1 ≤ 1
              omega
            | succ r =>
              show (ofL ts).size + 1 ≤ 1 + 2 * szT r
              have : ts.length * szT (r + 1 - 1) ≤ 2 * szT r := Nat.mul_le_mul_right _ (by omega)
              omega
end
abbrev sLHolds : Stmt := top 11
abbrev sCop : Stmt := top 12
abbrev sPut : Stmt := top 13
abbrev sAsked : Stmt := top 14
abbrev sLaw' : Stmt := top 15
/-- so many marks, that may be laid -/
def MsOk (B : Nat) (ms : List Str) : Prop := ms.length ≤ B ∧ ∀ x ∈ ms, PyData.strOk x = true
theorem MsOk.le {B B' : Nat} {ms : List Str} (h : B ≤ B') (m : MsOk B ms) : MsOk B' ms := ⟨Nat.le_trans m.1 h, m.2⟩
/-! trees whose lists of marks may change: where M holds such lists stand, and no list of trees -/
mutual
def TrM (H : Hp) (M : Addr → Prop) (B : Nat) : Tr → V → Prop
  | .mk ms f, v => ∃ a m l us, v = .ref a ∧ H a = some (.tup [.ref m, .ref l]) ∧ H m = some (.lst (ms.map V.str)) ∧ (M m ∧ MsOk B ms) ∧ H l = some (.lst us) ∧ ¬ M l ∧ FoM H M B f us
def FoM (H : Hp) (M : Addr → Prop) (B : Nat) : Fo → List V → Prop
  | .nil, us => us = []
  | .cons t f, us => ∃ u r, us = u :: r ∧ TrM H M B t u ∧ FoM H M B f r
end
section
variable {H H' : Hp} {M M' : Addr → Prop} {B B' : Nat}
mutual
theorem TrM.at_ : ∀ (t : Tr) (v : V), TrM H M B t v → TrAt H t v
  | .mk ms f, v, h => by
    unfold TrM at h
    obtain ⟨a, m, l, us, e, h1, h2, _, h4, _, h6⟩ := h
    unfold TrAt
    exact ⟨a, m, l, us, e, h1, h2, h4, FoM.at_ f us h6⟩
theorem FoM.at_ : ∀ (f : Fo) (us : List V), FoM H M B f us → FoAt H f us
  | .nil, us, h => by
    unfold FoM at h
    unfold FoAt
    exact h
  | .cons t f, us, h => by
    unfold FoM at h
    obtain ⟨u, r, e, h1, h2⟩ := h
    unfold FoAt
    exact ⟨u, r, e, TrM.at_ t u h1, FoM.at_ f r h2⟩
end
mutual
theorem TrM.mono (s : Same H H') (hm : ∀ b o, H b = some o → (M' b ↔ M b)) (hb : B ≤ B') : ∀ (t : Tr) (v : V), TrM H M B t v → TrM H' M' B' t v
  | .mk ms f, v, h => by
    unfold TrM at h ⊢
    obtain ⟨a, m, l, us, e, h1, h2, ⟨h3, h3'⟩, h4, h5, h6⟩ := h
    exact ⟨a, m, l, us, e, s _ _ h1, s _ _ h2, ⟨(hm _ _ h2).mpr h3, h3'.le hb⟩, s _ _ h4, fun z => h5 ((hm _ _ h4).mp z), FoM.mono s hm hb f us h6⟩
theorem FoM.mono (s : Same H H') (hm : ∀ b o, H b = some o → (M' b ↔ M b)) (hb : B ≤ B') : ∀ (f : Fo) (us : List V), FoM H M B f us → FoM H' M' B' f us
  | .nil, us, h => by
    unfold FoM at h ⊢
    exact h
  | .cons t f, us, h => by
    unfold FoM at h ⊢
    obtain ⟨u, r, e, h1, h2⟩ := h
    exact ⟨u, r, e, TrM.mono s hm hb t u h1, FoM.mono s hm hb f r h2⟩
end
theorem TrM.same (s : Same H H') {t : Tr} {v : V} (h : TrM H M B t v) : TrM H' M B t v := TrM.mono s (fun _ _ _ => Iff.rfl) (Nat.le_refl B) t v h
mutual
theorem TrM.kept {p : Addr} (hp : PoolAt H p) (k : Kept p H H') : ∀ (t : Tr) (v : V), TrM H M B t v → TrM H' M B t v
  | .mk ms f, v, h => by
    unfold TrM at h ⊢
    obtain ⟨a, m, l, us, e, h1, h2, h3, h4, h5, h6⟩ := h
    refine ⟨a, m, l, us, e, tups_kept k hp _ _ h1, k _ _ (pool_marks hp h2) h2, h3, k _ _ (fun z => ?_) h4, h5, FoM.kept hp k f us h6⟩
    subst z
    obtain ⟨c, n, e, _⟩ := hp
    rw [e] at h4
    cases h4
    cases f with
    | nil =>
      unfold FoM at h6
      cases h6
    | cons t f =>
      unfold FoM at h6
      obtain ⟨u, r, e, h1, _⟩ := h6
      cases e
      obtain ⟨ms, g⟩ := t
      unfold TrM at h1
      obtain ⟨_, _, _, _, e, _⟩ := h1
      cases e
theorem FoM.kept {p : Addr} (hp : PoolAt H p) (k : Kept p H H') : ∀ (f : Fo) (us : List V), FoM H M B f us → FoM H' M B f us
  | .nil, us, h => by
    unfold FoM at h ⊢
    exact h
  | .cons t f, us, h => by
    unfold FoM at h ⊢
    obtain ⟨u, r, e, h1, h2⟩ := h
    exact ⟨u, r, e, TrM.kept hp k t u h1, FoM.kept hp k f r h2⟩
end
/-! a list of marks is exchanged for another one -/
mutual
theorem TrM.put {m0 : Addr} {xs : List V} {ns : List Str} (hM : M m0) (hm : H m0 = some (.lst xs)) (hn : MsOk B' ns) (hb : B ≤ B') : ∀ (t : Tr) (v : V), TrM H M B t v → ∃ t' : Tr, TrM (upd H m0 (.lst (ns.map V.str))) M B' t' v ∧ t'.size = t.size
  | .mk ms f, v, h => by
    unfold TrM at h
    obtain ⟨a, m, l, us, e, h1, h2, ⟨h3, h3'⟩, h4, h5, h6⟩ := h
    obtain ⟨f', g1, g2⟩ := FoM.put hM hm hn hb f us h6
    have na : a ≠ m0 := fun z => by rw [z, hm] at h1; cases h1
    have nl : l ≠ m0 := fun z => h5 (z ▸ hM)
    by_cases z : m = m0
    · refine ⟨.mk ns f', ?_, by unfold Tr.size; rw [g2]⟩
      unfold TrM
      exact ⟨a, m, l, us, e, by rw [upd_ne na]; exact h1, by rw [z, upd_same], ⟨h3, hn⟩, by rw [upd_ne nl]; exact h4, h5, g1⟩
    · refine ⟨.mk ms f', ?_, by unfold Tr.size; rw [g2]⟩
      unfold TrM
      exact ⟨a, m, l, us, e, by rw [upd_ne na]; exact h1, by rw [upd_ne z]; exact h2, ⟨h3, h3'.le hb⟩, by rw [upd_ne nl]; exact h4, h5, g1⟩
theorem FoM.put {m0 : Addr} {xs : List V} {ns : List Str} (hM : M m0) (hm : H m0 = some (.lst xs)) (hn : MsOk B' ns) (hb : B ≤ B') : ∀ (f : Fo) (us : List V), FoM H M B f us → ∃ f' : Fo, FoM (upd H m0 (.lst (ns.map V.str))) M B' f' us ∧ f'.size = f.size
  | .nil, us, h => by
    unfold FoM at h
    refine ⟨.nil, ?_, rfl⟩
    unfold FoM
    exact h
  | .cons t f, us, h => by
    unfold FoM at h
    obtain ⟨u, r, e, h1, h2⟩ := h
    obtain ⟨t', g1, g2⟩ := TrM.put hM hm hn hb t u h1
    obtain ⟨f', g3, g4⟩ := FoM.put hM hm hn hb f r h2
    refine ⟨.cons t' f', ?_, by unfold Fo.size; rw [g2, g4]⟩
    unfold FoM
    exact ⟨u, r, e, g1, g3⟩
end
theorem FoM.all2 : ∀ (f : Fo) (us : List V), FoM H M B f us → All2 (TrM H M B) f.list us
  | .nil, us, h => by
    unfold FoM at h
    subst h
    trivial
  | .cons t f, us, h => by
    unfold FoM at h
    obtain ⟨u, r, rfl, h1, h2⟩ := h
    exact ⟨h1, FoM.all2 f r h2⟩
theorem FoM.of2 : ∀ (f : Fo) (us : List V), All2 (TrM H M B) f.list us → FoM H M B f us
  | .nil, [], _ => by
    unfold FoM
    rfl
  | .nil, _ :: _, h => h.elim
  | .cons t f, u :: us, ⟨h1, h2⟩ => by
    unfold FoM
    exact ⟨u, us, rfl, h1, FoM.of2 f us h2⟩
  | .cons t f, [], h => h.elim
end
/-! the data of a tree -/
mutual
def Tr.data : Tr → PyData
  | .mk ms f => .tuple [.list (ms.map .str), .list f.data]
def Fo.data : Fo → List PyData
  | .nil => []
  | .cons t f => t.data :: f.data
end
theorem dp_strs {K : PySem.W.Frag} {H : Hp} : ∀ ms : List Str, DpAll K H (ms.map V.str) (ms.map .str)
  | [] => .nil
  | m :: ms => .cons (.str m) (dp_strs ms)
mutual
theorem Tr.dp {K : PySem.W.Frag} {H : Hp} : ∀ (t : Tr) (v : V), TrAt H t v → Dp K H v t.data
  | .mk ms f, v, h => by
    unfold TrAt at h
    obtain ⟨a, m, l, us, rfl, h1, h2, h3, h4⟩ := h
    unfold Tr.data
    exact .tup (SqT.of h1) (.cons (.lst (SqL.of h2) (dp_strs ms)) (.cons (.lst (SqL.of h3) (Fo.dp f us h4)) .nil))
theorem Fo.dp {K : PySem.W.Frag} {H : Hp} : ∀ (f : Fo) (us : List V), FoAt H f us → DpAll K H us f.data
  | .nil, us, h => by
    unfold FoAt at h
    subst h
    exact .nil
  | .cons t f, us, h => by
    unfold FoAt at h
    obtain ⟨u, r, rfl, h1, h2⟩ := h
    unfold Fo.data
    exact .cons (Tr.dp t u h1) (Fo.dp f r h2)
end
theorem can_strs {ms : List Str} (h : ∀ m ∈ ms, PyData.strOk m = true) : PyData.canLayAll0 (ms.map .str) = true := by
  rw [PyProof.Rows.canLayAll_strs', List.all_eq_true]
  exact h
theorem dep_strs : ∀ ms : List Str, PyData.depthAll (ms.map .str) = 0
  | [] => by
    rw [List.map_nil]
    simp only [PyData.depthAll]
  | m :: ms => by
    simp only [List.map_cons, PyData.depthAll, PyData.depth, dep_strs ms]
    rfl
theorem depthAll_nil : PyData.depthAll [] = 0 := by rw [PyData.depthAll]
theorem depthAll_cons (x : PyData) (xs : List PyData) : PyData.depthAll (x :: xs) = max x.depth (PyData.depthAll xs) := by rw [PyData.depthAll]
theorem depth_tup (xs : List PyData) : PyData.depth (.tuple xs) = PyData.depthAll xs + 1 := by rw [PyData.depth]
theorem depth_lst (xs : List PyData) : PyData.depth (.list xs) = PyData.depthAll xs + 1 := by rw [PyData.depth]
theorem can_tup (xs : List PyData) : PyData.canLay0 (.tuple xs) = PyData.canLayAll0 xs := by rw [PyData.canLay0]
theorem can_lst (xs : List PyData) : PyData.canLay0 (.list xs) = PyData.canLayAll0 xs := by rw [PyData.canLay0]
theorem canAll_nil : PyData.canLayAll0 [] = true := by rw [PyData.canLayAll0]
theorem canAll_cons (x : PyData) (xs : List PyData) : PyData.canLayAll0 (x :: xs) = (x.canLay0 && PyData.canLayAll0 xs) := by rw [PyData.canLayAll0]
mutual
theorem Tr.shape : ∀ t : Tr, (∀ u ∈ t.all, ∀ m ∈ u.ms, PyData.strOk m = true) → t.data.canLay0 = true ∧ t.data.depth ≤ 2 * t.size
  | .mk ms f, h => by
    have hf := Fo.shape f fun u hu => h u (by unfold Tr.all; exact List.mem_cons_of_mem _ hu)
    have hm : PyData.canLayAll0 (ms.map PyData.str) = true := can_strs fun m hm => h (.mk ms f) (all_self _) m hm
    unfold Tr.data Tr.size
    rw [can_tup, canAll_cons, canAll_cons, canAll_nil, can_lst, can_lst, hm, hf.1, depth_tup, depthAll_cons, depthAll_cons, depthAll_nil, depth_lst, depth_lst, dep_strs]
    have := hf.2
    exact ⟨rfl, by omega⟩
theorem Fo.shape : ∀ f : Fo, (∀ u ∈ f.all, ∀ m ∈ u.ms, PyData.strOk m = true) → PyData.canLayAll0 f.data = true ∧ PyData.depthAll f.data ≤ 2 * f.size
  | .nil, _ => by
    unfold Fo.data Fo.size
    rw [canAll_nil, depthAll_nil]
    exact ⟨rfl, by omega⟩
  | .cons t f, h => by
    have ht := Tr.shape t fun u hu => h u (by unfold Fo.all; exact List.mem_append_left _ hu)
    have hf := Fo.shape f fun u hu => h u (by unfold Fo.all; exact List.mem_append_right _ hu)
    unfold Fo.data Fo.size
    rw [canAll_cons, depthAll_cons, ht.1, hf.1]
    have := ht.2
    have := hf.2
    exact ⟨rfl, by omega⟩
end
mutual
theorem TrM.ok {H : Hp} {M : Addr → Prop} {B : Nat} : ∀ (t : Tr) (v : V), TrM H M B t v → ∀ u ∈ t.all, ∀ m ∈ u.ms, PyData.strOk m = true
  | .mk ms f, v, h, u, hu => by
    unfold TrM at h
    obtain ⟨a, m, l, us, e, h1, h2, ⟨_, h3⟩, h4, h5, h6⟩ := h
    unfold Tr.all at hu
    rcases List.mem_cons.mp hu with rfl | hu
    · exact h3.2
    · exact FoM.ok f us h6 u hu
theorem FoM.ok {H : Hp} {M : Addr → Prop} {B : Nat} : ∀ (f : Fo) (us : List V), FoM H M B f us → ∀ u ∈ f.all, ∀ m ∈ u.ms, PyData.strOk m = true
  | .nil, _, _, u, hu => by
    unfold Fo.all at hu
    cases hu
  | .cons t f, us, h, u, hu => by
    unfold FoM at h
    obtain ⟨x, r, e, h1, h2⟩ := h
    unfold Fo.all at hu
    rcases List.mem_append.mp hu with hu | hu
    · exact TrM.ok t x h1 u hu
    · exact FoM.ok f r h2 u hu
end
theorem isi_at {X : Cx} {K : PySem.W.Frag} (e : X.K = K) : CallR X (.builtin "isinstance") (rIsi K) := by
  rw [← e]
  exact call_isi
theorem boot_isi : bootBuiltins "isinstance" = some (.builtin "isinstance") := by decide +kernel
theorem boot_tupleT : bootBuiltins "tuple" = some (.type "tuple") := by decide +kernel
theorem boot_listT : bootBuiltins "list" = some (.type "list") := by decide +kernel
theorem boot_boolT : bootBuiltins "bool" = some (.type "bool") := by decide +kernel
theorem free_of {H H' : Hp} (s : Same H H') {b : Addr} (h : H' b = none) : H b = none := by
  cases z : H b with
  | none => rfl
  | some o =>
    have := s _ _ z
    rw [h] at this
    cases this
def spAll (n : Nat) : Sp := fun vs H Q _ => ∃ (v : V) (t : Tr) (M : Addr → Prop) (B : Nat), vs = [v] ∧ TrM H M B t v ∧ t.size ≤ n ∧ t.size ≤ 60 ∧
  ∀ (D : Addr) (us : List V) (H' : Hp), Same H H' → H D = none → H' D = some (.lst us) → All2 (TrM H' M B) t.all us → Q (.ref D) H'
section
variable {P : Program} {w : World} {K : PySem.W.Frag} {mg : Str → Option Value} {base : Heap}
theorem scAll : FnScope ["_law_tree_here", "_law_found", "_law_one"] ["_law_tree_here"] (defScope sAll) := ⟨rfl, rfl, rfl, by decide +kernel, rfl, by decide +kernel, by decide +kernel⟩
theorem ok_all {f : Addr} {fd : FuncData} (F : Fun K "_law_all" "_law_all" sAll f fd) (bF : Binds K fd ["_law_tree_here"] []) (gF : mg "_law_all" = some (.ref f)) : ∀ n : Nat, FnOk P w K mg base CX0 (n + 1) f fd ["_law_tree_here"] (spAll n) := by
  intro n
  induction n with
  | zero =>
    refine F.ok scAll (fun vs H Q E h => ?_) (fun cdv A outer s H vs Q E hr h => ?_)
    · obtain ⟨v, t, M, B, rfl, _⟩ := h
      rfl
    · obtain ⟨v, t, M, B, _, _, h0, _⟩ := h
      have := t.pos
      omega
  | succ n GA =>
    refine F.ok scAll (fun vs H Q E h => ?_) (fun cdv A outer s H vs Q E hr h => ?_)
    · obtain ⟨v, t, M, B, rfl, _⟩ := h
      rfl
    · obtain ⟨v, t, M, B, rfl, ht, hn, hs, k⟩ := h
      refine ⟨_, pss_cons (ps_set (i := 1) scAll.nd rfl (Or.inl rfl) (pe_lst (pa_cons (pv 0) pa_nil)))
        (pss_cons (ps_for PassesOwn.never rfl (pi_list (pe_ix ix_tup (pv 0) pe_int (fun _ _ => rfl))) (pg_name (i := 2) scAll.nd rfl (Or.inl rfl))
          (pss_one (ps_set (i := 1) scAll.nd rfl (Or.inl rfl) (pe_op op_cat (pv 1) (pe_call GA hr (by rfl) gF F.kp bF .nil pass0 (pa_cons (pv 2) pa_nil))))))
        (pss_one (ps_ret (pv 1)))), ?_⟩
      have hv := ht
      obtain ⟨ms, fo⟩ := t
      unfold TrM at hv
      obtain ⟨a1, m1, l1, us1, rfl, h1, h2, _, h3, _, h4⟩ := hv
      have hn : fo.size + 1 ≤ n + 1 := hn
      have hs' : fo.size + 1 ≤ 60 := hs
      have A2 := FoM.all2 fo us1 h4
      refine ⟨_, rfl, by show 1 ≤ sizeLine; decide, fun D hD => ?_⟩
      have sD := same_new (o := .lst [V.ref a1]) hD
      refine ⟨_, rfl, a1, _, _, _, rfl, rfl, SqT.of (sD _ _ h1), atI_nat (j := 1) rfl, l1, rfl, ⟨_, SqL.of (sD _ _ h3)⟩, for_list (K := K) (a := l1) (xs := us1) (fun i σ H4 => ∃ (X : Addr) (xs : List V) (j2 : Option V), σ = [some (.ref a1), some (.ref X), j2] ∧ H4 X = some (.lst xs) ∧
          H X = none ∧ All2 (TrM H4 M B) (Tr.mk ms fo :: ((fo.list.take i).map Tr.all).flatten) xs ∧ Same H H4) ⟨D, [.ref a1], _, rfl, upd_same, hD, ⟨TrM.same sD ht, trivial⟩, sD⟩ (fun i σ H4 _ ⟨_, _, _, _, _, _, _, q⟩ => SqL.of (q _ _ h3)) ?_ ?_⟩
      · rintro i x σ H4 hx ⟨X, xs, j2, rfl, q1, q0, q2, q3⟩
        obtain ⟨u, hu', tr⟩ := A2.get hx
        have sz := Fo.mem_size fo u (List.mem_of_getElem? hu')
        refine ⟨_, rfl, _, rfl, x, u, M, B, rfl, TrM.same q3 tr, by omega, by omega, fun D2 us2 H5 s5 _ e5 A5 => ?_⟩
        have ln := q2.len
        have ln5 := A5.len
        have e1 : (((fo.list.take (i + 1)).map Tr.all).flatten) = ((fo.list.take i).map Tr.all).flatten ++ u.all := by
          rw [List.take_add_one, hu', List.map_append, List.flatten_append]
          simp
        have e2 := flat_take Tr.all fo.list (i + 1)
        rw [e1, List.length_append, ← fo_flat, fo_len] at e2
        rw [List.length_cons] at ln
        refine ⟨X, D2, _, _, rfl, rfl, s5 _ _ q1, e5, small40 (by omega), fun X2 hX2 => ?_⟩
        have s6 := same_new (o := .lst (xs ++ us2)) hX2
        refine ⟨X2, xs ++ us2, _, rfl, upd_same, free_of (Same.trans q3 s5) hX2, ?_, Same.trans q3 (Same.trans s5 s6)⟩
        rw [e1, ← List.cons_append]
        exact (q2.mono fun _ _ => TrM.same (Same.trans s5 s6)).app (A5.mono fun _ _ => TrM.same s6)
      · rintro σ H4 ⟨X, xs, j2, rfl, q1, q0, q2, q3⟩
        refine ⟨_, rfl, k X xs H4 q3 q0 q1 ?_⟩
        rw [← A2.len, List.take_length] at q2
        have e : (Tr.mk ms fo).all = Tr.mk ms fo :: (fo.list.map Tr.all).flatten := by
          unfold Tr.all
          rw [fo_flat]
        rw [e]
        exact q2
end
def spLH (n : Nat) : Sp := fun vs H Q _ => ∃ (v y : V) (t : Tr) (M : Addr → Prop) (B : Nat) (k : Kd), vs = [v, y] ∧ TrM H M B t v ∧ t.size ≤ 60 ∧ KdAt H k y ∧ k.deep < n ∧ ∀ H', Same H H' → Q (.bl (frc k t)) H'
theorem all_size : ∀ (n : Nat) (t u : Tr), t.size ≤ n → u ∈ t.all → u.size ≤ t.size := by
  intro n
  induction n with
  | zero =>
    intro t u h
    have := t.pos
    omega
  | succ n ih =>
    rintro ⟨ms, f⟩ u h hu
    unfold Tr.all at hu
    rcases List.mem_cons.mp hu with rfl | hu
    · exact Nat.le_refl _
    · obtain ⟨c, hc, hcu⟩ := (Fo.mem_all f u).mp hu
      have sz := Fo.mem_size f c hc
      have h : f.size + 1 ≤ n + 1 := h
      have := ih c u (by omega) hcu
      show u.size ≤ f.size + 1
      omega
section
variable {P : Program} {w : World} {K : PySem.W.Frag} {mg : Str → Option Value} {base : Heap}
theorem scLHolds : FnScope ["_law_tree_here", "_law_kind_here", "_law_world"] ["_law_tree_here", "_law_kind_here"] (defScope sLHolds) := ⟨rfl, rfl, rfl, by decide +kernel, rfl, by decide +kernel, by decide +kernel⟩
theorem ok_lholds {f fA : Addr} {fd fdA : FuncData} (F : Fun K "_law_holds" "_law_holds" sLHolds f fd) (bF : Binds K fd ["_law_tree_here", "_law_kind_here"] []) (gF : mg "_law_holds" = some (.ref f))
    (GA : FnOk P w K mg base CX0 61 fA fdA ["_law_tree_here"] (spAll 60)) (kA : PySem.W.keepIn K (.ref fA) = true) (bA : Binds K fdA ["_law_tree_here"] []) (gA : mg "_law_all" = some (.ref fA)) : ∀ n : Nat, FnOk P w K mg base CX0 (n + 62) f fd ["_law_tree_here", "_law_kind_here"] (spLH n) := by
  intro n
  induction n with
  | zero =>
    refine F.ok scLHolds (fun vs H Q E h => ?_) (fun cdv A outer s H vs Q E hr h => ?_)
    · obtain ⟨v, y, t, M, B, k, rfl, _⟩ := h
      rfl
    · obtain ⟨v, y, t, M, B, k, _, _, _, _, h0, _⟩ := h
      omega
  | succ n GH =>
    refine F.ok scLHolds (fun vs H Q E h => ?_) (fun cdv A outer s H vs Q E hr h => ?_)
    · obtain ⟨v, y, t, M, B, k, rfl, _⟩ := h
      rfl
    · obtain ⟨v, y, t, M, B, kd, rfl, ht, hs, hk, hd, k⟩ := h
      have hrA : Room 61 _ := hr.mono (by omega)
      refine ⟨_, pss_cons (ps_if (pt_cmpR op_eq (pe_ix ix_tup (pv 1) pe_int (fun _ _ => rfl)) pe_str (nomark _)) (pss_one (ps_ret pe_bl)) pss_nil)
        (pss_cons (ps_if (pt_cmpR op_eq (pe_ix ix_tup (pv 1) pe_int (fun _ _ => rfl)) pe_str (nomark _)) (pss_one (ps_ret (pe_cmpR (in_at (K := K) rfl) (pe_ix ix_tup (pv 1) pe_int (fun _ _ => rfl)) (pe_ix ix_tup (pv 0) pe_int (fun _ _ => rfl)) (by rfl)))) pss_nil)
        (pss_cons (ps_if (pt_cmpR op_eq (pe_ix ix_tup (pv 1) pe_int (fun _ _ => rfl)) pe_str (nomark _))
          (pss_one (ps_ret (pe_and (pe_call GH hr (by rfl) gF F.kp bF .nil pass0 (pa_cons (pv 0) (pa_cons (pe_ix ix_tup (pv 1) pe_int (fun _ _ => rfl)) pa_nil))) (pe_one (pe_call GH hr (by rfl) gF F.kp bF .nil pass0 (pa_cons (pv 0) (pa_cons (pe_ix ix_tup (pv 1) pe_int (fun _ _ => rfl)) pa_nil))))))) pss_nil)
        (pss_cons (ps_for PassesOwn.never rfl (pi_list (pe_call GA hrA (by rfl) gA kA bA .nil pass0 (pa_cons (pv 0) pa_nil))) (pg_name (i := 2) scLHolds.nd rfl (Or.inl rfl))
          (pss_one (ps_if (PW.pt (pw_and (pt_val (pe_call GH hr (by rfl) gF F.kp bF .nil pass0 (pa_cons (pv 2) (pa_cons (pe_ix ix_tup (pv 1) pe_int (fun _ _ => rfl)) pa_nil))))
            (pw_and1 (pt_not (pt_val (pe_call GH hr (by rfl) gF F.kp bF .nil pass0 (pa_cons (pv 2) (pa_cons (pe_ix ix_tup (pv 1) pe_int (fun _ _ => rfl)) pa_nil)))))))) (pss_one (ps_ret pe_bl)) pss_nil)))
        (pss_one (ps_ret pe_bl))))), ?_⟩
      cases kd with
      | one =>
        obtain ⟨a, rfl, ha⟩ := hk
        refine ⟨_, rfl, a, _, _, _, rfl, rfl, SqT.of ha, atI_nat (j := 0) rfl, rfl, _, rfl, ?_⟩
        refine ite2 (fun _ => ?_) (fun z => absurd (by decide +kernel) z)
        exact k H (Same.refl H)
      | mark m =>
        obtain ⟨a, rfl, ha⟩ := hk
        obtain ⟨ms, fo⟩ := t
        unfold TrM at ht
        obtain ⟨a1, m1, l1, us1, rfl, h1, h2, _⟩ := ht
        refine ⟨_, rfl, a, _, _, _, rfl, rfl, SqT.of ha, atI_nat (j := 0) rfl, rfl, _, rfl, ?_⟩
        refine ite2 (fun z => by cases z) (fun _ => ?_)
        refine ⟨_, rfl, a, _, _, _, rfl, rfl, SqT.of ha, atI_nat (j := 0) rfl, rfl, _, rfl, ?_⟩
        refine ite2 (fun _ => ?_) (fun z => absurd (by decide +kernel) z)
        refine ⟨_, rfl, a, _, _, _, rfl, rfl, SqT.of ha, atI_nat (j := 1) rfl, _, rfl, a1, _, _, _, rfl, rfl, SqT.of h1, atI_nat (j := 0) rfl, m1, _, rfl, .inl (SqL.of h2), rfl, all_flat ms, ?_⟩
        rw [inV_marks]
        exact k H (Same.refl H)
      | two b k1 k2 =>
        obtain ⟨a, x1, x2, rfl, ha, h1, h2⟩ := hk
        have hd' : max k1.deep k2.deep + 1 < n + 1 := hd
        have no : ∀ z : Str, z = "mark" ∨ z = "one" → ¬ decide (V.str (word b) = V.str z) = true := fun z hz e => by
          have e := of_decide_eq_true e
          rcases hz with rfl | rfl <;> cases b <;> exact absurd e (by decide +kernel)
        refine ⟨_, rfl, a, _, _, _, rfl, rfl, SqT.of ha, atI_nat (j := 0) rfl, rfl, _, rfl, ?_⟩
        refine ite2 (fun z => absurd z (no _ (.inr rfl))) (fun _ => ?_)
        refine ⟨_, rfl, a, _, _, _, rfl, rfl, SqT.of ha, atI_nat (j := 0) rfl, rfl, _, rfl, ?_⟩
        refine ite2 (fun z => absurd z (no _ (.inl rfl))) (fun _ => ?_)
        refine ⟨_, rfl, a, _, _, _, rfl, rfl, SqT.of ha, atI_nat (j := 0) rfl, rfl, _, rfl, ?_⟩
        cases b with
        | false =>
          refine ite2 (fun _ => ?_) (fun z => absurd (by show decide (V.str "both" = V.str "both") = true; decide +kernel) z)
          refine ⟨_, rfl, _, rfl, a, _, _, _, rfl, rfl, SqT.of ha, atI_nat (j := 1) rfl, v, x1, t, M, B, k1, rfl, ht, hs, h1, by omega, fun H1 s1 => ⟨_, rfl, ?_⟩⟩
          rw [frc_both] at k
          cases e : frc k1 t with
          | false =>
            rw [e] at k
            refine iteF ?_
            exact k H1 s1
          | true =>
            rw [e] at k
            refine iteT ?_
            refine ⟨_, rfl, _, rfl, a, _, _, _, rfl, rfl, SqT.of (s1 _ _ ha), atI_nat (j := 2) rfl, v, x2, t, M, B, k2, rfl, TrM.same s1 ht, hs, KdAt.mono (tups_of s1) _ _ h2, by omega, fun H2 s2 => k H2 (Same.trans s1 s2)⟩
        | true =>
          refine ite2 (fun z => absurd z (by show ¬ decide (V.str "to" = V.str "both") = true; decide +kernel)) (fun _ => ?_)
          refine ⟨_, rfl, v, t, M, B, rfl, ht, hs, hs, fun D us H1 s1 _ e1 A1 => ?_⟩
          refine ⟨D, rfl, ⟨_, SqL.of e1⟩, for_list (K := K) (a := D) (xs := us) (fun i σ H2 => ∃ j2 : Option V, σ = [some v, some (.ref a), j2] ∧ (∀ u ∈ t.all.take i, (frc k2 u || !frc k1 u) = true) ∧ Same H1 H2) ⟨_, rfl, by simp, Same.refl H1⟩ (fun i σ H2 _ ⟨_, _, _, q⟩ => SqL.of (q _ _ e1)) ?_ ?_⟩
          · rintro i x σ H2 hx ⟨j2, rfl, q1, q2⟩
            obtain ⟨u, hu, tr⟩ := A1.get hx
            have um := List.mem_of_getElem? hu
            have us' := Nat.le_trans (all_size _ t u (Nat.le_refl _) um) hs
            have s2 := Same.trans s1 q2
            have go : ∀ H3, Same H2 H3 → (frc k2 u || !frc k1 u) = true → ∃ j2 : Option V, [some v, some (.ref a), some x] = [some v, some (.ref a), j2] ∧ (∀ u ∈ t.all.take (i + 1), (frc k2 u || !frc k1 u) = true) ∧ Same H1 H3 := fun H3 s3 e => ⟨_, rfl, fun y hy => by
              rw [List.take_add_one, hu] at hy
              rcases List.mem_append.mp hy with hy | hy
              · exact q1 y hy
              · rw [List.mem_singleton.mp hy]
                exact e, Same.trans q2 s3⟩
            have nogo : ∀ H3, Same H2 H3 → (frc k2 u || !frc k1 u) = false → Q (.bl false) H3 := fun H3 s3 e => by
              have z : frc (.two true k1 k2) t = false := by
                show (t.all.all fun u => frc k2 u || !frc k1 u) = false
                rw [List.all_eq_false]
                exact ⟨u, um, by rw [e]; decide⟩
              rw [z] at k
              exact k H3 (Same.trans s2 s3)
            refine ⟨_, rfl, _, rfl, a, _, _, _, rfl, rfl, SqT.of (s2 _ _ ha), atI_nat (j := 1) rfl, x, x1, u, M, B, k1, rfl, TrM.same q2 tr, us', KdAt.mono (tups_of s2) _ _ h1, by omega, fun H3 s3 => ⟨_, rfl, ?_⟩⟩
            cases e1 : frc k1 u with
            | false =>
              refine iteF ?_
              exact go H3 s3 (by rw [e1]; simp)
            | true =>
              refine iteT ?_
              refine ⟨_, rfl, _, rfl, a, _, _, _, rfl, rfl, SqT.of (s3 _ _ (s2 _ _ ha)), atI_nat (j := 2) rfl, x, x2, u, M, B, k2, rfl, TrM.same (Same.trans q2 s3) tr, us', KdAt.mono (tups_of (Same.trans s2 s3)) _ _ h2, by omega, fun H4 s4 => ⟨_, rfl, ?_⟩⟩
              cases e2 : frc k2 u with
              | false =>
                refine iteT ?_
                exact nogo H4 (Same.trans s3 s4) (by rw [e1, e2]; rfl)
              | true =>
                refine iteF ?_
                exact go H4 (Same.trans s3 s4) (by rw [e2]; rfl)
          · rintro σ H2 ⟨j2, rfl, q1, q2⟩
            rw [← A1.len, List.take_length] at q1
            have z : frc (.two true k1 k2) t = true := by
              show (t.all.all fun u => frc k2 u || !frc k1 u) = true
              exact List.all_eq_true.mpr q1
            rw [z] at k
            exact k H2 (Same.trans s1 q2)
end
/-- where M holds something new stands -/
def Fr (H H' : Hp) (M : Addr → Prop) : Prop := ∀ b, M b → ∃ o, frsh H H' b = some o
def spCop (n : Nat) : Sp := fun vs H Q _ =>
  (∃ x : Str, vs = [.str x] ∧ 1 ≤ n ∧ Q (.str x) H) ∨
  (∃ (m : Addr) (ms : List Str), vs = [.ref m] ∧ H m = some (.lst (ms.map V.str)) ∧ 2 ≤ n ∧ ms.length ≤ 60 ∧ ∀ (m' : Addr) (H' : Hp), H m' = none → Same H H' → H' m' = some (.lst (ms.map V.str)) → Q (.ref m') H') ∨
  (∃ (l : Addr) (us : List V) (f : Fo) (B : Nat), vs = [.ref l] ∧ H l = some (.lst us) ∧ FoAt H f us ∧ 2 * f.size + 2 ≤ n ∧ f.size ≤ 60 ∧ (∀ u ∈ f.all, MsOk B u.ms) ∧ B ≤ 60 ∧ ∀ (l' : Addr) (us' : List V) (M : Addr → Prop) (H' : Hp), H l' = none → Same H H' → H' l' = some (.lst us') → FoM (frsh H H') M B f us' → ¬ M l' → Fr H H' M → Q (.ref l') H') ∨
  (∃ (v : V) (t : Tr) (B : Nat), vs = [v] ∧ TrAt H t v ∧ 2 * t.size + 1 ≤ n ∧ t.size ≤ 60 ∧ (∀ u ∈ t.all, MsOk B u.ms) ∧ B ≤ 60 ∧ ∀ (v' : V) (M : Addr → Prop) (H' : Hp), Same H H' → TrM (frsh H H') M B t v' → Fr H H' M → Q v' H')
theorem kit_ty' {K : PySem.W.Frag} {x y : String} {r : Bool} (h : PySem.W.kitOne K (.type x) (.type y) = some r) : PySem.W.kitOne K (.type x) (.type y) = some r := h
theorem Fo.len_list : ∀ f : Fo, f.list.length ≤ f.size
  | .nil => Nat.le_refl _
  | .cons t f => by
    have := Fo.len_list f
    have := t.pos
    show f.list.length + 1 ≤ t.size + f.size
    omega
section
variable {P : Program} {w : World} {K : PySem.W.Frag} {mg : Str → Option Value} {base : Heap}
abbrev nCop : List Str := ["_law_thing", "_law_one"]
theorem scCop : FnScope nCop ["_law_thing"] (defScope sCop) := ⟨rfl, rfl, rfl, by decide +kernel, rfl, by decide +kernel, by decide +kernel⟩
theorem ok_cop {f : Addr} {fd : FuncData} (F : Fun K "_law_copied" "_law_copied" sCop f fd) (bF : Binds K fd ["_law_thing"] []) (gF : mg "_law_copied" = some (.ref f)) (mIs : mg "isinstance" = none) (mList : mg "list" = none) (mTuple : mg "tuple" = none) :
    ∀ n : Nat, FnOk P w K mg base CX0 (n + 1) f fd ["_law_thing"] (spCop n) := by
  intro n
  induction n with
  | zero =>
    refine F.ok scCop (fun vs H Q E h => ?_) (fun cdv A outer s H vs Q E hr h => ?_)
    · obtain ⟨x, rfl, _⟩ | ⟨m, ms, rfl, _⟩ | ⟨l, us, f, B, rfl, _⟩ | ⟨v, t, B, rfl, _⟩ := h <;> rfl
    · obtain ⟨x, _, h0, _⟩ | ⟨m, ms, _, _, h0, _⟩ | ⟨l, us, f, B, _, _, _, h0, _⟩ | ⟨v, t, B, _, _, h0, _⟩ := h <;> omega
  | succ n GC =>
    refine F.ok scCop (fun vs H Q E h => ?_) (fun cdv A outer s H vs Q E hr h => ?_)
    · obtain ⟨x, rfl, _⟩ | ⟨m, ms, rfl, _⟩ | ⟨l, us, f, B, rfl, _⟩ | ⟨v, t, B, rfl, _⟩ := h <;> rfl
    · refine ⟨_, pss_cons (ps_if (pt_val (pe_callB (isi_at (K := K) rfl) (by rfl) mIs boot_isi (pa_cons (pv 0) (pa_cons (pe_bltn (v := .ty "list") (by rfl) mList boot_listT rfl) pa_nil))))
          (pss_one (ps_ret (pe_lc (own := [("_law_one", 1)]) (g := gName 1) (tt := tYes) (by rfl) scCop.nd (pi_list (pv 0)) (blkOk_by (N := nCop) (sc := defScope sCop) (by decide +kernel)) (fun _ _ _ _ _ => pg_name (i := 1) scCop.nd rfl (Or.inl rfl)) (fun _ _ _ _ _ => pts_nil)
            (fun _ _ _ _ _ => pe_call GC hr (by rfl) gF F.kp bF .nil pass0 (pa_cons (pv 1) pa_nil))))) pss_nil)
        (pss_cons (ps_if (pt_val (pe_callB (isi_at (K := K) rfl) (by rfl) mIs boot_isi (pa_cons (pv 0) (pa_cons (pe_bltn (v := .ty "tuple") (by rfl) mTuple boot_tupleT rfl) pa_nil))))
          (pss_one (ps_ret (pe_callTy call_tuple_of (by rfl) mTuple boot_tupleT (pa_cons (pe_lc (own := [("_law_one", 1)]) (g := gName 1) (tt := tYes) (by rfl) scCop.nd (pi_tup (pv 0)) (blkOk_by (N := nCop) (sc := defScope sCop) (by decide +kernel)) (fun _ _ _ _ _ => pg_name (i := 1) scCop.nd rfl (Or.inl rfl)) (fun _ _ _ _ _ => pts_nil)
            (fun _ _ _ _ _ => pe_call GC hr (by rfl) gF F.kp bF .nil pass0 (pa_cons (pv 1) pa_nil))) pa_nil)))) pss_nil)
        (pss_one (ps_ret (pv 0)))), ?_⟩
      obtain ⟨x, rfl, hn, k⟩ | ⟨m, ms, rfl, hm, hn, hl, k⟩ | ⟨l, us, fo, B, rfl, hl, hf, hn, hs, hB, hB6, k⟩ | ⟨v, t, B, rfl, ht, hn, hs, hB, hB6, k⟩ := h
      · refine ⟨_, rfl, _, _, _, _, false, rfl, .ty "list", .base (.str x), kit_ty (by decide +kernel), false, rfl, ?_⟩
        refine iteF ?_
        refine ⟨_, rfl, _, _, _, _, false, rfl, .ty "tuple", .base (.str x), kit_ty (by decide +kernel), false, rfl, ?_⟩
        refine iteF ?_
        exact ⟨_, rfl, k⟩
      · refine ⟨_, rfl, _, _, _, _, true, rfl, .ty "list", .base (.lst hm), kit_ty (by decide +kernel), true, rfl, ?_⟩
        refine iteT ?_
        refine ⟨_, rfl, m, rfl, ⟨_, SqL.of hm⟩, fun D hD => lc_list (K := K) (a := m) (xs := ms.map V.str) (fun i H' => H' D = some (.lst ((ms.take i).map V.str)) ∧ Same H H') ⟨upd_same, same_new hD⟩ (fun i H' _ q => SqL.of (q.2 _ _ hm)) ?_ ?_⟩
        · rintro i y H' hy ⟨q1, q2⟩
          rw [List.getElem?_map] at hy
          obtain ⟨x, hx, rfl⟩ := Option.map_eq_some_iff.mp hy
          refine ⟨rfl, ?_⟩
          unfold tYes
          dsimp only
          rw [if_pos rfl]
          refine ⟨_, rfl, .inl ⟨x, rfl, by omega, _, q1, small1000 (by rw [List.length_map, List.length_take]; omega), ?_, fun b o e => (upd_ne (ne_of_none e hD)).trans (q2 b o e)⟩⟩
          rw [upd_same, List.take_add_one, hx, List.map_append] <;> rfl
        · rintro H' ⟨q1, q2⟩
          rw [List.length_map, List.take_length] at q1
          exact k D H' hD q2 q1
      · refine ⟨_, rfl, _, _, _, _, true, rfl, .ty "list", .base (.lst hl), kit_ty (by decide +kernel), true, rfl, ?_⟩
        refine iteT ?_
        have A2 := FoAt.all2 fo us hf
        have fl := fo.len_list
        refine ⟨_, rfl, l, rfl, ⟨_, SqL.of hl⟩, fun D hD => ?_⟩
        have up : ∀ {b : Addr} {H' : Hp} {xs : List V}, H' D = some (.lst xs) → Same H H' → H' b = none → (upd H D (.lst [])) b = none := fun {b H' xs} e s z => by
          rw [upd_ne (fun y => by rw [y, e] at z; cases z)]
          exact free_of s z
        refine lc_list (K := K) (a := l) (xs := us) (fun i H' => ∃ (us' : List V) (M : Addr → Prop), H' D = some (.lst us') ∧ Same H H' ∧ All2 (TrM (frsh (upd H D (.lst [])) H') M B) (fo.list.take i) us' ∧ Fr (upd H D (.lst [])) H' M) ⟨[], fun _ => False, upd_same, same_new hD, trivial, fun b z => z.elim⟩ (fun i H' _ ⟨_, _, _, q, _⟩ => SqL.of (q _ _ hl)) ?_ ?_
        · rintro i u H' hu ⟨us', M, q1, q2, q3, q4⟩
          obtain ⟨t, hti, tr⟩ := A2.get hu
          have tm := List.mem_of_getElem? hti
          have sz := Fo.mem_size fo t tm
          have il := (List.getElem?_eq_some_iff.mp hti).1
          refine ⟨rfl, ?_⟩
          unfold tYes
          dsimp only
          rw [if_pos rfl]
          refine ⟨_, rfl, .inr (.inr (.inr ⟨u, t, B, rfl, TrAt.same q2 _ _ tr, by omega, by omega, fun x hx => hB x ((Fo.mem_all fo x).mpr ⟨t, tm, hx⟩), hB6, fun v' M' H2 s2 t2 f2 => ?_⟩))⟩
          have e2 := s2 _ _ q1
          have nb : ∀ {b : Addr}, (upd H D (.lst [])) b = none → b ≠ D := fun {b} z y => by rw [y, upd_same] at z; cases z
          have old : Same (frsh (upd H D (.lst [])) H') (frsh (upd H D (.lst [])) (upd H2 D (.lst (us' ++ [v'])))) := frsh_same (fun b z => z) fun b o z e => by
            rw [upd_ne (nb z)]
            exact s2 _ _ e
          have neu : Same (frsh H' H2) (frsh (upd H D (.lst [])) (upd H2 D (.lst (us' ++ [v'])))) := frsh_same (fun b z => up q1 q2 z) fun b o z e => by
            rw [upd_ne (nb (up q1 q2 z))]
            exact e
          refine ⟨us', e2, small1000 (by have := q3.len; rw [List.length_take] at this; omega), us' ++ [v'], fun b => M b ∨ M' b, upd_same, fun b o e => ?_, ?_, ?_⟩
          · rw [upd_ne (ne_of_none e hD)]
            exact s2 _ _ (q2 _ _ e)
          · rw [List.take_add_one, hti]
            refine (q3.mono (TrM.mono old (fun b o e => ⟨fun z => z.elim id fun z => ?_, .inl⟩) (Nat.le_refl B))).app (ls := [t]) (us := [v']) ⟨TrM.mono neu (fun b o e => ⟨fun z => z.elim (fun z => ?_) id, .inr⟩) (Nat.le_refl B) t v' t2, trivial⟩
            · obtain ⟨o2, g⟩ := f2 b z
              have g1 := (frsh_some.mp g).1
              have g2 := (frsh_some.mp e).2
              rw [g1] at g2
              cases g2
            · obtain ⟨o2, g⟩ := q4 b z
              have g1 := (frsh_some.mp g).2
              have g2 := (frsh_some.mp e).1
              rw [g1] at g2
              cases g2
          · rintro b (z | z)
            · obtain ⟨o, g⟩ := q4 b z
              exact ⟨o, old _ _ g⟩
            · obtain ⟨o, g⟩ := f2 b z
              exact ⟨o, neu _ _ g⟩
        · rintro H' ⟨us', M, q1, q2, q3, q4⟩
          rw [← A2.len, List.take_length] at q3
          have lf : Same (frsh (upd H D (.lst [])) H') (frsh H H') := frsh_same (fun b z => by
            rw [upd_ne (fun y => by rw [y, upd_same] at z; cases z)] at z
            exact z) fun b o _ e => e
          refine k D us' M H' hD q2 q1 (FoM.mono lf (fun _ _ _ => Iff.rfl) (Nat.le_refl B) fo us' (FoM.of2 fo us' q3)) (fun z => ?_) fun b z => ?_
          · obtain ⟨o, g⟩ := q4 D z
            have g1 := (frsh_some.mp g).1
            rw [upd_same] at g1
            cases g1
          · obtain ⟨o, g⟩ := q4 b z
            exact ⟨o, lf _ _ g⟩
      · obtain ⟨ms, fo⟩ := t
        unfold TrAt at ht
        obtain ⟨a, m, l, us, rfl, h1, h2, h3, h4⟩ := ht
        have hs' : fo.size + 1 ≤ 60 := hs
        have hn' : 2 * (fo.size + 1) + 1 ≤ n + 1 := hn
        have hB0 : MsOk B ms := hB (.mk ms fo) (all_self _)
        refine ⟨_, rfl, _, _, _, _, false, rfl, .ty "list", .base (.tup h1), kit_ty (by decide +kernel), false, rfl, ?_⟩
        refine iteF ?_
        refine ⟨_, rfl, _, _, _, _, true, rfl, .ty "tuple", .base (.tup h1), kit_ty (by decide +kernel), true, rfl, ?_⟩
        refine iteT ?_
        refine ⟨_, rfl, a, rfl, ⟨_, SqT.of h1⟩, fun D hD => ?_⟩
        have up : ∀ {b : Addr} {H' : Hp} {xs : List V}, H' D = some (.lst xs) → Same H H' → H' b = none → (upd H D (.lst [])) b = none := fun {b H' xs} e s z => by
          rw [upd_ne (fun y => by rw [y, e] at z; cases z)]
          exact free_of s z
        have nb : ∀ {b : Addr}, (upd H D (.lst [])) b = none → b ≠ D := fun {b} z y => by rw [y, upd_same] at z; cases z
        refine lc_tup (K := K) (a := a) (xs := [.ref m, .ref l]) (fun i H' => Same H H' ∧ match i with
          | 0 => H' D = some (.lst [])
          | 1 => ∃ m', H' D = some (.lst [.ref m']) ∧ (upd H D (.lst [])) m' = none ∧ H' m' = some (.lst (ms.map V.str))
          | _ => ∃ (m' l' : Addr) (us' : List V) (M : Addr → Prop), H' D = some (.lst [.ref m', .ref l']) ∧ (upd H D (.lst [])) m' = none ∧ H' m' = some (.lst (ms.map V.str)) ∧ M m' ∧ (upd H D (.lst [])) l' = none ∧ H' l' = some (.lst us') ∧ ¬ M l' ∧ FoM (frsh (upd H D (.lst [])) H') M B fo us' ∧ Fr (upd H D (.lst [])) H' M) ⟨same_new hD, upd_same⟩ (fun i H' _ q => SqT.of (q.1 _ _ h1)) ?_ ?_
        · rintro i u H' hu ⟨q2, q⟩
          refine ⟨rfl, ?_⟩
          unfold tYes
          dsimp only
          rw [if_pos rfl]
          match i, hu, q with
          | 0, hu, q =>
            cases hu
            have q1 : H' D = some (.lst []) := q
            refine ⟨_, rfl, .inr (.inl ⟨m, ms, rfl, q2 _ _ h2, by omega, Nat.le_trans hB0.1 hB6, fun m' H2 n2 s2 e2 => ?_⟩)⟩
            have nm := up q1 q2 n2
            refine ⟨_, s2 _ _ q1, by show 0 < sizeLine; decide, fun b o e => ?_, m', upd_same, nm, ?_⟩
            · rw [upd_ne (ne_of_none e hD)]
              exact s2 _ _ (q2 _ _ e)
            · rw [upd_ne (nb nm)]
              exact e2
          | 1, hu, q =>
            cases hu
            obtain ⟨m', q1, q3, q4⟩ := (show ∃ m', H' D = some (.lst [.ref m']) ∧ (upd H D (.lst [])) m' = none ∧ H' m' = some (.lst (ms.map V.str)) from q)
            refine ⟨_, rfl, .inr (.inr (.inl ⟨l, us, fo, B, rfl, q2 _ _ h3, FoAt.same q2 _ _ h4, by omega, by omega, fun x hx => hB x (by unfold Tr.all; exact List.mem_cons_of_mem _ hx), hB6, fun l' us' M H2 n2 s2 e2 fm nl fr => ?_⟩))⟩
            have nl' := up q1 q2 n2
            have neu : Same (frsh H' H2) (frsh (upd H D (.lst [])) (upd H2 D (.lst ([.ref m'] ++ [.ref l'])))) := frsh_same (fun b z => up q1 q2 z) fun b o z e => by
              rw [upd_ne (nb (up q1 q2 z))]
              exact e
            have m2 : (upd H2 D (.lst ([V.ref m'] ++ [V.ref l']))) m' = some (.lst (ms.map V.str)) := by
              rw [upd_ne (nb q3)]
              exact s2 _ _ q4
            refine ⟨_, s2 _ _ q1, by show 1 < sizeLine; decide, fun b o e => ?_, m', l', us', fun b => b = m' ∨ M b, upd_same, q3, m2, .inl rfl, nl', ?_, ?_, FoM.mono neu (fun b o e => ⟨fun z => z.elim (fun z => absurd (frsh_some.mp e).1 (by rw [z, q4]; exact fun y => nomatch y)) id, .inr⟩) (Nat.le_refl B) fo us' fm, ?_⟩
            · rw [upd_ne (ne_of_none e hD)]
              exact s2 _ _ (q2 _ _ e)
            · rw [upd_ne (nb nl')]
              exact e2
            · rintro (z | z)
              · rw [z, q4] at n2
                cases n2
              · exact nl z
            · rintro b (z | z)
              · rw [z]
                exact ⟨_, frsh_some.mpr ⟨q3, m2⟩⟩
              · obtain ⟨o, g⟩ := fr b z
                exact ⟨o, neu _ _ g⟩
          | i + 2, hu, q => simp at hu
        · rintro H' ⟨q2, q⟩
          obtain ⟨m', l', us', M, q1, q3, q4, q5, q6, q7, q8, q9, q10⟩ := (show ∃ (m' l' : Addr) (us' : List V) (M : Addr → Prop), H' D = some (.lst [.ref m', .ref l']) ∧ (upd H D (.lst [])) m' = none ∧ H' m' = some (.lst (ms.map V.str)) ∧ M m' ∧ (upd H D (.lst [])) l' = none ∧ H' l' = some (.lst us') ∧ ¬ M l' ∧ FoM (frsh (upd H D (.lst [])) H') M B fo us' ∧ Fr (upd H D (.lst [])) H' M from q)
          refine ⟨D, _, rfl, .inl ⟨SqL.of q1, fun T hT => ?_⟩⟩
          have sT := same_new (o := .tup [.ref m', .ref l']) hT
          have lf : Same (frsh (upd H D (.lst [])) H') (frsh H (upd H' T (.tup [.ref m', .ref l']))) := frsh_same (fun b z => by
            rw [upd_ne (nb z)] at z
            exact z) fun b o _ e => sT _ _ e
          have fr0 : ∀ {b : Addr}, (upd H D (.lst [])) b = none → H b = none := fun {b} z => by
            rw [upd_ne (nb z)] at z
            exact z
          refine k (.ref T) M _ (Same.trans q2 sT) ?_ fun b z => ?_
          · unfold TrM
            exact ⟨T, m', l', us', rfl, frsh_some.mpr ⟨free_of q2 hT, upd_same⟩, frsh_some.mpr ⟨fr0 q3, sT _ _ q4⟩, ⟨q5, hB0⟩, frsh_some.mpr ⟨fr0 q6, sT _ _ q7⟩, q8, FoM.mono lf (fun _ _ _ => Iff.rfl) (Nat.le_refl B) fo us' q9⟩
          · obtain ⟨o, g⟩ := q10 b z
            exact ⟨o, lf _ _ g⟩
end
/-- but where M holds all stays; lists stay lists -/
def Chg (M : Addr → Prop) (H H' : Hp) : Prop := ∀ b o, H b = some o → H' b = some o ∨ (M b ∧ (∃ xs, o = .lst xs) ∧ ∃ ys, H' b = some (.lst ys))
theorem Chg.out {M : Addr → Prop} {H H' : Hp} (c : Chg M H H') {b : Addr} {o : HO} (h : H b = some o) (n : ¬ M b) : H' b = some o := (c b o h).elim id fun z => absurd z.1 n
theorem Chg.same {M : Addr → Prop} {H H' H2 : Hp} (c : Chg M H H') (s : Same H' H2) : Chg M H H2 := fun b o h => by
  rcases c b o h with e | ⟨m, x, ys, e⟩
  · exact .inl (s _ _ e)
  · exact .inr ⟨m, x, ys, s _ _ e⟩
theorem Chg.of {M : Addr → Prop} {H H' : Hp} (s : Same H H') : Chg M H H' := fun b o h => .inl (s _ _ h)
theorem Chg.put {M : Addr → Prop} {H H' : Hp} (c : Chg M H H') {m : Addr} (hm : M m) {xs : List V} (h : H' m = some (.lst xs)) (ys : List V) : Chg M H (upd H' m (.lst ys)) := fun b o hb => by
  by_cases z : b = m
  · subst z
    rcases c b o hb with e | ⟨_, x, zs, e⟩
    · rw [h] at e
      cases e
      exact .inr ⟨hm, ⟨_, rfl⟩, ys, upd_same⟩
    · exact .inr ⟨hm, x, ys, upd_same⟩
  · rw [upd_ne z]
    exact c b o hb
theorem Chg.trans {M : Addr → Prop} {H H1 H2 : Hp} (a : Chg M H H1) (b : Chg M H1 H2) : Chg M H H2 := fun c o h => by
  rcases a c o h with e | ⟨m, x, ys, e⟩
  · exact b c o e
  · rcases b c _ e with e | ⟨m, _, zs, e⟩
    · exact .inr ⟨m, x, ys, e⟩
    · exact .inr ⟨m, x, zs, e⟩
theorem notin_at {X : Cx} {K : PySem.W.Frag} (e : X.K = K) : OpR X (compareOp .NotIn) (rIn K true) := by
  rw [← e]
  exact op_notIn_seq
/-- data that == may go into -/
def shp (d : PyData) : Bool := d.canLay0 && decide (d.depth ≤ 190)
def rEqW (K : PySem.W.Frag) (neg : Bool) : R2 := fun x y H Q => ∃ d e, Dp K H x d ∧ Dp K H y e ∧ shp d = true ∧ shp e = true ∧ Q (.bl (if neg then !PyData.eqv d e else PyData.eqv d e)) H
theorem u190 {k : Nat} {A : Around} (r : Room k A) : A.units + 190 < cLine := by
  have := r.un
  omega
section
variable {X : Cx}
theorem op_eqW (hu : X.A.units + 190 < cLine) : OpR X (compareOp .Eq) (rEqW X.K false) := by
  intro pins s σ H x y v u Q I rx ry h
  obtain ⟨d, e, hd, he, sd, se, q⟩ := h
  obtain ⟨as, r1⟩ := Dp.reads I d x v hd rx
  obtain ⟨bs, r2⟩ := Dp.reads I e y u he ry
  obtain ⟨l1, l2⟩ := Bool.and_eq_true_iff.mp sd
  obtain ⟨l3, l4⟩ := Bool.and_eq_true_iff.mp se
  have := of_decide_eq_true l2
  exact SeqAt.compareEq_reads r1 r2 l1 l3 (by omega) ⟨.bl _, H, I, rfl, q⟩
theorem op_neW (hu : X.A.units + 190 < cLine) : OpR X (compareOp .NotEq) (rEqW X.K true) := by
  intro pins s σ H x y v u Q I rx ry h
  obtain ⟨d, e, hd, he, sd, se, q⟩ := h
  obtain ⟨as, r1⟩ := Dp.reads I d x v hd rx
  obtain ⟨bs, r2⟩ := Dp.reads I e y u he ry
  obtain ⟨l1, l2⟩ := Bool.and_eq_true_iff.mp sd
  obtain ⟨l3, l4⟩ := Bool.and_eq_true_iff.mp se
  have := of_decide_eq_true l2
  exact SeqAt.compareNe_reads r1 r2 l1 l3 (by omega) ⟨.bl _, H, I, rfl, q⟩
end
def spPut : Sp := fun vs H Q _ => ∃ (v : V) (S : Addr) (t : Tr) (M : Addr → Prop) (B : Nat) (ms : List Str), vs = [v, .ref S] ∧ TrM H M B t v ∧ t.size ≤ 60 ∧ B ≤ 200 ∧ H S = some (.lst (ms.map V.str)) ∧ MsOk 60 ms ∧ ¬ M S ∧ (∀ b, M b → ∃ o, H b = some o) ∧
  ∀ (t' : Tr) (H' : Hp), TrM H' M (B + 60) t' v → t'.size = t.size → Chg M H H' → Q .non H'
section
variable {P : Program} {w : World} {K : PySem.W.Frag} {mg : Str → Option Value} {base : Heap}
abbrev nPut : List Str := ["_law_tree_here", "_law_marks_here", "_law_world", "_law_lacking", "_law_mark"]
theorem scPut : FnScope nPut ["_law_tree_here", "_law_marks_here"] (defScope sPut) := ⟨rfl, rfl, rfl, by decide +kernel, rfl, by decide +kernel, by decide +kernel⟩
theorem ok_put {f fA : Addr} {fd fdA : FuncData} (F : Fun K "_law_put" "_law_put" sPut f fd) (GA : FnOk P w K mg base CX0 61 fA fdA ["_law_tree_here"] (spAll 60)) (kA : PySem.W.keepIn K (.ref fA) = true) (bA : Binds K fdA ["_law_tree_here"] []) (gA : mg "_law_all" = some (.ref fA))
    (mLen : mg "len" = none) (mSorted : mg "sorted" = none) : FnOk P w K mg base CX0 62 f fd ["_law_tree_here", "_law_marks_here"] spPut := by
  refine F.ok scPut (fun vs H Q E h => ?_) (fun cdv A outer s H vs Q E hr h => ?_)
  · obtain ⟨v, S, t, M, B, ms, rfl, _⟩ := h
    rfl
  · obtain ⟨v, S, t, M, B, ms, rfl, ht, hs, hB, hS, hms, nS, hM, k⟩ := h
    refine ⟨_, pss_one (ps_for PassesOwn.never rfl (pi_list (pe_call GA hr (by rfl) gA kA bA .nil pass0 (pa_cons (pv 0) pa_nil))) (pg_name (i := 2) scPut.nd rfl (Or.inr rfl))
      (pss_cons (ps_set (i := 3) scPut.nd rfl (Or.inr rfl) (pe_lc (own := [("_law_mark", 4)]) (g := gName 4) (by rfl) scPut.nd (pi_list (pe_callB cr_sortedS (by rfl) mSorted (by decide +kernel) (pa_cons (pv 1) pa_nil))) (blkOk_by (N := nPut) (sc := defScope sPut) (by decide +kernel)) (fun _ _ _ _ _ => pg_name (i := 4) scPut.nd rfl (Or.inl rfl))
          (fun _ _ _ _ _ => pts_one (pt_cmpR (notin_at (K := K) rfl) (pv 4) (pe_ix (ixt (K := K) rfl) (pv 2) pe_int (fun _ _ => rfl)) (by rfl)))
          (fun _ _ _ _ _ => pv 4)))
      (pss_one (ps_if (PW.pt (pw_and (pt_cmpR (op_eqW (u190 hr)) (pe_ix ix_tup (pv 2) pe_int (fun _ _ => rfl)) (pe_lst pa_nil) (nomark _)) (pw_and1 (pt_cmpR (op_neW (u190 hr)) (pv 3) (pe_lst pa_nil) (nomark _)))))
        (pss_one (ps_expr (pe_bm PySem.F.plainAttrs_list PySem.F.slot_list_insert PySem.F.type_list_insert mt_insert (pe_ix ix_tup (pv 2) pe_int (fun _ _ => rfl)) (pa_cons (pe_callB call_len_seq (by rfl) mLen PySem.boot_len (pa_cons (pe_lc (own := [("_law_mark", 4)]) (g := gName 4) (by rfl) scPut.nd (pi_list (pe_ix ix_tup (pv 2) pe_int (fun _ _ => rfl))) (blkOk_by (N := nPut) (sc := defScope sPut) (by decide +kernel)) (fun _ _ _ _ _ => pg_name (i := 4) scPut.nd rfl (Or.inl rfl))
            (fun _ _ _ _ _ => pts_one (pt_cmpR op_lt_str (pv 4) (pe_ix (ixl (K := K) rfl) (pv 3) pe_int (fun _ _ => rfl)) (nomark _))) (fun _ _ _ _ _ => pv 4)) pa_nil)) (pa_cons (pe_ix ix_list (pv 3) pe_int (fun _ _ => rfl)) pa_nil))))) pss_nil)))), ?_⟩
    have all60 : t.all.length ≤ 60 := by rw [all_len]; exact hs
    refine ⟨_, rfl, v, t, M, B, rfl, ht, hs, hs, fun D us H1 s1 nD e1 A1 => ?_⟩
    have ul : us.length = t.all.length := A1.len.symm
    have nMD : ¬ M D := fun z => by
      obtain ⟨o, e⟩ := hM D z
      rw [nD] at e
      cases e
    refine ⟨D, rfl, ⟨_, SqL.of e1⟩, for_list (K := K) (a := D) (xs := us) (fun i σ H2 => ∃ (i2 i3 : Option V), σ = [some v, some (.ref S), i2, i3, none] ∧ Chg M H H2 ∧ H2 D = some (.lst us) ∧ (∃ t', TrM H2 M (B + i) t' v ∧ t'.size = t.size) ∧ (∀ x ∈ us, ∃ u, TrM H2 M (B + i) u x ∧ u.size ≤ 60))
      ⟨_, _, rfl, Chg.of s1, e1, ⟨t, TrM.same s1 ht, rfl⟩, fun x hx => ?_⟩ (fun i σ H2 _ ⟨_, _, _, _, q, _⟩ => SqL.of q) ?_ ?_⟩
    · obtain ⟨j, hj⟩ := List.getElem?_of_mem hx
      obtain ⟨u, hu, tr⟩ := A1.get hj
      exact ⟨u, tr, Nat.le_trans (all_size _ t u (Nat.le_refl _) (List.mem_of_getElem? hu)) hs⟩
    · rintro i x σ H2 hx ⟨i2, i3, rfl, q1, q2, q3, q4⟩
      have il := (List.getElem?_eq_some_iff.mp hx).1
      obtain ⟨u, hu, hus⟩ := q4 x (List.mem_of_getElem? hx)
      have hok := TrM.ok u x hu
      obtain ⟨ms', fo⟩ := u
      have hu' := hu
      unfold TrM at hu'
      obtain ⟨a, m, l, us2, rfl, h1, h2, ⟨h3, h3'⟩, h4, h5, h6⟩ := hu'
      have hS2 := q1.out hS nS
      have ml := hms.1
      refine ⟨_, rfl, S, ms, rfl, SqL.of hS2, by omega, fun ys p perm _ hp => ?_⟩
      have sp := same_new (o := .lst (ys.map V.str)) hp
      refine ⟨p, rfl, ⟨_, SqL.of upd_same⟩, fun Lk hLk => lc_list (K := K) (a := p) (xs := ys.map V.str) (fun j H' => ∃ os : List Str, H' Lk = some (.lst (os.map V.str)) ∧ (∀ y ∈ os, y ∈ ms) ∧ os.length ≤ j ∧ Same (upd H2 p (.lst (ys.map V.str))) H') ⟨[], upd_same, by simp, by simp, same_new hLk⟩ (fun j H' _ ⟨_, _, _, _, q⟩ => SqL.of (q _ _ upd_same)) ?_ ?_⟩
      · rintro j y H' hy ⟨os, o1, o2, o3, o4⟩
        rw [List.getElem?_map] at hy
        obtain ⟨z, hz, rfl⟩ := Option.map_eq_some_iff.mp hy
        have jl := (List.getElem?_eq_some_iff.mp hz).1
        have yl := perm.length_eq
        have s' := Same.trans sp o4
        refine ⟨rfl, ?_⟩
        refine ⟨_, rfl, _, rfl, a, _, _, _, rfl, rfl, SqT.of (s' _ _ h1), atI_nat (j := 0) rfl, m, _, rfl, .inl (SqL.of (s' _ _ h2)), rfl, all_flat ms', _, rfl, ?_⟩
        refine ite2 (fun _ => ⟨_, rfl, _, o1, small1000 (by rw [List.length_map]; omega), os ++ [z], by rw [upd_same, List.map_append]; rfl, fun y hy => ?_, by rw [List.length_append]; exact Nat.add_le_add_right o3 1, fun b o e => ?_⟩) (fun _ => ⟨os, o1, o2, by omega, o4⟩)
        · rcases List.mem_append.mp hy with hy | hy
          · exact o2 y hy
          · rw [List.mem_singleton.mp hy]
            exact perm.mem_iff.mp (List.mem_of_getElem? hz)
        · rw [upd_ne (ne_of_none e hLk)]
          exact o4 _ _ e
      · rintro H3 ⟨os, o1, o2, o3, o4⟩
        rw [List.length_map, perm.length_eq] at o3
        have s3 := Same.trans sp o4
        have go : ∀ H4, Same H3 H4 → ∃ (i2 i3 : Option V), [some v, some (.ref S), some (.ref a), some (.ref Lk), none] = [some v, some (.ref S), i2, i3, none] ∧ Chg M H H4 ∧ H4 D = some (.lst us) ∧ (∃ t', TrM H4 M (B + (i + 1)) t' v ∧ t'.size = t.size) ∧ (∀ x ∈ us, ∃ u, TrM H4 M (B + (i + 1)) u x ∧ u.size ≤ 60) := fun H4 s4 => by
          have s24 := Same.trans s3 s4
          obtain ⟨t', g1, g2⟩ := q3
          refine ⟨_, _, rfl, q1.same s24, s24 _ _ q2, ⟨t', TrM.mono s24 (fun _ _ _ => Iff.rfl) (by omega) t' v g1, g2⟩, fun x hx => ?_⟩
          obtain ⟨u, g3, g4⟩ := q4 x hx
          exact ⟨u, TrM.mono s24 (fun _ _ _ => Iff.rfl) (by omega) u x g3, g4⟩
        have sh := Fo.shape fo fun u hu => hok u (by unfold Tr.all; exact List.mem_cons_of_mem _ hu)
        have hus' : fo.size + 1 ≤ 60 := hus
        have she : shp (.list fo.data) = true := by
          unfold shp
          rw [can_lst, sh.1, depth_lst, decide_eq_true (by have := sh.2; omega)] <;> rfl
        have shn : shp (.list []) = true := by decide +kernel
        have sho : shp (.list (os.map .str)) = true := by
          unfold shp
          rw [can_lst, can_strs fun y hy => hms.2 y (o2 y hy), depth_lst, dep_strs] <;> rfl
        refine ⟨_, rfl, a, _, _, _, rfl, rfl, SqT.of (s3 _ _ h1), atI_nat (j := 1) rfl, by show 0 ≤ sizeLine; decide, fun E0 hE0 => ?_⟩
        have sE := same_new (o := .lst []) hE0
        have s4 := Same.trans s3 sE
        refine ⟨.list fo.data, .list [], .lst (SqL.of (s4 _ _ h4)) (Fo.dp fo us2 (FoAt.same s4 _ _ (FoM.at_ fo us2 h6))), .lst (SqL.of upd_same) .nil, she, shn, _, rfl, ?_⟩
        refine ite2 (fun _ => ?_) (fun _ => go _ sE)
        refine ⟨_, rfl, by show 0 ≤ sizeLine; decide, fun E1 hE1 => ?_⟩
        have sE1 := same_new (o := .lst []) hE1
        have s5 := Same.trans s4 sE1
        have s35 := Same.trans sE sE1
        refine ⟨.list (os.map .str), .list [], .lst (SqL.of (s35 _ _ o1)) (dp_strs os), .lst (SqL.of upd_same) .nil, sho, shn, _, rfl, ?_⟩
        cases os with
        | nil => exact iteF (go _ s35)
        | cons y os =>
        refine iteT ?_
        have lm := h3'.1
        refine ⟨_, rfl, a, _, _, _, rfl, rfl, SqT.of (s5 _ _ h1), atI_nat (j := 0) rfl, .inl ⟨rfl, _, .inl (.inl (s5 _ _ h2))⟩, ?_⟩
        refine ⟨_, rfl, a, _, _, _, rfl, rfl, SqT.of (s5 _ _ h1), atI_nat (j := 0) rfl, m, rfl, ⟨_, SqL.of (s5 _ _ h2)⟩, fun C hC => lc_list (K := K) (a := m) (xs := ms'.map V.str) (fun j H' => ∃ os2 : List V, H' C = some (.lst os2) ∧ os2.length ≤ j ∧ Same (upd (upd H3 E0 (.lst [])) E1 (.lst [])) H') ⟨[], upd_same, by simp, same_new hC⟩ (fun j H' _ ⟨_, _, _, q⟩ => SqL.of (q _ _ (s5 _ _ h2))) ?_ ?_⟩
        · rintro j z0 H' hz0 ⟨os2, w1, w2, w3⟩
          rw [List.getElem?_map] at hz0
          obtain ⟨z, hz, rfl⟩ := Option.map_eq_some_iff.mp hz0
          have jl := (List.getElem?_eq_some_iff.mp hz).1
          refine ⟨rfl, ?_⟩
          refine ⟨_, rfl, _, rfl, Lk, _, _, _, rfl, rfl, SqL.of (w3 _ _ (s35 _ _ o1)), atI_nat (j := 0) rfl, _, _, rfl, rfl, _, rfl, ?_⟩
          refine ite2 (fun _ => ⟨_, rfl, _, w1, small1000 (by omega), _, upd_same, by rw [List.length_append]; exact Nat.add_le_add_right w2 1, fun b o e => ?_⟩) (fun _ => ⟨os2, w1, by omega, w3⟩)
          rw [upd_ne (ne_of_none e hC)]
          exact w3 _ _ e
        · rintro H5 ⟨os2, w1, w2, w3⟩
          rw [List.length_map] at w2
          have s6 := Same.trans s5 w3
          refine ⟨C, _, rfl, .inl (SqL.of w1), _, rfl, Lk, _, _, _, rfl, rfl, SqL.of (w3 _ _ (s35 _ _ o1)), atI_nat (j := 0) rfl, m, _, _, _, rfl, rfl, s6 _ _ h2, small1000 (by rw [List.length_map]; omega), by omega, by omega, ?_⟩
          have e6 : List.take ((os2.length : Int)).toNat (ms'.map V.str) ++ [V.str y] ++ List.drop ((os2.length : Int)).toNat (ms'.map V.str) = ((ms'.take os2.length) ++ [y] ++ (ms'.drop os2.length)).map V.str := by
            rw [List.map_append, List.map_append, List.map_take, List.map_drop] <;> rfl
          rw [e6]
          have hns : MsOk (B + (i + 1)) ((ms'.take os2.length) ++ [y] ++ (ms'.drop os2.length)) := by
            refine ⟨?_, fun x hx => ?_⟩
            · rw [List.length_append, List.length_append, List.length_take, List.length_drop]
              have : [y].length = 1 := rfl
              omega
            · rcases List.mem_append.mp hx with hx | hx
              · rcases List.mem_append.mp hx with hx | hx
                · exact h3'.2 x (List.mem_of_mem_take hx)
                · rw [List.mem_singleton.mp hx]
                  exact hms.2 y (o2 y List.mem_cons_self)
              · exact h3'.2 x (List.mem_of_mem_drop hx)
          obtain ⟨t', g1, g2⟩ := q3
          have nDm : D ≠ m := fun z => nMD (z ▸ h3)
          obtain ⟨t2, g5, g6⟩ := TrM.put (B' := B + (i + 1)) h3 (s6 _ _ h2) hns (by omega) t' v (TrM.same s6 g1)
          refine ⟨_, _, rfl, (q1.same s6).put h3 (s6 _ _ h2) _, by rw [upd_ne nDm]; exact s6 _ _ q2, ⟨t2, g5, g6.trans g2⟩, fun x hx => ?_⟩
          obtain ⟨u, g3, g4⟩ := q4 x hx
          obtain ⟨u2, g7, g8⟩ := TrM.put (B' := B + (i + 1)) h3 (s6 _ _ h2) hns (by omega) u x (TrM.same s6 g3)
          exact ⟨u2, g7, by rw [g8]; exact g4⟩
    · rintro σ H2 ⟨i2, i3, rfl, q1, q2, ⟨t', g1, g2⟩, q4⟩
      exact k t' H2 (TrM.mono (Same.refl H2) (fun _ _ _ => Iff.rfl) (by omega) t' v g1) g2 q1
end
def spAsked : Sp := fun vs H Q _ => ∃ (p L : Addr) (v : V) (t : Tr) (M : Addr → Prop) (B : Nat) (ys : List V) (ks : List Kd), vs = [.ref p, v, .ref L] ∧ PoolAt H p ∧ TrM H M B t v ∧ t.size ≤ 60 ∧ H L = some (.lst ys) ∧ L ≠ p ∧ All2 (KdAt H) ks ys ∧ (∀ k ∈ ks, k.deep < 10) ∧
  ∀ H', PoolAt H' p → Kept p H H' → Q (.bl true) H'
section
variable {P : Program} {w : World} {K : PySem.W.Frag} {mg : Str → Option Value} {base : Heap}
abbrev nAsked : List Str := ["_law_pool_here", "_law_handed", "_law_kinds", "_law_some", "_law_kind_here", "_law_world", "_law_found"]
theorem scAsked : FnScope nAsked ["_law_pool_here", "_law_handed", "_law_kinds"] (defScope sAsked) := ⟨rfl, rfl, rfl, by decide +kernel, rfl, by decide +kernel, by decide +kernel⟩
theorem ok_asked {f fA fT fH fL : Addr} {fd fdA fdT fdH fdL : FuncData} (F : Fun K "_law_asked" "_law_asked" sAsked f fd) (GA : FnOk P w K mg base CX0 61 fA fdA ["_law_tree_here"] (spAll 60)) (kA : PySem.W.keepIn K (.ref fA) = true) (bA : Binds K fdA ["_law_tree_here"] []) (gA : mg "_law_all" = some (.ref fA))
    (GT : FnOk P w K mg base CX0 1 fT fdT ["_law_pool_here", "_law_many"] spTake) (kT : PySem.W.keepIn K (.ref fT) = true) (bT : Binds K fdT ["_law_pool_here", "_law_many"] []) (gT : mg "_law_take" = some (.ref fT))
    (GH : FnOk P w K mg base CX0 22 fH fdH ["tree", "kind"] (spHolds 20)) (kH : PySem.W.keepIn K (.ref fH) = true) (bH : Binds K fdH ["tree", "kind"] []) (gH : mg "holds" = some (.ref fH))
    (GL : FnOk P w K mg base CX0 82 fL fdL ["_law_tree_here", "_law_kind_here"] (spLH 20)) (kL : PySem.W.keepIn K (.ref fL) = true) (bL : Binds K fdL ["_law_tree_here", "_law_kind_here"] []) (gL : mg "_law_holds" = some (.ref fL))
    (mLen : mg "len" = none) (mIs : mg "isinstance" = none) (mBool : mg "bool" = none) : FnOk P w K mg base CX0 83 f fd ["_law_pool_here", "_law_handed", "_law_kinds"] spAsked := by
  refine F.ok scAsked (fun vs H Q E h => ?_) (fun cdv A outer s H vs Q E hr h => ?_)
  · obtain ⟨p, L, v, t, M, B, ys, ks, rfl, _⟩ := h
    rfl
  · obtain ⟨p, L, v, t, M, B, ys, ks, rfl, hp, ht, hs, hL, nL, hk, hd, k⟩ := h
    have hr1 : Room 1 _ := hr.mono (by omega)
    have hr22 : Room 22 _ := hr.mono (by omega)
    have hr61 : Room 61 _ := hr.mono (by omega)
    refine ⟨_, pss_cons (ps_set (i := 3) scAsked.nd rfl (Or.inl rfl) (pe_call GA hr61 (by rfl) gA kA bA .nil pass0 (pa_cons (pv 1) pa_nil)))
      (pss_cons (ps_for PassesOwn.never rfl (pi_list (pv 2)) (pg_name (i := 4) scAsked.nd rfl (Or.inl rfl))
        (pss_one (ps_for PassesOwn.never rfl (pi_list (pe_lst (pa_cons (pv 1) (pa_cons (pe_ix ix_list (pv 3) (pe_call GT hr1 (by rfl) gT kT bT .nil pass0 (pa_cons (pv 0) (pa_cons (pe_callB call_len_seq (by rfl) mLen PySem.boot_len (pa_cons (pv 3) pa_nil)) pa_nil))) (fun _ _ => rfl)) (pa_cons (pv 1) pa_nil))))) (pg_name (i := 5) scAsked.nd rfl (Or.inl rfl))
          (pss_cons (ps_set (i := 6) scAsked.nd rfl (Or.inl rfl) (pe_call GH hr22 (by rfl) gH kH bH .nil pass0 (pa_cons (pv 5) (pa_cons (pv 4) pa_nil))))
          (pss_one (ps_if (PW.pt (pw_or (pt_not (pt_val (pe_callB (isi_at (K := K) rfl) (by rfl) mIs boot_isi (pa_cons (pv 6) (pa_cons (pe_bltn (v := .ty "bool") (by rfl) mBool boot_boolT rfl) pa_nil)))))
            (pw_or1 (pt_cmpR op_ne (pv 6) (pe_call GL hr (by rfl) gL kL bL .nil pass0 (pa_cons (pv 5) (pa_cons (pv 4) pa_nil))) (nomark _))))) (pss_one (ps_ret pe_bl)) pss_nil))))))
      (pss_one (ps_ret pe_bl))), ?_⟩
    refine ⟨_, rfl, v, t, M, B, rfl, ht, hs, hs, fun X us H1 s1 nX e1 A1 => ?_⟩
    have all60 : t.all.length ≤ 60 := by rw [all_len]; exact hs
    have ul : us.length = t.all.length := A1.len.symm
    have up : 0 < us.length := by
      rw [ul, all_len]
      exact t.pos
    have nXp : X ≠ p := fun z => by
      obtain ⟨o, e⟩ := hp.some
      rw [z, e] at nX
      cases nX
    have hp1 := hp.same s1
    refine ⟨_, rfl, L, rfl, ⟨_, SqL.of (s1 _ _ hL)⟩, for_list (K := K) (a := L) (xs := ys) (fun i σ H2 => ∃ (i4 i5 i6 : Option V), σ = [some (.ref p), some v, some (.ref L), some (.ref X), i4, i5, i6] ∧ PoolAt H2 p ∧ Kept p H1 H2) ⟨_, _, _, rfl, hp1, fun b o _ e => e⟩ (fun i σ H2 _ ⟨_, _, _, _, _, q⟩ => SqL.of (q _ _ nL (s1 _ _ hL))) ?_ ?_⟩
    · rintro i y σ H2 hy ⟨i4, i5, i6, rfl, q1, q2⟩
      obtain ⟨kd, hkd, kat⟩ := hk.get hy
      have kdd := hd kd (List.mem_of_getElem? hkd)
      have kt : ∀ {H' : Hp}, Kept p H1 H' → KdAt H' kd y := fun {H'} kk => KdAt.mono (Tups.trans (tups_of s1) (tups_kept kk hp1)) _ _ kat
      refine ⟨_, rfl, _, rfl, _, rfl, _, rfl, X, _, rfl, .inl (SqL.of (q2 _ _ nXp e1)), p, _, rfl, q1, by omega, by omega, fun q H3 z0 z1 hp3 e3 => ?_⟩
      have k3 : Kept p H1 H3 := q2.trans (kept_take e3)
      obtain ⟨qn, rfl⟩ : ∃ qn : Nat, q = qn := ⟨q.toNat, by omega⟩
      have ql : qn < us.length := by omega
      obtain ⟨wd, hwd⟩ : ∃ wd, us[qn]? = some wd := ⟨_, List.getElem?_eq_getElem ql⟩
      obtain ⟨wt, hwt, wr⟩ := A1.get hwd
      have wsz := Nat.le_trans (all_size _ t wt (Nat.le_refl _) (List.mem_of_getElem? hwt)) hs
      refine ⟨X, _, _, _, rfl, rfl, SqL.of (k3 _ _ nXp e1), atI_nat (j := qn) hwd, _, rfl, by show 3 ≤ sizeLine; decide, fun D hD => ?_⟩
      have sD := same_new (o := .lst [v, wd, v]) hD
      have nD := hp3.ne hD
      have tr : ∀ x ∈ [v, wd, v], ∃ u, TrM H1 M B u x ∧ u.size ≤ 60 := fun x hx => by
        rcases List.mem_cons.mp hx with rfl | hx
        · exact ⟨t, TrM.same s1 ht, hs⟩
        rcases List.mem_cons.mp hx with rfl | hx
        · exact ⟨wt, wr, wsz⟩
        · rw [List.mem_singleton.mp hx]
          exact ⟨t, TrM.same s1 ht, hs⟩
      refine ⟨D, rfl, ⟨_, SqL.of upd_same⟩, for_list (K := K) (a := D) (xs := [v, wd, v]) (fun j σ H4 => ∃ (j5 j6 : Option V), σ = [some (.ref p), some v, some (.ref L), some (.ref X), some y, j5, j6] ∧ PoolAt H4 p ∧ Kept p H1 H4 ∧ H4 D = some (.lst [v, wd, v])) ⟨_, _, rfl, hp3.same sD, k3.trans (kept_same sD), upd_same⟩ (fun j σ H4 _ ⟨_, _, _, _, _, q⟩ => SqL.of q) ?_ ?_⟩
      · rintro j x σ H4 hx ⟨j5, j6, rfl, p1, p2, p3⟩
        obtain ⟨u, hu, us6⟩ := tr x (List.mem_of_getElem? hx)
        have hu4 := TrM.kept hp1 p2 u x hu
        refine ⟨_, rfl, _, rfl, x, y, u, kd, rfl, TrM.at_ u x hu4, us6, kt p2, by omega, fun H5 s5 => ?_⟩
        have k5 := p2.trans (kept_same s5)
        refine ⟨_, rfl, _, _, _, _, true, rfl, .ty "bool", .base (.bl _), kit_ty (by decide +kernel), true, rfl, ?_⟩
        refine iteF ?_
        refine ⟨_, rfl, _, rfl, _, rfl, x, y, u, M, B, kd, rfl, TrM.same s5 hu4, us6, kt k5, by omega, fun H6 s6 => ?_⟩
        refine ⟨rfl, _, rfl, ?_⟩
        refine ite2 (fun z => ?_) (fun _ => ⟨_, _, rfl, p1.same (Same.trans s5 s6), k5.trans (kept_same s6), s6 _ _ (s5 _ _ p3)⟩)
        exact absurd z (by simp)
      · rintro σ H4 ⟨j5, j6, rfl, p1, p2, p3⟩
        exact ⟨_, _, _, rfl, p1, p2⟩
    · rintro σ H2 ⟨i4, i5, i6, rfl, q1, q2⟩
      exact k H2 q1 ((kept_same s1).trans q2)
end
def spLaw (K : PySem.W.Frag) : Sp := fun vs H Q _ => ∃ (a : Addr) (ns : List Int), vs = [.ref a] ∧ SqL K H a (ns.map V.int) ∧ ns.length ≤ 63 ∧ ∀ H', Q (.bl true) H'
theorem All2.drop {α : Type} {R : α → V → Prop} : ∀ (n : Nat) {ks : List α} {vs : List V}, All2 R ks vs → All2 R (ks.drop n) (vs.drop n)
  | 0, _, _, h => h
  | _ + 1, [], [], _ => trivial
  | n + 1, _ :: _, _ :: _, ⟨_, t⟩ => All2.drop n t
  | _ + 1, [], _ :: _, h => h.elim
  | _ + 1, _ :: _, [], h => h.elim
theorem All2.take {α : Type} {R : α → V → Prop} : ∀ (n : Nat) {ks : List α} {vs : List V}, All2 R ks vs → All2 R (ks.take n) (vs.take n)
  | 0, _, _, _ => trivial
  | _ + 1, [], [], _ => trivial
  | n + 1, _ :: _, _ :: _, ⟨h, t⟩ => ⟨h, All2.take n t⟩
  | _ + 1, [], _ :: _, h => h.elim
  | _ + 1, _ :: _, [], h => h.elim
mutual
theorem TrAt.kept {H H' : Hp} {p : Addr} (hp : PoolAt H p) (k : Kept p H H') : ∀ (t : Tr) (v : V), TrAt H t v → TrAt H' t v
  | .mk ms f, v, h => by
    unfold TrAt at h ⊢
    obtain ⟨a, m, l, us, e, h1, h2, h4, h6⟩ := h
    refine ⟨a, m, l, us, e, tups_kept k hp _ _ h1, k _ _ (pool_marks hp h2) h2, k _ _ (fun z => ?_) h4, FoAt.kept hp k f us h6⟩
    subst z
    obtain ⟨c, n, e, _⟩ := hp
    rw [e] at h4
    cases h4
    cases f with
    | nil =>
      unfold FoAt at h6
      cases h6
    | cons t f =>
      unfold FoAt at h6
      obtain ⟨u, r, e, h1, _⟩ := h6
      cases e
      obtain ⟨ms, g⟩ := t
      unfold TrAt at h1
      obtain ⟨_, _, _, _, e, _⟩ := h1
      cases e
theorem FoAt.kept {H H' : Hp} {p : Addr} (hp : PoolAt H p) (k : Kept p H H') : ∀ (f : Fo) (us : List V), FoAt H f us → FoAt H' f us
  | .nil, us, h => by
    unfold FoAt at h ⊢
    exact h
  | .cons t f, us, h => by
    unfold FoAt at h ⊢
    obtain ⟨u, r, e, h1, h2⟩ := h
    exact ⟨u, r, e, TrAt.kept hp k t u h1, FoAt.kept hp k f r h2⟩
end
theorem Chg.tups {M : Addr → Prop} {H H' : Hp} (c : Chg M H H') : Tups H H' := fun b xs e => by
  rcases c b _ e with z | ⟨_, ⟨ys, z⟩, _⟩
  · exact z
  · cases z
section
variable {P : Program} {w : World} {K : PySem.W.Frag} {mg : Str → Option Value} {base : Heap}
abbrev nLaw : List Str := ["_law_script", "_law_k", "_law_pool_here", "_law_marks_here", "_law_tree_here", "_law_handed", "_law_other", "_law_kinds", "_law_turn"]
theorem scLaw : FnScope nLaw ["_law_script"] (defScope sLaw') := ⟨rfl, rfl, rfl, by decide +kernel, rfl, by decide +kernel, by decide +kernel⟩
theorem ok_law {f f1 f2 f3 f4 f5 f6 f7 f8 : Addr} {fd fd1 fd2 fd3 fd4 fd5 fd6 fd7 fd8 : FuncData} (F : Fun K "law" "law" sLaw' f fd)
    (GP : FnOk P w K mg base CX0 1 f1 fd1 ["_law_script", "_law_k"] (spPool K)) (kP : PySem.W.keepIn K (.ref f1) = true) (bP : Binds K fd1 ["_law_script", "_law_k"] []) (gP : mg "_law_pool" = some (.ref f1))
    (GT : FnOk P w K mg base CX0 1 f2 fd2 ["_law_pool_here", "_law_many"] spTake) (kT : PySem.W.keepIn K (.ref f2) = true) (bT : Binds K fd2 ["_law_pool_here", "_law_many"] []) (gT : mg "_law_take" = some (.ref f2))
    (GM : FnOk P w K mg base CX0 2 f3 fd3 ["_law_pool_here"] spMarks) (kM : PySem.W.keepIn K (.ref f3) = true) (bM : Binds K fd3 ["_law_pool_here"] []) (gM : mg "_law_marks" = some (.ref f3))
    (GK : FnOk P w K mg base CX0 8 f4 fd4 ["_law_pool_here", "_law_leaves", "_law_marks_here"] (spKind 6)) (kK : PySem.W.keepIn K (.ref f4) = true) (bK : Binds K fd4 ["_law_pool_here", "_law_leaves", "_law_marks_here"] []) (gK : mg "_law_kind" = some (.ref f4))
    (GR : FnOk P w K mg base CX0 6 f5 fd5 ["_law_pool_here", "_law_marks_here", "_law_had", "_law_room"] (spTree 4)) (kR : PySem.W.keepIn K (.ref f5) = true) (bR : Binds K fd5 ["_law_pool_here", "_law_marks_here", "_law_had", "_law_room"] []) (gR : mg "_law_tree" = some (.ref f5))
    (GC : FnOk P w K mg base CX0 41 f6 fd6 ["_law_thing"] (spCop 40)) (kC : PySem.W.keepIn K (.ref f6) = true) (bC : Binds K fd6 ["_law_thing"] []) (gC : mg "_law_copied" = some (.ref f6))
    (GA : FnOk P w K mg base CX0 83 f7 fd7 ["_law_pool_here", "_law_handed", "_law_kinds"] spAsked) (kA : PySem.W.keepIn K (.ref f7) = true) (bA : Binds K fd7 ["_law_pool_here", "_law_handed", "_law_kinds"] []) (gA : mg "_law_asked" = some (.ref f7))
    (GU : FnOk P w K mg base CX0 62 f8 fd8 ["_law_tree_here", "_law_marks_here"] spPut) (kU : PySem.W.keepIn K (.ref f8) = true) (bU : Binds K fd8 ["_law_tree_here", "_law_marks_here"] []) (gU : mg "_law_put" = some (.ref f8))
    (mLen : mg "len" = none) (mMax : mg "max" = none) (mMin : mg "min" = none) (mRange : mg "range" = none) (mList : mg "list" = none) : FnOk P w K mg base CX0 84 f fd ["_law_script"] (spLaw K) := by
  refine F.ok scLaw (fun vs H Q E h => ?_) (fun cdv A outer s H vs Q E hr h => ?_)
  · obtain ⟨a, ns, rfl, _⟩ := h
    rfl
  · obtain ⟨a, ns, rfl, hS, hl, k⟩ := h
    have hr1 : Room 1 _ := hr.mono (by omega)
    have hr2 : Room 2 _ := hr.mono (by omega)
    have hr6 : Room 6 _ := hr.mono (by omega)
    have hr8 : Room 8 _ := hr.mono (by omega)
    have hrC : Room 41 _ := hr.mono (by omega)
    have hrU : Room 62 _ := hr.mono (by omega)
    have hW : (cxOf CX0 P w K mg base nLaw "law" (defScope sLaw') f cdv A outer s H E).A.units + 190 < cLine := u190 hr
    refine ⟨_, pss_cons (ps_for PassesOwn.never rfl (pi_range1 (by rfl) mRange (pa_cons (pe_callB (call_max2 (by rfl)) (by rfl) mMax (by decide +kernel) (pa_cons pe_int (pa_cons (pe_callB (call_min2 (by rfl)) (by rfl) mMin (by decide +kernel) (pa_cons (pe_callB call_len_seq (by rfl) mLen PySem.boot_len (pa_cons (pv 0) pa_nil)) (pa_cons pe_int pa_nil))) pa_nil))) pa_nil)) (pg_name (i := 1) scLaw.nd rfl (Or.inl rfl))
        (pss_cons (ps_set (i := 2) scLaw.nd rfl (Or.inr rfl) (pe_call GP hr1 (by rfl) gP kP bP .nil pass0 (pa_cons (pv 0) (pa_cons (pv 1) pa_nil))))
        (pss_cons (ps_set (i := 3) scLaw.nd rfl (Or.inr rfl) (pe_call GM hr2 (by rfl) gM kM bM .nil pass0 (pa_cons (pv 2) pa_nil)))
        (pss_cons (ps_set (i := 4) scLaw.nd rfl (Or.inl rfl) (pe_call GR hr6 (by rfl) gR kR bR .nil pass0 (pa_cons (pv 2) (pa_cons (pv 3) (pa_cons (pe_lst pa_nil) (pa_cons pe_int pa_nil))))))
        (pss_cons (ps_set (i := 5) scLaw.nd rfl (Or.inl rfl) (pe_call GC hrC (by rfl) gC kC bC .nil pass0 (pa_cons (pv 4) pa_nil)))
        (C8.pss_cut (ps_if (pt_cmpR op_eq (pe_call GT hr1 (by rfl) gT kT bT .nil pass0 (pa_cons (pv 2) (pa_cons pe_int pa_nil))) pe_int (nomark _))
            (pss_cons (ps_set (i := 6) scLaw.nd rfl (Or.inl rfl) (pe_call GR hr6 (by rfl) gR kR bR .nil pass0 (pa_cons (pv 2) (pa_cons (pv 3) (pa_cons (pe_ix ix_tup (pv 4) pe_int (fun _ _ => rfl)) (pa_cons pe_int pa_nil))))))
            (pss_cons (ps_set (i := 4) scLaw.nd rfl (Or.inl rfl) (pe_tup (pa_cons (pe_ix ix_tup (pv 4) pe_int (fun _ _ => rfl)) (pa_cons (pe_lst (pa_cons (pv 4) (pa_cons (pv 6) (pa_cons (pv 4) pa_nil)))) pa_nil))))
            (pss_one (ps_set (i := 5) scLaw.nd rfl (Or.inl rfl) (pe_tup (pa_cons (pe_callTy call_list_of (by rfl) mList boot_listT (pa_cons (pe_ix ix_tup (pv 4) pe_int (fun _ _ => rfl)) pa_nil)) (pa_cons (pe_lst (pa_cons (pv 5) (pa_cons (pe_call GC hrC (by rfl) gC kC bC .nil pass0 (pa_cons (pv 6) pa_nil)) (pa_cons (pv 5) pa_nil)))) pa_nil))))))) pss_nil)
        (pss_cons (ps_setLc (i := 7) (own := [("_law_turn", 8)]) (g := gName 8) (tt := tYes) (by rfl) scLaw.nd rfl rfl (sw_true rfl rfl rfl (by decide +kernel)) (pi_range1 (by rfl) mRange (pa_cons pe_int pa_nil)) (blkOk_by (N := nLaw) (sc := defScope sLaw') (by decide +kernel)) (fun _ _ _ _ _ => pg_name (i := 8) scLaw.nd rfl (Or.inl rfl)) (fun _ _ _ _ _ => pts_nil)
            (fun _ _ _ _ _ => pe_call GK hr8 (by rfl) gK kK bK .nil pass0 (pa_cons (pv 2) (pa_cons (pe_op op_add pe_int (pe_call GT hr1 (by rfl) gT kT bT .nil pass0 (pa_cons (pv 2) (pa_cons pe_int pa_nil)))) (pa_cons (pv 3) pa_nil)))))
        (pss_cons (ps_if (PW.pt (pw_or (pt_not (pt_val (pe_call GA hr (by rfl) gA kA bA .nil pass0 (pa_cons (pv 2) (pa_cons (pv 5) (pa_cons (pv 7) pa_nil)))))) (pw_or1 (pt_cmpR (op_neW hW) (pv 5) (pv 4) (nomark _))))) (pss_one (ps_ret pe_bl)) pss_nil)
        (pss_cons (ps_expr (pe_call GU hrU (by rfl) gU kU bU .nil pass0 (pa_cons (pv 5) (pa_cons (pv 3) pa_nil))))
        (pss_cons (ps_if (pt_not (pt_val (pe_call GA hr (by rfl) gA kA bA .nil pass0 (pa_cons (pv 2) (pa_cons (pv 5) (pa_cons (pv 7) pa_nil)))))) (pss_one (ps_ret pe_bl)) pss_nil)
        (pss_cons (ps_expr (pe_call GU hrU (by rfl) gU kU bU .nil pass0 (pa_cons (pv 5) (pa_cons (pv 3) pa_nil))))
        (pss_one (ps_if (pt_not (pt_val (pe_call GA hr (by rfl) gA kA bA .nil pass0 (pa_cons (pv 2) (pa_cons (pv 5) (pa_cons (pe_slice sl_list (pv 7) po_none (po_some pe_int)) pa_nil)))))) (pss_one (ps_ret pe_bl)) pss_nil)))))))))))))
      (pss_one (ps_ret pe_bl)), ?_⟩
    refine ⟨_, rfl, a, _, rfl, .inl hS, _, _, rfl, _, _, rfl, ?_⟩
    rw [List.length_map]
    obtain ⟨j, hj, hj1, hj2⟩ : ∃ j : Int, (if (if (6 : Int) < (ns.length : Int) then 6 else (ns.length : Int)) > 1 then (if (6 : Int) < (ns.length : Int) then 6 else (ns.length : Int)) else 1) = j ∧ 1 ≤ j ∧ j ≤ 6 := ⟨_, rfl, by split <;> (try split) <;> omega, by split <;> (try split) <;> omega⟩
    rw [hj]
    refine ⟨j, rfl, by omega, by omega, for_range (lo := 0) (n := j.toNat) (fun i σ H2 => ∃ (i1 i2 i3 i4 i5 i6 i7 : Option V), σ = [some (.ref a), i1, i2, i3, i4, i5, i6, i7, none] ∧ Same H H2) ⟨none, none, none, none, none, none, none, rfl, Same.refl H⟩ ?_ ?_⟩
    · rintro i σ H2 hi ⟨i1, i2, i3, i4, i5, i6, i7, rfl, hS2⟩
      refine ⟨_, rfl, _, rfl, a, ns, i, by rw [Int.zero_add]; rfl, hS2.seq hS, hl, by omega, fun p H3 hp0 hp e3 => ?_⟩
      have k3 : Kept p H2 H3 := kept_take e3
      refine ⟨_, rfl, p, rfl, hp, fun Mk ms H4 hM m1 m2 mok hp4 k4 nMp => ?_⟩
      refine ⟨_, rfl, _, rfl, by show 0 ≤ sizeLine; decide, fun L hL => ?_⟩
      have sL := same_new (o := .lst []) hL
      refine ⟨p, Mk, L, 3, ms, [], rfl, hp4.same sL, by decide, sL _ _ hM, by omega, upd_same, by simp, fun v t H5 t1 t2 t3 t4 tk hp5 k5 => ?_⟩
      have hp4L := hp4.same sL
      have tz : t.size ≤ 15 := Nat.le_trans t4 (by decide)
      have nM' : Mk ≠ p := nMp
      have ht5 : TrAt H5 t v := TrAt.same (frsh_sub fun b o e1 e2 => e2) _ _ t1
      have msok : ∀ {u : Tr}, tOk ms u → ∀ x ∈ u.all, MsOk 4 x.ms := fun {u} hu x hx => ⟨Nat.le_trans (hu x hx).2 m2, fun y hy => mok y ((hu x hx).1 y hy)⟩
      refine ⟨_, rfl, .inr (.inr (.inr ⟨v, t, 4, rfl, ht5, by omega, by omega, msok tk, by decide, fun v' M H6 s6 tm fr => ?_⟩))⟩
      have hM5 := k5 _ _ nM' (sL _ _ hM)
      have k25 : Kept p H2 H5 := (k3.trans k4).trans ((kept_same sL).trans k5)
      have k26 := k25.trans (kept_same s6)
      have hp6 := hp5.same s6
      have frM : ∀ b, M b → H5 b = none ∧ ∃ o, H6 b = some o := fun b z => by
        obtain ⟨o, g⟩ := fr b z
        obtain ⟨g1, g2⟩ := frsh_some.mp g
        exact ⟨g1, o, g2⟩
      have nMp5 : ¬ M p := fun z => by
        obtain ⟨o, e⟩ := hp5.some
        rw [(frM p z).1] at e
        cases e
      have nMk5 : ¬ M Mk := fun z => by
        have := (frM Mk z).1
        rw [hM5] at this
        cases this
      have hM6 := s6 _ _ hM5
      have ht6 := TrAt.same s6 _ _ ht5
      have tm6 : TrM H6 M 4 t v' := TrM.same (frsh_sub fun b o e1 e2 => e2) tm
      refine ⟨fun σ H' => ∃ (tv hv : V) (i6 : Option V) (T : Tr) (M : Addr → Prop), σ = [some (.ref a), some (.int (0 + (i : Int))), some (.ref p), some (.ref Mk), some tv, some hv, i6, i7, none] ∧ PoolAt H' p ∧ TrAt H' T tv ∧ TrM H' M 4 T hv ∧ T.size ≤ 40 ∧ H' Mk = some (.lst (ms.map V.str)) ∧ ¬ M Mk ∧ ¬ M p ∧ (∀ b, M b → H2 b = none ∧ ∃ o, H' b = some o) ∧ Kept p H2 H', ?_, ?_⟩
      · refine ⟨_, rfl, p, 4, rfl, hp6, by decide, by decide, fun q H7 q0 q1 hp7 e7 => ?_⟩
        have k67 := kept_take e7
        have hM7 := k67 _ _ nM' hM6
        have ht7 := TrAt.kept hp6 k67 t v ht6
        refine ⟨rfl, _, rfl, ?_⟩
        refine ite2 (fun _ => ?_) (fun _ => ⟨v, v', _, t, M, rfl, hp7, ht7, TrM.kept hp6 k67 t v' tm6, by omega, hM7, nMk5, nMp5, fun b z => ?_, k26.trans k67⟩)
        · obtain ⟨ms0, f0⟩ := t
          have hu := ht7
          unfold TrAt at hu
          obtain ⟨a0, m0, l0, us0, rfl, h1, h2, h3, h4⟩ := hu
          refine ⟨_, rfl, _, rfl, _, rfl, a0, _, _, _, rfl, rfl, SqT.of h1, atI_nat (j := 0) rfl, p, Mk, m0, 1, ms, ms0, rfl, hp7, by decide, hM7, by omega, h2, (tk _ (all_self _)).1, fun vo to H8 o1 o2 o3 o4 ok hp8 k8 => ?_⟩
          have hv8 : H8 a0 = some (.tup [.ref m0, .ref l0]) := k8 _ _ (fun z => by
            obtain ⟨c, n, e, _⟩ := hp7
            rw [z, e] at h1
            cases h1) h1
          have nm0 : m0 ≠ p := pool_marks hp7 h2
          have h28 := k8 _ _ nm0 h2
          have k28 : Kept p H2 H8 := (k26.trans k67).trans k8
          have k68 : Kept p H6 H8 := k67.trans k8
          refine ⟨_, rfl, a0, _, _, _, rfl, rfl, SqT.of hv8, atI_nat (j := 0) rfl, _, rfl, _, rfl, _, rfl, by show 3 ≤ sizeLine; decide, fun Lt hLt => ⟨by show 2 ≤ sizeLine; decide, fun At' hAt => ?_⟩⟩
          have sa := same_new (o := .lst [V.ref a0, vo, V.ref a0]) hLt
          have sb := same_new (o := .tup [V.ref m0, V.ref Lt]) hAt
          have s8b := Same.trans sa sb
          refine ⟨_, rfl, At', _, _, _, rfl, rfl, SqT.of upd_same, atI_nat (j := 0) rfl, m0, _, rfl, .inl (SqL.of (s8b _ _ h28)), fun ml hml => ?_⟩
          have sc := same_new (o := .lst (ms0.map V.str)) hml
          have s8c := Same.trans s8b sc
          have ho8 : TrAt H8 to vo := TrAt.same (frsh_sub fun b o _ e => e) _ _ o1
          have o4' : to.size ≤ 3 := o4
          refine ⟨_, rfl, _, rfl, .inr (.inr (.inr ⟨vo, to, 4, rfl, TrAt.same s8c _ _ ho8, by omega, by omega, msok ok, by decide, fun vo' M' Hy sy ty fry => ⟨_, rfl, by show 3 ≤ sizeLine; decide, fun Lh hLh => ⟨by show 2 ≤ sizeLine; decide, fun Ah hAh => ?_⟩⟩⟩))⟩
          have sd := same_new (o := .lst [v', vo', v']) hLh
          have se := same_new (o := .tup [V.ref ml, V.ref Lh]) hAh
          have sye := Same.trans sd se
          have sce := Same.trans sy sye
          have s8e := Same.trans s8c sce
          have sbe := Same.trans sc sce
          have s8y := Same.trans s8c sy
          have k6e := k68.trans (kept_same s8e)
          have live8 : ∀ {b : Addr} {o : HO}, b ≠ p → H6 b = some o → H8 b = some o := fun {b o} nb e => k68 b o nb e
          have frM' : ∀ b, M' b → ∃ o, Hy b = some o := fun b z => by
            obtain ⟨o, g⟩ := fry b z
            exact ⟨o, (frsh_some.mp g).2⟩
          have frM8 : ∀ b, M' b → H8 b = none := fun b z => by
            obtain ⟨o, g⟩ := fry b z
            exact free_of s8c (frsh_some.mp g).1
          have ml8 : H8 ml = none := free_of s8b hml
          have pl8 := hp8.some
          have M8 : ∀ b, M b → ∃ o, H8 b = some o := fun b z => by
            obtain ⟨_, o, g2⟩ := frM b z
            exact ⟨o, live8 (fun y => nMp5 (y ▸ z)) g2⟩
          have nn : ∀ {b : Addr} {o : HO}, H8 b = some o → H8 b = none → False := fun {b o} e z => by
            rw [e] at z
            cases z
          have hp8e := hp8.same s8e
          have hM8 := k8 _ _ nM' hM7
          have nLh : Lh ≠ ml := fun z => by
            have := sy ml _ upd_same
            rw [← z, hLh] at this
            cases this
          refine ⟨.ref At', .ref Ah, _, .mk ms0 (ofL [.mk ms0 f0, to, .mk ms0 f0]), fun b => b = ml ∨ M b ∨ M' b, rfl, hp8e, ?_, ?_, ?_, s8e _ _ hM8, ?_, ?_, fun b z => ?_, k28.trans (kept_same s8e)⟩
          · have t9 := TrAt.same s8e _ _ (TrAt.kept hp7 k8 _ _ ht7)
            unfold TrAt
            exact ⟨At', m0, Lt, _, rfl, sbe _ _ upd_same, s8e _ _ h28, sbe _ _ (sb _ _ upd_same), ofL_at [.mk ms0 f0, to, .mk ms0 f0] [V.ref a0, vo, V.ref a0] ⟨t9, TrAt.same s8e _ _ ho8, t9, trivial⟩⟩
          · have t9 : TrM (upd (upd Hy Lh (.lst [v', vo', v'])) Ah (.tup [V.ref ml, V.ref Lh])) (fun b => b = ml ∨ M b ∨ M' b) 4 (.mk ms0 f0) v' := TrM.mono (frsh_sub fun b o e1 e2 => k6e b o (fun z => by
                obtain ⟨o', e'⟩ := hp5.some
                rw [z, e'] at e1
                cases e1) e2) (fun b o e => ⟨fun z => by
                obtain ⟨e1, e2⟩ := frsh_some.mp e
                have nb : b ≠ p := fun y => by
                  obtain ⟨o', e'⟩ := hp5.some
                  rw [y, e'] at e1
                  cases e1
                rcases z with z | z | z
                · exact (nn (live8 nb e2) (z ▸ ml8)).elim
                · exact z
                · exact (nn (live8 nb e2) (frM8 b z)).elim, fun z => .inr (.inl z)⟩) (Nat.le_refl 4) _ _ tm
            have t10 : TrM (upd (upd Hy Lh (.lst [v', vo', v'])) Ah (.tup [V.ref ml, V.ref Lh])) (fun b => b = ml ∨ M b ∨ M' b) 4 to vo' := TrM.mono (frsh_sub fun b o e1 e2 => sye _ _ e2) (fun b o e => ⟨fun z => by
                obtain ⟨e1, e2⟩ := frsh_some.mp e
                rcases z with z | z | z
                · rw [z, upd_same] at e1
                  cases e1
                · obtain ⟨o', g⟩ := M8 b z
                  rw [s8c _ _ g] at e1
                  cases e1
                · exact z, fun z => .inr (.inr z)⟩) (Nat.le_refl 4) _ _ ty
            unfold TrM
            refine ⟨Ah, ml, Lh, [v', vo', v'], rfl, upd_same, sce _ _ upd_same, ⟨.inl rfl, msok tk _ (all_self _)⟩, se _ _ upd_same, ?_, FoM.of2 _ _ ⟨t9, t10, t9, trivial⟩⟩
            rintro (z | z | z)
            · exact nLh z
            · obtain ⟨o', g⟩ := M8 Lh z
              rw [s8y _ _ g] at hLh
              cases hLh
            · obtain ⟨o', g⟩ := frM' Lh z
              rw [g] at hLh
              cases hLh
          · simp only [ofL, Tr.size, Fo.size] at tz ⊢
            omega
          · rintro (z | z | z)
            · exact nn hM8 (z ▸ ml8)
            · exact nMk5 z
            · exact nn hM8 (frM8 _ z)
          · obtain ⟨o', e'⟩ := pl8
            rintro (z | z | z)
            · exact nn e' (z ▸ ml8)
            · exact nMp5 z
            · exact nn e' (frM8 _ z)
          · rcases z with z | z | z
            · subst z
              exact ⟨kept_dom k28 pl8 _ ml8, _, sce _ _ upd_same⟩
            · obtain ⟨g1, _⟩ := frM b z
              obtain ⟨o', g⟩ := M8 b z
              exact ⟨kept_dom k25 hp5.some b g1, o', s8e _ _ g⟩
            · obtain ⟨o', g⟩ := frM' b z
              exact ⟨kept_dom k28 pl8 _ (frM8 b z), o', sye _ _ g⟩
        · obtain ⟨g1, o, g2⟩ := frM b z
          exact ⟨kept_dom k25 hp5.some b g1, o, k67 _ _ (fun y => nMp5 (y ▸ z)) g2⟩
      · rintro σ H7 ⟨tv, hv, i6, T, M, rfl, hp7, hT, hh, hz, hM7, nMk, nMp, frM, k27⟩
        have p7 := hp7.some
        have frL : ∀ {H' : Hp}, Kept p H7 H' → ∀ b, M b → ∃ o, H' b = some o := fun {H'} kk b z => by
          obtain ⟨_, o, g⟩ := frM b z
          exact ⟨o, kk b o (fun y => nMp (y ▸ z)) g⟩
        refine ⟨6, rfl, by decide, by decide, fun D hD => lc_range (lo := 0) (n := 6) (fun j H' => ∃ (us : List V) (ks : List Kd), H' D = some (.lst us) ∧ All2 (KdAt H') ks us ∧ ks.length = j ∧ (∀ k ∈ ks, k.deep < 10) ∧ PoolAt H' p ∧ Kept p H7 H') ⟨[], [], upd_same, trivial, rfl, by simp, hp7.upd hD, kept_same (same_new hD)⟩ ?_ ?_⟩
        · have nD := hp7.ne hD
          rintro j H7' hj7 ⟨us, ks, u1, u2, u3, u4, u5, u6⟩
          refine ⟨rfl, ?_⟩
          unfold tYes
          dsimp only
          rw [if_pos rfl]
          refine ⟨_, rfl, _, rfl, p, 6, rfl, u5, by decide, by decide, fun q H8 q0 q1 hp8 e8 => ⟨_, _, rfl, rfl, ?_⟩⟩
          obtain ⟨qn, rfl⟩ : ∃ qn : Nat, q = qn := ⟨q.toNat, by omega⟩
          have k8 := kept_take e8
          refine ⟨_, rfl, p, Mk, 1 + qn, ms, rfl, hp8, by omega, by omega, by omega, k8 _ _ nM' (u6 _ _ nM' hM7), m1, by omega, fun y kd H9 y1 y2 hp9 k9 => ?_⟩
          have k79 := k8.trans k9
          have kl := kd.deep_lt
          refine ⟨_, k79 _ _ nD u1, small1000 (by have := u2.len; omega), us ++ [y], ks ++ [kd], upd_same, ?_, by rw [List.length_append, u3]; rfl, fun x hx => ?_, ?_, fun b o nb e => ?_⟩
          · have tl : Tups H9 (upd H9 D (.lst (us ++ [y]))) := tups_lst (k79 _ _ nD u1)
            exact (u2.mono (KdAt.mono (Tups.trans (tups_kept k79 u5) tl))).app (ls := [kd]) (us := [y]) ⟨KdAt.mono tl _ _ y1, trivial⟩
          · rcases List.mem_append.mp hx with hx | hx
            · exact u4 x hx
            · rw [List.mem_singleton.mp hx]
              omega
          · obtain ⟨c1, n1, z1, z2, z3⟩ := hp9
            exact ⟨c1, n1, by rw [upd_ne (Ne.symm nD)]; exact z1, z2, z3⟩
          · rw [upd_ne (ne_of_none e hD)]
            exact k79 b o nb (u6 b o nb e)
        · rintro H8 ⟨us, ks, u1, u2, u3, u4, u5, u6⟩
          have nD := hp7.ne hD
          have nMD : ¬ M D := fun z => by
            obtain ⟨_, o, g⟩ := frM D z
            rw [hD] at g
            cases g
          refine ⟨_, rfl, _, rfl, _, rfl, p, D, hv, T, M, 4, us, ks, rfl, u5, TrM.kept hp7 u6 T hv hh, by omega, u1, nD, u2, u4, fun H9 hp9 k9 => ⟨_, rfl, ?_⟩⟩
          refine iteF ?_
          have k79 := u6.trans k9
          have hT9 := TrAt.kept hp7 k79 T tv hT
          have hh9 := TrM.kept hp7 k79 T hv hh
          have sh := Tr.shape T (TrM.ok T hv hh)
          have shT : shp T.data = true := by
            unfold shp
            rw [sh.1, decide_eq_true (by have := sh.2; omega)] <;> rfl
          have eqT : PyData.eqv T.data T.data = true := SeqAt.eqv_refl _ sh.1
          refine ⟨_, rfl, _, rfl, T.data, T.data, Tr.dp T hv (TrM.at_ T hv hh9), Tr.dp T tv hT9, shT, shT, _, rfl, ?_⟩
          refine ite2 (fun z => absurd z (by rw [eqT]; decide)) (fun _ => ?_)
          have hM9 := k79 _ _ nM' hM7
          refine ⟨_, rfl, _, rfl, hv, Mk, T, M, 4, ms, rfl, hh9, by omega, by decide, hM9, ⟨by omega, mok⟩, nMk, frL k79, fun T1 H10 t1 z1 c1 => ?_⟩
          have hp10 : PoolAt H10 p := by
            obtain ⟨c, n, e, r⟩ := hp9
            exact ⟨c, n, c1.out e nMp, r⟩
          have u9 := k9 _ _ nD u1
          have u2' : All2 (KdAt H10) ks us := u2.mono (KdAt.mono (Tups.trans (tups_kept k9 u5) c1.tups))
          refine ⟨_, rfl, _, rfl, _, rfl, p, D, hv, T1, M, 64, us, ks, rfl, hp10, t1, by omega, c1.out u9 nMD, nD, u2', u4, fun H11 hp11 k11 => ⟨_, rfl, ?_⟩⟩
          refine iteF ?_
          have live10 : ∀ b, M b → ∃ o, H10 b = some o := fun b z => by
            obtain ⟨o, g⟩ := frL k79 b z
            rcases c1 b o g with e | ⟨_, _, ys, e⟩
            · exact ⟨o, e⟩
            · exact ⟨_, e⟩
          have live11 : ∀ b, M b → ∃ o, H11 b = some o := fun b z => by
            obtain ⟨o, g⟩ := live10 b z
            exact ⟨o, k11 b o (fun y => nMp (y ▸ z)) g⟩
          refine ⟨_, rfl, _, rfl, hv, Mk, T1, M, 64, ms, rfl, TrM.kept hp10 k11 T1 hv t1, by omega, by decide, k11 _ _ nM' (c1.out hM9 nMk), ⟨by omega, mok⟩, nMk, live11, fun T2 H12 t2 z2 c2 => ?_⟩
          have hp12 : PoolAt H12 p := by
            obtain ⟨c, n, e, r⟩ := hp11
            exact ⟨c, n, c2.out e nMp, r⟩
          have u12 := c2.out (k11 _ _ nD (c1.out u9 nMD)) nMD
          have u2'' : All2 (KdAt H12) ks us := u2'.mono (KdAt.mono (Tups.trans (tups_kept k11 hp10) c2.tups))
          refine ⟨_, rfl, _, rfl, _, rfl, 2, rfl, D, _, rfl, SqL.of u12, fun D2 hD2 => ?_⟩
          have sD2 := same_new (o := .lst (cutV us none (some 2))) hD2
          refine ⟨p, D2, hv, T2, M, 124, cutV us none (some 2), (ks.drop (HT.sIx us.length 0 none)).take (HT.sIx us.length us.length (some 2) - HT.sIx us.length 0 none), rfl, hp12.same sD2, TrM.same sD2 t2, by omega, upd_same, hp12.ne hD2, ?_, fun x hx => u4 x (List.mem_of_mem_drop (List.mem_of_mem_take hx)), fun H13 hp13 k13 => ⟨_, rfl, ?_⟩⟩
          · exact ((u2''.mono (KdAt.mono (tups_of sD2))).drop _).take _
          · refine iteF ?_
            refine ⟨_, _, _, _, _, _, _, rfl, fun b o e => ?_⟩
            have e2 := hS2 b o e
            have nb : b ≠ p := ne_of_none e2 hp0
            have nm : ¬ M b := fun z => by
              rw [(frM b z).1] at e2
              cases e2
            exact k13 b o nb (sD2 _ _ (c2.out (k11 b o nb (c1.out (k79 b o nb (k27 b o nb e2)) nm)) nm))
    · rintro σ H2 ⟨i1, i2, i3, i4, i5, i6, i7, rfl, hS2⟩
      exact k _
end
/-! the end -/
theorem all_mk {l : PySem.W.OpenLaw} {w : World} {K : PySem.W.Frag} {h : Heap} {mg : Str → Option Value} {fa f0 f1 f2 f3 f4 f5 f6 f7 f8 f9 f10 f11 f12 f13 : Addr} (X : K.In h) (G : h.Ns mainGlobals mg) (hfa : mg "law" = some (.ref fa))
    {od0 an0 od1 an1 od2 an2 od3 an3 od4 an4 od5 an5 od6 an6 od7 an7 od8 an8 od9 an9 od10 an10 od11 an11 od12 an12 od13 an13 : Option Addr}
    {sl0 sl1 sl2 sl3 sl4 sl5 sl6 sl7 sl8 sl9 sl10 sl11 sl12 sl13 : Array (Option Value)} {oc0 kV0 dc0 pm0 cd0 ct0 oc1 kV1 dc1 pm1 cd1 ct1 oc2 kV2 dc2 pm2 cd2 ct2 oc3 kV3 dc3 pm3 cd3 ct3 oc4 kV4 dc4 pm4 cd4 ct4 oc5 kV5 dc5 pm5 cd5 ct5 oc6 kV6 dc6 pm6 cd6 ct6 oc7 kV7 dc7 pm7 cd7 ct7 oc8 kV8 dc8 pm8 cd8 ct8 oc9 kV9 dc9 pm9 cd9 ct9 oc10 kV10 dc10 pm10 cd10 ct10 oc11 kV11 dc11 pm11 cd11 ct11 oc12 kV12 dc12 pm12 cd12 ct12 oc13 kV13 dc13 pm13 cd13 ct13 : Value}
    (a0 : PySem.W.nsIn K mainGlobals "law" = some (some (.ref f0)))
    (l0 : K.lookup f0 = some ⟨oc0, od0, .func (PySem.W.fnOf "law" "law" (defArgs sLaw') (defBody sLaw') (defScope sLaw') .none kV0 dc0 pm0 an0 cd0 ct0), sl0⟩)
    (c0 : PySem.W.codeIn K cd0 "law" = true) (k0 : PySem.W.keepIn K (.ref f0) = true)
    (a1 : PySem.W.nsIn K mainGlobals "_law_pool" = some (some (.ref f1)))
    (l1 : K.lookup f1 = some ⟨oc1, od1, .func (PySem.W.fnOf "_law_pool" "_law_pool" (defArgs sPool) (defBody sPool) (defScope sPool) .none kV1 dc1 pm1 an1 cd1 ct1), sl1⟩)
    (c1 : PySem.W.codeIn K cd1 "_law_pool" = true) (k1 : PySem.W.keepIn K (.ref f1) = true)
    (a2 : PySem.W.nsIn K mainGlobals "_law_take" = some (some (.ref f2)))
    (l2 : K.lookup f2 = some ⟨oc2, od2, .func (PySem.W.fnOf "_law_take" "_law_take" (defArgs sTake) (defBody sTake) (defScope sTake) .none kV2 dc2 pm2 an2 cd2 ct2), sl2⟩)
    (c2 : PySem.W.codeIn K cd2 "_law_take" = true) (k2 : PySem.W.keepIn K (.ref f2) = true)
    (a3 : PySem.W.nsIn K mainGlobals "_law_marks" = some (some (.ref f3)))
    (l3 : K.lookup f3 = some ⟨oc3, od3, .func (PySem.W.fnOf "_law_marks" "_law_marks" (defArgs sMarks) (defBody sMarks) (defScope sMarks) .none kV3 dc3 pm3 an3 cd3 ct3), sl3⟩)
    (c3 : PySem.W.codeIn K cd3 "_law_marks" = true) (k3 : PySem.W.keepIn K (.ref f3) = true)
    (a4 : PySem.W.nsIn K mainGlobals "_law_kind" = some (some (.ref f4)))
    (l4 : K.lookup f4 = some ⟨oc4, od4, .func (PySem.W.fnOf "_law_kind" "_law_kind" (defArgs sKind) (defBody sKind) (defScope sKind) .none kV4 dc4 pm4 an4 cd4 ct4), sl4⟩)
    (c4 : PySem.W.codeIn K cd4 "_law_kind" = true) (k4 : PySem.W.keepIn K (.ref f4) = true)
    (a5 : PySem.W.nsIn K mainGlobals "_law_tree" = some (some (.ref f5)))
    (l5 : K.lookup f5 = some ⟨oc5, od5, .func (PySem.W.fnOf "_law_tree" "_law_tree" (defArgs sTree) (defBody sTree) (defScope sTree) .none kV5 dc5 pm5 an5 cd5 ct5), sl5⟩)
    (c5 : PySem.W.codeIn K cd5 "_law_tree" = true) (k5 : PySem.W.keepIn K (.ref f5) = true)
    (a6 : PySem.W.nsIn K mainGlobals "_law_copied" = some (some (.ref f6)))
    (l6 : K.lookup f6 = some ⟨oc6, od6, .func (PySem.W.fnOf "_law_copied" "_law_copied" (defArgs sCop) (defBody sCop) (defScope sCop) .none kV6 dc6 pm6 an6 cd6 ct6), sl6⟩)
    (c6 : PySem.W.codeIn K cd6 "_law_copied" = true) (k6 : PySem.W.keepIn K (.ref f6) = true)
    (a7 : PySem.W.nsIn K mainGlobals "_law_asked" = some (some (.ref f7)))
    (l7 : K.lookup f7 = some ⟨oc7, od7, .func (PySem.W.fnOf "_law_asked" "_law_asked" (defArgs sAsked) (defBody sAsked) (defScope sAsked) .none kV7 dc7 pm7 an7 cd7 ct7), sl7⟩)
    (c7 : PySem.W.codeIn K cd7 "_law_asked" = true) (k7 : PySem.W.keepIn K (.ref f7) = true)
    (a8 : PySem.W.nsIn K mainGlobals "_law_put" = some (some (.ref f8)))
    (l8 : K.lookup f8 = some ⟨oc8, od8, .func (PySem.W.fnOf "_law_put" "_law_put" (defArgs sPut) (defBody sPut) (defScope sPut) .none kV8 dc8 pm8 an8 cd8 ct8), sl8⟩)
    (c8 : PySem.W.codeIn K cd8 "_law_put" = true) (k8 : PySem.W.keepIn K (.ref f8) = true)
    (a9 : PySem.W.nsIn K mainGlobals "_law_all" = some (some (.ref f9)))
    (l9 : K.lookup f9 = some ⟨oc9, od9, .func (PySem.W.fnOf "_law_all" "_law_all" (defArgs sAll) (defBody sAll) (defScope sAll) .none kV9 dc9 pm9 an9 cd9 ct9), sl9⟩)
    (c9 : PySem.W.codeIn K cd9 "_law_all" = true) (k9 : PySem.W.keepIn K (.ref f9) = true)
    (a10 : PySem.W.nsIn K mainGlobals "_law_holds" = some (some (.ref f10)))
    (l10 : K.lookup f10 = some ⟨oc10, od10, .func (PySem.W.fnOf "_law_holds" "_law_holds" (defArgs sLHolds) (defBody sLHolds) (defScope sLHolds) .none kV10 dc10 pm10 an10 cd10 ct10), sl10⟩)
    (c10 : PySem.W.codeIn K cd10 "_law_holds" = true) (k10 : PySem.W.keepIn K (.ref f10) = true)
    (a11 : PySem.W.nsIn K mainGlobals "holds" = some (some (.ref f11)))
    (l11 : K.lookup f11 = some ⟨oc11, od11, .func (PySem.W.fnOf "holds" "holds" (defArgs sHolds) (defBody sHolds) (defScope sHolds) .none kV11 dc11 pm11 an11 cd11 ct11), sl11⟩)
    (c11 : PySem.W.codeIn K cd11 "holds" = true) (k11 : PySem.W.keepIn K (.ref f11) = true)
    (a12 : PySem.W.nsIn K mainGlobals "laid_out" = some (some (.ref f12)))
    (l12 : K.lookup f12 = some ⟨oc12, od12, .func (PySem.W.fnOf "laid_out" "laid_out" (defArgs sLaid) (defBody sLaid) (defScope sLaid) .none kV12 dc12 pm12 an12 cd12 ct12), sl12⟩)
    (c12 : PySem.W.codeIn K cd12 "laid_out" = true) (k12 : PySem.W.keepIn K (.ref f12) = true)
    (a13 : PySem.W.nsIn K mainGlobals "where_holds" = some (some (.ref f13)))
    (l13 : K.lookup f13 = some ⟨oc13, od13, .func (PySem.W.fnOf "where_holds" "where_holds" (defArgs sWhere) (defBody sWhere) (defScope sWhere) .none kV13 dc13 pm13 an13 cd13 ct13), sl13⟩)
    (c13 : PySem.W.codeIn K cd13 "where_holds" = true) (k13 : PySem.W.keepIn K (.ref f13) = true)
    (z0 : PySem.W.nsIn K mainGlobals "len" = some none)
    (z1 : PySem.W.nsIn K mainGlobals "max" = some none)
    (z2 : PySem.W.nsIn K mainGlobals "min" = some none)
    (z3 : PySem.W.nsIn K mainGlobals "range" = some none)
    (z4 : PySem.W.nsIn K mainGlobals "int" = some none)
    (z5 : PySem.W.nsIn K mainGlobals "sorted" = some none)
    (z6 : PySem.W.nsIn K mainGlobals "zip" = some none)
    (z7 : PySem.W.nsIn K mainGlobals "isinstance" = some none)
    (z8 : PySem.W.nsIn K mainGlobals "list" = some none)
    (z9 : PySem.W.nsIn K mainGlobals "tuple" = some none)
    (z10 : PySem.W.nsIn K mainGlobals "bool" = some none) :
    ∃ fd : FuncData, (∀ (s : Shared) (v : Value), BindsTo s fd ⟨[v], []⟩ [("_law_script", v)]) ∧ ∀ base : Heap, K.In base → base.Ns mainGlobals mg → FnOk l.prog w K mg base CX0 84 fa fd ["_law_script"] (spLaw K) := by
  have e := hfa.symm.trans (PySem.W.mg_of X G a0)
  cases e
  have F0 := fun_mk (st := sLaw') l0 c0 k0
  have F1 := fun_mk (st := sPool) l1 c1 k1
  have b1 := F1.binds (ps := ["_law_script", "_law_k"]) fun _ _ _ _ _ _ us hl => match us, hl with | [_, _], _ => rfl
  have g1 := PySem.W.mg_of X G a1
  have F2 := fun_mk (st := sTake) l2 c2 k2
  have b2 := F2.binds (ps := ["_law_pool_here", "_law_many"]) fun _ _ _ _ _ _ us hl => match us, hl with | [_, _], _ => rfl
  have g2 := PySem.W.mg_of X G a2
  have F3 := fun_mk (st := sMarks) l3 c3 k3
  have b3 := F3.binds (ps := ["_law_pool_here"]) fun _ _ _ _ _ _ us hl => match us, hl with | [_], _ => rfl
  have g3 := PySem.W.mg_of X G a3
  have F4 := fun_mk (st := sKind) l4 c4 k4
  have b4 := F4.binds (ps := ["_law_pool_here", "_law_leaves", "_law_marks_here"]) fun _ _ _ _ _ _ us hl => match us, hl with | [_, _, _], _ => rfl
  have g4 := PySem.W.mg_of X G a4
  have F5 := fun_mk (st := sTree) l5 c5 k5
  have b5 := F5.binds (ps := ["_law_pool_here", "_law_marks_here", "_law_had", "_law_room"]) fun _ _ _ _ _ _ us hl => match us, hl with | [_, _, _, _], _ => rfl
  have g5 := PySem.W.mg_of X G a5
  have F6 := fun_mk (st := sCop) l6 c6 k6
  have b6 := F6.binds (ps := ["_law_thing"]) fun _ _ _ _ _ _ us hl => match us, hl with | [_], _ => rfl
  have g6 := PySem.W.mg_of X G a6
  have F7 := fun_mk (st := sAsked) l7 c7 k7
  have b7 := F7.binds (ps := ["_law_pool_here", "_law_handed", "_law_kinds"]) fun _ _ _ _ _ _ us hl => match us, hl with | [_, _, _], _ => rfl
  have g7 := PySem.W.mg_of X G a7
  have F8 := fun_mk (st := sPut) l8 c8 k8
  have b8 := F8.binds (ps := ["_law_tree_here", "_law_marks_here"]) fun _ _ _ _ _ _ us hl => match us, hl with | [_, _], _ => rfl
  have g8 := PySem.W.mg_of X G a8
  have F9 := fun_mk (st := sAll) l9 c9 k9
  have b9 := F9.binds (ps := ["_law_tree_here"]) fun _ _ _ _ _ _ us hl => match us, hl with | [_], _ => rfl
  have g9 := PySem.W.mg_of X G a9
  have F10 := fun_mk (st := sLHolds) l10 c10 k10
  have b10 := F10.binds (ps := ["_law_tree_here", "_law_kind_here"]) fun _ _ _ _ _ _ us hl => match us, hl with | [_, _], _ => rfl
  have g10 := PySem.W.mg_of X G a10
  have F11 := fun_mk (st := sHolds) l11 c11 k11
  have b11 := F11.binds (ps := ["tree", "kind"]) fun _ _ _ _ _ _ us hl => match us, hl with | [_, _], _ => rfl
  have g11 := PySem.W.mg_of X G a11
  have F12 := fun_mk (st := sLaid) l12 c12 k12
  have b12 := F12.binds (ps := ["tree"]) fun _ _ _ _ _ _ us hl => match us, hl with | [_], _ => rfl
  have g12 := PySem.W.mg_of X G a12
  have F13 := fun_mk (st := sWhere) l13 c13 k13
  have b13 := F13.binds (ps := ["worlds", "kind"]) fun _ _ _ _ _ _ us hl => match us, hl with | [_, _], _ => rfl
  have g13 := PySem.W.mg_of X G a13
  have m0 := PySem.W.mg_none_of X G z0
  have m1 := PySem.W.mg_none_of X G z1
  have m2 := PySem.W.mg_none_of X G z2
  have m3 := PySem.W.mg_none_of X G z3
  have m4 := PySem.W.mg_none_of X G z4
  have m5 := PySem.W.mg_none_of X G z5
  have m6 := PySem.W.mg_none_of X G z6
  have m7 := PySem.W.mg_none_of X G z7
  have m8 := PySem.W.mg_none_of X G z8
  have m9 := PySem.W.mg_none_of X G z9
  have m10 := PySem.W.mg_none_of X G z10
  exact ⟨PySem.W.fnOf "law" "law" (defArgs sLaw') (defBody sLaw') (defScope sLaw') .none kV0 dc0 pm0 an0 cd0 ct0, fun s v => .of_eq rfl, fun base _ _ => by
    have GP := ok_pool (P := l.prog) (w := w) (mg := mg) (base := base) F1 m0
    have GT := ok_take (P := l.prog) (w := w) (mg := mg) (base := base) F2
    have GM := ok_marks (P := l.prog) (w := w) (base := base) F3 GT F2.kp b2 g2 m3 m4
    have GK := ok_kind (P := l.prog) (w := w) (base := base) F4 b4 g4 F2 b2 g2 m0 6
    have GR := ok_tree (P := l.prog) (w := w) (base := base) F5 b5 g5 GT F2.kp b2 g2 m3 m4 m5 4
    have GC := ok_cop (P := l.prog) (w := w) (base := base) F6 b6 g6 m7 m8 m9 40
    have GA := ok_all (P := l.prog) (w := w) (base := base) F9 b9 g9 60
    have GQ := ok_lholds (P := l.prog) (w := w) (base := base) F10 b10 g10 GA F9.kp b9 g9 20
    have GL := ok_laid (P := l.prog) (w := w) (mg := mg) (base := base) F12 m0
    have GW := ok_where (P := l.prog) (w := w) (base := base) F13 b13 g13 m0 m3 m6 20
    have GH := ok_holds (P := l.prog) (w := w) (base := base) F11 GL F12.kp b12 g12 (n := 20) GW F13.kp b13 g13
    have GS := ok_asked F7 GA F9.kp b9 g9 GT F2.kp b2 g2 GH F11.kp b11 g11 GQ F10.kp b10 g10 m0 m7 m10
    have GU := ok_put F8 GA F9.kp b9 g9 m0 m5
    exact ok_law F0 GP F1.kp b1 g1 GT F2.kp b2 g2 GM F3.kp b3 g3 GK F4.kp b4 g4 GR F5.kp b5 g5 GC F6.kp b6 g6 GS F7.kp b7 g7 GU F8.kp b8 g8 m0 m1 m2 m3 m8⟩
theorem walk {l : PySem.W.OpenLaw} {q : Program} {loose : List Str} {XP : (Str → Option Value) → Heap → Prop} {YP : World → Heap → Prop} {d : DefRec} {K : Params → PySem.W.Frag} (hn : l.most = some 63) (hdf : d.params.defaults = [])
    (hY : ∀ (w : World) (h : Heap), YP w h → (K w.params).In h)
    (F : ∀ (w : World) (mg : Str → Option Value) (fa : Addr) (h : Heap), (K w.params).In h → h.Ns mainGlobals mg → mg d.name = some (.ref fa) →
      ∃ fd : FuncData, (∀ (s : Shared) (u : Value), BindsTo s fd ⟨[u], []⟩ [("_law_script", u)]) ∧ ∀ base : Heap, (K w.params).In base → base.Ns mainGlobals mg → FnOk l.prog w (K w.params) mg base CX0 84 fa fd ["_law_script"] (spLaw (K w.params))) :
    PySem.W.WalkO q loose XP YP l.row.toRowW d [] (fun f vs => PySem.call f vs) :=
  L2.walk_of (n := 63) (k := 84) (x := "_law_script") (CX := fun _ => CX0) (sp := fun w => spLaw (K w.params)) hn (by decide) hdf ⟨rfl, by decide, by decide⟩ hY F (fun _ _ a ns hl _ hS => ⟨a, ns, rfl, hS, hl, fun _ => rfl⟩) fun _ _ _ _ _ z => z
end Kf
open PySem PySem.W PyProof.Rows
set_option maxRecDepth 100000 in
set_option maxHeartbeats 0 in
theorem PySem.Challenge.cw_kindfill_k35_held_world_by_world_holds : PySem.Challenge.rw_kindfill_k35_held_world_by_world.Holds := by
  w_on; o_law; k_head; (case hw => w_witness2)
  k_fill
  refine Kf.walk (l := PySem.Challenge.rw_kindfill_k35_held_world_by_world) rfl rfl (fun w h Y => PySem.W.kIn_of Y) ?F
  case F =>
    intro w mg fa h KX G hmg
    refine' Kf.all_mk KX G hmg ?a0 ?l0 ?c0 ?k0 ?a1 ?l1 ?c1 ?k1 ?a2 ?l2 ?c2 ?k2 ?a3 ?l3 ?c3 ?k3 ?a4 ?l4 ?c4 ?k4 ?a5 ?l5 ?c5 ?k5 ?a6 ?l6 ?c6 ?k6 ?a7 ?l7 ?c7 ?k7 ?a8 ?l8 ?c8 ?k8 ?a9 ?l9 ?c9 ?k9 ?a10 ?l10 ?c10 ?k10 ?a11 ?l11 ?c11 ?k11 ?a12 ?l12 ?c12 ?k12 ?a13 ?l13 ?c13 ?k13 ?z0 ?z1 ?z2 ?z3 ?z4 ?z5 ?z6 ?z7 ?z8 ?z9 ?z10
    (case a0 => k_is)
    (case l0 => k_is)
    (case c0 => k_is)
    (case k0 => k_is)
    (case a1 => k_is)
    (case l1 => k_is)
    (case c1 => k_is)
    (case k1 => k_is)
    (case a2 => k_is)
    (case l2 => k_is)
    (case c2 => k_is)
    (case k2 => k_is)
    (case a3 => k_is)
    (case l3 => k_is)
    (case c3 => k_is)
    (case k3 => k_is)
    (case a4 => k_is)
    (case l4 => k_is)
    (case c4 => k_is)
    (case k4 => k_is)
    (case a5 => k_is)
    (case l5 => k_is)
    (case c5 => k_is)
    (case k5 => k_is)
    (case a6 => k_is)
    (case l6 => k_is)
    (case c6 => k_is)
    (case k6 => k_is)
    (case a7 => k_is)
    (case l7 => k_is)
    (case c7 => k_is)
    (case k7 => k_is)
    (case a8 => k_is)
    (case l8 => k_is)
    (case c8 => k_is)
    (case k8 => k_is)
    (case a9 => k_is)
    (case l9 => k_is)
    (case c9 => k_is)
    (case k9 => k_is)
    (case a10 => k_is)
    (case l10 => k_is)
    (case c10 => k_is)
    (case k10 => k_is)
    (case a11 => k_is)
    (case l11 => k_is)
    (case c11 => k_is)
    (case k11 => k_is)
    (case a12 => k_is)
    (case l12 => k_is)
    (case c12 => k_is)
    (case k12 => k_is)
    (case a13 => k_is)
    (case l13 => k_is)
    (case c13 => k_is)
    (case k13 => k_is)
    (case z0 => k_is)
    (case z1 => k_is)
    (case z2 => k_is)
    (case z3 => k_is)
    (case z4 => k_is)
    (case z5 => k_is)
    (case z6 => k_is)
    (case z7 => k_is)
    (case z8 => k_is)
    (case z9 => k_is)
    (case z10 => k_is)
