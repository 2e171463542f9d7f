import PyProof.Rows.All
import Wide.All
import OpenK.AllK
import Wide.FinOn
import HandS.ForMost
import HandS.IsInst
import HandS.Flow
import PySem.Challenge.RW_kindfill_k03_leaves_and_depth
set_option Elab.async false
set_option maxRecDepth 100000
namespace Kf
open PySem L2
def top (i : Nat) : Stmt := PySem.Challenge.pw_kindfill_k03_leaves_and_depth.main.body.getD i (.Pass ⟨0, 0, 0, 0⟩)
abbrev sPool : Stmt := top 5
abbrev sTake : Stmt := top 6
/-- a pool at p: what is left of the cell, and a number -/
def PoolAt (H : Hp) (p : Addr) : Prop := ∃ c n : Int, H p = some (.lst [.int c, .int n]) ∧ 0 ≤ n ∧ n < 2147483647
def spTake : Sp := fun vs H Q _ => ∃ (p : Addr) (m : Int), vs = [.ref p, .int m] ∧ PoolAt H p ∧ 0 < m ∧ m < 1073741824 ∧
  ∀ (r : Int) (H' : Hp), 0 ≤ r → r < m → PoolAt H' p → (∀ b, b ≠ p → H' b = H b) → Q (.int r) H'
def spPool (K : PySem.W.Frag) : Sp := fun vs H Q _ => ∃ (a : Addr) (ns : List Int) (k : Nat), vs = [.ref a, .int (k : Int)] ∧ SqL K H a (ns.map V.int) ∧ ns.length ≤ 63 ∧ k ≤ 63 ∧
  ∀ (p : Addr) (H' : Hp), H p = none → PoolAt H' p → (∀ b, b ≠ p → H' b = H b) → Q (.ref p) H'
theorem nm_nat {x m : Int} (hm : 0 < m) : 0 ≤ x.fmod m ∧ x.fmod m < m := ⟨Int.fmod_nonneg_of_pos x hm, Int.fmod_lt_of_pos x hm⟩
section
variable {P : Program} {w : World} {K : PySem.W.Frag} {mg : Str → Option Value} {base : Heap}
theorem scTake : FnScope ["_law_pool_here", "_law_many", "_law_found"] ["_law_pool_here", "_law_many"] (defScope sTake) := ⟨rfl, rfl, rfl, by decide +kernel, rfl, by decide +kernel, by decide +kernel⟩
theorem ok_take {f : Addr} {fd : FuncData} (F : Fun K "_law_take" "_law_take" sTake f fd) : FnOk P w K mg base CX0 1 f fd ["_law_pool_here", "_law_many"] spTake := by
  refine F.ok scTake (fun vs H Q E h => ?_) (fun cdv A outer s H vs Q E hr h => ?_)
  · obtain ⟨p, m, rfl, _⟩ := h
    rfl
  · obtain ⟨p, m, rfl, ⟨c, n, hp, hn0, hn1⟩, hm0, hm1, k⟩ := h
    refine ⟨_, pss_cons (ps_if (pt_cmpR op_gt (pe_ix ix_list (pv 0) pe_int (fun _ _ => rfl)) pe_int (nomark _))
        (pss_cons (ps_set (i := 2) scTake.nd rfl (Or.inl rfl) (pe_op op_modN (pe_ix ix_list (pv 0) pe_int (fun _ _ => rfl)) (pv 1)))
        (pss_cons (ps_asg (pe_op op_fdivN (pe_ix ix_list (pv 0) pe_int (fun _ _ => rfl)) (pv 1)) (pg_sub (pv 0) pe_int set_list))
        (pss_one (ps_ret (pv 2))))) pss_nil)
      (pss_cons (ps_asg (pe_op op_modN (pe_op op_add (pe_op op_mul (pe_ix ix_list (pv 0) pe_int (fun _ _ => rfl)) pe_int) pe_int) pe_int) (pg_sub (pv 0) pe_int set_list))
      (pss_one (ps_ret (pe_op op_modN (pe_op op_fdivN (pe_op op_modN (pe_op op_mul (pe_ix ix_list (pv 0) pe_int (fun _ _ => rfl)) (pe_ix ix_list (pv 0) pe_int (fun _ _ => rfl))) pe_int) pe_int) (pv 1))))), ?_⟩
    refine ⟨_, rfl, p, _, _, _, rfl, rfl, SqL.of hp, atI_nat (j := 0) rfl, _, _, rfl, rfl, _, rfl, ?_⟩
    have M := nm_nat (x := c) hm0
    refine ite2 (fun _ => ?_) (fun _ => ?_)
    · refine ⟨_, rfl, p, _, _, _, rfl, rfl, SqL.of hp, atI_nat (j := 0) rfl, _, rfl, _, _, rfl, rfl, by omega, ?_⟩
      refine ⟨_, rfl, p, _, _, _, rfl, rfl, SqL.of hp, atI_nat (j := 0) rfl, _, rfl, _, _, rfl, rfl, ⟨by omega, by omega⟩, ?_⟩
      refine ⟨_, rfl, p, _, _, 0, rfl, rfl, hp, rfl, ?_⟩
      refine ⟨_, rfl, ?_⟩
      exact k _ _ M.1 M.2 ⟨_, _, upd_same, hn0, hn1⟩ fun b hb => upd_ne hb
    · have N0 := nm_nat (x := n * 48271 + 11) (m := 2147483647) (by decide)
      refine ⟨_, rfl, p, _, _, _, rfl, rfl, SqL.of hp, atI_nat (j := 1) rfl, _, _, rfl, rfl, .inl ⟨by omega, by omega⟩, _, _, rfl, rfl, _, _, rfl, rfl, (by show (2147483647 : Int) ≠ 0; decide), ?_⟩
      refine ⟨_, rfl, p, _, _, 1, rfl, rfl, hp, rfl, ?_⟩
      have N1 := nm_nat (x := (n * 48271 + 11).fmod 2147483647 * (n * 48271 + 11).fmod 2147483647) (m := 2147483629) (by decide)
      refine ⟨_, rfl, p, _, _, _, rfl, rfl, SqL.of upd_same, atI_nat (j := 1) rfl, _, rfl, p, _, _, _, rfl, rfl, SqL.of upd_same, atI_nat (j := 1) rfl, _, _, rfl, rfl, .inl ⟨by omega, by omega⟩, ?_⟩
      refine ⟨_, _, rfl, rfl, (by show (2147483629 : Int) ≠ 0; decide), _, _, rfl, rfl, ⟨by decide, by decide⟩, _, rfl, _, _, rfl, rfl, by omega, ?_⟩
      exact k _ _ (nm_nat hm0).1 (nm_nat hm0).2 ⟨_, _, upd_same, N0.1, N0.2⟩ fun b hb => upd_ne hb
theorem scPool : FnScope ["_law_script", "_law_k", "_law_cell", "_law_number"] ["_law_script", "_law_k"] (defScope sPool) := ⟨rfl, rfl, rfl, by decide +kernel, rfl, by decide +kernel, by decide +kernel⟩
theorem ok_pool {f : Addr} {fd : FuncData} (F : Fun K "_law_pool" "_law_pool" sPool f fd) (mLen : mg "len" = none) : FnOk P w K mg base CX0 1 f fd ["_law_script", "_law_k"] (spPool K) := by
  refine F.ok scPool (fun vs H Q E h => ?_) (fun cdv A outer s H vs Q E hr h => ?_)
  · obtain ⟨a, ns, j, rfl, _⟩ := h
    rfl
  · obtain ⟨a, ns, j, rfl, hS, hl, hj, k⟩ := h
    refine ⟨_, pss_cons (ps_set (i := 2) scPool.nd rfl (Or.inl rfl) pe_int)
      (pss_cons (ps_if (pt_cmpR op_lt (pv 1) (pe_callB call_len_seq (by rfl) mLen PySem.boot_len (pa_cons (pv 0) pa_nil)) (nomark _))
        (pss_one (ps_set (i := 2) scPool.nd rfl (Or.inl rfl) (pe_ix ix_list (pv 0) (pv 1) (fun _ _ => rfl)))) pss_nil)
      (pss_cons (ps_set (i := 3) scPool.nd rfl (Or.inl rfl) (pe_op op_modN (pe_op op_pow (pe_op op_add (pe_op op_add (pe_op op_modN (pv 2) pe_int) (pe_op op_mul (pe_op op_mul pe_int (pv 1)) (pv 1))) pe_int) pe_int) pe_int))
      (pss_cons (ps_if (pt_cmpR op_lt (pv 2) (pe_op op_pow pe_int pe_int) (nomark _))
        (pss_one (ps_set (i := 2) scPool.nd rfl (Or.inl rfl) pe_int)) pss_nil)
      (pss_one (ps_ret (pe_lst (pa_cons (pv 2) (pa_cons (pv 3) pa_nil)))))))), ?_⟩
    have B : ∀ c : Int, 0 ≤ (c.fmod 2147483629 + 104729 * (j : Int) * (j : Int) + 11) ∧ (c.fmod 2147483629 + 104729 * (j : Int) * (j : Int) + 11) < 2 ^ 33 := fun c => by
      have M := nm_nat (x := c) (m := 2147483629) (by decide)
      have hj2 : (j : Int) * (j : Int) ≤ 63 * 63 := Int.mul_le_mul (by omega) (by omega) (by omega) (by omega)
      have hj0 : 0 ≤ (j : Int) * (j : Int) := Int.mul_nonneg (by omega) (by omega)
      have e : 104729 * (j : Int) * (j : Int) = 104729 * ((j : Int) * (j : Int)) := Int.mul_assoc _ _ _
      omega
    refine ⟨_, rfl, _, rfl, a, _, rfl, .inl hS, _, _, rfl, rfl, _, rfl, ?_⟩
    refine ite2 (fun hlt => ?_) (fun _ => ?_)
    · have hj' : j < ns.length := by simpa using hlt
      refine ⟨_, rfl, _, rfl, a, _, _, _, rfl, rfl, hS, atI_nat (j := j) (v := .int ns[j]) (by simp [hj']), ?_⟩
      generalize ns[j] = c
      have N := nm_nat (x := (c.fmod 2147483629 + 104729 * (j : Int) * (j : Int) + 11) ^ 3) (m := 2147483647) (by decide)
      have Bc := B c
      refine ⟨_, rfl, _, _, rfl, rfl, (by show (2147483629 : Int) ≠ 0; decide), _, rfl, _, _, rfl, rfl, .inl ⟨by decide, by decide⟩, _, rfl, _, _, rfl, rfl, .inl ⟨by omega, by omega⟩, ?_⟩
      refine ⟨_, _, rfl, rfl, _, _, rfl, rfl, _, _, rfl, rfl, ⟨by decide, by decide, by omega⟩, _, _, rfl, rfl, (by show (2147483647 : Int) ≠ 0; decide), ?_⟩
      refine ⟨_, rfl, _, _, rfl, rfl, ⟨by decide, by decide, by decide⟩, _, _, rfl, rfl, _, rfl, ?_⟩
      refine ite2 (fun _ => ?_) (fun _ => ?_)
      · exact ⟨_, rfl, _, rfl, (by show 2 ≤ sizeLine; decide), fun p hp => k _ _ hp ⟨_, _, upd_same, N.1, N.2⟩ fun b hb => upd_ne hb⟩
      · exact ⟨_, rfl, _, rfl, (by show 2 ≤ sizeLine; decide), fun p hp => k _ _ hp ⟨_, _, upd_same, N.1, N.2⟩ fun b hb => upd_ne hb⟩
    · have N := nm_nat (x := ((0 : Int).fmod 2147483629 + 104729 * (j : Int) * (j : Int) + 11) ^ 3) (m := 2147483647) (by decide)
      have Bc := B 0
      refine ⟨_, rfl, _, _, rfl, rfl, (by show (2147483629 : Int) ≠ 0; decide), _, rfl, _, _, rfl, rfl, .inl ⟨by decide, by decide⟩, _, rfl, _, _, rfl, rfl, .inl ⟨by omega, by omega⟩, ?_⟩
      refine ⟨_, _, rfl, rfl, _, _, rfl, rfl, _, _, rfl, rfl, ⟨by decide, by decide, by omega⟩, _, _, rfl, rfl, (by show (2147483647 : Int) ≠ 0; decide), ?_⟩
      refine ⟨_, rfl, _, _, rfl, rfl, ⟨by decide, by decide, by decide⟩, _, _, rfl, rfl, _, rfl, ?_⟩
      refine ite2 (fun _ => ?_) (fun _ => ?_)
      · exact ⟨_, rfl, _, rfl, (by show 2 ≤ sizeLine; decide), fun p hp => k _ _ hp ⟨_, _, upd_same, N.1, N.2⟩ fun b hb => upd_ne hb⟩
      · exact ⟨_, rfl, _, rfl, (by show 2 ≤ sizeLine; decide), fun p hp => k _ _ hp ⟨_, _, upd_same, N.1, N.2⟩ fun b hb => upd_ne hb⟩
end
theorem at_any {α : Type} {xs : List α} {r : Int} (h0 : 0 ≤ r) (h1 : r < xs.length) : ∃ v, atI xs r = some v ∧ v ∈ xs := by
  obtain ⟨n, rfl⟩ : ∃ n : Nat, r = n := ⟨r.toNat, by omega⟩
  have hn : n < xs.length := by omega
  exact ⟨xs[n], atI_nat (by simp [hn]), by simp⟩
theorem PoolAt.upd {H : Hp} {p l : Addr} {o : HO} (h : PoolAt H p) (hl : H l = none) : PoolAt (upd H l o) p := by
  obtain ⟨c, n, e, h0, h1⟩ := h
  exact ⟨c, n, by rw [upd_ne (ne_of_none e hl)]; exact e, h0, h1⟩
theorem PoolAt.ne {H : Hp} {p l : Addr} (h : PoolAt H p) (hl : H l = none) : l ≠ p := by
  obtain ⟨c, n, e, h0, h1⟩ := h
  exact (ne_of_none e hl).symm
theorem kept_upd {H H1 : Hp} {p l : Addr} {o : HO} (k : ∀ b u, b ≠ p → H b = some u → H1 b = some u) (hl : H1 l = none) : ∀ b u, b ≠ p → H b = some u → (upd H1 l o) b = some u := fun b u hb e => by
  rw [upd_ne (ne_of_none (k b u hb e) hl)]
  exact k b u hb e
theorem kept_eq {H H1 H2 : Hp} {p : Addr} (k : ∀ b u, b ≠ p → H b = some u → H1 b = some u) (e2 : ∀ b, b ≠ p → H2 b = H1 b) : ∀ b u, b ≠ p → H b = some u → H2 b = some u := fun b u hb e => (e2 b hb).trans (k b u hb e)
theorem small40 {n : Nat} (h : n ≤ 1000) : n ≤ sizeLine := Nat.le_trans h (by decide)

/-! kinds -/
inductive Kd where
  | one
  | mark (m : Str)
  | two (b : Bool) (k l : Kd)
def word (b : Bool) : Str := if b then "to" else "both"
def KdAt (H : Hp) : Kd → V → Prop
  | .one, v => ∃ a, v = .ref a ∧ H a = some (.tup [.str "one"])
  | .mark m, v => ∃ a, v = .ref a ∧ H a = some (.tup [.str "mark", .str m])
  | .two b k l, v => ∃ a x y, v = .ref a ∧ H a = some (.tup [.str (word b), x, y]) ∧ KdAt H k x ∧ KdAt H l y
/-- tuples that stood stand -/
def Tups (H H' : Hp) : Prop := ∀ b xs, H b = some (.tup xs) → H' b = some (.tup xs)
theorem Tups.trans {H H1 H2 : Hp} (a : Tups H H1) (b : Tups H1 H2) : Tups H H2 := fun c xs e => b c xs (a c xs e)
theorem KdAt.mono {H H' : Hp} (t : Tups H H') : ∀ (k : Kd) (v : V), KdAt H k v → KdAt H' k v
  | .one, _, ⟨a, e, h⟩ => ⟨a, e, t _ _ h⟩
  | .mark _, _, ⟨a, e, h⟩ => ⟨a, e, t _ _ h⟩
  | .two _ k l, _, ⟨a, x, y, e, h, hk, hl⟩ => ⟨a, x, y, e, t _ _ h, KdAt.mono t k x hk, KdAt.mono t l y hl⟩
namespace Kd
def leaves : Kd → Nat
  | one => 1
  | mark _ => 1
  | two _ k l => k.leaves + l.leaves
def deep : Kd → Nat
  | one => 0
  | mark _ => 0
  | two _ k l => max k.deep l.deep + 1
def subs : Kd → List Kd
  | one => []
  | mark _ => []
  | two _ k l => [k, l]
def data : Kd → PyData
  | one => .tuple [.str "one"]
  | mark m => .tuple [.str "mark", .str m]
  | two b k l => .tuple [.str (word b), k.data, l.data]
def Ok : Kd → Prop
  | one => True
  | mark m => PySem.PyData.canLay0 (.str m) = true
  | two _ k l => k.Ok ∧ l.Ok
theorem leaves_pos : ∀ k : Kd, 0 < k.leaves
  | one => Nat.one_pos
  | mark _ => Nat.one_pos
  | two _ k l => Nat.add_pos_left (leaves_pos k) _
theorem deep_lt : ∀ k : Kd, k.deep < k.leaves
  | one => Nat.one_pos
  | mark _ => Nat.one_pos
  | two _ k l => by
    have h1 := deep_lt k
    have h2 := deep_lt l
    show max k.deep l.deep + 1 < k.leaves + l.leaves
    have := leaves_pos k
    have := leaves_pos l
    omega
end Kd
/-- side by side -/
def All2 {α : Type} (R : α → V → Prop) : List α → List V → Prop
  | [], [] => True
  | k :: ks, v :: vs => R k v ∧ All2 R ks vs
  | _, _ => False
section
variable {α : Type} {R S : α → V → Prop}
theorem All2.mono (f : ∀ k v, R k v → S k v) : ∀ {ks : List α} {vs : List V}, All2 R ks vs → All2 S ks vs
  | [], [], _ => trivial
  | _ :: _, _ :: _, ⟨h, t⟩ => ⟨f _ _ h, All2.mono f t⟩
  | [], _ :: _, h => h.elim
  | _ :: _, [], h => h.elim
theorem All2.app : ∀ {ks : List α} {vs : List V} {ls : List α} {us : List V}, All2 R ks vs → All2 R ls us → All2 R (ks ++ ls) (vs ++ us)
  | [], [], _, _, _, g => g
  | _ :: _, _ :: _, _, _, ⟨h, t⟩, g => ⟨h, All2.app t g⟩
  | [], _ :: _, _, _, h, _ => h.elim
  | _ :: _, [], _, _, h, _ => h.elim
theorem All2.len : ∀ {ks : List α} {vs : List V}, All2 R ks vs → ks.length = vs.length
  | [], [], _ => rfl
  | _ :: _, _ :: _, ⟨_, t⟩ => congrArg (· + 1) (All2.len t)
  | [], _ :: _, h => h.elim
  | _ :: _, [], h => h.elim
/-- the last one -/
theorem All2.last : ∀ {ks : List α} {vs : List V}, All2 R ks vs → vs ≠ [] → ∃ ls k v, ks = ls ++ [k] ∧ vs = vs.dropLast ++ [v] ∧ All2 R ls vs.dropLast ∧ R k v ∧ vs[vs.length - 1]? = some v
  | [], [], _, h => absurd rfl h
  | [k], [v], ⟨h, _⟩, _ => ⟨[], k, v, rfl, rfl, trivial, h, rfl⟩
  | k :: k2 :: ks, v :: v2 :: vs, ⟨h, t⟩, _ => by
    obtain ⟨ls, k', v', e1, e2, a, r, q⟩ := All2.last t (by simp)
    refine ⟨k :: ls, k', v', by rw [e1]; rfl, ?_, ⟨h, a⟩, r, ?_⟩
    · show v :: v2 :: vs = v :: ((v2 :: vs).dropLast ++ [v'])
      rw [← e2]
    · exact q
  | [], _ :: _, h, _ => h.elim
  | _ :: _, [], h, _ => h.elim
  | [_], _ :: _ :: _, h, _ => h.2.elim
  | _ :: _ :: _, [_], h, _ => h.2.elim
end
abbrev sKin : Stmt := top 1
abbrev sLeaves : Stmt := top 2
abbrev sDepth : Stmt := top 3
theorem tups_of {H H' : Hp} (s : Same H H') : Tups H H' := fun b _ e => s b _ e
theorem tups_lst {H : Hp} {T : Addr} {xs ys : List V} (h : H T = some (.lst xs)) : Tups H (upd H T (.lst ys)) := fun b zs e => by
  have n : b ≠ T := ne_of e h (by intro z; cases z)
  rw [upd_ne n]
  exact e
theorem same_new {H : Hp} {p : Addr} {o : HO} (h : H p = none) : Same H (upd H p o) := fun b u e => by
  rw [upd_ne (ne_of_none e h)]
  exact e
theorem same_over {H H3 : Hp} {T : Addr} {o : HO} (S : Same H H3) (h : H T = none) : Same H (upd H3 T o) := fun b u e => by
  rw [upd_ne (ne_of_none e h)]
  exact S b u e
def spKin : Sp := fun vs H Q _ => ∃ (v : V) (k : Kd), vs = [v] ∧ KdAt H k v ∧
  ∀ (D : Addr) (xs : List V) (H' : Hp), H D = none → H' D = some (.lst xs) → Same H H' → All2 (KdAt H') k.subs xs → Q (.ref D) H'
def sl : List Kd → Nat
  | [] => 0
  | k :: ks => k.leaves + sl ks
theorem sl_app : ∀ a b : List Kd, sl (a ++ b) = sl a + sl b
  | [], b => (Nat.zero_add _).symm
  | k :: a, b => by
    show k.leaves + sl (a ++ b) = k.leaves + sl a + sl b
    rw [sl_app a b]
    omega
theorem sl_len : ∀ a : List Kd, a.length ≤ sl a
  | [] => Nat.le_refl _
  | k :: a => by
    have h := sl_len a
    have p := k.leaves_pos
    show a.length + 1 ≤ k.leaves + sl a
    omega
theorem All2.get {α : Type} {R : α → V → Prop} : ∀ {ks : List α} {vs : List V} {i : Nat} {v : V}, All2 R ks vs → vs[i]? = some v → ∃ k, ks[i]? = some k ∧ R k v
  | [], [], _, _, _, e => by simp at e
  | k :: _, v :: _, 0, _, ⟨h, _⟩, e => ⟨k, rfl, by simp at e; exact e ▸ h⟩
  | _ :: _, _ :: _, i + 1, _, ⟨_, t⟩, e => All2.get (i := i) t e
  | [], _ :: _, _, _, h, _ => h.elim
  | _ :: _, [], _, _, h, _ => h.elim
def ItAt (H : Hp) (q : Kd × Nat) (v : V) : Prop := ∃ t x, v = .ref t ∧ H t = some (.tup [x, .int (q.2 : Int)]) ∧ KdAt H q.1 x
theorem ItAt.mono {H H' : Hp} (t : Tups H H') (q : Kd × Nat) (v : V) : ItAt H q v → ItAt H' q v := fun ⟨a, x, e, h, k⟩ => ⟨a, x, e, t _ _ h, KdAt.mono t _ _ k⟩
def far : List (Kd × Nat) → Nat
  | [] => 0
  | q :: r => max (q.2 + q.1.deep) (far r)
theorem far_app : ∀ a b : List (Kd × Nat), far (a ++ b) = max (far a) (far b)
  | [], b => by show far b = max 0 (far b); omega
  | q :: a, b => by
    show max _ (far (a ++ b)) = max (max _ (far a)) (far b)
    rw [far_app a b]
    omega
def sq (a : List (Kd × Nat)) : Nat := sl (a.map (·.1))
theorem sq_app (a b : List (Kd × Nat)) : sq (a ++ b) = sq a + sq b := by
  unfold sq
  rw [List.map_append, sl_app]
theorem sq_len (a : List (Kd × Nat)) : a.length ≤ sq a := by
  have h := sl_len (a.map (·.1))
  rw [List.length_map] at h
  exact h
theorem max_int (n d : Nat) : (if (d : Int) > (n : Int) then (d : Int) else (n : Int)) = ((max n d : Nat) : Int) := by
  split <;> omega
def spDepth : Sp := fun vs H Q _ => ∃ (v : V) (k : Kd), vs = [v] ∧ KdAt H k v ∧ k.leaves ≤ 1000 ∧
  ∀ (H' : Hp), Same H H' → Q (.int (k.deep : Int)) H'
def spLeaves : Sp := fun vs H Q _ => ∃ (v : V) (k : Kd), vs = [v] ∧ KdAt H k v ∧ k.leaves ≤ 1000 ∧
  ∀ (H' : Hp), Same H H' → Q (.int (k.leaves : Int)) H'
section
variable {P : Program} {w : World} {K : PySem.W.Frag} {mg : Str → Option Value} {base : Heap}
theorem scKin : FnScope ["kind"] ["kind"] (defScope sKin) := ⟨rfl, rfl, rfl, by decide +kernel, rfl, by decide +kernel, by decide +kernel⟩
theorem ok_kin {f : Addr} {fd : FuncData} (F : Fun K "kinds_in" "kinds_in" sKin f fd) (mList : mg "list" = none) : FnOk P w K mg base CX0 1 f fd ["kind"] spKin := by
  refine F.ok scKin (fun vs H Q E h => ?_) (fun cdv A outer s H vs Q E hr h => ?_)
  · obtain ⟨v, k, rfl, _⟩ := h
    rfl
  · obtain ⟨v, kd, rfl, hk, k⟩ := h
    refine ⟨_, pss_cons (ps_if (pt_cmpR op_eq (pe_ix ix_tup (pv 0) pe_int (fun _ _ => rfl)) pe_str (nomark _)) (pss_one (ps_ret (pe_lst pa_nil))) pss_nil)
      (pss_one (ps_ret (pe_callTy call_list_of (by rfl) mList (by decide +kernel) (pa_cons (pe_slice sl_tup (pv 0) (po_some pe_int) po_none) pa_nil)))), ?_⟩
    cases kd with
    | one =>
      obtain ⟨a, rfl, ha⟩ := hk
      refine ⟨_, rfl, a, _, _, _, rfl, rfl, SqT.of ha, atI_nat (j := 0) rfl, rfl, _, rfl, ?_⟩
      refine ite2 (fun h => absurd h (by decide +kernel)) (fun _ => ?_)
      refine ⟨_, rfl, _, rfl, a, _, rfl, SqT.of ha, by decide, fun p hp => ?_⟩
      refine ⟨p, _, rfl, .inr (SqT.of upd_same), fun l hl => ?_⟩
      have nl := same_new (o := .lst []) hl
      exact k l [] _ ((same_new hp).free hl) upd_same (Same.trans (same_new hp) (same_new hl)) trivial
    | mark m =>
      obtain ⟨a, rfl, ha⟩ := hk
      refine ⟨_, rfl, a, _, _, _, rfl, rfl, SqT.of ha, atI_nat (j := 0) rfl, rfl, _, rfl, ?_⟩
      refine ite2 (fun _ => ?_) (fun h => absurd (by decide +kernel) h)
      exact ⟨by decide, fun l hl => k l [] _ hl upd_same (same_new hl) trivial⟩
    | two b k1 k2 =>
      obtain ⟨a, x, y, rfl, ha, h1, h2⟩ := hk
      refine ⟨_, rfl, a, _, _, _, rfl, rfl, SqT.of ha, atI_nat (j := 0) rfl, rfl, _, rfl, ?_⟩
      refine ite2 (fun h => absurd h (by cases b <;> decide +kernel)) (fun _ => ?_)
      refine ⟨_, rfl, _, rfl, a, _, rfl, SqT.of ha, by show ¬ (HT.sIx 3 0 (some 1) = 0 ∧ HT.sIx 3 3 none = 3); decide, fun p hp => ?_⟩
      refine ⟨p, _, rfl, .inr (SqT.of upd_same), fun l hl => ?_⟩
      have S := Same.trans (same_new (o := .tup (cutV [V.str (word b), x, y] (some 1) none)) hp) (same_new (o := .lst [x, y]) hl)
      exact k l [x, y] _ ((same_new hp).free hl) upd_same S ⟨KdAt.mono (tups_of S) _ _ h1, KdAt.mono (tups_of S) _ _ h2, trivial⟩
theorem scLeaves : FnScope ["kind", "leaves", "todo", "inner"] ["kind"] (defScope sLeaves) := ⟨rfl, rfl, rfl, by decide +kernel, rfl, by decide +kernel, by decide +kernel⟩
theorem ok_leaves {f fK : Addr} {fd fdK : FuncData} (F : Fun K "leaves_of" "leaves_of" sLeaves f fd) (FK : Fun K "kinds_in" "kinds_in" sKin fK fdK) (bK : Binds K fdK ["kind"] []) (gK : mg "kinds_in" = some (.ref fK)) (mList : mg "list" = none) :
    FnOk P w K mg base CX0 2 f fd ["kind"] spLeaves := by
  have GK : FnOk P w K mg base CX0 1 fK fdK ["kind"] spKin := ok_kin FK mList
  refine F.ok scLeaves (fun vs H Q E h => ?_) (fun cdv A outer s H vs Q E hr h => ?_)
  · obtain ⟨v, k, rfl, _⟩ := h
    rfl
  · obtain ⟨v, kd, rfl, hk, hL, k⟩ := h
    refine ⟨_, pss_cons (ps_set (i := 1) scLeaves.nd rfl (Or.inl rfl) pe_int)
      (pss_cons (ps_set (i := 2) scLeaves.nd rfl (Or.inl rfl) (pe_lst (pa_cons (pv 0) pa_nil)))
      (pss_cons (ps_while PassesOwn.never (pt_truth (pv 2) (by intro _; rfl))
        (pss_cons (ps_set (i := 3) scLeaves.nd rfl (Or.inl rfl) (pe_call GK hr (by rfl) gK FK.kp bK .nil pass0 (pa_cons (pe_bm0 PySem.F.plainAttrs_list PySem.F.slot_list_pop PySem.F.type_list_pop mt_pop (pv 2)) pa_nil)))
        (pss_cons (ps_if (pt_not (pt_truth (pv 3) (by intro _; rfl))) (pss_one (ps_aug (i := 1) scLeaves.nd rfl (Or.inl rfl) pe_int ip_add)) pss_nil)
        (pss_one (ps_expr (pe_bm PySem.F.plainAttrs_list PySem.F.slot_list_extend PySem.F.type_list_extend mt_extend (pv 2) (pa_cons (pv 3) pa_nil)))))))
      (pss_one (ps_ret (pv 1))))), ?_⟩
    refine ⟨_, rfl, by show 1 ≤ sizeLine; decide, fun T hT => ?_⟩
    refine ⟨fun m σ H2 => ∃ (ks : List Kd) (vs : List V) (i3 : Option V) (n : Nat), σ = [some v, some (.int (n : Int)), some (.ref T), i3] ∧ H2 T = some (.lst vs) ∧ All2 (KdAt H2) ks vs ∧ Same H H2 ∧ n + sl ks = kd.leaves ∧ m + ks.length = 2 * sl ks,
      ⟨2 * kd.leaves - 1, [kd], [v], none, 0, rfl, upd_same, ⟨KdAt.mono (tups_of (same_new hT)) _ _ hk, trivial⟩, same_new hT, by show 0 + (kd.leaves + 0) = _; omega, by have := kd.leaves_pos; show 2 * kd.leaves - 1 + 1 = 2 * (kd.leaves + 0); omega⟩, ?_⟩
    rintro m σ H2 ⟨ks, vs, i3, n, rfl, hv, hA, hS, hn, hm⟩
    refine ⟨_, rfl, _, .inl ⟨_, SqL.of hv, rfl⟩, ?_⟩
    by_cases he : vs = []
    · subst he
      refine iteF ?_
      have := hA.len
      obtain rfl : ks = [] := List.eq_nil_of_length_eq_zero this
      refine ⟨_, rfl, ?_⟩
      obtain rfl : n = kd.leaves := by simpa [sl] using hn
      exact k H2 hS
    · obtain ⟨ls, kx, y, rfl, ev, hl, hr2, hy⟩ := hA.last he
      have e1 : (!vs.isEmpty) = true := by cases vs with | nil => exact absurd rfl he | cons a r => rfl
      rw [if_pos e1]
      refine ⟨_, fun _ _ z => z, ?_⟩
      refine ⟨_, rfl, .inl ⟨rfl, _, .inl (.inl hv)⟩, T, vs, y, rfl, rfl, hv, hy, ?_⟩
      have t1 : Tups H2 (upd H2 T (.lst vs.dropLast)) := tups_lst hv
      refine ⟨y, kx, rfl, KdAt.mono t1 _ _ hr2, fun D xs H3 hD hDx hS3 hsub => ?_⟩
      have hT3 : H3 T = some (.lst vs.dropLast) := hS3 _ _ upd_same
      have hl3 : All2 (KdAt H3) ls vs.dropLast := hl.mono (KdAt.mono (Tups.trans t1 (tups_of hS3)))
      have hS' : Same H H3 := Same.trans (same_over hS hT) hS3
      rw [sl_app] at hn hm
      rw [List.length_append] at hm
      have z1 := sl_len ls
      have z2 := hl.len
      cases kx with
      | one =>
        change n + (sl ls + (1 + 0)) = _ at hn
        change m + (ls.length + 1) = 2 * (sl ls + (1 + 0)) at hm
        obtain rfl : xs = [] := List.eq_nil_of_length_eq_zero hsub.len.symm
        refine ⟨_, rfl, _, .inl ⟨_, SqL.of hDx, rfl⟩, ?_⟩
        refine iteT ?_
        refine ⟨_, rfl, _, _, rfl, rfl, ?_⟩
        refine ⟨_, rfl, .inl ⟨rfl, _, .inl (.inl hT3)⟩, _, rfl, T, D, _, _, rfl, rfl, hT3, hDx, (by show vs.dropLast.length + 0 ≤ sizeLine; exact small40 (by omega)), ?_⟩
        refine ⟨m - 1, by omega, ls, _, some (.ref D), n + 1, rfl, upd_same, ?_, same_over hS' hT, by omega, by omega⟩
        rw [List.append_nil]
        exact hl3.mono (KdAt.mono (tups_lst hT3))
      | mark mm =>
        change n + (sl ls + (1 + 0)) = _ at hn
        change m + (ls.length + 1) = 2 * (sl ls + (1 + 0)) at hm
        obtain rfl : xs = [] := List.eq_nil_of_length_eq_zero hsub.len.symm
        refine ⟨_, rfl, _, .inl ⟨_, SqL.of hDx, rfl⟩, ?_⟩
        refine iteT ?_
        refine ⟨_, rfl, _, _, rfl, rfl, ?_⟩
        refine ⟨_, rfl, .inl ⟨rfl, _, .inl (.inl hT3)⟩, _, rfl, T, D, _, _, rfl, rfl, hT3, hDx, (by show vs.dropLast.length + 0 ≤ sizeLine; exact small40 (by omega)), ?_⟩
        refine ⟨m - 1, by omega, ls, _, some (.ref D), n + 1, rfl, upd_same, ?_, same_over hS' hT, by omega, by omega⟩
        rw [List.append_nil]
        exact hl3.mono (KdAt.mono (tups_lst hT3))
      | two b k1 k2 =>
        change n + (sl ls + (k1.leaves + k2.leaves + 0)) = _ at hn
        change m + (ls.length + 1) = 2 * (sl ls + (k1.leaves + k2.leaves + 0)) at hm
        have z3 := hsub.len
        change 2 = _ at z3
        refine ⟨_, rfl, _, .inl ⟨_, SqL.of hDx, rfl⟩, ?_⟩
        have e2 : (!(!xs.isEmpty)) = false := by cases xs with | nil => cases z3 | cons a r => rfl
        refine ite2 (fun z => by rw [e2] at z; cases z) (fun _ => ?_)
        have p1 := k1.leaves_pos
        have p2 := k2.leaves_pos
        refine ⟨_, rfl, .inl ⟨rfl, _, .inl (.inl hT3)⟩, _, rfl, T, D, _, _, rfl, rfl, hT3, hDx, small40 (by omega), ?_⟩
        refine ⟨m - 1, by omega, ls ++ [k1, k2], _, some (.ref D), n, rfl, upd_same, ?_, same_over hS' hT, ?_, ?_⟩
        · exact (hl3.app hsub).mono (KdAt.mono (tups_lst hT3))
        · rw [sl_app]
          show n + (sl ls + (k1.leaves + (k2.leaves + 0))) = _
          omega
        · rw [sl_app, List.length_append]
          show m - 1 + (ls.length + 2) = 2 * (sl ls + (k1.leaves + (k2.leaves + 0)))
          omega
theorem scDepth : FnScope ["kind", "deepest", "todo", "part", "depth", "inner"] ["kind"] (defScope sDepth) := ⟨rfl, rfl, rfl, by decide +kernel, rfl, by decide +kernel, by decide +kernel⟩
theorem ok_depth {f fK : Addr} {fd fdK : FuncData} (F : Fun K "depth_of" "depth_of" sDepth f fd) (FK : Fun K "kinds_in" "kinds_in" sKin fK fdK) (bK : Binds K fdK ["kind"] []) (gK : mg "kinds_in" = some (.ref fK)) (mList : mg "list" = none) (mMax : mg "max" = none) :
    FnOk P w K mg base CX0 2 f fd ["kind"] spDepth := by
  have GK : FnOk P w K mg base CX0 1 fK fdK ["kind"] spKin := ok_kin FK mList
  refine F.ok scDepth (fun vs H Q E h => ?_) (fun cdv A outer s H vs Q E hr h => ?_)
  · obtain ⟨v, k, rfl, _⟩ := h
    rfl
  · obtain ⟨v, kd, rfl, hk, hL, k⟩ := h
    refine ⟨_, pss_cons (ps_set (i := 1) scDepth.nd rfl (Or.inl rfl) pe_int)
      (pss_cons (ps_set (i := 2) scDepth.nd rfl (Or.inl rfl) (pe_lst (pa_cons (pe_tup (pa_cons (pv 0) (pa_cons pe_int pa_nil))) pa_nil)))
      (pss_cons (ps_while PassesOwn.never (pt_truth (pv 2) (by intro _; rfl))
        (pss_cons (ps_asg (pe_bm0 PySem.F.plainAttrs_list PySem.F.slot_list_pop PySem.F.type_list_pop mt_pop (pv 2)) (pg_tup (by rfl) (pgs_cons (pg_name (i := 3) scDepth.nd rfl (Or.inl rfl)) (pgs_cons (pg_name (i := 4) scDepth.nd rfl (Or.inl rfl)) pgs_nil))))
        (pss_cons (ps_set (i := 1) scDepth.nd rfl (Or.inl rfl) (pe_callB (call_max2 (by rfl)) (by rfl) mMax (by decide +kernel) (pa_cons (pv 1) (pa_cons (pv 4) pa_nil))))
        (pss_one (ps_for PassesOwn.never rfl (pi_list (pe_call GK hr (by rfl) gK FK.kp bK .nil pass0 (pa_cons (pv 3) pa_nil))) (pg_name (i := 5) scDepth.nd rfl (Or.inl rfl))
          (pss_one (ps_expr (pe_bm PySem.F.plainAttrs_list PySem.F.slot_list_append PySem.F.type_list_append mt_append (pv 2) (pa_cons (pe_tup (pa_cons (pv 5) (pa_cons (pe_op op_add (pv 4) pe_int) pa_nil))) pa_nil)))))))))
      (pss_one (ps_ret (pv 1))))), ?_⟩
    refine ⟨_, rfl, by show 2 ≤ sizeLine; decide, fun t0 ht0 => ⟨by show 1 ≤ sizeLine; decide, fun T hT1 => ?_⟩⟩
    have hT : H T = none := (same_new ht0).free hT1
    have S0 : Same H (upd (upd H t0 (.tup [v, .int 0])) T (.lst [.ref t0])) := Same.trans (same_new ht0) (same_new hT1)
    refine ⟨fun m σ H2 => ∃ (ks : List (Kd × Nat)) (vs : List V) (i3 i4 i5 : Option V) (n : Nat), σ = [some v, some (.int (n : Int)), some (.ref T), i3, i4, i5] ∧ H2 T = some (.lst vs) ∧ All2 (ItAt H2) ks vs ∧ Same H H2 ∧ max n (far ks) = kd.deep ∧ m + ks.length = 2 * sq ks ∧ sq ks ≤ kd.leaves,
      ⟨2 * kd.leaves - 1, [(kd, 0)], [.ref t0], none, none, none, 0, rfl, upd_same, ⟨⟨t0, v, rfl, ?_, KdAt.mono (tups_of S0) _ _ hk⟩, trivial⟩, S0, ?_, ?_, ?_⟩, ?_⟩
    · have n0 : t0 ≠ T := fun z => by rw [← z, upd_same] at hT1; cases hT1
      rw [upd_ne n0, upd_same]
      rfl
    · show max 0 (max (0 + kd.deep) 0) = kd.deep
      omega
    · have := kd.leaves_pos
      show 2 * kd.leaves - 1 + 1 = 2 * (kd.leaves + 0)
      omega
    · show kd.leaves + 0 ≤ _
      omega
    rintro m σ H2 ⟨ks, vs, i3, i4, i5, n, rfl, hv, hA, hS, hn, hm, hq⟩
    refine ⟨_, rfl, _, .inl ⟨_, SqL.of hv, rfl⟩, ?_⟩
    by_cases he : vs = []
    · subst he
      refine iteF ?_
      have := hA.len
      obtain rfl : ks = [] := List.eq_nil_of_length_eq_zero this
      refine ⟨_, rfl, ?_⟩
      have hn' : max n 0 = kd.deep := hn
      obtain rfl : n = kd.deep := by omega
      exact k H2 hS
    · obtain ⟨ls, ⟨kx, d⟩, y, rfl, ev, hl, hr2, hy⟩ := hA.last he
      have e1 : (!vs.isEmpty) = true := by cases vs with | nil => exact absurd rfl he | cons a r => rfl
      rw [if_pos e1]
      have t1 : Tups H2 (upd H2 T (.lst vs.dropLast)) := tups_lst hv
      have hr3 := ItAt.mono t1 _ _ hr2
      obtain ⟨tt, x, rfl, htt, hkx⟩ := hr3
      refine ⟨_, fun _ _ z => z, ?_⟩
      refine ⟨_, rfl, .inl ⟨rfl, _, .inl (.inl hv)⟩, T, vs, _, rfl, rfl, hv, hy, ?_⟩
      refine ⟨tt, _, rfl, SqT.of htt, rfl, ?_⟩
      refine ⟨_, _, rfl, _, _, rfl, rfl, ?_⟩
      refine ⟨_, rfl, _, rfl, _, _, rfl, ?_⟩
      rw [max_int n d]
      rw [far_app] at hn
      rw [sq_app] at hm hq
      rw [List.length_append] at hm
      change max n (max (far ls) (max (d + kx.deep) 0)) = _ at hn
      change m + (ls.length + 1) = 2 * (sq ls + (kx.leaves + 0)) at hm
      change sq ls + (kx.leaves + 0) ≤ _ at hq
      have z1 := sq_len ls
      have z2 := hl.len
      have c1 := kx.leaves_pos
      refine ⟨_, rfl, x, kx, rfl, hkx, fun D xs H3 hD hDx hS3 hsub => ?_⟩
      have hT3 : H3 T = some (.lst vs.dropLast) := hS3 _ _ upd_same
      have hl3 : All2 (ItAt H3) ls vs.dropLast := hl.mono (ItAt.mono (Tups.trans t1 (tups_of hS3)))
      have hS' : Same H H3 := Same.trans (same_over hS hT) hS3
      have z3 := hsub.len
      have hDn : H D = none := (same_over hS hT).free hD
      have nDT : D ≠ T := fun z => by rw [z, upd_same] at hD; cases hD
      have z4 : kx.subs.length ≤ kx.leaves := by
        cases kx with
        | one => exact Nat.zero_le _
        | mark _ => exact Nat.zero_le _
        | two b k1 k2 =>
          have := k1.leaves_pos
          have := k2.leaves_pos
          show 2 ≤ k1.leaves + k2.leaves
          omega
      refine ⟨D, rfl, ⟨_, SqL.of hDx⟩, for_list (K := K) (a := D) (xs := xs) (fun i σ H4 => ∃ (us : List V) (i5 : Option V), σ = [some v, some (.int ((max n d : Nat) : Int)), some (.ref T), some x, some (.int (d : Int)), i5] ∧ H4 T = some (.lst us) ∧
        All2 (ItAt H4) (ls ++ (kx.subs.take i).map fun q => (q, d + 1)) us ∧ Same H H4 ∧ H4 D = some (.lst xs) ∧ All2 (KdAt H4) kx.subs xs)
        ⟨vs.dropLast, i5, rfl, hT3, by rw [List.take_zero, List.map_nil, List.append_nil]; exact hl3, hS', hDx, hsub⟩ (fun i σ H4 _ ⟨_, _, _, _, _, _, g, _⟩ => SqL.of g) ?_ ?_⟩
      · rintro i y σ H4 hi ⟨us, j5, rfl, hu, hA4, hS4, hD4, hs4⟩
        obtain ⟨q, hq1, hq2⟩ := hs4.get hi
        have hil : i < xs.length := (List.getElem?_eq_some_iff.mp hi).1
        have zl := hA4.len
        rw [List.length_append, List.length_map, List.length_take] at zl
        refine ⟨_, rfl, .inl ⟨rfl, _, .inl (.inl hu)⟩, _, rfl, _, rfl, _, _, rfl, rfl, (by show 2 ≤ sizeLine; decide), fun t ht => ?_⟩
        have st : Same H4 (upd H4 t (.tup [y, .int ((d : Int) + 1)])) := same_new ht
        refine ⟨T, us, _, rfl, rfl, st _ _ hu, small1000 (by omega), ?_⟩
        have tt2 : Tups H4 (upd (upd H4 t (.tup [y, .int ((d : Int) + 1)])) T (.lst (us ++ [.ref t]))) := Tups.trans (tups_of st) (tups_lst (st _ _ hu))
        have ntT : t ≠ T := fun z => by rw [z, hu] at ht; cases ht
        refine ⟨us ++ [.ref t], some y, rfl, upd_same, ?_, same_over (Same.trans hS4 st) hT, ?_, hs4.mono (KdAt.mono tt2)⟩
        · rw [List.take_add_one, hq1, List.map_append, ← List.append_assoc]
          refine (hA4.mono (ItAt.mono tt2)).app ⟨⟨t, y, rfl, ?_, KdAt.mono tt2 _ _ hq2⟩, trivial⟩
          rw [upd_ne ntT, upd_same]
          rfl
        · rw [upd_ne nDT]
          exact st _ _ hD4
      · rintro σ H4 ⟨us, j5, rfl, hu, hA4, hS4, hD4, hs4⟩
        rw [← z3, List.take_length] at hA4
        refine ⟨m - 1, by omega, _, us, _, _, _, _, rfl, hu, hA4, hS4, ?_, ?_, ?_⟩
        · rw [far_app]
          cases kx with
          | one =>
            show max (max n d) (max (far ls) 0) = _
            change max n (max (far ls) (max (d + 0) 0)) = _ at hn
            omega
          | mark _ =>
            show max (max n d) (max (far ls) 0) = _
            change max n (max (far ls) (max (d + 0) 0)) = _ at hn
            omega
          | two b k1 k2 =>
            show max (max n d) (max (far ls) (max (d + 1 + k1.deep) (max (d + 1 + k2.deep) 0))) = _
            change max n (max (far ls) (max (d + (max k1.deep k2.deep + 1)) 0)) = _ at hn
            omega
        · rw [sq_app, List.length_append, List.length_map]
          cases kx with
          | one =>
            change m + (ls.length + 1) = 2 * (sq ls + (1 + 0)) at hm
            show m - 1 + (ls.length + 0) = 2 * (sq ls + 0)
            omega
          | mark _ =>
            change m + (ls.length + 1) = 2 * (sq ls + (1 + 0)) at hm
            show m - 1 + (ls.length + 0) = 2 * (sq ls + 0)
            omega
          | two b k1 k2 =>
            have := k1.leaves_pos
            have := k2.leaves_pos
            change m + (ls.length + 1) = 2 * (sq ls + (k1.leaves + k2.leaves + 0)) at hm
            show m - 1 + (ls.length + 2) = 2 * (sq ls + (k1.leaves + (k2.leaves + 0)))
            omega
        · rw [sq_app]
          cases kx with
          | one => 
            show sq ls + 0 ≤ _
            omega
          | mark _ => 
            show sq ls + 0 ≤ _
            omega
          | two b k1 k2 =>
            change sq ls + (k1.leaves + k2.leaves + 0) ≤ _ at hq
            show sq ls + (k1.leaves + (k2.leaves + 0)) ≤ _
            omega
end
abbrev sKind : Stmt := top 7
abbrev sWalked : Stmt := top 8
def Kept (p : Addr) (H H' : Hp) : Prop := ∀ b o, b ≠ p → H b = some o → H' b = some o
theorem Kept.trans {p : Addr} {H H1 H2 : Hp} (a : Kept p H H1) (b : Kept p H1 H2) : Kept p H H2 := fun c o n e => b c o n (a c o n e)
theorem kept_same {p : Addr} {H H1 : Hp} (s : Same H H1) : Kept p H H1 := fun b o _ e => s b o e
theorem kept_take {p : Addr} {H H1 : Hp} (e : ∀ b, b ≠ p → H1 b = H b) : Kept p H H1 := fun b _ n h => (e b n).trans h
theorem tups_kept {p : Addr} {H H1 : Hp} (k : Kept p H H1) (hp : PoolAt H p) : Tups H H1 := fun b _ e => by
  obtain ⟨c, n, z, _⟩ := hp
  exact k b _ (ne_of e z (by intro q; cases q)) e
theorem pool_marks {H : Hp} {p M : Addr} {ms : List Str} (hp : PoolAt H p) (hM : H M = some (.lst (ms.map V.str))) : M ≠ p := fun z => by
  obtain ⟨c, n, e, _⟩ := hp
  rw [z, e] at hM
  cases ms with
  | nil => cases hM
  | cons a r => cases hM
theorem PoolAt.same {H H1 : Hp} {p : Addr} (hp : PoolAt H p) (s : Same H H1) : PoolAt H1 p := by
  obtain ⟨c, n, e, h⟩ := hp
  exact ⟨c, n, s _ _ e, h⟩
def spKind (n : Nat) : Sp := fun vs H Q _ => ∃ (p M : Addr) (L : Nat) (ms : List Str), vs = [.ref p, .int (L : Int), .ref M] ∧ PoolAt H p ∧ 1 ≤ L ∧ L ≤ n ∧ L ≤ 1000 ∧ H M = some (.lst (ms.map V.str)) ∧ 1 ≤ ms.length ∧ ms.length ≤ 1000 ∧
  (∀ m ∈ ms, PySem.PyData.canLay0 (.str m) = true) ∧ ∀ (v : V) (k : Kd) (H' : Hp), KdAt H' k v → k.leaves = L → k.Ok → PoolAt H' p → Kept p H H' → Q v H'
section
variable {P : Program} {w : World} {K : PySem.W.Frag} {mg : Str → Option Value} {base : Heap}
theorem scKind : FnScope ["_law_pool_here", "_law_leaves", "_law_marks", "_law_one", "_law_word"] ["_law_pool_here", "_law_leaves", "_law_marks"] (defScope sKind) := ⟨rfl, rfl, rfl, by decide +kernel, rfl, by decide +kernel, by decide +kernel⟩
theorem ok_kind {f fT : Addr} {fd fdT : FuncData} (F : Fun K "_law_kind" "_law_kind" sKind f fd) (bF : Binds K fd ["_law_pool_here", "_law_leaves", "_law_marks"] []) (gF : mg "_law_kind" = some (.ref f))
    (FT : Fun K "_law_take" "_law_take" sTake fT fdT) (bT : Binds K fdT ["_law_pool_here", "_law_many"] []) (gT : mg "_law_take" = some (.ref fT)) (mLen : mg "len" = none) :
    ∀ n : Nat, FnOk P w K mg base CX0 (n + 2) f fd ["_law_pool_here", "_law_leaves", "_law_marks"] (spKind n) := by
  have GT : FnOk P w K mg base CX0 1 fT fdT ["_law_pool_here", "_law_many"] spTake := ok_take FT
  intro n
  induction n with
  | zero =>
    refine F.ok scKind (fun vs H Q E h => ?_) (fun cdv A outer s H vs Q E hr h => ?_)
    · obtain ⟨p, M, L, ms, rfl, _⟩ := h
      rfl
    · obtain ⟨p, M, L, ms, _, _, h1, h2, _⟩ := h
      omega
  | succ n GK =>
    refine F.ok scKind (fun vs H Q E h => ?_) (fun cdv A outer s H vs Q E hr h => ?_)
    · obtain ⟨p, M, L, ms, rfl, _⟩ := h
      rfl
    · obtain ⟨p, M, L, ms, rfl, hp, l1, l2, l3, hM, m1, m2, hms, k⟩ := h
      have hr1 : Room 1 _ := hr.mono (by omega)
      refine ⟨_, pss_cons (ps_if (pt_cmpR op_eq (pv 1) pe_int (nomark _))
          (pss_cons (ps_if (pt_cmpR op_eq (pe_call GT hr1 (by rfl) gT FT.kp bT .nil pass0 (pa_cons (pv 0) (pa_cons pe_int pa_nil))) pe_int (nomark _)) (pss_one (ps_ret (pe_tup (pa_cons pe_str pa_nil)))) pss_nil)
          (pss_one (ps_ret (pe_tup (pa_cons pe_str (pa_cons (pe_ix ix_list (pv 2) (pe_call GT hr1 (by rfl) gT FT.kp bT .nil pass0 (pa_cons (pv 0) (pa_cons (pe_callB call_len_seq (by rfl) mLen PySem.boot_len (pa_cons (pv 2) pa_nil)) pa_nil))) (fun _ _ => rfl)) pa_nil)))))) pss_nil)
        (pss_cons (ps_set (i := 3) scKind.nd rfl (Or.inl rfl) (pe_op op_add pe_int (pe_call GT hr1 (by rfl) gT FT.kp bT .nil pass0 (pa_cons (pv 0) (pa_cons (pe_op op_sub (pv 1) pe_int) pa_nil)))))
        (pss_cons (ps_set (i := 4) scKind.nd rfl (Or.inl rfl) (pe_ix ix_list (pe_lst (pa_cons pe_str (pa_cons pe_str (pa_cons pe_str pa_nil)))) (pe_call GT hr1 (by rfl) gT FT.kp bT .nil pass0 (pa_cons (pv 0) (pa_cons pe_int pa_nil))) (fun _ _ => rfl)))
        (pss_one (ps_ret (pe_tup (pa_cons (pv 4) (pa_cons (pe_call GK hr (by rfl) gF F.kp bF .nil pass0 (pa_cons (pv 0) (pa_cons (pv 3) (pa_cons (pv 2) pa_nil))))
          (pa_cons (pe_call GK hr (by rfl) gF F.kp bF .nil pass0 (pa_cons (pv 0) (pa_cons (pe_op op_sub (pv 1) (pv 3)) (pa_cons (pv 2) pa_nil)))) pa_nil)))))))), ?_⟩
      refine ⟨_, rfl, rfl, _, rfl, ?_⟩
      refine ite2 (fun hc => ?_) (fun hc => ?_)
      · have hL : L = 1 := by
          have z := of_decide_eq_true hc
          injection z with z
          omega
        subst hL
        refine ⟨_, rfl, p, 9, rfl, hp, by decide, by decide, fun r H1 r0 r1 hp1 e1 => ?_⟩
        refine ⟨rfl, _, rfl, ?_⟩
        refine ite2 (fun _ => ?_) (fun _ => ?_)
        · refine ⟨by show 1 ≤ sizeLine; decide, fun t ht => ?_⟩
          exact k (.ref t) .one _ ⟨t, rfl, upd_same⟩ rfl trivial (hp1.same (same_new ht)) ((kept_take e1).trans (kept_same (same_new ht)))
        · have k1 := kept_take e1
          have hM1 := k1 _ _ (pool_marks hp hM) hM
          refine ⟨_, rfl, _, rfl, _, rfl, M, _, rfl, .inl (SqL.of hM1), p, _, rfl, hp1, by rw [List.length_map]; omega, by rw [List.length_map]; omega, fun q H2 q0 q1 hp2 e2 => ?_⟩
          have hM2 := kept_take e2 _ _ (pool_marks hp1 hM1) hM1
          obtain ⟨u, hu, hm⟩ := at_any (xs := ms.map V.str) q0 q1
          obtain ⟨mk, hmk, rfl⟩ := List.mem_map.mp hm
          refine ⟨M, _, _, _, rfl, rfl, SqL.of hM2, hu, by show 2 ≤ sizeLine; decide, fun t ht => ?_⟩
          exact k (.ref t) (.mark mk) _ ⟨t, rfl, upd_same⟩ rfl (hms mk hmk) (hp2.same (same_new ht)) ((k1.trans (kept_take e2)).trans (kept_same (same_new ht)))
      · have hL : 2 ≤ L := by
          rcases Nat.lt_or_ge L 2 with z | z
          · exact absurd (decide_eq_true (by rw [show L = 1 by omega]; rfl)) hc
          · exact z
        have eL : ((L : Int) - 1) = ((L - 1 : Nat) : Int) := by omega
        refine ⟨_, rfl, _, rfl, _, _, rfl, rfl, p, _, rfl, hp, by omega, by omega, fun r H1 r0 r1 hp1 e1 => ?_⟩
        obtain ⟨rn, rfl⟩ : ∃ rn : Nat, r = rn := ⟨r.toNat, by omega⟩
        refine ⟨_, _, rfl, rfl, ?_⟩
        refine ⟨by show 3 ≤ sizeLine; decide, fun l hl => ?_⟩
        have k1 := kept_take e1
        have nl := hp1.ne hl
        refine ⟨_, rfl, p, 3, rfl, hp1.upd hl, by decide, by decide, fun q H2 q0 q1 hp2 e2 => ?_⟩
        have k2 : Kept p H H2 := (k1.trans (kept_same (same_new hl))).trans (kept_take e2)
        obtain ⟨u, hu, hm⟩ := at_any (xs := [V.str "to", V.str "to", V.str "both"]) q0 q1
        obtain ⟨b, rfl⟩ : ∃ b, u = V.str (word b) := by
          simp only [List.mem_cons, List.not_mem_nil, or_false] at hm
          rcases hm with rfl | rfl | rfl
          · exact ⟨true, rfl⟩
          · exact ⟨true, rfl⟩
          · exact ⟨false, rfl⟩
        refine ⟨l, _, _, _, rfl, rfl, SqL.of ((e2 l nl).trans upd_same), hu, ?_⟩
        have hM2 := k2 _ _ (pool_marks hp hM) hM
        refine ⟨_, rfl, _, rfl, _, rfl, _, rfl, p, M, 1 + rn, ms, rfl, hp2, by omega, by omega, by omega, hM2, m1, m2, hms, fun v1 kd1 H3 h1 hl1 ho1 hp3 k3 => ?_⟩
        have hM3 := k3 _ _ (pool_marks hp2 hM2) hM2
        have e3 : ((L : Int) - (1 + (rn : Int))) = ((L - (1 + rn) : Nat) : Int) := by omega
        refine ⟨_, rfl, _, rfl, _, rfl, _, _, rfl, rfl, _, rfl, p, M, L - (1 + rn), ms, ?_, hp3, by omega, by omega, by omega, hM3, m1, m2, hms, fun v2 kd2 H4 h2 hl2 ho2 hp4 k4 => ?_⟩
        · rw [← e3]
          rfl
        refine ⟨by show 3 ≤ sizeLine; decide, fun t ht => ?_⟩
        have st : Same H4 (upd H4 t (.tup [.str (word b), v1, v2])) := same_new ht
        refine k (.ref t) (.two b kd1 kd2) _ ⟨t, v1, v2, rfl, upd_same, KdAt.mono (Tups.trans (tups_kept k4 hp3) (tups_of st)) _ _ h1, KdAt.mono (tups_of st) _ _ h2⟩ ?_ ⟨ho1, ho2⟩ (hp4.same st) (((k2.trans k3).trans k4).trans (kept_same st))
        show kd1.leaves + kd2.leaves = L
        omega
end
/-! data -/
theorem data_depth : ∀ k : Kd, k.data.depth = k.deep + 1
  | .one => by simp only [Kd.data, Kd.deep, PyData.depth, PyData.depthAll] <;> rfl
  | .mark m => by simp only [Kd.data, Kd.deep, PyData.depth, PyData.depthAll] <;> rfl
  | .two b k l => by
    have h1 := data_depth k
    have h2 := data_depth l
    simp only [Kd.data, Kd.deep, PyData.depth, PyData.depthAll, h1, h2]
    omega
theorem data_ok : ∀ k : Kd, k.Ok → k.data.canLay0 = true
  | .one, _ => by decide +kernel
  | .mark m, h => by
    have h' : PyData.canLay0 (.str m) = true := h
    have e : PyData.canLay0 (.str "mark") = true := by decide +kernel
    simp only [Kd.data, PyData.canLay0, PyData.canLayAll0] at h' e ⊢
    rw [h', e] <;> rfl
  | .two b k l, ⟨h1, h2⟩ => by
    have i1 := data_ok k h1
    have i2 := data_ok l h2
    have e : PyData.canLay0 (.str (word b)) = true := by cases b <;> decide +kernel
    simp only [PyData.canLay0] at e
    simp only [Kd.data, PyData.canLay0, PyData.canLayAll0, i1, i2, e]
    rfl
theorem kd_dp {K : PySem.W.Frag} {H : Hp} : ∀ (k : Kd) (v : V), KdAt H k v → Dp K H v k.data
  | .one, _, ⟨a, e, h⟩ => by
    subst e
    exact .tup (SqT.of h) (.cons (.str _) .nil)
  | .mark m, _, ⟨a, e, h⟩ => by
    subst e
    exact .tup (SqT.of h) (.cons (.str _) (.cons (.str _) .nil))
  | .two b k l, _, ⟨a, x, y, e, h, h1, h2⟩ => by
    subst e
    exact .tup (SqT.of h) (.cons (.str _) (.cons (kd_dp k x h1) (.cons (kd_dp l y h2) .nil)))
def qdat (q : Kd × Nat) : PyData := .tuple [q.1.data, .int (q.2 : Int)]
theorem it_dp {K : PySem.W.Frag} {H : Hp} {q : Kd × Nat} {v : V} (h : ItAt H q v) : Dp K H v (qdat q) := by
  obtain ⟨t, x, rfl, e, hk⟩ := h
  exact .tup (SqT.of e) (.cons (kd_dp _ _ hk) (.cons (.int _) .nil))
theorem its_dp {K : PySem.W.Frag} {H : Hp} : ∀ {ks : List (Kd × Nat)} {vs : List V}, All2 (ItAt H) ks vs → DpAll K H vs (ks.map qdat)
  | [], [], _ => .nil
  | _ :: _, _ :: _, ⟨h, t⟩ => .cons (it_dp h) (its_dp t)
  | [], _ :: _, h => h.elim
  | _ :: _, [], h => h.elim
theorem qdat_ok {q : Kd × Nat} (h : q.1.Ok) : (qdat q).canLay0 = true := by
  have j := data_ok q.1 h
  simp only [qdat, PyData.canLay0, PyData.canLayAll0, j]
  rfl
theorem qdat_depth (q : Kd × Nat) : (qdat q).depth = q.1.deep + 2 := by
  have d := data_depth q.1
  simp only [qdat, PyData.depth, PyData.depthAll, d]
  omega
theorem its_ok : ∀ ks : List (Kd × Nat), (∀ q ∈ ks, q.1.Ok) → PyData.canLayAll0 (ks.map qdat) = true
  | [], _ => by decide
  | q :: r, h => by
    have i := its_ok r fun z hz => h z (List.mem_cons_of_mem _ hz)
    have j := qdat_ok (h q List.mem_cons_self)
    simp only [List.map_cons, PyData.canLayAll0, j, i]
    rfl
theorem its_deep (n : Nat) : ∀ ks : List (Kd × Nat), (∀ q ∈ ks, q.1.deep ≤ n) → PyData.depthAll (ks.map qdat) ≤ n + 2
  | [], _ => by simp only [List.map_nil, PyData.depthAll]; omega
  | q :: r, h => by
    have i := its_deep n r fun z hz => h z (List.mem_cons_of_mem _ hz)
    have j := h q List.mem_cons_self
    have d := qdat_depth q
    simp only [List.map_cons, PyData.depthAll, d]
    omega
theorem its_shaped {ks : List (Kd × Nat)} (h1 : ∀ q ∈ ks, q.1.Ok) (h2 : ∀ q ∈ ks, q.1.deep ≤ 50) : SeqAt.shaped (.list (ks.map qdat)) = true := by
  have a := its_ok ks h1
  have b := its_deep 50 ks h2
  unfold SeqAt.shaped
  simp only [PyData.canLay0, PyData.depth, a, Bool.true_and]
  exact decide_eq_true (by omega)
theorem eqv_nil (ds : List PyData) : PyData.eqv (.list ds) (.list []) = ds.isEmpty := by
  cases ds with
  | nil => simp only [PyData.eqv, PyData.eqvAll]; rfl
  | cons a r => simp only [PyData.eqv, PyData.eqvAll]; rfl
def spWalked : Sp := fun vs H Q _ => ∃ (v : V) (k : Kd), vs = [v] ∧ KdAt H k v ∧ k.leaves ≤ 50 ∧ k.Ok ∧
  ∀ (R : Addr) (H' : Hp), H' R = some (.lst [.int (k.leaves : Int), .int (k.deep : Int)]) → Same H H' → H R = none → Q (.ref R) H'
section
variable {P : Program} {w : World} {K : PySem.W.Frag} {mg : Str → Option Value} {base : Heap}
theorem scWalked : FnScope ["_law_kind_here", "_law_row", "_law_many", "_law_deepest", "_law_one", "_law_far"] ["_law_kind_here"] (defScope sWalked) := ⟨rfl, rfl, rfl, by decide +kernel, rfl, by decide +kernel, by decide +kernel⟩
theorem ok_walked {f : Addr} {fd : FuncData} (F : Fun K "_law_walked" "_law_walked" sWalked f fd) (mLen : mg "len" = none) (mMax : mg "max" = none) :
    FnOk P w K mg base CX0 1 f fd ["_law_kind_here"] spWalked := by
  refine F.ok scWalked (fun vs H Q E h => ?_) (fun cdv A outer s H vs Q E hr h => ?_)
  · obtain ⟨v, k, rfl, _⟩ := h
    rfl
  · obtain ⟨v, kd, rfl, hk, hL, hO, k⟩ := h
    have hD : kd.deep ≤ 50 := by have := kd.deep_lt; omega
    refine ⟨_, pss_cons (ps_set (i := 1) scWalked.nd rfl (Or.inl rfl) (pe_lst (pa_cons (pe_tup (pa_cons (pv 0) (pa_cons pe_int pa_nil))) pa_nil)))
      (pss_cons (ps_set (i := 2) scWalked.nd rfl (Or.inl rfl) pe_int)
      (pss_cons (ps_set (i := 3) scWalked.nd rfl (Or.inl rfl) pe_int)
      (pss_cons (ps_while PassesOwn.never (pt_cmpR (op_neD hr.units) (pv 1) (pe_lst pa_nil) (nomark _))
        (pss_cons (ps_asg (pe_bm0 PySem.F.plainAttrs_list PySem.F.slot_list_pop PySem.F.type_list_pop mt_pop (pv 1)) (pg_tup (by rfl) (pgs_cons (pg_name (i := 4) scWalked.nd rfl (Or.inl rfl)) (pgs_cons (pg_name (i := 5) scWalked.nd rfl (Or.inl rfl)) pgs_nil))))
        (pss_one (ps_if (pt_cmpR op_eq (pe_callB call_len_seq (by rfl) mLen PySem.boot_len (pa_cons (pv 4) pa_nil)) pe_int (nomark _))
          (pss_one (ps_expr (pe_bm PySem.F.plainAttrs_list PySem.F.slot_list_extend PySem.F.type_list_extend mt_extend (pv 1) (pa_cons (pe_lst
            (pa_cons (pe_tup (pa_cons (pe_ix ix_tup (pv 4) pe_int (fun _ _ => rfl)) (pa_cons (pe_op op_add (pv 5) pe_int) pa_nil)))
            (pa_cons (pe_tup (pa_cons (pe_ix ix_tup (pv 4) pe_int (fun _ _ => rfl)) (pa_cons (pe_op op_add (pv 5) pe_int) pa_nil))) pa_nil))) pa_nil))))
          (pss_cons (ps_set (i := 2) scWalked.nd rfl (Or.inl rfl) (pe_op op_add (pv 2) pe_int))
          (pss_one (ps_set (i := 3) scWalked.nd rfl (Or.inl rfl) (pe_callB (call_max2 (by rfl)) (by rfl) mMax (by decide +kernel) (pa_cons (pv 3) (pa_cons (pv 5) pa_nil))))))))))
      (pss_one (ps_ret (pe_lst (pa_cons (pv 2) (pa_cons (pv 3) pa_nil)))))))), ?_⟩
    refine ⟨_, rfl, by show 2 ≤ sizeLine; decide, fun t0 ht0 => ⟨by show 1 ≤ sizeLine; decide, fun T hT1 => ?_⟩⟩
    have hT : H T = none := (same_new ht0).free hT1
    have S0 : Same H (upd (upd H t0 (.tup [v, .int 0])) T (.lst [.ref t0])) := Same.trans (same_new ht0) (same_new hT1)
    refine ⟨fun m σ H2 => ∃ (ks : List (Kd × Nat)) (vs : List V) (i4 i5 : Option V) (n c : Nat), σ = [some v, some (.ref T), some (.int (c : Int)), some (.int (n : Int)), i4, i5] ∧ H2 T = some (.lst vs) ∧ All2 (ItAt H2) ks vs ∧ Same H H2 ∧ max n (far ks) = kd.deep ∧ m + ks.length = 2 * sq ks ∧ c + sq ks = kd.leaves ∧ (∀ q ∈ ks, q.1.Ok) ∧ (∀ q ∈ ks, q.1.deep ≤ 50),
      ⟨2 * kd.leaves - 1, [(kd, 0)], [.ref t0], none, none, 0, 0, rfl, upd_same, ⟨⟨t0, v, rfl, ?_, KdAt.mono (tups_of S0) _ _ hk⟩, trivial⟩, S0, ?_, ?_, ?_, ?_, ?_⟩, ?_⟩
    · have n0 : t0 ≠ T := fun z => by rw [← z, upd_same] at hT1; cases hT1
      rw [upd_ne n0, upd_same]
      rfl
    · show max 0 (max (0 + kd.deep) 0) = kd.deep
      omega
    · have := kd.leaves_pos
      show 2 * kd.leaves - 1 + 1 = 2 * (kd.leaves + 0)
      omega
    · show 0 + (kd.leaves + 0) = _
      omega
    · intro q hq
      rw [List.mem_singleton.mp hq]
      exact hO
    · intro q hq
      rw [List.mem_singleton.mp hq]
      exact hD
    rintro m σ H2 ⟨ks, vs, i4, i5, n, c, rfl, hv, hA, hS, hn, hm, hq, hok, hdp⟩
    refine ⟨_, rfl, by show 0 ≤ sizeLine; decide, fun l hl => ?_⟩
    have sl' : Same H2 (upd H2 l (.lst [])) := same_new hl
    have hA' := hA.mono (ItAt.mono (tups_of sl'))
    have hv' := sl' _ _ hv
    refine ⟨.list (ks.map qdat), .list [], .lst (SqL.of hv') (its_dp hA'), .lst (SqL.of upd_same) .nil, its_shaped hok hdp, by decide +kernel, _, rfl, ?_⟩
    rw [eqv_nil, List.isEmpty_map]
    have hS2 : Same H (upd H2 l (.lst [])) := Same.trans hS sl'
    generalize upd H2 l (.lst []) = H3 at *
    by_cases he : vs = []
    · subst he
      have := hA.len
      obtain rfl : ks = [] := List.eq_nil_of_length_eq_zero this
      refine iteF ?_
      have hn' : max n 0 = kd.deep := hn
      have hq' : c + 0 = kd.leaves := hq
      obtain rfl : n = kd.deep := by omega
      obtain rfl : c = kd.leaves := by omega
      exact ⟨_, rfl, _, rfl, by show 2 ≤ sizeLine; decide, fun R hR => k R _ upd_same (Same.trans hS2 (same_new hR)) (hS2.free hR)⟩
    · obtain ⟨ls, ⟨kx, d⟩, y, rfl, ev, hl2, hr2, hy⟩ := hA'.last he
      have e1 : (!(ls ++ [(kx, d)]).isEmpty) = true := by cases ls <;> rfl
      rw [e1]
      refine iteT ?_
      have t1 : Tups H3 (upd H3 T (.lst vs.dropLast)) := tups_lst hv'
      have hr3 := ItAt.mono t1 _ _ hr2
      obtain ⟨tt, x, rfl, htt, hkx⟩ := hr3
      refine ⟨_, fun _ _ z => z, ?_⟩
      refine ⟨_, rfl, .inl ⟨rfl, _, .inl (.inl hv')⟩, T, vs, _, rfl, rfl, hv', hy, ?_⟩
      refine ⟨tt, _, rfl, SqT.of htt, rfl, ?_⟩
      refine ⟨_, _, rfl, _, _, rfl, rfl, ?_⟩
      rw [far_app] at hn
      rw [sq_app] at hm hq
      rw [List.length_append] at hm
      have z1 := sq_len ls
      have z2 := hl2.len
      have hl4 := hl2.mono (ItAt.mono t1)
      have hS4 : Same H (upd H3 T (.lst vs.dropLast)) := same_over hS2 hT
      have hT4 : (upd H3 T (.lst vs.dropLast)) T = some (.lst vs.dropLast) := upd_same
      have ok1 := hok (kx, d) (by simp)
      have dp1 := hdp (kx, d) (by simp)
      generalize upd H3 T (.lst vs.dropLast) = H4 at *
      cases kx with
      | one =>
        change max n (max (far ls) (max (d + 0) 0)) = _ at hn
        change m + (ls.length + 1) = 2 * (sq ls + (1 + 0)) at hm
        change c + (sq ls + (1 + 0)) = _ at hq
        obtain ⟨a, rfl, ha⟩ := hkx
        refine ⟨_, rfl, a, _, rfl, .inr (SqT.of ha), rfl, _, rfl, ?_⟩
        refine ite2 (fun z => by cases z) (fun _ => ?_)
        refine ⟨_, rfl, _, _, rfl, rfl, _, rfl, _, rfl, _, _, rfl, ?_⟩
        refine ⟨m - 1, by omega, ls, _, _, _, max n d, c + 1, by rw [max_int n d]; rfl, hT4, hl4, hS4, by omega, by omega, by omega, fun q h => hok q (List.mem_append_left _ h), fun q h => hdp q (List.mem_append_left _ h)⟩
      | mark mm =>
        change max n (max (far ls) (max (d + 0) 0)) = _ at hn
        change m + (ls.length + 1) = 2 * (sq ls + (1 + 0)) at hm
        change c + (sq ls + (1 + 0)) = _ at hq
        obtain ⟨a, rfl, ha⟩ := hkx
        refine ⟨_, rfl, a, _, rfl, .inr (SqT.of ha), rfl, _, rfl, ?_⟩
        refine ite2 (fun z => by cases z) (fun _ => ?_)
        refine ⟨_, rfl, _, _, rfl, rfl, _, rfl, _, rfl, _, _, rfl, ?_⟩
        refine ⟨m - 1, by omega, ls, _, _, _, max n d, c + 1, by rw [max_int n d]; rfl, hT4, hl4, hS4, by omega, by omega, by omega, fun q h => hok q (List.mem_append_left _ h), fun q h => hdp q (List.mem_append_left _ h)⟩
      | two b k1 k2 =>
        have p1 := k1.leaves_pos
        have p2 := k2.leaves_pos
        change max n (max (far ls) (max (d + (max k1.deep k2.deep + 1)) 0)) = _ at hn
        change m + (ls.length + 1) = 2 * (sq ls + (k1.leaves + k2.leaves + 0)) at hm
        change c + (sq ls + (k1.leaves + k2.leaves + 0)) = _ at hq
        change max k1.deep k2.deep + 1 ≤ 50 at dp1
        obtain ⟨a, x1, x2, rfl, ha, hk1, hk2⟩ := hkx
        refine ⟨_, rfl, a, _, rfl, .inr (SqT.of ha), rfl, _, rfl, ?_⟩
        refine ite2 (fun _ => ?_) (fun z => absurd (by show decide (V.int ((3 : Nat) : Int) = V.int 3) = true; decide +kernel) z)
        refine ⟨_, rfl, .inl ⟨rfl, _, .inl (.inl hT4)⟩, _, rfl, a, _, _, _, rfl, rfl, SqT.of ha, atI_nat (j := 1) rfl, _, rfl, _, _, rfl, rfl, by show 2 ≤ sizeLine; decide, fun ta hta => ?_⟩
        have s5 : Same H4 (upd H4 ta (.tup [x1, .int ((d : Int) + 1)])) := same_new hta
        have q1 : ItAt (upd H4 ta (.tup [x1, .int ((d : Int) + 1)])) (k1, d + 1) (.ref ta) := ⟨ta, x1, rfl, upd_same, KdAt.mono (tups_of s5) _ _ hk1⟩
        generalize upd H4 ta (.tup [x1, .int ((d : Int) + 1)]) = H5 at *
        refine ⟨_, rfl, a, _, _, _, rfl, rfl, SqT.of (s5 _ _ ha), atI_nat (j := 2) rfl, _, rfl, _, _, rfl, rfl, by show 2 ≤ sizeLine; decide, fun tb htb => ?_⟩
        have s6 : Same H5 (upd H5 tb (.tup [x2, .int ((d : Int) + 1)])) := same_new htb
        have q2 : ItAt (upd H5 tb (.tup [x2, .int ((d : Int) + 1)])) (k2, d + 1) (.ref tb) := ⟨tb, x2, rfl, upd_same, KdAt.mono (Tups.trans (tups_of s5) (tups_of s6)) _ _ hk2⟩
        generalize upd H5 tb (.tup [x2, .int ((d : Int) + 1)]) = H6 at *
        refine ⟨by show 2 ≤ sizeLine; decide, fun lb hlb => ?_⟩
        have s7 : Same H6 (upd H6 lb (.lst [.ref ta, .ref tb])) := same_new hlb
        have hT7 := s7 _ _ (s6 _ _ (s5 _ _ hT4))
        refine ⟨T, lb, _, _, rfl, rfl, hT7, upd_same, by show _ + 2 ≤ sizeLine; exact small40 (by omega), ?_⟩
        have s47 : Same H4 (upd H6 lb (.lst [.ref ta, .ref tb])) := Same.trans s5 (Same.trans s6 s7)
        have t78 := tups_lst (ys := vs.dropLast ++ [.ref ta, .ref tb]) hT7
        refine ⟨m - 1, by omega, ls ++ [(k1, d + 1), (k2, d + 1)], _, _, _, n, c, rfl, upd_same, ?_, same_over (Same.trans hS4 s47) hT, ?_, ?_, ?_, ?_, ?_⟩
        · refine (hl4.mono (ItAt.mono (Tups.trans (tups_of s47) t78))).app ⟨?_, ?_, trivial⟩
          · exact ItAt.mono (Tups.trans (tups_of (Same.trans s6 s7)) t78) _ _ q1
          · exact ItAt.mono (Tups.trans (tups_of s7) t78) _ _ q2
        · rw [far_app]
          show max n (max (far ls) (max (d + 1 + k1.deep) (max (d + 1 + k2.deep) 0))) = _
          omega
        · rw [sq_app, List.length_append]
          show m - 1 + (ls.length + 2) = 2 * (sq ls + (k1.leaves + (k2.leaves + 0)))
          omega
        · rw [sq_app]
          show c + (sq ls + (k1.leaves + (k2.leaves + 0))) = _
          omega
        · intro q h
          rcases List.mem_append.mp h with h | h
          · exact hok q (List.mem_append_left _ h)
          · simp only [List.mem_cons, List.not_mem_nil, or_false] at h
            rcases h with rfl | rfl
            · exact ok1.1
            · exact ok1.2
        · intro q h
          rcases List.mem_append.mp h with h | h
          · exact hdp q (List.mem_append_left _ h)
          · simp only [List.mem_cons, List.not_mem_nil, or_false] at h
            rcases h with rfl | rfl
            · show k1.deep ≤ 50
              omega
            · show k2.deep ≤ 50
              omega
end
abbrev sLaw : Stmt := top 9
def spLaw (K : PySem.W.Frag) : Sp := fun vs H Q _ => ∃ (a : Addr) (ns : List Int), vs = [.ref a] ∧ SqL K H a (ns.map V.int) ∧ ns.length ≤ 63 ∧ ∀ H', Q (.bl true) H'
theorem ints_dp {K : PySem.W.Frag} {H : Hp} {R : Addr} {a b : Int} (h : H R = some (.lst [.int a, .int b])) : Dp K H (.ref R) (.list [.int a, .int b]) := .lst (SqL.of h) (.cons (.int _) (.cons (.int _) .nil))
theorem two_shaped (a b : Int) : SeqAt.shaped (.list [.int a, .int b]) = true := by
  unfold SeqAt.shaped
  simp only [PyData.canLay0, PyData.canLayAll0, PyData.depth, PyData.depthAll]
  rfl
theorem isi_at {X : Cx} {K : PySem.W.Frag} (e : X.K = K) : CallR X (.builtin "isinstance") (rIsi K) := by
  rw [← e]
  exact call_isi
theorem boot_isi : bootBuiltins "isinstance" = some (.builtin "isinstance") := by decide +kernel
theorem boot_intT : bootBuiltins "int" = some (.type "int") := by decide +kernel
theorem boot_boolT : bootBuiltins "bool" = some (.type "bool") := by decide +kernel
theorem two_eqv (a b : Int) : PyData.eqv (.list [.int a, .int b]) (.list [.int a, .int b]) = true := by
  simp only [PyData.eqv, PyData.eqvAll, beq_self_eq_true]
  rfl
section
variable {P : Program} {w : World} {K : PySem.W.Frag} {mg : Str → Option Value} {base : Heap}
theorem scLaw : FnScope ["_law_script", "_law_k", "_law_pool_here", "_law_kind_here", "_law_found", "_law_one"] ["_law_script"] (defScope sLaw) := ⟨rfl, rfl, rfl, by decide +kernel, rfl, by decide +kernel, by decide +kernel⟩
theorem ok_law {f fP fT fK fL fD fW fI : Addr} {fd fdP fdT fdK fdL fdD fdW fdI : FuncData} (F : Fun K "law" "law" sLaw f fd)
    (FP : Fun K "_law_pool" "_law_pool" sPool fP fdP) (bP : Binds K fdP ["_law_script", "_law_k"] []) (gP : mg "_law_pool" = some (.ref fP))
    (FT : Fun K "_law_take" "_law_take" sTake fT fdT) (bT : Binds K fdT ["_law_pool_here", "_law_many"] []) (gT : mg "_law_take" = some (.ref fT))
    (FK : Fun K "_law_kind" "_law_kind" sKind fK fdK) (bK : Binds K fdK ["_law_pool_here", "_law_leaves", "_law_marks"] []) (gK : mg "_law_kind" = some (.ref fK))
    (FL : Fun K "leaves_of" "leaves_of" sLeaves fL fdL) (bL : Binds K fdL ["kind"] []) (gL : mg "leaves_of" = some (.ref fL))
    (FD : Fun K "depth_of" "depth_of" sDepth fD fdD) (bD : Binds K fdD ["kind"] []) (gD : mg "depth_of" = some (.ref fD))
    (FW : Fun K "_law_walked" "_law_walked" sWalked fW fdW) (bW : Binds K fdW ["_law_kind_here"] []) (gW : mg "_law_walked" = some (.ref fW))
    (FI : Fun K "kinds_in" "kinds_in" sKin fI fdI) (bI : Binds K fdI ["kind"] []) (gI : mg "kinds_in" = some (.ref fI))
    (mLen : mg "len" = none) (mMax : mg "max" = none) (mMin : mg "min" = none) (mRange : mg "range" = none) (mList : mg "list" = none) (mIs : mg "isinstance" = none) (mInt : mg "int" = none) (mBool : mg "bool" = none) :
    FnOk P w K mg base CX0 15 f fd ["_law_script"] (spLaw K) := by
  have GP : FnOk P w K mg base CX0 1 fP fdP ["_law_script", "_law_k"] (spPool K) := ok_pool FP mLen
  have GT : FnOk P w K mg base CX0 1 fT fdT ["_law_pool_here", "_law_many"] spTake := ok_take FT
  have GK : FnOk P w K mg base CX0 14 fK fdK ["_law_pool_here", "_law_leaves", "_law_marks"] (spKind 12) := ok_kind FK bK gK FT bT gT mLen 12
  have GL : FnOk P w K mg base CX0 2 fL fdL ["kind"] spLeaves := ok_leaves FL FI bI gI mList
  have GD : FnOk P w K mg base CX0 2 fD fdD ["kind"] spDepth := ok_depth FD FI bI gI mList mMax
  have GW : FnOk P w K mg base CX0 1 fW fdW ["_law_kind_here"] spWalked := ok_walked FW mLen mMax
  refine F.ok scLaw (fun vs H Q E h => ?_) (fun cdv A outer s H vs Q E hr h => ?_)
  · obtain ⟨a, ns, rfl, _⟩ := h
    rfl
  · obtain ⟨a, ns, rfl, hS, hl, k⟩ := h
    have hr1 : Room 1 _ := hr.mono (by omega)
    have hr2 : Room 2 _ := hr.mono (by omega)
    refine ⟨_, pss_cons (ps_for PassesOwn.never rfl (pi_range1 (by rfl) mRange (pa_cons (pe_callB (call_max2 (by rfl)) (by rfl) mMax (by decide +kernel) (pa_cons pe_int (pa_cons (pe_callB (call_min2 (by rfl)) (by rfl) mMin (by decide +kernel) (pa_cons (pe_callB call_len_seq (by rfl) mLen PySem.boot_len (pa_cons (pv 0) pa_nil)) (pa_cons pe_int pa_nil))) pa_nil))) pa_nil)) (pg_name (i := 1) scLaw.nd rfl (Or.inl rfl))
        (pss_cons (ps_set (i := 2) scLaw.nd rfl (Or.inl rfl) (pe_call GP hr1 (by rfl) gP FP.kp bP .nil pass0 (pa_cons (pv 0) (pa_cons (pv 1) pa_nil))))
        (pss_cons (ps_set (i := 3) scLaw.nd rfl (Or.inl rfl) (pe_call GK hr (by rfl) gK FK.kp bK .nil pass0 (pa_cons (pv 2) (pa_cons (pe_op op_add pe_int (pe_call GT hr1 (by rfl) gT FT.kp bT .nil pass0 (pa_cons (pv 2) (pa_cons pe_int pa_nil)))) (pa_cons (pe_lst (pa_cons pe_str (pa_cons pe_str (pa_cons pe_str (pa_cons pe_str (pa_cons pe_str (pa_cons pe_str pa_nil))))))) pa_nil)))))
        (pss_cons (ps_set (i := 4) scLaw.nd rfl (Or.inl rfl) (pe_lst (pa_cons (pe_call GL hr2 (by rfl) gL FL.kp bL .nil pass0 (pa_cons (pv 3) pa_nil)) (pa_cons (pe_call GD hr2 (by rfl) gD FD.kp bD .nil pass0 (pa_cons (pv 3) pa_nil)) pa_nil))))
        (pss_cons (ps_if (pt_cmpR (op_neD hr.units) (pe_lc (own := [("_law_one", 5)]) (g := gName 5) (by rfl) scLaw.nd (pi_list (pv 4)) (blkOk_by (N := ["_law_script", "_law_k", "_law_pool_here", "_law_kind_here", "_law_found", "_law_one"]) (sc := defScope sLaw) (by decide +kernel)) (fun _ _ _ _ _ => pg_name (i := 5) scLaw.nd rfl (Or.inl rfl))
            (fun _ _ _ _ _ => pts_one (PW.pt (pw_or (pt_not (pt_val (pe_callB (isi_at (K := K) rfl) (by rfl) mIs boot_isi (pa_cons (pv 5) (pa_cons (pe_bltn (v := .ty "int") (by rfl) mInt boot_intT rfl) pa_nil))))) (pw_or1 (pt_val (pe_callB (isi_at (K := K) rfl) (by rfl) mIs boot_isi (pa_cons (pv 5) (pa_cons (pe_bltn (v := .ty "bool") (by rfl) mBool boot_boolT rfl) pa_nil))))))))
            (fun _ _ _ _ _ => pv 5)) (pe_lst pa_nil) (nomark _)) (pss_one (ps_ret pe_bl)) pss_nil)
        (pss_cons (ps_if (pt_cmpR (op_neD hr.units) (pv 4) (pe_call GW hr1 (by rfl) gW FW.kp bW .nil pass0 (pa_cons (pv 3) pa_nil)) (nomark _)) (pss_one (ps_ret pe_bl)) pss_nil)
        (pss_one (ps_if (pt_cmpR op_eq (pe_callB call_len_seq (by rfl) mLen PySem.boot_len (pa_cons (pv 3) pa_nil)) pe_int (nomark _))
          (pss_cons (ps_if (pt_cmpR op_ne (pe_op op_add (pe_call GL hr2 (by rfl) gL FL.kp bL .nil pass0 (pa_cons (pe_ix ix_tup (pv 3) pe_int (fun _ _ => rfl)) pa_nil)) (pe_call GL hr2 (by rfl) gL FL.kp bL .nil pass0 (pa_cons (pe_ix ix_tup (pv 3) pe_int (fun _ _ => rfl)) pa_nil))) (pe_ix ix_list (pv 4) pe_int (fun _ _ => rfl)) (nomark _)) (pss_one (ps_ret pe_bl)) pss_nil)
          (pss_one (ps_if (pt_cmpR op_ne (pe_op op_add pe_int (pe_callB (call_max2 (by rfl)) (by rfl) mMax (by decide +kernel) (pa_cons (pe_call GD hr2 (by rfl) gD FD.kp bD .nil pass0 (pa_cons (pe_ix ix_tup (pv 3) pe_int (fun _ _ => rfl)) pa_nil)) (pa_cons (pe_call GD hr2 (by rfl) gD FD.kp bD .nil pass0 (pa_cons (pe_ix ix_tup (pv 3) pe_int (fun _ _ => rfl)) pa_nil)) pa_nil)))) (pe_ix ix_list (pv 4) pe_int (fun _ _ => rfl)) (nomark _)) (pss_one (ps_ret pe_bl)) pss_nil))) pss_nil))))))))
      (pss_one (ps_ret pe_bl)), ?_⟩
    refine ⟨_, rfl, a, _, rfl, .inl hS, _, _, rfl, _, _, rfl, ?_⟩
    rw [List.length_map]
    obtain ⟨j, hj, hj1, hj2⟩ : ∃ j : Int, (if (if (20 : Int) < (ns.length : Int) then 20 else (ns.length : Int)) > 1 then (if (20 : Int) < (ns.length : Int) then 20 else (ns.length : Int)) else 1) = j ∧ 1 ≤ j ∧ j ≤ 20 := ⟨_, rfl, by split <;> (try split) <;> omega, by split <;> (try split) <;> omega⟩
    rw [hj]
    refine ⟨j, rfl, by omega, by omega, for_range (lo := 0) (n := j.toNat) (fun i σ H2 => ∃ (i1 i2 i3 i4 i5 : Option V), σ = [some (.ref a), i1, i2, i3, i4, i5] ∧ Same H H2) ⟨none, none, none, none, none, rfl, Same.refl _⟩ ?_ ?_⟩
    · rintro i σ H2 hi ⟨i1, i2, i3, i4, i5, rfl, hS2⟩
      refine ⟨_, rfl, _, rfl, a, ns, i, by rw [Int.zero_add]; rfl, hS2.seq hS, hl, by omega, fun p H3 hp0 hp e3 => ?_⟩
      have s3 : Same H2 H3 := fun b o e => (e3 b (ne_of_none e hp0)).trans e
      refine ⟨_, rfl, _, rfl, p, 12, rfl, hp, by decide, by decide, fun r H4 r0 r1 hp4 e4 => ?_⟩
      obtain ⟨rn, rfl⟩ : ∃ rn : Nat, r = rn := ⟨r.toNat, by omega⟩
      refine ⟨_, _, rfl, rfl, by show 6 ≤ sizeLine; decide, fun M hM => ?_⟩
      refine ⟨p, M, 1 + rn, ["a", "one", "to", "both", "mark", "zq"], rfl, hp4.upd hM, by omega, by omega, by omega, upd_same, by decide, by decide, by decide +kernel, fun v kd H5 hk hkl hko hp5 k5 => ?_⟩
      have hpn : H p = none := hS2.free hp0
      have s5 : Same H H5 := fun b o e => by
        have n : b ≠ p := ne_of_none e hpn
        have q4 : H4 b = some o := (e4 b n).trans (s3 b o (hS2 b o e))
        exact k5 b o n (same_new hM b o q4)
      refine ⟨_, rfl, v, kd, rfl, hk, by omega, fun H6 s6 => ?_⟩
      have hk6 := KdAt.mono (tups_of s6) _ _ hk
      refine ⟨_, rfl, v, kd, rfl, hk6, by omega, fun H7 s7 => ?_⟩
      have hk7 := KdAt.mono (tups_of s7) _ _ hk6
      have s07 : Same H H7 := Same.trans s5 (Same.trans s6 s7)
      refine ⟨by show 2 ≤ sizeLine; decide, fun fo hfo => ?_⟩
      have s8 : Same H7 (upd H7 fo (.lst [.int (kd.leaves : Int), .int (kd.deep : Int)])) := same_new hfo
      have f8 : (upd H7 fo (.lst [.int (kd.leaves : Int), .int (kd.deep : Int)])) fo = some (.lst [.int (kd.leaves : Int), .int (kd.deep : Int)]) := upd_same
      have hk8 := KdAt.mono (tups_of s8) _ _ hk7
      have s08 := Same.trans s07 s8
      generalize upd H7 fo (.lst [.int (kd.leaves : Int), .int (kd.deep : Int)]) = H8 at *
      refine ⟨_, rfl, fo, rfl, ⟨_, SqL.of f8⟩, fun D hD => lc_list (K := K) (a := fo) (xs := [.int (kd.leaves : Int), .int (kd.deep : Int)]) (fun i H' => H' D = some (.lst []) ∧ Same H8 H') ⟨upd_same, same_new hD⟩ (fun i H' _ q => SqL.of (q.2 _ _ f8)) ?_ ?_⟩
      · rintro i x H' hx ⟨q1, q2⟩
        obtain ⟨z, rfl⟩ : ∃ z, x = V.int z := by
          match i, hx with
          | 0, hx => exact ⟨_, (Option.some.inj hx).symm⟩
          | 1, hx => exact ⟨_, (Option.some.inj hx).symm⟩
        refine ⟨rfl, ?_⟩
        refine ⟨_, rfl, _, _, _, _, true, rfl, .ty "int", .base (.int z), kit_ty (by decide +kernel), true, rfl, ?_⟩
        refine iteF ?_
        refine ⟨_, rfl, _, _, _, _, false, rfl, .ty "bool", .base (.int z), kit_ty (by decide +kernel), false, rfl, ?_⟩
        exact iteF ⟨q1, q2⟩
      · rintro H9 ⟨q1, q2⟩
        refine ⟨by show 0 ≤ sizeLine; decide, fun l hl => ?_⟩
        have s10 := same_new (o := .lst []) hl
        refine ⟨.list [], .list [], .lst (SqL.of (s10 _ _ q1)) .nil, .lst (SqL.of upd_same) .nil, by decide +kernel, by decide +kernel, _, rfl, ?_⟩
        rw [eqv_nil]
        refine iteF ?_
        have s810 : Same H8 (upd H9 l (.lst [])) := Same.trans q2 s10
        generalize upd H9 l (.lst []) = H10 at *
        refine ⟨_, rfl, _, rfl, v, kd, rfl, KdAt.mono (tups_of s810) _ _ hk8, by omega, hko, fun R H11 hR s11' hRn => ?_⟩
        have f11 := s11' _ _ (s810 _ _ f8)
        refine ⟨_, _, ints_dp f11, ints_dp hR, two_shaped _ _, two_shaped _ _, _, rfl, ?_⟩
        rw [two_eqv]
        refine iteF ?_
        have hk11 := KdAt.mono (tups_of (Same.trans s810 s11')) _ _ hk8
        have s11 : Same H H11 := Same.trans s08 (Same.trans s810 s11')
        cases kd with
        | one =>
          obtain ⟨ka, rfl, ha⟩ := hk11
          refine ⟨_, rfl, ka, _, rfl, .inr (SqT.of ha), rfl, _, rfl, ?_⟩
          exact ite2 (fun z => by cases z) (fun _ => ⟨_, _, _, _, _, rfl, s11⟩)
        | mark mm =>
          obtain ⟨ka, rfl, ha⟩ := hk11
          refine ⟨_, rfl, ka, _, rfl, .inr (SqT.of ha), rfl, _, rfl, ?_⟩
          exact ite2 (fun z => by cases z) (fun _ => ⟨_, _, _, _, _, rfl, s11⟩)
        | two b k1 k2 =>
          obtain ⟨ka, x1, x2, rfl, ha, h1, h2⟩ := hk11
          have p1 := k1.leaves_pos
          have p2 := k2.leaves_pos
          change k1.leaves + k2.leaves = _ at hkl
          refine ⟨_, rfl, ka, _, rfl, .inr (SqT.of ha), rfl, _, rfl, ?_⟩
          refine ite2 (fun _ => ?_) (fun z => absurd (by show decide (V.int ((3 : Nat) : Int) = V.int 3) = true; decide +kernel) z)
          refine ⟨_, rfl, ka, _, _, _, rfl, rfl, SqT.of ha, atI_nat (j := 1) rfl, x1, k1, rfl, h1, by omega, fun H12 s12 => ?_⟩
          refine ⟨_, rfl, ka, _, _, _, rfl, rfl, SqT.of (s12 _ _ ha), atI_nat (j := 2) rfl, x2, k2, rfl, KdAt.mono (tups_of s12) _ _ h2, by omega, fun H13 s13 => ?_⟩
          have s113 := Same.trans s12 s13
          refine ⟨_, _, rfl, rfl, _, rfl, fo, _, _, _, rfl, rfl, SqL.of (s113 _ _ f11), atI_nat (j := 0) rfl, rfl, _, rfl, ?_⟩
          refine iteNS rfl ?_
          refine ⟨_, rfl, ka, _, _, _, rfl, rfl, SqT.of (s113 _ _ ha), atI_nat (j := 1) rfl, x1, k1, rfl, KdAt.mono (tups_of s113) _ _ h1, by omega, fun H14 s14 => ?_⟩
          have s114 := Same.trans s113 s14
          refine ⟨_, rfl, ka, _, _, _, rfl, rfl, SqT.of (s114 _ _ ha), atI_nat (j := 2) rfl, x2, k2, rfl, KdAt.mono (tups_of s114) _ _ h2, by omega, fun H15 s15 => ?_⟩
          have s115 := Same.trans s114 s15
          refine ⟨_, _, rfl, _, _, rfl, rfl, _, rfl, fo, _, _, _, rfl, rfl, SqL.of (s115 _ _ f11), atI_nat (j := 1) rfl, rfl, _, rfl, ?_⟩
          rw [max_int]
          refine iteNS ?_ ?_
          · show V.int (1 + ((max k1.deep k2.deep : Nat) : Int)) = V.int ((max k1.deep k2.deep + 1 : Nat) : Int)
            rw [Int.add_comm]
            rfl
          · exact ⟨_, _, _, _, _, rfl, Same.trans s11 s115⟩
    · rintro σ H2 ⟨i1, i2, i3, i4, i5, rfl, hS2⟩
      exact k H2
end
/-! the end -/
theorem all_mk {l : PySem.W.OpenLaw} {w : World} {K : PySem.W.Frag} {h : Heap} {mg : Str → Option Value} {fa f0 f1 f2 f3 f4 f5 f6 f7 : Addr} (X : K.In h) (G : h.Ns mainGlobals mg) (hfa : mg "law" = some (.ref fa))
    {od0 an0 od1 an1 od2 an2 od3 an3 od4 an4 od5 an5 od6 an6 od7 an7 : Option Addr}
    {sl0 sl1 sl2 sl3 sl4 sl5 sl6 sl7 : Array (Option Value)} {oc0 kV0 dc0 pm0 cd0 ct0 oc1 kV1 dc1 pm1 cd1 ct1 oc2 kV2 dc2 pm2 cd2 ct2 oc3 kV3 dc3 pm3 cd3 ct3 oc4 kV4 dc4 pm4 cd4 ct4 oc5 kV5 dc5 pm5 cd5 ct5 oc6 kV6 dc6 pm6 cd6 ct6 oc7 kV7 dc7 pm7 cd7 ct7 : Value}
    (a0 : PySem.W.nsIn K mainGlobals "law" = some (some (.ref f0)))
    (l0 : K.lookup f0 = some ⟨oc0, od0, .func (PySem.W.fnOf "law" "law" (defArgs sLaw) (defBody sLaw) (defScope sLaw) .none kV0 dc0 pm0 an0 cd0 ct0), sl0⟩)
    (c0 : PySem.W.codeIn K cd0 "law" = true) (k0 : PySem.W.keepIn K (.ref f0) = true)
    (a1 : PySem.W.nsIn K mainGlobals "_law_pool" = some (some (.ref f1)))
    (l1 : K.lookup f1 = some ⟨oc1, od1, .func (PySem.W.fnOf "_law_pool" "_law_pool" (defArgs sPool) (defBody sPool) (defScope sPool) .none kV1 dc1 pm1 an1 cd1 ct1), sl1⟩)
    (c1 : PySem.W.codeIn K cd1 "_law_pool" = true) (k1 : PySem.W.keepIn K (.ref f1) = true)
    (a2 : PySem.W.nsIn K mainGlobals "_law_take" = some (some (.ref f2)))
    (l2 : K.lookup f2 = some ⟨oc2, od2, .func (PySem.W.fnOf "_law_take" "_law_take" (defArgs sTake) (defBody sTake) (defScope sTake) .none kV2 dc2 pm2 an2 cd2 ct2), sl2⟩)
    (c2 : PySem.W.codeIn K cd2 "_law_take" = true) (k2 : PySem.W.keepIn K (.ref f2) = true)
    (a3 : PySem.W.nsIn K mainGlobals "_law_kind" = some (some (.ref f3)))
    (l3 : K.lookup f3 = some ⟨oc3, od3, .func (PySem.W.fnOf "_law_kind" "_law_kind" (defArgs sKind) (defBody sKind) (defScope sKind) .none kV3 dc3 pm3 an3 cd3 ct3), sl3⟩)
    (c3 : PySem.W.codeIn K cd3 "_law_kind" = true) (k3 : PySem.W.keepIn K (.ref f3) = true)
    (a4 : PySem.W.nsIn K mainGlobals "leaves_of" = some (some (.ref f4)))
    (l4 : K.lookup f4 = some ⟨oc4, od4, .func (PySem.W.fnOf "leaves_of" "leaves_of" (defArgs sLeaves) (defBody sLeaves) (defScope sLeaves) .none kV4 dc4 pm4 an4 cd4 ct4), sl4⟩)
    (c4 : PySem.W.codeIn K cd4 "leaves_of" = true) (k4 : PySem.W.keepIn K (.ref f4) = true)
    (a5 : PySem.W.nsIn K mainGlobals "depth_of" = some (some (.ref f5)))
    (l5 : K.lookup f5 = some ⟨oc5, od5, .func (PySem.W.fnOf "depth_of" "depth_of" (defArgs sDepth) (defBody sDepth) (defScope sDepth) .none kV5 dc5 pm5 an5 cd5 ct5), sl5⟩)
    (c5 : PySem.W.codeIn K cd5 "depth_of" = true) (k5 : PySem.W.keepIn K (.ref f5) = true)
    (a6 : PySem.W.nsIn K mainGlobals "_law_walked" = some (some (.ref f6)))
    (l6 : K.lookup f6 = some ⟨oc6, od6, .func (PySem.W.fnOf "_law_walked" "_law_walked" (defArgs sWalked) (defBody sWalked) (defScope sWalked) .none kV6 dc6 pm6 an6 cd6 ct6), sl6⟩)
    (c6 : PySem.W.codeIn K cd6 "_law_walked" = true) (k6 : PySem.W.keepIn K (.ref f6) = true)
    (a7 : PySem.W.nsIn K mainGlobals "kinds_in" = some (some (.ref f7)))
    (l7 : K.lookup f7 = some ⟨oc7, od7, .func (PySem.W.fnOf "kinds_in" "kinds_in" (defArgs sKin) (defBody sKin) (defScope sKin) .none kV7 dc7 pm7 an7 cd7 ct7), sl7⟩)
    (c7 : PySem.W.codeIn K cd7 "kinds_in" = true) (k7 : PySem.W.keepIn K (.ref f7) = true)
    (z0 : PySem.W.nsIn K mainGlobals "len" = some none)
    (z1 : PySem.W.nsIn K mainGlobals "max" = some none)
    (z2 : PySem.W.nsIn K mainGlobals "min" = some none)
    (z3 : PySem.W.nsIn K mainGlobals "range" = some none)
    (z4 : PySem.W.nsIn K mainGlobals "list" = some none)
    (z5 : PySem.W.nsIn K mainGlobals "isinstance" = some none)
    (z6 : PySem.W.nsIn K mainGlobals "int" = some none)
    (z7 : PySem.W.nsIn K mainGlobals "bool" = some none) :
    ∃ fd : FuncData, (∀ (s : Shared) (v : Value), BindsTo s fd ⟨[v], []⟩ [("_law_script", v)]) ∧ ∀ base : Heap, K.In base → base.Ns mainGlobals mg → FnOk l.prog w K mg base CX0 15 fa fd ["_law_script"] (spLaw K) := by
  have e := hfa.symm.trans (PySem.W.mg_of X G a0)
  cases e
  have F0 := fun_mk (st := sLaw) l0 c0 k0
  have F1 := fun_mk (st := sPool) l1 c1 k1
  have b1 := F1.binds (ps := ["_law_script", "_law_k"]) fun _ _ _ _ _ _ us hl => match us, hl with | [_, _], _ => rfl
  have g1 := PySem.W.mg_of X G a1
  have F2 := fun_mk (st := sTake) l2 c2 k2
  have b2 := F2.binds (ps := ["_law_pool_here", "_law_many"]) fun _ _ _ _ _ _ us hl => match us, hl with | [_, _], _ => rfl
  have g2 := PySem.W.mg_of X G a2
  have F3 := fun_mk (st := sKind) l3 c3 k3
  have b3 := F3.binds (ps := ["_law_pool_here", "_law_leaves", "_law_marks"]) fun _ _ _ _ _ _ us hl => match us, hl with | [_, _, _], _ => rfl
  have g3 := PySem.W.mg_of X G a3
  have F4 := fun_mk (st := sLeaves) l4 c4 k4
  have b4 := F4.binds (ps := ["kind"]) fun _ _ _ _ _ _ us hl => match us, hl with | [_], _ => rfl
  have g4 := PySem.W.mg_of X G a4
  have F5 := fun_mk (st := sDepth) l5 c5 k5
  have b5 := F5.binds (ps := ["kind"]) fun _ _ _ _ _ _ us hl => match us, hl with | [_], _ => rfl
  have g5 := PySem.W.mg_of X G a5
  have F6 := fun_mk (st := sWalked) l6 c6 k6
  have b6 := F6.binds (ps := ["_law_kind_here"]) fun _ _ _ _ _ _ us hl => match us, hl with | [_], _ => rfl
  have g6 := PySem.W.mg_of X G a6
  have F7 := fun_mk (st := sKin) l7 c7 k7
  have b7 := F7.binds (ps := ["kind"]) fun _ _ _ _ _ _ us hl => match us, hl with | [_], _ => rfl
  have g7 := PySem.W.mg_of X G a7
  have m0 := PySem.W.mg_none_of X G z0
  have m1 := PySem.W.mg_none_of X G z1
  have m2 := PySem.W.mg_none_of X G z2
  have m3 := PySem.W.mg_none_of X G z3
  have m4 := PySem.W.mg_none_of X G z4
  have m5 := PySem.W.mg_none_of X G z5
  have m6 := PySem.W.mg_none_of X G z6
  have m7 := PySem.W.mg_none_of X G z7
  exact ⟨PySem.W.fnOf "law" "law" (defArgs sLaw) (defBody sLaw) (defScope sLaw) .none kV0 dc0 pm0 an0 cd0 ct0, fun s v => .of_eq rfl, fun base _ _ => ok_law F0 F1 b1 g1 F2 b2 g2 F3 b3 g3 F4 b4 g4 F5 b5 g5 F6 b6 g6 F7 b7 g7 m0 m1 m2 m3 m4 m5 m6 m7⟩
theorem walk {l : PySem.W.OpenLaw} {q : Program} {loose : List Str} {XP : (Str → Option Value) → Heap → Prop} {YP : World → Heap → Prop} {d : DefRec} {K : Params → PySem.W.Frag} (hn : l.most = some 63) (hdf : d.params.defaults = [])
    (hY : ∀ (w : World) (h : Heap), YP w h → (K w.params).In h)
    (F : ∀ (w : World) (mg : Str → Option Value) (fa : Addr) (h : Heap), (K w.params).In h → h.Ns mainGlobals mg → mg d.name = some (.ref fa) →
      ∃ fd : FuncData, (∀ (s : Shared) (u : Value), BindsTo s fd ⟨[u], []⟩ [("_law_script", u)]) ∧ ∀ base : Heap, (K w.params).In base → base.Ns mainGlobals mg → FnOk l.prog w (K w.params) mg base CX0 15 fa fd ["_law_script"] (spLaw (K w.params))) :
    PySem.W.WalkO q loose XP YP l.row.toRowW d [] (fun f vs => PySem.call f vs) :=
  L2.walk_of (n := 63) (k := 15) (x := "_law_script") (CX := fun _ => CX0) (sp := fun w => spLaw (K w.params)) hn (by decide) hdf ⟨rfl, by decide, by decide⟩ hY F (fun _ _ a ns hl _ hS => ⟨a, ns, rfl, hS, hl, fun _ => rfl⟩) fun _ _ _ _ _ z => z
end Kf
open PySem PySem.W PyProof.Rows
set_option maxRecDepth 100000 in
set_option maxHeartbeats 0 in
theorem PySem.Challenge.cw_kindfill_k03_leaves_and_depth_holds : PySem.Challenge.rw_kindfill_k03_leaves_and_depth.Holds := by
  w_on; o_law; k_head; (case hw => w_witness2)
  k_fill
  refine Kf.walk (l := PySem.Challenge.rw_kindfill_k03_leaves_and_depth) rfl rfl (fun w h Y => PySem.W.kIn_of Y) ?F
  case F =>
    intro w mg fa h KX G hmg
    refine' Kf.all_mk KX G hmg ?a0 ?l0 ?c0 ?k0 ?a1 ?l1 ?c1 ?k1 ?a2 ?l2 ?c2 ?k2 ?a3 ?l3 ?c3 ?k3 ?a4 ?l4 ?c4 ?k4 ?a5 ?l5 ?c5 ?k5 ?a6 ?l6 ?c6 ?k6 ?a7 ?l7 ?c7 ?k7 ?z0 ?z1 ?z2 ?z3 ?z4 ?z5 ?z6 ?z7
    (case a0 => k_is)
    (case l0 => k_is)
    (case c0 => k_is)
    (case k0 => k_is)
    (case a1 => k_is)
    (case l1 => k_is)
    (case c1 => k_is)
    (case k1 => k_is)
    (case a2 => k_is)
    (case l2 => k_is)
    (case c2 => k_is)
    (case k2 => k_is)
    (case a3 => k_is)
    (case l3 => k_is)
    (case c3 => k_is)
    (case k3 => k_is)
    (case a4 => k_is)
    (case l4 => k_is)
    (case c4 => k_is)
    (case k4 => k_is)
    (case a5 => k_is)
    (case l5 => k_is)
    (case c5 => k_is)
    (case k5 => k_is)
    (case a6 => k_is)
    (case l6 => k_is)
    (case c6 => k_is)
    (case k6 => k_is)
    (case a7 => k_is)
    (case l7 => k_is)
    (case c7 => k_is)
    (case k7 => k_is)
    (case z0 => k_is)
    (case z1 => k_is)
    (case z2 => k_is)
    (case z3 => k_is)
    (case z4 => k_is)
    (case z5 => k_is)
    (case z6 => k_is)
    (case z7 => k_is)
