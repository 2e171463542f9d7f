import PyProof.Rows.All
import Wide.All
import OpenK.AllK
import Wide.FinOn
import HandS.ForMost
import HandS.IsInst
import HandS.Flow
import HandS.Zip
import HandS.Walk
import PySem.Challenge.RW_kindfill_k04_ends_and_ways
set_option Elab.async false
set_option maxRecDepth 100000
namespace Kf
open PySem L2
def top (i : Nat) : Stmt := PySem.Challenge.pw_kindfill_k04_ends_and_ways.main.body.getD i (.Pass ⟨0, 0, 0, 0⟩)
abbrev sPool : Stmt := top 4
abbrev sTake : Stmt := top 5
/-- a pool at p: what is left of the cell, and a number -/
def PoolAt (H : Hp) (p : Addr) : Prop := ∃ c n : Int, H p = some (.lst [.int c, .int n]) ∧ 0 ≤ n ∧ n < 2147483647
def spTake : Sp := fun vs H Q _ => ∃ (p : Addr) (m : Int), vs = [.ref p, .int m] ∧ PoolAt H p ∧ 0 < m ∧ m < 1073741824 ∧
  ∀ (r : Int) (H' : Hp), 0 ≤ r → r < m → PoolAt H' p → (∀ b, b ≠ p → H' b = H b) → Q (.int r) H'
def spPool (K : PySem.W.Frag) : Sp := fun vs H Q _ => ∃ (a : Addr) (ns : List Int) (k : Nat), vs = [.ref a, .int (k : Int)] ∧ SqL K H a (ns.map V.int) ∧ ns.length ≤ 63 ∧ k ≤ 63 ∧
  ∀ (p : Addr) (H' : Hp), H p = none → PoolAt H' p → (∀ b, b ≠ p → H' b = H b) → Q (.ref p) H'
theorem nm_nat {x m : Int} (hm : 0 < m) : 0 ≤ x.fmod m ∧ x.fmod m < m := ⟨Int.fmod_nonneg_of_pos x hm, Int.fmod_lt_of_pos x hm⟩
section
variable {P : Program} {w : World} {K : PySem.W.Frag} {mg : Str → Option Value} {base : Heap}
theorem scTake : FnScope ["_law_pool_here", "_law_many", "_law_found"] ["_law_pool_here", "_law_many"] (defScope sTake) := ⟨rfl, rfl, rfl, by decide +kernel, rfl, by decide +kernel, by decide +kernel⟩
theorem ok_take {f : Addr} {fd : FuncData} (F : Fun K "_law_take" "_law_take" sTake f fd) : FnOk P w K mg base CX0 1 f fd ["_law_pool_here", "_law_many"] spTake := by
  refine F.ok scTake (fun vs H Q E h => ?_) (fun cdv A outer s H vs Q E hr h => ?_)
  · obtain ⟨p, m, rfl, _⟩ := h
    rfl
  · obtain ⟨p, m, rfl, ⟨c, n, hp, hn0, hn1⟩, hm0, hm1, k⟩ := h
    refine ⟨_, pss_cons (ps_if (pt_cmpR op_gt (pe_ix ix_list (pv 0) pe_int (fun _ _ => rfl)) pe_int (nomark _))
        (pss_cons (ps_set (i := 2) scTake.nd rfl (Or.inl rfl) (pe_op op_modN (pe_ix ix_list (pv 0) pe_int (fun _ _ => rfl)) (pv 1)))
        (pss_cons (ps_asg (pe_op op_fdivN (pe_ix ix_list (pv 0) pe_int (fun _ _ => rfl)) (pv 1)) (pg_sub (pv 0) pe_int set_list))
        (pss_one (ps_ret (pv 2))))) pss_nil)
      (pss_cons (ps_asg (pe_op op_modN (pe_op op_add (pe_op op_mul (pe_ix ix_list (pv 0) pe_int (fun _ _ => rfl)) pe_int) pe_int) pe_int) (pg_sub (pv 0) pe_int set_list))
      (pss_one (ps_ret (pe_op op_modN (pe_op op_fdivN (pe_op op_modN (pe_op op_mul (pe_ix ix_list (pv 0) pe_int (fun _ _ => rfl)) (pe_ix ix_list (pv 0) pe_int (fun _ _ => rfl))) pe_int) pe_int) (pv 1))))), ?_⟩
    refine ⟨_, rfl, p, _, _, _, rfl, rfl, SqL.of hp, atI_nat (j := 0) rfl, _, _, rfl, rfl, _, rfl, ?_⟩
    have M := nm_nat (x := c) hm0
    refine ite2 (fun _ => ?_) (fun _ => ?_)
    · refine ⟨_, rfl, p, _, _, _, rfl, rfl, SqL.of hp, atI_nat (j := 0) rfl, _, rfl, _, _, rfl, rfl, by omega, ?_⟩
      refine ⟨_, rfl, p, _, _, _, rfl, rfl, SqL.of hp, atI_nat (j := 0) rfl, _, rfl, _, _, rfl, rfl, ⟨by omega, by omega⟩, ?_⟩
      refine ⟨_, rfl, p, _, _, 0, rfl, rfl, hp, rfl, ?_⟩
      refine ⟨_, rfl, ?_⟩
      exact k _ _ M.1 M.2 ⟨_, _, upd_same, hn0, hn1⟩ fun b hb => upd_ne hb
    · have N0 := nm_nat (x := n * 48271 + 11) (m := 2147483647) (by decide)
      refine ⟨_, rfl, p, _, _, _, rfl, rfl, SqL.of hp, atI_nat (j := 1) rfl, _, _, rfl, rfl, .inl ⟨by omega, by omega⟩, _, _, rfl, rfl, _, _, rfl, rfl, (by show (2147483647 : Int) ≠ 0; decide), ?_⟩
      refine ⟨_, rfl, p, _, _, 1, rfl, rfl, hp, rfl, ?_⟩
      have N1 := nm_nat (x := (n * 48271 + 11).fmod 2147483647 * (n * 48271 + 11).fmod 2147483647) (m := 2147483629) (by decide)
      refine ⟨_, rfl, p, _, _, _, rfl, rfl, SqL.of upd_same, atI_nat (j := 1) rfl, _, rfl, p, _, _, _, rfl, rfl, SqL.of upd_same, atI_nat (j := 1) rfl, _, _, rfl, rfl, .inl ⟨by omega, by omega⟩, ?_⟩
      refine ⟨_, _, rfl, rfl, (by show (2147483629 : Int) ≠ 0; decide), _, _, rfl, rfl, ⟨by decide, by decide⟩, _, rfl, _, _, rfl, rfl, by omega, ?_⟩
      exact k _ _ (nm_nat hm0).1 (nm_nat hm0).2 ⟨_, _, upd_same, N0.1, N0.2⟩ fun b hb => upd_ne hb
theorem scPool : FnScope ["_law_script", "_law_k", "_law_cell", "_law_number"] ["_law_script", "_law_k"] (defScope sPool) := ⟨rfl, rfl, rfl, by decide +kernel, rfl, by decide +kernel, by decide +kernel⟩
theorem ok_pool {f : Addr} {fd : FuncData} (F : Fun K "_law_pool" "_law_pool" sPool f fd) (mLen : mg "len" = none) : FnOk P w K mg base CX0 1 f fd ["_law_script", "_law_k"] (spPool K) := by
  refine F.ok scPool (fun vs H Q E h => ?_) (fun cdv A outer s H vs Q E hr h => ?_)
  · obtain ⟨a, ns, j, rfl, _⟩ := h
    rfl
  · obtain ⟨a, ns, j, rfl, hS, hl, hj, k⟩ := h
    refine ⟨_, pss_cons (ps_set (i := 2) scPool.nd rfl (Or.inl rfl) pe_int)
      (pss_cons (ps_if (pt_cmpR op_lt (pv 1) (pe_callB call_len_seq (by rfl) mLen PySem.boot_len (pa_cons (pv 0) pa_nil)) (nomark _))
        (pss_one (ps_set (i := 2) scPool.nd rfl (Or.inl rfl) (pe_ix ix_list (pv 0) (pv 1) (fun _ _ => rfl)))) pss_nil)
      (pss_cons (ps_set (i := 3) scPool.nd rfl (Or.inl rfl) (pe_op op_modN (pe_op op_pow (pe_op op_add (pe_op op_add (pe_op op_modN (pv 2) pe_int) (pe_op op_mul (pe_op op_mul pe_int (pv 1)) (pv 1))) pe_int) pe_int) pe_int))
      (pss_cons (ps_if (pt_cmpR op_lt (pv 2) (pe_op op_pow pe_int pe_int) (nomark _))
        (pss_one (ps_set (i := 2) scPool.nd rfl (Or.inl rfl) pe_int)) pss_nil)
      (pss_one (ps_ret (pe_lst (pa_cons (pv 2) (pa_cons (pv 3) pa_nil)))))))), ?_⟩
    have B : ∀ c : Int, 0 ≤ (c.fmod 2147483629 + 104729 * (j : Int) * (j : Int) + 11) ∧ (c.fmod 2147483629 + 104729 * (j : Int) * (j : Int) + 11) < 2 ^ 33 := fun c => by
      have M := nm_nat (x := c) (m := 2147483629) (by decide)
      have hj2 : (j : Int) * (j : Int) ≤ 63 * 63 := Int.mul_le_mul (by omega) (by omega) (by omega) (by omega)
      have hj0 : 0 ≤ (j : Int) * (j : Int) := Int.mul_nonneg (by omega) (by omega)
      have e : 104729 * (j : Int) * (j : Int) = 104729 * ((j : Int) * (j : Int)) := Int.mul_assoc _ _ _
      omega
    refine ⟨_, rfl, _, rfl, a, _, rfl, .inl hS, _, _, rfl, rfl, _, rfl, ?_⟩
    refine ite2 (fun hlt => ?_) (fun _ => ?_)
    · have hj' : j < ns.length := by simpa using hlt
      refine ⟨_, rfl, _, rfl, a, _, _, _, rfl, rfl, hS, atI_nat (j := j) (v := .int ns[j]) (by simp [hj']), ?_⟩
      generalize ns[j] = c
      have N := nm_nat (x := (c.fmod 2147483629 + 104729 * (j : Int) * (j : Int) + 11) ^ 3) (m := 2147483647) (by decide)
      have Bc := B c
      refine ⟨_, rfl, _, _, rfl, rfl, (by show (2147483629 : Int) ≠ 0; decide), _, rfl, _, _, rfl, rfl, .inl ⟨by decide, by decide⟩, _, rfl, _, _, rfl, rfl, .inl ⟨by omega, by omega⟩, ?_⟩
      refine ⟨_, _, rfl, rfl, _, _, rfl, rfl, _, _, rfl, rfl, ⟨by decide, by decide, by omega⟩, _, _, rfl, rfl, (by show (2147483647 : Int) ≠ 0; decide), ?_⟩
      refine ⟨_, rfl, _, _, rfl, rfl, ⟨by decide, by decide, by decide⟩, _, _, rfl, rfl, _, rfl, ?_⟩
      refine ite2 (fun _ => ?_) (fun _ => ?_)
      · exact ⟨_, rfl, _, rfl, (by show 2 ≤ sizeLine; decide), fun p hp => k _ _ hp ⟨_, _, upd_same, N.1, N.2⟩ fun b hb => upd_ne hb⟩
      · exact ⟨_, rfl, _, rfl, (by show 2 ≤ sizeLine; decide), fun p hp => k _ _ hp ⟨_, _, upd_same, N.1, N.2⟩ fun b hb => upd_ne hb⟩
    · have N := nm_nat (x := ((0 : Int).fmod 2147483629 + 104729 * (j : Int) * (j : Int) + 11) ^ 3) (m := 2147483647) (by decide)
      have Bc := B 0
      refine ⟨_, rfl, _, _, rfl, rfl, (by show (2147483629 : Int) ≠ 0; decide), _, rfl, _, _, rfl, rfl, .inl ⟨by decide, by decide⟩, _, rfl, _, _, rfl, rfl, .inl ⟨by omega, by omega⟩, ?_⟩
      refine ⟨_, _, rfl, rfl, _, _, rfl, rfl, _, _, rfl, rfl, ⟨by decide, by decide, by omega⟩, _, _, rfl, rfl, (by show (2147483647 : Int) ≠ 0; decide), ?_⟩
      refine ⟨_, rfl, _, _, rfl, rfl, ⟨by decide, by decide, by decide⟩, _, _, rfl, rfl, _, rfl, ?_⟩
      refine ite2 (fun _ => ?_) (fun _ => ?_)
      · exact ⟨_, rfl, _, rfl, (by show 2 ≤ sizeLine; decide), fun p hp => k _ _ hp ⟨_, _, upd_same, N.1, N.2⟩ fun b hb => upd_ne hb⟩
      · exact ⟨_, rfl, _, rfl, (by show 2 ≤ sizeLine; decide), fun p hp => k _ _ hp ⟨_, _, upd_same, N.1, N.2⟩ fun b hb => upd_ne hb⟩
end
theorem at_any {α : Type} {xs : List α} {r : Int} (h0 : 0 ≤ r) (h1 : r < xs.length) : ∃ v, atI xs r = some v ∧ v ∈ xs := by
  obtain ⟨n, rfl⟩ : ∃ n : Nat, r = n := ⟨r.toNat, by omega⟩
  have hn : n < xs.length := by omega
  exact ⟨xs[n], atI_nat (by simp [hn]), by simp⟩
theorem PoolAt.upd {H : Hp} {p l : Addr} {o : HO} (h : PoolAt H p) (hl : H l = none) : PoolAt (upd H l o) p := by
  obtain ⟨c, n, e, h0, h1⟩ := h
  exact ⟨c, n, by rw [upd_ne (ne_of_none e hl)]; exact e, h0, h1⟩
theorem PoolAt.ne {H : Hp} {p l : Addr} (h : PoolAt H p) (hl : H l = none) : l ≠ p := by
  obtain ⟨c, n, e, h0, h1⟩ := h
  exact (ne_of_none e hl).symm
theorem kept_upd {H H1 : Hp} {p l : Addr} {o : HO} (k : ∀ b u, b ≠ p → H b = some u → H1 b = some u) (hl : H1 l = none) : ∀ b u, b ≠ p → H b = some u → (upd H1 l o) b = some u := fun b u hb e => by
  rw [upd_ne (ne_of_none (k b u hb e) hl)]
  exact k b u hb e
theorem kept_eq {H H1 H2 : Hp} {p : Addr} (k : ∀ b u, b ≠ p → H b = some u → H1 b = some u) (e2 : ∀ b, b ≠ p → H2 b = H1 b) : ∀ b u, b ≠ p → H b = some u → H2 b = some u := fun b u hb e => (e2 b hb).trans (k b u hb e)
theorem small40 {n : Nat} (h : n ≤ 1000) : n ≤ sizeLine := Nat.le_trans h (by decide)

/-! kinds -/
inductive Kd where
  | one
  | mark (m : Str)
  | two (b : Bool) (k l : Kd)
def word (b : Bool) : Str := if b then "to" else "both"
def KdAt (H : Hp) : Kd → V → Prop
  | .one, v => ∃ a, v = .ref a ∧ H a = some (.tup [.str "one"])
  | .mark m, v => ∃ a, v = .ref a ∧ H a = some (.tup [.str "mark", .str m])
  | .two b k l, v => ∃ a x y, v = .ref a ∧ H a = some (.tup [.str (word b), x, y]) ∧ KdAt H k x ∧ KdAt H l y
/-- tuples that stood stand -/
def Tups (H H' : Hp) : Prop := ∀ b xs, H b = some (.tup xs) → H' b = some (.tup xs)
theorem Tups.trans {H H1 H2 : Hp} (a : Tups H H1) (b : Tups H1 H2) : Tups H H2 := fun c xs e => b c xs (a c xs e)
theorem KdAt.mono {H H' : Hp} (t : Tups H H') : ∀ (k : Kd) (v : V), KdAt H k v → KdAt H' k v
  | .one, _, ⟨a, e, h⟩ => ⟨a, e, t _ _ h⟩
  | .mark _, _, ⟨a, e, h⟩ => ⟨a, e, t _ _ h⟩
  | .two _ k l, _, ⟨a, x, y, e, h, hk, hl⟩ => ⟨a, x, y, e, t _ _ h, KdAt.mono t k x hk, KdAt.mono t l y hl⟩
namespace Kd
def leaves : Kd → Nat
  | one => 1
  | mark _ => 1
  | two _ k l => k.leaves + l.leaves
def deep : Kd → Nat
  | one => 0
  | mark _ => 0
  | two _ k l => max k.deep l.deep + 1
def subs : Kd → List Kd
  | one => []
  | mark _ => []
  | two _ k l => [k, l]
def data : Kd → PyData
  | one => .tuple [.str "one"]
  | mark m => .tuple [.str "mark", .str m]
  | two b k l => .tuple [.str (word b), k.data, l.data]
def Ok : Kd → Prop
  | one => True
  | mark m => PySem.PyData.canLay0 (.str m) = true
  | two _ k l => k.Ok ∧ l.Ok
theorem leaves_pos : ∀ k : Kd, 0 < k.leaves
  | one => Nat.one_pos
  | mark _ => Nat.one_pos
  | two _ k l => Nat.add_pos_left (leaves_pos k) _
theorem deep_lt : ∀ k : Kd, k.deep < k.leaves
  | one => Nat.one_pos
  | mark _ => Nat.one_pos
  | two _ k l => by
    have h1 := deep_lt k
    have h2 := deep_lt l
    show max k.deep l.deep + 1 < k.leaves + l.leaves
    have := leaves_pos k
    have := leaves_pos l
    omega
end Kd
/-- side by side -/
def All2 {α : Type} (R : α → V → Prop) : List α → List V → Prop
  | [], [] => True
  | k :: ks, v :: vs => R k v ∧ All2 R ks vs
  | _, _ => False
section
variable {α : Type} {R S : α → V → Prop}
theorem All2.mono (f : ∀ k v, R k v → S k v) : ∀ {ks : List α} {vs : List V}, All2 R ks vs → All2 S ks vs
  | [], [], _ => trivial
  | _ :: _, _ :: _, ⟨h, t⟩ => ⟨f _ _ h, All2.mono f t⟩
  | [], _ :: _, h => h.elim
  | _ :: _, [], h => h.elim
theorem All2.app : ∀ {ks : List α} {vs : List V} {ls : List α} {us : List V}, All2 R ks vs → All2 R ls us → All2 R (ks ++ ls) (vs ++ us)
  | [], [], _, _, _, g => g
  | _ :: _, _ :: _, _, _, ⟨h, t⟩, g => ⟨h, All2.app t g⟩
  | [], _ :: _, _, _, h, _ => h.elim
  | _ :: _, [], _, _, h, _ => h.elim
theorem All2.len : ∀ {ks : List α} {vs : List V}, All2 R ks vs → ks.length = vs.length
  | [], [], _ => rfl
  | _ :: _, _ :: _, ⟨_, t⟩ => congrArg (· + 1) (All2.len t)
  | [], _ :: _, h => h.elim
  | _ :: _, [], h => h.elim
/-- the last one -/
theorem All2.last : ∀ {ks : List α} {vs : List V}, All2 R ks vs → vs ≠ [] → ∃ ls k v, ks = ls ++ [k] ∧ vs = vs.dropLast ++ [v] ∧ All2 R ls vs.dropLast ∧ R k v ∧ vs[vs.length - 1]? = some v
  | [], [], _, h => absurd rfl h
  | [k], [v], ⟨h, _⟩, _ => ⟨[], k, v, rfl, rfl, trivial, h, rfl⟩
  | k :: k2 :: ks, v :: v2 :: vs, ⟨h, t⟩, _ => by
    obtain ⟨ls, k', v', e1, e2, a, r, q⟩ := All2.last t (by simp)
    refine ⟨k :: ls, k', v', by rw [e1]; rfl, ?_, ⟨h, a⟩, r, ?_⟩
    · show v :: v2 :: vs = v :: ((v2 :: vs).dropLast ++ [v'])
      rw [← e2]
    · exact q
  | [], _ :: _, h, _ => h.elim
  | _ :: _, [], h, _ => h.elim
  | [_], _ :: _ :: _, h, _ => h.2.elim
  | _ :: _ :: _, [_], h, _ => h.2.elim
end
theorem tups_of {H H' : Hp} (s : Same H H') : Tups H H' := fun b _ e => s b _ e
theorem tups_lst {H : Hp} {T : Addr} {xs ys : List V} (h : H T = some (.lst xs)) : Tups H (upd H T (.lst ys)) := fun b zs e => by
  have n : b ≠ T := ne_of e h (by intro z; cases z)
  rw [upd_ne n]
  exact e
theorem same_new {H : Hp} {p : Addr} {o : HO} (h : H p = none) : Same H (upd H p o) := fun b u e => by
  rw [upd_ne (ne_of_none e h)]
  exact e
theorem same_over {H H3 : Hp} {T : Addr} {o : HO} (S : Same H H3) (h : H T = none) : Same H (upd H3 T o) := fun b u e => by
  rw [upd_ne (ne_of_none e h)]
  exact S b u e
theorem All2.get {α : Type} {R : α → V → Prop} : ∀ {ks : List α} {vs : List V} {i : Nat} {v : V}, All2 R ks vs → vs[i]? = some v → ∃ k, ks[i]? = some k ∧ R k v
  | [], [], _, _, _, e => by simp at e
  | k :: _, v :: _, 0, _, ⟨h, _⟩, e => ⟨k, rfl, by simp at e; exact e ▸ h⟩
  | _ :: _, _ :: _, i + 1, _, ⟨_, t⟩, e => All2.get (i := i) t e
  | [], _ :: _, _, _, h, _ => h.elim
  | _ :: _, [], _, _, h, _ => h.elim
abbrev sKind : Stmt := top 6
def Kept (p : Addr) (H H' : Hp) : Prop := ∀ b o, b ≠ p → H b = some o → H' b = some o
theorem Kept.trans {p : Addr} {H H1 H2 : Hp} (a : Kept p H H1) (b : Kept p H1 H2) : Kept p H H2 := fun c o n e => b c o n (a c o n e)
theorem kept_same {p : Addr} {H H1 : Hp} (s : Same H H1) : Kept p H H1 := fun b o _ e => s b o e
theorem kept_take {p : Addr} {H H1 : Hp} (e : ∀ b, b ≠ p → H1 b = H b) : Kept p H H1 := fun b _ n h => (e b n).trans h
theorem tups_kept {p : Addr} {H H1 : Hp} (k : Kept p H H1) (hp : PoolAt H p) : Tups H H1 := fun b _ e => by
  obtain ⟨c, n, z, _⟩ := hp
  exact k b _ (ne_of e z (by intro q; cases q)) e
theorem pool_marks {H : Hp} {p M : Addr} {ms : List Str} (hp : PoolAt H p) (hM : H M = some (.lst (ms.map V.str))) : M ≠ p := fun z => by
  obtain ⟨c, n, e, _⟩ := hp
  rw [z, e] at hM
  cases ms with
  | nil => cases hM
  | cons a r => cases hM
theorem PoolAt.same {H H1 : Hp} {p : Addr} (hp : PoolAt H p) (s : Same H H1) : PoolAt H1 p := by
  obtain ⟨c, n, e, h⟩ := hp
  exact ⟨c, n, s _ _ e, h⟩
def spKind (n : Nat) : Sp := fun vs H Q _ => ∃ (p M : Addr) (L : Nat) (ms : List Str), vs = [.ref p, .int (L : Int), .ref M] ∧ PoolAt H p ∧ 1 ≤ L ∧ L ≤ n ∧ L ≤ 1000 ∧ H M = some (.lst (ms.map V.str)) ∧ 1 ≤ ms.length ∧ ms.length ≤ 1000 ∧
  (∀ m ∈ ms, PySem.PyData.canLay0 (.str m) = true) ∧ ∀ (v : V) (k : Kd) (H' : Hp), KdAt H' k v → k.leaves = L → k.Ok → PoolAt H' p → Kept p H H' → Q v H'
section
variable {P : Program} {w : World} {K : PySem.W.Frag} {mg : Str → Option Value} {base : Heap}
theorem scKind : FnScope ["_law_pool_here", "_law_leaves", "_law_marks", "_law_one", "_law_word"] ["_law_pool_here", "_law_leaves", "_law_marks"] (defScope sKind) := ⟨rfl, rfl, rfl, by decide +kernel, rfl, by decide +kernel, by decide +kernel⟩
theorem ok_kind {f fT : Addr} {fd fdT : FuncData} (F : Fun K "_law_kind" "_law_kind" sKind f fd) (bF : Binds K fd ["_law_pool_here", "_law_leaves", "_law_marks"] []) (gF : mg "_law_kind" = some (.ref f))
    (FT : Fun K "_law_take" "_law_take" sTake fT fdT) (bT : Binds K fdT ["_law_pool_here", "_law_many"] []) (gT : mg "_law_take" = some (.ref fT)) (mLen : mg "len" = none) :
    ∀ n : Nat, FnOk P w K mg base CX0 (n + 2) f fd ["_law_pool_here", "_law_leaves", "_law_marks"] (spKind n) := by
  have GT : FnOk P w K mg base CX0 1 fT fdT ["_law_pool_here", "_law_many"] spTake := ok_take FT
  intro n
  induction n with
  | zero =>
    refine F.ok scKind (fun vs H Q E h => ?_) (fun cdv A outer s H vs Q E hr h => ?_)
    · obtain ⟨p, M, L, ms, rfl, _⟩ := h
      rfl
    · obtain ⟨p, M, L, ms, _, _, h1, h2, _⟩ := h
      omega
  | succ n GK =>
    refine F.ok scKind (fun vs H Q E h => ?_) (fun cdv A outer s H vs Q E hr h => ?_)
    · obtain ⟨p, M, L, ms, rfl, _⟩ := h
      rfl
    · obtain ⟨p, M, L, ms, rfl, hp, l1, l2, l3, hM, m1, m2, hms, k⟩ := h
      have hr1 : Room 1 _ := hr.mono (by omega)
      refine ⟨_, pss_cons (ps_if (pt_cmpR op_eq (pv 1) pe_int (nomark _))
          (pss_cons (ps_if (pt_cmpR op_eq (pe_call GT hr1 (by rfl) gT FT.kp bT .nil pass0 (pa_cons (pv 0) (pa_cons pe_int pa_nil))) pe_int (nomark _)) (pss_one (ps_ret (pe_tup (pa_cons pe_str pa_nil)))) pss_nil)
          (pss_one (ps_ret (pe_tup (pa_cons pe_str (pa_cons (pe_ix ix_list (pv 2) (pe_call GT hr1 (by rfl) gT FT.kp bT .nil pass0 (pa_cons (pv 0) (pa_cons (pe_callB call_len_seq (by rfl) mLen PySem.boot_len (pa_cons (pv 2) pa_nil)) pa_nil))) (fun _ _ => rfl)) pa_nil)))))) pss_nil)
        (pss_cons (ps_set (i := 3) scKind.nd rfl (Or.inl rfl) (pe_op op_add pe_int (pe_call GT hr1 (by rfl) gT FT.kp bT .nil pass0 (pa_cons (pv 0) (pa_cons (pe_op op_sub (pv 1) pe_int) pa_nil)))))
        (pss_cons (ps_set (i := 4) scKind.nd rfl (Or.inl rfl) (pe_ix ix_list (pe_lst (pa_cons pe_str (pa_cons pe_str (pa_cons pe_str pa_nil)))) (pe_call GT hr1 (by rfl) gT FT.kp bT .nil pass0 (pa_cons (pv 0) (pa_cons pe_int pa_nil))) (fun _ _ => rfl)))
        (pss_one (ps_ret (pe_tup (pa_cons (pv 4) (pa_cons (pe_call GK hr (by rfl) gF F.kp bF .nil pass0 (pa_cons (pv 0) (pa_cons (pv 3) (pa_cons (pv 2) pa_nil))))
          (pa_cons (pe_call GK hr (by rfl) gF F.kp bF .nil pass0 (pa_cons (pv 0) (pa_cons (pe_op op_sub (pv 1) (pv 3)) (pa_cons (pv 2) pa_nil)))) pa_nil)))))))), ?_⟩
      refine ⟨_, rfl, rfl, _, rfl, ?_⟩
      refine ite2 (fun hc => ?_) (fun hc => ?_)
      · have hL : L = 1 := by
          have z := of_decide_eq_true hc
          injection z with z
          omega
        subst hL
        refine ⟨_, rfl, p, 9, rfl, hp, by decide, by decide, fun r H1 r0 r1 hp1 e1 => ?_⟩
        refine ⟨rfl, _, rfl, ?_⟩
        refine ite2 (fun _ => ?_) (fun _ => ?_)
        · refine ⟨by show 1 ≤ sizeLine; decide, fun t ht => ?_⟩
          exact k (.ref t) .one _ ⟨t, rfl, upd_same⟩ rfl trivial (hp1.same (same_new ht)) ((kept_take e1).trans (kept_same (same_new ht)))
        · have k1 := kept_take e1
          have hM1 := k1 _ _ (pool_marks hp hM) hM
          refine ⟨_, rfl, _, rfl, _, rfl, M, _, rfl, .inl (SqL.of hM1), p, _, rfl, hp1, by rw [List.length_map]; omega, by rw [List.length_map]; omega, fun q H2 q0 q1 hp2 e2 => ?_⟩
          have hM2 := kept_take e2 _ _ (pool_marks hp1 hM1) hM1
          obtain ⟨u, hu, hm⟩ := at_any (xs := ms.map V.str) q0 q1
          obtain ⟨mk, hmk, rfl⟩ := List.mem_map.mp hm
          refine ⟨M, _, _, _, rfl, rfl, SqL.of hM2, hu, by show 2 ≤ sizeLine; decide, fun t ht => ?_⟩
          exact k (.ref t) (.mark mk) _ ⟨t, rfl, upd_same⟩ rfl (hms mk hmk) (hp2.same (same_new ht)) ((k1.trans (kept_take e2)).trans (kept_same (same_new ht)))
      · have hL : 2 ≤ L := by
          rcases Nat.lt_or_ge L 2 with z | z
          · exact absurd (decide_eq_true (by rw [show L = 1 by omega]; rfl)) hc
          · exact z
        have eL : ((L : Int) - 1) = ((L - 1 : Nat) : Int) := by omega
        refine ⟨_, rfl, _, rfl, _, _, rfl, rfl, p, _, rfl, hp, by omega, by omega, fun r H1 r0 r1 hp1 e1 => ?_⟩
        obtain ⟨rn, rfl⟩ : ∃ rn : Nat, r = rn := ⟨r.toNat, by omega⟩
        refine ⟨_, _, rfl, rfl, ?_⟩
        refine ⟨by show 3 ≤ sizeLine; decide, fun l hl => ?_⟩
        have k1 := kept_take e1
        have nl := hp1.ne hl
        refine ⟨_, rfl, p, 3, rfl, hp1.upd hl, by decide, by decide, fun q H2 q0 q1 hp2 e2 => ?_⟩
        have k2 : Kept p H H2 := (k1.trans (kept_same (same_new hl))).trans (kept_take e2)
        obtain ⟨u, hu, hm⟩ := at_any (xs := [V.str "to", V.str "to", V.str "both"]) q0 q1
        obtain ⟨b, rfl⟩ : ∃ b, u = V.str (word b) := by
          simp only [List.mem_cons, List.not_mem_nil, or_false] at hm
          rcases hm with rfl | rfl | rfl
          · exact ⟨true, rfl⟩
          · exact ⟨true, rfl⟩
          · exact ⟨false, rfl⟩
        refine ⟨l, _, _, _, rfl, rfl, SqL.of ((e2 l nl).trans upd_same), hu, ?_⟩
        have hM2 := k2 _ _ (pool_marks hp hM) hM
        refine ⟨_, rfl, _, rfl, _, rfl, _, rfl, p, M, 1 + rn, ms, rfl, hp2, by omega, by omega, by omega, hM2, m1, m2, hms, fun v1 kd1 H3 h1 hl1 ho1 hp3 k3 => ?_⟩
        have hM3 := k3 _ _ (pool_marks hp2 hM2) hM2
        have e3 : ((L : Int) - (1 + (rn : Int))) = ((L - (1 + rn) : Nat) : Int) := by omega
        refine ⟨_, rfl, _, rfl, _, rfl, _, _, rfl, rfl, _, rfl, p, M, L - (1 + rn), ms, ?_, hp3, by omega, by omega, by omega, hM3, m1, m2, hms, fun v2 kd2 H4 h2 hl2 ho2 hp4 k4 => ?_⟩
        · rw [← e3]
          rfl
        refine ⟨by show 3 ≤ sizeLine; decide, fun t ht => ?_⟩
        have st : Same H4 (upd H4 t (.tup [.str (word b), v1, v2])) := same_new ht
        refine k (.ref t) (.two b kd1 kd2) _ ⟨t, v1, v2, rfl, upd_same, KdAt.mono (Tups.trans (tups_kept k4 hp3) (tups_of st)) _ _ h1, KdAt.mono (tups_of st) _ _ h2⟩ ?_ ⟨ho1, ho2⟩ (hp4.same st) (((k2.trans k3).trans k4).trans (kept_same st))
        show kd1.leaves + kd2.leaves = L
        omega
end
theorem data_depth : ∀ k : Kd, k.data.depth = k.deep + 1
  | .one => by simp only [Kd.data, Kd.deep, PyData.depth, PyData.depthAll] <;> rfl
  | .mark m => by simp only [Kd.data, Kd.deep, PyData.depth, PyData.depthAll] <;> rfl
  | .two b k l => by
    have h1 := data_depth k
    have h2 := data_depth l
    simp only [Kd.data, Kd.deep, PyData.depth, PyData.depthAll, h1, h2]
    omega
theorem data_ok : ∀ k : Kd, k.Ok → k.data.canLay0 = true
  | .one, _ => by decide +kernel
  | .mark m, h => by
    have h' : PyData.canLay0 (.str m) = true := h
    have e : PyData.canLay0 (.str "mark") = true := by decide +kernel
    simp only [Kd.data, PyData.canLay0, PyData.canLayAll0] at h' e ⊢
    rw [h', e] <;> rfl
  | .two b k l, ⟨h1, h2⟩ => by
    have i1 := data_ok k h1
    have i2 := data_ok l h2
    have e : PyData.canLay0 (.str (word b)) = true := by cases b <;> decide +kernel
    simp only [PyData.canLay0] at e
    simp only [Kd.data, PyData.canLay0, PyData.canLayAll0, i1, i2, e]
    rfl
theorem kd_dp {K : PySem.W.Frag} {H : Hp} : ∀ (k : Kd) (v : V), KdAt H k v → Dp K H v k.data
  | .one, _, ⟨a, e, h⟩ => by
    subst e
    exact .tup (SqT.of h) (.cons (.str _) .nil)
  | .mark m, _, ⟨a, e, h⟩ => by
    subst e
    exact .tup (SqT.of h) (.cons (.str _) (.cons (.str _) .nil))
  | .two b k l, _, ⟨a, x, y, e, h, h1, h2⟩ => by
    subst e
    exact .tup (SqT.of h) (.cons (.str _) (.cons (kd_dp k x h1) (.cons (kd_dp l y h2) .nil)))

/-! rows -/
inductive Mv where
  | k (c : Kd)
  | n (i : Int)
namespace Mv
def data : Mv → PyData
  | .k c => c.data
  | .n i => .int i
def Ok : Mv → Prop
  | .k c => c.Ok ∧ c.deep ≤ 20
  | .n _ => True
end Mv
abbrev Row : Type := List Mv × Str
def MvAt (H : Hp) : Mv → V → Prop
  | .k k, v => KdAt H k v
  | .n i, v => v = .int i
theorem MvAt.mono {H H' : Hp} (t : Tups H H') : ∀ (m : Mv) (v : V), MvAt H m v → MvAt H' m v
  | .k k, v, h => KdAt.mono t k v h
  | .n _, _, h => h
def Row.data (q : Row) : PyData := .tuple [.list (q.1.map Mv.data), .str q.2]
def Row.Ok (q : Row) : Prop := (∀ m ∈ q.1, m.Ok) ∧ PyData.canLay0 (.str q.2) = true ∧ q.1.length ≤ 100
def RowAt (H : Hp) (q : Row × Addr) (v : V) : Prop := ∃ t xs, v = .ref t ∧ H t = some (.tup [.ref q.2, .str q.1.2]) ∧ H q.2 = some (.lst xs) ∧ All2 (MvAt H) q.1.1 xs
theorem RowAt.keep {H H' : Hp} (t : Tups H H') {q : Row × Addr} (l : ∀ xs, H q.2 = some (.lst xs) → H' q.2 = some (.lst xs)) {v : V} (h : RowAt H q v) : RowAt H' q v := by
  obtain ⟨u, xs, e, h1, h2, h3⟩ := h
  exact ⟨u, xs, e, t _ _ h1, l _ h2, h3.mono (MvAt.mono t)⟩
theorem RowAt.same {H H' : Hp} (s : Same H H') (q : Row × Addr) (v : V) (h : RowAt H q v) : RowAt H' q v := h.keep (tups_of s) fun _ e => s _ _ e
theorem All2.mono' {α : Type} {R S : α → V → Prop} : ∀ {ks : List α} {vs : List V}, (∀ k v, k ∈ ks → R k v → S k v) → All2 R ks vs → All2 S ks vs
  | [], [], _, _ => trivial
  | k :: _, _ :: _, f, ⟨h, t⟩ => ⟨f _ _ List.mem_cons_self h, All2.mono' (fun a b m => f a b (List.mem_cons_of_mem _ m)) t⟩
  | [], _ :: _, _, h => h.elim
  | _ :: _, [], _, h => h.elim
/-- a list of rows stands at D, its rows' own lists apart from one another and from it -/
structure Res (H : Hp) (D : Addr) (ps : List (Row × Addr)) : Prop where
  ex : ∃ vs, H D = some (.lst vs) ∧ All2 (RowAt H) ps vs
  nd : (ps.map (·.2)).Nodup
  out : D ∉ ps.map (·.2)
theorem Res.keep {H H' : Hp} {D : Addr} {ps : List (Row × Addr)} (r : Res H D ps) (t : Tups H H') (l : ∀ b xs, b = D ∨ b ∈ ps.map (·.2) → H b = some (.lst xs) → H' b = some (.lst xs)) : Res H' D ps := by
  obtain ⟨⟨vs, h1, h2⟩, nd, o⟩ := r
  exact ⟨⟨vs, l _ _ (.inl rfl) h1, h2.mono' fun q v m h => h.keep t fun xs e => l _ _ (.inr (List.mem_map.mpr ⟨q, m, rfl⟩)) e⟩, nd, o⟩
theorem Res.same {H H' : Hp} {D : Addr} {ps : List (Row × Addr)} (r : Res H D ps) (s : Same H H') : Res H' D ps := r.keep (tups_of s) fun _ _ _ e => s _ _ e
theorem Res.len {H : Hp} {D : Addr} {ps : List (Row × Addr)} (r : Res H D ps) : ∃ vs, H D = some (.lst vs) ∧ vs.length = ps.length := by
  obtain ⟨⟨vs, h1, h2⟩, _, _⟩ := r
  exact ⟨vs, h1, h2.len.symm⟩
theorem Res.lists {H : Hp} {D : Addr} {ps : List (Row × Addr)} (r : Res H D ps) : ∀ a ∈ ps.map (·.2), ∃ xs, H a = some (.lst xs) := by
  obtain ⟨⟨vs, h1, h2⟩, nd, out⟩ := r
  clear h1 nd out
  induction ps generalizing vs with
  | nil => intro a h; cases h
  | cons q r ih =>
    cases vs with
    | nil => exact h2.elim
    | cons v vs =>
      intro a h
      rcases List.mem_cons.mp h with h | h
      · obtain ⟨_, xs, _, _, e, _⟩ := h2.1
        exact ⟨xs, h ▸ e⟩
      · exact ih vs h2.2 a h
def endsL : Kd → List Row
  | .one => []
  | .mark m => [([], m)]
  | .two true k l => (endsL l).map fun q => (.k k :: q.1, q.2)
  | .two false k l => endsL k ++ endsL l
def waysL : Kd → List Row
  | .one => []
  | .mark m => [([], m)]
  | .two true k l => (waysL l).map fun q => (.k k :: q.1, q.2)
  | .two false k l => ((waysL k).map fun q => (.n 1 :: q.1, q.2)) ++ (waysL l).map fun q => (.n 2 :: q.1, q.2)
theorem endsL_len : ∀ k : Kd, (endsL k).length ≤ k.leaves
  | .one => Nat.zero_le _
  | .mark _ => Nat.le_refl _
  | .two true k l => by
    have h := endsL_len l
    simp only [endsL, List.length_map, Kd.leaves]
    omega
  | .two false k l => by
    have h1 := endsL_len k
    have h2 := endsL_len l
    simp only [endsL, List.length_append, Kd.leaves]
    omega
theorem waysL_len : ∀ k : Kd, (waysL k).length ≤ k.leaves
  | .one => Nat.zero_le _
  | .mark _ => Nat.le_refl _
  | .two true k l => by
    have h := waysL_len l
    simp only [waysL, List.length_map, Kd.leaves]
    omega
  | .two false k l => by
    have h1 := waysL_len k
    have h2 := waysL_len l
    simp only [waysL, List.length_append, List.length_map, Kd.leaves]
    omega
/-- of a kind of at most 20 leaves: each row is fit to be compared -/
theorem endsL_ok : ∀ k : Kd, k.Ok → k.leaves ≤ 20 → ∀ q ∈ endsL k, (∀ m ∈ q.1, m.Ok) ∧ PyData.canLay0 (.str q.2) = true ∧ q.1.length ≤ k.deep
  | .one, _, _, q, h => by cases h
  | .mark m, h, _, q, hq => by
    rw [List.mem_singleton.mp hq]
    exact ⟨fun _ z => (by cases z), h, Nat.le_refl _⟩
  | .two true k l, ⟨h1, h2⟩, hl, q, hq => by
    change k.leaves + l.leaves ≤ 20 at hl
    obtain ⟨r, hr, rfl⟩ := List.mem_map.mp hq
    obtain ⟨i1, i2, i3⟩ := endsL_ok l h2 (by omega) r hr
    have := k.deep_lt
    refine ⟨fun m hm => ?_, i2, ?_⟩
    · rcases List.mem_cons.mp hm with hm | hm
      · rw [hm]
        exact ⟨h1, by omega⟩
      · exact i1 m hm
    · show r.1.length + 1 ≤ max k.deep l.deep + 1
      omega
  | .two false k l, ⟨h1, h2⟩, hl, q, hq => by
    change k.leaves + l.leaves ≤ 20 at hl
    rcases List.mem_append.mp hq with hq | hq
    · obtain ⟨i1, i2, i3⟩ := endsL_ok k h1 (by omega) q hq
      exact ⟨i1, i2, by show q.1.length ≤ max k.deep l.deep + 1; omega⟩
    · obtain ⟨i1, i2, i3⟩ := endsL_ok l h2 (by omega) q hq
      exact ⟨i1, i2, by show q.1.length ≤ max k.deep l.deep + 1; omega⟩
theorem waysL_ok : ∀ k : Kd, k.Ok → k.leaves ≤ 20 → ∀ q ∈ waysL k, (∀ m ∈ q.1, m.Ok) ∧ PyData.canLay0 (.str q.2) = true ∧ q.1.length ≤ k.deep
  | .one, _, _, q, h => by cases h
  | .mark m, h, _, q, hq => by
    rw [List.mem_singleton.mp hq]
    exact ⟨fun _ z => (by cases z), h, Nat.le_refl _⟩
  | .two true k l, ⟨h1, h2⟩, hl, q, hq => by
    change k.leaves + l.leaves ≤ 20 at hl
    obtain ⟨r, hr, rfl⟩ := List.mem_map.mp hq
    obtain ⟨i1, i2, i3⟩ := waysL_ok l h2 (by omega) r hr
    have := k.deep_lt
    refine ⟨fun m hm => ?_, i2, ?_⟩
    · rcases List.mem_cons.mp hm with hm | hm
      · rw [hm]
        exact ⟨h1, by omega⟩
      · exact i1 m hm
    · show r.1.length + 1 ≤ max k.deep l.deep + 1
      omega
  | .two false k l, ⟨h1, h2⟩, hl, q, hq => by
    change k.leaves + l.leaves ≤ 20 at hl
    have one : ∀ (i : Int) (r : Row), ((∀ m ∈ r.1, m.Ok) ∧ PyData.canLay0 (.str r.2) = true ∧ r.1.length ≤ max k.deep l.deep) → (∀ m ∈ (Mv.n i :: r.1), m.Ok) ∧ PyData.canLay0 (.str r.2) = true ∧ (Mv.n i :: r.1).length ≤ max k.deep l.deep + 1 := fun i r h => by
      refine ⟨fun m hm => ?_, h.2.1, Nat.succ_le_succ h.2.2⟩
      rcases List.mem_cons.mp hm with hm | hm
      · rw [hm]; trivial
      · exact h.1 m hm
    rcases List.mem_append.mp hq with hq | hq
    · obtain ⟨r, hr, rfl⟩ := List.mem_map.mp hq
      obtain ⟨i1, i2, i3⟩ := waysL_ok k h1 (by omega) r hr
      exact one 1 r ⟨i1, i2, by omega⟩
    · obtain ⟨r, hr, rfl⟩ := List.mem_map.mp hq
      obtain ⟨i1, i2, i3⟩ := waysL_ok l h2 (by omega) r hr
      exact one 2 r ⟨i1, i2, by omega⟩
abbrev sLends : Stmt := top 7
abbrev sLways : Stmt := top 8
theorem ixt {X : Cx} {K : PySem.W.Frag} (e : X.K = K) : IxR X (rIxT K) := by
  rw [← e]
  exact ix_tup
theorem nodup_snoc {as : List Addr} {p : Addr} (h : as.Nodup) (hp : p ∉ as) : (as ++ [p]).Nodup := by
  rw [List.nodup_append]
  refine ⟨h, by simp, fun a ha b hb e => ?_⟩
  rw [List.mem_singleton.mp hb] at e
  exact hp (e ▸ ha)
theorem Res.snoc {H' H4 : Hp} {D t p : Addr} {ps : List (Row × Addr)} {q : Row} {acc xs : List V} (r : Res H' D ps) (hacc : H' D = some (.lst acc)) (s : Same H' H4) (hp : H' p = none) (ht : H4 t = some (.tup [.ref p, .str q.2]))
    (hl : H4 p = some (.lst xs)) (hm : All2 (MvAt H4) q.1 xs) : Res (upd H4 D (.lst (acc ++ [.ref t]))) D (ps ++ [(q, p)]) := by
  obtain ⟨vs, hv, hA⟩ := r.ex
  obtain rfl : vs = acc := by
    rw [hacc] at hv
    cases hv
    rfl
  have hD4 := s _ _ hacc
  have t4 : Tups H4 (upd H4 D (.lst (vs ++ [.ref t]))) := tups_lst hD4
  have pD : p ≠ D := fun e => by rw [e, hacc] at hp; cases hp
  have tD : t ≠ D := ne_of ht hD4 (by intro z; cases z)
  have old := r.lists
  refine ⟨⟨_, upd_same, (hA.mono' fun k v hk h => ?_).app ⟨⟨t, xs, rfl, ?_, ?_, hm.mono (MvAt.mono t4)⟩, trivial⟩⟩, ?_, ?_⟩
  · refine h.keep (Tups.trans (tups_of s) t4) fun ys e => ?_
    rw [upd_ne (fun (z : k.2 = D) => r.out (by rw [← z]; exact List.mem_map.mpr ⟨k, hk, rfl⟩))]
    exact s _ _ e
  · rw [upd_ne tD]
    exact ht
  · show (upd H4 D _) p = _
    rw [upd_ne pD]
    exact hl
  · rw [List.map_append]
    refine nodup_snoc r.nd fun hmem => ?_
    obtain ⟨ys, e⟩ := old p hmem
    rw [hp] at e
    cases e
  · rw [List.map_append]
    intro z
    rcases List.mem_append.mp z with z | z
    · exact r.out z
    · exact pD (List.mem_singleton.mp z).symm
theorem Res.app {H : Hp} {D1 D2 p : Addr} {ps1 ps2 : List (Row × Addr)} {vs1 vs2 : List V} (r1 : Res H D1 ps1) (r2 : Res H D2 ps2) (h1 : H D1 = some (.lst vs1)) (h2 : H D2 = some (.lst vs2)) (hp : H p = none)
    (ap : ∀ a ∈ ps1.map (·.2), ∀ b ∈ ps2.map (·.2), a ≠ b) : Res (upd H p (.lst (vs1 ++ vs2))) p (ps1 ++ ps2) := by
  have s := same_new (o := .lst (vs1 ++ vs2)) hp
  obtain ⟨us1, e1, A1⟩ := r1.ex
  obtain ⟨us2, e2, A2⟩ := r2.ex
  rw [h1] at e1
  rw [h2] at e2
  cases e1
  cases e2
  refine ⟨⟨_, upd_same, (A1.mono (RowAt.same s)).app (A2.mono (RowAt.same s))⟩, ?_, ?_⟩
  · rw [List.map_append, List.nodup_append]
    exact ⟨r1.nd, r2.nd, ap⟩
  · rw [List.map_append]
    intro z
    rcases List.mem_append.mp z with z | z
    · obtain ⟨ys, e⟩ := r1.lists p z
      rw [hp] at e
      cases e
    · obtain ⟨ys, e⟩ := r2.lists p z
      rw [hp] at e
      cases e
theorem Res.new {H : Hp} {D : Addr} : Res (upd H D (.lst [])) D [] := ⟨⟨[], upd_same, trivial⟩, List.nodup_nil, by simp⟩
/-- what a comprehension over rows holds: each behind m0 -/
def RC (S D : Addr) (H1 : Hp) (m0 : Mv) (ps2 : List (Row × Addr)) (i : Nat) (H' : Hp) : Prop :=
  ∃ ps, Res H' D ps ∧ ps.map (·.1) = ((ps2.take i).map (·.1)).map (fun q => (m0 :: q.1, q.2)) ∧ (∀ b ∈ ps.map (·.2), H1 b = none) ∧ Same H1 H'
theorem rc_turn {S D : Addr} {H1 H' : Hp} {m0 : Mv} {ps2 : List (Row × Addr)} {i : Nat} {vs2 : List V} {y : V} (hv2 : H1 S = some (.lst vs2)) (hA2 : All2 (RowAt H1) ps2 vs2) (hD : H1 D = none) {n : Nat} (hq : ∀ q ∈ ps2.map (·.1), q.1.length ≤ n) (hn : n ≤ 100) (hl : ps2.length ≤ 100)
    (p : RC S D H1 m0 ps2 i H') (hy : vs2[i]? = some y) :
    ∃ (ps : List (Row × Addr)) (t : Addr) (xs : List V) (m : Str) (qa : Addr) (acc : List V), y = .ref t ∧ H' t = some (.tup [.ref qa, .str m]) ∧ H' qa = some (.lst xs) ∧ 1 + xs.length ≤ sizeLine ∧ H' D = some (.lst acc) ∧ acc.length < sizeLine ∧
      ∀ (hd : V) (l p u : Addr), (∀ H2 : Hp, Same H' H2 → MvAt H2 m0 hd) → H' l = none → (upd H' l (.lst [hd])) p = none → (upd (upd H' l (.lst [hd])) p (.lst ([hd] ++ xs))) u = none →
        RC S D H1 m0 ps2 (i + 1) (upd (upd (upd (upd H' l (.lst [hd])) p (.lst ([hd] ++ xs))) u (.tup [.ref p, .str m])) D (.lst (acc ++ [.ref u]))) := by
  obtain ⟨ps, r, er, fr, s⟩ := p
  obtain ⟨⟨q, qa⟩, hq1, hq2⟩ := (hA2.mono (RowAt.same s)).get hy
  obtain ⟨t, xs, rfl, ht, hxs, hm⟩ := hq2
  obtain ⟨acc, hacc, hA'⟩ := r.ex
  have q3 := hq q (List.mem_map.mpr ⟨(q, qa), List.mem_of_getElem? hq1, rfl⟩)
  have q5 : q.1.length = xs.length := hm.len
  have q6 := hA'.len
  have q7 : ps.length = (ps2.take i).length := by
    have := congrArg List.length er
    simpa using this
  rw [List.length_take] at q7
  refine ⟨ps, t, xs, q.2, qa, acc, rfl, ht, hxs, small40 (by omega), hacc, small1000 (by omega), fun hd l p u hmv h1 h2 h3 => ?_⟩
  have s3 := same_new (o := .lst [hd]) h1
  have s4 := same_new (o := .lst ([hd] ++ xs)) h2
  have s5 := same_new (o := .tup [.ref p, .str q.2]) h3
  have sF := Same.trans s3 (Same.trans s4 s5)
  refine ⟨ps ++ [((m0 :: q.1, q.2), p)], r.snoc hacc sF (s3.free h2) upd_same (s5 _ _ upd_same) ⟨hmv _ sF, hm.mono (MvAt.mono (tups_of sF))⟩, ?_, ?_, ?_⟩
  · rw [List.take_add_one, hq1, List.map_append, er, List.map_append, List.map_append]
    rfl
  · intro b hb
    rw [List.map_append] at hb
    rcases List.mem_append.mp hb with hb | hb
    · exact fr b hb
    · rw [List.mem_singleton.mp hb]
      exact s.free (s3.free h2)
  · intro b o e
    have q := sF _ _ (s _ _ e)
    rw [upd_ne (ne_of_none e hD)]
    exact q
def spRows (f : Kd → List Row) (n : Nat) : Sp := fun vs H Q _ => ∃ (v : V) (k : Kd), vs = [v] ∧ KdAt H k v ∧ k.deep < n ∧ k.leaves ≤ 20 ∧ k.Ok ∧
  ∀ (D : Addr) (ps : List (Row × Addr)) (H' : Hp), Res H' D ps → ps.map (·.1) = f k → Same H H' → H D = none → (∀ a ∈ ps.map (·.2), H a = none) → Q (.ref D) H'
section
variable {P : Program} {w : World} {K : PySem.W.Frag} {mg : Str → Option Value} {base : Heap}
theorem scLends : FnScope ["_law_kind_here", "_law_taken", "_law_mark"] ["_law_kind_here"] (defScope sLends) := ⟨rfl, rfl, rfl, by decide +kernel, rfl, by decide +kernel, by decide +kernel⟩
theorem ok_lends {f : Addr} {fd : FuncData} (F : Fun K "_law_ends" "_law_ends" sLends f fd) (bF : Binds K fd ["_law_kind_here"] []) (gF : mg "_law_ends" = some (.ref f)) (mLen : mg "len" = none) :
    ∀ n : Nat, FnOk P w K mg base CX0 (n + 1) f fd ["_law_kind_here"] (spRows endsL n) := by
  intro n
  induction n with
  | zero =>
    refine F.ok scLends (fun vs H Q E h => ?_) (fun cdv A outer s H vs Q E hr h => ?_)
    · obtain ⟨v, k, rfl, _⟩ := h
      rfl
    · obtain ⟨v, k, _, _, h1, _⟩ := h
      omega
  | succ n GK =>
    refine F.ok scLends (fun vs H Q E h => ?_) (fun cdv A outer s H vs Q E hr h => ?_)
    · obtain ⟨v, k, rfl, _⟩ := h
      rfl
    · obtain ⟨v, kd, rfl, hk, hn, hl, hok, k⟩ := h
      refine ⟨_, pss_cons (ps_if (pt_cmpR op_eq (pe_callB call_len_seq (by rfl) mLen PySem.boot_len (pa_cons (pv 0) pa_nil)) pe_int (nomark _)) (pss_one (ps_ret (pe_lst pa_nil))) pss_nil)
        (pss_cons (ps_if (pt_cmpR op_eq (pe_callB call_len_seq (by rfl) mLen PySem.boot_len (pa_cons (pv 0) pa_nil)) pe_int (nomark _)) (pss_one (ps_ret (pe_lst (pa_cons (pe_tup (pa_cons (pe_lst pa_nil) (pa_cons (pe_ix ix_tup (pv 0) pe_int (fun _ _ => rfl)) pa_nil))) pa_nil)))) pss_nil)
        (pss_cons (ps_if (pt_cmpR op_eq (pe_ix ix_tup (pv 0) pe_int (fun _ _ => rfl)) pe_str (nomark _))
          (pss_one (ps_ret (pe_lc (own := [("_law_taken", 1), ("_law_mark", 2)]) (g := gTup K 2 (gCons (gName 1) (gCons (gName 2) gNil))) (by rfl) scLends.nd (pi_list (pe_call GK hr (by rfl) gF F.kp bF .nil pass0 (pa_cons (pe_ix ix_tup (pv 0) pe_int (fun _ _ => rfl)) pa_nil)))
            (blkOk_by (N := ["_law_kind_here", "_law_taken", "_law_mark"]) (sc := defScope sLends) (by decide +kernel)) (fun _ _ _ _ _ => pg_tup (by rfl) (pgs_cons (pg_name (i := 1) scLends.nd rfl (Or.inl rfl)) (pgs_cons (pg_name (i := 2) scLends.nd rfl (Or.inl rfl)) pgs_nil))) (fun _ _ _ _ _ => pts_nil)
            (fun _ _ _ _ _ => pe_tup (pa_cons (pe_op op_cat (pe_lst (pa_cons (pe_ix (ixt (K := K) rfl) (pv 0) pe_int (fun _ _ => rfl)) pa_nil)) (pv 1)) (pa_cons (pv 2) pa_nil)))))) pss_nil)
        (pss_one (ps_ret (pe_op op_cat (pe_call GK hr (by rfl) gF F.kp bF .nil pass0 (pa_cons (pe_ix ix_tup (pv 0) pe_int (fun _ _ => rfl)) pa_nil)) (pe_call GK hr (by rfl) gF F.kp bF .nil pass0 (pa_cons (pe_ix ix_tup (pv 0) pe_int (fun _ _ => rfl)) pa_nil))))))), ?_⟩
      cases kd with
      | one =>
        obtain ⟨a, rfl, ha⟩ := hk
        refine ⟨_, rfl, a, _, rfl, .inr (SqT.of ha), rfl, _, rfl, ?_⟩
        refine ite2 (fun _ => ?_) (fun z => absurd (by decide +kernel) z)
        exact ⟨by show 0 ≤ sizeLine; decide, fun D hD => k D [] _ Res.new rfl (same_new hD) hD (fun _ z => (by cases z))⟩
      | mark m =>
        obtain ⟨a, rfl, ha⟩ := hk
        refine ⟨_, rfl, a, _, rfl, .inr (SqT.of ha), rfl, _, rfl, ?_⟩
        refine ite2 (fun z => by cases z) (fun _ => ?_)
        refine ⟨_, rfl, a, _, rfl, .inr (SqT.of ha), rfl, _, rfl, ?_⟩
        refine ite2 (fun _ => ?_) (fun z => absurd (by show decide (V.int ((2 : Nat) : Int) = V.int 2) = true; decide +kernel) z)
        refine ⟨by show 0 ≤ sizeLine; decide, fun e he => ?_⟩
        have s1 := same_new (o := .lst []) he
        refine ⟨_, rfl, a, _, _, _, rfl, rfl, SqT.of (s1 _ _ ha), atI_nat (j := 1) rfl, by show 2 ≤ sizeLine; decide, fun t ht => ⟨by show 1 ≤ sizeLine; decide, fun D hD => ?_⟩⟩
        have s2 := same_new (o := .tup [.ref e, .str m]) ht
        have s3 := same_new (o := .lst [.ref t]) hD
        refine k D [(([], m), e)] _ ⟨⟨[.ref t], upd_same, ⟨t, [], rfl, s3 _ _ upd_same, s3 _ _ (s2 _ _ upd_same), trivial⟩, trivial⟩, by simp, ?_⟩ rfl (Same.trans s1 (Same.trans s2 s3)) ((Same.trans s1 s2).free hD) ?_
        · intro z
          have z' : D = e := List.mem_singleton.mp z
          rw [z', s2 _ _ upd_same] at hD
          cases hD
        · intro b hb
          rw [List.mem_singleton.mp hb]
          exact he
      | two b k1 k2 =>
        obtain ⟨a, x1, x2, rfl, ha, h1, h2⟩ := hk
        change k1.leaves + k2.leaves ≤ 20 at hl
        have hn' : max k1.deep k2.deep + 1 < n + 1 := hn
        refine ⟨_, rfl, a, _, rfl, .inr (SqT.of ha), rfl, _, rfl, ?_⟩
        refine ite2 (fun z => by cases z) (fun _ => ?_)
        refine ⟨_, rfl, a, _, rfl, .inr (SqT.of ha), rfl, _, rfl, ?_⟩
        refine ite2 (fun z => by cases z) (fun _ => ?_)
        refine ⟨_, rfl, a, _, _, _, rfl, rfl, SqT.of ha, atI_nat (j := 0) rfl, rfl, _, rfl, ?_⟩
        cases b with
        | true =>
          refine ite2 (fun _ => ?_) (fun z => absurd (by show decide (V.str "to" = V.str "to") = true; decide +kernel) z)
          refine ⟨_, rfl, a, _, _, _, rfl, rfl, SqT.of ha, atI_nat (j := 2) rfl, x2, k2, rfl, h2, by omega, by omega, hok.2, fun S ps2 H1 r2 e2 s1 hS f2 => ?_⟩
          obtain ⟨vs2, hv2, hA2⟩ := r2.ex
          refine ⟨S, rfl, ⟨_, SqL.of hv2⟩, fun D hD => lc_list (K := K) (a := S) (xs := vs2) (fun i H' => ∃ ps, Res H' D ps ∧ ps.map (·.1) = ((ps2.take i).map (·.1)).map (fun q => (Mv.k k1 :: q.1, q.2)) ∧ (∀ b ∈ ps.map (·.2), H b = none) ∧ Same H1 H')
            ⟨[], Res.new, rfl, fun _ z => (by cases z), same_new hD⟩ (fun i H' _ ⟨_, _, _, _, q⟩ => SqL.of (q _ _ hv2)) ?_ ?_⟩
          · rintro i y H' hy ⟨ps, r, er, fr, s⟩
            obtain ⟨⟨q, qa⟩, hq1, hq2⟩ := (hA2.mono (RowAt.same s)).get hy
            obtain ⟨t, xs, rfl, ht, hxs, hm⟩ := hq2
            refine ⟨t, _, rfl, SqT.of ht, rfl, _, _, rfl, _, _, rfl, rfl, rfl, ?_⟩
            unfold tYes
            dsimp only
            rw [if_pos rfl]
            have s0 : Same H H' := Same.trans s1 s
            refine ⟨_, rfl, a, _, _, _, rfl, rfl, SqT.of (s0 _ _ ha), atI_nat (j := 1) rfl, by show 1 ≤ sizeLine; decide, fun l hl1 => ?_⟩
            have s3 := same_new (o := .lst [x1]) hl1
            have f3 : (upd H' l (.lst [x1])) l = some (.lst [x1]) := upd_same
            refine ⟨_, rfl, l, qa, _, _, rfl, rfl, f3, s3 _ _ hxs, ?_, fun p hp => ?_⟩
            · have q3 := (endsL_ok k2 hok.2 (by omega) q (e2 ▸ List.mem_map.mpr ⟨(q, qa), List.mem_of_getElem? hq1, rfl⟩)).2.2
              have q4 := k2.deep_lt
              have q5 : q.1.length = xs.length := hm.len
              show 1 + xs.length ≤ sizeLine
              exact small40 (by omega)
            have s4 := same_new (o := .lst ([x1] ++ xs)) hp
            have f4 : (upd (upd H' l (.lst [x1])) p (.lst ([x1] ++ xs))) p = some (.lst ([x1] ++ xs)) := upd_same
            have s34 := Same.trans s3 s4
            generalize upd (upd H' l (.lst [x1])) p (.lst ([x1] ++ xs)) = H5 at *
            refine ⟨_, rfl, by show 2 ≤ sizeLine; decide, fun u hu => ?_⟩
            have s5 := same_new (o := .tup [.ref p, .str q.2]) hu
            obtain ⟨acc, hacc, hA'⟩ := r.ex
            have sF := Same.trans s34 s5
            refine ⟨acc, sF _ _ hacc, ?_, ps ++ [((Mv.k k1 :: q.1, q.2), p)], r.snoc hacc sF (s3.free hp) upd_same (s5 _ _ f4) ⟨KdAt.mono (tups_of (Same.trans s0 sF)) _ _ h1, hm.mono (MvAt.mono (tups_of sF))⟩, ?_, ?_, ?_⟩
            · have q6 := hA'.len
              have q7 : ps.length = (ps2.take i).length := by
                have := congrArg List.length er
                simpa using this
              rw [List.length_take] at q7
              have q8 : ps2.length = (endsL k2).length := by rw [← e2, List.length_map]
              have q9 := endsL_len k2
              exact small1000 (by omega)
            · rw [List.take_add_one, hq1, List.map_append, er, List.map_append, List.map_append]
              rfl
            · intro b hb
              rw [List.map_append] at hb
              rcases List.mem_append.mp hb with hb | hb
              · exact fr b hb
              · rw [List.mem_singleton.mp hb]
                exact s0.free (s3.free hp)
            · intro b o e
              have q := sF _ _ (s _ _ e)
              rw [upd_ne (ne_of_none e hD)]
              exact q
          · rintro H' ⟨ps, r, er, fr, s⟩
            rw [← hA2.len, List.take_length, e2] at er
            exact k D ps H' r er (Same.trans s1 s) (s1.free hD) fr
        | false =>
          refine ite2 (fun z => absurd z (by show ¬ decide (V.str "both" = V.str "to") = true; decide +kernel)) (fun _ => ?_)
          refine ⟨_, rfl, a, _, _, _, rfl, rfl, SqT.of ha, atI_nat (j := 1) rfl, x1, k1, rfl, h1, by omega, by omega, hok.1, fun D1 ps1 H1 r1 e1 s1 hD1 f1 => ?_⟩
          refine ⟨_, rfl, a, _, _, _, rfl, rfl, SqT.of (s1 _ _ ha), atI_nat (j := 2) rfl, x2, k2, rfl, KdAt.mono (tups_of s1) _ _ h2, by omega, by omega, hok.2, fun D2 ps2 H2 r2 e2 s2 hD2 f2 => ?_⟩
          obtain ⟨vs1, hv1, hl1⟩ := (r1.same s2).len
          obtain ⟨vs2, hv2, hl2⟩ := r2.len
          have z1 := endsL_len k1
          have z2 := endsL_len k2
          have y1 : ps1.length = (endsL k1).length := by rw [← e1, List.length_map]
          have y2 : ps2.length = (endsL k2).length := by rw [← e2, List.length_map]
          refine ⟨D1, D2, vs1, vs2, rfl, rfl, hv1, hv2, small40 (by omega), fun p hp => ?_⟩
          refine k p (ps1 ++ ps2) _ ((r1.same s2).app r2 hv1 hv2 hp fun c hc d hd e => ?_) ?_ (Same.trans s1 (Same.trans s2 (same_new hp))) ((Same.trans s1 s2).free hp) ?_
          · obtain ⟨ys, ey⟩ := r1.lists c hc
            have q := f2 d hd
            rw [← e, ey] at q
            cases q
          · rw [List.map_append, e1, e2]
            rfl
          · intro b hb
            rw [List.map_append] at hb
            rcases List.mem_append.mp hb with hb | hb
            · exact f1 b hb
            · exact s1.free (f2 b hb)
theorem scLways : FnScope ["_law_kind_here", "_law_moves", "_law_mark", "_law_found"] ["_law_kind_here"] (defScope sLways) := ⟨rfl, rfl, rfl, by decide +kernel, rfl, by decide +kernel, by decide +kernel⟩
theorem ok_lways {f : Addr} {fd : FuncData} (F : Fun K "_law_ways" "_law_ways" sLways f fd) (bF : Binds K fd ["_law_kind_here"] []) (gF : mg "_law_ways" = some (.ref f)) (mLen : mg "len" = none) :
    ∀ n : Nat, FnOk P w K mg base CX0 (n + 1) f fd ["_law_kind_here"] (spRows waysL n) := by
  intro n
  induction n with
  | zero =>
    refine F.ok scLways (fun vs H Q E h => ?_) (fun cdv A outer s H vs Q E hr h => ?_)
    · obtain ⟨v, k, rfl, _⟩ := h
      rfl
    · obtain ⟨v, k, _, _, h1, _⟩ := h
      omega
  | succ n GK =>
    refine F.ok scLways (fun vs H Q E h => ?_) (fun cdv A outer s H vs Q E hr h => ?_)
    · obtain ⟨v, k, rfl, _⟩ := h
      rfl
    · obtain ⟨v, kd, rfl, hk, hn, hl, hok, k⟩ := h
      refine ⟨_, pss_cons (ps_if (pt_cmpR op_eq (pe_callB call_len_seq (by rfl) mLen PySem.boot_len (pa_cons (pv 0) pa_nil)) pe_int (nomark _)) (pss_one (ps_ret (pe_lst pa_nil))) pss_nil)
        (pss_cons (ps_if (pt_cmpR op_eq (pe_callB call_len_seq (by rfl) mLen PySem.boot_len (pa_cons (pv 0) pa_nil)) pe_int (nomark _)) (pss_one (ps_ret (pe_lst (pa_cons (pe_tup (pa_cons (pe_lst pa_nil) (pa_cons (pe_ix ix_tup (pv 0) pe_int (fun _ _ => rfl)) pa_nil))) pa_nil)))) pss_nil)
        (pss_cons (ps_if (pt_cmpR op_eq (pe_ix ix_tup (pv 0) pe_int (fun _ _ => rfl)) pe_str (nomark _))
          (pss_one (ps_ret (pe_lc (own := [("_law_moves", 1), ("_law_mark", 2)]) (g := gTup K 2 (gCons (gName 1) (gCons (gName 2) gNil))) (by rfl) scLways.nd (pi_list (pe_call GK hr (by rfl) gF F.kp bF .nil pass0 (pa_cons (pe_ix ix_tup (pv 0) pe_int (fun _ _ => rfl)) pa_nil)))
            (blkOk_by (N := ["_law_kind_here", "_law_moves", "_law_mark", "_law_found"]) (sc := defScope sLways) (by decide +kernel)) (fun _ _ _ _ _ => pg_tup (by rfl) (pgs_cons (pg_name (i := 1) scLways.nd rfl (Or.inl rfl)) (pgs_cons (pg_name (i := 2) scLways.nd rfl (Or.inl rfl)) pgs_nil))) (fun _ _ _ _ _ => pts_nil)
            (fun _ _ _ _ _ => pe_tup (pa_cons (pe_op op_cat (pe_lst (pa_cons (pe_ix (ixt (K := K) rfl) (pv 0) pe_int (fun _ _ => rfl)) pa_nil)) (pv 1)) (pa_cons (pv 2) pa_nil)))))) pss_nil)
        (pss_cons (ps_setLc (i := 3) (own := [("_law_moves", 1), ("_law_mark", 2)]) (g := gTup K 2 (gCons (gName 1) (gCons (gName 2) gNil))) (by rfl) scLways.nd rfl rfl (sw_true rfl rfl rfl (by decide +kernel)) (pi_list (pe_call GK hr (by rfl) gF F.kp bF .nil pass0 (pa_cons (pe_ix ix_tup (pv 0) pe_int (fun _ _ => rfl)) pa_nil)))
            (blkOk_by (N := ["_law_kind_here", "_law_moves", "_law_mark", "_law_found"]) (sc := defScope sLways) (by decide +kernel)) (fun _ _ _ _ _ => pg_tup (by rfl) (pgs_cons (pg_name (i := 1) scLways.nd rfl (Or.inl rfl)) (pgs_cons (pg_name (i := 2) scLways.nd rfl (Or.inl rfl)) pgs_nil))) (fun _ _ _ _ _ => pts_nil)
            (fun _ _ _ _ _ => pe_tup (pa_cons (pe_op op_cat (pe_lst (pa_cons pe_int pa_nil)) (pv 1)) (pa_cons (pv 2) pa_nil))))
        (pss_one (ps_ret (pe_op op_cat (pv 3) (pe_lc (own := [("_law_moves", 1), ("_law_mark", 2)]) (g := gTup K 2 (gCons (gName 1) (gCons (gName 2) gNil))) (by rfl) scLways.nd (pi_list (pe_call GK hr (by rfl) gF F.kp bF .nil pass0 (pa_cons (pe_ix ix_tup (pv 0) pe_int (fun _ _ => rfl)) pa_nil)))
            (blkOk_by (N := ["_law_kind_here", "_law_moves", "_law_mark", "_law_found"]) (sc := defScope sLways) (by decide +kernel)) (fun _ _ _ _ _ => pg_tup (by rfl) (pgs_cons (pg_name (i := 1) scLways.nd rfl (Or.inl rfl)) (pgs_cons (pg_name (i := 2) scLways.nd rfl (Or.inl rfl)) pgs_nil))) (fun _ _ _ _ _ => pts_nil)
            (fun _ _ _ _ _ => pe_tup (pa_cons (pe_op op_cat (pe_lst (pa_cons pe_int pa_nil)) (pv 1)) (pa_cons (pv 2) pa_nil)))))))))), ?_⟩
      cases kd with
      | one =>
        obtain ⟨a, rfl, ha⟩ := hk
        refine ⟨_, rfl, a, _, rfl, .inr (SqT.of ha), rfl, _, rfl, ?_⟩
        refine ite2 (fun _ => ?_) (fun z => absurd (by decide +kernel) z)
        exact ⟨by show 0 ≤ sizeLine; decide, fun D hD => k D [] _ Res.new rfl (same_new hD) hD (fun _ z => (by cases z))⟩
      | mark m =>
        obtain ⟨a, rfl, ha⟩ := hk
        refine ⟨_, rfl, a, _, rfl, .inr (SqT.of ha), rfl, _, rfl, ?_⟩
        refine ite2 (fun z => by cases z) (fun _ => ?_)
        refine ⟨_, rfl, a, _, rfl, .inr (SqT.of ha), rfl, _, rfl, ?_⟩
        refine ite2 (fun _ => ?_) (fun z => absurd (by show decide (V.int ((2 : Nat) : Int) = V.int 2) = true; decide +kernel) z)
        refine ⟨by show 0 ≤ sizeLine; decide, fun e he => ?_⟩
        have s1 := same_new (o := .lst []) he
        refine ⟨_, rfl, a, _, _, _, rfl, rfl, SqT.of (s1 _ _ ha), atI_nat (j := 1) rfl, by show 2 ≤ sizeLine; decide, fun t ht => ⟨by show 1 ≤ sizeLine; decide, fun D hD => ?_⟩⟩
        have s2 := same_new (o := .tup [.ref e, .str m]) ht
        have s3 := same_new (o := .lst [.ref t]) hD
        refine k D [(([], m), e)] _ ⟨⟨[.ref t], upd_same, ⟨t, [], rfl, s3 _ _ upd_same, s3 _ _ (s2 _ _ upd_same), trivial⟩, trivial⟩, by simp, ?_⟩ rfl (Same.trans s1 (Same.trans s2 s3)) ((Same.trans s1 s2).free hD) ?_
        · intro z
          have z' : D = e := List.mem_singleton.mp z
          rw [z', s2 _ _ upd_same] at hD
          cases hD
        · intro b hb
          rw [List.mem_singleton.mp hb]
          exact he
      | two b k1 k2 =>
        obtain ⟨a, x1, x2, rfl, ha, h1, h2⟩ := hk
        change k1.leaves + k2.leaves ≤ 20 at hl
        have hn' : max k1.deep k2.deep + 1 < n + 1 := hn
        refine ⟨_, rfl, a, _, rfl, .inr (SqT.of ha), rfl, _, rfl, ?_⟩
        refine ite2 (fun z => by cases z) (fun _ => ?_)
        refine ⟨_, rfl, a, _, rfl, .inr (SqT.of ha), rfl, _, rfl, ?_⟩
        refine ite2 (fun z => by cases z) (fun _ => ?_)
        refine ⟨_, rfl, a, _, _, _, rfl, rfl, SqT.of ha, atI_nat (j := 0) rfl, rfl, _, rfl, ?_⟩
        cases b with
        | true =>
          refine ite2 (fun _ => ?_) (fun z => absurd (by show decide (V.str "to" = V.str "to") = true; decide +kernel) z)
          refine ⟨_, rfl, a, _, _, _, rfl, rfl, SqT.of ha, atI_nat (j := 2) rfl, x2, k2, rfl, h2, by omega, by omega, hok.2, fun S ps2 H1 r2 e2 s1 hS f2 => ?_⟩
          obtain ⟨vs2, hv2, hA2⟩ := r2.ex
          refine ⟨S, rfl, ⟨_, SqL.of hv2⟩, fun D hD => lc_list (K := K) (a := S) (xs := vs2) (fun i H' => ∃ ps, Res H' D ps ∧ ps.map (·.1) = ((ps2.take i).map (·.1)).map (fun q => (Mv.k k1 :: q.1, q.2)) ∧ (∀ b ∈ ps.map (·.2), H b = none) ∧ Same H1 H')
            ⟨[], Res.new, rfl, fun _ z => (by cases z), same_new hD⟩ (fun i H' _ ⟨_, _, _, _, q⟩ => SqL.of (q _ _ hv2)) ?_ ?_⟩
          · rintro i y H' hy ⟨ps, r, er, fr, s⟩
            obtain ⟨⟨q, qa⟩, hq1, hq2⟩ := (hA2.mono (RowAt.same s)).get hy
            obtain ⟨t, xs, rfl, ht, hxs, hm⟩ := hq2
            refine ⟨t, _, rfl, SqT.of ht, rfl, _, _, rfl, _, _, rfl, rfl, rfl, ?_⟩
            unfold tYes
            dsimp only
            rw [if_pos rfl]
            have s0 : Same H H' := Same.trans s1 s
            refine ⟨_, rfl, a, _, _, _, rfl, rfl, SqT.of (s0 _ _ ha), atI_nat (j := 1) rfl, by show 1 ≤ sizeLine; decide, fun l hl1 => ?_⟩
            have s3 := same_new (o := .lst [x1]) hl1
            have f3 : (upd H' l (.lst [x1])) l = some (.lst [x1]) := upd_same
            refine ⟨_, rfl, l, qa, _, _, rfl, rfl, f3, s3 _ _ hxs, ?_, fun p hp => ?_⟩
            · have q3 := (waysL_ok k2 hok.2 (by omega) q (e2 ▸ List.mem_map.mpr ⟨(q, qa), List.mem_of_getElem? hq1, rfl⟩)).2.2
              have q4 := k2.deep_lt
              have q5 : q.1.length = xs.length := hm.len
              show 1 + xs.length ≤ sizeLine
              exact small40 (by omega)
            have s4 := same_new (o := .lst ([x1] ++ xs)) hp
            have f4 : (upd (upd H' l (.lst [x1])) p (.lst ([x1] ++ xs))) p = some (.lst ([x1] ++ xs)) := upd_same
            have s34 := Same.trans s3 s4
            generalize upd (upd H' l (.lst [x1])) p (.lst ([x1] ++ xs)) = H5 at *
            refine ⟨_, rfl, by show 2 ≤ sizeLine; decide, fun u hu => ?_⟩
            have s5 := same_new (o := .tup [.ref p, .str q.2]) hu
            obtain ⟨acc, hacc, hA'⟩ := r.ex
            have sF := Same.trans s34 s5
            refine ⟨acc, sF _ _ hacc, ?_, ps ++ [((Mv.k k1 :: q.1, q.2), p)], r.snoc hacc sF (s3.free hp) upd_same (s5 _ _ f4) ⟨KdAt.mono (tups_of (Same.trans s0 sF)) _ _ h1, hm.mono (MvAt.mono (tups_of sF))⟩, ?_, ?_, ?_⟩
            · have q6 := hA'.len
              have q7 : ps.length = (ps2.take i).length := by
                have := congrArg List.length er
                simpa using this
              rw [List.length_take] at q7
              have q8 : ps2.length = (waysL k2).length := by rw [← e2, List.length_map]
              have q9 := waysL_len k2
              exact small1000 (by omega)
            · rw [List.take_add_one, hq1, List.map_append, er, List.map_append, List.map_append]
              rfl
            · intro b hb
              rw [List.map_append] at hb
              rcases List.mem_append.mp hb with hb | hb
              · exact fr b hb
              · rw [List.mem_singleton.mp hb]
                exact s0.free (s3.free hp)
            · intro b o e
              have q := sF _ _ (s _ _ e)
              rw [upd_ne (ne_of_none e hD)]
              exact q
          · rintro H' ⟨ps, r, er, fr, s⟩
            rw [← hA2.len, List.take_length, e2] at er
            exact k D ps H' r er (Same.trans s1 s) (s1.free hD) fr
        | false =>
          refine ite2 (fun z => absurd z (by show ¬ decide (V.str "both" = V.str "to") = true; decide +kernel)) (fun _ => ?_)
          refine ⟨_, rfl, a, _, _, _, rfl, rfl, SqT.of ha, atI_nat (j := 1) rfl, x1, k1, rfl, h1, by omega, by omega, hok.1, fun S ps2 H1 r2 e2 s1 hS f2 => ?_⟩
          obtain ⟨vs2, hv2, hA2⟩ := r2.ex
          refine ⟨S, rfl, ⟨_, SqL.of hv2⟩, fun D hD => lc_list (K := K) (a := S) (xs := vs2) (RC S D H1 (.n 1) ps2) ⟨[], Res.new, rfl, fun _ z => (by cases z), same_new hD⟩ (fun i H' _ ⟨_, _, _, _, q⟩ => SqL.of (q _ _ hv2)) ?_ ?_⟩
          · rintro i y H' hy q
            obtain ⟨ps, t, xs, m, qa, acc, rfl, ht, hxs, hx1, hacc, ha1, nx⟩ := rc_turn hv2 hA2 hD (fun q hq => (waysL_ok k1 hok.1 (by omega) q (e2 ▸ hq)).2.2) (by have := k1.deep_lt; omega) (by have := waysL_len k1; have := congrArg List.length e2; rw [List.length_map] at this; omega) q hy
            refine ⟨t, _, rfl, SqT.of ht, rfl, _, _, rfl, _, _, rfl, rfl, rfl, ?_⟩
            unfold tYes
            dsimp only
            rw [if_pos rfl]
            refine ⟨by show 1 ≤ sizeLine; decide, fun l hl1 => ⟨_, rfl, l, qa, _, _, rfl, rfl, upd_same, same_new hl1 _ _ hxs, hx1, fun p hp => ⟨_, rfl, by show 2 ≤ sizeLine; decide, fun u hu => ⟨acc, ?_, ha1, ?_⟩⟩⟩⟩
            · exact same_new hu _ _ (same_new hp _ _ (same_new hl1 _ _ hacc))
            · exact nx (.int 1) l p u (fun _ _ => rfl) hl1 hp hu
          · rintro H' ⟨ps1, r1, er, fr, s⟩
            rw [← hA2.len, List.take_length, e2] at er
            have s0 : Same H H' := Same.trans s1 s
            refine ⟨_, rfl, ?_⟩
            refine ⟨_, rfl, a, _, _, _, rfl, rfl, SqT.of (s0 _ _ ha), atI_nat (j := 2) rfl, x2, k2, rfl, KdAt.mono (tups_of s0) _ _ h2, by omega, by omega, hok.2, fun S' qs2 H2 r3 e3 s2 hS' f3 => ?_⟩
            obtain ⟨us2, hu2, hB2⟩ := r3.ex
            refine ⟨S', rfl, ⟨_, SqL.of hu2⟩, fun D' hD' => lc_list (K := K) (a := S') (xs := us2) (RC S' D' H2 (.n 2) qs2) ⟨[], Res.new, rfl, fun _ z => (by cases z), same_new hD'⟩ (fun i H' _ ⟨_, _, _, _, q⟩ => SqL.of (q _ _ hu2)) ?_ ?_⟩
            · rintro i y H' hy q
              obtain ⟨ps, t, xs, m, qa, acc, rfl, ht, hxs, hx1, hacc, ha1, nx⟩ := rc_turn hu2 hB2 hD' (fun q hq => (waysL_ok k2 hok.2 (by omega) q (e3 ▸ hq)).2.2) (by have := k2.deep_lt; omega) (by have := waysL_len k2; have := congrArg List.length e3; rw [List.length_map] at this; omega) q hy
              refine ⟨t, _, rfl, SqT.of ht, rfl, _, _, rfl, _, _, rfl, rfl, rfl, ?_⟩
              unfold tYes
              dsimp only
              rw [if_pos rfl]
              refine ⟨by show 1 ≤ sizeLine; decide, fun l hl1 => ⟨_, rfl, l, qa, _, _, rfl, rfl, upd_same, same_new hl1 _ _ hxs, hx1, fun p hp => ⟨_, rfl, by show 2 ≤ sizeLine; decide, fun u hu => ⟨acc, ?_, ha1, ?_⟩⟩⟩⟩
              · exact same_new hu _ _ (same_new hp _ _ (same_new hl1 _ _ hacc))
              · exact nx (.int 2) l p u (fun _ _ => rfl) hl1 hp hu
            · rintro H3 ⟨ps3, r4, er2, fr2, s3⟩
              rw [← hB2.len, List.take_length, e3] at er2
              have s23 : Same H' H3 := Same.trans s2 s3
              obtain ⟨vs1, hv1, hl1⟩ := (r1.same s23).len
              obtain ⟨vs3, hv3, hl3⟩ := r4.len
              have z1 := waysL_len k1
              have z2 := waysL_len k2
              have y1 : ps1.length = (waysL k1).length := by have := congrArg List.length er; simpa using this
              have y2 : ps3.length = (waysL k2).length := by have := congrArg List.length er2; simpa using this
              refine ⟨D, D', vs1, vs3, rfl, rfl, hv1, hv3, small40 (by omega), fun p hp => ?_⟩
              refine k p (ps1 ++ ps3) _ ((r1.same s23).app r4 hv1 hv3 hp fun c hc d hd e => ?_) ?_ (Same.trans s0 (Same.trans s23 (same_new hp))) ((Same.trans s0 s23).free hp) ?_
              · obtain ⟨ys, ey⟩ := (r1.same s2).lists c hc
                have q := fr2 d hd
                rw [← e, ey] at q
                cases q
              · rw [List.map_append, er, er2]
                rfl
              · intro b hb
                rw [List.map_append] at hb
                rcases List.mem_append.mp hb with hb | hb
                · exact s1.free (fr b hb)
                · exact s0.free (s2.free (fr2 b hb))
end
abbrev sEnds : Stmt := top 1
abbrev sWays : Stmt := top 2
def sl : List Kd → Nat
  | [] => 0
  | k :: ks => k.leaves + sl ks
theorem sl_app : ∀ a b : List Kd, sl (a ++ b) = sl a + sl b
  | [], b => (Nat.zero_add _).symm
  | k :: a, b => by
    show k.leaves + sl (a ++ b) = k.leaves + sl a + sl b
    rw [sl_app a b]
    omega
theorem sl_len : ∀ a : List Kd, a.length ≤ sl a
  | [] => Nat.le_refl _
  | k :: a => by
    have h := sl_len a
    have p := k.leaves_pos
    show a.length + 1 ≤ k.leaves + sl a
    omega

theorem Res.push {H' H4 : Hp} {D t p : Addr} {ps : List (Row × Addr)} {q : Row} {acc xs : List V} (r : Res H' D ps) (hacc : H' D = some (.lst acc)) (s : Same H' H4) (hp : p ∉ ps.map (·.2)) (pD : p ≠ D) (ht : H4 t = some (.tup [.ref p, .str q.2]))
    (hl : H4 p = some (.lst xs)) (hm : All2 (MvAt H4) q.1 xs) : Res (upd H4 D (.lst (acc ++ [.ref t]))) D (ps ++ [(q, p)]) := by
  obtain ⟨vs, hv, hA⟩ := r.ex
  obtain rfl : vs = acc := by
    rw [hacc] at hv
    cases hv
    rfl
  have hD4 := s _ _ hacc
  have t4 : Tups H4 (upd H4 D (.lst (vs ++ [.ref t]))) := tups_lst hD4
  have tD : t ≠ D := ne_of ht hD4 (by intro z; cases z)
  refine ⟨⟨_, upd_same, (hA.mono' fun k v hk h => ?_).app ⟨⟨t, xs, rfl, ?_, ?_, hm.mono (MvAt.mono t4)⟩, trivial⟩⟩, ?_, ?_⟩
  · refine h.keep (Tups.trans (tups_of s) t4) fun ys e => ?_
    rw [upd_ne (fun (z : k.2 = D) => r.out (by rw [← z]; exact List.mem_map.mpr ⟨k, hk, rfl⟩))]
    exact s _ _ e
  · rw [upd_ne tD]
    exact ht
  · show (upd H4 D _) p = _
    rw [upd_ne pD]
    exact hl
  · rw [List.map_append]
    exact nodup_snoc r.nd hp
  · rw [List.map_append]
    intro z
    rcases List.mem_append.mp z with z | z
    · exact r.out z
    · exact pD (List.mem_singleton.mp z).symm
/-! stacks -/
abbrev Sk : Type := Kd × List Mv × Addr
def SkAt (H : Hp) (q : Sk) (v : V) : Prop := ∃ t x xs, v = .ref t ∧ H t = some (.tup [x, .ref q.2.2]) ∧ KdAt H q.1 x ∧ H q.2.2 = some (.lst xs) ∧ All2 (MvAt H) q.2.1 xs
theorem SkAt.keep {H H' : Hp} (t : Tups H H') {q : Sk} (l : ∀ xs, H q.2.2 = some (.lst xs) → H' q.2.2 = some (.lst xs)) {v : V} (h : SkAt H q v) : SkAt H' q v := by
  obtain ⟨u, x, xs, e, h1, h2, h3, h4⟩ := h
  exact ⟨u, x, xs, e, t _ _ h1, KdAt.mono t _ _ h2, l _ h3, h4.mono (MvAt.mono t)⟩
theorem SkAt.same {H H' : Hp} (s : Same H H') (q : Sk) (v : V) (h : SkAt H q v) : SkAt H' q v := h.keep (tups_of s) fun _ e => s _ _ e
def den (f : Kd → List Row) (q : Sk) : List Row := (f q.1).map fun r => (q.2.1 ++ r.1, r.2)
def denS (f : Kd → List Row) (ks : List Sk) : List Row := ks.reverse.flatMap (den f)
theorem denS_snoc (f : Kd → List Row) (ks : List Sk) (q : Sk) : denS f (ks ++ [q]) = den f q ++ denS f ks := by
  unfold denS
  rw [List.reverse_append]
  rfl
def ss (a : List Sk) : Nat := sl (a.map (·.1))
theorem ss_app (a b : List Sk) : ss (a ++ b) = ss a + ss b := by
  unfold ss
  rw [List.map_append, sl_app]
theorem ss_len (a : List Sk) : a.length ≤ ss a := by
  have h := sl_len (a.map (·.1))
  rw [List.length_map] at h
  exact h
theorem den_one (f : Kd → List Row) (ms : List Mv) (a : Addr) (h : f .one = []) : den f (.one, ms, a) = [] := by
  unfold den
  rw [h]
  rfl
theorem den_mark (f : Kd → List Row) (m : Str) (ms : List Mv) (a : Addr) (h : f (.mark m) = [([], m)]) : den f (.mark m, ms, a) = [(ms, m)] := by
  unfold den
  rw [h]
  show [(ms ++ [], m)] = _
  rw [List.append_nil]
theorem den_cons (f : Kd → List Row) (l : Kd) (x : Mv) (ms : List Mv) (a b : Addr) : ((f l).map fun q => (x :: q.1, q.2)).map (fun r => (ms ++ r.1, r.2)) = den f (l, ms ++ [x], b) := by
  unfold den
  rw [List.map_map]
  refine List.map_congr_left fun r _ => ?_
  show (ms ++ (x :: r.1), r.2) = ((ms ++ [x]) ++ r.1, r.2)
  rw [List.append_assoc]
  rfl
/-- what holds between two turns -/
structure InvE (f : Kd → List Row) (own : Bool) (kd : Kd) (v : V) (H : Hp) (E T : Addr) (m : Nat) (σ : St) (H2 : Hp) (ks : List Sk) (vs : List V) (ps : List (Row × Addr)) : Prop where
  sg : ∃ i3 i4, σ = [some v, some (.ref E), some (.ref T), i3, i4]
  hT : H2 T = some (.lst vs)
  al : All2 (SkAt H2) ks vs
  re : Res H2 E ps
  eq : ps.map (·.1) ++ denS f ks = f kd
  sm : Same H H2
  fr : ∀ a ∈ ps.map (·.2), H a = none ∧ a ≠ T
  sk : ∀ q ∈ ks, q.2.2 ≠ E ∧ q.2.2 ≠ T ∧ q.2.1.length + q.1.deep ≤ 20
  ow : own = true → (ps.map (·.2) ++ ks.map (·.2.2)).Nodup ∧ ∀ q ∈ ks, H q.2.2 = none
  me : m + ks.length = 2 * ss ks
  le : ps.length + ss ks ≤ 20
section
variable {P : Program} {w : World} {K : PySem.W.Frag} {mg : Str → Option Value} {base : Heap}
theorem scEnds : FnScope ["kind", "ends", "todo", "part", "taken"] ["kind"] (defScope sEnds) := ⟨rfl, rfl, rfl, by decide +kernel, rfl, by decide +kernel, by decide +kernel⟩
theorem ok_ends {f : Addr} {fd : FuncData} (F : Fun K "ends_of" "ends_of" sEnds f fd) (mList : mg "list" = none) : FnOk P w K mg base CX0 1 f fd ["kind"] (spRows endsL 20) := by
  refine F.ok scEnds (fun vs H Q E h => ?_) (fun cdv A outer s H vs Q EE hr h => ?_)
  · obtain ⟨v, k, rfl, _⟩ := h
    rfl
  · obtain ⟨v, kd, rfl, hk, hn, hl, hok, k⟩ := h
    refine ⟨_, pss_cons (ps_set (i := 1) scEnds.nd rfl (Or.inl rfl) (pe_lst pa_nil))
      (pss_cons (ps_set (i := 2) scEnds.nd rfl (Or.inl rfl) (pe_lst (pa_cons (pe_tup (pa_cons (pv 0) (pa_cons (pe_lst pa_nil) pa_nil))) pa_nil)))
      (pss_cons (ps_while PassesOwn.never (pt_truth (pv 2) (by intro _; rfl))
        (pss_cons (ps_asg (pe_bm0 PySem.F.plainAttrs_list PySem.F.slot_list_pop PySem.F.type_list_pop mt_pop (pv 2)) (pg_tup (by rfl) (pgs_cons (pg_name (i := 3) scEnds.nd rfl (Or.inl rfl)) (pgs_cons (pg_name (i := 4) scEnds.nd rfl (Or.inl rfl)) pgs_nil))))
        (pss_one (ps_if (pt_cmpR op_eq (pe_ix ix_tup (pv 3) pe_int (fun _ _ => rfl)) pe_str (nomark _))
          (pss_one (ps_expr (pe_bm PySem.F.plainAttrs_list PySem.F.slot_list_append PySem.F.type_list_append mt_append (pv 1) (pa_cons (pe_tup (pa_cons (pe_callTy call_list_of (by rfl) mList (by decide +kernel) (pa_cons (pv 4) pa_nil)) (pa_cons (pe_ix ix_tup (pv 3) pe_int (fun _ _ => rfl)) pa_nil))) pa_nil))))
          (pss_one (ps_if (pt_cmpR op_eq (pe_ix ix_tup (pv 3) pe_int (fun _ _ => rfl)) pe_str (nomark _))
            (pss_one (ps_expr (pe_bm PySem.F.plainAttrs_list PySem.F.slot_list_append PySem.F.type_list_append mt_append (pv 2) (pa_cons (pe_tup (pa_cons (pe_ix ix_tup (pv 3) pe_int (fun _ _ => rfl)) (pa_cons (pe_op op_cat (pv 4) (pe_lst (pa_cons (pe_ix ix_tup (pv 3) pe_int (fun _ _ => rfl)) pa_nil))) pa_nil))) pa_nil))))
            (pss_one (ps_if (pt_cmpR op_eq (pe_ix ix_tup (pv 3) pe_int (fun _ _ => rfl)) pe_str (nomark _))
              (pss_cons (ps_expr (pe_bm PySem.F.plainAttrs_list PySem.F.slot_list_append PySem.F.type_list_append mt_append (pv 2) (pa_cons (pe_tup (pa_cons (pe_ix ix_tup (pv 3) pe_int (fun _ _ => rfl)) (pa_cons (pv 4) pa_nil))) pa_nil)))
              (pss_one (ps_expr (pe_bm PySem.F.plainAttrs_list PySem.F.slot_list_append PySem.F.type_list_append mt_append (pv 2) (pa_cons (pe_tup (pa_cons (pe_ix ix_tup (pv 3) pe_int (fun _ _ => rfl)) (pa_cons (pv 4) pa_nil))) pa_nil))))) pss_nil))))))))
      (pss_one (ps_ret (pv 1))))), ?_⟩
    refine ⟨by show 0 ≤ sizeLine; decide, fun E hE => ?_⟩
    have sE := same_new (o := .lst []) hE
    refine ⟨_, rfl, by show 0 ≤ sizeLine; decide, fun a0 ha0 => ⟨by show 2 ≤ sizeLine; decide, fun t0 ht0 => ⟨by show 1 ≤ sizeLine; decide, fun T hT1 => ?_⟩⟩⟩
    have s1 := same_new (o := .lst []) ha0
    have s2 := same_new (o := .tup [v, .ref a0]) ht0
    have s3 := same_new (o := .lst [.ref t0]) hT1
    have fE : upd H E (.lst []) E = some (.lst []) := upd_same
    have fa : (upd (upd H E (.lst [])) a0 (.lst [])) a0 = some (.lst []) := upd_same
    have ft : (upd (upd (upd H E (.lst [])) a0 (.lst [])) t0 (.tup [v, .ref a0])) t0 = some (.tup [v, .ref a0]) := upd_same
    have ET : E ≠ T := ne_of_none (s2 _ _ (s1 _ _ fE)) hT1
    have aE : a0 ≠ E := fun z => by rw [z, fE] at ha0; cases ha0
    have aT : a0 ≠ T := ne_of_none (s2 _ _ fa) hT1
    have hTn : H T = none := sE.free (s1.free (s2.free hT1))
    have S0 := Same.trans sE (Same.trans s1 (Same.trans s2 s3))
    refine ⟨fun m σ H2 => ∃ ks vs ps, InvE endsL false kd v H E T m σ H2 ks vs ps, ⟨2 * kd.leaves - 1, [(kd, [], a0)], [.ref t0], [], ⟨⟨none, none, rfl⟩, upd_same, ⟨⟨t0, v, [], rfl, s3 _ _ ft, KdAt.mono (tups_of S0) _ _ hk, s3 _ _ (s2 _ _ fa), trivial⟩, trivial⟩,
      (Res.new (H := H) (D := E)).same (Same.trans s1 (Same.trans s2 s3)), ?_, S0, fun _ z => (by cases z), ?_, fun z => (by cases z), ?_, ?_⟩⟩, ?_⟩
    · show [] ++ denS endsL ([] ++ [(kd, [], a0)]) = _
      rw [denS_snoc, List.nil_append]
      show (endsL kd).map _ ++ [] = _
      rw [List.append_nil]
      exact List.map_id _
    · intro q hq
      rw [List.mem_singleton.mp hq]
      exact ⟨aE, aT, by show 0 + kd.deep ≤ 20; omega⟩
    · have := kd.leaves_pos
      show 2 * kd.leaves - 1 + 1 = 2 * (kd.leaves + 0)
      omega
    · show 0 + (kd.leaves + 0) ≤ 20
      omega
    rintro m σ H2 ⟨ks, vs, ps, I⟩
    obtain ⟨⟨i3, i4, rfl⟩, hv, hA, hR, hEq, hS, hF, hK, hO, hm, hle⟩ := I
    refine ⟨_, rfl, _, .inl ⟨_, SqL.of hv, rfl⟩, ?_⟩
    by_cases he : vs = []
    · subst he
      refine iteF ?_
      obtain rfl : ks = [] := List.eq_nil_of_length_eq_zero hA.len
      exact ⟨_, rfl, k E ps H2 hR (by rw [← hEq]; exact (List.append_nil _).symm) hS hE fun a ha => (hF a ha).1⟩
    · obtain ⟨ls, ⟨kx, ms, a⟩, y, rfl, ev, hl2, hr2, hy⟩ := hA.last he
      have e1 : (!vs.isEmpty) = true := by cases vs with | nil => exact absurd rfl he | cons a r => rfl
      rw [if_pos e1]
      have hka := hK (kx, ms, a) (by simp)
      have t1 : Tups H2 (upd H2 T (.lst vs.dropLast)) := tups_lst hv
      have kp1 : ∀ (b : Addr) (zs : List V), b ≠ T → H2 b = some (.lst zs) → (upd H2 T (.lst vs.dropLast)) b = some (.lst zs) := fun b zs n e => by rw [upd_ne n]; exact e
      have hr3 := hr2.keep t1 fun xs e => kp1 a xs hka.2.1 e
      have hls : All2 (SkAt (upd H2 T (.lst vs.dropLast))) ls vs.dropLast := hl2.mono' fun q v hq h => h.keep t1 fun xs e => kp1 _ xs (hK q (List.mem_append_left _ hq)).2.1 e
      have hR1 : Res (upd H2 T (.lst vs.dropLast)) E ps := hR.keep t1 fun b zs hb e => kp1 b zs (hb.elim (fun q => by rw [q]; exact ET) fun q => (hF b q).2) e
      have hS1 : Same H (upd H2 T (.lst vs.dropLast)) := same_over hS hTn
      have hT1 : (upd H2 T (.lst vs.dropLast)) T = some (.lst vs.dropLast) := upd_same
      obtain ⟨tt, x, xs, rfl, htt, hkx, hax, hms⟩ := hr3
      rw [denS_snoc] at hEq
      rw [ss_app] at hm hle
      rw [List.length_append] at hm
      change m + (ls.length + 1) = 2 * (ss ls + (kx.leaves + 0)) at hm
      change ps.length + (ss ls + (kx.leaves + 0)) ≤ 20 at hle
      have z1 := ss_len ls
      have z2 := hl2.len
      have c1 := kx.leaves_pos
      have z3 : xs.length = ms.length := hms.len.symm
      refine ⟨_, fun _ _ z => z, ?_⟩
      refine ⟨_, rfl, .inl ⟨rfl, _, .inl (.inl hv)⟩, T, vs, _, rfl, rfl, hv, hy, ?_⟩
      refine ⟨tt, _, rfl, SqT.of htt, rfl, ?_⟩
      refine ⟨_, _, rfl, _, _, rfl, rfl, ?_⟩
      generalize upd H2 T (.lst vs.dropLast) = H3 at *
      have hK' : ∀ q ∈ ls, q.2.2 ≠ E ∧ q.2.2 ≠ T ∧ q.2.1.length + q.1.deep ≤ 20 := fun q hq => hK q (List.mem_append_left _ hq)
      cases kx with
      | one =>
        obtain ⟨b, rfl, hb⟩ := hkx
        refine ⟨_, rfl, b, _, _, _, rfl, rfl, SqT.of hb, atI_nat (j := 0) rfl, rfl, _, rfl, ?_⟩
        refine ite2 (fun h => absurd h (by decide +kernel)) (fun _ => ?_)
        refine ⟨_, rfl, b, _, _, _, rfl, rfl, SqT.of hb, atI_nat (j := 0) rfl, rfl, _, rfl, ?_⟩
        refine ite2 (fun h => absurd h (by decide +kernel)) (fun _ => ?_)
        refine ⟨_, rfl, b, _, _, _, rfl, rfl, SqT.of hb, atI_nat (j := 0) rfl, rfl, _, rfl, ?_⟩
        refine ite2 (fun h => absurd h (by decide +kernel)) (fun _ => ?_)
        change m + (ls.length + 1) = 2 * (ss ls + (1 + 0)) at hm
        change ps.length + (ss ls + (1 + 0)) ≤ 20 at hle
        rw [den_one endsL ms a rfl] at hEq
        exact ⟨m - 1, by omega, ls, _, ps, ⟨⟨_, _, rfl⟩, hT1, hls, hR1, hEq, hS1, hF, hK', fun z => (by cases z), by omega, by omega⟩⟩
      | mark mm =>
        obtain ⟨b, rfl, hb⟩ := hkx
        refine ⟨_, rfl, b, _, _, _, rfl, rfl, SqT.of hb, atI_nat (j := 0) rfl, rfl, _, rfl, ?_⟩
        refine ite2 (fun _ => ?_) (fun h => absurd (by decide +kernel) h)
        change m + (ls.length + 1) = 2 * (ss ls + (1 + 0)) at hm
        change ps.length + (ss ls + (1 + 0)) ≤ 20 at hle
        rw [den_mark endsL mm ms a rfl] at hEq
        obtain ⟨acc, hacc, hA'⟩ := hR1.ex
        refine ⟨_, rfl, .inl ⟨rfl, _, .inl (.inl hacc)⟩, _, rfl, a, _, rfl, .inl (SqL.of hax), fun p hp => ?_⟩
        have s4 := same_new (o := .lst xs) hp
        have f4 : (upd H3 p (.lst xs)) p = some (.lst xs) := upd_same
        refine ⟨_, rfl, b, _, _, _, rfl, rfl, SqT.of (s4 _ _ hb), atI_nat (j := 1) rfl, by show 2 ≤ sizeLine; decide, fun u hu => ?_⟩
        have s5 := same_new (o := .tup [.ref p, .str mm]) hu
        have f5 : (upd (upd H3 p (.lst xs)) u (.tup [.ref p, .str mm])) u = some (.tup [.ref p, .str mm]) := upd_same
        have s45 := Same.trans s4 s5
        have z5 := hA'.len
        refine ⟨E, acc, _, rfl, rfl, s45 _ _ hacc, small1000 (by omega), ?_⟩
        have pE : p ≠ E := fun z => by rw [z, hacc] at hp; cases hp
        have pT : p ≠ T := fun z => by rw [z, hT1] at hp; cases hp
        have R' := hR1.push (q := (ms, mm)) hacc s45 (fun z => by obtain ⟨ys, e⟩ := hR1.lists p z; rw [hp] at e; cases e) pE f5 (s5 _ _ f4) (hms.mono (MvAt.mono (tups_of s45)))
        generalize upd (upd H3 p (.lst xs)) u (.tup [.ref p, .str mm]) = H5 at *
        have t6 : Tups H3 (upd H5 E (.lst (acc ++ [.ref u]))) := Tups.trans (tups_of s45) (tups_lst (s45 _ _ hacc))
        refine ⟨m - 1, by omega, ls, _, ps ++ [((ms, mm), p)], ⟨⟨_, _, rfl⟩, ?_, hls.mono' fun q v hq h => h.keep t6 fun ys e => (by rw [upd_ne (hK' q hq).1]; exact s45 _ _ e), R', ?_, ?_, ?_, hK', fun z => (by cases z), by omega, ?_⟩⟩
        · rw [upd_ne ET.symm]
          exact s45 _ _ hT1
        · rw [List.map_append, List.append_assoc]
          exact hEq
        · exact same_over (Same.trans hS1 s45) hE
        · intro c hc
          rw [List.map_append] at hc
          rcases List.mem_append.mp hc with hc | hc
          · exact hF c hc
          · rw [List.mem_singleton.mp hc]
            exact ⟨hS1.free hp, pT⟩
        · rw [List.length_append]
          show ps.length + 1 + ss ls ≤ 20
          omega
      | two bb k1 k2 =>
        have p1 := k1.leaves_pos
        have p2 := k2.leaves_pos
        change m + (ls.length + 1) = 2 * (ss ls + (k1.leaves + k2.leaves + 0)) at hm
        change ps.length + (ss ls + (k1.leaves + k2.leaves + 0)) ≤ 20 at hle
        have hka3 : ms.length + (max k1.deep k2.deep + 1) ≤ 20 := hka.2.2
        obtain ⟨b, x1, x2, rfl, hb, h1, h2⟩ := hkx
        refine ⟨_, rfl, b, _, _, _, rfl, rfl, SqT.of hb, atI_nat (j := 0) rfl, rfl, _, rfl, ?_⟩
        refine ite2 (fun h => absurd h (by cases bb <;> decide +kernel)) (fun _ => ?_)
        refine ⟨_, rfl, b, _, _, _, rfl, rfl, SqT.of hb, atI_nat (j := 0) rfl, rfl, _, rfl, ?_⟩
        cases bb with
        | true =>
          refine ite2 (fun _ => ?_) (fun z => absurd (by show decide (V.str "to" = V.str "to") = true; decide +kernel) z)
          refine ⟨_, rfl, .inl ⟨rfl, _, .inl (.inl hT1)⟩, _, rfl, b, _, _, _, rfl, rfl, SqT.of hb, atI_nat (j := 2) rfl, _, rfl, _, rfl, b, _, _, _, rfl, rfl, SqT.of hb, atI_nat (j := 1) rfl, by show 1 ≤ sizeLine; decide, fun l hl1 => ?_⟩
          have s4 := same_new (o := .lst [x1]) hl1
          have f4 : (upd H3 l (.lst [x1])) l = some (.lst [x1]) := upd_same
          generalize upd H3 l (.lst [x1]) = H4 at *
          refine ⟨a, l, xs, _, rfl, rfl, s4 _ _ hax, f4, by show xs.length + 1 ≤ sizeLine; exact small40 (by omega), fun p hp => ?_⟩
          have s5 := same_new (o := .lst (xs ++ [x1])) hp
          have f5 : (upd H4 p (.lst (xs ++ [x1]))) p = some (.lst (xs ++ [x1])) := upd_same
          have pE : p ≠ E := fun z => by
            obtain ⟨acc, hacc, _⟩ := hR1.ex
            rw [z, s4 _ _ hacc] at hp
            cases hp
          have pT : p ≠ T := fun z => by rw [z, s4 _ _ hT1] at hp; cases hp
          generalize upd H4 p (.lst (xs ++ [x1])) = H5 at *
          refine ⟨by show 2 ≤ sizeLine; decide, fun u hu => ?_⟩
          have s6 := same_new (o := .tup [x2, .ref p]) hu
          have f6 : (upd H5 u (.tup [x2, .ref p])) u = some (.tup [x2, .ref p]) := upd_same
          have s36 := Same.trans s4 (Same.trans s5 s6)
          refine ⟨T, vs.dropLast, _, rfl, rfl, s36 _ _ hT1, small1000 (by omega), ?_⟩
          have uT : u ≠ T := ne_of f6 (s36 _ _ hT1) (by intro z; cases z)
          generalize upd H5 u (.tup [x2, .ref p]) = H6 at *
          have t7 : Tups H6 (upd H6 T (.lst (vs.dropLast ++ [.ref u]))) := tups_lst (s36 _ _ hT1)
          have t37 := Tups.trans (tups_of s36) t7
          have kp7 : ∀ (c : Addr) (zs : List V), c ≠ T → H6 c = some (.lst zs) → (upd H6 T (.lst (vs.dropLast ++ [.ref u]))) c = some (.lst zs) := fun c zs n e => by rw [upd_ne n]; exact e
          refine ⟨m - 2 * k1.leaves, by omega, ls ++ [(k2, ms ++ [Mv.k k1], p)], _, ps, ⟨⟨_, _, rfl⟩, upd_same, (hls.mono' fun q v hq h => h.keep t37 fun ys e => kp7 _ _ (hK' q hq).2.1 (s36 _ _ e)).app ⟨⟨u, x2, _, rfl, t7 _ _ f6, KdAt.mono t37 _ _ h2, kp7 _ _ pT (s6 _ _ f5), ?_⟩, trivial⟩,
            hR1.keep t37 fun c zs hc e => kp7 c zs (hc.elim (fun q => by rw [q]; exact ET) fun q => (hF c q).2) (s36 _ _ e), ?_, same_over (Same.trans hS1 s36) hTn, hF, ?_, fun z => (by cases z), ?_, ?_⟩⟩
          · exact (hms.mono (MvAt.mono t37)).app ⟨KdAt.mono t37 _ _ h1, trivial⟩
          · rw [denS_snoc, ← den_cons endsL k2 (Mv.k k1) ms a p]
            exact hEq
          · intro q hq
            rcases List.mem_append.mp hq with hq | hq
            · exact hK' q hq
            · rw [List.mem_singleton.mp hq]
              refine ⟨pE, pT, ?_⟩
              show (ms ++ [Mv.k k1]).length + k2.deep ≤ 20
              rw [List.length_append]
              show ms.length + 1 + k2.deep ≤ 20
              omega
          · rw [ss_app, List.length_append]
            show m - 2 * k1.leaves + (ls.length + 1) = 2 * (ss ls + (k2.leaves + 0))
            omega
          · rw [ss_app]
            show ps.length + (ss ls + (k2.leaves + 0)) ≤ 20
            omega
        | false =>
          refine ite2 (fun z => absurd z (by show ¬ decide (V.str "both" = V.str "to") = true; decide +kernel)) (fun _ => ?_)
          refine ⟨_, rfl, b, _, _, _, rfl, rfl, SqT.of hb, atI_nat (j := 0) rfl, rfl, _, rfl, ?_⟩
          refine ite2 (fun _ => ?_) (fun z => absurd (by show decide (V.str "both" = V.str "both") = true; decide +kernel) z)
          refine ⟨_, rfl, .inl ⟨rfl, _, .inl (.inl hT1)⟩, _, rfl, b, _, _, _, rfl, rfl, SqT.of hb, atI_nat (j := 2) rfl, _, rfl, by show 2 ≤ sizeLine; decide, fun u hu => ?_⟩
          have s6 := same_new (o := .tup [x2, .ref a]) hu
          have f6 : (upd H3 u (.tup [x2, .ref a])) u = some (.tup [x2, .ref a]) := upd_same
          refine ⟨T, vs.dropLast, _, rfl, rfl, s6 _ _ hT1, small1000 (by omega), ?_⟩
          have t7 : Tups (upd H3 u (.tup [x2, .ref a])) (upd (upd H3 u (.tup [x2, .ref a])) T (.lst (vs.dropLast ++ [.ref u]))) := tups_lst (s6 _ _ hT1)
          have fT7 : (upd (upd H3 u (.tup [x2, .ref a])) T (.lst (vs.dropLast ++ [.ref u]))) T = some (.lst (vs.dropLast ++ [.ref u])) := upd_same
          have kp7 : ∀ (c : Addr) (zs : List V), c ≠ T → (upd H3 u (.tup [x2, .ref a])) c = some (.lst zs) → (upd (upd H3 u (.tup [x2, .ref a])) T (.lst (vs.dropLast ++ [.ref u]))) c = some (.lst zs) := fun c zs n e => by rw [upd_ne n]; exact e
          have S7 := same_over (T := T) (o := .lst (vs.dropLast ++ [.ref u])) (Same.trans hS1 s6) hTn
          have t37 := Tups.trans (tups_of s6) t7
          generalize upd (upd H3 u (.tup [x2, .ref a])) T (.lst (vs.dropLast ++ [.ref u])) = H7 at *
          refine ⟨_, rfl, .inl ⟨rfl, _, .inl (.inl fT7)⟩, _, rfl, b, _, _, _, rfl, rfl, SqT.of (t37 _ _ hb), atI_nat (j := 1) rfl, _, rfl, by show 2 ≤ sizeLine; decide, fun w1 hw1 => ?_⟩
          have s8 := same_new (o := .tup [x1, .ref a]) hw1
          have f8 : (upd H7 w1 (.tup [x1, .ref a])) w1 = some (.tup [x1, .ref a]) := upd_same
          have zz : (vs.dropLast ++ [V.ref u]).length = vs.dropLast.length + 1 := by rw [List.length_append]; rfl
          refine ⟨T, _, _, rfl, rfl, s8 _ _ fT7, small1000 (by omega), ?_⟩
          have t9 : Tups (upd H7 w1 (.tup [x1, .ref a])) (upd (upd H7 w1 (.tup [x1, .ref a])) T (.lst (vs.dropLast ++ [.ref u] ++ [.ref w1]))) := tups_lst (s8 _ _ fT7)
          have kp9 : ∀ (c : Addr) (zs : List V), c ≠ T → (upd H7 w1 (.tup [x1, .ref a])) c = some (.lst zs) → (upd (upd H7 w1 (.tup [x1, .ref a])) T (.lst (vs.dropLast ++ [.ref u] ++ [.ref w1]))) c = some (.lst zs) := fun c zs n e => by rw [upd_ne n]; exact e
          have t39 := Tups.trans t37 (Tups.trans (tups_of s8) t9)
          have kp39 : ∀ (c : Addr) (zs : List V), c ≠ T → H3 c = some (.lst zs) → (upd (upd H7 w1 (.tup [x1, .ref a])) T (.lst (vs.dropLast ++ [.ref u] ++ [.ref w1]))) c = some (.lst zs) := fun c zs n e => kp9 c zs n (s8 _ _ (kp7 c zs n (s6 _ _ e)))
          have B1 : All2 (SkAt (upd (upd H7 w1 (.tup [x1, .ref a])) T (.lst (vs.dropLast ++ [.ref u] ++ [.ref w1])))) [(k2, ms, a)] [.ref u] := ⟨⟨u, x2, xs, rfl, t9 _ _ (s8 _ _ (t7 _ _ f6)), KdAt.mono t39 _ _ h2, kp39 _ _ hka.2.1 hax, hms.mono (MvAt.mono t39)⟩, trivial⟩
          have B2 : All2 (SkAt (upd (upd H7 w1 (.tup [x1, .ref a])) T (.lst (vs.dropLast ++ [.ref u] ++ [.ref w1])))) [(k1, ms, a)] [.ref w1] := ⟨⟨w1, x1, xs, rfl, t9 _ _ f8, KdAt.mono t39 _ _ h1, kp39 _ _ hka.2.1 hax, hms.mono (MvAt.mono t39)⟩, trivial⟩
          refine ⟨m - 1, by omega, (ls ++ [(k2, ms, a)]) ++ [(k1, ms, a)], _, ps, ⟨⟨_, _, rfl⟩, upd_same, ((hls.mono' fun q v hq h => h.keep t39 fun ys e => kp39 _ _ (hK' q hq).2.1 e).app B1).app B2,
            hR1.keep t39 fun c zs hc e => kp39 c zs (hc.elim (fun q => by rw [q]; exact ET) fun q => (hF c q).2) e, ?_, same_over (Same.trans S7 s8) hTn, hF, ?_, fun z => (by cases z), ?_, ?_⟩⟩
          · rw [denS_snoc, denS_snoc, ← List.append_assoc (den endsL (k1, ms, a))]
            have e : den endsL (.two false k1 k2, ms, a) = den endsL (k1, ms, a) ++ den endsL (k2, ms, a) := List.map_append
            rw [← e]
            exact hEq
          · intro q hq
            have e2 : ms.length + k2.deep ≤ 20 := by omega
            have e3 : ms.length + k1.deep ≤ 20 := by omega
            rcases List.mem_append.mp hq with hq | hq
            · rcases List.mem_append.mp hq with hq | hq
              · exact hK' q hq
              · rw [List.mem_singleton.mp hq]
                exact ⟨hka.1, hka.2.1, e2⟩
            · rw [List.mem_singleton.mp hq]
              exact ⟨hka.1, hka.2.1, e3⟩
          · rw [ss_app, ss_app, List.length_append, List.length_append]
            show m - 1 + (ls.length + 1 + 1) = 2 * (ss ls + (k2.leaves + 0) + (k1.leaves + 0))
            omega
          · rw [ss_app, ss_app]
            show ps.length + (ss ls + (k2.leaves + 0) + (k1.leaves + 0)) ≤ 20
            omega
end
theorem nd_pop {A B : List Addr} {a : Addr} (h : (A ++ (B ++ [a])).Nodup) : (A ++ B).Nodup ∧ a ∉ A ∧ a ∉ B := by
  rw [← List.append_assoc, List.nodup_append] at h
  obtain ⟨h1, _, h3⟩ := h
  exact ⟨h1, fun z => h3 a (List.mem_append_left _ z) a (by simp) rfl, fun z => h3 a (List.mem_append_right _ z) a (by simp) rfl⟩
theorem nd_put {A B : List Addr} {p : Addr} (h : (A ++ B).Nodup) (hA : p ∉ A) (hB : p ∉ B) : (A ++ (B ++ [p])).Nodup := by
  rw [← List.append_assoc]
  exact nodup_snoc h fun z => (List.mem_append.mp z).elim hA hB
theorem nd_mid {A B : List Addr} {p : Addr} (h : (A ++ B).Nodup) (hA : p ∉ A) (hB : p ∉ B) : ((A ++ [p]) ++ B).Nodup := by
  rw [List.nodup_append] at h ⊢
  obtain ⟨h1, h2, h3⟩ := h
  refine ⟨nodup_snoc h1 hA, h2, fun x hx y hy => ?_⟩
  rcases List.mem_append.mp hx with hx | hx
  · exact h3 x hx y hy
  · rw [List.mem_singleton.mp hx]
    exact fun e => hB (e ▸ hy)
theorem sk_lists {H : Hp} : ∀ {ks : List Sk} {vs : List V}, All2 (SkAt H) ks vs → ∀ a ∈ ks.map (·.2.2), ∃ xs, H a = some (.lst xs)
  | [], [], _, _, h => by cases h
  | q :: _, _ :: _, ⟨h, t⟩, a, m => by
    rcases List.mem_cons.mp m with m | m
    · obtain ⟨_, _, xs, _, _, _, e, _⟩ := h
      exact ⟨xs, m ▸ e⟩
    · exact sk_lists t a m
  | [], _ :: _, h, _, _ => h.elim
  | _ :: _, [], h, _, _ => h.elim
section
variable {P : Program} {w : World} {K : PySem.W.Frag} {mg : Str → Option Value} {base : Heap}
theorem scWays : FnScope ["kind", "ways", "todo", "part", "moves"] ["kind"] (defScope sWays) := ⟨rfl, rfl, rfl, by decide +kernel, rfl, by decide +kernel, by decide +kernel⟩
theorem ok_ways {f : Addr} {fd : FuncData} (F : Fun K "ways_of" "ways_of" sWays f fd) : FnOk P w K mg base CX0 1 f fd ["kind"] (spRows waysL 20) := by
  refine F.ok scWays (fun vs H Q E h => ?_) (fun cdv A outer s H vs Q EE hr h => ?_)
  · obtain ⟨v, k, rfl, _⟩ := h
    rfl
  · obtain ⟨v, kd, rfl, hk, hn, hl, hok, k⟩ := h
    refine ⟨_, pss_cons (ps_set (i := 1) scWays.nd rfl (Or.inl rfl) (pe_lst pa_nil))
      (pss_cons (ps_set (i := 2) scWays.nd rfl (Or.inl rfl) (pe_lst (pa_cons (pe_tup (pa_cons (pv 0) (pa_cons (pe_lst pa_nil) pa_nil))) pa_nil)))
      (pss_cons (ps_while PassesOwn.never (pt_truth (pv 2) (by intro _; rfl))
        (pss_cons (ps_asg (pe_bm0 PySem.F.plainAttrs_list PySem.F.slot_list_pop PySem.F.type_list_pop mt_pop (pv 2)) (pg_tup (by rfl) (pgs_cons (pg_name (i := 3) scWays.nd rfl (Or.inl rfl)) (pgs_cons (pg_name (i := 4) scWays.nd rfl (Or.inl rfl)) pgs_nil))))
        (pss_one (ps_if (pt_cmpR op_eq (pe_ix ix_tup (pv 3) pe_int (fun _ _ => rfl)) pe_str (nomark _))
          (pss_one (ps_expr (pe_bm PySem.F.plainAttrs_list PySem.F.slot_list_append PySem.F.type_list_append mt_append (pv 1) (pa_cons (pe_tup (pa_cons (pv 4) (pa_cons (pe_ix ix_tup (pv 3) pe_int (fun _ _ => rfl)) pa_nil))) pa_nil))))
          (pss_one (ps_if (pt_cmpR op_eq (pe_ix ix_tup (pv 3) pe_int (fun _ _ => rfl)) pe_str (nomark _))
            (pss_one (ps_expr (pe_bm PySem.F.plainAttrs_list PySem.F.slot_list_append PySem.F.type_list_append mt_append (pv 2) (pa_cons (pe_tup (pa_cons (pe_ix ix_tup (pv 3) pe_int (fun _ _ => rfl)) (pa_cons (pe_op op_cat (pv 4) (pe_lst (pa_cons (pe_ix ix_tup (pv 3) pe_int (fun _ _ => rfl)) pa_nil))) pa_nil))) pa_nil))))
            (pss_one (ps_if (pt_cmpR op_eq (pe_ix ix_tup (pv 3) pe_int (fun _ _ => rfl)) pe_str (nomark _))
              (pss_cons (ps_expr (pe_bm PySem.F.plainAttrs_list PySem.F.slot_list_append PySem.F.type_list_append mt_append (pv 2) (pa_cons (pe_tup (pa_cons (pe_ix ix_tup (pv 3) pe_int (fun _ _ => rfl)) (pa_cons (pe_op op_cat (pv 4) (pe_lst (pa_cons pe_int pa_nil))) pa_nil))) pa_nil)))
              (pss_one (ps_expr (pe_bm PySem.F.plainAttrs_list PySem.F.slot_list_append PySem.F.type_list_append mt_append (pv 2) (pa_cons (pe_tup (pa_cons (pe_ix ix_tup (pv 3) pe_int (fun _ _ => rfl)) (pa_cons (pe_op op_cat (pv 4) (pe_lst (pa_cons pe_int pa_nil))) pa_nil))) pa_nil))))) pss_nil))))))))
      (pss_one (ps_ret (pv 1))))), ?_⟩
    refine ⟨by show 0 ≤ sizeLine; decide, fun E hE => ?_⟩
    have sE := same_new (o := .lst []) hE
    refine ⟨_, rfl, by show 0 ≤ sizeLine; decide, fun a0 ha0 => ⟨by show 2 ≤ sizeLine; decide, fun t0 ht0 => ⟨by show 1 ≤ sizeLine; decide, fun T hT1 => ?_⟩⟩⟩
    have s1 := same_new (o := .lst []) ha0
    have s2 := same_new (o := .tup [v, .ref a0]) ht0
    have s3 := same_new (o := .lst [.ref t0]) hT1
    have fE : upd H E (.lst []) E = some (.lst []) := upd_same
    have fa : (upd (upd H E (.lst [])) a0 (.lst [])) a0 = some (.lst []) := upd_same
    have ft : (upd (upd (upd H E (.lst [])) a0 (.lst [])) t0 (.tup [v, .ref a0])) t0 = some (.tup [v, .ref a0]) := upd_same
    have ET : E ≠ T := ne_of_none (s2 _ _ (s1 _ _ fE)) hT1
    have aE : a0 ≠ E := fun z => by rw [z, fE] at ha0; cases ha0
    have aT : a0 ≠ T := ne_of_none (s2 _ _ fa) hT1
    have hTn : H T = none := sE.free (s1.free (s2.free hT1))
    have S0 := Same.trans sE (Same.trans s1 (Same.trans s2 s3))
    refine ⟨fun m σ H2 => ∃ ks vs ps, InvE waysL true kd v H E T m σ H2 ks vs ps, ⟨2 * kd.leaves - 1, [(kd, [], a0)], [.ref t0], [], ⟨⟨none, none, rfl⟩, upd_same, ⟨⟨t0, v, [], rfl, s3 _ _ ft, KdAt.mono (tups_of S0) _ _ hk, s3 _ _ (s2 _ _ fa), trivial⟩, trivial⟩,
      (Res.new (H := H) (D := E)).same (Same.trans s1 (Same.trans s2 s3)), ?_, S0, fun _ z => (by cases z), ?_, fun _ => ⟨by simp, fun q hq => (by rw [List.mem_singleton.mp hq]; exact sE.free ha0)⟩, ?_, ?_⟩⟩, ?_⟩
    · show [] ++ denS waysL ([] ++ [(kd, [], a0)]) = _
      rw [denS_snoc, List.nil_append]
      show (waysL kd).map _ ++ [] = _
      rw [List.append_nil]
      exact List.map_id _
    · intro q hq
      rw [List.mem_singleton.mp hq]
      exact ⟨aE, aT, by show 0 + kd.deep ≤ 20; omega⟩
    · have := kd.leaves_pos
      show 2 * kd.leaves - 1 + 1 = 2 * (kd.leaves + 0)
      omega
    · show 0 + (kd.leaves + 0) ≤ 20
      omega
    rintro m σ H2 ⟨ks, vs, ps, I⟩
    obtain ⟨⟨i3, i4, rfl⟩, hv, hA, hR, hEq, hS, hF, hK, hO, hm, hle⟩ := I
    refine ⟨_, rfl, _, .inl ⟨_, SqL.of hv, rfl⟩, ?_⟩
    by_cases he : vs = []
    · subst he
      refine iteF ?_
      obtain rfl : ks = [] := List.eq_nil_of_length_eq_zero hA.len
      exact ⟨_, rfl, k E ps H2 hR (by rw [← hEq]; exact (List.append_nil _).symm) hS hE fun a ha => (hF a ha).1⟩
    · obtain ⟨ls, ⟨kx, ms, a⟩, y, rfl, ev, hl2, hr2, hy⟩ := hA.last he
      have e1 : (!vs.isEmpty) = true := by cases vs with | nil => exact absurd rfl he | cons a r => rfl
      rw [if_pos e1]
      have hka := hK (kx, ms, a) (by simp)
      have t1 : Tups H2 (upd H2 T (.lst vs.dropLast)) := tups_lst hv
      have kp1 : ∀ (b : Addr) (zs : List V), b ≠ T → H2 b = some (.lst zs) → (upd H2 T (.lst vs.dropLast)) b = some (.lst zs) := fun b zs n e => by rw [upd_ne n]; exact e
      have hr3 := hr2.keep t1 fun xs e => kp1 a xs hka.2.1 e
      have hls : All2 (SkAt (upd H2 T (.lst vs.dropLast))) ls vs.dropLast := hl2.mono' fun q v hq h => h.keep t1 fun xs e => kp1 _ xs (hK q (List.mem_append_left _ hq)).2.1 e
      have hR1 : Res (upd H2 T (.lst vs.dropLast)) E ps := hR.keep t1 fun b zs hb e => kp1 b zs (hb.elim (fun q => by rw [q]; exact ET) fun q => (hF b q).2) e
      have hS1 : Same H (upd H2 T (.lst vs.dropLast)) := same_over hS hTn
      have hT1 : (upd H2 T (.lst vs.dropLast)) T = some (.lst vs.dropLast) := upd_same
      obtain ⟨tt, x, xs, rfl, htt, hkx, hax, hms⟩ := hr3
      rw [denS_snoc] at hEq
      rw [ss_app] at hm hle
      rw [List.length_append] at hm
      change m + (ls.length + 1) = 2 * (ss ls + (kx.leaves + 0)) at hm
      change ps.length + (ss ls + (kx.leaves + 0)) ≤ 20 at hle
      have z1 := ss_len ls
      have z2 := hl2.len
      have c1 := kx.leaves_pos
      have z3 : xs.length = ms.length := hms.len.symm
      refine ⟨_, fun _ _ z => z, ?_⟩
      refine ⟨_, rfl, .inl ⟨rfl, _, .inl (.inl hv)⟩, T, vs, _, rfl, rfl, hv, hy, ?_⟩
      refine ⟨tt, _, rfl, SqT.of htt, rfl, ?_⟩
      refine ⟨_, _, rfl, _, _, rfl, rfl, ?_⟩
      generalize upd H2 T (.lst vs.dropLast) = H3 at *
      have hK' : ∀ q ∈ ls, q.2.2 ≠ E ∧ q.2.2 ≠ T ∧ q.2.1.length + q.1.deep ≤ 20 := fun q hq => hK q (List.mem_append_left _ hq)
      obtain ⟨hO1, hO2⟩ := hO rfl
      rw [List.map_append] at hO1
      obtain ⟨nd1, nd2, nd3⟩ := nd_pop hO1
      have haH : H a = none := hO2 (kx, ms, a) (by simp)
      have hOl : ∀ q ∈ ls, H q.2.2 = none := fun q hq => hO2 q (List.mem_append_left _ hq)
      have lsl := sk_lists hls
      cases kx with
      | one =>
        obtain ⟨b, rfl, hb⟩ := hkx
        refine ⟨_, rfl, b, _, _, _, rfl, rfl, SqT.of hb, atI_nat (j := 0) rfl, rfl, _, rfl, ?_⟩
        refine ite2 (fun h => absurd h (by decide +kernel)) (fun _ => ?_)
        refine ⟨_, rfl, b, _, _, _, rfl, rfl, SqT.of hb, atI_nat (j := 0) rfl, rfl, _, rfl, ?_⟩
        refine ite2 (fun h => absurd h (by decide +kernel)) (fun _ => ?_)
        refine ⟨_, rfl, b, _, _, _, rfl, rfl, SqT.of hb, atI_nat (j := 0) rfl, rfl, _, rfl, ?_⟩
        refine ite2 (fun h => absurd h (by decide +kernel)) (fun _ => ?_)
        change m + (ls.length + 1) = 2 * (ss ls + (1 + 0)) at hm
        change ps.length + (ss ls + (1 + 0)) ≤ 20 at hle
        rw [den_one waysL ms a rfl] at hEq
        exact ⟨m - 1, by omega, ls, _, ps, ⟨⟨_, _, rfl⟩, hT1, hls, hR1, hEq, hS1, hF, hK', fun _ => ⟨nd1, hOl⟩, by omega, by omega⟩⟩
      | mark mm =>
        obtain ⟨b, rfl, hb⟩ := hkx
        refine ⟨_, rfl, b, _, _, _, rfl, rfl, SqT.of hb, atI_nat (j := 0) rfl, rfl, _, rfl, ?_⟩
        refine ite2 (fun _ => ?_) (fun h => absurd (by decide +kernel) h)
        change m + (ls.length + 1) = 2 * (ss ls + (1 + 0)) at hm
        change ps.length + (ss ls + (1 + 0)) ≤ 20 at hle
        rw [den_mark waysL mm ms a rfl] at hEq
        obtain ⟨acc, hacc, hA'⟩ := hR1.ex
        refine ⟨_, rfl, .inl ⟨rfl, _, .inl (.inl hacc)⟩, _, rfl, _, rfl, b, _, _, _, rfl, rfl, SqT.of hb, atI_nat (j := 1) rfl, by show 2 ≤ sizeLine; decide, fun u hu => ?_⟩
        have s45 := same_new (o := .tup [.ref a, .str mm]) hu
        have f5 : (upd H3 u (.tup [.ref a, .str mm])) u = some (.tup [.ref a, .str mm]) := upd_same
        have z5 := hA'.len
        refine ⟨E, acc, _, rfl, rfl, s45 _ _ hacc, small1000 (by omega), ?_⟩
        have R' := hR1.push (q := (ms, mm)) hacc s45 nd2 hka.1 f5 (s45 _ _ hax) (hms.mono (MvAt.mono (tups_of s45)))
        generalize upd H3 u (.tup [.ref a, .str mm]) = H5 at *
        have t6 : Tups H3 (upd H5 E (.lst (acc ++ [.ref u]))) := Tups.trans (tups_of s45) (tups_lst (s45 _ _ hacc))
        refine ⟨m - 1, by omega, ls, _, ps ++ [((ms, mm), a)], ⟨⟨_, _, rfl⟩, ?_, hls.mono' fun q v hq h => h.keep t6 fun ys e => (by rw [upd_ne (hK' q hq).1]; exact s45 _ _ e), R', ?_, ?_, ?_, hK', fun _ => ⟨?_, hOl⟩, by omega, ?_⟩⟩
        · rw [upd_ne ET.symm]
          exact s45 _ _ hT1
        · rw [List.map_append, List.append_assoc]
          exact hEq
        · exact same_over (Same.trans hS1 s45) hE
        · intro c hc
          rw [List.map_append] at hc
          rcases List.mem_append.mp hc with hc | hc
          · exact hF c hc
          · rw [List.mem_singleton.mp hc]
            exact ⟨haH, hka.2.1⟩
        · rw [List.map_append]
          exact nd_mid nd1 nd2 nd3
        · rw [List.length_append]
          show ps.length + 1 + ss ls ≤ 20
          omega
      | two bb k1 k2 =>
        have p1 := k1.leaves_pos
        have p2 := k2.leaves_pos
        change m + (ls.length + 1) = 2 * (ss ls + (k1.leaves + k2.leaves + 0)) at hm
        change ps.length + (ss ls + (k1.leaves + k2.leaves + 0)) ≤ 20 at hle
        have hka3 : ms.length + (max k1.deep k2.deep + 1) ≤ 20 := hka.2.2
        obtain ⟨b, x1, x2, rfl, hb, h1, h2⟩ := hkx
        refine ⟨_, rfl, b, _, _, _, rfl, rfl, SqT.of hb, atI_nat (j := 0) rfl, rfl, _, rfl, ?_⟩
        refine ite2 (fun h => absurd h (by cases bb <;> decide +kernel)) (fun _ => ?_)
        refine ⟨_, rfl, b, _, _, _, rfl, rfl, SqT.of hb, atI_nat (j := 0) rfl, rfl, _, rfl, ?_⟩
        cases bb with
        | true =>
          refine ite2 (fun _ => ?_) (fun z => absurd (by show decide (V.str "to" = V.str "to") = true; decide +kernel) z)
          refine ⟨_, rfl, .inl ⟨rfl, _, .inl (.inl hT1)⟩, _, rfl, b, _, _, _, rfl, rfl, SqT.of hb, atI_nat (j := 2) rfl, _, rfl, _, rfl, b, _, _, _, rfl, rfl, SqT.of hb, atI_nat (j := 1) rfl, by show 1 ≤ sizeLine; decide, fun l hl1 => ?_⟩
          have s4 := same_new (o := .lst [x1]) hl1
          have f4 : (upd H3 l (.lst [x1])) l = some (.lst [x1]) := upd_same
          generalize upd H3 l (.lst [x1]) = H4 at *
          refine ⟨a, l, xs, _, rfl, rfl, s4 _ _ hax, f4, by show xs.length + 1 ≤ sizeLine; exact small40 (by omega), fun p hp => ?_⟩
          have s5 := same_new (o := .lst (xs ++ [x1])) hp
          have f5 : (upd H4 p (.lst (xs ++ [x1]))) p = some (.lst (xs ++ [x1])) := upd_same
          have pE : p ≠ E := fun z => by
            obtain ⟨acc, hacc, _⟩ := hR1.ex
            rw [z, s4 _ _ hacc] at hp
            cases hp
          have pT : p ≠ T := fun z => by rw [z, s4 _ _ hT1] at hp; cases hp
          generalize upd H4 p (.lst (xs ++ [x1])) = H5 at *
          refine ⟨by show 2 ≤ sizeLine; decide, fun u hu => ?_⟩
          have s6 := same_new (o := .tup [x2, .ref p]) hu
          have f6 : (upd H5 u (.tup [x2, .ref p])) u = some (.tup [x2, .ref p]) := upd_same
          have s36 := Same.trans s4 (Same.trans s5 s6)
          refine ⟨T, vs.dropLast, _, rfl, rfl, s36 _ _ hT1, small1000 (by omega), ?_⟩
          have uT : u ≠ T := ne_of f6 (s36 _ _ hT1) (by intro z; cases z)
          generalize upd H5 u (.tup [x2, .ref p]) = H6 at *
          have t7 : Tups H6 (upd H6 T (.lst (vs.dropLast ++ [.ref u]))) := tups_lst (s36 _ _ hT1)
          have t37 := Tups.trans (tups_of s36) t7
          have kp7 : ∀ (c : Addr) (zs : List V), c ≠ T → H6 c = some (.lst zs) → (upd H6 T (.lst (vs.dropLast ++ [.ref u]))) c = some (.lst zs) := fun c zs n e => by rw [upd_ne n]; exact e
          refine ⟨m - 2 * k1.leaves, by omega, ls ++ [(k2, ms ++ [Mv.k k1], p)], _, ps, ⟨⟨_, _, rfl⟩, upd_same, (hls.mono' fun q v hq h => h.keep t37 fun ys e => kp7 _ _ (hK' q hq).2.1 (s36 _ _ e)).app ⟨⟨u, x2, _, rfl, t7 _ _ f6, KdAt.mono t37 _ _ h2, kp7 _ _ pT (s6 _ _ f5), ?_⟩, trivial⟩,
            hR1.keep t37 fun c zs hc e => kp7 c zs (hc.elim (fun q => by rw [q]; exact ET) fun q => (hF c q).2) (s36 _ _ e), ?_, same_over (Same.trans hS1 s36) hTn, hF, ?_, fun _ => ⟨?_, ?_⟩, ?_, ?_⟩⟩
          · exact (hms.mono (MvAt.mono t37)).app ⟨KdAt.mono t37 _ _ h1, trivial⟩
          · rw [denS_snoc, ← den_cons waysL k2 (Mv.k k1) ms a p]
            exact hEq
          · intro q hq
            rcases List.mem_append.mp hq with hq | hq
            · exact hK' q hq
            · rw [List.mem_singleton.mp hq]
              refine ⟨pE, pT, ?_⟩
              show (ms ++ [Mv.k k1]).length + k2.deep ≤ 20
              rw [List.length_append]
              show ms.length + 1 + k2.deep ≤ 20
              omega
          · rw [List.map_append]
            exact nd_put nd1 (fun z => by obtain ⟨ys, e⟩ := hR1.lists p z; rw [s4 _ _ e] at hp; cases hp) fun z => by obtain ⟨ys, e⟩ := lsl p z; rw [s4 _ _ e] at hp; cases hp
          · intro q hq
            rcases List.mem_append.mp hq with hq | hq
            · exact hOl q hq
            · rw [List.mem_singleton.mp hq]
              exact hS1.free (s4.free hp)
          · rw [ss_app, List.length_append]
            show m - 2 * k1.leaves + (ls.length + 1) = 2 * (ss ls + (k2.leaves + 0))
            omega
          · rw [ss_app]
            show ps.length + (ss ls + (k2.leaves + 0)) ≤ 20
            omega
        | false =>
          refine ite2 (fun z => absurd z (by show ¬ decide (V.str "both" = V.str "to") = true; decide +kernel)) (fun _ => ?_)
          refine ⟨_, rfl, b, _, _, _, rfl, rfl, SqT.of hb, atI_nat (j := 0) rfl, rfl, _, rfl, ?_⟩
          refine ite2 (fun _ => ?_) (fun z => absurd (by show decide (V.str "both" = V.str "both") = true; decide +kernel) z)
          refine ⟨_, rfl, .inl ⟨rfl, _, .inl (.inl hT1)⟩, _, rfl, b, _, _, _, rfl, rfl, SqT.of hb, atI_nat (j := 2) rfl, _, rfl, by show 1 ≤ sizeLine; decide, fun l hl1 => ?_⟩
          have s4 := same_new (o := .lst [.int 2]) hl1
          have f4 : (upd H3 l (.lst [.int 2])) l = some (.lst [.int 2]) := upd_same
          generalize upd H3 l (.lst [.int 2]) = H4 at *
          refine ⟨a, l, xs, _, rfl, rfl, s4 _ _ hax, f4, by show xs.length + 1 ≤ sizeLine; exact small40 (by omega), fun p hp => ?_⟩
          have s5 := same_new (o := .lst (xs ++ [.int 2])) hp
          have f5 : (upd H4 p (.lst (xs ++ [.int 2]))) p = some (.lst (xs ++ [.int 2])) := upd_same
          obtain ⟨acc, hacc, _⟩ := hR1.ex
          have pE : p ≠ E := fun z => by rw [z, s4 _ _ hacc] at hp; cases hp
          have pT : p ≠ T := fun z => by rw [z, s4 _ _ hT1] at hp; cases hp
          have pA : p ∉ ps.map (·.2) := fun z => by obtain ⟨ys, e⟩ := hR1.lists p z; rw [s4 _ _ e] at hp; cases hp
          have pB : p ∉ ls.map (·.2.2) := fun z => by obtain ⟨ys, e⟩ := lsl p z; rw [s4 _ _ e] at hp; cases hp
          have pH : H p = none := hS1.free (s4.free hp)
          generalize upd H4 p (.lst (xs ++ [.int 2])) = H5 at *
          refine ⟨by show 2 ≤ sizeLine; decide, fun u hu => ?_⟩
          have s6 := same_new (o := .tup [x2, .ref p]) hu
          have f6 : (upd H5 u (.tup [x2, .ref p])) u = some (.tup [x2, .ref p]) := upd_same
          have s36 := Same.trans s4 (Same.trans s5 s6)
          have f66 := s6 _ _ f5
          refine ⟨T, vs.dropLast, _, rfl, rfl, s36 _ _ hT1, small1000 (by omega), ?_⟩
          have t7 : Tups (upd H5 u (.tup [x2, .ref p])) (upd (upd H5 u (.tup [x2, .ref p])) T (.lst (vs.dropLast ++ [.ref u]))) := tups_lst (s36 _ _ hT1)
          have fT7 : (upd (upd H5 u (.tup [x2, .ref p])) T (.lst (vs.dropLast ++ [.ref u]))) T = some (.lst (vs.dropLast ++ [.ref u])) := upd_same
          have kp7 : ∀ (c : Addr) (zs : List V), c ≠ T → (upd H5 u (.tup [x2, .ref p])) c = some (.lst zs) → (upd (upd H5 u (.tup [x2, .ref p])) T (.lst (vs.dropLast ++ [.ref u]))) c = some (.lst zs) := fun c zs n e => by rw [upd_ne n]; exact e
          have S7 := same_over (T := T) (o := .lst (vs.dropLast ++ [.ref u])) (Same.trans hS1 s36) hTn
          have t37 := Tups.trans (tups_of s36) t7
          have kp37 : ∀ (c : Addr) (zs : List V), c ≠ T → H3 c = some (.lst zs) → (upd (upd H5 u (.tup [x2, .ref p])) T (.lst (vs.dropLast ++ [.ref u]))) c = some (.lst zs) := fun c zs n e => kp7 c zs n (s36 _ _ e)
          have f77 := kp7 _ _ pT f66
          have f67 := t7 _ _ f6
          generalize upd (upd H5 u (.tup [x2, .ref p])) T (.lst (vs.dropLast ++ [.ref u])) = H7 at *
          refine ⟨_, rfl, .inl ⟨rfl, _, .inl (.inl fT7)⟩, _, rfl, b, _, _, _, rfl, rfl, SqT.of (t37 _ _ hb), atI_nat (j := 1) rfl, _, rfl, by show 1 ≤ sizeLine; decide, fun l2 hl3 => ?_⟩
          have s8 := same_new (o := .lst [.int 1]) hl3
          have f8 : (upd H7 l2 (.lst [.int 1])) l2 = some (.lst [.int 1]) := upd_same
          generalize upd H7 l2 (.lst [.int 1]) = H8 at *
          refine ⟨a, l2, xs, _, rfl, rfl, s8 _ _ (kp37 _ _ hka.2.1 hax), f8, by show xs.length + 1 ≤ sizeLine; exact small40 (by omega), fun p2 hp2 => ?_⟩
          have s9 := same_new (o := .lst (xs ++ [.int 1])) hp2
          have f9 : (upd H8 p2 (.lst (xs ++ [.int 1]))) p2 = some (.lst (xs ++ [.int 1])) := upd_same
          have qE : p2 ≠ E := fun z => by rw [z, s8 _ _ (kp37 _ _ ET hacc)] at hp2; cases hp2
          have qT : p2 ≠ T := fun z => by rw [z, s8 _ _ fT7] at hp2; cases hp2
          have qp : p2 ≠ p := fun z => by rw [z, s8 _ _ f77] at hp2; cases hp2
          have qA : p2 ∉ ps.map (·.2) := fun z => by obtain ⟨ys, e⟩ := hR1.lists p2 z; rw [s8 _ _ (kp37 _ _ qT e)] at hp2; cases hp2
          have qB : p2 ∉ ls.map (·.2.2) := fun z => by obtain ⟨ys, e⟩ := lsl p2 z; rw [s8 _ _ (kp37 _ _ qT e)] at hp2; cases hp2
          have qH : H p2 = none := S7.free (s8.free hp2)
          generalize upd H8 p2 (.lst (xs ++ [.int 1])) = H9 at *
          refine ⟨by show 2 ≤ sizeLine; decide, fun w1 hw1 => ?_⟩
          have sA := same_new (o := .tup [x1, .ref p2]) hw1
          have fA : (upd H9 w1 (.tup [x1, .ref p2])) w1 = some (.tup [x1, .ref p2]) := upd_same
          have s7A := Same.trans s8 (Same.trans s9 sA)
          have fA9 := sA _ _ f9
          have zz : (vs.dropLast ++ [V.ref u]).length = vs.dropLast.length + 1 := by rw [List.length_append]; rfl
          refine ⟨T, _, _, rfl, rfl, s7A _ _ fT7, small1000 (by omega), ?_⟩
          generalize upd H9 w1 (.tup [x1, .ref p2]) = HA at *
          have tB : Tups HA (upd HA T (.lst (vs.dropLast ++ [.ref u] ++ [.ref w1]))) := tups_lst (s7A _ _ fT7)
          have kpB : ∀ (c : Addr) (zs : List V), c ≠ T → HA c = some (.lst zs) → (upd HA T (.lst (vs.dropLast ++ [.ref u] ++ [.ref w1]))) c = some (.lst zs) := fun c zs n e => by rw [upd_ne n]; exact e
          have t3B := Tups.trans t37 (Tups.trans (tups_of s7A) tB)
          have kp3B : ∀ (c : Addr) (zs : List V), c ≠ T → H3 c = some (.lst zs) → (upd HA T (.lst (vs.dropLast ++ [.ref u] ++ [.ref w1]))) c = some (.lst zs) := fun c zs n e => kpB c zs n (s7A _ _ (kp37 c zs n e))
          have B1 : All2 (SkAt (upd HA T (.lst (vs.dropLast ++ [.ref u] ++ [.ref w1])))) [(k2, ms ++ [Mv.n 2], p)] [.ref u] := ⟨⟨u, x2, xs ++ [.int 2], rfl, tB _ _ (s7A _ _ f67), KdAt.mono t3B _ _ h2, kpB _ _ pT (s7A _ _ f77), (hms.mono (MvAt.mono t3B)).app (ls := [Mv.n 2]) (us := [V.int 2]) ⟨rfl, trivial⟩⟩, trivial⟩
          have B2 : All2 (SkAt (upd HA T (.lst (vs.dropLast ++ [.ref u] ++ [.ref w1])))) [(k1, ms ++ [Mv.n 1], p2)] [.ref w1] := ⟨⟨w1, x1, xs ++ [.int 1], rfl, tB _ _ fA, KdAt.mono t3B _ _ h1, kpB _ _ qT fA9, (hms.mono (MvAt.mono t3B)).app (ls := [Mv.n 1]) (us := [V.int 1]) ⟨rfl, trivial⟩⟩, trivial⟩
          refine ⟨m - 1, by omega, (ls ++ [(k2, ms ++ [Mv.n 2], p)]) ++ [(k1, ms ++ [Mv.n 1], p2)], _, ps, ⟨⟨_, _, rfl⟩, upd_same, ((hls.mono' fun q v hq h => h.keep t3B fun ys e => kp3B _ _ (hK' q hq).2.1 e).app B1).app B2,
            hR1.keep t3B fun c zs hc e => kp3B c zs (hc.elim (fun q => by rw [q]; exact ET) fun q => (hF c q).2) e, ?_, same_over (Same.trans S7 s7A) hTn, hF, ?_, fun _ => ⟨?_, ?_⟩, ?_, ?_⟩⟩
          · rw [denS_snoc, denS_snoc, ← List.append_assoc (den waysL (k1, ms ++ [Mv.n 1], p2))]
            have e : den waysL (.two false k1 k2, ms, a) = den waysL (k1, ms ++ [Mv.n 1], p2) ++ den waysL (k2, ms ++ [Mv.n 2], p) := by
              rw [← den_cons waysL k1 (Mv.n 1) ms a p2, ← den_cons waysL k2 (Mv.n 2) ms a p]
              exact List.map_append
            rw [← e]
            exact hEq
          · intro q hq
            have e2 : (ms ++ [Mv.n 2]).length + k2.deep ≤ 20 := by
              rw [List.length_append]
              show ms.length + 1 + k2.deep ≤ 20
              omega
            have e3 : (ms ++ [Mv.n 1]).length + k1.deep ≤ 20 := by
              rw [List.length_append]
              show ms.length + 1 + k1.deep ≤ 20
              omega
            rcases List.mem_append.mp hq with hq | hq
            · rcases List.mem_append.mp hq with hq | hq
              · exact hK' q hq
              · rw [List.mem_singleton.mp hq]
                exact ⟨pE, pT, e2⟩
            · rw [List.mem_singleton.mp hq]
              exact ⟨qE, qT, e3⟩
          · rw [List.map_append, List.map_append]
            refine nd_put (nd_put nd1 pA pB) qA fun z => ?_
            rcases List.mem_append.mp z with z | z
            · exact qB z
            · exact qp (List.mem_singleton.mp z)
          · intro q hq
            rcases List.mem_append.mp hq with hq | hq
            · rcases List.mem_append.mp hq with hq | hq
              · exact hOl q hq
              · rw [List.mem_singleton.mp hq]
                exact pH
            · rw [List.mem_singleton.mp hq]
              exact qH
          · rw [ss_app, ss_app, List.length_append, List.length_append]
            show m - 1 + (ls.length + 1 + 1) = 2 * (ss ls + (k2.leaves + 0) + (k1.leaves + 0))
            omega
          · rw [ss_app, ss_app]
            show ps.length + (ss ls + (k2.leaves + 0) + (k1.leaves + 0)) ≤ 20
            omega
end
abbrev sIs : Stmt := top 9
abbrev sApart : Stmt := top 10
theorem mv_dp {K : PySem.W.Frag} {H : Hp} : ∀ (m : Mv) (v : V), MvAt H m v → Dp K H v m.data
  | .k k, v, h => kd_dp k v h
  | .n i, _, h => by
    cases h
    exact .int i
theorem mvs_dp {K : PySem.W.Frag} {H : Hp} : ∀ {ms : List Mv} {xs : List V}, All2 (MvAt H) ms xs → DpAll K H xs (ms.map Mv.data)
  | [], [], _ => .nil
  | _ :: _, _ :: _, ⟨h, t⟩ => .cons (mv_dp _ _ h) (mvs_dp t)
  | [], _ :: _, h => h.elim
  | _ :: _, [], h => h.elim
theorem row_dp {K : PySem.W.Frag} {H : Hp} {q : Row × Addr} {v : V} (h : RowAt H q v) : Dp K H v q.1.data := by
  obtain ⟨t, xs, rfl, h1, h2, h3⟩ := h
  exact .tup (SqT.of h1) (.cons (.lst (SqL.of h2) (mvs_dp h3)) (.cons (.str _) .nil))
theorem rows_dp {K : PySem.W.Frag} {H : Hp} : ∀ {ps : List (Row × Addr)} {vs : List V}, All2 (RowAt H) ps vs → DpAll K H vs ((ps.map (·.1)).map Row.data)
  | [], [], _ => .nil
  | _ :: _, _ :: _, ⟨h, t⟩ => .cons (row_dp h) (rows_dp t)
  | [], _ :: _, h => h.elim
  | _ :: _, [], h => h.elim
theorem dp_app {K : PySem.W.Frag} {H : Hp} : ∀ {xs ys : List V} {ds es : List PyData}, DpAll K H xs ds → DpAll K H ys es → DpAll K H (xs ++ ys) (ds ++ es)
  | [], _, [], _, _, g => g
  | _ :: _, _, _ :: _, _, .cons h t, g => .cons h (dp_app t g)
def ROk (q : Row) : Prop := (∀ m ∈ q.1, m.Ok) ∧ PyData.canLay0 (.str q.2) = true
theorem mv_ok : ∀ m : Mv, m.Ok → m.data.canLay0 = true ∧ m.data.depth ≤ 21
  | .k k, h => by
    have d := data_depth k
    have b := h.2
    exact ⟨data_ok k h.1, by show k.data.depth ≤ 21; omega⟩
  | .n i, _ => ⟨by simp only [Mv.data, PyData.canLay0], by simp only [Mv.data, PyData.depth]; omega⟩
theorem all_ok {α : Type} (f : α → PyData) (n : Nat) : ∀ xs : List α, (∀ x ∈ xs, (f x).canLay0 = true ∧ (f x).depth ≤ n) → PyData.canLayAll0 (xs.map f) = true ∧ PyData.depthAll (xs.map f) ≤ n
  | [], _ => ⟨by simp only [List.map_nil, PyData.canLayAll0], by simp only [List.map_nil, PyData.depthAll]; omega⟩
  | x :: r, h => by
    have i := all_ok f n r fun y hy => h y (List.mem_cons_of_mem _ hy)
    have j := h x List.mem_cons_self
    constructor
    · simp only [List.map_cons, PyData.canLayAll0, i.1, j.1]
      rfl
    · have i2 := i.2
      have j2 := j.2
      simp only [List.map_cons, PyData.depthAll]
      omega
theorem row_ok {q : Row} (h : ROk q) : q.data.canLay0 = true ∧ q.data.depth ≤ 23 := by
  obtain ⟨a, b⟩ := all_ok Mv.data 21 q.1 fun m hm => mv_ok m (h.1 m hm)
  have c := h.2
  simp only [PyData.canLay0] at c
  constructor
  · simp only [Row.data, PyData.canLay0, PyData.canLayAll0, a, c]
    rfl
  · simp only [Row.data, PyData.depth, PyData.depthAll]
    omega
theorem shaped_of {d : PyData} (h : d.canLay0 = true ∧ d.depth ≤ 60) : SeqAt.shaped d = true := by
  unfold SeqAt.shaped
  rw [h.1, Bool.true_and]
  exact decide_eq_true (by omega)
theorem lst_ok {ds : List PyData} {n : Nat} (h : PyData.canLayAll0 ds = true ∧ PyData.depthAll ds ≤ n) : (PyData.list ds).canLay0 = true ∧ (PyData.list ds).depth ≤ n + 1 := by
  constructor
  · simp only [PyData.canLay0, h.1]
  · have b := h.2
    simp only [PyData.depth]
    omega
theorem eqv_same {d : PyData} (h : d.canLay0 = true) : PyData.eqv d d = true := SeqAt.eqv_refl d h
theorem mv_ty {K : PySem.W.Frag} {H : Hp} : ∀ (m : Mv) (v : V), MvAt H m v → ∃ t : String, TyX K H v (.type t) ∧ PySem.W.kitOne K (.type t) (.type "bool") = some false
  | .k .one, _, ⟨a, e, h⟩ => ⟨"tuple", e ▸ .base (.tup h), kit_ty (by decide +kernel)⟩
  | .k (.mark _), _, ⟨a, e, h⟩ => ⟨"tuple", e ▸ .base (.tup h), kit_ty (by decide +kernel)⟩
  | .k (.two _ _ _), _, ⟨a, x, y, e, h, _⟩ => ⟨"tuple", e ▸ .base (.tup h), kit_ty (by decide +kernel)⟩
  | .n i, _, h => ⟨"int", by cases h; exact .base (.int i), kit_ty (by decide +kernel)⟩
theorem isi_at {X : Cx} {K : PySem.W.Frag} (e : X.K = K) : CallR X (.builtin "isinstance") (rIsi K) := by
  rw [← e]
  exact call_isi
theorem boot_isi : bootBuiltins "isinstance" = some (.builtin "isinstance") := by decide +kernel
theorem boot_boolT : bootBuiltins "bool" = some (.type "bool") := by decide +kernel
theorem boot_listT : bootBuiltins "list" = some (.type "list") := by decide +kernel
theorem boot_tupleT : bootBuiltins "tuple" = some (.type "tuple") := by decide +kernel
theorem eqv_nil (ds : List PyData) : PyData.eqv (.list ds) (.list []) = ds.isEmpty := by
  cases ds with
  | nil => simp only [PyData.eqv, PyData.eqvAll]; rfl
  | cons a r => simp only [PyData.eqv, PyData.eqvAll]; rfl
theorem cut_drop (xs : List V) (i : Nat) : cutV xs (some ((i : Int) + 1)) none = xs.drop (i + 1) := by
  unfold cutV
  have e : ((i : Int) + 1) = ((i + 1 : Nat) : Int) := by omega
  rw [e, HT.sIx_nat, HT.sIx_none]
  rcases Nat.le_total (i + 1) xs.length with h | h
  · rw [Nat.min_eq_left h]
    exact List.take_of_length_le (by rw [List.length_drop]; omega)
  · rw [Nat.min_eq_right h, Nat.sub_self, List.take_zero, List.drop_eq_nil_of_le h]
theorem All2.drop {α : Type} {R : α → V → Prop} : ∀ (i : Nat) {ks : List α} {vs : List V}, All2 R ks vs → All2 R (ks.drop i) (vs.drop i)
  | 0, _, _, h => h
  | _ + 1, [], [], _ => trivial
  | i + 1, _ :: _, _ :: _, ⟨_, t⟩ => All2.drop i t
  | _ + 1, [], _ :: _, h => h.elim
  | _ + 1, _ :: _, [], h => h.elim
theorem can_app : ∀ a b : List PyData, PyData.canLayAll0 a = true → PyData.canLayAll0 b = true → PyData.canLayAll0 (a ++ b) = true
  | [], _, _, h => h
  | x :: a, b, g, h => by
    simp only [PyData.canLayAll0, Bool.and_eq_true] at g
    simp only [List.cons_append, PyData.canLayAll0, Bool.and_eq_true]
    exact ⟨g.1, can_app a b g.2 h⟩
theorem deep_app (n : Nat) : ∀ a b : List PyData, PyData.depthAll a ≤ n → PyData.depthAll b ≤ n → PyData.depthAll (a ++ b) ≤ n
  | [], _, _, h => h
  | x :: a, b, g, h => by
    simp only [PyData.depthAll] at g
    have i := deep_app n a b (by omega) h
    simp only [List.cons_append, PyData.depthAll]
    omega
theorem snoc_ok {q : Row} (h : ROk q) : (PyData.list (q.1.map Mv.data ++ [.none])).canLay0 = true ∧ (PyData.list (q.1.map Mv.data ++ [.none])).depth ≤ 22 := by
  obtain ⟨a, b⟩ := all_ok Mv.data 21 q.1 fun m hm => mv_ok m (h.1 m hm)
  exact lst_ok ⟨can_app _ _ a (by decide), deep_app 21 _ _ b (by simp only [PyData.depthAll, PyData.depth]; omega)⟩
theorem rows_ok {rs : List Row} (h : ∀ q ∈ rs, ROk q) : (PyData.list (rs.map Row.data)).canLay0 = true ∧ (PyData.list (rs.map Row.data)).depth ≤ 24 := lst_ok (all_ok Row.data 23 rs fun q hq => row_ok (h q hq))
def spIs : Sp := fun vs H Q _ => ∃ (F D : Addr) (ps qs : List (Row × Addr)), vs = [.ref F, .ref D] ∧ Res H F ps ∧ Res H D qs ∧ ps.map (·.1) = qs.map (·.1) ∧ (∀ q ∈ qs.map (·.1), ROk q) ∧ ∀ H', Same H H' → Q (.bl true) H'
section
variable {P : Program} {w : World} {K : PySem.W.Frag} {mg : Str → Option Value} {base : Heap}
theorem scIs : FnScope ["_law_found", "_law_due", "_law_one", "_law_other", "_law_part"] ["_law_found", "_law_due"] (defScope sIs) := ⟨rfl, rfl, rfl, by decide +kernel, rfl, by decide +kernel, by decide +kernel⟩
theorem ok_is {f : Addr} {fd : FuncData} (F : Fun K "_law_is" "_law_is" sIs f fd) (mLen : mg "len" = none) (mZip : mg "zip" = none) (mIs : mg "isinstance" = none) (mList : mg "list" = none) (mTuple : mg "tuple" = none) (mBool : mg "bool" = none) :
    FnOk P w K mg base CX0 1 f fd ["_law_found", "_law_due"] spIs := by
  refine F.ok scIs (fun vs H Q E h => ?_) (fun cdv A outer s H vs Q EE hr h => ?_)
  · obtain ⟨_, _, _, _, rfl, _⟩ := h
    rfl
  · obtain ⟨F0, D0, ps, qs, rfl, hF, hD, hE, hO, k⟩ := h
    refine ⟨_, pss_cons (ps_if (PW.pt (pw_or (pt_not (pt_val (pe_callB (isi_at (K := K) rfl) (by rfl) mIs boot_isi (pa_cons (pv 0) (pa_cons (pe_bltn (v := .ty "list") (by rfl) mList boot_listT rfl) pa_nil)))))
          (pw_or1 (pt_cmpR op_ne (pe_callB call_len_seq (by rfl) mLen PySem.boot_len (pa_cons (pv 0) pa_nil)) (pe_callB call_len_seq (by rfl) mLen PySem.boot_len (pa_cons (pv 1) pa_nil)) (nomark _))))) (pss_one (ps_ret pe_bl)) pss_nil)
      (pss_cons (ps_for PassesOwn.never rfl (pi_zip (by rfl) mZip (pa_cons (pv 0) (pa_cons (pv 1) pa_nil))) (pg_tup (by rfl) (pgs_cons (pg_name (i := 2) scIs.nd rfl (Or.inl rfl)) (pgs_cons (pg_name (i := 3) scIs.nd rfl (Or.inl rfl)) pgs_nil)))
        (pss_cons (ps_if (PW.pt (pw_or (pt_not (pt_val (pe_callB (isi_at (K := K) rfl) (by rfl) mIs boot_isi (pa_cons (pv 2) (pa_cons (pe_bltn (v := .ty "tuple") (by rfl) mTuple boot_tupleT rfl) pa_nil)))))
            (pw_or (pt_cmpR op_ne (pe_callB call_len_seq (by rfl) mLen PySem.boot_len (pa_cons (pv 2) pa_nil)) pe_int (nomark _))
            (pw_or (pt_not (pt_val (pe_callB (isi_at (K := K) rfl) (by rfl) mIs boot_isi (pa_cons (pe_ix ix_tup (pv 2) pe_int (fun _ _ => rfl)) (pa_cons (pe_bltn (v := .ty "list") (by rfl) mList boot_listT rfl) pa_nil)))))
            (pw_or1 (pt_cmpR (op_neD hr.units) (pv 2) (pv 3) (nomark _))))))) (pss_one (ps_ret pe_bl)) pss_nil)
        (pss_one (ps_if (pt_cmpR (op_neD hr.units) (pe_lc (own := [("_law_part", 4)]) (g := gName 4) (by rfl) scIs.nd (pi_list (pe_ix ix_tup (pv 2) pe_int (fun _ _ => rfl))) (blkOk_by (N := ["_law_found", "_law_due", "_law_one", "_law_other", "_law_part"]) (sc := defScope sIs) (by decide +kernel)) (fun _ _ _ _ _ => pg_name (i := 4) scIs.nd rfl (Or.inl rfl))
            (fun _ _ _ _ _ => pts_one (pt_val (pe_callB (isi_at (K := K) rfl) (by rfl) mIs boot_isi (pa_cons (pv 4) (pa_cons (pe_bltn (v := .ty "bool") (by rfl) mBool boot_boolT rfl) pa_nil)))))
            (fun _ _ _ _ _ => pv 4)) (pe_lst pa_nil) (nomark _)) (pss_one (ps_ret pe_bl)) pss_nil))))
      (pss_one (ps_ret pe_bl))), ?_⟩
    obtain ⟨vs, hv, hA⟩ := hF.ex
    obtain ⟨us, hu, hB⟩ := hD.ex
    have hl : vs.length = us.length := by
      have := congrArg List.length hE
      rw [List.length_map, List.length_map] at this
      rw [← hA.len, ← hB.len, this]
    refine ⟨_, rfl, _, _, _, _, true, rfl, .ty "list", .base (.lst hv), kit_ty (by decide +kernel), true, rfl, ?_⟩
    refine iteF ?_
    refine ⟨_, rfl, F0, _, rfl, .inl (SqL.of hv), _, rfl, D0, _, rfl, .inl (SqL.of hu), rfl, _, rfl, ?_⟩
    rw [hl]
    refine iteNS rfl ?_
    refine ⟨_, rfl, _, rfl, F0, D0, vs, us, rfl, SqL.of hv, SqL.of hu, RZ.for_zipL (K := K) (a := F0) (b := D0) hl (fun i σ H' => ∃ (i2 i3 i4 : Option V), σ = [some (.ref F0), some (.ref D0), i2, i3, i4] ∧ Same H H') ⟨none, none, none, rfl, Same.refl _⟩
      (fun i σ H' ⟨_, _, _, _, q⟩ => ⟨SqL.of (q _ _ hv), SqL.of (q _ _ hu)⟩) ?_ ?_⟩
    · rintro i x y T σ H' hx hy ⟨i2, i3, i4, rfl, sm⟩ hT
      have s1 := same_new (o := .tup [x, y]) hT
      have f1 : (upd H' T (.tup [x, y])) T = some (.tup [x, y]) := upd_same
      have sm1 := Same.trans sm s1
      generalize upd H' T (.tup [x, y]) = H1 at *
      obtain ⟨⟨q, qa⟩, hq1, hq2⟩ := (hA.mono (RowAt.same sm1)).get hx
      obtain ⟨⟨r, ra⟩, hr1, hr2⟩ := (hB.mono (RowAt.same sm1)).get hy
      have eqr : q = r := by
        have e1 : (ps.map (·.1))[i]? = some q := by rw [List.getElem?_map, hq1]; rfl
        have e2 : (qs.map (·.1))[i]? = some r := by rw [List.getElem?_map, hr1]; rfl
        rw [hE, e2] at e1
        exact (Option.some.inj e1).symm
      subst eqr
      have rok := hO q (List.mem_of_getElem? (by rw [List.getElem?_map, hr1]; rfl : (qs.map (·.1))[i]? = some q))
      have dq := row_dp (K := K) hq2
      have dr := row_dp (K := K) hr2
      obtain ⟨r1, r2⟩ := row_ok rok
      obtain ⟨t, xs, rfl, ht, hxs, hm⟩ := hq2
      refine ⟨T, _, rfl, SqT.of f1, rfl, _, _, rfl, _, _, rfl, rfl, ?_⟩
      refine ⟨_, rfl, _, _, _, _, true, rfl, .ty "tuple", .base (.tup ht), kit_ty (by decide +kernel), true, rfl, ?_⟩
      refine iteF ?_
      refine ⟨_, rfl, t, _, rfl, .inr (SqT.of ht), rfl, _, rfl, ?_⟩
      refine iteF ?_
      refine ⟨_, rfl, t, _, _, _, rfl, rfl, SqT.of ht, atI_nat (j := 0) rfl, _, _, _, _, true, rfl, .ty "list", .base (.lst hxs), kit_ty (by decide +kernel), true, rfl, ?_⟩
      refine iteF ?_
      refine ⟨_, rfl, _, rfl, q.data, q.data, dq, dr, shaped_of ⟨r1, by omega⟩, shaped_of ⟨r1, by omega⟩, _, rfl, ?_⟩
      rw [eqv_same r1]
      refine iteF ?_
      refine ⟨_, rfl, t, _, _, _, rfl, rfl, SqT.of ht, atI_nat (j := 0) rfl, qa, rfl, ⟨_, SqL.of hxs⟩, fun D hD' => lc_list (K := K) (a := qa) (xs := xs) (fun i H' => H' D = some (.lst []) ∧ Same H1 H') ⟨upd_same, same_new hD'⟩ (fun i H' _ q => SqL.of (q.2 _ _ hxs)) ?_ ?_⟩
      · rintro j z H2 hz ⟨q1, q2⟩
        obtain ⟨mv, _, hmv⟩ := hm.get hz
        obtain ⟨ty, hty, hkt⟩ := mv_ty (K := K) mv z (MvAt.mono (tups_of q2) _ _ hmv)
        refine ⟨rfl, ?_⟩
        refine ⟨_, rfl, _, _, _, _, false, rfl, .ty "bool", hty, hkt, false, rfl, ?_⟩
        exact iteF ⟨q1, q2⟩
      · rintro H2 ⟨q1, q2⟩
        refine ⟨by show 0 ≤ sizeLine; decide, fun l hl => ?_⟩
        have s10 := same_new (o := .lst []) hl
        refine ⟨.list [], .list [], .lst (SqL.of (s10 _ _ q1)) .nil, .lst (SqL.of upd_same) .nil, by decide +kernel, by decide +kernel, _, rfl, ?_⟩
        rw [eqv_nil]
        exact iteF ⟨_, _, _, rfl, Same.trans sm1 (Same.trans q2 s10)⟩
    · rintro σ H' ⟨i2, i3, i4, rfl, sm⟩
      exact k H' sm
end
def spApart : Sp := fun vs H Q _ => ∃ (F D : Addr) (ps qs : List (Row × Addr)), vs = [.ref F, .ref D] ∧ Res H F ps ∧ Res H D qs ∧ ps.map (·.1) = qs.map (·.1) ∧ (∀ q ∈ qs.map (·.1), ROk q ∧ q.1.length ≤ 100) ∧ ps.length ≤ 100 ∧
  (∀ a, a = F ∨ a ∈ ps.map (·.2) → a ≠ D ∧ a ∉ qs.map (·.2)) ∧ ∀ H', (∀ b o, b ≠ F → b ∉ ps.map (·.2) → H b = some o → H' b = some o) → Q (.bl true) H'
section
variable {P : Program} {w : World} {K : PySem.W.Frag} {mg : Str → Option Value} {base : Heap}
theorem scApart : FnScope ["_law_found", "_law_due", "_law_at", "_law_one"] ["_law_found", "_law_due"] (defScope sApart) := ⟨rfl, rfl, rfl, by decide +kernel, rfl, by decide +kernel, by decide +kernel⟩
theorem ok_apart {f : Addr} {fd : FuncData} (F : Fun K "_law_apart" "_law_apart" sApart f fd) (mEnum : mg "enumerate" = none) :
    FnOk P w K mg base CX0 1 f fd ["_law_found", "_law_due"] spApart := by
  refine F.ok scApart (fun vs H Q E h => ?_) (fun cdv A outer s H vs Q EE hr h => ?_)
  · obtain ⟨_, _, _, _, rfl, _⟩ := h
    rfl
  · obtain ⟨F0, D0, ps, qs, rfl, hF, hD, hE, hO, hsz, hdj, k⟩ := h
    refine ⟨_, pss_cons (ps_for PassesOwn.never rfl (pi_enum (by rfl) mEnum (pa_cons (pv 0) pa_nil)) (pg_tup (by rfl) (pgs_cons (pg_name (i := 2) scApart.nd rfl (Or.inl rfl)) (pgs_cons (pg_name (i := 3) scApart.nd rfl (Or.inl rfl)) pgs_nil)))
        (pss_cons (ps_expr (pe_bm PySem.F.plainAttrs_list PySem.F.slot_list_append PySem.F.type_list_append mt_append (pe_ix ix_tup (pv 3) pe_int (fun _ _ => rfl)) (pa_cons pe_non pa_nil)))
        (pss_one (ps_if (PW.pt (pw_or (pt_cmpR (op_neD hr.units) (pe_ix ix_tup (pv 3) pe_int (fun _ _ => rfl)) (pe_op op_cat (pe_ix ix_tup (pe_ix ix_list (pv 1) (pv 2) (fun _ _ => rfl)) pe_int (fun _ _ => rfl)) (pe_lst (pa_cons pe_non pa_nil))) (nomark _))
          (pw_or1 (pt_cmpR (op_neD hr.units) (pe_slice sl_list (pv 0) (po_some (pe_op op_add (pv 2) pe_int)) po_none) (pe_slice sl_list (pv 1) (po_some (pe_op op_add (pv 2) pe_int)) po_none) (nomark _))))) (pss_one (ps_ret pe_bl)) pss_nil))))
      (pss_cons (ps_expr (pe_bm PySem.F.plainAttrs_list PySem.F.slot_list_append PySem.F.type_list_append mt_append (pv 0) (pa_cons pe_non pa_nil)))
      (pss_one (ps_ret pe_bl))), ?_⟩
    obtain ⟨vs, hv, hA⟩ := hF.ex
    obtain ⟨us, hu, hB⟩ := hD.ex
    have lps := hF.lists
    have hvl := hA.len
    have DF : D0 ∉ ps.map (·.2) := fun z => (hdj D0 (.inr z)).1 rfl
    have tupsOf : ∀ H' : Hp, (∀ b o, b ∉ ps.map (·.2) → H b = some o → H' b = some o) → Tups H H' := fun H' q b xs e => q b _ (fun z => by obtain ⟨ys, e2⟩ := lps b z; rw [e] at e2; cases e2) e
    refine ⟨_, rfl, F0, vs, rfl, SqL.of hv, for_it (walk_enum (K := K) (a := F0) (xs := vs)) (fun i σ H' => ∃ (i2 i3 : Option V), σ = [some (.ref F0), some (.ref D0), i2, i3] ∧ H' F0 = some (.lst vs) ∧ All2 (RowAt H') (ps.drop i) (vs.drop i) ∧ (∀ b o, b ∉ ps.map (·.2) → H b = some o → H' b = some o))
      ⟨none, none, rfl, hv, hA, fun _ _ _ e => e⟩ (fun i σ H' _ ⟨_, _, _, q, _⟩ => SqL.of q) ?_ ?_⟩
    · rintro i x σ H' H1 hi ⟨i2, i3, rfl, hv', hA', hK⟩ ⟨T, y, z, rfl, hT, rfl, ey, ez⟩
      obtain rfl : y = V.int (i : Nat) := (Option.some.inj ey).symm
      have hip : i < ps.length := by omega
      have s1 := same_new (o := .tup [.int (i : Nat), z]) hT
      have f1 : (upd H' T (.tup [.int (i : Nat), z])) T = some (.tup [.int (i : Nat), z]) := upd_same
      have hv1 := s1 _ _ hv'
      have hA1 := hA'.mono (RowAt.same s1)
      have hK1 : ∀ b o, b ∉ ps.map (·.2) → H b = some o → (upd H' T (.tup [.int (i : Nat), z])) b = some o := fun b o n e => s1 _ _ (hK b o n e)
      generalize upd H' T (.tup [.int (i : Nat), z]) = H1 at *
      have ez' : vs[i] = z := by
        have e : vs[i]? = some vs[i] := List.getElem?_eq_getElem hi
        have e2 : vs[i]? = some z := ez
        rw [e] at e2
        exact Option.some.inj e2
      rw [List.drop_eq_getElem_cons hi, List.drop_eq_getElem_cons hip, ez'] at hA1
      obtain ⟨hq, hrest⟩ := hA1
      have nd := hF.nd
      have hmem : ps[i].2 ∈ ps.map (·.2) := List.mem_map.mpr ⟨ps[i], List.getElem_mem hip, rfl⟩
      have hnot : ps[i].2 ∉ (ps.drop (i + 1)).map (·.2) := by
        have e : ps = ps.take i ++ ps[i] :: ps.drop (i + 1) := by rw [← List.drop_eq_getElem_cons hip, List.take_append_drop]
        rw [e, List.map_append, List.map_cons, List.nodup_append] at nd
        exact (List.nodup_cons.mp nd.2.1).1
      have hiq : i < qs.length := by
        have := congrArg List.length hE
        rw [List.length_map, List.length_map] at this
        omega
      have hiu : i < us.length := by rw [← hB.len]; exact hiq
      have eqr : ps[i].1 = qs[i].1 := by
        have e1 : (ps.map (·.1))[i]? = some ps[i].1 := by rw [List.getElem?_map, List.getElem?_eq_getElem hip]; rfl
        have e2 : (qs.map (·.1))[i]? = some qs[i].1 := by rw [List.getElem?_map, List.getElem?_eq_getElem hiq]; rfl
        rw [hE, e2] at e1
        exact (Option.some.inj e1).symm
      have rok := hO qs[i].1 (List.mem_map.mpr ⟨qs[i], List.getElem_mem hiq, rfl⟩)
      obtain ⟨t, xs, rfl, ht, hxs, hm⟩ := hq
      refine ⟨T, _, rfl, SqT.of f1, rfl, _, _, rfl, _, _, rfl, rfl, ?_⟩
      have zl : xs.length ≤ 100 := by
        have e := hm.len
        rw [eqr] at e
        have := rok.2
        omega
      refine ⟨_, rfl, t, _, _, _, rfl, rfl, SqT.of ht, atI_nat (j := 0) rfl, .inl ⟨rfl, _, .inl (.inl hxs)⟩, ps[i].2, xs, _, rfl, rfl, hxs, small1000 (by omega), ?_⟩
      have t2 : Tups H1 (upd H1 ps[i].2 (.lst (xs ++ [.non]))) := tups_lst hxs
      have f2 : (upd H1 ps[i].2 (.lst (xs ++ [.non]))) ps[i].2 = some (.lst (xs ++ [.non])) := upd_same
      have nF : ps[i].2 ≠ F0 := fun e => hF.out (e ▸ hmem)
      have hv2 : (upd H1 ps[i].2 (.lst (xs ++ [.non]))) F0 = some (.lst vs) := by rw [upd_ne nF.symm]; exact hv1
      have hrest2 : All2 (RowAt (upd H1 ps[i].2 (.lst (xs ++ [.non])))) (ps.drop (i + 1)) (vs.drop (i + 1)) := hrest.mono' fun q v hq h => h.keep t2 fun ys e => by
        rw [upd_ne (fun (e2 : q.2 = ps[i].2) => hnot (e2 ▸ List.mem_map.mpr ⟨q, hq, rfl⟩))]
        exact e
      have hK2 : ∀ b o, b ∉ ps.map (·.2) → H b = some o → (upd H1 ps[i].2 (.lst (xs ++ [.non]))) b = some o := fun b o n e => by
        rw [upd_ne (fun (e2 : b = ps[i].2) => n (by rw [e2]; exact hmem))]
        exact hK1 b o n e
      have hm2 := hm.mono (MvAt.mono t2)
      have ht2 := t2 _ _ ht
      generalize upd H1 ps[i].2 (.lst (xs ++ [.non])) = H2 at *
      have t02 := tupsOf H2 hK2
      have hu2 := hK2 _ _ DF hu
      have hB2 : All2 (RowAt H2) qs us := hB.mono' fun q v hq h => h.keep t02 fun ys e => hK2 _ _ (fun z => (hdj q.2 (.inr z)).2 (List.mem_map.mpr ⟨q, hq, rfl⟩)) e
      have hBi : RowAt H2 qs[i] us[i] := by
        obtain ⟨r0, e0, h0⟩ := hB2.get (List.getElem?_eq_getElem hiu)
        rw [List.getElem?_eq_getElem hiq] at e0
        exact (Option.some.inj e0) ▸ h0
      have eus : us[i]? = some us[i] := List.getElem?_eq_getElem hiu
      obtain ⟨t2, ys, e2, ht3, hys, hmy⟩ := hBi
      rw [e2] at eus
      have zy : ys.length ≤ 100 := by
        have e := hmy.len
        have := rok.2
        omega
      refine ⟨_, rfl, t, _, _, _, rfl, rfl, SqT.of ht2, atI_nat (j := 0) rfl, _, rfl, _, rfl, D0, _, _, _, rfl, rfl, SqL.of hu2, atI_nat (j := i) eus, t2, _, _, _, rfl, rfl, SqT.of ht3, atI_nat (j := 0) rfl, by show 1 ≤ sizeLine; decide, fun l hl => ?_⟩
      have s3 := same_new (o := .lst [.non]) hl
      have f3 : (upd H2 l (.lst [.non])) l = some (.lst [.non]) := upd_same
      generalize upd H2 l (.lst [.non]) = H3 at *
      refine ⟨qs[i].2, l, ys, _, rfl, rfl, s3 _ _ hys, f3, by show ys.length + 1 ≤ sizeLine; exact small40 (by omega), fun p hp => ?_⟩
      have s4 := same_new (o := .lst (ys ++ [.non])) hp
      have f4 : (upd H3 p (.lst (ys ++ [.non]))) p = some (.lst (ys ++ [.non])) := upd_same
      generalize upd H3 p (.lst (ys ++ [.non])) = H4 at *
      have s34 := Same.trans s3 s4
      have dm := mvs_dp (K := K) (hm2.mono (MvAt.mono (tups_of s34)))
      have dy := mvs_dp (K := K) (hmy.mono (MvAt.mono (tups_of s34)))
      rw [eqr] at dm
      obtain ⟨o1, o2⟩ := snoc_ok rok.1
      refine ⟨.list (qs[i].1.1.map Mv.data ++ [.none]), .list (qs[i].1.1.map Mv.data ++ [.none]), .lst (SqL.of (s34 _ _ f2)) (dp_app dm (.cons .non .nil)), .lst (SqL.of f4) (dp_app dy (.cons .non .nil)), shaped_of ⟨o1, by omega⟩, shaped_of ⟨o1, by omega⟩, _, rfl, ?_⟩
      rw [eqv_same o1]
      refine iteF ?_
      refine ⟨_, rfl, _, rfl, _, _, rfl, rfl, _, rfl, F0, vs, rfl, SqL.of (s34 _ _ hv2), fun p1 hp1 => ?_⟩
      rw [cut_drop]
      have s5 := same_new (o := .lst (vs.drop (i + 1))) hp1
      have f5 : (upd H4 p1 (.lst (vs.drop (i + 1)))) p1 = some (.lst (vs.drop (i + 1))) := upd_same
      generalize upd H4 p1 (.lst (vs.drop (i + 1))) = H5 at *
      have s35 := Same.trans s34 s5
      refine ⟨_, rfl, _, rfl, _, _, rfl, rfl, _, rfl, D0, us, rfl, SqL.of (s35 _ _ hu2), fun p2 hp2 => ?_⟩
      rw [cut_drop]
      have s6 := same_new (o := .lst (us.drop (i + 1))) hp2
      have f6 : (upd H5 p2 (.lst (us.drop (i + 1)))) p2 = some (.lst (us.drop (i + 1))) := upd_same
      generalize upd H5 p2 (.lst (us.drop (i + 1))) = H6 at *
      have s36 := Same.trans s35 s6
      have d1 := rows_dp (K := K) (hrest2.mono (RowAt.same s36))
      have d2 := rows_dp (K := K) ((hB2.drop (i + 1)).mono (RowAt.same s36))
      rw [List.map_drop, hE, ← List.map_drop] at d1
      obtain ⟨o3, o4⟩ := rows_ok (rs := (qs.drop (i + 1)).map (·.1)) fun q hq => (hO q (by
        rw [List.map_drop] at hq
        exact List.mem_of_mem_drop hq)).1
      refine ⟨_, _, .lst (SqL.of (s6 _ _ f5)) d1, .lst (SqL.of f6) d2, shaped_of ⟨o3, by omega⟩, shaped_of ⟨o3, by omega⟩, _, rfl, ?_⟩
      rw [eqv_same o3]
      exact iteF ⟨_, _, rfl, s36 _ _ hv2, hrest2.mono (RowAt.same s36), fun b o n e => s36 _ _ (hK2 b o n e)⟩
    · rintro σ H' ⟨i2, i3, rfl, hv', hA', hK⟩
      refine ⟨_, rfl, .inl ⟨rfl, _, .inl (.inl hv')⟩, F0, vs, _, rfl, rfl, hv', small1000 (by omega), ?_⟩
      refine k _ fun b o n1 n2 e => ?_
      rw [upd_ne n1]
      exact hK b o n2 e
end
abbrev sLaw : Stmt := top 11
def spLaw (K : PySem.W.Frag) : Sp := fun vs H Q _ => ∃ (a : Addr) (ns : List Int), vs = [.ref a] ∧ SqL K H a (ns.map V.int) ∧ ns.length ≤ 63 ∧ ∀ H', Q (.bl true) H'
section
variable {P : Program} {w : World} {K : PySem.W.Frag} {mg : Str → Option Value} {base : Heap}
theorem scLaw : FnScope ["_law_script", "_law_k", "_law_pool_here", "_law_kind_here", "_law_ends_here", "_law_ways_here", "_law_told", "_law_other"] ["_law_script"] (defScope sLaw) := ⟨rfl, rfl, rfl, by decide +kernel, rfl, by decide +kernel, by decide +kernel⟩
theorem ok_law {f f1 f2 f3 f4 f5 f6 f7 f8 f9 : Addr} {fd fd1 fd2 fd3 fd4 fd5 fd6 fd7 fd8 fd9 : FuncData} (F : Fun K "law" "law" sLaw f fd)
    (FP : Fun K "_law_pool" "_law_pool" sPool f1 fd1) (bP : Binds K fd1 ["_law_script", "_law_k"] []) (gP : mg "_law_pool" = some (.ref f1))
    (FT : Fun K "_law_take" "_law_take" sTake f2 fd2) (bT : Binds K fd2 ["_law_pool_here", "_law_many"] []) (gT : mg "_law_take" = some (.ref f2))
    (FK : Fun K "_law_kind" "_law_kind" sKind f3 fd3) (bK : Binds K fd3 ["_law_pool_here", "_law_leaves", "_law_marks"] []) (gK : mg "_law_kind" = some (.ref f3))
    (FE : Fun K "_law_ends" "_law_ends" sLends f4 fd4) (bE : Binds K fd4 ["_law_kind_here"] []) (gE : mg "_law_ends" = some (.ref f4))
    (FW : Fun K "_law_ways" "_law_ways" sLways f5 fd5) (bW : Binds K fd5 ["_law_kind_here"] []) (gW : mg "_law_ways" = some (.ref f5))
    (FO : Fun K "ends_of" "ends_of" sEnds f6 fd6) (bO : Binds K fd6 ["kind"] []) (gO : mg "ends_of" = some (.ref f6))
    (FY : Fun K "ways_of" "ways_of" sWays f7 fd7) (bY : Binds K fd7 ["kind"] []) (gY : mg "ways_of" = some (.ref f7))
    (FI : Fun K "_law_is" "_law_is" sIs f8 fd8) (bI : Binds K fd8 ["_law_found", "_law_due"] []) (gI : mg "_law_is" = some (.ref f8))
    (FA : Fun K "_law_apart" "_law_apart" sApart f9 fd9) (bA : Binds K fd9 ["_law_found", "_law_due"] []) (gA : mg "_law_apart" = some (.ref f9))
    (mLen : mg "len" = none) (mMax : mg "max" = none) (mMin : mg "min" = none) (mRange : mg "range" = none) (mList : mg "list" = none) (mIs : mg "isinstance" = none) (mBool : mg "bool" = none) (mTuple : mg "tuple" = none) (mZip : mg "zip" = none) (mEnum : mg "enumerate" = none) :
    FnOk P w K mg base CX0 15 f fd ["_law_script"] (spLaw K) := by
  have GP : FnOk P w K mg base CX0 1 f1 fd1 ["_law_script", "_law_k"] (spPool K) := ok_pool FP mLen
  have GT : FnOk P w K mg base CX0 1 f2 fd2 ["_law_pool_here", "_law_many"] spTake := ok_take FT
  have GK : FnOk P w K mg base CX0 14 f3 fd3 ["_law_pool_here", "_law_leaves", "_law_marks"] (spKind 12) := ok_kind FK bK gK FT bT gT mLen 12
  have GE : FnOk P w K mg base CX0 13 f4 fd4 ["_law_kind_here"] (spRows endsL 12) := ok_lends FE bE gE mLen 12
  have GW : FnOk P w K mg base CX0 13 f5 fd5 ["_law_kind_here"] (spRows waysL 12) := ok_lways FW bW gW mLen 12
  have GO : FnOk P w K mg base CX0 1 f6 fd6 ["kind"] (spRows endsL 20) := ok_ends FO mList
  have GY : FnOk P w K mg base CX0 1 f7 fd7 ["kind"] (spRows waysL 20) := ok_ways FY
  have GI : FnOk P w K mg base CX0 1 f8 fd8 ["_law_found", "_law_due"] spIs := ok_is FI mLen mZip mIs mList mTuple mBool
  have GA : FnOk P w K mg base CX0 1 f9 fd9 ["_law_found", "_law_due"] spApart := ok_apart FA mEnum
  refine F.ok scLaw (fun vs H Q E h => ?_) (fun cdv A outer s H vs Q E hr h => ?_)
  · obtain ⟨a, ns, rfl, _⟩ := h
    rfl
  · obtain ⟨a, ns, rfl, hS, hl, k⟩ := h
    have hr1 : Room 1 _ := hr.mono (by omega)
    have hr13 : Room 13 _ := hr.mono (by omega)
    refine ⟨_, pss_cons (ps_for PassesOwn.never rfl (pi_range1 (by rfl) mRange (pa_cons (pe_callB (call_max2 (by rfl)) (by rfl) mMax (by decide +kernel) (pa_cons pe_int (pa_cons (pe_callB (call_min2 (by rfl)) (by rfl) mMin (by decide +kernel) (pa_cons (pe_callB call_len_seq (by rfl) mLen PySem.boot_len (pa_cons (pv 0) pa_nil)) (pa_cons pe_int pa_nil))) pa_nil))) pa_nil)) (pg_name (i := 1) scLaw.nd rfl (Or.inl rfl))
        (pss_cons (ps_set (i := 2) scLaw.nd rfl (Or.inl rfl) (pe_call GP hr1 (by rfl) gP FP.kp bP .nil pass0 (pa_cons (pv 0) (pa_cons (pv 1) pa_nil))))
        (pss_cons (ps_set (i := 3) scLaw.nd rfl (Or.inl rfl) (pe_call GK hr (by rfl) gK FK.kp bK .nil pass0 (pa_cons (pv 2) (pa_cons (pe_op op_add pe_int (pe_call GT hr1 (by rfl) gT FT.kp bT .nil pass0 (pa_cons (pv 2) (pa_cons pe_int pa_nil)))) (pa_cons (pe_lst (pa_cons pe_str (pa_cons pe_str (pa_cons pe_str (pa_cons pe_str (pa_cons pe_str (pa_cons pe_str pa_nil))))))) pa_nil)))))
        (pss_cons (ps_set (i := 4) scLaw.nd rfl (Or.inl rfl) (pe_call GE hr13 (by rfl) gE FE.kp bE .nil pass0 (pa_cons (pv 3) pa_nil)))
        (pss_cons (ps_set (i := 5) scLaw.nd rfl (Or.inl rfl) (pe_call GW hr13 (by rfl) gW FW.kp bW .nil pass0 (pa_cons (pv 3) pa_nil)))
        (pss_cons (ps_set (i := 6) scLaw.nd rfl (Or.inl rfl) (pe_call GO hr1 (by rfl) gO FO.kp bO .nil pass0 (pa_cons (pv 3) pa_nil)))
        (pss_cons (ps_set (i := 7) scLaw.nd rfl (Or.inl rfl) (pe_call GY hr1 (by rfl) gY FY.kp bY .nil pass0 (pa_cons (pv 3) pa_nil)))
        (pss_cons (ps_if (PW.pt (pw_or (pt_not (pt_val (pe_call GI hr1 (by rfl) gI FI.kp bI .nil pass0 (pa_cons (pv 6) (pa_cons (pv 4) pa_nil))))) (pw_or1 (pt_not (pt_val (pe_call GI hr1 (by rfl) gI FI.kp bI .nil pass0 (pa_cons (pv 7) (pa_cons (pv 5) pa_nil)))))))) (pss_one (ps_ret pe_bl)) pss_nil)
        (pss_cons (ps_if (PW.pt (pw_or (pt_not (pt_val (pe_call GA hr1 (by rfl) gA FA.kp bA .nil pass0 (pa_cons (pv 6) (pa_cons (pv 4) pa_nil))))) (pw_or (pt_not (pt_val (pe_call GI hr1 (by rfl) gI FI.kp bI .nil pass0 (pa_cons (pv 7) (pa_cons (pv 5) pa_nil))))) (pw_or1 (pt_not (pt_val (pe_call GA hr1 (by rfl) gA FA.kp bA .nil pass0 (pa_cons (pv 7) (pa_cons (pv 5) pa_nil))))))))) (pss_one (ps_ret pe_bl)) pss_nil)
        (pss_one (ps_if (PW.pt (pw_or (pt_not (pt_val (pe_call GI hr1 (by rfl) gI FI.kp bI .nil pass0 (pa_cons (pe_call GO hr1 (by rfl) gO FO.kp bO .nil pass0 (pa_cons (pv 3) pa_nil)) (pa_cons (pv 4) pa_nil))))) (pw_or1 (pt_not (pt_val (pe_call GI hr1 (by rfl) gI FI.kp bI .nil pass0 (pa_cons (pe_call GY hr1 (by rfl) gY FY.kp bY .nil pass0 (pa_cons (pv 3) pa_nil)) (pa_cons (pv 5) pa_nil)))))))) (pss_one (ps_ret pe_bl)) pss_nil)))))))))))
      (pss_one (ps_ret pe_bl)), ?_⟩
    refine ⟨_, rfl, a, _, rfl, .inl hS, _, _, rfl, _, _, rfl, ?_⟩
    rw [List.length_map]
    obtain ⟨j, hj, hj1, hj2⟩ : ∃ j : Int, (if (if (20 : Int) < (ns.length : Int) then 20 else (ns.length : Int)) > 1 then (if (20 : Int) < (ns.length : Int) then 20 else (ns.length : Int)) else 1) = j ∧ 1 ≤ j ∧ j ≤ 20 := ⟨_, rfl, by split <;> (try split) <;> omega, by split <;> (try split) <;> omega⟩
    rw [hj]
    refine ⟨j, rfl, by omega, by omega, for_range (lo := 0) (n := j.toNat) (fun i σ H2 => ∃ (i1 i2 i3 i4 i5 i6 i7 : Option V), σ = [some (.ref a), i1, i2, i3, i4, i5, i6, i7] ∧ Same H H2) ⟨none, none, none, none, none, none, none, rfl, Same.refl _⟩ ?_ ?_⟩
    · rintro i σ H2 hi ⟨i1, i2, i3, i4, i5, i6, i7, rfl, hS2⟩
      refine ⟨_, rfl, _, rfl, a, ns, i, by rw [Int.zero_add]; rfl, hS2.seq hS, hl, by omega, fun p H3 hp0 hp e3 => ?_⟩
      have s3 : Same H2 H3 := fun b o e => (e3 b (ne_of_none e hp0)).trans e
      refine ⟨_, rfl, _, rfl, p, 12, rfl, hp, by decide, by decide, fun r H4 r0 r1 hp4 e4 => ?_⟩
      obtain ⟨rn, rfl⟩ : ∃ rn : Nat, r = rn := ⟨r.toNat, by omega⟩
      refine ⟨_, _, rfl, rfl, by show 6 ≤ sizeLine; decide, fun M hM => ?_⟩
      refine ⟨p, M, 1 + rn, ["a", "one", "to", "both", "mark", "x"], rfl, hp4.upd hM, by omega, by omega, by omega, upd_same, by decide, by decide, by decide +kernel, fun v kd H5 hk hkl hko hp5 k5 => ?_⟩
      have hpn : H p = none := hS2.free hp0
      have s5 : Same H H5 := fun b o e => by
        have n : b ≠ p := ne_of_none e hpn
        have q4 : H4 b = some o := (e4 b n).trans (s3 b o (hS2 b o e))
        exact k5 b o n (same_new hM b o q4)
      have hdl := kd.deep_lt
      have el := endsL_len kd
      have wl := waysL_len kd
      have eo := endsL_ok kd hko (by omega)
      have wo := waysL_ok kd hko (by omega)
      refine ⟨_, rfl, v, kd, rfl, hk, by omega, by omega, hko, fun E1 ps1 H6 r1 q1 s6 hE1 f1 => ?_⟩
      have hk6 := KdAt.mono (tups_of s6) _ _ hk
      refine ⟨_, rfl, v, kd, rfl, hk6, by omega, by omega, hko, fun W1 qs1 H7 r2 q2 s7 hW1 f2 => ?_⟩
      have hk7 := KdAt.mono (tups_of s7) _ _ hk6
      have R1 := r1.same s7
      refine ⟨_, rfl, v, kd, rfl, hk7, by omega, by omega, hko, fun F1 ps2 H8 r3 q3 s8 hF1 f3 => ?_⟩
      have hk8 := KdAt.mono (tups_of s8) _ _ hk7
      refine ⟨_, rfl, v, kd, rfl, hk8, by omega, by omega, hko, fun G1 qs2 H9 r4 q4 s9 hG1 f4 => ?_⟩
      have s79 := Same.trans s8 s9
      have o1 : ∀ q ∈ ps1.map (·.1), ROk q := fun q h => by rw [q1] at h; exact ⟨(eo q h).1, (eo q h).2.1⟩
      have o2 : ∀ q ∈ qs1.map (·.1), ROk q := fun q h => by rw [q2] at h; exact ⟨(wo q h).1, (wo q h).2.1⟩
      have n1 : ∀ q ∈ ps1.map (·.1), ROk q ∧ q.1.length ≤ 100 := fun q h => ⟨o1 q h, by rw [q1] at h; have := (eo q h).2.2; omega⟩
      have n2 : ∀ q ∈ qs1.map (·.1), ROk q ∧ q.1.length ≤ 100 := fun q h => ⟨o2 q h, by rw [q2] at h; have := (wo q h).2.2; omega⟩
      have c2 : ps2.length ≤ 100 := by have := congrArg List.length q3; rw [List.length_map] at this; omega
      have c4 : qs2.length ≤ 100 := by have := congrArg List.length q4; rw [List.length_map] at this; omega
      -- the first look
      refine ⟨_, rfl, _, rfl, F1, E1, ps2, ps1, rfl, r3.same s9, R1.same s79, by rw [q3, q1], o1, fun H10 s10 => ⟨true, rfl, ?_⟩⟩
      refine iteF ?_
      have s7a := Same.trans s79 s10
      refine ⟨_, rfl, _, rfl, G1, W1, qs2, qs1, rfl, r4.same s10, r2.same s7a, by rw [q4, q2], o2, fun H11 s11 => ⟨true, rfl, ?_⟩⟩
      refine iteF ?_
      have s7b := Same.trans s7a s11
      have s8b := Same.trans s9 (Same.trans s10 s11)
      -- told changed
      have some7 : ∀ b, b = E1 ∨ b ∈ ps1.map (·.2) ∨ b = W1 ∨ b ∈ qs1.map (·.2) → ∃ xs, H7 b = some (.lst xs) := fun b hb => by
        rcases hb with hb | hb | hb | hb
        · obtain ⟨vs, e, _⟩ := R1.ex
          exact ⟨vs, hb ▸ e⟩
        · exact R1.lists b hb
        · obtain ⟨vs, e, _⟩ := r2.ex
          exact ⟨vs, hb ▸ e⟩
        · exact r2.lists b hb
      have new7 : ∀ b, b = F1 ∨ b ∈ ps2.map (·.2) → H7 b = none := fun b hb => hb.elim (fun e => e ▸ hF1) (f3 b)
      have new8 : ∀ b, b = G1 ∨ b ∈ qs2.map (·.2) → H8 b = none := fun b hb => hb.elim (fun e => e ▸ hG1) (f4 b)
      have some8 : ∀ b, b = F1 ∨ b ∈ ps2.map (·.2) → ∃ xs, H8 b = some (.lst xs) := fun b hb => by
        rcases hb with hb | hb
        · obtain ⟨vs, e, _⟩ := r3.ex
          exact ⟨vs, hb ▸ e⟩
        · exact r3.lists b hb
      have ne7 : ∀ b c, (∃ xs, H7 b = some (.lst xs)) → H7 c = none → c ≠ b := fun b c ⟨xs, e⟩ n z => by rw [z, e] at n; cases n
      refine ⟨_, rfl, _, rfl, F1, E1, ps2, ps1, rfl, r3.same s8b, R1.same s7b, by rw [q3, q1], n1, c2, fun b hb => ⟨ne7 E1 b (some7 _ (.inl rfl)) (new7 b hb), fun z => ne7 b b (some7 b (.inr (.inl z))) (new7 b hb) rfl⟩, fun H12 k12 => ⟨true, rfl, ?_⟩⟩
      refine iteF ?_
      have s7c : Same H7 H12 := fun b o e => k12 b o (ne_of_none e hF1) (fun z => by rw [f3 b z] at e; cases e) (s7b b o e)
      have t12 : Tups H11 H12 := fun b xs e => k12 b _ (fun z => by
          obtain ⟨ys, e2⟩ := some8 b (.inl z)
          rw [s8b _ _ e2] at e
          cases e) (fun z => by
          obtain ⟨ys, e2⟩ := some8 b (.inr z)
          rw [s8b _ _ e2] at e
          cases e) e
      have R4 : Res H12 G1 qs2 := (r4.same (Same.trans s10 s11)).keep t12 fun b xs hb e => k12 b _ (fun z => by
          obtain ⟨ys, e2⟩ := some8 b (.inl z)
          rw [new8 b hb] at e2
          cases e2) (fun z => by
          obtain ⟨ys, e2⟩ := some8 b (.inr z)
          rw [new8 b hb] at e2
          cases e2) e
      refine ⟨_, rfl, _, rfl, G1, W1, qs2, qs1, rfl, R4, r2.same s7c, by rw [q4, q2], o2, fun H13 s13 => ⟨true, rfl, ?_⟩⟩
      refine iteF ?_
      have s7d := Same.trans s7c s13
      have new7' : ∀ b, b = G1 ∨ b ∈ qs2.map (·.2) → H7 b = none := fun b hb => s8.free (new8 b hb)
      refine ⟨_, rfl, _, rfl, G1, W1, qs2, qs1, rfl, R4.same s13, r2.same s7d, by rw [q4, q2], n2, c4, fun b hb => ⟨ne7 W1 b (some7 _ (.inr (.inr (.inl rfl)))) (new7' b hb), fun z => ne7 b b (some7 b (.inr (.inr (.inr z)))) (new7' b hb) rfl⟩, fun H14 k14 => ⟨true, rfl, ?_⟩⟩
      refine iteF ?_
      have s7e : Same H7 H14 := fun b o e => k14 b o (ne_of_none e (new7' _ (.inl rfl))) (fun z => by rw [new7' b (.inr z)] at e; cases e) (s7d b o e)
      have hk14 := KdAt.mono (tups_of s7e) _ _ hk7
      -- told anew
      refine ⟨_, rfl, v, kd, rfl, hk14, by omega, by omega, hko, fun F2 ps3 H15 r5 q5 s15 hF2 f5 => ?_⟩
      have s7f := Same.trans s7e s15
      refine ⟨_, rfl, F2, E1, ps3, ps1, rfl, r5, R1.same s7f, by rw [q5, q1], o1, fun H16 s16 => ⟨true, rfl, ?_⟩⟩
      refine iteF ?_
      have s7g := Same.trans s7f s16
      refine ⟨_, rfl, v, kd, rfl, KdAt.mono (tups_of s7g) _ _ hk7, by omega, by omega, hko, fun G2 qs3 H17 r6 q6 s17 hG2 f6 => ?_⟩
      have s7h := Same.trans s7g s17
      refine ⟨_, rfl, G2, W1, qs3, qs1, rfl, r6, r2.same s7h, by rw [q6, q2], o2, fun H18 s18 => ⟨true, rfl, ?_⟩⟩
      refine iteF ?_
      exact ⟨_, _, _, _, _, _, _, rfl, Same.trans s5 (Same.trans s6 (Same.trans s7 (Same.trans s7h s18)))⟩
    · rintro σ H2 ⟨i1, i2, i3, i4, i5, i6, i7, rfl, hS2⟩
      exact k H2
end
/-! the end -/
theorem all_mk {l : PySem.W.OpenLaw} {w : World} {K : PySem.W.Frag} {h : Heap} {mg : Str → Option Value} {fa f0 f1 f2 f3 f4 f5 f6 f7 f8 f9 : Addr} (X : K.In h) (G : h.Ns mainGlobals mg) (hfa : mg "law" = some (.ref fa))
    {od0 an0 od1 an1 od2 an2 od3 an3 od4 an4 od5 an5 od6 an6 od7 an7 od8 an8 od9 an9 : Option Addr}
    {sl0 sl1 sl2 sl3 sl4 sl5 sl6 sl7 sl8 sl9 : Array (Option Value)} {oc0 kV0 dc0 pm0 cd0 ct0 oc1 kV1 dc1 pm1 cd1 ct1 oc2 kV2 dc2 pm2 cd2 ct2 oc3 kV3 dc3 pm3 cd3 ct3 oc4 kV4 dc4 pm4 cd4 ct4 oc5 kV5 dc5 pm5 cd5 ct5 oc6 kV6 dc6 pm6 cd6 ct6 oc7 kV7 dc7 pm7 cd7 ct7 oc8 kV8 dc8 pm8 cd8 ct8 oc9 kV9 dc9 pm9 cd9 ct9 : Value}
    (a0 : PySem.W.nsIn K mainGlobals "law" = some (some (.ref f0)))
    (l0 : K.lookup f0 = some ⟨oc0, od0, .func (PySem.W.fnOf "law" "law" (defArgs sLaw) (defBody sLaw) (defScope sLaw) .none kV0 dc0 pm0 an0 cd0 ct0), sl0⟩)
    (c0 : PySem.W.codeIn K cd0 "law" = true) (k0 : PySem.W.keepIn K (.ref f0) = true)
    (a1 : PySem.W.nsIn K mainGlobals "_law_pool" = some (some (.ref f1)))
    (l1 : K.lookup f1 = some ⟨oc1, od1, .func (PySem.W.fnOf "_law_pool" "_law_pool" (defArgs sPool) (defBody sPool) (defScope sPool) .none kV1 dc1 pm1 an1 cd1 ct1), sl1⟩)
    (c1 : PySem.W.codeIn K cd1 "_law_pool" = true) (k1 : PySem.W.keepIn K (.ref f1) = true)
    (a2 : PySem.W.nsIn K mainGlobals "_law_take" = some (some (.ref f2)))
    (l2 : K.lookup f2 = some ⟨oc2, od2, .func (PySem.W.fnOf "_law_take" "_law_take" (defArgs sTake) (defBody sTake) (defScope sTake) .none kV2 dc2 pm2 an2 cd2 ct2), sl2⟩)
    (c2 : PySem.W.codeIn K cd2 "_law_take" = true) (k2 : PySem.W.keepIn K (.ref f2) = true)
    (a3 : PySem.W.nsIn K mainGlobals "_law_kind" = some (some (.ref f3)))
    (l3 : K.lookup f3 = some ⟨oc3, od3, .func (PySem.W.fnOf "_law_kind" "_law_kind" (defArgs sKind) (defBody sKind) (defScope sKind) .none kV3 dc3 pm3 an3 cd3 ct3), sl3⟩)
    (c3 : PySem.W.codeIn K cd3 "_law_kind" = true) (k3 : PySem.W.keepIn K (.ref f3) = true)
    (a4 : PySem.W.nsIn K mainGlobals "_law_ends" = some (some (.ref f4)))
    (l4 : K.lookup f4 = some ⟨oc4, od4, .func (PySem.W.fnOf "_law_ends" "_law_ends" (defArgs sLends) (defBody sLends) (defScope sLends) .none kV4 dc4 pm4 an4 cd4 ct4), sl4⟩)
    (c4 : PySem.W.codeIn K cd4 "_law_ends" = true) (k4 : PySem.W.keepIn K (.ref f4) = true)
    (a5 : PySem.W.nsIn K mainGlobals "_law_ways" = some (some (.ref f5)))
    (l5 : K.lookup f5 = some ⟨oc5, od5, .func (PySem.W.fnOf "_law_ways" "_law_ways" (defArgs sLways) (defBody sLways) (defScope sLways) .none kV5 dc5 pm5 an5 cd5 ct5), sl5⟩)
    (c5 : PySem.W.codeIn K cd5 "_law_ways" = true) (k5 : PySem.W.keepIn K (.ref f5) = true)
    (a6 : PySem.W.nsIn K mainGlobals "ends_of" = some (some (.ref f6)))
    (l6 : K.lookup f6 = some ⟨oc6, od6, .func (PySem.W.fnOf "ends_of" "ends_of" (defArgs sEnds) (defBody sEnds) (defScope sEnds) .none kV6 dc6 pm6 an6 cd6 ct6), sl6⟩)
    (c6 : PySem.W.codeIn K cd6 "ends_of" = true) (k6 : PySem.W.keepIn K (.ref f6) = true)
    (a7 : PySem.W.nsIn K mainGlobals "ways_of" = some (some (.ref f7)))
    (l7 : K.lookup f7 = some ⟨oc7, od7, .func (PySem.W.fnOf "ways_of" "ways_of" (defArgs sWays) (defBody sWays) (defScope sWays) .none kV7 dc7 pm7 an7 cd7 ct7), sl7⟩)
    (c7 : PySem.W.codeIn K cd7 "ways_of" = true) (k7 : PySem.W.keepIn K (.ref f7) = true)
    (a8 : PySem.W.nsIn K mainGlobals "_law_is" = some (some (.ref f8)))
    (l8 : K.lookup f8 = some ⟨oc8, od8, .func (PySem.W.fnOf "_law_is" "_law_is" (defArgs sIs) (defBody sIs) (defScope sIs) .none kV8 dc8 pm8 an8 cd8 ct8), sl8⟩)
    (c8 : PySem.W.codeIn K cd8 "_law_is" = true) (k8 : PySem.W.keepIn K (.ref f8) = true)
    (a9 : PySem.W.nsIn K mainGlobals "_law_apart" = some (some (.ref f9)))
    (l9 : K.lookup f9 = some ⟨oc9, od9, .func (PySem.W.fnOf "_law_apart" "_law_apart" (defArgs sApart) (defBody sApart) (defScope sApart) .none kV9 dc9 pm9 an9 cd9 ct9), sl9⟩)
    (c9 : PySem.W.codeIn K cd9 "_law_apart" = true) (k9 : PySem.W.keepIn K (.ref f9) = true)
    (z0 : PySem.W.nsIn K mainGlobals "len" = some none)
    (z1 : PySem.W.nsIn K mainGlobals "max" = some none)
    (z2 : PySem.W.nsIn K mainGlobals "min" = some none)
    (z3 : PySem.W.nsIn K mainGlobals "range" = some none)
    (z4 : PySem.W.nsIn K mainGlobals "list" = some none)
    (z5 : PySem.W.nsIn K mainGlobals "isinstance" = some none)
    (z6 : PySem.W.nsIn K mainGlobals "bool" = some none)
    (z7 : PySem.W.nsIn K mainGlobals "tuple" = some none)
    (z8 : PySem.W.nsIn K mainGlobals "zip" = some none)
    (z9 : PySem.W.nsIn K mainGlobals "enumerate" = some none) :
    ∃ fd : FuncData, (∀ (s : Shared) (v : Value), BindsTo s fd ⟨[v], []⟩ [("_law_script", v)]) ∧ ∀ base : Heap, K.In base → base.Ns mainGlobals mg → FnOk l.prog w K mg base CX0 15 fa fd ["_law_script"] (spLaw K) := by
  have e := hfa.symm.trans (PySem.W.mg_of X G a0)
  cases e
  have F0 := fun_mk (st := sLaw) l0 c0 k0
  have F1 := fun_mk (st := sPool) l1 c1 k1
  have b1 := F1.binds (ps := ["_law_script", "_law_k"]) fun _ _ _ _ _ _ us hl => match us, hl with | [_, _], _ => rfl
  have g1 := PySem.W.mg_of X G a1
  have F2 := fun_mk (st := sTake) l2 c2 k2
  have b2 := F2.binds (ps := ["_law_pool_here", "_law_many"]) fun _ _ _ _ _ _ us hl => match us, hl with | [_, _], _ => rfl
  have g2 := PySem.W.mg_of X G a2
  have F3 := fun_mk (st := sKind) l3 c3 k3
  have b3 := F3.binds (ps := ["_law_pool_here", "_law_leaves", "_law_marks"]) fun _ _ _ _ _ _ us hl => match us, hl with | [_, _, _], _ => rfl
  have g3 := PySem.W.mg_of X G a3
  have F4 := fun_mk (st := sLends) l4 c4 k4
  have b4 := F4.binds (ps := ["_law_kind_here"]) fun _ _ _ _ _ _ us hl => match us, hl with | [_], _ => rfl
  have g4 := PySem.W.mg_of X G a4
  have F5 := fun_mk (st := sLways) l5 c5 k5
  have b5 := F5.binds (ps := ["_law_kind_here"]) fun _ _ _ _ _ _ us hl => match us, hl with | [_], _ => rfl
  have g5 := PySem.W.mg_of X G a5
  have F6 := fun_mk (st := sEnds) l6 c6 k6
  have b6 := F6.binds (ps := ["kind"]) fun _ _ _ _ _ _ us hl => match us, hl with | [_], _ => rfl
  have g6 := PySem.W.mg_of X G a6
  have F7 := fun_mk (st := sWays) l7 c7 k7
  have b7 := F7.binds (ps := ["kind"]) fun _ _ _ _ _ _ us hl => match us, hl with | [_], _ => rfl
  have g7 := PySem.W.mg_of X G a7
  have F8 := fun_mk (st := sIs) l8 c8 k8
  have b8 := F8.binds (ps := ["_law_found", "_law_due"]) fun _ _ _ _ _ _ us hl => match us, hl with | [_, _], _ => rfl
  have g8 := PySem.W.mg_of X G a8
  have F9 := fun_mk (st := sApart) l9 c9 k9
  have b9 := F9.binds (ps := ["_law_found", "_law_due"]) fun _ _ _ _ _ _ us hl => match us, hl with | [_, _], _ => rfl
  have g9 := PySem.W.mg_of X G a9
  have m0 := PySem.W.mg_none_of X G z0
  have m1 := PySem.W.mg_none_of X G z1
  have m2 := PySem.W.mg_none_of X G z2
  have m3 := PySem.W.mg_none_of X G z3
  have m4 := PySem.W.mg_none_of X G z4
  have m5 := PySem.W.mg_none_of X G z5
  have m6 := PySem.W.mg_none_of X G z6
  have m7 := PySem.W.mg_none_of X G z7
  have m8 := PySem.W.mg_none_of X G z8
  have m9 := PySem.W.mg_none_of X G z9
  exact ⟨PySem.W.fnOf "law" "law" (defArgs sLaw) (defBody sLaw) (defScope sLaw) .none kV0 dc0 pm0 an0 cd0 ct0, fun s v => .of_eq rfl, fun base _ _ => ok_law F0 F1 b1 g1 F2 b2 g2 F3 b3 g3 F4 b4 g4 F5 b5 g5 F6 b6 g6 F7 b7 g7 F8 b8 g8 F9 b9 g9 m0 m1 m2 m3 m4 m5 m6 m7 m8 m9⟩
theorem walk {l : PySem.W.OpenLaw} {q : Program} {loose : List Str} {XP : (Str → Option Value) → Heap → Prop} {YP : World → Heap → Prop} {d : DefRec} {K : Params → PySem.W.Frag} (hn : l.most = some 63) (hdf : d.params.defaults = [])
    (hY : ∀ (w : World) (h : Heap), YP w h → (K w.params).In h)
    (F : ∀ (w : World) (mg : Str → Option Value) (fa : Addr) (h : Heap), (K w.params).In h → h.Ns mainGlobals mg → mg d.name = some (.ref fa) →
      ∃ fd : FuncData, (∀ (s : Shared) (u : Value), BindsTo s fd ⟨[u], []⟩ [("_law_script", u)]) ∧ ∀ base : Heap, (K w.params).In base → base.Ns mainGlobals mg → FnOk l.prog w (K w.params) mg base CX0 15 fa fd ["_law_script"] (spLaw (K w.params))) :
    PySem.W.WalkO q loose XP YP l.row.toRowW d [] (fun f vs => PySem.call f vs) :=
  L2.walk_of (n := 63) (k := 15) (x := "_law_script") (CX := fun _ => CX0) (sp := fun w => spLaw (K w.params)) hn (by decide) hdf ⟨rfl, by decide, by decide⟩ hY F (fun _ _ a ns hl _ hS => ⟨a, ns, rfl, hS, hl, fun _ => rfl⟩) fun _ _ _ _ _ z => z
end Kf
open PySem PySem.W PyProof.Rows
set_option maxRecDepth 100000 in
set_option maxHeartbeats 0 in
theorem PySem.Challenge.cw_kindfill_k04_ends_and_ways_holds : PySem.Challenge.rw_kindfill_k04_ends_and_ways.Holds := by
  w_on; o_law; k_head; (case hw => w_witness2)
  k_fill
  refine Kf.walk (l := PySem.Challenge.rw_kindfill_k04_ends_and_ways) rfl rfl (fun w h Y => PySem.W.kIn_of Y) ?F
  case F =>
    intro w mg fa h KX G hmg
    refine' Kf.all_mk KX G hmg ?a0 ?l0 ?c0 ?k0 ?a1 ?l1 ?c1 ?k1 ?a2 ?l2 ?c2 ?k2 ?a3 ?l3 ?c3 ?k3 ?a4 ?l4 ?c4 ?k4 ?a5 ?l5 ?c5 ?k5 ?a6 ?l6 ?c6 ?k6 ?a7 ?l7 ?c7 ?k7 ?a8 ?l8 ?c8 ?k8 ?a9 ?l9 ?c9 ?k9 ?z0 ?z1 ?z2 ?z3 ?z4 ?z5 ?z6 ?z7 ?z8 ?z9
    (case a0 => k_is)
    (case l0 => k_is)
    (case c0 => k_is)
    (case k0 => k_is)
    (case a1 => k_is)
    (case l1 => k_is)
    (case c1 => k_is)
    (case k1 => k_is)
    (case a2 => k_is)
    (case l2 => k_is)
    (case c2 => k_is)
    (case k2 => k_is)
    (case a3 => k_is)
    (case l3 => k_is)
    (case c3 => k_is)
    (case k3 => k_is)
    (case a4 => k_is)
    (case l4 => k_is)
    (case c4 => k_is)
    (case k4 => k_is)
    (case a5 => k_is)
    (case l5 => k_is)
    (case c5 => k_is)
    (case k5 => k_is)
    (case a6 => k_is)
    (case l6 => k_is)
    (case c6 => k_is)
    (case k6 => k_is)
    (case a7 => k_is)
    (case l7 => k_is)
    (case c7 => k_is)
    (case k7 => k_is)
    (case a8 => k_is)
    (case l8 => k_is)
    (case c8 => k_is)
    (case k8 => k_is)
    (case a9 => k_is)
    (case l9 => k_is)
    (case c9 => k_is)
    (case k9 => k_is)
    (case z0 => k_is)
    (case z1 => k_is)
    (case z2 => k_is)
    (case z3 => k_is)
    (case z4 => k_is)
    (case z5 => k_is)
    (case z6 => k_is)
    (case z7 => k_is)
    (case z8 => k_is)
    (case z9 => k_is)
