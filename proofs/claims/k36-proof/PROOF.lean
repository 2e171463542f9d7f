import PyProof.Rows.All
import Wide.All
import OpenK.AllK
import Wide.FinOn
import HandS.ForMost
import HandS.IsInst
import HandS.Flow
import HandS.Style
import HandS.Text
import HandS.AnyAll
import HandS.EndTab
import HandS.More
import HandS.Walk
import HandS.Codes
import HandS.NoneIn
import HandS.ForExc
import HandS.Zip
import HandS.Iter
import HandS.RevRange
import PySem.Challenge.RW_kindfill_k36_whole_what_holds_stays
set_option Elab.async false
set_option maxRecDepth 100000
namespace Kf
open PySem L2
def top (i : Nat) : Stmt := PySem.Challenge.pw_kindfill_k36_whole_what_holds_stays.main.body.getD i (.Pass ⟨0, 0, 0, 0⟩)
abbrev sHolds : Stmt := top 1
abbrev sLaid : Stmt := top 2
abbrev sWhere : Stmt := top 3
abbrev sPool : Stmt := top 5
abbrev sTake : Stmt := top 6
abbrev sMarks : Stmt := top 7
abbrev sKind : Stmt := top 8
abbrev sTree : Stmt := top 9
abbrev sAll : Stmt := top 10
abbrev sRises : Stmt := top 11
abbrev sRight : Stmt := top 12
abbrev sLaw : Stmt := top 13
/-- a pool at p: what is left of the cell, and a number -/
def PoolAt (H : Hp) (p : Addr) : Prop := ∃ c n : Int, H p = some (.lst [.int c, .int n]) ∧ 0 ≤ n ∧ n < 2147483647
def spTake : Sp := fun vs H Q _ => ∃ (p : Addr) (m : Int), vs = [.ref p, .int m] ∧ PoolAt H p ∧ 0 < m ∧ m < 1073741824 ∧
  ∀ (r : Int) (H' : Hp), 0 ≤ r → r < m → PoolAt H' p → (∀ b, b ≠ p → H' b = H b) → Q (.int r) H'
def spPool (K : PySem.W.Frag) : Sp := fun vs H Q _ => ∃ (a : Addr) (ns : List Int) (k : Nat), vs = [.ref a, .int (k : Int)] ∧ SqL K H a (ns.map V.int) ∧ ns.length ≤ 63 ∧ k ≤ 63 ∧
  ∀ (p : Addr) (H' : Hp), H p = none → PoolAt H' p → (∀ b, b ≠ p → H' b = H b) → Q (.ref p) H'
theorem nm_nat {x m : Int} (hm : 0 < m) : 0 ≤ x.fmod m ∧ x.fmod m < m := ⟨Int.fmod_nonneg_of_pos x hm, Int.fmod_lt_of_pos x hm⟩
section
variable {P : Program} {w : World} {K : PySem.W.Frag} {mg : Str → Option Value} {base : Heap}
theorem scTake : FnScope ["_law_pool_here", "_law_many", "_law_found"] ["_law_pool_here", "_law_many"] (defScope sTake) := ⟨rfl, rfl, rfl, by decide +kernel, rfl, by decide +kernel, by decide +kernel⟩
theorem ok_take {f : Addr} {fd : FuncData} (F : Fun K "_law_take" "_law_take" sTake f fd) : FnOk P w K mg base CX0 1 f fd ["_law_pool_here", "_law_many"] spTake := by
  refine F.ok scTake (fun vs H Q E h => ?_) (fun cdv A outer s H vs Q E hr h => ?_)
  · obtain ⟨p, m, rfl, _⟩ := h
    rfl
  · obtain ⟨p, m, rfl, ⟨c, n, hp, hn0, hn1⟩, hm0, hm1, k⟩ := h
    refine ⟨_, pss_cons (ps_if (pt_cmpR op_gt (pe_ix ix_list (pv 0) pe_int (fun _ _ => rfl)) pe_int (nomark _))
        (pss_cons (ps_set (i := 2) scTake.nd rfl (Or.inl rfl) (pe_op op_modN (pe_ix ix_list (pv 0) pe_int (fun _ _ => rfl)) (pv 1)))
        (pss_cons (ps_asg (pe_op op_fdivN (pe_ix ix_list (pv 0) pe_int (fun _ _ => rfl)) (pv 1)) (pg_sub (pv 0) pe_int set_list))
        (pss_one (ps_ret (pv 2))))) pss_nil)
      (pss_cons (ps_asg (pe_op op_modN (pe_op op_add (pe_op op_mul (pe_ix ix_list (pv 0) pe_int (fun _ _ => rfl)) pe_int) pe_int) pe_int) (pg_sub (pv 0) pe_int set_list))
      (pss_one (ps_ret (pe_op op_modN (pe_op op_fdivN (pe_op op_modN (pe_op op_mul (pe_ix ix_list (pv 0) pe_int (fun _ _ => rfl)) (pe_ix ix_list (pv 0) pe_int (fun _ _ => rfl))) pe_int) pe_int) (pv 1))))), ?_⟩
    refine ⟨_, rfl, p, _, _, _, rfl, rfl, SqL.of hp, atI_nat (j := 0) rfl, _, _, rfl, rfl, _, rfl, ?_⟩
    have M := nm_nat (x := c) hm0
    refine ite2 (fun _ => ?_) (fun _ => ?_)
    · refine ⟨_, rfl, p, _, _, _, rfl, rfl, SqL.of hp, atI_nat (j := 0) rfl, _, rfl, _, _, rfl, rfl, by omega, ?_⟩
      refine ⟨_, rfl, p, _, _, _, rfl, rfl, SqL.of hp, atI_nat (j := 0) rfl, _, rfl, _, _, rfl, rfl, ⟨by omega, by omega⟩, ?_⟩
      refine ⟨_, rfl, p, _, _, 0, rfl, rfl, hp, rfl, ?_⟩
      refine ⟨_, rfl, ?_⟩
      exact k _ _ M.1 M.2 ⟨_, _, upd_same, hn0, hn1⟩ fun b hb => upd_ne hb
    · have N0 := nm_nat (x := n * 48271 + 11) (m := 2147483647) (by decide)
      refine ⟨_, rfl, p, _, _, _, rfl, rfl, SqL.of hp, atI_nat (j := 1) rfl, _, _, rfl, rfl, .inl ⟨by omega, by omega⟩, _, _, rfl, rfl, _, _, rfl, rfl, (by show (2147483647 : Int) ≠ 0; decide), ?_⟩
      refine ⟨_, rfl, p, _, _, 1, rfl, rfl, hp, rfl, ?_⟩
      have N1 := nm_nat (x := (n * 48271 + 11).fmod 2147483647 * (n * 48271 + 11).fmod 2147483647) (m := 2147483629) (by decide)
      refine ⟨_, rfl, p, _, _, _, rfl, rfl, SqL.of upd_same, atI_nat (j := 1) rfl, _, rfl, p, _, _, _, rfl, rfl, SqL.of upd_same, atI_nat (j := 1) rfl, _, _, rfl, rfl, .inl ⟨by omega, by omega⟩, ?_⟩
      refine ⟨_, _, rfl, rfl, (by show (2147483629 : Int) ≠ 0; decide), _, _, rfl, rfl, ⟨by decide, by decide⟩, _, rfl, _, _, rfl, rfl, by omega, ?_⟩
      exact k _ _ (nm_nat hm0).1 (nm_nat hm0).2 ⟨_, _, upd_same, N0.1, N0.2⟩ fun b hb => upd_ne hb
theorem scPool : FnScope ["_law_script", "_law_k", "_law_cell", "_law_number"] ["_law_script", "_law_k"] (defScope sPool) := ⟨rfl, rfl, rfl, by decide +kernel, rfl, by decide +kernel, by decide +kernel⟩
theorem ok_pool {f : Addr} {fd : FuncData} (F : Fun K "_law_pool" "_law_pool" sPool f fd) (mLen : mg "len" = none) : FnOk P w K mg base CX0 1 f fd ["_law_script", "_law_k"] (spPool K) := by
  refine F.ok scPool (fun vs H Q E h => ?_) (fun cdv A outer s H vs Q E hr h => ?_)
  · obtain ⟨a, ns, j, rfl, _⟩ := h
    rfl
  · obtain ⟨a, ns, j, rfl, hS, hl, hj, k⟩ := h
    refine ⟨_, pss_cons (ps_set (i := 2) scPool.nd rfl (Or.inl rfl) pe_int)
      (pss_cons (ps_if (pt_cmpR op_lt (pv 1) (pe_callB call_len_seq (by rfl) mLen PySem.boot_len (pa_cons (pv 0) pa_nil)) (nomark _))
        (pss_one (ps_set (i := 2) scPool.nd rfl (Or.inl rfl) (pe_ix ix_list (pv 0) (pv 1) (fun _ _ => rfl)))) pss_nil)
      (pss_cons (ps_set (i := 3) scPool.nd rfl (Or.inl rfl) (pe_op op_modN (pe_op op_pow (pe_op op_add (pe_op op_add (pe_op op_modN (pv 2) pe_int) (pe_op op_mul (pe_op op_mul pe_int (pv 1)) (pv 1))) pe_int) pe_int) pe_int))
      (pss_cons (ps_if (pt_cmpR op_lt (pv 2) (pe_op op_pow pe_int pe_int) (nomark _))
        (pss_one (ps_set (i := 2) scPool.nd rfl (Or.inl rfl) pe_int)) pss_nil)
      (pss_one (ps_ret (pe_lst (pa_cons (pv 2) (pa_cons (pv 3) pa_nil)))))))), ?_⟩
    have B : ∀ c : Int, 0 ≤ (c.fmod 2147483629 + 104729 * (j : Int) * (j : Int) + 11) ∧ (c.fmod 2147483629 + 104729 * (j : Int) * (j : Int) + 11) < 2 ^ 33 := fun c => by
      have M := nm_nat (x := c) (m := 2147483629) (by decide)
      have hj2 : (j : Int) * (j : Int) ≤ 63 * 63 := Int.mul_le_mul (by omega) (by omega) (by omega) (by omega)
      have hj0 : 0 ≤ (j : Int) * (j : Int) := Int.mul_nonneg (by omega) (by omega)
      have e : 104729 * (j : Int) * (j : Int) = 104729 * ((j : Int) * (j : Int)) := Int.mul_assoc _ _ _
      omega
    refine ⟨_, rfl, _, rfl, a, _, rfl, .inl hS, _, _, rfl, rfl, _, rfl, ?_⟩
    refine ite2 (fun hlt => ?_) (fun _ => ?_)
    · have hj' : j < ns.length := by simpa using hlt
      refine ⟨_, rfl, _, rfl, a, _, _, _, rfl, rfl, hS, atI_nat (j := j) (v := .int ns[j]) (by simp [hj']), ?_⟩
      generalize ns[j] = c
      have N := nm_nat (x := (c.fmod 2147483629 + 104729 * (j : Int) * (j : Int) + 11) ^ 3) (m := 2147483647) (by decide)
      have Bc := B c
      refine ⟨_, rfl, _, _, rfl, rfl, (by show (2147483629 : Int) ≠ 0; decide), _, rfl, _, _, rfl, rfl, .inl ⟨by decide, by decide⟩, _, rfl, _, _, rfl, rfl, .inl ⟨by omega, by omega⟩, ?_⟩
      refine ⟨_, _, rfl, rfl, _, _, rfl, rfl, _, _, rfl, rfl, ⟨by decide, by decide, by omega⟩, _, _, rfl, rfl, (by show (2147483647 : Int) ≠ 0; decide), ?_⟩
      refine ⟨_, rfl, _, _, rfl, rfl, ⟨by decide, by decide, by decide⟩, _, _, rfl, rfl, _, rfl, ?_⟩
      refine ite2 (fun _ => ?_) (fun _ => ?_)
      · exact ⟨_, rfl, _, rfl, (by show 2 ≤ sizeLine; decide), fun p hp => k _ _ hp ⟨_, _, upd_same, N.1, N.2⟩ fun b hb => upd_ne hb⟩
      · exact ⟨_, rfl, _, rfl, (by show 2 ≤ sizeLine; decide), fun p hp => k _ _ hp ⟨_, _, upd_same, N.1, N.2⟩ fun b hb => upd_ne hb⟩
    · have N := nm_nat (x := ((0 : Int).fmod 2147483629 + 104729 * (j : Int) * (j : Int) + 11) ^ 3) (m := 2147483647) (by decide)
      have Bc := B 0
      refine ⟨_, rfl, _, _, rfl, rfl, (by show (2147483629 : Int) ≠ 0; decide), _, rfl, _, _, rfl, rfl, .inl ⟨by decide, by decide⟩, _, rfl, _, _, rfl, rfl, .inl ⟨by omega, by omega⟩, ?_⟩
      refine ⟨_, _, rfl, rfl, _, _, rfl, rfl, _, _, rfl, rfl, ⟨by decide, by decide, by omega⟩, _, _, rfl, rfl, (by show (2147483647 : Int) ≠ 0; decide), ?_⟩
      refine ⟨_, rfl, _, _, rfl, rfl, ⟨by decide, by decide, by decide⟩, _, _, rfl, rfl, _, rfl, ?_⟩
      refine ite2 (fun _ => ?_) (fun _ => ?_)
      · exact ⟨_, rfl, _, rfl, (by show 2 ≤ sizeLine; decide), fun p hp => k _ _ hp ⟨_, _, upd_same, N.1, N.2⟩ fun b hb => upd_ne hb⟩
      · exact ⟨_, rfl, _, rfl, (by show 2 ≤ sizeLine; decide), fun p hp => k _ _ hp ⟨_, _, upd_same, N.1, N.2⟩ fun b hb => upd_ne hb⟩
end
theorem at_any {α : Type} {xs : List α} {r : Int} (h0 : 0 ≤ r) (h1 : r < xs.length) : ∃ v, atI xs r = some v ∧ v ∈ xs := by
  obtain ⟨n, rfl⟩ : ∃ n : Nat, r = n := ⟨r.toNat, by omega⟩
  have hn : n < xs.length := by omega
  exact ⟨xs[n], atI_nat (by simp [hn]), by simp⟩
theorem PoolAt.upd {H : Hp} {p l : Addr} {o : HO} (h : PoolAt H p) (hl : H l = none) : PoolAt (upd H l o) p := by
  obtain ⟨c, n, e, h0, h1⟩ := h
  exact ⟨c, n, by rw [upd_ne (ne_of_none e hl)]; exact e, h0, h1⟩
theorem PoolAt.ne {H : Hp} {p l : Addr} (h : PoolAt H p) (hl : H l = none) : l ≠ p := by
  obtain ⟨c, n, e, h0, h1⟩ := h
  exact (ne_of_none e hl).symm
theorem kept_upd {H H1 : Hp} {p l : Addr} {o : HO} (k : ∀ b u, b ≠ p → H b = some u → H1 b = some u) (hl : H1 l = none) : ∀ b u, b ≠ p → H b = some u → (upd H1 l o) b = some u := fun b u hb e => by
  rw [upd_ne (ne_of_none (k b u hb e) hl)]
  exact k b u hb e
theorem kept_eq {H H1 H2 : Hp} {p : Addr} (k : ∀ b u, b ≠ p → H b = some u → H1 b = some u) (e2 : ∀ b, b ≠ p → H2 b = H1 b) : ∀ b u, b ≠ p → H b = some u → H2 b = some u := fun b u hb e => (e2 b hb).trans (k b u hb e)
theorem small40 {n : Nat} (h : n ≤ 1000) : n ≤ sizeLine := Nat.le_trans h (by decide)

/-! kinds -/
inductive Kd where
  | one
  | mark (m : Str)
  | two (b : Bool) (k l : Kd)
def word (b : Bool) : Str := if b then "to" else "both"
def KdAt (H : Hp) : Kd → V → Prop
  | .one, v => ∃ a, v = .ref a ∧ H a = some (.tup [.str "one"])
  | .mark m, v => ∃ a, v = .ref a ∧ H a = some (.tup [.str "mark", .str m])
  | .two b k l, v => ∃ a x y, v = .ref a ∧ H a = some (.tup [.str (word b), x, y]) ∧ KdAt H k x ∧ KdAt H l y
/-- a mark: one to six small letters -/
structure MkOk (m : Str) : Prop where
  lay : PySem.PyData.canLay0 (.str m) = true
  pos : 1 ≤ m.length
  short : m.length ≤ 6
  free : 32 ∉ m.cps.toList
  nobr : 40 ∉ m.cps.toList
/-- tuples that stood stand -/
def Tups (H H' : Hp) : Prop := ∀ b xs, H b = some (.tup xs) → H' b = some (.tup xs)
theorem Tups.trans {H H1 H2 : Hp} (a : Tups H H1) (b : Tups H1 H2) : Tups H H2 := fun c xs e => b c xs (a c xs e)
theorem KdAt.mono {H H' : Hp} (t : Tups H H') : ∀ (k : Kd) (v : V), KdAt H k v → KdAt H' k v
  | .one, _, ⟨a, e, h⟩ => ⟨a, e, t _ _ h⟩
  | .mark _, _, ⟨a, e, h⟩ => ⟨a, e, t _ _ h⟩
  | .two _ k l, _, ⟨a, x, y, e, h, hk, hl⟩ => ⟨a, x, y, e, t _ _ h, KdAt.mono t k x hk, KdAt.mono t l y hl⟩
namespace Kd
def leaves : Kd → Nat
  | one => 1
  | mark _ => 1
  | two _ k l => k.leaves + l.leaves
def deep : Kd → Nat
  | one => 0
  | mark _ => 0
  | two _ k l => max k.deep l.deep + 1
def subs : Kd → List Kd
  | one => []
  | mark _ => []
  | two _ k l => [k, l]
def data : Kd → PyData
  | one => .tuple [.str "one"]
  | mark m => .tuple [.str "mark", .str m]
  | two b k l => .tuple [.str (word b), k.data, l.data]
def Ok : Kd → Prop
  | one => True
  | mark m => MkOk m
  | two _ k l => k.Ok ∧ l.Ok
theorem leaves_pos : ∀ k : Kd, 0 < k.leaves
  | one => Nat.one_pos
  | mark _ => Nat.one_pos
  | two _ k l => Nat.add_pos_left (leaves_pos k) _
theorem deep_lt : ∀ k : Kd, k.deep < k.leaves
  | one => Nat.one_pos
  | mark _ => Nat.one_pos
  | two _ k l => by
    have h1 := deep_lt k
    have h2 := deep_lt l
    show max k.deep l.deep + 1 < k.leaves + l.leaves
    have := leaves_pos k
    have := leaves_pos l
    omega
end Kd
/-- side by side -/
def All2 {α : Type} (R : α → V → Prop) : List α → List V → Prop
  | [], [] => True
  | k :: ks, v :: vs => R k v ∧ All2 R ks vs
  | _, _ => False
section
variable {α : Type} {R S : α → V → Prop}
theorem All2.mono (f : ∀ k v, R k v → S k v) : ∀ {ks : List α} {vs : List V}, All2 R ks vs → All2 S ks vs
  | [], [], _ => trivial
  | _ :: _, _ :: _, ⟨h, t⟩ => ⟨f _ _ h, All2.mono f t⟩
  | [], _ :: _, h => h.elim
  | _ :: _, [], h => h.elim
theorem All2.app : ∀ {ks : List α} {vs : List V} {ls : List α} {us : List V}, All2 R ks vs → All2 R ls us → All2 R (ks ++ ls) (vs ++ us)
  | [], [], _, _, _, g => g
  | _ :: _, _ :: _, _, _, ⟨h, t⟩, g => ⟨h, All2.app t g⟩
  | [], _ :: _, _, _, h, _ => h.elim
  | _ :: _, [], _, _, h, _ => h.elim
theorem All2.len : ∀ {ks : List α} {vs : List V}, All2 R ks vs → ks.length = vs.length
  | [], [], _ => rfl
  | _ :: _, _ :: _, ⟨_, t⟩ => congrArg (· + 1) (All2.len t)
  | [], _ :: _, h => h.elim
  | _ :: _, [], h => h.elim
/-- the last one -/
theorem All2.last : ∀ {ks : List α} {vs : List V}, All2 R ks vs → vs ≠ [] → ∃ ls k v, ks = ls ++ [k] ∧ vs = vs.dropLast ++ [v] ∧ All2 R ls vs.dropLast ∧ R k v ∧ vs[vs.length - 1]? = some v
  | [], [], _, h => absurd rfl h
  | [k], [v], ⟨h, _⟩, _ => ⟨[], k, v, rfl, rfl, trivial, h, rfl⟩
  | k :: k2 :: ks, v :: v2 :: vs, ⟨h, t⟩, _ => by
    obtain ⟨ls, k', v', e1, e2, a, r, q⟩ := All2.last t (by simp)
    refine ⟨k :: ls, k', v', by rw [e1]; rfl, ?_, ⟨h, a⟩, r, ?_⟩
    · show v :: v2 :: vs = v :: ((v2 :: vs).dropLast ++ [v'])
      rw [← e2]
    · exact q
  | [], _ :: _, h, _ => h.elim
  | _ :: _, [], h, _ => h.elim
  | [_], _ :: _ :: _, h, _ => h.2.elim
  | _ :: _ :: _, [_], h, _ => h.2.elim
end
theorem tups_of {H H' : Hp} (s : Same H H') : Tups H H' := fun b _ e => s b _ e
theorem tups_lst {H : Hp} {T : Addr} {xs ys : List V} (h : H T = some (.lst xs)) : Tups H (upd H T (.lst ys)) := fun b zs e => by
  have n : b ≠ T := ne_of e h (by intro z; cases z)
  rw [upd_ne n]
  exact e
theorem same_new {H : Hp} {p : Addr} {o : HO} (h : H p = none) : Same H (upd H p o) := fun b u e => by
  rw [upd_ne (ne_of_none e h)]
  exact e
theorem same_over {H H3 : Hp} {T : Addr} {o : HO} (S : Same H H3) (h : H T = none) : Same H (upd H3 T o) := fun b u e => by
  rw [upd_ne (ne_of_none e h)]
  exact S b u e
theorem All2.get {α : Type} {R : α → V → Prop} : ∀ {ks : List α} {vs : List V} {i : Nat} {v : V}, All2 R ks vs → vs[i]? = some v → ∃ k, ks[i]? = some k ∧ R k v
  | [], [], _, _, _, e => by simp at e
  | k :: _, v :: _, 0, _, ⟨h, _⟩, e => ⟨k, rfl, by simp at e; exact e ▸ h⟩
  | _ :: _, _ :: _, i + 1, _, ⟨_, t⟩, e => All2.get (i := i) t e
  | [], _ :: _, _, _, h, _ => h.elim
  | _ :: _, [], _, _, h, _ => h.elim
def Kept (p : Addr) (H H' : Hp) : Prop := ∀ b o, b ≠ p → H b = some o → H' b = some o
theorem Kept.trans {p : Addr} {H H1 H2 : Hp} (a : Kept p H H1) (b : Kept p H1 H2) : Kept p H H2 := fun c o n e => b c o n (a c o n e)
theorem kept_same {p : Addr} {H H1 : Hp} (s : Same H H1) : Kept p H H1 := fun b o _ e => s b o e
theorem kept_take {p : Addr} {H H1 : Hp} (e : ∀ b, b ≠ p → H1 b = H b) : Kept p H H1 := fun b _ n h => (e b n).trans h
theorem tups_kept {p : Addr} {H H1 : Hp} (k : Kept p H H1) (hp : PoolAt H p) : Tups H H1 := fun b _ e => by
  obtain ⟨c, n, z, _⟩ := hp
  exact k b _ (ne_of e z (by intro q; cases q)) e
theorem pool_marks {H : Hp} {p M : Addr} {ms : List Str} (hp : PoolAt H p) (hM : H M = some (.lst (ms.map V.str))) : M ≠ p := fun z => by
  obtain ⟨c, n, e, _⟩ := hp
  rw [z, e] at hM
  cases ms with
  | nil => cases hM
  | cons a r => cases hM
theorem PoolAt.same {H H1 : Hp} {p : Addr} (hp : PoolAt H p) (s : Same H H1) : PoolAt H1 p := by
  obtain ⟨c, n, e, h⟩ := hp
  exact ⟨c, n, s _ _ e, h⟩
theorem data_depth : ∀ k : Kd, k.data.depth = k.deep + 1
  | .one => by simp only [Kd.data, Kd.deep, PyData.depth, PyData.depthAll] <;> rfl
  | .mark m => by simp only [Kd.data, Kd.deep, PyData.depth, PyData.depthAll] <;> rfl
  | .two b k l => by
    have h1 := data_depth k
    have h2 := data_depth l
    simp only [Kd.data, Kd.deep, PyData.depth, PyData.depthAll, h1, h2]
    omega
theorem data_ok : ∀ k : Kd, k.Ok → k.data.canLay0 = true
  | .one, _ => by decide +kernel
  | .mark m, h => by
    have h' : PyData.canLay0 (.str m) = true := h.lay
    have e : PyData.canLay0 (.str "mark") = true := by decide +kernel
    simp only [Kd.data, PyData.canLay0, PyData.canLayAll0] at h' e ⊢
    rw [h', e] <;> rfl
  | .two b k l, ⟨h1, h2⟩ => by
    have i1 := data_ok k h1
    have i2 := data_ok l h2
    have e : PyData.canLay0 (.str (word b)) = true := by cases b <;> decide +kernel
    simp only [PyData.canLay0] at e
    simp only [Kd.data, PyData.canLay0, PyData.canLayAll0, i1, i2, e]
    rfl
theorem kd_dp {K : PySem.W.Frag} {H : Hp} : ∀ (k : Kd) (v : V), KdAt H k v → Dp K H v k.data
  | .one, _, ⟨a, e, h⟩ => by
    subst e
    exact .tup (SqT.of h) (.cons (.str _) .nil)
  | .mark m, _, ⟨a, e, h⟩ => by
    subst e
    exact .tup (SqT.of h) (.cons (.str _) (.cons (.str _) .nil))
  | .two b k l, _, ⟨a, x, y, e, h, h1, h2⟩ => by
    subst e
    exact .tup (SqT.of h) (.cons (.str _) (.cons (kd_dp k x h1) (.cons (kd_dp l y h2) .nil)))
theorem ixt {X : Cx} {K : PySem.W.Frag} (e : X.K = K) : IxR X (rIxT K) := by
  rw [← e]
  exact ix_tup
theorem in_at {X : Cx} {K : PySem.W.Frag} (e : X.K = K) : OpR X (compareOp .In) (rIn K false) := by
  rw [← e]
  exact op_in_seq
/-- a world at u: its marks, and the number of the one below it -/
def WdAt (H : Hp) (w : List Str × Int) (u : V) : Prop := ∃ a m, u = .ref a ∧ H a = some (.tup [.ref m, .int w.2]) ∧ H m = some (.lst (w.1.map V.str))
theorem WdAt.same {H H' : Hp} (s : Same H H') : ∀ w u, WdAt H w u → WdAt H' w u := fun _ _ ⟨a, m, e, h1, h2⟩ => ⟨a, m, e, s _ _ h1, s _ _ h2⟩
def WsAt (H : Hp) (W : Addr) (ws : List (List Str × Int)) : Prop := ∃ us, H W = some (.lst us) ∧ All2 (WdAt H) ws us
theorem WsAt.same {H H' : Hp} {W : Addr} {ws : List (List Str × Int)} (s : Same H H') (h : WsAt H W ws) : WsAt H' W ws := by
  obtain ⟨us, e, a⟩ := h
  exact ⟨us, s _ _ e, a.mono (WdAt.same s)⟩
/-- from the world number n down to 1: what is not so makes what is below it not so -/
def sunk (ws : List (List Str × Int)) : Nat → List Bool → List Bool
  | 0, bs => bs
  | n + 1, bs => sunk ws n (if bs.getD (n + 1) true then bs else bs.set ((ws.getD (n + 1) ([], 0)).2.toNat) false)
theorem sunk_succ (ws : List (List Str × Int)) (n : Nat) (bs : List Bool) : sunk ws (n + 1) bs = sunk ws n (if bs.getD (n + 1) true then bs else bs.set ((ws.getD (n + 1) ([], 0)).2.toNat) false) := rfl
/-- where a kind holds, world by world -/
def whB (ws : List (List Str × Int)) : Kd → List Bool
  | .one => ws.map fun _ => true
  | .mark m => ws.map fun w => decide (m ∈ w.1)
  | .two b k l => if b then sunk ws (ws.length - 1) (List.zipWith (fun h t => t || !h) (whB ws k) (whB ws l)) else List.zipWith (fun h t => h && t) (whB ws k) (whB ws l)
theorem sunk_len (ws : List (List Str × Int)) : ∀ n bs, (sunk ws n bs).length = bs.length
  | 0, _ => rfl
  | n + 1, bs => by
    unfold sunk
    rw [sunk_len ws n]
    split <;> simp
theorem whB_len (ws : List (List Str × Int)) : ∀ k, (whB ws k).length = ws.length
  | .one => by simp [whB]
  | .mark m => by simp [whB]
  | .two b k l => by
    have h1 := whB_len ws k
    have h2 := whB_len ws l
    cases b <;> simp [whB, sunk_len, h1, h2]
def bls (bs : List Bool) : List V := bs.map V.bl
/-- each world but the first stands behind the one below it -/
def Behind (ws : List (List Str × Int)) : Prop := ∀ (i : Nat) (w : List Str × Int), ws[i + 1]? = some w → 0 ≤ w.2 ∧ w.2 ≤ (i : Int)
def spWhere (n : Nat) : Sp := fun vs H Q _ => ∃ (W : Addr) (v : V) (k : Kd) (ws : List (List Str × Int)), vs = [.ref W, v] ∧ KdAt H k v ∧ k.deep < n ∧ WsAt H W ws ∧ 1 ≤ ws.length ∧ ws.length ≤ 900 ∧ Behind ws ∧
  ∀ (l : Addr) (H' : Hp), H l = none → Same H H' → H' l = some (.lst (bls (whB ws k))) → Q (.ref l) H'
theorem bls_at {b : List Bool} {i : Nat} {x : V} (h : (bls b)[i]? = some x) : ∃ c, x = .bl c ∧ b[i]? = some c := by
  unfold bls at h
  rw [List.getElem?_map] at h
  obtain ⟨c, e, r⟩ := Option.map_eq_some_iff.mp h
  exact ⟨c, r.symm, e⟩
theorem zip_step {f : Bool → Bool → Bool} {b1 b2 : List Bool} {i : Nat} {c1 c2 : Bool} (h1 : b1[i]? = some c1) (h2 : b2[i]? = some c2) : bls ((List.zipWith f b1 b2).take (i + 1)) = bls ((List.zipWith f b1 b2).take i) ++ [.bl (f c1 c2)] := by
  have e : (List.zipWith f b1 b2)[i]? = some (f c1 c2) := by
    rw [List.getElem?_zipWith, h1, h2]
  unfold bls
  rw [List.take_add_one, e, List.map_append]
  rfl
theorem inV_marks (m : Str) : ∀ ms : List Str, inV (.str m) (ms.map V.str) = decide (m ∈ ms)
  | [] => rfl
  | x :: ms => by
    have h := inV_marks m ms
    unfold inV at h ⊢
    rw [List.map_cons, List.any_cons, h]
    show ((x == m) || decide (m ∈ ms)) = decide (m ∈ x :: ms)
    by_cases hx : x = m
    · subst hx
      simp
    · have hx' : ¬ m = x := fun z => hx z.symm
      simp [hx, hx']
theorem all_flat : ∀ ms : List Str, (ms.map V.str).all flatV = true
  | [] => rfl
  | _ :: ms => by
    rw [List.map_cons, List.all_cons, all_flat ms]
    rfl
theorem small1000 {n : Nat} (h : n < 1000) : n < sizeLine := Nat.lt_of_lt_of_le h (by decide)
section
variable {P : Program} {w : World} {K : PySem.W.Frag} {mg : Str → Option Value} {base : Heap}
theorem scWhere : FnScope ["worlds", "kind", "one", "other", "told", "number", "marks", "below", "world", "here", "there"] ["worlds", "kind"] (defScope sWhere) := ⟨rfl, rfl, rfl, by decide +kernel, rfl, by decide +kernel, by decide +kernel⟩
theorem ok_where {f : Addr} {fd : FuncData} (F : Fun K "where_holds" "where_holds" sWhere f fd) (bF : Binds K fd ["worlds", "kind"] []) (gF : mg "where_holds" = some (.ref f)) (mLen : mg "len" = none) (mRange : mg "range" = none) (mZip : mg "zip" = none) :
    ∀ n : Nat, FnOk P w K mg base CX0 (n + 1) f fd ["worlds", "kind"] (spWhere n) := by
  intro n
  induction n with
  | zero =>
    refine F.ok scWhere (fun vs H Q E h => ?_) (fun cdv A outer s H vs Q E hr h => ?_)
    · obtain ⟨W, v, k, ws, rfl, _⟩ := h
      rfl
    · obtain ⟨W, v, k, ws, _, _, h0, _⟩ := h
      omega
  | succ n GW =>
    refine F.ok scWhere (fun vs H Q E h => ?_) (fun cdv A outer s H vs Q E hr h => ?_)
    · obtain ⟨W, v, k, ws, rfl, _⟩ := h
      rfl
    · obtain ⟨W, v, kd, ws, rfl, hk, hd, hW, w1, w2, hb, k⟩ := h
      refine ⟨_, pss_cons (ps_if (pt_cmpR op_eq (pe_ix ix_tup (pv 1) pe_int (fun _ _ => rfl)) pe_str (nomark _))
          (pss_one (ps_ret (pe_lc (own := [("marks", 6), ("below", 7)]) (g := gTup K 2 (gCons (gName 6) (gCons (gName 7) gNil))) (tt := tYes) (by rfl) scWhere.nd (pi_list (pv 0)) (blkOk_by (N := ["worlds", "kind", "one", "other", "told", "number", "marks", "below", "world", "here", "there"]) (sc := defScope sWhere) (by decide +kernel))
            (fun _ _ _ _ _ => pg_tup (by rfl) (pgs_cons (pg_name (i := 6) scWhere.nd rfl (Or.inl rfl)) (pgs_cons (pg_name (i := 7) scWhere.nd rfl (Or.inl rfl)) pgs_nil))) (fun _ _ _ _ _ => pts_nil)
            (fun _ _ _ _ _ => pe_cmpR (in_at (K := K) rfl) (pe_ix (ixt (K := K) rfl) (pv 1) pe_int (fun _ _ => rfl)) (pv 6) (by rfl))))) pss_nil)
        (pss_cons (ps_if (pt_cmpR op_eq (pe_ix ix_tup (pv 1) pe_int (fun _ _ => rfl)) pe_str (nomark _))
          (pss_one (ps_ret (pe_lc (own := [("world", 8)]) (g := gName 8) (tt := tYes) (by rfl) scWhere.nd (pi_list (pv 0)) (blkOk_by (N := ["worlds", "kind", "one", "other", "told", "number", "marks", "below", "world", "here", "there"]) (sc := defScope sWhere) (by decide +kernel))
            (fun _ _ _ _ _ => pg_name (i := 8) scWhere.nd rfl (Or.inl rfl)) (fun _ _ _ _ _ => pts_nil) (fun _ _ _ _ _ => pe_bl)))) pss_nil)
        (pss_cons (ps_set (i := 2) scWhere.nd rfl (Or.inl rfl) (pe_call GW hr (by rfl) gF F.kp bF .nil pass0 (pa_cons (pv 0) (pa_cons (pe_ix ix_tup (pv 1) pe_int (fun _ _ => rfl)) pa_nil))))
        (pss_cons (ps_set (i := 3) scWhere.nd rfl (Or.inl rfl) (pe_call GW hr (by rfl) gF F.kp bF .nil pass0 (pa_cons (pv 0) (pa_cons (pe_ix ix_tup (pv 1) pe_int (fun _ _ => rfl)) pa_nil))))
        (pss_cons (ps_if (pt_cmpR op_eq (pe_ix ix_tup (pv 1) pe_int (fun _ _ => rfl)) pe_str (nomark _))
          (pss_one (ps_ret (pe_lc (own := [("here", 9), ("there", 10)]) (g := gTup K 2 (gCons (gName 9) (gCons (gName 10) gNil))) (tt := tYes) (by rfl) scWhere.nd (pi_zip (by rfl) mZip (pa_cons (pv 2) (pa_cons (pv 3) pa_nil))) (blkOk_by (N := ["worlds", "kind", "one", "other", "told", "number", "marks", "below", "world", "here", "there"]) (sc := defScope sWhere) (by decide +kernel))
            (fun _ _ _ _ _ => pg_tup (by rfl) (pgs_cons (pg_name (i := 9) scWhere.nd rfl (Or.inl rfl)) (pgs_cons (pg_name (i := 10) scWhere.nd rfl (Or.inl rfl)) pgs_nil))) (fun _ _ _ _ _ => pts_nil)
            (fun _ _ _ _ _ => pe_and (pv 9) (pe_one (pv 10)))))) pss_nil)
        (pss_cons (ps_setLc (i := 4) (own := [("here", 9), ("there", 10)]) (g := gTup K 2 (gCons (gName 9) (gCons (gName 10) gNil))) (tt := tYes) (by rfl) scWhere.nd rfl rfl (sw_true rfl rfl rfl (by decide +kernel)) (pi_zip (by rfl) mZip (pa_cons (pv 2) (pa_cons (pv 3) pa_nil))) (blkOk_by (N := ["worlds", "kind", "one", "other", "told", "number", "marks", "below", "world", "here", "there"]) (sc := defScope sWhere) (by decide +kernel))
            (fun _ _ _ _ _ => pg_tup (by rfl) (pgs_cons (pg_name (i := 9) scWhere.nd rfl (Or.inl rfl)) (pgs_cons (pg_name (i := 10) scWhere.nd rfl (Or.inl rfl)) pgs_nil))) (fun _ _ _ _ _ => pts_nil)
            (fun _ _ _ _ _ => pe_or (pv 10) (pe_one (pe_not (pv 9)))))
        (pss_cons (ps_for PassesOwn.never rfl (pi_range3 (by rfl) mRange (pa_cons (pe_op op_sub (pe_callB call_len_seq (by rfl) mLen PySem.boot_len (pa_cons (pv 0) pa_nil)) pe_int) (pa_cons pe_int (pa_cons (pe_un un_neg pe_int) pa_nil)))) (pg_name (i := 5) scWhere.nd rfl (Or.inl rfl))
          (pss_one (ps_if (pt_not (pt_val (pe_ix ix_list (pv 4) (pv 5) (fun _ _ => rfl)))) (pss_one (ps_asg pe_bl (pg_sub (pv 4) (pe_ix ix_tup (pe_ix ix_list (pv 0) (pv 5) (fun _ _ => rfl)) pe_int (fun _ _ => rfl)) set_list))) pss_nil))) (pss_one (ps_ret (pv 4))))))))), ?_⟩
      cases kd with
      | one =>
        obtain ⟨a, rfl, ha⟩ := hk
        refine ⟨_, rfl, a, _, _, _, rfl, rfl, SqT.of ha, atI_nat (j := 0) rfl, rfl, _, rfl, ?_⟩
        refine ite2 (fun z => by cases z) (fun _ => ?_)
        refine ⟨_, rfl, a, _, _, _, rfl, rfl, SqT.of ha, atI_nat (j := 0) rfl, rfl, _, rfl, ?_⟩
        refine ite2 (fun _ => ?_) (fun z => absurd (by decide +kernel) z)
        obtain ⟨us, hU, hA⟩ := hW
        refine ⟨_, rfl, W, rfl, ⟨_, SqL.of hU⟩, fun D hD => lc_list (K := K) (a := W) (xs := us) (fun i H' => H' D = some (.lst (bls (List.replicate i true))) ∧ Same H H') ⟨upd_same, same_new hD⟩ (fun i H' _ q => SqL.of (q.2 _ _ hU)) ?_ ?_⟩
        · rintro i y H' hy ⟨q1, q2⟩
          refine ⟨rfl, ?_⟩
          unfold tYes
          dsimp only
          rw [if_pos rfl]
          refine ⟨_, q1, small1000 (by unfold bls; rw [List.length_map, List.length_replicate]; have := hA.len; have := (List.getElem?_eq_some_iff.mp hy).1; omega), ?_, fun b o e => (upd_ne (ne_of_none e hD)).trans (q2 b o e)⟩
          rw [upd_same, List.replicate_succ']
          unfold bls
          rw [List.map_append] <;> rfl
        · rintro H' ⟨q1, q2⟩
          refine k D H' hD q2 ?_
          rw [q1]
          have e : whB ws Kd.one = List.replicate us.length true := by
            rw [← hA.len]
            simp [whB, List.map_const']
          rw [e]
      | mark m =>
        obtain ⟨a, rfl, ha⟩ := hk
        refine ⟨_, rfl, a, _, _, _, rfl, rfl, SqT.of ha, atI_nat (j := 0) rfl, rfl, _, rfl, ?_⟩
        refine ite2 (fun _ => ?_) (fun z => absurd (by decide +kernel) z)
        obtain ⟨us, hU, hA⟩ := hW
        refine ⟨_, rfl, W, rfl, ⟨_, SqL.of hU⟩, fun D hD => lc_list (K := K) (a := W) (xs := us) (fun i H' => H' D = some (.lst (bls ((ws.take i).map fun w => decide (m ∈ w.1)))) ∧ Same H H') ⟨upd_same, same_new hD⟩ (fun i H' _ q => SqL.of (q.2 _ _ hU)) ?_ ?_⟩
        · rintro i y H' hy ⟨q1, q2⟩
          obtain ⟨⟨ms, bl⟩, hw, t, mm, rfl, ht, hm⟩ := (hA.mono (WdAt.same q2)).get hy
          refine ⟨t, _, rfl, SqT.of ht, rfl, _, _, rfl, _, _, rfl, rfl, rfl, ?_⟩
          unfold tYes
          dsimp only
          rw [if_pos rfl]
          refine ⟨_, rfl, a, _, _, _, rfl, rfl, SqT.of (q2 _ _ ha), atI_nat (j := 1) rfl, _, rfl, mm, _, rfl, .inl (SqL.of hm), rfl, all_flat ms, _, q1, small1000 ?_, ?_, fun b o e => (upd_ne (ne_of_none e hD)).trans (q2 b o e)⟩
          · unfold bls
            rw [List.length_map, List.length_map, List.length_take]
            omega
          · rw [upd_same, List.take_add_one, hw, inV_marks]
            unfold bls
            rw [List.map_append, List.map_append] <;> rfl
        · rintro H' ⟨q1, q2⟩
          refine k D H' hD q2 ?_
          rw [q1, ← hA.len, List.take_length] <;> rfl
      | two b k1 k2 =>
        obtain ⟨a, x1, x2, rfl, ha, h1, h2⟩ := hk
        have hd' : max k1.deep k2.deep + 1 < n + 1 := hd
        have no : ∀ z : Str, z = "mark" ∨ z = "one" → ¬ decide (V.str (word b) = V.str z) = true := fun z hz e => by
          have e := of_decide_eq_true e
          rcases hz with rfl | rfl <;> cases b <;> exact absurd e (by decide +kernel)
        refine ⟨_, rfl, a, _, _, _, rfl, rfl, SqT.of ha, atI_nat (j := 0) rfl, rfl, _, rfl, ?_⟩
        refine ite2 (fun z => absurd z (no _ (.inl rfl))) (fun _ => ?_)
        refine ⟨_, rfl, a, _, _, _, rfl, rfl, SqT.of ha, atI_nat (j := 0) rfl, rfl, _, rfl, ?_⟩
        refine ite2 (fun z => absurd z (no _ (.inr rfl))) (fun _ => ?_)
        refine ⟨_, rfl, _, rfl, a, _, _, _, rfl, rfl, SqT.of ha, atI_nat (j := 1) rfl, W, x1, k1, ws, rfl, h1, by omega, hW, w1, w2, hb, fun l1 H1 n1 s1 e1 => ?_⟩
        refine ⟨_, rfl, _, rfl, a, _, _, _, rfl, rfl, SqT.of (s1 _ _ ha), atI_nat (j := 2) rfl, W, x2, k2, ws, rfl, KdAt.mono (tups_of s1) _ _ h2, by omega, hW.same s1, w1, w2, hb, fun l2 H2 n2 s2 e2 => ?_⟩
        have s12 := Same.trans s1 s2
        have f1 := s2 _ _ e1
        have L1 := whB_len ws k1
        have L2 := whB_len ws k2
        have lz : min (bls (whB ws k1)).length (bls (whB ws k2)).length = ws.length := by
          unfold bls
          rw [List.length_map, List.length_map, L1, L2]
          omega
        refine ⟨_, rfl, a, _, _, _, rfl, rfl, SqT.of (s12 _ _ ha), atI_nat (j := 0) rfl, rfl, _, rfl, ?_⟩
        cases b with
        | false =>
          refine ite2 (fun _ => ?_) (fun z => absurd (by show decide (V.str "both" = V.str "both") = true; decide +kernel) z)
          refine ⟨_, rfl, _, rfl, l1, l2, _, _, rfl, SqL.of f1, SqL.of e2, fun D hD => lc_it (walk_zip (K := K) (xs := bls (whB ws k1)) (ys := bls (whB ws k2)) lz.symm) (fun i H' => H' D = some (.lst (bls ((List.zipWith (fun h t => h && t) (whB ws k1) (whB ws k2)).take i))) ∧ Same H2 H') ⟨upd_same, same_new hD⟩ (fun i H' _ q => ⟨SqL.of (q.2 _ _ f1), SqL.of (q.2 _ _ e2)⟩) ?_ ?_⟩
          · rintro i x H3 H4 hi ⟨q1, q2⟩ ⟨T, xh, xt, rfl, hT, rfl, g1, g2⟩
            obtain ⟨c1, rfl, p1⟩ := bls_at g1
            obtain ⟨c2, rfl, p2⟩ := bls_at g2
            have sT := same_new (o := .tup [V.bl c1, V.bl c2]) hT
            refine ⟨T, _, rfl, SqT.of upd_same, rfl, _, _, rfl, _, _, rfl, rfl, rfl, ?_⟩
            unfold tYes
            dsimp only
            rw [if_pos rfl]
            have fin : ∀ y : V, y = .bl (c1 && c2) → ∃ acc, (upd H3 T (.tup [V.bl c1, V.bl c2])) D = some (.lst acc) ∧ acc.length < sizeLine ∧ (upd (upd H3 T (.tup [V.bl c1, V.bl c2])) D (.lst (acc ++ [y]))) D = some (.lst (bls ((List.zipWith (fun h t => h && t) (whB ws k1) (whB ws k2)).take (i + 1)))) ∧ Same H2 (upd (upd H3 T (.tup [V.bl c1, V.bl c2])) D (.lst (acc ++ [y]))) := fun y hy => by
              subst hy
              refine ⟨_, sT _ _ q1, small1000 ?_, ?_, fun b o e => (upd_ne (ne_of_none e hD)).trans (sT _ _ (q2 b o e))⟩
              · unfold bls
                rw [List.length_map, List.length_take]
                omega
              · rw [upd_same, zip_step (f := fun h t => h && t) p1 p2]
            refine ⟨_, rfl, c1, rfl, ?_⟩
            cases c1 with
            | false => exact fin _ rfl
            | true => exact ⟨_, rfl, fin _ (by cases c2 <;> rfl)⟩
          · rintro H' ⟨q1, q2⟩
            refine k D H' ?_ (Same.trans s12 q2) ?_
            · exact s12.free hD
            · rw [q1]
              have e : (List.zipWith (fun h t => h && t) (whB ws k1) (whB ws k2)).length ≤ ws.length := by
                rw [List.length_zipWith]
                omega
              rw [List.take_of_length_le e] <;> rfl
        | true =>
          refine ite2 (fun z => absurd z (by show ¬ decide (V.str "to" = V.str "both") = true; decide +kernel)) (fun _ => ?_)
          refine ⟨_, rfl, _, rfl, l1, l2, _, _, rfl, SqL.of f1, SqL.of e2, fun D hD => lc_it (walk_zip (K := K) (xs := bls (whB ws k1)) (ys := bls (whB ws k2)) lz.symm) (fun i H' => H' D = some (.lst (bls ((List.zipWith (fun h t => t || !h) (whB ws k1) (whB ws k2)).take i))) ∧ Same H2 H') ⟨upd_same, same_new hD⟩ (fun i H' _ q => ⟨SqL.of (q.2 _ _ f1), SqL.of (q.2 _ _ e2)⟩) ?_ ?_⟩
          · rintro i x H3 H4 hi ⟨q1, q2⟩ ⟨T, xh, xt, rfl, hT, rfl, g1, g2⟩
            obtain ⟨c1, rfl, p1⟩ := bls_at g1
            obtain ⟨c2, rfl, p2⟩ := bls_at g2
            have sT := same_new (o := .tup [V.bl c1, V.bl c2]) hT
            refine ⟨T, _, rfl, SqT.of upd_same, rfl, _, _, rfl, _, _, rfl, rfl, rfl, ?_⟩
            unfold tYes
            dsimp only
            rw [if_pos rfl]
            have fin : ∀ y : V, y = .bl (c2 || !c1) → ∃ acc, (upd H3 T (.tup [V.bl c1, V.bl c2])) D = some (.lst acc) ∧ acc.length < sizeLine ∧ (upd (upd H3 T (.tup [V.bl c1, V.bl c2])) D (.lst (acc ++ [y]))) D = some (.lst (bls ((List.zipWith (fun h t => t || !h) (whB ws k1) (whB ws k2)).take (i + 1)))) ∧ Same H2 (upd (upd H3 T (.tup [V.bl c1, V.bl c2])) D (.lst (acc ++ [y]))) := fun y hy => by
              subst hy
              refine ⟨_, sT _ _ q1, small1000 ?_, ?_, fun b o e => (upd_ne (ne_of_none e hD)).trans (sT _ _ (q2 b o e))⟩
              · unfold bls
                rw [List.length_map, List.length_take]
                omega
              · rw [upd_same, zip_step (f := fun h t => t || !h) p1 p2]
            refine ⟨_, rfl, c2, rfl, ?_⟩
            cases c2 with
            | true => exact fin _ rfl
            | false => exact ⟨_, rfl, c1, rfl, fin _ rfl⟩
          · rintro H3 ⟨q1, q2⟩
            have e0 : (List.zipWith (fun h t => t || !h) (whB ws k1) (whB ws k2)).length = ws.length := by
              rw [List.length_zipWith]
              omega
            rw [← e0, List.take_length] at q1
            obtain ⟨us, hU, hA⟩ := hW
            have s03 := Same.trans s12 q2
            have lu : us.length = ws.length := hA.len.symm
            refine ⟨_, rfl, W, _, rfl, .inl (SqL.of (s03 _ _ hU)), _, _, rfl, rfl, _, rfl, ?_⟩
            refine ⟨_, _, _, _, rfl, RgC.neg (by omega) (by omega) (by omega) (by omega), for_rangeC (n := ((us.length : Int) - 1 - 0).toNat) (fun j σ H' => ∃ (i5 : Option V) (bs : List Bool), σ = [some (.ref W), some (.ref a), some (.ref l1), some (.ref l2), some (.ref D), i5, none, none, none, none, none] ∧ H' D = some (.lst (bls bs)) ∧ bs.length = ws.length ∧ sunk ws (ws.length - 1 - j) bs = sunk ws (ws.length - 1) (List.zipWith (fun h t => t || !h) (whB ws k1) (whB ws k2)) ∧ Same H2 H')
              ⟨none, _, rfl, q1, e0, rfl, q2⟩ ?_ ?_⟩
            · rintro j σ H4 hj ⟨i5, bs, rfl, r1, r2, r3, r4⟩
              obtain ⟨m, hm⟩ : ∃ m, ws.length - 1 - j = m + 1 := ⟨ws.length - 1 - j - 1, by omega⟩
              have en : ((us.length : Int) - 1 + (j : Int) * -1) = ((m + 1 : Nat) : Int) := by omega
              have em : ws.length - 1 - (j + 1) = m := by omega
              rw [en, em]
              rw [hm] at r3
              have hw : ws[m + 1]? = some (ws[m + 1]'(by omega)) := List.getElem?_eq_getElem (by omega)
              have hc : bs[m + 1]? = some (bs[m + 1]'(by omega)) := List.getElem?_eq_getElem (by omega)
              generalize ws[m + 1]'(by omega) = wd at hw
              generalize bs[m + 1]'(by omega) = c at hc
              have hcv : (bls bs)[m + 1]? = some (.bl c) := by
                unfold bls
                rw [List.getElem?_map, hc] <;> rfl
              refine ⟨_, rfl, _, rfl, D, _, _, _, rfl, rfl, SqL.of r1, atI_nat (j := m + 1) hcv, c, rfl, ?_⟩
              have gc : bs.getD (m + 1) true = c := by
                rw [List.getD_eq_getElem?_getD, hc] <;> rfl
              rw [sunk_succ] at r3
              rw [gc] at r3
              cases c with
              | true => exact ⟨_, bs, rfl, r1, r2, by rw [if_pos rfl] at r3; exact r3, r4⟩
              | false =>
                rw [if_neg Bool.false_ne_true] at r3
                have gw : ws.getD (m + 1) ([], 0) = wd := by
                  rw [List.getD_eq_getElem?_getD, hw] <;> rfl
                rw [gw] at r3
                obtain ⟨b0, b1⟩ := hb m wd hw
                have hu0 : us[m + 1]? = some (us[m + 1]'(by omega)) := List.getElem?_eq_getElem (by omega)
                obtain ⟨w', hw', t, mm, eu, ht, _⟩ := (hA.mono (WdAt.same (Same.trans s12 r4))).get hu0
                rw [hw] at hw'
                cases hw'
                have hu : us[m + 1]? = some (.ref t) := hu0.trans (congrArg some eu)
                have jx : ixN (bls bs).length wd.2 = some wd.2.toNat := by
                  have z : (bls bs).length = ws.length := by
                    unfold bls
                    rw [List.length_map, r2]
                  unfold ixN
                  rw [z]
                  split <;> simp <;> omega
                refine ⟨_, rfl, _, rfl, _, rfl, W, _, _, _, rfl, rfl, SqL.of (Same.trans s12 r4 _ _ hU), atI_nat (j := m + 1) hu, t, _, _, _, rfl, rfl, SqT.of ht, atI_nat (j := 1) rfl, D, _, _, _, rfl, rfl, r1, jx, ?_⟩
                refine ⟨_, bs.set wd.2.toNat false, rfl, ?_, by rw [List.length_set]; exact r2, r3, fun b o e => (upd_ne (ne_of_none e hD)).trans (r4 b o e)⟩
                rw [upd_same]
                unfold bls
                rw [List.map_set]
            · rintro σ H4 ⟨i5, bs, rfl, r1, r2, r3, r4⟩
              refine ⟨_, rfl, k D H4 (s12.free hD) (Same.trans s12 r4) ?_⟩
              rw [r1]
              have e : ws.length - 1 - ((us.length : Int) - 1 - 0).toNat = 0 := by omega
              rw [e] at r3
              have e2 : bs = whB ws (.two true k1 k2) := r3.trans rfl
              rw [e2]
end
/-! trees -/
mutual
inductive Tr where
  | mk (ms : List Str) (f : Fo)
inductive Fo where
  | nil
  | cons (t : Tr) (f : Fo)
end
def Tr.ms : Tr → List Str
  | .mk ms _ => ms
def Tr.kids : Tr → Fo
  | .mk _ f => f
def Fo.list : Fo → List Tr
  | .nil => []
  | .cons t f => t :: f.list
mutual
def Tr.all : Tr → List Tr
  | .mk ms f => .mk ms f :: f.all
def Fo.all : Fo → List Tr
  | .nil => []
  | .cons t f => t.all ++ f.all
end
mutual
def Tr.size : Tr → Nat
  | .mk _ f => f.size + 1
def Fo.size : Fo → Nat
  | .nil => 0
  | .cons t f => t.size + f.size
end
theorem Fo.mem_all : ∀ (f : Fo) (u : Tr), u ∈ f.all ↔ ∃ t ∈ f.list, u ∈ t.all
  | .nil, u => by simp [Fo.all, Fo.list]
  | .cons t f, u => by
    have h := Fo.mem_all f u
    simp [Fo.all, Fo.list, h]
/-- where a kind holds, by the worlds above -/
def frc : Kd → Tr → Bool
  | .one, _ => true
  | .mark m, t => decide (m ∈ t.ms)
  | .two b k l, t => if b then t.all.all fun u => frc l u || !frc k u else frc k t && frc l t
/-! what sunk tells -/
abbrev Wd := List Str × Int
def par (ws : List Wd) (j : Nat) : Nat := (ws.getD j ([], 0)).2.toNat
theorem sunk_high (ws : List Wd) : ∀ (N : Nat) (bs : List Bool) (i : Nat), (∀ j, 1 ≤ j → j ≤ N → par ws j < j) → N ≤ i → (sunk ws N bs)[i]? = bs[i]?
  | 0, _, _, _, _ => rfl
  | N + 1, bs, i, hp, hi => by
    rw [sunk_succ, sunk_high ws N _ i (fun j h1 h2 => hp j h1 (by omega)) (by omega)]
    have q := hp (N + 1) (by omega) (Nat.le_refl _)
    unfold par at q
    split
    · rfl
    · rw [List.getElem?_set_ne (by omega)]
/-- at i stands what stood there, and what all have that have i below them -/
theorem sunk_at (ws : List Wd) : ∀ (N : Nat) (bs : List Bool) (i : Nat), N < bs.length → i < bs.length → (∀ j, 1 ≤ j → j ≤ N → par ws j < j) →
    ((sunk ws N bs)[i]? = some true ↔ bs[i]? = some true ∧ ∀ j, 1 ≤ j → j ≤ N → par ws j = i → (sunk ws N bs)[j]? = some true)
  | 0, bs, i, _, _, _ => ⟨fun h => ⟨h, fun j h1 h2 _ => by omega⟩, fun h => h.1⟩
  | N + 1, bs, i, hN, hi, hp => by
    have hp' : ∀ j, 1 ≤ j → j ≤ N → par ws j < j := fun j h1 h2 => hp j h1 (by omega)
    have q := hp (N + 1) (by omega) (Nat.le_refl _)
    rw [sunk_succ]
    obtain ⟨c, hc⟩ : ∃ c, bs[N + 1]? = some c := ⟨_, List.getElem?_eq_getElem hN⟩
    have gc : bs.getD (N + 1) true = c := by
      rw [List.getD_eq_getElem?_getD, hc] <;> rfl
    rw [gc]
    cases c with
    | true =>
      rw [if_pos rfl, sunk_at ws N bs i (by omega) hi hp']
      have top := sunk_high ws N bs (N + 1) hp' (by omega)
      refine ⟨fun h => ⟨h.1, fun j h1 h2 e => ?_⟩, fun h => ⟨h.1, fun j h1 h2 e => h.2 j h1 (by omega) e⟩⟩
      rcases Nat.lt_or_ge N j with z | z
      · obtain rfl : j = N + 1 := by omega
        exact top.trans hc
      · exact h.2 j h1 z e
    | false =>
      rw [if_neg Bool.false_ne_true]
      have e0 : (ws.getD (N + 1) ([], 0)).2.toNat = par ws (N + 1) := rfl
      rw [e0]
      have top := sunk_high ws N (bs.set (par ws (N + 1)) false) (N + 1) hp' (by omega)
      rw [List.getElem?_set_ne (by omega), hc] at top
      rw [sunk_at ws N _ i (by rw [List.length_set]; omega) (by rw [List.length_set]; omega) hp']
      refine ⟨fun h => ⟨?_, fun j h1 h2 e => ?_⟩, fun h => ⟨?_, fun j h1 h2 e => h.2 j h1 (by omega) e⟩⟩
      · by_cases z : par ws (N + 1) = i
        · have := h.1
          rw [z, List.getElem?_set_self (by omega)] at this
          cases this
        · have := h.1
          rw [List.getElem?_set_ne z] at this
          exact this
      · rcases Nat.lt_or_ge N j with z | z
        · obtain rfl : j = N + 1 := by omega
          have := h.1
          rw [e, List.getElem?_set_self (by omega)] at this
          cases this
        · exact h.2 j h1 z e
      · by_cases z : par ws (N + 1) = i
        · have := h.2 (N + 1) (by omega) (Nat.le_refl _) z
          rw [top] at this
          cases this
        · rw [List.getElem?_set_ne z]
          exact h.1
/-- the worlds ws are those of the trees ts, side by side -/
structure Laid (ws : List Wd) (ts : List Tr) : Prop where
  len : ws.length = ts.length
  ms : ∀ (i : Nat) (w : Wd) (t : Tr), ws[i]? = some w → ts[i]? = some t → w.1 = t.ms
  par : ∀ j, 1 ≤ j → j < ws.length → par ws j < j
  kids : ∀ (i : Nat) (t : Tr), ts[i]? = some t → ∀ u, u ∈ t.kids.list ↔ ∃ j, 1 ≤ j ∧ Kf.par ws j = i ∧ ts[j]? = some u
mutual
theorem Tr.pos : ∀ t : Tr, 0 < t.size
  | .mk _ f => by
    unfold Tr.size
    omega
end
theorem Fo.mem_size : ∀ (f : Fo) (t : Tr), t ∈ f.list → t.size ≤ f.size
  | .nil, t, h => by simp [Fo.list] at h
  | .cons x f, t, h => by
    unfold Fo.size
    rcases List.mem_cons.mp h with rfl | h
    · omega
    · have := Fo.mem_size f t h
      omega
/-- what is so in a world and in all above it -/
theorem sunk_all {ws : List Wd} {ts : List Tr} (L : Laid ws ts) (g : Tr → Bool) {bs : List Bool} (hb : bs = ts.map g) (h1 : 1 ≤ ws.length) : ∀ (n i : Nat) (t : Tr), t.size ≤ n → ts[i]? = some t →
    ((sunk ws (ws.length - 1) bs)[i]? = some true ↔ ∀ u ∈ t.all, g u = true) := by
  have bl : bs.length = ws.length := by rw [hb, List.length_map, L.len]
  intro n
  induction n with
  | zero =>
    intro i t hs _
    have := t.pos
    omega
  | succ n ih =>
    intro i t hs hi
    have il : i < ts.length := (List.getElem?_eq_some_iff.mp hi).1
    rw [sunk_at ws _ bs i (by omega) (by rw [bl, L.len]; exact il) (fun j a b => L.par j a (by omega))]
    have e0 : bs[i]? = some true ↔ g t = true := by
      rw [hb, List.getElem?_map, hi]
      simp
    rw [e0]
    obtain ⟨ms, f⟩ := t
    have sz : ∀ u ∈ f.list, u.size ≤ n := fun u hu => by
      have := Fo.mem_size f u hu
      have hs : f.size + 1 ≤ n + 1 := hs
      omega
    have kd := L.kids i _ hi
    constructor
    · rintro ⟨g0, gs⟩ u hu
      unfold Tr.all at hu
      rcases List.mem_cons.mp hu with rfl | hu
      · exact g0
      · obtain ⟨x, hx, hux⟩ := (Fo.mem_all f u).mp hu
        obtain ⟨j, j1, jp, jt⟩ := (kd x).mp hx
        have jl : j < ts.length := (List.getElem?_eq_some_iff.mp jt).1
        exact (ih j x (sz x hx) jt).mp (gs j j1 (by rw [L.len]; omega) jp) u hux
    · intro h
      refine ⟨h _ (by unfold Tr.all; exact List.mem_cons_self), fun j j1 j2 jp => ?_⟩
      have jl : j < ts.length := by
        have := L.len
        omega
      have jt : ts[j]? = some ts[j] := List.getElem?_eq_getElem jl
      have hx := (kd ts[j]).mpr ⟨j, j1, jp, jt⟩
      refine (ih j _ (sz _ hx) jt).mpr fun u hu => h u ?_
      unfold Tr.all
      exact List.mem_cons_of_mem _ ((Fo.mem_all f u).mpr ⟨_, hx, hu⟩)
theorem whB_frc {ws : List Wd} {ts : List Tr} (L : Laid ws ts) (h1 : 1 ≤ ws.length) : ∀ k : Kd, whB ws k = ts.map (frc k)
  | .one => by
    refine List.ext_getElem? fun i => ?_
    simp only [whB, List.getElem?_map]
    rcases Nat.lt_or_ge i ws.length with z | z
    · rw [List.getElem?_eq_getElem z, List.getElem?_eq_getElem (by rw [← L.len]; exact z)] <;> rfl
    · rw [List.getElem?_eq_none z, List.getElem?_eq_none (by rw [← L.len]; exact z)] <;> rfl
  | .mark m => by
    refine List.ext_getElem? fun i => ?_
    simp only [whB, List.getElem?_map]
    rcases Nat.lt_or_ge i ws.length with z | z
    · have z2 : i < ts.length := by rw [← L.len]; exact z
      have e := L.ms i _ _ (List.getElem?_eq_getElem z) (List.getElem?_eq_getElem z2)
      rw [List.getElem?_eq_getElem z, List.getElem?_eq_getElem z2]
      simp [frc, e]
    · rw [List.getElem?_eq_none z, List.getElem?_eq_none (by rw [← L.len]; exact z)] <;> rfl
  | .two b k l => by
    have i1 := whB_frc L h1 k
    have i2 := whB_frc L h1 l
    cases b with
    | false =>
      have e : whB ws (.two false k l) = List.zipWith (fun h t => h && t) (whB ws k) (whB ws l) := rfl
      rw [e, i1, i2, List.zipWith_map]
      simp [frc, List.zipWith_self]
    | true =>
      have e : whB ws (.two true k l) = sunk ws (ws.length - 1) (List.zipWith (fun h t => t || !h) (whB ws k) (whB ws l)) := rfl
      rw [e, i1, i2, List.zipWith_map, List.zipWith_self]
      have key := fun i t hi => sunk_all L (fun t => frc l t || !frc k t) rfl h1 t.size i t (Nat.le_refl _) hi
      refine List.ext_getElem? fun i => ?_
      rw [List.getElem?_map]
      have sl : (sunk ws (ws.length - 1) (ts.map fun t => frc l t || !frc k t)).length = ts.length := by rw [sunk_len, List.length_map]
      rcases Nat.lt_or_ge i ts.length with z | z
      · have kz := key i _ (List.getElem?_eq_getElem z)
        rw [List.getElem?_eq_getElem z]
        have x : (frc (.two true k l) ts[i]) = true ↔ ∀ u ∈ ts[i].all, (frc l u || !frc k u) = true := by
          show (ts[i].all.all fun u => frc l u || !frc k u) = true ↔ _
          rw [List.all_eq_true]
        rw [← x] at kz
        have sg := List.getElem?_eq_getElem (l := sunk ws (ws.length - 1) (ts.map fun t => frc l t || !frc k t)) (by rw [sl]; exact z)
        rw [sg] at kz ⊢
        simp only [Option.map_some]
        congr 1
        rw [Bool.eq_iff_iff]
        exact ⟨fun h => kz.mp (congrArg some h), fun h => Option.some.inj (kz.mpr h)⟩
      · rw [List.getElem?_eq_none (by rw [sl]; exact z), List.getElem?_eq_none z] <;> rfl
/-! a tree laid out -/
def szs (ks : List (Tr × Int)) : Nat := (ks.map fun p => p.1.size).sum
/-- on the way: ks is still to come, ws and ts are laid -/
structure LP (t : Tr) (ks : List (Tr × Int)) (ts : List Tr) (ws : List Wd) : Prop where
  len : ws.length = ts.length
  ms : ∀ (i : Nat) (w : Wd) (t : Tr), ws[i]? = some w → ts[i]? = some t → w.1 = t.ms
  behind : ∀ (j : Nat) (w : Wd), ws[j + 1]? = some w → 0 ≤ w.2 ∧ w.2 ≤ (j : Int)
  first : (ts = [] ∧ ks = [(t, -1)]) ∨ (ts[0]? = some t ∧ ∀ p ∈ ks, 0 ≤ p.2 ∧ p.2 < (ws.length : Int))
  kids : ∀ (i : Nat) (x : Tr), ts[i]? = some x → ∀ u, u ∈ x.kids.list ↔ (∃ j, 1 ≤ j ∧ par ws j = i ∧ ts[j]? = some u) ∨ (u, (i : Int)) ∈ ks
  size : ws.length + szs ks = t.size
theorem LP.start (t : Tr) : LP t [(t, -1)] [] [] :=
  ⟨rfl, fun i w t h => by simp at h, fun j w h => by simp at h, .inl ⟨rfl, rfl⟩, fun i x h => by simp at h, by simp [szs]⟩
theorem par_app {ws : List Wd} {w : Wd} {j : Nat} (h : j < ws.length) : par (ws ++ [w]) j = par ws j := by
  unfold par
  rw [List.getD_eq_getElem?_getD, List.getD_eq_getElem?_getD, List.getElem?_append_left h]
theorem par_new {ws : List Wd} {w : Wd} : par (ws ++ [w]) ws.length = w.2.toNat := by
  unfold par
  rw [List.getD_eq_getElem?_getD, List.getElem?_concat_length] <;> rfl
theorem szs_kids (n : Int) : ∀ f : Fo, szs (f.list.map fun u => (u, n)) = f.size
  | .nil => rfl
  | .cons t f => by
    have h := szs_kids n f
    unfold szs at h ⊢
    simp only [Fo.list, List.map_cons, List.sum_cons, Fo.size]
    omega
theorem szs_app (a b : List (Tr × Int)) : szs (a ++ b) = szs a + szs b := by
  unfold szs
  rw [List.map_append, List.sum_append]
theorem szs_one (p : Tr × Int) : szs [p] = p.1.size := by simp [szs]
theorem LP.step {t : Tr} {ls : List (Tr × Int)} {ts : List Tr} {ws : List Wd} {ms : List Str} {f : Fo} {b : Int} (L : LP t (ls ++ [(.mk ms f, b)]) ts ws) :
    LP t (ls ++ f.list.map fun u => (u, (ws.length : Int))) (ts ++ [.mk ms f]) (ws ++ [(ms, b)]) := by
  have ln := L.len
  refine ⟨by rw [List.length_append, List.length_append, ln]; rfl, fun i w x hw hx => ?_, fun j w hw => ?_, ?_, fun i x hx u => ?_, ?_⟩
  · rcases Nat.lt_or_ge i ws.length with z | z
    · rw [List.getElem?_append_left z] at hw
      rw [List.getElem?_append_left (by omega)] at hx
      exact L.ms i w x hw hx
    · have il := (List.getElem?_eq_some_iff.mp hw).1
      rw [List.length_append] at il
      obtain rfl : i = ws.length := by
        have : [(ms, b)].length = 1 := rfl
        omega
      rw [List.getElem?_concat_length] at hw
      rw [ln, List.getElem?_concat_length] at hx
      cases hw
      cases hx
      rfl
  · rcases Nat.lt_or_ge (j + 1) ws.length with z | z
    · rw [List.getElem?_append_left z] at hw
      exact L.behind j w hw
    · have il := (List.getElem?_eq_some_iff.mp hw).1
      rw [List.length_append] at il
      have e : j + 1 = ws.length := by
        have : [(ms, b)].length = 1 := rfl
        omega
      rw [e, List.getElem?_concat_length] at hw
      cases hw
      rcases L.first with ⟨h, _⟩ | ⟨_, h⟩
      · rw [h] at ln
        simp at ln
        simp [ln] at e
      · have := h (.mk ms f, b) (by simp)
        dsimp only at this ⊢
        omega
  · refine .inr ?_
    rcases L.first with ⟨h, hk⟩ | ⟨h0, h⟩
    · have hl : ls = [] := by
        have := congrArg List.length hk
        rw [List.length_append] at this
        exact List.eq_nil_of_length_eq_zero (by simpa using this)
      subst hl
      rw [List.nil_append] at hk
      have hk' : (Tr.mk ms f, b) = (t, -1) := List.head_eq_of_cons_eq hk
      cases hk'
      subst h
      have wl : ws.length = 0 := ln
      refine ⟨rfl, fun p hp => ?_⟩
      rw [List.nil_append] at hp
      obtain ⟨u, _, rfl⟩ := List.mem_map.mp hp
      rw [List.length_append]
      dsimp only
      have : [(ms, (-1 : Int))].length = 1 := rfl
      omega
    · refine ⟨by rw [List.getElem?_append_left (List.getElem?_eq_some_iff.mp h0).1]; exact h0, fun p hp => ?_⟩
      rw [List.length_append]
      have : [(ms, b)].length = 1 := rfl
      rcases List.mem_append.mp hp with hp | hp
      · have := h p (List.mem_append_left _ hp)
        omega
      · obtain ⟨u, _, rfl⟩ := List.mem_map.mp hp
        dsimp only
        omega
  · have pn : par (ws ++ [(ms, b)]) ws.length = b.toNat := par_new
    rcases Nat.lt_or_ge i ts.length with z | z
    · rw [List.getElem?_append_left z] at hx
      rw [L.kids i x hx u]
      have fr : ∀ p ∈ ls ++ [(Tr.mk ms f, b)], 0 ≤ p.2 ∧ p.2 < (ws.length : Int) := by
        rcases L.first with ⟨h, _⟩ | ⟨_, h⟩
        · rw [h] at z
          simp at z
        · exact h
      constructor
      · rintro (⟨j, j1, jp, jt⟩ | h)
        · have jl := (List.getElem?_eq_some_iff.mp jt).1
          exact .inl ⟨j, j1, by rw [par_app (by omega)]; exact jp, by rw [List.getElem?_append_left jl]; exact jt⟩
        · rcases List.mem_append.mp h with h | h
          · exact .inr (List.mem_append_left _ h)
          · have h := List.mem_singleton.mp h
            cases h
            refine .inl ⟨ws.length, by omega, by rw [pn]; omega, by rw [ln, List.getElem?_concat_length]⟩
      · rintro (⟨j, j1, jp, jt⟩ | h)
        · have jl := (List.getElem?_eq_some_iff.mp jt).1
          rw [List.length_append] at jl
          have l1 : [Tr.mk ms f].length = 1 := rfl
          rcases Nat.lt_or_ge j ts.length with zz | zz
          · rw [List.getElem?_append_left zz] at jt
            rw [par_app (by omega)] at jp
            exact .inl ⟨j, j1, jp, jt⟩
          · obtain rfl : j = ws.length := by omega
            rw [pn] at jp
            rw [ln, List.getElem?_concat_length] at jt
            cases jt
            have := fr (.mk ms f, b) (by simp)
            dsimp only at this
            refine .inr (List.mem_append_right _ ?_)
            have e : b = (i : Int) := by omega
            rw [e]
            exact List.mem_singleton.mpr rfl
        · rcases List.mem_append.mp h with h | h
          · exact .inr (List.mem_append_left _ h)
          · obtain ⟨x2, _, e⟩ := List.mem_map.mp h
            injection e with e1 e2
            omega
    · have il := (List.getElem?_eq_some_iff.mp hx).1
      rw [List.length_append] at il
      have l1 : [Tr.mk ms f].length = 1 := rfl
      obtain rfl : i = ts.length := by omega
      rw [List.getElem?_concat_length] at hx
      cases hx
      show u ∈ f.list ↔ _
      constructor
      · intro h
        refine .inr (List.mem_append_right _ (List.mem_map.mpr ⟨u, h, ?_⟩))
        rw [ln]
      · rintro (⟨j, j1, jp, jt⟩ | h)
        · exfalso
          have jl := (List.getElem?_eq_some_iff.mp jt).1
          rw [List.length_append] at jl
          rcases Nat.lt_or_ge j ws.length with zz | zz
          · rw [par_app zz] at jp
            obtain ⟨m, rfl⟩ : ∃ m, j = m + 1 := ⟨j - 1, by omega⟩
            have hb := L.behind m _ (List.getElem?_eq_getElem zz)
            unfold par at jp
            rw [List.getD_eq_getElem?_getD, List.getElem?_eq_getElem zz] at jp
            simp only [Option.getD_some] at jp
            omega
          · obtain rfl : j = ws.length := by omega
            rw [pn] at jp
            rcases L.first with ⟨h, _⟩ | ⟨_, h⟩
            · rw [h] at ln
              simp at ln
              simp [ln] at j1
            · have := h (.mk ms f, b) (by simp)
              dsimp only at this
              omega
        · rcases List.mem_append.mp h with h | h
          · exfalso
            rcases L.first with ⟨h2, hk⟩ | ⟨_, h2⟩
            · have hl : ls = [] := by
                have := congrArg List.length hk
                rw [List.length_append] at this
                exact List.eq_nil_of_length_eq_zero (by simpa using this)
              rw [hl] at h
              cases h
            · have := h2 (u, (ts.length : Int)) (List.mem_append_left _ h)
              dsimp only at this
              omega
          · obtain ⟨x2, hx2, e⟩ := List.mem_map.mp h
            injection e with e1 e2
            rw [← e1]
            exact hx2
  · have s := L.size
    rw [szs_app, szs_one] at s
    rw [szs_app, szs_kids, List.length_append]
    have e : (Tr.mk ms f).size = f.size + 1 := rfl
    rw [e] at s
    have : [(ms, b)].length = 1 := rfl
    omega
theorem LP.done {t : Tr} {ts : List Tr} {ws : List Wd} (L : LP t [] ts ws) : Laid ws ts ∧ ts[0]? = some t ∧ Behind ws ∧ ws.length = t.size := by
  have ln := L.len
  have f0 : ts[0]? = some t := by
    rcases L.first with ⟨_, h⟩ | ⟨h, _⟩
    · cases h
    · exact h
  refine ⟨⟨ln, L.ms, fun j j1 j2 => ?_, fun i x hx u => ?_⟩, f0, L.behind, ?_⟩
  · obtain ⟨m, rfl⟩ : ∃ m, j = m + 1 := ⟨j - 1, by omega⟩
    have hb := L.behind m _ (List.getElem?_eq_getElem j2)
    unfold par
    rw [List.getD_eq_getElem?_getD, List.getElem?_eq_getElem j2]
    simp only [Option.getD_some]
    omega
  · rw [L.kids i x hx u]
    exact ⟨fun h => h.resolve_right (by simp), .inl⟩
  · have s := L.size
    simpa [szs] using s
mutual
def TrAt (H : Hp) : Tr → V → Prop
  | .mk ms f, v => ∃ a m l us, v = .ref a ∧ H a = some (.tup [.ref m, .ref l]) ∧ H m = some (.lst (ms.map V.str)) ∧ H l = some (.lst us) ∧ FoAt H f us
def FoAt (H : Hp) : Fo → List V → Prop
  | .nil, us => us = []
  | .cons t f, us => ∃ u r, us = u :: r ∧ TrAt H t u ∧ FoAt H f r
end
mutual
theorem TrAt.same {H H' : Hp} (s : Same H H') : ∀ (t : Tr) (v : V), TrAt H t v → TrAt H' t v
  | .mk ms f, v, h => by
    unfold TrAt at h ⊢
    obtain ⟨a, m, l, us, e, h1, h2, h3, h4⟩ := h
    exact ⟨a, m, l, us, e, s _ _ h1, s _ _ h2, s _ _ h3, FoAt.same s f us h4⟩
theorem FoAt.same {H H' : Hp} (s : Same H H') : ∀ (f : Fo) (us : List V), FoAt H f us → FoAt H' f us
  | .nil, us, h => by
    unfold FoAt at h ⊢
    exact h
  | .cons t f, us, h => by
    unfold FoAt at h ⊢
    obtain ⟨u, r, e, h1, h2⟩ := h
    exact ⟨u, r, e, TrAt.same s t u h1, FoAt.same s f r h2⟩
end
theorem FoAt.all2 {H : Hp} : ∀ (f : Fo) (us : List V), FoAt H f us → All2 (TrAt H) f.list us
  | .nil, us, h => by
    unfold FoAt at h
    subst h
    exact trivial
  | .cons t f, us, h => by
    unfold FoAt at h
    obtain ⟨u, r, rfl, h1, h2⟩ := h
    exact ⟨h1, FoAt.all2 f r h2⟩
/-- one that waits: a tuple of a tree, which stood in H0, and a number -/
def StAt (H0 H : Hp) (p : Tr × Int) (u : V) : Prop := ∃ a v, u = .ref a ∧ H a = some (.tup [v, .int p.2]) ∧ TrAt H0 p.1 v
def Wd0 (H0 H : Hp) (w : Wd) (u : V) : Prop := ∃ a m, u = .ref a ∧ H a = some (.tup [.ref m, .int w.2]) ∧ H0 m = some (.lst (w.1.map V.str))
theorem StAt.mono {H0 H H' : Hp} (t : Tups H H') : ∀ p u, StAt H0 H p u → StAt H0 H' p u := fun _ _ ⟨a, v, e, h1, h2⟩ => ⟨a, v, e, t _ _ h1, h2⟩
theorem Wd0.mono {H0 H H' : Hp} (t : Tups H H') : ∀ p u, Wd0 H0 H p u → Wd0 H0 H' p u := fun _ _ ⟨a, v, e, h1, h2⟩ => ⟨a, v, e, t _ _ h1, h2⟩
def spLaid : Sp := fun vs H Q _ => ∃ (v : V) (t : Tr), vs = [v] ∧ TrAt H t v ∧ t.size ≤ 60 ∧
  ∀ (D : Addr) (ws : List Wd) (ts : List Tr) (H' : Hp), Same H H' → WsAt H' D ws → Laid ws ts → ts[0]? = some t → Behind ws → ws.length = t.size → Q (.ref D) H'
def spHolds (n : Nat) : Sp := fun vs H Q _ => ∃ (v y : V) (t : Tr) (k : Kd), vs = [v, y] ∧ TrAt H t v ∧ t.size ≤ 60 ∧ KdAt H k y ∧ k.deep < n ∧ ∀ H', Same H H' → Q (.bl (frc k t)) H'
theorem szs_len (ks : List (Tr × Int)) : ks.length ≤ szs ks := by
  induction ks with
  | nil => exact Nat.le_refl _
  | cons p ks ih =>
    have h := p.1.pos
    unfold szs at ih ⊢
    rw [List.map_cons, List.sum_cons, List.length_cons]
    omega
section
variable {P : Program} {w : World} {K : PySem.W.Frag} {mg : Str → Option Value} {base : Heap}
theorem scLaid : FnScope ["tree", "worlds", "todo", "world", "below", "inner"] ["tree"] (defScope sLaid) := ⟨rfl, rfl, rfl, by decide +kernel, rfl, by decide +kernel, by decide +kernel⟩
theorem scHolds : FnScope ["tree", "kind"] ["tree", "kind"] (defScope sHolds) := ⟨rfl, rfl, rfl, by decide +kernel, rfl, by decide +kernel, by decide +kernel⟩
theorem ok_holds {f fL fW : Addr} {fd fdL fdW : FuncData} (F : Fun K "holds" "holds" sHolds f fd) (GL : FnOk P w K mg base CX0 1 fL fdL ["tree"] spLaid) (kL : PySem.W.keepIn K (.ref fL) = true) (bL : Binds K fdL ["tree"] []) (gL : mg "laid_out" = some (.ref fL))
    {n : Nat} (GW : FnOk P w K mg base CX0 (n + 1) fW fdW ["worlds", "kind"] (spWhere n)) (kW : PySem.W.keepIn K (.ref fW) = true) (bW : Binds K fdW ["worlds", "kind"] []) (gW : mg "where_holds" = some (.ref fW)) : FnOk P w K mg base CX0 (n + 2) f fd ["tree", "kind"] (spHolds n) := by
  refine F.ok scHolds (fun vs H Q E h => ?_) (fun cdv A outer s H vs Q E hr h => ?_)
  · obtain ⟨v, y, t, k, rfl, _⟩ := h
    rfl
  · obtain ⟨v, y, t, kd, rfl, ht, hs, hk, hd, k⟩ := h
    have hr1 : Room 1 _ := hr.mono (by omega)
    refine ⟨_, pss_one (ps_ret (pe_ix ix_list (pe_call GW hr (by rfl) gW kW bW .nil pass0 (pa_cons (pe_call GL hr1 (by rfl) gL kL bL .nil pass0 (pa_cons (pv 0) pa_nil)) (pa_cons (pv 1) pa_nil))) pe_int (fun _ _ => rfl))), ?_⟩
    have tp := t.pos
    refine ⟨_, rfl, v, t, rfl, ht, hs, fun D ws ts H1 s1 hW L t0 B wl => ?_⟩
    refine ⟨_, rfl, D, y, kd, ws, rfl, KdAt.mono (tups_of s1) _ _ hk, hd, hW, by omega, by omega, B, fun l H2 nl s2 e2 => ?_⟩
    rw [whB_frc L (by omega) kd] at e2
    refine ⟨l, _, _, .bl (frc kd t), rfl, rfl, SqL.of e2, atI_nat (j := 0) ?_, k H2 (Same.trans s1 s2)⟩
    unfold bls
    rw [List.getElem?_map, List.getElem?_map, t0] <;> rfl
theorem ok_laid {f : Addr} {fd : FuncData} (F : Fun K "laid_out" "laid_out" sLaid f fd) (mLen : mg "len" = none) : FnOk P w K mg base CX0 1 f fd ["tree"] spLaid := by
  refine F.ok scLaid (fun vs H Q E h => ?_) (fun cdv A outer s H vs Q E hr h => ?_)
  · obtain ⟨v, t, rfl, _⟩ := h
    rfl
  · obtain ⟨v, t, rfl, ht, hs, k⟩ := h
    refine ⟨_, pss_cons (ps_set (i := 1) scLaid.nd rfl (Or.inl rfl) (pe_lst pa_nil))
      (pss_cons (ps_set (i := 2) scLaid.nd rfl (Or.inl rfl) (pe_lst (pa_cons (pe_tup (pa_cons (pv 0) (pa_cons (pe_un un_neg pe_int) pa_nil))) pa_nil)))
      (pss_cons (ps_while PassesOwn.never (pt_truth (pv 2) (by intro _; rfl))
        (pss_cons (ps_asg (pe_bm0 PySem.F.plainAttrs_list PySem.F.slot_list_pop PySem.F.type_list_pop mt_pop (pv 2)) (pg_tup (by rfl) (pgs_cons (pg_name (i := 3) scLaid.nd rfl (Or.inl rfl)) (pgs_cons (pg_name (i := 4) scLaid.nd rfl (Or.inl rfl)) pgs_nil))))
        (pss_cons (ps_for PassesOwn.never rfl (pi_list (pe_ix ix_tup (pv 3) pe_int (fun _ _ => rfl))) (pg_name (i := 5) scLaid.nd rfl (Or.inl rfl))
          (pss_one (ps_expr (pe_bm PySem.F.plainAttrs_list PySem.F.slot_list_append PySem.F.type_list_append mt_append (pv 2) (pa_cons (pe_tup (pa_cons (pv 5) (pa_cons (pe_callB call_len_seq (by rfl) mLen PySem.boot_len (pa_cons (pv 1) pa_nil)) pa_nil))) pa_nil)))))
        (pss_one (ps_expr (pe_bm PySem.F.plainAttrs_list PySem.F.slot_list_append PySem.F.type_list_append mt_append (pv 1) (pa_cons (pe_tup (pa_cons (pe_ix ix_tup (pv 3) pe_int (fun _ _ => rfl)) (pa_cons (pv 4) pa_nil))) pa_nil)))))))
      (pss_one (ps_ret (pv 1))))), ?_⟩
    refine ⟨by show 0 ≤ sizeLine; decide, fun D hD => ?_⟩
    have sD := same_new (o := .lst []) hD
    refine ⟨_, rfl, _, rfl, by show 2 ≤ sizeLine; decide, fun t0 ht0 => ⟨by show 1 ≤ sizeLine; decide, fun T hT2 => ?_⟩⟩
    have st0 := same_new (o := .tup [v, .int (-1)]) ht0
    have sT2 := same_new (o := .lst [V.ref t0]) hT2
    have S0 := Same.trans (Same.trans sD st0) sT2
    have hT : H T = none := (Same.trans sD st0).free hT2
    have hDT : D ≠ T := fun z => by
      rw [← z, st0 _ _ upd_same] at hT2
      cases hT2
    refine ⟨fun n σ H2 => ∃ (ks : List (Tr × Int)) (vs : List V) (ts : List Tr) (ws : List Wd) (us : List V) (i3 i4 i5 : Option V), σ = [some v, some (.ref D), some (.ref T), i3, i4, i5] ∧ H2 T = some (.lst vs) ∧ H2 D = some (.lst us) ∧ All2 (StAt H H2) ks vs ∧ All2 (Wd0 H H2) ws us ∧ Same H H2 ∧ LP t ks ts ws ∧ n = szs ks,
      ⟨szs [(t, -1)], [(t, -1)], [.ref t0], [], [], [], none, none, none, rfl, upd_same, sT2 _ _ (st0 _ _ upd_same), ⟨⟨t0, v, rfl, sT2 _ _ upd_same, ht⟩, trivial⟩, trivial, S0, LP.start t, rfl⟩, ?_⟩
    rintro n σ H2 ⟨ks, vs, ts, ws, us, i3, i4, i5, rfl, hv, hu, hA, hB, hS, L, rfl⟩
    refine ⟨_, rfl, _, .inl ⟨_, SqL.of hv, rfl⟩, ?_⟩
    by_cases he : vs = []
    · subst he
      refine iteF ?_
      obtain rfl : ks = [] := List.eq_nil_of_length_eq_zero hA.len
      obtain ⟨La, t0', B, wl⟩ := L.done
      refine ⟨_, rfl, k D ws ts H2 hS ⟨us, hu, hB.mono fun w u ⟨a, m, e, h1, h2⟩ => ⟨a, m, e, h1, hS _ _ h2⟩⟩ La t0' B wl⟩
    · obtain ⟨ls, kx, y, rfl, ev, hl, hr2, hy⟩ := hA.last he
      have e1 : (!vs.isEmpty) = true := by cases vs with | nil => exact absurd rfl he | cons a r => rfl
      rw [if_pos e1]
      obtain ⟨⟨ms, fo⟩, b⟩ := kx
      obtain ⟨a, v1, rfl, ha, hv1⟩ := hr2
      unfold TrAt at hv1
      obtain ⟨a1, m1, l1, us1, rfl, h1, h2, h3, h4⟩ := hv1
      have lsz := L.size
      have lks := szs_len (ls ++ [(Tr.mk ms fo, b)])
      rw [List.length_append] at lks
      have kl := szs_len (fo.list.map fun u => (u, (0 : Int)))
      rw [szs_kids, List.length_map] at kl
      have lz2 := lsz
      rw [szs_app, szs_one] at lz2
      have lz3 : (Tr.mk ms fo).size = fo.size + 1 := rfl
      dsimp only at lz2
      have lz4 := szs_len ls
      refine ⟨_, fun _ _ z => z, ?_⟩
      refine ⟨_, rfl, .inl ⟨rfl, _, .inl (.inl hv)⟩, T, vs, .ref a, rfl, rfl, hv, hy, ?_⟩
      have t1 : Tups H2 (upd H2 T (.lst vs.dropLast)) := tups_lst hv
      have hu1 : (upd H2 T (.lst vs.dropLast)) D = some (.lst us) := by rw [upd_ne hDT]; exact hu
      have hT3 : (upd H2 T (.lst vs.dropLast)) T = some (.lst vs.dropLast) := upd_same
      have hl1 := hl.mono (StAt.mono t1)
      have hB1 := hB.mono (Wd0.mono t1)
      have ha1 := t1 _ _ ha
      have hS1 : Same H (upd H2 T (.lst vs.dropLast)) := same_over hS hT
      generalize upd H2 T (.lst vs.dropLast) = H3 at *
      refine ⟨a, _, rfl, SqT.of ha1, rfl, _, _, rfl, _, _, rfl, rfl, ?_⟩
      refine ⟨_, rfl, a1, _, _, _, rfl, rfl, SqT.of (hS1 _ _ h1), atI_nat (j := 1) rfl, l1, rfl, ⟨_, SqL.of (hS1 _ _ h3)⟩, for_list (K := K) (a := l1) (xs := us1) (fun i σ H4 => ∃ (xs : List V) (j5 : Option V), σ = [some v, some (.ref D), some (.ref T), some (.ref a1), some (.int b), j5] ∧ H4 T = some (.lst xs) ∧ H4 D = some (.lst us) ∧
          All2 (StAt H H4) (ls ++ (fo.list.take i).map fun u => (u, (ws.length : Int))) xs ∧ All2 (Wd0 H H4) ws us ∧ Same H H4) ⟨vs.dropLast, _, rfl, hT3, hu1, by simpa using hl1, hB1, hS1⟩ (fun i σ H4 _ ⟨_, _, _, _, _, _, _, q⟩ => SqL.of (q _ _ h3)) ?_ ?_⟩
      · rintro i x σ H4 hx ⟨xs, j5, rfl, q1, q2, q3, q4, q5⟩
        obtain ⟨u, hu', tr⟩ := (FoAt.all2 fo us1 h4).get hx
        have ul : us.length = ws.length := q4.len.symm
        have il := (List.getElem?_eq_some_iff.mp hu').1
        have xl := q3.len
        rw [List.length_append, List.length_map, List.length_take] at xl
        refine ⟨_, rfl, .inl ⟨rfl, _, .inl (.inl q1)⟩, _, rfl, _, rfl, D, _, rfl, .inl (SqL.of q2), by show 2 ≤ sizeLine; decide, fun tn htn => ?_⟩
        have sn := same_new (o := .tup [x, .int (us.length : Int)]) htn
        have nt : tn ≠ T := fun z => by rw [z, q1] at htn; cases htn
        refine ⟨T, _, _, rfl, rfl, sn _ _ q1, small1000 (by omega), ?_⟩
        have tt : Tups H4 (upd (upd H4 tn (.tup [x, .int (us.length : Int)])) T (.lst (xs ++ [.ref tn]))) := Tups.trans (tups_of sn) (tups_lst (sn _ _ q1))
        refine ⟨xs ++ [.ref tn], _, rfl, upd_same, by rw [upd_ne hDT]; exact sn _ _ q2, ?_, q4.mono (Wd0.mono tt), same_over (Same.trans q5 sn) hT⟩
        rw [List.take_add_one, hu', List.map_append, ← List.append_assoc]
        refine (q3.mono (StAt.mono tt)).app (ls := [(u, (ws.length : Int))]) (us := [V.ref tn]) ⟨⟨tn, x, rfl, ?_, tr⟩, trivial⟩
        rw [upd_ne nt, upd_same, ul]
      · rintro σ H4 ⟨xs, j5, rfl, q1, q2, q3, q4, q5⟩
        have fl : fo.list.length = us1.length := (FoAt.all2 fo us1 h4).len
        rw [← fl, List.take_length] at q3
        have ul : us.length = ws.length := q4.len.symm
        refine ⟨_, rfl, .inl ⟨rfl, _, .inl (.inl q2)⟩, _, rfl, a1, _, _, _, rfl, rfl, SqT.of (q5 _ _ h1), atI_nat (j := 0) rfl, _, rfl, by show 2 ≤ sizeLine; decide, fun tn htn => ?_⟩
        have sn := same_new (o := .tup [V.ref m1, .int b]) htn
        have nt : tn ≠ D := fun z => by rw [z, q2] at htn; cases htn
        refine ⟨D, _, _, rfl, rfl, sn _ _ q2, small1000 (by omega), ?_⟩
        have tt : Tups H4 (upd (upd H4 tn (.tup [V.ref m1, .int b])) D (.lst (us ++ [.ref tn]))) := Tups.trans (tups_of sn) (tups_lst (sn _ _ q2))
        have L2 := L.step
        have s1 := L2.size
        rw [List.length_append] at s1
        have l1 : [(ms, b)].length = 1 := rfl
        refine ⟨szs (ls ++ fo.list.map fun u => (u, (ws.length : Int))), by omega, _, xs, _, _, us ++ [.ref tn], _, _, _, rfl, by rw [upd_ne (Ne.symm hDT)]; exact sn _ _ q1, upd_same, q3.mono (StAt.mono tt), ?_, same_over (Same.trans q5 sn) hD, L2, rfl⟩
        exact (q4.mono (Wd0.mono tt)).app (ls := [(ms, b)]) (us := [V.ref tn]) ⟨⟨tn, m1, rfl, by rw [upd_ne nt, upd_same], h2⟩, trivial⟩
end
def spKind (n : Nat) : Sp := fun vs H Q _ => ∃ (p M : Addr) (L : Nat) (ms : List Str), vs = [.ref p, .int (L : Int), .ref M] ∧ PoolAt H p ∧ 1 ≤ L ∧ L ≤ n ∧ L ≤ 1000 ∧ H M = some (.lst (ms.map V.str)) ∧ 1 ≤ ms.length ∧ ms.length ≤ 1000 ∧
  ∀ (v : V) (k : Kd) (H' : Hp), KdAt H' k v → k.leaves = L → PoolAt H' p → Kept p H H' → Q v H'
section
variable {P : Program} {w : World} {K : PySem.W.Frag} {mg : Str → Option Value} {base : Heap}
theorem scKind : FnScope ["_law_pool_here", "_law_leaves", "_law_marks_here", "_law_first", "_law_one", "_law_other"] ["_law_pool_here", "_law_leaves", "_law_marks_here"] (defScope sKind) := ⟨rfl, rfl, rfl, by decide +kernel, rfl, by decide +kernel, by decide +kernel⟩
theorem ok_kind {f fT : Addr} {fd fdT : FuncData} (F : Fun K "_law_kind" "_law_kind" sKind f fd) (bF : Binds K fd ["_law_pool_here", "_law_leaves", "_law_marks_here"] []) (gF : mg "_law_kind" = some (.ref f))
    (FT : Fun K "_law_take" "_law_take" sTake fT fdT) (bT : Binds K fdT ["_law_pool_here", "_law_many"] []) (gT : mg "_law_take" = some (.ref fT)) (mLen : mg "len" = none) :
    ∀ n : Nat, FnOk P w K mg base CX0 (n + 2) f fd ["_law_pool_here", "_law_leaves", "_law_marks_here"] (spKind n) := by
  have GT : FnOk P w K mg base CX0 1 fT fdT ["_law_pool_here", "_law_many"] spTake := ok_take FT
  intro n
  induction n with
  | zero =>
    refine F.ok scKind (fun vs H Q E h => ?_) (fun cdv A outer s H vs Q E hr h => ?_)
    · obtain ⟨p, M, L, ms, rfl, _⟩ := h
      rfl
    · obtain ⟨p, M, L, ms, _, _, h1, h2, _⟩ := h
      omega
  | succ n GK =>
    refine F.ok scKind (fun vs H Q E h => ?_) (fun cdv A outer s H vs Q E hr h => ?_)
    · obtain ⟨p, M, L, ms, rfl, _⟩ := h
      rfl
    · obtain ⟨p, M, L, ms, rfl, hp, l1, l2, l3, hM, m1, m2, k⟩ := h
      have hr1 : Room 1 _ := hr.mono (by omega)
      refine ⟨_, pss_cons (ps_if (pt_cmpR op_eq (pv 1) pe_int (nomark _))
          (pss_cons (ps_if (pt_cmpR op_eq (pe_call GT hr1 (by rfl) gT FT.kp bT .nil pass0 (pa_cons (pv 0) (pa_cons pe_int pa_nil))) pe_int (nomark _)) (pss_one (ps_ret (pe_tup (pa_cons pe_str pa_nil)))) pss_nil)
          (pss_one (ps_ret (pe_tup (pa_cons pe_str (pa_cons (pe_ix ix_list (pv 2) (pe_call GT hr1 (by rfl) gT FT.kp bT .nil pass0 (pa_cons (pv 0) (pa_cons (pe_callB call_len_seq (by rfl) mLen PySem.boot_len (pa_cons (pv 2) pa_nil)) pa_nil))) (fun _ _ => rfl)) pa_nil)))))) pss_nil)
        (pss_cons (ps_set (i := 3) scKind.nd rfl (Or.inl rfl) (pe_op op_add pe_int (pe_call GT hr1 (by rfl) gT FT.kp bT .nil pass0 (pa_cons (pv 0) (pa_cons (pe_op op_sub (pv 1) pe_int) pa_nil)))))
        (pss_cons (ps_set (i := 4) scKind.nd rfl (Or.inl rfl) (pe_call GK hr (by rfl) gF F.kp bF .nil pass0 (pa_cons (pv 0) (pa_cons (pv 3) (pa_cons (pv 2) pa_nil)))))
        (pss_cons (ps_set (i := 5) scKind.nd rfl (Or.inl rfl) (pe_call GK hr (by rfl) gF F.kp bF .nil pass0 (pa_cons (pv 0) (pa_cons (pe_op op_sub (pv 1) (pv 3)) (pa_cons (pv 2) pa_nil)))))
        (pss_one (ps_ret (pe_tup (pa_cons (pe_ix ix_list (pe_lst (pa_cons pe_str (pa_cons pe_str (pa_cons pe_str (pa_cons pe_str pa_nil))))) (pe_call GT hr1 (by rfl) gT FT.kp bT .nil pass0 (pa_cons (pv 0) (pa_cons pe_int pa_nil))) (fun _ _ => rfl)) (pa_cons (pv 4) (pa_cons (pv 5) pa_nil))))))))), ?_⟩
      refine ⟨_, rfl, rfl, _, rfl, ?_⟩
      refine ite2 (fun hc => ?_) (fun hc => ?_)
      · have hL : L = 1 := by
          have z := of_decide_eq_true hc
          injection z with z
          omega
        subst hL
        refine ⟨_, rfl, p, 6, rfl, hp, by decide, by decide, fun r H1 r0 r1 hp1 e1 => ?_⟩
        refine ⟨rfl, _, rfl, ?_⟩
        refine ite2 (fun _ => ?_) (fun _ => ?_)
        · refine ⟨by show 1 ≤ sizeLine; decide, fun t ht => ?_⟩
          exact k (.ref t) .one _ ⟨t, rfl, upd_same⟩ rfl (hp1.same (same_new ht)) ((kept_take e1).trans (kept_same (same_new ht)))
        · have k1 := kept_take e1
          have hM1 := k1 _ _ (pool_marks hp hM) hM
          refine ⟨_, rfl, _, rfl, _, rfl, M, _, rfl, .inl (SqL.of hM1), p, _, rfl, hp1, by rw [List.length_map]; omega, by rw [List.length_map]; omega, fun q H2 q0 q1 hp2 e2 => ?_⟩
          have hM2 := kept_take e2 _ _ (pool_marks hp1 hM1) hM1
          obtain ⟨u, hu, hm⟩ := at_any (xs := ms.map V.str) q0 q1
          obtain ⟨mk, hmk, rfl⟩ := List.mem_map.mp hm
          refine ⟨M, _, _, _, rfl, rfl, SqL.of hM2, hu, by show 2 ≤ sizeLine; decide, fun t ht => ?_⟩
          exact k (.ref t) (.mark mk) _ ⟨t, rfl, upd_same⟩ rfl (hp2.same (same_new ht)) ((k1.trans (kept_take e2)).trans (kept_same (same_new ht)))
      · have hL : 2 ≤ L := by
          rcases Nat.lt_or_ge L 2 with z | z
          · exact absurd (decide_eq_true (by rw [show L = 1 by omega]; rfl)) hc
          · exact z
        have eL : ((L : Int) - 1) = ((L - 1 : Nat) : Int) := by omega
        refine ⟨_, rfl, _, rfl, _, _, rfl, rfl, p, _, rfl, hp, by omega, by omega, fun r H1 r0 r1 hp1 e1 => ?_⟩
        obtain ⟨rn, rfl⟩ : ∃ rn : Nat, r = rn := ⟨r.toNat, by omega⟩
        refine ⟨_, _, rfl, rfl, ?_⟩
        have k1 := kept_take e1
        have hM1 := k1 _ _ (pool_marks hp hM) hM
        refine ⟨_, rfl, _, rfl, _, rfl, p, M, 1 + rn, ms, rfl, hp1, by omega, by omega, by omega, hM1, m1, m2, fun v1 kd1 H2 h1 hl1 hp2 k2 => ?_⟩
        have hM2 := k2 _ _ (pool_marks hp1 hM1) hM1
        have e3 : ((L : Int) - (1 + (rn : Int))) = ((L - (1 + rn) : Nat) : Int) := by omega
        refine ⟨_, rfl, _, rfl, _, rfl, _, _, rfl, rfl, _, rfl, p, M, L - (1 + rn), ms, ?_, hp2, by omega, by omega, by omega, hM2, m1, m2, fun v2 kd2 H3 h2 hl2 hp3 k3 => ?_⟩
        · rw [← e3]
          rfl
        refine ⟨by show 4 ≤ sizeLine; decide, fun l hl => ?_⟩
        have sl := same_new (o := .lst [V.str "to", V.str "to", V.str "to", V.str "both"]) hl
        have nl := hp3.ne hl
        refine ⟨_, rfl, p, 4, rfl, hp3.upd hl, by decide, by decide, fun q H4 q0 q1 hp4 e4 => ?_⟩
        obtain ⟨u, hu, hm⟩ := at_any (xs := [V.str "to", V.str "to", V.str "to", V.str "both"]) q0 q1
        obtain ⟨b, rfl⟩ : ∃ b, u = V.str (word b) := by
          simp only [List.mem_cons, List.not_mem_nil, or_false] at hm
          rcases hm with rfl | rfl | rfl | rfl
          · exact ⟨true, rfl⟩
          · exact ⟨true, rfl⟩
          · exact ⟨true, rfl⟩
          · exact ⟨false, rfl⟩
        refine ⟨l, _, _, _, rfl, rfl, SqL.of ((e4 l nl).trans upd_same), hu, ?_⟩
        refine ⟨_, rfl, _, rfl, by show 3 ≤ sizeLine; decide, fun t ht => ?_⟩
        have st : Same H4 (upd H4 t (.tup [.str (word b), v1, v2])) := same_new ht
        have k34 : Kept p H3 (upd H4 t (.tup [.str (word b), v1, v2])) := ((kept_same sl).trans (kept_take e4)).trans (kept_same st)
        refine k (.ref t) (.two b kd1 kd2) _ ⟨t, v1, v2, rfl, upd_same, KdAt.mono (Tups.trans (tups_kept k3 hp2) (tups_kept k34 hp3)) _ _ h1, KdAt.mono (tups_kept k34 hp3) _ _ h2⟩ ?_ (hp4.same st) (((k1.trans k2).trans k3).trans k34)
        show kd1.leaves + kd2.leaves = L
        omega
end
theorem ixl {X : Cx} {K : PySem.W.Frag} (e : X.K = K) : IxR X (rIxL K) := by
  rw [← e]
  exact ix_list
theorem sum_short : ∀ ys : List Str, (∀ y ∈ ys, y.length ≤ 1) → (ys.map (·.length)).sum ≤ ys.length
  | [], _ => Nat.le_refl _
  | x :: r, h => by
    have i := sum_short r fun y hy => h y (List.mem_cons_of_mem _ hy)
    have a := h x (by simp)
    rw [List.map_cons, List.sum_cons, List.length_cons]
    omega
theorem letters26 : (("abcdefghijklmnopqrstuvwxyz" : Str)).cps.toList.length = 26 := by decide +kernel
def spMarks : Sp := fun vs H Q _ => ∃ p : Addr, vs = [.ref p] ∧ PoolAt H p ∧
  ∀ (M : Addr) (ms : List Str) (H' : Hp), H' M = some (.lst (ms.map V.str)) → 1 ≤ ms.length → ms.length ≤ 4 → PoolAt H' p → Kept p H H' → M ≠ p → Q (.ref M) H'
section
variable {P : Program} {w : World} {K : PySem.W.Frag} {mg : Str → Option Value} {base : Heap}
theorem scMarks : FnScope ["_law_pool_here", "_law_size", "_law_at", "_law_signs", "_law_found", "_law_k", "_law_places", "_law_j", "_law_place"] ["_law_pool_here"] (defScope sMarks) := ⟨rfl, rfl, rfl, by decide +kernel, rfl, by decide +kernel, by decide +kernel⟩
abbrev nMarks : List Str := ["_law_pool_here", "_law_size", "_law_at", "_law_signs", "_law_found", "_law_k", "_law_places", "_law_j", "_law_place"]
theorem ok_marks {f fT : Addr} {fd fdT : FuncData} (F : Fun K "_law_marks" "_law_marks" sMarks f fd) (GT : FnOk P w K mg base CX0 1 fT fdT ["_law_pool_here", "_law_many"] spTake) (kT : PySem.W.keepIn K (.ref fT) = true) (bT : Binds K fdT ["_law_pool_here", "_law_many"] []) (gT : mg "_law_take" = some (.ref fT))
    (mRange : mg "range" = none) (mInt : mg "int" = none) : FnOk P w K mg base CX0 2 f fd ["_law_pool_here"] spMarks := by
  refine F.ok scMarks (fun vs H Q E h => ?_) (fun cdv A outer s H vs Q E hr h => ?_)
  · obtain ⟨p, rfl, _⟩ := h
    rfl
  · obtain ⟨p, rfl, hp, k⟩ := h
    refine ⟨_, pss_cons (ps_set (i := 1) scMarks.nd rfl (Or.inl rfl) (pe_op op_add pe_int (pe_call GT hr (by rfl) gT kT bT .nil pass0 (pa_cons (pv 0) (pa_cons pe_int pa_nil)))))
      (pss_cons (ps_set (i := 2) scMarks.nd rfl (Or.inr rfl) (pe_call GT hr (by rfl) gT kT bT .nil pass0 (pa_cons (pv 0) (pa_cons (pv 1) pa_nil))))
      (pss_cons (ps_set (i := 3) scMarks.nd rfl (Or.inr rfl) (pe_lc (own := [("_law_j", 7)]) (g := gName 7) (tt := tYes) (by rfl) scMarks.nd (pi_range1 (by rfl) mRange (pa_cons (pv 1) pa_nil)) (blkOk_by (N := nMarks) (sc := defScope sMarks) (by decide +kernel)) (fun _ _ _ _ _ => pg_name (i := 7) scMarks.nd rfl (Or.inl rfl)) (fun _ _ _ _ _ => pts_nil)
          (fun _ _ _ _ _ => pe_call GT hr (by rfl) gT kT bT .nil pass0 (pa_cons (pv 0) (pa_cons pe_int pa_nil)))))
      (pss_cons (ps_set (i := 4) scMarks.nd rfl (Or.inl rfl) (pe_lst pa_nil))
      (pss_cons (ps_for PassesOwn.never rfl (pi_range1 (by rfl) mRange (pa_cons (pe_op op_add pe_int (pe_call GT hr (by rfl) gT kT bT .nil pass0 (pa_cons (pv 0) (pa_cons pe_int pa_nil)))) pa_nil)) (pg_name (i := 5) scMarks.nd rfl (Or.inr rfl))
        (pss_cons (ps_setLc (i := 6) (own := [("_law_j", 7)]) (g := gName 7) (tt := tYes) (by rfl) scMarks.nd rfl rfl (sw_true rfl rfl rfl (by decide +kernel)) (pi_range1 (by rfl) mRange (pa_cons (pv 1) pa_nil)) (blkOk_by (N := nMarks) (sc := defScope sMarks) (by decide +kernel)) (fun _ _ _ _ _ => pg_name (i := 7) scMarks.nd rfl (Or.inl rfl)) (fun _ _ _ _ _ => pts_nil)
          (fun _ _ _ _ _ => pe_op op_modN (pe_op op_add (pe_ix (ixl (K := K) rfl) (pv 3) (pv 7) (fun _ _ => rfl)) (pe_op op_mul (pe_op op_mul pe_int (pv 5)) (pe_callTy call_int1 (by rfl) mInt (by decide +kernel) (pa_cons (pe_cmpR op_eq (pv 7) (pv 2) (nomark _)) pa_nil)))) pe_int))
        (pss_one (ps_expr (pe_bm PySem.F.plainAttrs_list PySem.F.slot_list_append PySem.F.type_list_append mt_append (pv 4) (pa_cons (pe_join pe_str (pe_lc (own := [("_law_place", 8)]) (g := gName 8) (tt := tYes) (by rfl) scMarks.nd (pi_list (pv 6)) (blkOk_by (N := nMarks) (sc := defScope sMarks) (by decide +kernel)) (fun _ _ _ _ _ => pg_name (i := 8) scMarks.nd rfl (Or.inl rfl)) (fun _ _ _ _ _ => pts_nil)
          (fun _ _ _ _ _ => pe_ix ix_str pe_str (pv 8) (fun _ _ => rfl)))) pa_nil))))))
      (pss_one (ps_ret (pv 4))))))), ?_⟩
    refine ⟨_, rfl, p, 6, rfl, hp, by decide, by decide, fun sz H1 z0 z1 hp1 e1 => ⟨_, _, rfl, rfl, ?_⟩⟩
    refine ⟨_, rfl, _, rfl, p, 1 + sz, rfl, hp1, by omega, by omega, fun at' H2 a0 a1 hp2 e2 => ?_⟩
    refine ⟨_, rfl, 1 + sz, rfl, by omega, by omega, fun D hD => lc_range (lo := 0) (n := (1 + sz).toNat) (fun i H' => ∃ ys : List Int, H' D = some (.lst (ys.map V.int)) ∧ ys.length = i ∧ (∀ y ∈ ys, 0 ≤ y ∧ y < 26) ∧ PoolAt H' p ∧ Kept p H2 H') ⟨[], upd_same, rfl, by simp, hp2.upd hD, kept_same (same_new hD)⟩ ?_ ?_⟩
    · have nD := hp2.ne hD
      rintro i H' hi ⟨ys, hy, hl, hz, hq, kk⟩
      refine ⟨rfl, ?_⟩
      unfold tYes
      dsimp only
      rw [if_pos rfl]
      refine ⟨_, rfl, p, 26, rfl, hq, by decide, by decide, fun r H5 r0 r1 hp5 e5 => ?_⟩
      refine ⟨_, (e5 D nD).trans hy, small1000 (by rw [List.length_map]; omega), ys ++ [r], ?_, by rw [List.length_append, hl]; rfl, ?_, ?_, ?_⟩
      · rw [upd_same, List.map_append] <;> rfl
      · intro y m
        rcases List.mem_append.mp m with m | m
        · exact hz y m
        · rw [List.mem_singleton.mp m]
          exact ⟨r0, r1⟩
      · obtain ⟨c1, n1, z1, z2, z3⟩ := hp5
        exact ⟨c1, n1, by rw [upd_ne nD.symm]; exact z1, z2, z3⟩
      · intro b o nb e
        rw [upd_ne (ne_of_none e hD)]
        exact (e5 b nb).trans (kk b o nb e)
    · rintro H3 ⟨ys, hy, hl, hz, hp3, k3⟩
      have nD := hp2.ne hD
      have k1 := kept_take e1
      have k2 := k1.trans (kept_take e2)
      refine ⟨by show 0 ≤ sizeLine; decide, fun Fd hFd => ?_⟩
      have sF := same_new (o := .lst []) hFd
      have nF := hp3.ne hFd
      have nFD : Fd ≠ D := fun z => by rw [z, hy] at hFd; cases hFd
      refine ⟨_, rfl, p, 4, rfl, hp3.same sF, by decide, by decide, fun q H4 q0 q1 hp4 e4 => ⟨_, _, rfl, rfl, 1 + q, rfl, by omega, by omega, ?_⟩⟩
      have out : ∀ {X : Addr}, X ≠ p → H3 X = none → H X = none := fun {X} nx e => by
        cases z : H X with
        | none => rfl
        | some o =>
          have := k3 X o nx (k2 X o nx z)
          rw [e] at this
          cases this
      have D0 : H D = none := by
        cases z : H D with
        | none => rfl
        | some o =>
          have := k2 D o nD z
          rw [hD] at this
          cases this
      have F0 := out nF hFd
      have kk4 : Kept p H H4 := ((k2.trans k3).trans (kept_same sF)).trans (kept_take e4)
      refine for_range (lo := 0) (n := (1 + q).toNat) (fun i σ H' => ∃ (i5 i6 : Option V) (zs : List Str), σ = [some (.ref p), some (.int (1 + sz)), some (.int at'), some (.ref D), some (.ref Fd), i5, i6, none, none] ∧ H' D = some (.lst (ys.map V.int)) ∧ H' Fd = some (.lst (zs.map V.str)) ∧ zs.length = i ∧ PoolAt H' p ∧ Kept p H H')
        ⟨none, none, [], rfl, (e4 D nD).trans (sF _ _ hy), (e4 Fd nF).trans upd_same, rfl, hp4, kk4⟩ ?_ ?_
      · rintro i σ H5 hi ⟨i5, i6, zs, rfl, r1, r2, r3, r4, r5⟩
        rw [Int.zero_add]
        refine ⟨_, rfl, 1 + sz, rfl, by omega, by omega, fun PL hPL => lc_range (lo := 0) (n := (1 + sz).toNat) (fun j H' => ∃ xs : List Int, H' PL = some (.lst (xs.map V.int)) ∧ xs.length = j ∧ (∀ y ∈ xs, 0 ≤ y ∧ y < 26) ∧ Same H5 H') ⟨[], upd_same, rfl, by simp, same_new hPL⟩ ?_ ?_⟩
        · rintro j H6 hj ⟨xs, x1, x2, x3, x4⟩
          rw [Int.zero_add]
          refine ⟨rfl, ?_⟩
          unfold tYes
          dsimp only
          rw [if_pos rfl]
          have hjl : j < ys.length := by omega
          have hyj : (ys.map V.int)[j]? = some (.int ys[j]) := by
            rw [List.getElem?_map, List.getElem?_eq_getElem hjl] <;> rfl
          refine ⟨_, rfl, _, rfl, D, _, _, _, rfl, rfl, SqL.of (x4 _ _ r1), atI_nat (j := j) hyj, _, rfl, _, _, rfl, rfl, .inl ⟨by decide, by decide⟩, _, rfl, _, rfl, rfl, .inr ⟨_, rfl, ?_⟩⟩
          obtain ⟨bt, hbt, bt0, bt1⟩ : ∃ bt : Int, (if decide (V.int (j : Int) = V.int at') = true then (1 : Int) else 0) = bt ∧ 0 ≤ bt ∧ bt ≤ 1 := ⟨_, rfl, by split <;> decide, by split <;> decide⟩
          rw [hbt]
          have N := nm_nat (x := ys[j] + 5 * (i : Int) * bt) (m := 26) (by decide)
          refine ⟨_, _, rfl, rfl, .inl ⟨by omega, by omega⟩, _, _, rfl, rfl, _, _, rfl, rfl, (by show (26 : Int) ≠ 0; decide), _, x1, small1000 (by rw [List.length_map]; omega), xs ++ [(ys[j] + 5 * (i : Int) * bt).fmod 26], ?_, by rw [List.length_append, x2]; rfl, ?_, fun b o e => (upd_ne (ne_of_none e hPL)).trans (x4 b o e)⟩
          · rw [upd_same, List.map_append] <;> rfl
          · intro y m
            rcases List.mem_append.mp m with m | m
            · exact x3 y m
            · rw [List.mem_singleton.mp m]
              exact N
        · rintro H6 ⟨xs, x1, x2, x3, x4⟩
          refine ⟨_, rfl, .inl ⟨rfl, _, .inl (.inl (x4 _ _ r2))⟩, ⟨_, rfl⟩, _, rfl, PL, rfl, ⟨_, SqL.of x1⟩, fun D2 hD2 => lc_list (K := K) (a := PL) (xs := xs.map V.int) (fun j H' => ∃ us : List Str, H' D2 = some (.lst (us.map V.str)) ∧ us.length = j ∧ (∀ y ∈ us, y.length ≤ 1) ∧ Same H6 H') ⟨[], upd_same, rfl, by simp, same_new hD2⟩ (fun j H' _ ⟨_, _, _, _, q⟩ => SqL.of (q _ _ x1)) ?_ ?_⟩
          · rintro j y H7 hy7 ⟨us, u1, u2, u3, u4⟩
            rw [List.getElem?_map] at hy7
            obtain ⟨n, hn, rfl⟩ := Option.map_eq_some_iff.mp hy7
            obtain ⟨n0, n1⟩ := x3 n (List.mem_of_getElem? hn)
            have jl := (List.getElem?_eq_some_iff.mp hn).1
            refine ⟨rfl, ?_⟩
            unfold tYes
            dsimp only
            rw [if_pos rfl]
            obtain ⟨c, hc, mc⟩ := at_any (xs := (("abcdefghijklmnopqrstuvwxyz" : Str)).cps.toList) n0 (by rw [letters26]; exact n1)
            refine ⟨_, rfl, _, _, c, rfl, rfl, (by decide +kernel), hc, _, u1, small1000 (by rw [List.length_map]; omega), us ++ [⟨#[c]⟩], ?_, by rw [List.length_append, u2]; rfl, ?_, fun b o e => (upd_ne (ne_of_none e hD2)).trans (u4 b o e)⟩
            · rw [upd_same, List.map_append] <;> rfl
            · intro y m
              rcases List.mem_append.mp m with m | m
              · exact u3 y m
              · rw [List.mem_singleton.mp m]
                exact Nat.le_refl _
          · rintro H7 ⟨us, u1, u2, u3, u4⟩
            rw [List.length_map] at u2
            have ss := sum_short us u3
            refine ⟨_, D2, us, rfl, rfl, .inl (SqL.of u1), ?_, ?_⟩
            · have e : (("" : Str)).length = 0 := by decide
              rw [e]
              exact small40 (by omega)
            · have s57 : Same H5 H7 := Same.trans x4 u4
              refine ⟨Fd, _, _, rfl, rfl, s57 _ _ r2, small1000 (by rw [List.length_map]; omega), ?_⟩
              refine ⟨_, _, zs ++ [Txt.join "" us], rfl, by rw [upd_ne (Ne.symm nFD)]; exact s57 _ _ r1, by rw [upd_same, List.map_append]; rfl, by rw [List.length_append, r3]; rfl, ?_, fun b o nb e => ?_⟩
              · obtain ⟨c1, n1, z1, z2, z3⟩ := r4
                exact ⟨c1, n1, by rw [upd_ne (Ne.symm nF)]; exact s57 _ _ z1, z2, z3⟩
              · rw [upd_ne (ne_of_none e F0)]
                exact s57 _ _ (r5 b o nb e)
      · rintro σ H5 ⟨i5, i6, zs, rfl, r1, r2, r3, r4, r5⟩
        exact ⟨_, rfl, k Fd zs H5 r2 (by omega) (by omega) r4 r5 nF⟩
end
mutual
def Tr.grows : Tr → Prop
  | .mk ms f => f.grown ms ∧ True
def Fo.grown : Fo → List Str → Prop
  | .nil, _ => True
  | .cons t f, ms => (∀ m ∈ ms, m ∈ t.ms) ∧ t.grows ∧ f.grown ms
end
theorem Fo.grown_mem : ∀ (f : Fo) (ms : List Str), f.grown ms → ∀ t ∈ f.list, (∀ m ∈ ms, m ∈ t.ms) ∧ t.grows
  | .nil, _, _, t, h => by simp [Fo.list] at h
  | .cons x f, ms, g, t, h => by
    unfold Fo.grown at g
    rcases List.mem_cons.mp h with rfl | h
    · exact ⟨g.1, g.2.1⟩
    · exact Fo.grown_mem f ms g.2.2 t h
theorem all_self (t : Tr) : t ∈ t.all := by
  cases t with
  | mk ms f =>
    unfold Tr.all
    exact List.mem_cons_self
/-- all above are above those that are above -/
theorem all_trans : ∀ (n : Nat) (t u x : Tr), t.size ≤ n → u ∈ t.all → x ∈ u.all → x ∈ t.all := by
  intro n
  induction n with
  | zero =>
    intro t u x h
    have := t.pos
    omega
  | succ n ih =>
    rintro ⟨ms, f⟩ u x h hu hx
    unfold Tr.all at hu ⊢
    rcases List.mem_cons.mp hu with rfl | hu
    · unfold Tr.all at hx
      exact hx
    · obtain ⟨c, hc, hcu⟩ := (Fo.mem_all f u).mp hu
      have sz := Fo.mem_size f c hc
      have h : f.size + 1 ≤ n + 1 := h
      exact List.mem_cons_of_mem _ ((Fo.mem_all f x).mpr ⟨c, hc, ih c u x (by omega) hcu hx⟩)
theorem marks_up : ∀ (n : Nat) (t u : Tr), t.size ≤ n → t.grows → u ∈ t.all → (∀ m ∈ t.ms, m ∈ u.ms) := by
  intro n
  induction n with
  | zero =>
    intro t u h
    have := t.pos
    omega
  | succ n ih =>
    rintro ⟨ms, f⟩ u h g hu
    unfold Tr.all at hu
    rcases List.mem_cons.mp hu with rfl | hu
    · exact fun m hm => hm
    · obtain ⟨c, hc, hcu⟩ := (Fo.mem_all f u).mp hu
      have sz := Fo.mem_size f c hc
      have h : f.size + 1 ≤ n + 1 := h
      unfold Tr.grows at g
      have q := Fo.grown_mem f ms g.1 c hc
      exact fun m hm => ih c u (by omega) q.2 hcu m (q.1 m hm)
theorem frc_to (k l : Kd) (t : Tr) : frc (.two true k l) t = true ↔ ∀ u ∈ t.all, frc k u = true → frc l u = true := by
  show (t.all.all fun u => frc l u || !frc k u) = true ↔ _
  rw [List.all_eq_true]
  refine ⟨fun h u hu hk => ?_, fun h u hu => ?_⟩
  · have := h u hu
    rw [hk] at this
    simpa using this
  · cases e : frc k u with
    | false => simp
    | true => simp [h u hu e]
theorem frc_both (k l : Kd) (t : Tr) : frc (.two false k l) t = (frc k t && frc l t) := rfl
/-- what holds stays -/
theorem frc_up {t : Tr} (g : t.grows) : ∀ (k : Kd) (u : Tr), u ∈ t.all → frc k t = true → frc k u = true
  | .one, _, _, _ => rfl
  | .mark m, u, hu, h => decide_eq_true (marks_up _ t u (Nat.le_refl _) g hu m (of_decide_eq_true h))
  | .two true k l, u, hu, h => by
    rw [frc_to] at h ⊢
    exact fun x hx => h x (all_trans _ t u x (Nat.le_refl _) hu hx)
  | .two false k l, u, hu, h => by
    rw [frc_both, Bool.and_eq_true] at h ⊢
    exact ⟨frc_up g k u hu h.1, frc_up g l u hu h.2⟩
theorem grows_all : ∀ (n : Nat) (t u : Tr), t.size ≤ n → t.grows → u ∈ t.all → u.grows := by
  intro n
  induction n with
  | zero =>
    intro t u h
    have := t.pos
    omega
  | succ n ih =>
    rintro ⟨ms, f⟩ u h g hu
    unfold Tr.all at hu
    rcases List.mem_cons.mp hu with rfl | hu
    · exact g
    · obtain ⟨c, hc, hcu⟩ := (Fo.mem_all f u).mp hu
      have sz := Fo.mem_size f c hc
      have h : f.size + 1 ≤ n + 1 := h
      unfold Tr.grows at g
      exact ih c u (by omega) (Fo.grown_mem f ms g.1 c hc).2 hcu
/-! _law_all -/
def spAll (n : Nat) : Sp := fun vs H Q _ => ∃ (v : V) (t : Tr), vs = [v] ∧ TrAt H t v ∧ t.size ≤ n ∧ t.size ≤ 60 ∧
  ∀ (D : Addr) (us : List V) (H' : Hp), Same H H' → H' D = some (.lst us) → All2 (TrAt H') t.all us → Q (.ref D) H'
theorem fo_flat : ∀ g : Fo, g.all = (g.list.map Tr.all).flatten
  | .nil => rfl
  | .cons t f => by
    have h := fo_flat f
    unfold Fo.all Fo.list
    rw [h, List.map_cons, List.flatten_cons]
mutual
theorem all_len : ∀ t : Tr, t.all.length = t.size
  | .mk ms f => by
    unfold Tr.all Tr.size
    rw [List.length_cons, fo_len f]
theorem fo_len : ∀ f : Fo, f.all.length = f.size
  | .nil => rfl
  | .cons t f => by
    unfold Fo.all Fo.size
    rw [List.length_append, all_len t, fo_len f]
end
theorem flat_take {α β : Type} (g : α → List β) (L : List α) (i : Nat) : (((L.take i).map g).flatten).length ≤ ((L.map g).flatten).length := by
  have e : L.map g = (L.take i).map g ++ (L.drop i).map g := by rw [← List.map_append, List.take_append_drop]
  rw [e, List.flatten_append, List.length_append]
  omega
section
variable {P : Program} {w : World} {K : PySem.W.Frag} {mg : Str → Option Value} {base : Heap}
theorem scAll : FnScope ["_law_tree_here", "_law_found", "_law_one"] ["_law_tree_here"] (defScope sAll) := ⟨rfl, rfl, rfl, by decide +kernel, rfl, by decide +kernel, by decide +kernel⟩
theorem ok_all {f : Addr} {fd : FuncData} (F : Fun K "_law_all" "_law_all" sAll f fd) (bF : Binds K fd ["_law_tree_here"] []) (gF : mg "_law_all" = some (.ref f)) : ∀ n : Nat, FnOk P w K mg base CX0 (n + 1) f fd ["_law_tree_here"] (spAll n) := by
  intro n
  induction n with
  | zero =>
    refine F.ok scAll (fun vs H Q E h => ?_) (fun cdv A outer s H vs Q E hr h => ?_)
    · obtain ⟨v, t, rfl, _⟩ := h
      rfl
    · obtain ⟨v, t, _, _, h0, _⟩ := h
      have := t.pos
      omega
  | succ n GA =>
    refine F.ok scAll (fun vs H Q E h => ?_) (fun cdv A outer s H vs Q E hr h => ?_)
    · obtain ⟨v, t, rfl, _⟩ := h
      rfl
    · obtain ⟨v, t, rfl, ht, hn, hs, k⟩ := h
      refine ⟨_, pss_cons (ps_set (i := 1) scAll.nd rfl (Or.inl rfl) (pe_lst (pa_cons (pv 0) pa_nil)))
        (pss_cons (ps_for PassesOwn.never rfl (pi_list (pe_ix ix_tup (pv 0) pe_int (fun _ _ => rfl))) (pg_name (i := 2) scAll.nd rfl (Or.inl rfl))
          (pss_one (ps_set (i := 1) scAll.nd rfl (Or.inl rfl) (pe_op op_cat (pv 1) (pe_call GA hr (by rfl) gF F.kp bF .nil pass0 (pa_cons (pv 2) pa_nil))))))
        (pss_one (ps_ret (pv 1)))), ?_⟩
      have hv := ht
      obtain ⟨ms, fo⟩ := t
      unfold TrAt at hv
      obtain ⟨a1, m1, l1, us1, rfl, h1, h2, h3, h4⟩ := hv
      have hn : fo.size + 1 ≤ n + 1 := hn
      have hs' : fo.size + 1 ≤ 60 := hs
      have A2 := FoAt.all2 fo us1 h4
      refine ⟨_, rfl, by show 1 ≤ sizeLine; decide, fun D hD => ?_⟩
      have sD := same_new (o := .lst [V.ref a1]) hD
      refine ⟨_, rfl, a1, _, _, _, rfl, rfl, SqT.of (sD _ _ h1), atI_nat (j := 1) rfl, l1, rfl, ⟨_, SqL.of (sD _ _ h3)⟩, for_list (K := K) (a := l1) (xs := us1) (fun i σ H4 => ∃ (X : Addr) (xs : List V) (j2 : Option V), σ = [some (.ref a1), some (.ref X), j2] ∧ H4 X = some (.lst xs) ∧
          All2 (TrAt H4) (Tr.mk ms fo :: ((fo.list.take i).map Tr.all).flatten) xs ∧ Same H H4) ⟨D, [.ref a1], _, rfl, upd_same, ⟨TrAt.same sD _ _ ht, trivial⟩, sD⟩ (fun i σ H4 _ ⟨_, _, _, _, _, _, q⟩ => SqL.of (q _ _ h3)) ?_ ?_⟩
      · rintro i x σ H4 hx ⟨X, xs, j2, rfl, q1, q2, q3⟩
        obtain ⟨u, hu', tr⟩ := A2.get hx
        have sz := Fo.mem_size fo u (List.mem_of_getElem? hu')
        refine ⟨_, rfl, _, rfl, x, u, rfl, TrAt.same q3 u x tr, by omega, by omega, fun D2 us2 H5 s5 e5 A5 => ?_⟩
        have ln := q2.len
        have ln5 := A5.len
        have e1 : (((fo.list.take (i + 1)).map Tr.all).flatten) = ((fo.list.take i).map Tr.all).flatten ++ u.all := by
          rw [List.take_add_one, hu', List.map_append, List.flatten_append]
          simp
        have e2 := flat_take Tr.all fo.list (i + 1)
        rw [e1, List.length_append, ← fo_flat, fo_len] at e2
        rw [List.length_cons] at ln
        refine ⟨X, D2, _, _, rfl, rfl, s5 _ _ q1, e5, small40 (by omega), fun X2 hX2 => ?_⟩
        have s6 := same_new (o := .lst (xs ++ us2)) hX2
        refine ⟨X2, xs ++ us2, _, rfl, upd_same, ?_, Same.trans q3 (Same.trans s5 s6)⟩
        rw [e1, ← List.cons_append]
        exact (q2.mono (TrAt.same (Same.trans s5 s6))).app (A5.mono (TrAt.same s6))
      · rintro σ H4 ⟨X, xs, j2, rfl, q1, q2, q3⟩
        refine ⟨_, rfl, k X xs H4 q3 q1 ?_⟩
        rw [← A2.len, List.take_length] at q2
        have e : (Tr.mk ms fo).all = Tr.mk ms fo :: (fo.list.map Tr.all).flatten := by
          unfold Tr.all
          rw [fo_flat]
        rw [e]
        exact q2
end
/-- what stands in H' and not in H -/
def frsh (H H' : Hp) : Hp := fun b => if (H b).isSome then none else H' b
theorem frsh_some {H H' : Hp} {b : Addr} {o : HO} : frsh H H' b = some o ↔ H b = none ∧ H' b = some o := by
  unfold frsh
  cases e : H b with
  | none => simp
  | some x => simp
theorem frsh_same {H0 H1 H2 H3 : Hp} (d : ∀ b, H0 b = none → H2 b = none) (k : ∀ b o, H0 b = none → H1 b = some o → H3 b = some o) : Same (frsh H0 H1) (frsh H2 H3) := fun b o e => by
  obtain ⟨e1, e2⟩ := frsh_some.mp e
  exact frsh_some.mpr ⟨d b e1, k b o e1 e2⟩
theorem frsh_sub {H0 H1 H3 : Hp} (k : ∀ b o, H0 b = none → H1 b = some o → H3 b = some o) : Same (frsh H0 H1) H3 := fun b o e => by
  obtain ⟨e1, e2⟩ := frsh_some.mp e
  exact k b o e1 e2
theorem kept_dom {p : Addr} {H H' : Hp} (k : Kept p H H') (hp : ∃ o, H' p = some o) : ∀ b, H' b = none → H b = none := fun b e => by
  cases z : H b with
  | none => rfl
  | some o =>
    by_cases hb : b = p
    · obtain ⟨x, hx⟩ := hp
      rw [hb, hx] at e
      cases e
    · rw [k b o hb z] at e
      cases e
theorem PoolAt.some {H : Hp} {p : Addr} (h : PoolAt H p) : ∃ o, H p = some o := by
  obtain ⟨c, n, e, _⟩ := h
  exact ⟨_, e⟩
def szT : Nat → Nat
  | 0 => 1
  | r + 1 => 1 + 2 * szT r
def ofL : List Tr → Fo
  | [] => .nil
  | t :: ts => .cons t (ofL ts)
theorem ofL_at {H : Hp} : ∀ (ts : List Tr) (us : List V), All2 (TrAt H) ts us → FoAt H (ofL ts) us
  | [], [], _ => by
    unfold ofL FoAt
    rfl
  | t :: ts, u :: us, ⟨h, r⟩ => by
    unfold ofL FoAt
    exact ⟨u, us, rfl, h, ofL_at ts us r⟩
  | [], _ :: _, h => h.elim
  | _ :: _, [], h => h.elim
theorem ofL_grown {ms : List Str} : ∀ ts : List Tr, (∀ t ∈ ts, (∀ m ∈ ms, m ∈ t.ms) ∧ t.grows) → (ofL ts).grown ms
  | [], _ => by
    unfold ofL Fo.grown
    trivial
  | t :: ts, h => by
    unfold ofL Fo.grown
    have q := h t (by simp)
    exact ⟨q.1, q.2, ofL_grown ts fun x hx => h x (List.mem_cons_of_mem _ hx)⟩
theorem ofL_size {n : Nat} : ∀ ts : List Tr, (∀ t ∈ ts, t.size ≤ n) → (ofL ts).size ≤ ts.length * n
  | [], _ => by
    unfold ofL Fo.size
    omega
  | t :: ts, h => by
    unfold ofL Fo.size
    have q := h t (by simp)
    have r := ofL_size ts fun x hx => h x (List.mem_cons_of_mem _ hx)
    rw [List.length_cons, Nat.add_mul]
    omega
def spTree (n : Nat) : Sp := fun vs H Q _ => ∃ (p M G : Addr) (r : Nat) (ms had : List Str), vs = [.ref p, .ref M, .ref G, .int (r : Int)] ∧ PoolAt H p ∧ r < n ∧ H M = some (.lst (ms.map V.str)) ∧ ms.length ≤ 60 ∧ H G = some (.lst (had.map V.str)) ∧ (∀ m ∈ had, m ∈ ms) ∧
  ∀ (v : V) (t : Tr) (H' : Hp), TrAt (frsh H H') t v → t.grows → (∀ m ∈ had, m ∈ t.ms) → t.size ≤ szT r → PoolAt H' p → Kept p H H' → Q v H'
section
variable {P : Program} {w : World} {K : PySem.W.Frag} {mg : Str → Option Value} {base : Heap}
abbrev nTree : List Str := ["_law_pool_here", "_law_marks_here", "_law_had", "_law_room", "_law_own", "_law_many", "_law_mark", "_law_k"]
theorem scTree : FnScope nTree ["_law_pool_here", "_law_marks_here", "_law_had", "_law_room"] (defScope sTree) := ⟨rfl, rfl, rfl, by decide +kernel, rfl, by decide +kernel, by decide +kernel⟩
theorem ok_tree {f fT : Addr} {fd fdT : FuncData} (F : Fun K "_law_tree" "_law_tree" sTree f fd) (bF : Binds K fd ["_law_pool_here", "_law_marks_here", "_law_had", "_law_room"] []) (gF : mg "_law_tree" = some (.ref f))
    (GT : FnOk P w K mg base CX0 1 fT fdT ["_law_pool_here", "_law_many"] spTake) (kT : PySem.W.keepIn K (.ref fT) = true) (bT : Binds K fdT ["_law_pool_here", "_law_many"] []) (gT : mg "_law_take" = some (.ref fT))
    (mRange : mg "range" = none) (mInt : mg "int" = none) (mSorted : mg "sorted" = none) : ∀ n : Nat, FnOk P w K mg base CX0 (n + 2) f fd ["_law_pool_here", "_law_marks_here", "_law_had", "_law_room"] (spTree n) := by
  intro n
  induction n with
  | zero =>
    refine F.ok scTree (fun vs H Q E h => ?_) (fun cdv A outer s H vs Q E hr h => ?_)
    · obtain ⟨p, M, G, r, ms, had, rfl, _⟩ := h
      rfl
    · obtain ⟨p, M, G, r, ms, had, _, _, h0, _⟩ := h
      omega
  | succ n GR =>
    refine F.ok scTree (fun vs H Q E h => ?_) (fun cdv A outer s H vs Q E hr h => ?_)
    · obtain ⟨p, M, G, r, ms, had, rfl, _⟩ := h
      rfl
    · obtain ⟨p, M, G, r, ms, had, rfl, hp, hrn, hM, ml, hG, hsub, k⟩ := h
      have hr1 : Room 1 _ := hr.mono (by omega)
      refine ⟨_, pss_cons (ps_set (i := 4) scTree.nd rfl (Or.inr rfl) (pe_lc (own := [("_law_mark", 6)]) (g := gName 6) (by rfl) scTree.nd (pi_list (pe_callB cr_sortedS (by rfl) mSorted (by decide +kernel) (pa_cons (pv 1) pa_nil))) (blkOk_by (N := nTree) (sc := defScope sTree) (by decide +kernel)) (fun _ _ _ _ _ => pg_name (i := 6) scTree.nd rfl (Or.inl rfl))
          (fun _ _ _ _ _ => pts_one (PW.pt (pw_or (pt_cmpR (in_at (K := K) rfl) (pv 6) (pv 2) (by rfl)) (pw_or1 (pt_cmpR op_eq (pe_call GT hr1 (by rfl) gT kT bT .nil pass0 (pa_cons (pv 0) (pa_cons pe_int pa_nil))) pe_int (nomark _))))))
          (fun _ _ _ _ _ => pv 6)))
        (pss_cons (ps_set (i := 5) scTree.nd rfl (Or.inl rfl) (pe_op op_mul (pe_call GT hr1 (by rfl) gT kT bT .nil pass0 (pa_cons (pv 0) (pa_cons pe_int pa_nil))) (pe_callTy call_int1 (by rfl) mInt (by decide +kernel) (pa_cons (pe_cmpR op_gt (pv 3) pe_int (nomark _)) pa_nil))))
        (pss_one (ps_ret (pe_tup (pa_cons (pv 4) (pa_cons (pe_lc (own := [("_law_k", 7)]) (g := gName 7) (tt := tYes) (by rfl) scTree.nd (pi_range1 (by rfl) mRange (pa_cons (pv 5) pa_nil)) (blkOk_by (N := nTree) (sc := defScope sTree) (by decide +kernel)) (fun _ _ _ _ _ => pg_name (i := 7) scTree.nd rfl (Or.inl rfl)) (fun _ _ _ _ _ => pts_nil)
          (fun _ _ _ _ _ => pe_call GR hr (by rfl) gF F.kp bF .nil pass0 (pa_cons (pv 0) (pa_cons (pv 1) (pa_cons (pv 4) (pa_cons (pe_op op_sub (pv 3) pe_int) pa_nil)))))) pa_nil)))))), ?_⟩
      have nM := pool_marks hp hM
      have nG := pool_marks hp hG
      refine ⟨_, rfl, M, ms, rfl, SqL.of hM, by omega, fun ys S perm _ hS => ?_⟩
      have sS := same_new (o := .lst (ys.map V.str)) hS
      have yl := perm.length_eq
      refine ⟨S, rfl, ⟨_, SqL.of upd_same⟩, fun D hD => ?_⟩
      have nS : S ≠ p := fun z => by
        obtain ⟨o, e⟩ := hp.some
        rw [z, e] at hS
        cases hS
      have nD : D ≠ p := (hp.same sS).ne hD
      refine lc_list (K := K) (a := S) (xs := ys.map V.str) (fun j H' => ∃ os : List Str, H' D = some (.lst (os.map V.str)) ∧ ((∀ m ∈ ys.take j, m ∈ had → m ∈ os) ∧ ∀ m ∈ os, m ∈ ys) ∧ os.length ≤ j ∧ PoolAt H' p ∧ Kept p (upd H S (.lst (ys.map V.str))) H') ⟨[], upd_same, ⟨by simp, by simp⟩, by simp, (hp.same sS).upd hD, kept_same (same_new hD)⟩ (fun j H' _ ⟨_, _, _, _, _, q⟩ => SqL.of (q S _ nS upd_same)) ?_ ?_
      · rintro j y H' hy ⟨os, o1, o2, o3, o4, o5⟩
        rw [List.getElem?_map] at hy
        obtain ⟨m, hm, rfl⟩ := Option.map_eq_some_iff.mp hy
        have jl := (List.getElem?_eq_some_iff.mp hm).1
        refine ⟨rfl, ?_⟩
        have hG' := o5 G _ nG (sS _ _ hG)
        have ts : ys.take (j + 1) = ys.take j ++ [m] := by
          rw [List.take_add_one, hm] <;> rfl
        have add : ∀ H3 : Hp, H3 D = some (.lst (os.map V.str)) → PoolAt H3 p → Kept p (upd H S (.lst (ys.map V.str))) H3 → ∃ acc, H3 D = some (.lst acc) ∧ acc.length < sizeLine ∧ ∃ os' : List Str, (upd H3 D (.lst (acc ++ [.str m]))) D = some (.lst (os'.map V.str)) ∧ ((∀ x ∈ ys.take (j + 1), x ∈ had → x ∈ os') ∧ ∀ x ∈ os', x ∈ ys) ∧ os'.length ≤ j + 1 ∧
            PoolAt (upd H3 D (.lst (acc ++ [.str m]))) p ∧ Kept p (upd H S (.lst (ys.map V.str))) (upd H3 D (.lst (acc ++ [.str m]))) := fun H3 h3 hp3 k3 => by
          refine ⟨_, h3, small1000 (by rw [List.length_map]; omega), os ++ [m], by rw [upd_same, List.map_append] <;> rfl, ⟨fun x hx hh => ?_, fun x hx => ?_⟩, ?_, ?_, fun b o nb e => ?_⟩
          · rw [ts] at hx
            rcases List.mem_append.mp hx with hx | hx
            · exact List.mem_append_left _ (o2.1 x hx hh)
            · exact List.mem_append_right _ hx
          · rcases List.mem_append.mp hx with hx | hx
            · exact o2.2 x hx
            · rw [List.mem_singleton.mp hx]
              exact List.mem_of_getElem? hm
          · rw [List.length_append]
            exact Nat.add_le_add_right o3 1
          · obtain ⟨c1, n1, z1, z2, z3⟩ := hp3
            exact ⟨c1, n1, by rw [upd_ne (Ne.symm nD)]; exact z1, z2, z3⟩
          · rw [upd_ne (ne_of_none e hD)]
            exact k3 b o nb e
        refine ⟨_, rfl, _, rfl, G, _, rfl, .inl (SqL.of hG'), rfl, all_flat had, _, rfl, ?_⟩
        refine ite2 (fun hin => ?_) (fun hout => ?_)
        · exact ⟨_, rfl, add H' o1 o4 o5⟩
        · have nin : m ∉ had := fun z => hout (by
            show inV (.str m) (had.map V.str) = true
            rw [inV_marks]
            exact decide_eq_true z)
          refine ⟨_, rfl, p, 3, rfl, o4, by decide, by decide, fun q H3 q0 q1 hp3 e3 => ?_⟩
          refine ⟨rfl, _, rfl, ?_⟩
          have k3 := o5.trans (kept_take e3)
          refine ite2 (fun _ => ⟨_, rfl, add H3 ((e3 D nD).trans o1) hp3 k3⟩) (fun _ => ⟨os, (e3 D nD).trans o1, ⟨fun x hx hh => ?_, o2.2⟩, by omega, hp3, k3⟩)
          rw [ts] at hx
          rcases List.mem_append.mp hx with hx | hx
          · exact o2.1 x hx hh
          · rw [List.mem_singleton.mp hx] at hh
            exact absurd hh nin
      · rintro H2 ⟨os, o1, o2, o3, o4, o5⟩
        have all : ∀ m ∈ had, m ∈ os := fun m hm => by
          rw [List.length_map, List.take_length] at o2
          exact o2.1 m (perm.mem_iff.mpr (hsub m hm)) hm
        rw [List.length_map] at o3
        have k2 : Kept p H H2 := (kept_same sS).trans o5
        refine ⟨_, rfl, p, 3, rfl, o4, by decide, by decide, fun q H3 q0 q1 hp3 e3 => ?_⟩
        have k3 := k2.trans (kept_take e3)
        refine ⟨_, rfl, _, _, rfl, rfl, .inr ⟨_, rfl, ?_⟩⟩
        obtain ⟨bt, hbt, bt0, bt1⟩ : ∃ bt : Int, (if decide ((0 : Int) < (r : Int)) = true then (1 : Int) else 0) = bt ∧ 0 ≤ bt ∧ bt ≤ 1 := ⟨_, rfl, by split <;> decide, by split <;> decide⟩
        have mz : r = 0 → bt = 0 := fun z => by
          rw [← hbt, z]
          rfl
        rw [hbt]
        obtain ⟨mn, hmn, mn2, mn0⟩ : ∃ mn : Nat, q * bt = (mn : Int) ∧ mn ≤ 2 ∧ (r = 0 → mn = 0) := by
          obtain rfl | rfl : bt = 0 ∨ bt = 1 := by omega
          · exact ⟨0, by omega, by omega, fun _ => rfl⟩
          · exact ⟨q.toNat, by omega, by omega, fun z => by have := mz z; omega⟩
        refine ⟨_, _, rfl, rfl, .inl ⟨by omega, by omega⟩, ?_⟩
        refine ⟨_, rfl, _, rfl, (mn : Int), by rw [← hmn] <;> rfl, by omega, by omega, fun D2 hD2 => lc_range (lo := 0) (n := (mn : Int).toNat) (fun j H' => ∃ (us : List V) (ts : List Tr), H' D2 = some (.lst us) ∧ All2 (TrAt (frsh (upd H3 D2 (.lst [])) H')) ts us ∧ ts.length = j ∧ (∀ t ∈ ts, ((∀ m ∈ os, m ∈ t.ms) ∧ t.grows) ∧ t.size ≤ szT (r - 1)) ∧ PoolAt H' p ∧ Kept p H3 H')
          ⟨[], [], upd_same, trivial, rfl, by simp, hp3.upd hD2, kept_same (same_new hD2)⟩ ?_ ?_⟩
        · have n2 := hp3.ne hD2
          rintro j H4 hj ⟨us, ts, u1, u2, u3, u4, u5, u6⟩
          have r1 : 1 ≤ r := by
            rcases Nat.eq_zero_or_pos r with z | z
            · have := mn0 z
              omega
            · exact z
          refine ⟨rfl, ?_⟩
          unfold tYes
          dsimp only
          rw [if_pos rfl]
          have er : ((r : Int) - 1) = ((r - 1 : Nat) : Int) := by omega
          refine ⟨_, rfl, _, rfl, _, rfl, _, rfl, _, _, rfl, rfl, p, M, D, r - 1, ms, os, by rw [← er]; rfl, u5, by omega, u6 _ _ nM (k3 _ _ nM hM), ml, u6 _ _ nD ((e3 D nD).trans o1), ?_, fun v t H5 t1 t2 t3 t4 t5 t6 => ?_⟩
          · exact fun m hm => perm.mem_iff.mp (o2.2 m hm)
          have B4 : ∀ b, H4 b = none → (upd H3 D2 (.lst [])) b = none := fun b e => by
            have nb : b ≠ D2 := fun z => by rw [z, u1] at e; cases e
            rw [upd_ne nb]
            exact kept_dom u6 u5.some b e
          have B2 : ∀ b, (upd H3 D2 (.lst [])) b = none → b ≠ D2 ∧ b ≠ p := fun b e => by
            refine ⟨fun z => ?_, fun z => ?_⟩
            · rw [z, upd_same] at e
              cases e
            · obtain ⟨o, ho⟩ := hp3.some
              rw [z, upd_ne (Ne.symm n2), ho] at e
              cases e
          refine ⟨_, t6 _ _ n2 u1, small1000 (by have := u2.len; omega), us ++ [v], ts ++ [t], upd_same, ?_, by rw [List.length_append, u3]; rfl, fun x hx => ?_, ?_, fun b o nb e => ?_⟩
          · refine (u2.mono (TrAt.same (frsh_same (fun b e => e) fun b o e1 e2 => ?_))).app (ls := [t]) (us := [v]) ⟨TrAt.same (frsh_same B4 fun b o e1 e2 => ?_) _ _ t1, trivial⟩
            · obtain ⟨x1, x2⟩ := B2 b e1
              rw [upd_ne x1]
              exact t6 _ _ x2 e2
            · obtain ⟨x1, x2⟩ := B2 b (B4 b e1)
              rw [upd_ne x1]
              exact e2
          · rcases List.mem_append.mp hx with hx | hx
            · exact u4 x hx
            · rw [List.mem_singleton.mp hx]
              exact ⟨⟨t3, t2⟩, t4⟩
          · obtain ⟨c1, n1, z1, z2, z3⟩ := t5
            exact ⟨c1, n1, by rw [upd_ne (Ne.symm n2)]; exact z1, z2, z3⟩
          · rw [upd_ne (ne_of_none e hD2)]
            exact t6 _ _ nb (u6 _ _ nb e)
        · rintro H4 ⟨us, ts, u1, u2, u3, u4, u5, u6⟩
          have k4 := k3.trans u6
          have n2 := hp3.ne hD2
          refine ⟨by show 2 ≤ sizeLine; decide, fun a ha => ?_⟩
          have sa := same_new (o := .tup [.ref D, .ref D2]) ha
          have dH := kept_dom k4 u5.some
          have D0 : H D = none := by
            cases z : H D with
            | none => rfl
            | some o =>
              have := sS _ _ z
              rw [hD] at this
              cases this
          have D20 : H D2 = none := kept_dom k3 hp3.some D2 hD2
          have B1 : ∀ b, (upd H3 D2 (.lst [])) b = none → H b = none := fun b e => by
            have nb : b ≠ D2 := fun z => by rw [z, upd_same] at e; cases e
            rw [upd_ne nb] at e
            exact kept_dom k3 hp3.some b e
          refine k (.ref a) (.mk os (ofL ts)) _ ?_ ?_ all ?_ (u5.same sa) (k4.trans (kept_same sa))
          · unfold TrAt
            refine ⟨a, D, D2, us, rfl, frsh_some.mpr ⟨dH a ha, upd_same⟩, frsh_some.mpr ⟨D0, sa _ _ (u6 _ _ nD ((e3 D nD).trans o1))⟩, frsh_some.mpr ⟨D20, sa _ _ u1⟩, ofL_at ts us (u2.mono (TrAt.same (frsh_same B1 fun b o e1 e2 => sa _ _ e2)))⟩
          · unfold Tr.grows
            exact ⟨ofL_grown ts fun t ht => (u4 t ht).1, trivial⟩
          · have z := ofL_size ts fun t ht => (u4 t ht).2
            show (ofL ts).size + 1 ≤ szT r
            have lt : ts.length = mn := by omega
            cases r with
            | zero =>
              have := mn0 rfl
              have : ts.length = 0 := by omega
              rw [this] at z
              show (ofL ts).size + 1 ≤ 1
              omega
            | succ r =>
              show (ofL ts).size + 1 ≤ 1 + 2 * szT r
              have : ts.length * szT (r + 1 - 1) ≤ 2 * szT r := Nat.mul_le_mul_right _ (by omega)
              omega
end
def spRises : Sp := fun vs H Q _ => ∃ (v y : V) (t : Tr) (k : Kd), vs = [v, y] ∧ TrAt H t v ∧ t.size ≤ 60 ∧ t.grows ∧ KdAt H k y ∧ k.deep < 20 ∧ ∀ H', Same H H' → Q (.bl true) H'
def spRight : Sp := fun vs H Q _ => ∃ (v y1 y2 y3 : V) (t : Tr) (k1 k2 k3 : Kd), vs = [v, y1, y2, y3] ∧ TrAt H t v ∧ t.size ≤ 60 ∧ t.grows ∧ KdAt H k1 y1 ∧ KdAt H k2 y2 ∧ KdAt H k3 y3 ∧ k1.deep < 10 ∧ k2.deep < 10 ∧ k3.deep < 10 ∧ ∀ H', Same H H' → Q (.bl true) H'
theorem all_size : ∀ (n : Nat) (t u : Tr), t.size ≤ n → u ∈ t.all → u.size ≤ t.size := by
  intro n
  induction n with
  | zero =>
    intro t u h
    have := t.pos
    omega
  | succ n ih =>
    rintro ⟨ms, f⟩ u h hu
    unfold Tr.all at hu
    rcases List.mem_cons.mp hu with rfl | hu
    · exact Nat.le_refl _
    · obtain ⟨c, hc, hcu⟩ := (Fo.mem_all f u).mp hu
      have sz := Fo.mem_size f c hc
      have h : f.size + 1 ≤ n + 1 := h
      have := ih c u (by omega) hcu
      show u.size ≤ f.size + 1
      omega
theorem curry (a b c : Kd) {t : Tr} (g : t.grows) : frc (.two true (.two false a b) c) t = frc (.two true a (.two true b c)) t := by
  rw [Bool.eq_iff_iff, frc_to, frc_to]
  constructor
  · intro h u hu ha
    rw [frc_to]
    intro x hx hb
    have hx' := all_trans _ t u x (Nat.le_refl _) hu hx
    refine h x hx' ?_
    rw [frc_both, frc_up (grows_all _ t u (Nat.le_refl _) g hu) a x hx ha, hb]
    rfl
  · intro h u hu hab
    rw [frc_both, Bool.and_eq_true] at hab
    have q := h u hu hab.1
    rw [frc_to] at q
    exact q u (all_self u) hab.2
section
variable {P : Program} {w : World} {K : PySem.W.Frag} {mg : Str → Option Value} {base : Heap}
abbrev nRises : List Str := ["_law_tree_here", "_law_kind_here", "_law_world"]
theorem scRises : FnScope nRises ["_law_tree_here", "_law_kind_here"] (defScope sRises) := ⟨rfl, rfl, rfl, by decide +kernel, rfl, by decide +kernel, by decide +kernel⟩
theorem ok_rises {f fH fA : Addr} {fd fdH fdA : FuncData} (F : Fun K "_law_rises" "_law_rises" sRises f fd) (GH : FnOk P w K mg base CX0 22 fH fdH ["tree", "kind"] (spHolds 20)) (kH : PySem.W.keepIn K (.ref fH) = true) (bH : Binds K fdH ["tree", "kind"] []) (gH : mg "holds" = some (.ref fH))
    (GA : FnOk P w K mg base CX0 61 fA fdA ["_law_tree_here"] (spAll 60)) (kA : PySem.W.keepIn K (.ref fA) = true) (bA : Binds K fdA ["_law_tree_here"] []) (gA : mg "_law_all" = some (.ref fA)) : FnOk P w K mg base CX0 62 f fd ["_law_tree_here", "_law_kind_here"] spRises := by
  refine F.ok scRises (fun vs H Q E h => ?_) (fun cdv A outer s H vs Q E hr h => ?_)
  · obtain ⟨v, y, t, k, rfl, _⟩ := h
    rfl
  · obtain ⟨v, y, t, kd, rfl, ht, hs, hg, hk, hd, k⟩ := h
    have hr2 : Room 22 _ := hr.mono (by omega)
    refine ⟨_, pss_cons (ps_if (pt_not (pt_val (pe_call GH hr2 (by rfl) gH kH bH .nil pass0 (pa_cons (pv 0) (pa_cons (pv 1) pa_nil))))) (pss_one (ps_ret pe_bl)) pss_nil)
      (pss_one (ps_ret (pe_cmpR (op_eqD hr.units) (pe_lc (own := [("_law_world", 2)]) (g := gName 2) (by rfl) scRises.nd (pi_list (pe_call GA hr (by rfl) gA kA bA .nil pass0 (pa_cons (pv 0) pa_nil))) (blkOk_by (N := nRises) (sc := defScope sRises) (by decide +kernel)) (fun _ _ _ _ _ => pg_name (i := 2) scRises.nd rfl (Or.inl rfl))
        (fun _ _ _ _ _ => pts_one (pt_not (pt_val (pe_call GH hr2 (by rfl) gH kH bH .nil pass0 (pa_cons (pv 2) (pa_cons (pv 1) pa_nil)))))) (fun _ _ _ _ _ => pv 2)) (pe_lst pa_nil) (nomark _)))), ?_⟩
    refine ⟨_, rfl, _, rfl, v, y, t, kd, rfl, ht, hs, hk, hd, fun H1 s1 => ⟨_, rfl, ?_⟩⟩
    cases e : frc kd t with
    | false => exact k H1 s1
    | true =>
      refine iteF ?_
      refine ⟨_, rfl, v, t, rfl, TrAt.same s1 _ _ ht, hs, hs, fun D us H2 s2 e2 A2 => ?_⟩
      have s12 := Same.trans s1 s2
      refine ⟨D, rfl, ⟨_, SqL.of e2⟩, fun D2 hD2 => lc_list (K := K) (a := D) (xs := us) (fun i H' => H' D2 = some (.lst []) ∧ Same H2 H') ⟨upd_same, same_new hD2⟩ (fun i H' _ q => SqL.of (q.2 _ _ e2)) ?_ ?_⟩
      · rintro i x H' hx ⟨q1, q2⟩
        obtain ⟨u, hu, tr⟩ := A2.get hx
        have um := List.mem_of_getElem? hu
        refine ⟨rfl, ?_⟩
        refine ⟨_, rfl, _, rfl, x, y, u, kd, rfl, TrAt.same q2 _ _ tr, Nat.le_trans (all_size _ t u (Nat.le_refl _) um) hs, KdAt.mono (tups_of (Same.trans s12 q2)) _ _ hk, hd, fun H3 s3 => ⟨_, rfl, ?_⟩⟩
        rw [frc_up hg kd u um e]
        refine iteF ?_
        exact ⟨s3 _ _ q1, Same.trans q2 s3⟩
      · rintro H' ⟨q1, q2⟩
        refine ⟨by show 0 ≤ sizeLine; decide, fun l hl => ?_⟩
        have sl := same_new (o := .lst []) hl
        refine ⟨.list [], .list [], .lst (SqL.of (sl _ _ q1)) .nil, .lst (SqL.of upd_same) .nil, by decide +kernel, by decide +kernel, ?_⟩
        have z : PyData.eqv (.list []) (.list []) = true := by decide +kernel
        rw [z]
        exact k _ (Same.trans s12 (Same.trans q2 sl))
theorem scRight : FnScope ["_law_tree_here", "_law_one", "_law_other", "_law_third", "_law_both", "_law_led"] ["_law_tree_here", "_law_one", "_law_other", "_law_third"] (defScope sRight) := ⟨rfl, rfl, rfl, by decide +kernel, rfl, by decide +kernel, by decide +kernel⟩
end
theorem dd (w : Bool) (a b : Kd) (ha : a.deep < 10) (hb : b.deep < 10) : (Kd.two w a b).deep < 20 := by
  show max a.deep b.deep + 1 < 20
  omega
theorem dd3 (w u : Bool) (a b c : Kd) (ha : a.deep < 10) (hb : b.deep < 10) (hc : c.deep < 10) : (Kd.two w (.two u a b) c).deep < 20 := by
  show max (max a.deep b.deep + 1) c.deep + 1 < 20
  omega
theorem dd4 (w u : Bool) (a b c : Kd) (ha : a.deep < 10) (hb : b.deep < 10) (hc : c.deep < 10) : (Kd.two w a (.two u b c)).deep < 20 := by
  show max a.deep (max b.deep c.deep + 1) + 1 < 20
  omega
theorem dd1 (w : Bool) (c : Kd) (hc : c.deep < 10) : (Kd.two w c .one).deep < 20 := by
  show max c.deep 0 + 1 < 20
  omega
theorem to_one (c : Kd) (t : Tr) : frc (.two true c .one) t = true := (frc_to c .one t).mpr fun _ _ _ => rfl
section
variable {P : Program} {w : World} {K : PySem.W.Frag} {mg : Str → Option Value} {base : Heap}
theorem ok_right {f fH fR : Addr} {fd fdH fdR : FuncData} (F : Fun K "_law_right" "_law_right" sRight f fd) (GH : FnOk P w K mg base CX0 22 fH fdH ["tree", "kind"] (spHolds 20)) (kH : PySem.W.keepIn K (.ref fH) = true) (bH : Binds K fdH ["tree", "kind"] []) (gH : mg "holds" = some (.ref fH))
    (GR : FnOk P w K mg base CX0 62 fR fdR ["_law_tree_here", "_law_kind_here"] spRises) (kR : PySem.W.keepIn K (.ref fR) = true) (bR : Binds K fdR ["_law_tree_here", "_law_kind_here"] []) (gR : mg "_law_rises" = some (.ref fR)) : FnOk P w K mg base CX0 63 f fd ["_law_tree_here", "_law_one", "_law_other", "_law_third"] spRight := by
  refine F.ok scRight (fun vs H Q E h => ?_) (fun cdv A outer s H vs Q E hr h => ?_)
  · obtain ⟨v, y1, y2, y3, t, k1, k2, k3, rfl, _⟩ := h
    rfl
  · obtain ⟨v, y1, y2, y3, t, a, b, c, rfl, ht, hs, hg, ha, hb, hc, da, db, dc, k⟩ := h
    have hr2 : Room 22 _ := hr.mono (by omega)
    refine ⟨_, pss_cons (ps_set (i := 4) scRight.nd rfl (Or.inl rfl) (pe_call GH hr2 (by rfl) gH kH bH .nil pass0 (pa_cons (pv 0) (pa_cons (pe_tup (pa_cons pe_str (pa_cons (pv 1) (pa_cons (pv 2) pa_nil)))) pa_nil))))
      (pss_cons (ps_if (pt_cmpR op_ne (pv 4) (pe_and (pe_call GH hr2 (by rfl) gH kH bH .nil pass0 (pa_cons (pv 0) (pa_cons (pv 1) pa_nil))) (pe_one (pe_call GH hr2 (by rfl) gH kH bH .nil pass0 (pa_cons (pv 0) (pa_cons (pv 2) pa_nil))))) (nomark _)) (pss_one (ps_ret pe_bl)) pss_nil)
      (pss_cons (ps_set (i := 5) scRight.nd rfl (Or.inl rfl) (pe_call GH hr2 (by rfl) gH kH bH .nil pass0 (pa_cons (pv 0) (pa_cons (pe_tup (pa_cons pe_str (pa_cons (pv 1) (pa_cons (pv 2) pa_nil)))) pa_nil))))
      (pss_cons (ps_if (PW.pt (pw_or (PW.pt (pw_and (pt_val (pv 5)) (pw_and (pt_val (pe_call GH hr2 (by rfl) gH kH bH .nil pass0 (pa_cons (pv 0) (pa_cons (pv 1) pa_nil)))) (pw_and1 (pt_not (pt_val (pe_call GH hr2 (by rfl) gH kH bH .nil pass0 (pa_cons (pv 0) (pa_cons (pv 2) pa_nil)))))))))
          (pw_or1 (PW.pt (pw_and (pt_val (pe_call GH hr2 (by rfl) gH kH bH .nil pass0 (pa_cons (pv 0) (pa_cons (pv 2) pa_nil)))) (pw_and1 (pt_not (pt_val (pv 5))))))))) (pss_one (ps_ret pe_bl)) pss_nil)
      (pss_cons (ps_if (pt_cmpR op_ne (pe_call GH hr2 (by rfl) gH kH bH .nil pass0 (pa_cons (pv 0) (pa_cons (pe_tup (pa_cons pe_str (pa_cons (pe_tup (pa_cons pe_str (pa_cons (pv 1) (pa_cons (pv 2) pa_nil)))) (pa_cons (pv 3) pa_nil)))) pa_nil)))
          (pe_call GH hr2 (by rfl) gH kH bH .nil pass0 (pa_cons (pv 0) (pa_cons (pe_tup (pa_cons pe_str (pa_cons (pv 1) (pa_cons (pe_tup (pa_cons pe_str (pa_cons (pv 2) (pa_cons (pv 3) pa_nil)))) pa_nil)))) pa_nil))) (nomark _)) (pss_one (ps_ret pe_bl)) pss_nil)
      (pss_cons (ps_if (PW.pt (pw_or (pt_not (pt_val (pe_call GH hr2 (by rfl) gH kH bH .nil pass0 (pa_cons (pv 0) (pa_cons (pe_tup (pa_cons pe_str pa_nil)) pa_nil)))))
          (pw_or1 (pt_not (pt_val (pe_call GH hr2 (by rfl) gH kH bH .nil pass0 (pa_cons (pv 0) (pa_cons (pe_tup (pa_cons pe_str (pa_cons (pv 3) (pa_cons (pe_tup (pa_cons pe_str pa_nil)) pa_nil)))) pa_nil)))))))) (pss_one (ps_ret pe_bl)) pss_nil)
      (pss_one (ps_ret (pe_and (pe_call GR hr (by rfl) gR kR bR .nil pass0 (pa_cons (pv 0) (pa_cons (pe_tup (pa_cons pe_str (pa_cons (pv 1) (pa_cons (pv 2) pa_nil)))) pa_nil)))
          (pe_and (pe_call GR hr (by rfl) gR kR bR .nil pass0 (pa_cons (pv 0) (pa_cons (pe_tup (pa_cons pe_str (pa_cons (pv 2) (pa_cons (pv 3) pa_nil)))) pa_nil)))
          (pe_one (pe_call GR hr (by rfl) gR kR bR .nil pass0 (pa_cons (pv 0) (pa_cons (pv 1) pa_nil)))))))))))))  , ?_⟩
    cases eb : frc b t with
    | true =>
      have el : frc (.two true a b) t = true := (frc_to a b t).mpr fun u hu _ => frc_up hg b u hu eb
      cases ea : frc a t with
      | true =>
        have S0 : Same H H := Same.refl H
        have eB : frc (.two false a b) t = true := by
          rw [frc_both, ea, eb]
          rfl
        refine ⟨_, rfl, _, rfl, _, rfl, by show 3 ≤ sizeLine; decide, fun A1 n1 => ?_⟩
        have T1 := Same.trans S0 (same_new (o := .tup [.str "both", y1, y2]) n1)
        refine ⟨v, .ref A1, t, .two false a b, rfl, TrAt.same T1 _ _ ht, hs, ⟨A1, y1, y2, rfl, upd_same, KdAt.mono (tups_of T1) _ _ ha, KdAt.mono (tups_of T1) _ _ hb⟩, dd _ _ _ (by omega) (by omega), fun H1 q1 => ?_⟩
        have S1 := Same.trans T1 q1
        rw [eB]
        refine ⟨_, rfl, ?_⟩
        refine ⟨_, rfl, _, rfl, v, y1, t, a, rfl, TrAt.same S1 _ _ ht, hs, KdAt.mono (tups_of S1) _ _ ha, by omega, fun H2 q2 => ?_⟩
        have S2 := Same.trans S1 q2
        rw [ea]
        refine ⟨_, rfl, ?_⟩
        refine iteT ?_
        refine ⟨_, rfl, _, rfl, v, y2, t, b, rfl, TrAt.same S2 _ _ ht, hs, KdAt.mono (tups_of S2) _ _ hb, by omega, fun H3 q3 => ?_⟩
        have S3 := Same.trans S2 q3
        rw [eb]
        refine ⟨rfl, _, rfl, ?_⟩
        refine ite2 (fun z => absurd z (by decide +kernel)) (fun _ => ?_)
        refine ⟨_, rfl, _, rfl, _, rfl, by show 3 ≤ sizeLine; decide, fun A2 n2 => ?_⟩
        have T2 := Same.trans S3 (same_new (o := .tup [.str "to", y1, y2]) n2)
        refine ⟨v, .ref A2, t, .two true a b, rfl, TrAt.same T2 _ _ ht, hs, ⟨A2, y1, y2, rfl, upd_same, KdAt.mono (tups_of T2) _ _ ha, KdAt.mono (tups_of T2) _ _ hb⟩, dd _ _ _ (by omega) (by omega), fun H4 q4 => ?_⟩
        have S4 := Same.trans T2 q4
        rw [el]
        refine ⟨_, rfl, _, rfl, ?_⟩
        refine iteT ?_
        refine ⟨_, rfl, _, rfl, v, y1, t, a, rfl, TrAt.same S4 _ _ ht, hs, KdAt.mono (tups_of S4) _ _ ha, by omega, fun H5 q5 => ?_⟩
        have S5 := Same.trans S4 q5
        rw [ea]
        refine ⟨_, rfl, ?_⟩
        refine iteT ?_
        refine ⟨_, rfl, _, rfl, v, y2, t, b, rfl, TrAt.same S5 _ _ ht, hs, KdAt.mono (tups_of S5) _ _ hb, by omega, fun H6 q6 => ?_⟩
        have S6 := Same.trans S5 q6
        rw [eb]
        refine ⟨_, rfl, ?_⟩
        refine iteF ?_
        refine ⟨_, rfl, _, rfl, v, y2, t, b, rfl, TrAt.same S6 _ _ ht, hs, KdAt.mono (tups_of S6) _ _ hb, by omega, fun H7 q7 => ?_⟩
        have S7 := Same.trans S6 q7
        rw [eb]
        refine ⟨_, rfl, ?_⟩
        refine iteT ?_
        refine ⟨_, rfl, _, rfl, ?_⟩
        refine iteF ?_
        refine ⟨_, rfl, _, rfl, _, rfl, by show 3 ≤ sizeLine; decide, fun A3 n3 => ⟨_, rfl, by show 3 ≤ sizeLine; decide, fun A4 n4 => ?_⟩⟩
        have T3 := Same.trans S7 (same_new (o := .tup [.str "both", y1, y2]) n3)
        have u4 := same_new (o := .tup [.str "to", .ref A3, y3]) n4
        have T4 := Same.trans T3 u4
        refine ⟨v, .ref A4, t, .two true (.two false a b) c, rfl, TrAt.same T4 _ _ ht, hs, ⟨A4, .ref A3, y3, rfl, upd_same, ⟨A3, y1, y2, rfl, u4 _ _ upd_same, KdAt.mono (tups_of T4) _ _ ha, KdAt.mono (tups_of T4) _ _ hb⟩, KdAt.mono (tups_of T4) _ _ hc⟩, dd3 _ _ _ _ _ (by omega) (by omega) (by omega), fun H8 q8 => ?_⟩
        have S8 := Same.trans T4 q8
        refine ⟨_, rfl, _, rfl, _, rfl, _, rfl, by show 3 ≤ sizeLine; decide, fun A5 n5 => ⟨by show 3 ≤ sizeLine; decide, fun A6 n6 => ?_⟩⟩
        have T5 := Same.trans S8 (same_new (o := .tup [.str "to", y2, y3]) n5)
        have u6 := same_new (o := .tup [.str "to", y1, .ref A5]) n6
        have T6 := Same.trans T5 u6
        refine ⟨v, .ref A6, t, .two true a (.two true b c), rfl, TrAt.same T6 _ _ ht, hs, ⟨A6, y1, .ref A5, rfl, upd_same, KdAt.mono (tups_of T6) _ _ ha, ⟨A5, y2, y3, rfl, u6 _ _ upd_same, KdAt.mono (tups_of T6) _ _ hb, KdAt.mono (tups_of T6) _ _ hc⟩⟩, dd4 _ _ _ _ _ (by omega) (by omega) (by omega), fun H9 q9 => ?_⟩
        have S9 := Same.trans T6 q9
        rw [curry a b c hg]
        refine ⟨rfl, _, rfl, ?_⟩
        refine ite2 (fun z => by simp at z) (fun _ => ?_)
        refine ⟨_, rfl, by show 1 ≤ sizeLine; decide, fun A7 n7 => ?_⟩
        have T7 := Same.trans S9 (same_new (o := .tup [.str "one"]) n7)
        refine ⟨v, .ref A7, t, .one, rfl, TrAt.same T7 _ _ ht, hs, ⟨A7, rfl, upd_same⟩, by decide, fun H10 q10 => ⟨_, rfl, ?_⟩⟩
        have S10 := Same.trans T7 q10
        refine iteF ?_
        refine ⟨_, rfl, _, rfl, by show 1 ≤ sizeLine; decide, fun A8 n8 => ⟨by show 3 ≤ sizeLine; decide, fun A9 n9 => ?_⟩⟩
        have T8 := Same.trans S10 (same_new (o := .tup [.str "one"]) n8)
        have u9 := same_new (o := .tup [.str "to", y3, .ref A8]) n9
        have T9 := Same.trans T8 u9
        refine ⟨v, .ref A9, t, .two true c .one, rfl, TrAt.same T9 _ _ ht, hs, ⟨A9, y3, .ref A8, rfl, upd_same, KdAt.mono (tups_of T9) _ _ hc, ⟨A8, rfl, u9 _ _ upd_same⟩⟩, dd1 _ _ (by omega), fun H11 q11 => ⟨_, rfl, ?_⟩⟩
        have S11 := Same.trans T9 q11
        rw [to_one c t]
        refine iteF ?_
        refine ⟨_, rfl, _, rfl, _, rfl, by show 3 ≤ sizeLine; decide, fun A10 n10 => ?_⟩
        have T10 := Same.trans S11 (same_new (o := .tup [.str "to", y1, y2]) n10)
        refine ⟨v, .ref A10, t, .two true a b, rfl, TrAt.same T10 _ _ ht, hs, hg, ⟨A10, y1, y2, rfl, upd_same, KdAt.mono (tups_of T10) _ _ ha, KdAt.mono (tups_of T10) _ _ hb⟩, dd _ _ _ (by omega) (by omega), fun H12 q12 => ⟨_, rfl, ?_⟩⟩
        have S12 := Same.trans T10 q12
        refine iteT ?_
        refine ⟨_, rfl, _, rfl, _, rfl, by show 3 ≤ sizeLine; decide, fun A11 n11 => ?_⟩
        have T11 := Same.trans S12 (same_new (o := .tup [.str "both", y2, y3]) n11)
        refine ⟨v, .ref A11, t, .two false b c, rfl, TrAt.same T11 _ _ ht, hs, hg, ⟨A11, y2, y3, rfl, upd_same, KdAt.mono (tups_of T11) _ _ hb, KdAt.mono (tups_of T11) _ _ hc⟩, dd _ _ _ (by omega) (by omega), fun H13 q13 => ⟨_, rfl, ?_⟩⟩
        have S13 := Same.trans T11 q13
        refine iteT ?_
        exact ⟨_, rfl, _, rfl, v, y1, t, a, rfl, TrAt.same S13 _ _ ht, hs, hg, KdAt.mono (tups_of S13) _ _ ha, by omega, fun H14 q14 => k _ (Same.trans S13 q14)⟩
      | false =>
        have S0 : Same H H := Same.refl H
        have eB : frc (.two false a b) t = false := by
          rw [frc_both, ea, eb]
          rfl
        refine ⟨_, rfl, _, rfl, _, rfl, by show 3 ≤ sizeLine; decide, fun A1 n1 => ?_⟩
        have T1 := Same.trans S0 (same_new (o := .tup [.str "both", y1, y2]) n1)
        refine ⟨v, .ref A1, t, .two false a b, rfl, TrAt.same T1 _ _ ht, hs, ⟨A1, y1, y2, rfl, upd_same, KdAt.mono (tups_of T1) _ _ ha, KdAt.mono (tups_of T1) _ _ hb⟩, dd _ _ _ (by omega) (by omega), fun H1 q1 => ?_⟩
        have S1 := Same.trans T1 q1
        rw [eB]
        refine ⟨_, rfl, ?_⟩
        refine ⟨_, rfl, _, rfl, v, y1, t, a, rfl, TrAt.same S1 _ _ ht, hs, KdAt.mono (tups_of S1) _ _ ha, by omega, fun H2 q2 => ?_⟩
        have S2 := Same.trans S1 q2
        rw [ea]
        refine ⟨_, rfl, ?_⟩
        refine iteF ?_
        refine ⟨rfl, _, rfl, ?_⟩
        refine ite2 (fun z => absurd z (by decide +kernel)) (fun _ => ?_)
        refine ⟨_, rfl, _, rfl, _, rfl, by show 3 ≤ sizeLine; decide, fun A2 n2 => ?_⟩
        have T2 := Same.trans S2 (same_new (o := .tup [.str "to", y1, y2]) n2)
        refine ⟨v, .ref A2, t, .two true a b, rfl, TrAt.same T2 _ _ ht, hs, ⟨A2, y1, y2, rfl, upd_same, KdAt.mono (tups_of T2) _ _ ha, KdAt.mono (tups_of T2) _ _ hb⟩, dd _ _ _ (by omega) (by omega), fun H3 q3 => ?_⟩
        have S3 := Same.trans T2 q3
        rw [el]
        refine ⟨_, rfl, _, rfl, ?_⟩
        refine iteT ?_
        refine ⟨_, rfl, _, rfl, v, y1, t, a, rfl, TrAt.same S3 _ _ ht, hs, KdAt.mono (tups_of S3) _ _ ha, by omega, fun H4 q4 => ?_⟩
        have S4 := Same.trans S3 q4
        rw [ea]
        refine ⟨_, rfl, ?_⟩
        refine iteF ?_
        refine iteF ?_
        refine ⟨_, rfl, _, rfl, v, y2, t, b, rfl, TrAt.same S4 _ _ ht, hs, KdAt.mono (tups_of S4) _ _ hb, by omega, fun H5 q5 => ?_⟩
        have S5 := Same.trans S4 q5
        rw [eb]
        refine ⟨_, rfl, ?_⟩
        refine iteT ?_
        refine ⟨_, rfl, _, rfl, ?_⟩
        refine iteF ?_
        refine ⟨_, rfl, _, rfl, _, rfl, by show 3 ≤ sizeLine; decide, fun A3 n3 => ⟨_, rfl, by show 3 ≤ sizeLine; decide, fun A4 n4 => ?_⟩⟩
        have T3 := Same.trans S5 (same_new (o := .tup [.str "both", y1, y2]) n3)
        have u4 := same_new (o := .tup [.str "to", .ref A3, y3]) n4
        have T4 := Same.trans T3 u4
        refine ⟨v, .ref A4, t, .two true (.two false a b) c, rfl, TrAt.same T4 _ _ ht, hs, ⟨A4, .ref A3, y3, rfl, upd_same, ⟨A3, y1, y2, rfl, u4 _ _ upd_same, KdAt.mono (tups_of T4) _ _ ha, KdAt.mono (tups_of T4) _ _ hb⟩, KdAt.mono (tups_of T4) _ _ hc⟩, dd3 _ _ _ _ _ (by omega) (by omega) (by omega), fun H6 q6 => ?_⟩
        have S6 := Same.trans T4 q6
        refine ⟨_, rfl, _, rfl, _, rfl, _, rfl, by show 3 ≤ sizeLine; decide, fun A5 n5 => ⟨by show 3 ≤ sizeLine; decide, fun A6 n6 => ?_⟩⟩
        have T5 := Same.trans S6 (same_new (o := .tup [.str "to", y2, y3]) n5)
        have u6 := same_new (o := .tup [.str "to", y1, .ref A5]) n6
        have T6 := Same.trans T5 u6
        refine ⟨v, .ref A6, t, .two true a (.two true b c), rfl, TrAt.same T6 _ _ ht, hs, ⟨A6, y1, .ref A5, rfl, upd_same, KdAt.mono (tups_of T6) _ _ ha, ⟨A5, y2, y3, rfl, u6 _ _ upd_same, KdAt.mono (tups_of T6) _ _ hb, KdAt.mono (tups_of T6) _ _ hc⟩⟩, dd4 _ _ _ _ _ (by omega) (by omega) (by omega), fun H7 q7 => ?_⟩
        have S7 := Same.trans T6 q7
        rw [curry a b c hg]
        refine ⟨rfl, _, rfl, ?_⟩
        refine ite2 (fun z => by simp at z) (fun _ => ?_)
        refine ⟨_, rfl, by show 1 ≤ sizeLine; decide, fun A7 n7 => ?_⟩
        have T7 := Same.trans S7 (same_new (o := .tup [.str "one"]) n7)
        refine ⟨v, .ref A7, t, .one, rfl, TrAt.same T7 _ _ ht, hs, ⟨A7, rfl, upd_same⟩, by decide, fun H8 q8 => ⟨_, rfl, ?_⟩⟩
        have S8 := Same.trans T7 q8
        refine iteF ?_
        refine ⟨_, rfl, _, rfl, by show 1 ≤ sizeLine; decide, fun A8 n8 => ⟨by show 3 ≤ sizeLine; decide, fun A9 n9 => ?_⟩⟩
        have T8 := Same.trans S8 (same_new (o := .tup [.str "one"]) n8)
        have u9 := same_new (o := .tup [.str "to", y3, .ref A8]) n9
        have T9 := Same.trans T8 u9
        refine ⟨v, .ref A9, t, .two true c .one, rfl, TrAt.same T9 _ _ ht, hs, ⟨A9, y3, .ref A8, rfl, upd_same, KdAt.mono (tups_of T9) _ _ hc, ⟨A8, rfl, u9 _ _ upd_same⟩⟩, dd1 _ _ (by omega), fun H9 q9 => ⟨_, rfl, ?_⟩⟩
        have S9 := Same.trans T9 q9
        rw [to_one c t]
        refine iteF ?_
        refine ⟨_, rfl, _, rfl, _, rfl, by show 3 ≤ sizeLine; decide, fun A10 n10 => ?_⟩
        have T10 := Same.trans S9 (same_new (o := .tup [.str "to", y1, y2]) n10)
        refine ⟨v, .ref A10, t, .two true a b, rfl, TrAt.same T10 _ _ ht, hs, hg, ⟨A10, y1, y2, rfl, upd_same, KdAt.mono (tups_of T10) _ _ ha, KdAt.mono (tups_of T10) _ _ hb⟩, dd _ _ _ (by omega) (by omega), fun H10 q10 => ⟨_, rfl, ?_⟩⟩
        have S10 := Same.trans T10 q10
        refine iteT ?_
        refine ⟨_, rfl, _, rfl, _, rfl, by show 3 ≤ sizeLine; decide, fun A11 n11 => ?_⟩
        have T11 := Same.trans S10 (same_new (o := .tup [.str "both", y2, y3]) n11)
        refine ⟨v, .ref A11, t, .two false b c, rfl, TrAt.same T11 _ _ ht, hs, hg, ⟨A11, y2, y3, rfl, upd_same, KdAt.mono (tups_of T11) _ _ hb, KdAt.mono (tups_of T11) _ _ hc⟩, dd _ _ _ (by omega) (by omega), fun H11 q11 => ⟨_, rfl, ?_⟩⟩
        have S11 := Same.trans T11 q11
        refine iteT ?_
        exact ⟨_, rfl, _, rfl, v, y1, t, a, rfl, TrAt.same S11 _ _ ht, hs, hg, KdAt.mono (tups_of S11) _ _ ha, by omega, fun H12 q12 => k _ (Same.trans S11 q12)⟩
    | false =>
      cases ea : frc a t with
      | true =>
        have el : frc (.two true a b) t = false := by
          cases e : frc (.two true a b) t with
          | false => rfl
          | true =>
            have := (frc_to a b t).mp e t (all_self t) ea
            rw [eb] at this
            cases this
        have S0 : Same H H := Same.refl H
        have eB : frc (.two false a b) t = false := by
          rw [frc_both, ea, eb]
          rfl
        refine ⟨_, rfl, _, rfl, _, rfl, by show 3 ≤ sizeLine; decide, fun A1 n1 => ?_⟩
        have T1 := Same.trans S0 (same_new (o := .tup [.str "both", y1, y2]) n1)
        refine ⟨v, .ref A1, t, .two false a b, rfl, TrAt.same T1 _ _ ht, hs, ⟨A1, y1, y2, rfl, upd_same, KdAt.mono (tups_of T1) _ _ ha, KdAt.mono (tups_of T1) _ _ hb⟩, dd _ _ _ (by omega) (by omega), fun H1 q1 => ?_⟩
        have S1 := Same.trans T1 q1
        rw [eB]
        refine ⟨_, rfl, ?_⟩
        refine ⟨_, rfl, _, rfl, v, y1, t, a, rfl, TrAt.same S1 _ _ ht, hs, KdAt.mono (tups_of S1) _ _ ha, by omega, fun H2 q2 => ?_⟩
        have S2 := Same.trans S1 q2
        rw [ea]
        refine ⟨_, rfl, ?_⟩
        refine iteT ?_
        refine ⟨_, rfl, _, rfl, v, y2, t, b, rfl, TrAt.same S2 _ _ ht, hs, KdAt.mono (tups_of S2) _ _ hb, by omega, fun H3 q3 => ?_⟩
        have S3 := Same.trans S2 q3
        rw [eb]
        refine ⟨rfl, _, rfl, ?_⟩
        refine ite2 (fun z => absurd z (by decide +kernel)) (fun _ => ?_)
        refine ⟨_, rfl, _, rfl, _, rfl, by show 3 ≤ sizeLine; decide, fun A2 n2 => ?_⟩
        have T2 := Same.trans S3 (same_new (o := .tup [.str "to", y1, y2]) n2)
        refine ⟨v, .ref A2, t, .two true a b, rfl, TrAt.same T2 _ _ ht, hs, ⟨A2, y1, y2, rfl, upd_same, KdAt.mono (tups_of T2) _ _ ha, KdAt.mono (tups_of T2) _ _ hb⟩, dd _ _ _ (by omega) (by omega), fun H4 q4 => ?_⟩
        have S4 := Same.trans T2 q4
        rw [el]
        refine ⟨_, rfl, _, rfl, ?_⟩
        refine iteF ?_
        refine iteF ?_
        refine ⟨_, rfl, _, rfl, v, y2, t, b, rfl, TrAt.same S4 _ _ ht, hs, KdAt.mono (tups_of S4) _ _ hb, by omega, fun H5 q5 => ?_⟩
        have S5 := Same.trans S4 q5
        rw [eb]
        refine ⟨_, rfl, ?_⟩
        refine iteF ?_
        refine iteF ?_
        refine ⟨_, rfl, _, rfl, _, rfl, by show 3 ≤ sizeLine; decide, fun A3 n3 => ⟨_, rfl, by show 3 ≤ sizeLine; decide, fun A4 n4 => ?_⟩⟩
        have T3 := Same.trans S5 (same_new (o := .tup [.str "both", y1, y2]) n3)
        have u4 := same_new (o := .tup [.str "to", .ref A3, y3]) n4
        have T4 := Same.trans T3 u4
        refine ⟨v, .ref A4, t, .two true (.two false a b) c, rfl, TrAt.same T4 _ _ ht, hs, ⟨A4, .ref A3, y3, rfl, upd_same, ⟨A3, y1, y2, rfl, u4 _ _ upd_same, KdAt.mono (tups_of T4) _ _ ha, KdAt.mono (tups_of T4) _ _ hb⟩, KdAt.mono (tups_of T4) _ _ hc⟩, dd3 _ _ _ _ _ (by omega) (by omega) (by omega), fun H6 q6 => ?_⟩
        have S6 := Same.trans T4 q6
        refine ⟨_, rfl, _, rfl, _, rfl, _, rfl, by show 3 ≤ sizeLine; decide, fun A5 n5 => ⟨by show 3 ≤ sizeLine; decide, fun A6 n6 => ?_⟩⟩
        have T5 := Same.trans S6 (same_new (o := .tup [.str "to", y2, y3]) n5)
        have u6 := same_new (o := .tup [.str "to", y1, .ref A5]) n6
        have T6 := Same.trans T5 u6
        refine ⟨v, .ref A6, t, .two true a (.two true b c), rfl, TrAt.same T6 _ _ ht, hs, ⟨A6, y1, .ref A5, rfl, upd_same, KdAt.mono (tups_of T6) _ _ ha, ⟨A5, y2, y3, rfl, u6 _ _ upd_same, KdAt.mono (tups_of T6) _ _ hb, KdAt.mono (tups_of T6) _ _ hc⟩⟩, dd4 _ _ _ _ _ (by omega) (by omega) (by omega), fun H7 q7 => ?_⟩
        have S7 := Same.trans T6 q7
        rw [curry a b c hg]
        refine ⟨rfl, _, rfl, ?_⟩
        refine ite2 (fun z => by simp at z) (fun _ => ?_)
        refine ⟨_, rfl, by show 1 ≤ sizeLine; decide, fun A7 n7 => ?_⟩
        have T7 := Same.trans S7 (same_new (o := .tup [.str "one"]) n7)
        refine ⟨v, .ref A7, t, .one, rfl, TrAt.same T7 _ _ ht, hs, ⟨A7, rfl, upd_same⟩, by decide, fun H8 q8 => ⟨_, rfl, ?_⟩⟩
        have S8 := Same.trans T7 q8
        refine iteF ?_
        refine ⟨_, rfl, _, rfl, by show 1 ≤ sizeLine; decide, fun A8 n8 => ⟨by show 3 ≤ sizeLine; decide, fun A9 n9 => ?_⟩⟩
        have T8 := Same.trans S8 (same_new (o := .tup [.str "one"]) n8)
        have u9 := same_new (o := .tup [.str "to", y3, .ref A8]) n9
        have T9 := Same.trans T8 u9
        refine ⟨v, .ref A9, t, .two true c .one, rfl, TrAt.same T9 _ _ ht, hs, ⟨A9, y3, .ref A8, rfl, upd_same, KdAt.mono (tups_of T9) _ _ hc, ⟨A8, rfl, u9 _ _ upd_same⟩⟩, dd1 _ _ (by omega), fun H9 q9 => ⟨_, rfl, ?_⟩⟩
        have S9 := Same.trans T9 q9
        rw [to_one c t]
        refine iteF ?_
        refine ⟨_, rfl, _, rfl, _, rfl, by show 3 ≤ sizeLine; decide, fun A10 n10 => ?_⟩
        have T10 := Same.trans S9 (same_new (o := .tup [.str "to", y1, y2]) n10)
        refine ⟨v, .ref A10, t, .two true a b, rfl, TrAt.same T10 _ _ ht, hs, hg, ⟨A10, y1, y2, rfl, upd_same, KdAt.mono (tups_of T10) _ _ ha, KdAt.mono (tups_of T10) _ _ hb⟩, dd _ _ _ (by omega) (by omega), fun H10 q10 => ⟨_, rfl, ?_⟩⟩
        have S10 := Same.trans T10 q10
        refine iteT ?_
        refine ⟨_, rfl, _, rfl, _, rfl, by show 3 ≤ sizeLine; decide, fun A11 n11 => ?_⟩
        have T11 := Same.trans S10 (same_new (o := .tup [.str "both", y2, y3]) n11)
        refine ⟨v, .ref A11, t, .two false b c, rfl, TrAt.same T11 _ _ ht, hs, hg, ⟨A11, y2, y3, rfl, upd_same, KdAt.mono (tups_of T11) _ _ hb, KdAt.mono (tups_of T11) _ _ hc⟩, dd _ _ _ (by omega) (by omega), fun H11 q11 => ⟨_, rfl, ?_⟩⟩
        have S11 := Same.trans T11 q11
        refine iteT ?_
        exact ⟨_, rfl, _, rfl, v, y1, t, a, rfl, TrAt.same S11 _ _ ht, hs, hg, KdAt.mono (tups_of S11) _ _ ha, by omega, fun H12 q12 => k _ (Same.trans S11 q12)⟩
      | false =>
        cases el : frc (.two true a b) t with
        | true =>
          have S0 : Same H H := Same.refl H
          have eB : frc (.two false a b) t = false := by
            rw [frc_both, ea, eb]
            rfl
          refine ⟨_, rfl, _, rfl, _, rfl, by show 3 ≤ sizeLine; decide, fun A1 n1 => ?_⟩
          have T1 := Same.trans S0 (same_new (o := .tup [.str "both", y1, y2]) n1)
          refine ⟨v, .ref A1, t, .two false a b, rfl, TrAt.same T1 _ _ ht, hs, ⟨A1, y1, y2, rfl, upd_same, KdAt.mono (tups_of T1) _ _ ha, KdAt.mono (tups_of T1) _ _ hb⟩, dd _ _ _ (by omega) (by omega), fun H1 q1 => ?_⟩
          have S1 := Same.trans T1 q1
          rw [eB]
          refine ⟨_, rfl, ?_⟩
          refine ⟨_, rfl, _, rfl, v, y1, t, a, rfl, TrAt.same S1 _ _ ht, hs, KdAt.mono (tups_of S1) _ _ ha, by omega, fun H2 q2 => ?_⟩
          have S2 := Same.trans S1 q2
          rw [ea]
          refine ⟨_, rfl, ?_⟩
          refine iteF ?_
          refine ⟨rfl, _, rfl, ?_⟩
          refine ite2 (fun z => absurd z (by decide +kernel)) (fun _ => ?_)
          refine ⟨_, rfl, _, rfl, _, rfl, by show 3 ≤ sizeLine; decide, fun A2 n2 => ?_⟩
          have T2 := Same.trans S2 (same_new (o := .tup [.str "to", y1, y2]) n2)
          refine ⟨v, .ref A2, t, .two true a b, rfl, TrAt.same T2 _ _ ht, hs, ⟨A2, y1, y2, rfl, upd_same, KdAt.mono (tups_of T2) _ _ ha, KdAt.mono (tups_of T2) _ _ hb⟩, dd _ _ _ (by omega) (by omega), fun H3 q3 => ?_⟩
          have S3 := Same.trans T2 q3
          rw [el]
          refine ⟨_, rfl, _, rfl, ?_⟩
          refine iteT ?_
          refine ⟨_, rfl, _, rfl, v, y1, t, a, rfl, TrAt.same S3 _ _ ht, hs, KdAt.mono (tups_of S3) _ _ ha, by omega, fun H4 q4 => ?_⟩
          have S4 := Same.trans S3 q4
          rw [ea]
          refine ⟨_, rfl, ?_⟩
          refine iteF ?_
          refine iteF ?_
          refine ⟨_, rfl, _, rfl, v, y2, t, b, rfl, TrAt.same S4 _ _ ht, hs, KdAt.mono (tups_of S4) _ _ hb, by omega, fun H5 q5 => ?_⟩
          have S5 := Same.trans S4 q5
          rw [eb]
          refine ⟨_, rfl, ?_⟩
          refine iteF ?_
          refine iteF ?_
          refine ⟨_, rfl, _, rfl, _, rfl, by show 3 ≤ sizeLine; decide, fun A3 n3 => ⟨_, rfl, by show 3 ≤ sizeLine; decide, fun A4 n4 => ?_⟩⟩
          have T3 := Same.trans S5 (same_new (o := .tup [.str "both", y1, y2]) n3)
          have u4 := same_new (o := .tup [.str "to", .ref A3, y3]) n4
          have T4 := Same.trans T3 u4
          refine ⟨v, .ref A4, t, .two true (.two false a b) c, rfl, TrAt.same T4 _ _ ht, hs, ⟨A4, .ref A3, y3, rfl, upd_same, ⟨A3, y1, y2, rfl, u4 _ _ upd_same, KdAt.mono (tups_of T4) _ _ ha, KdAt.mono (tups_of T4) _ _ hb⟩, KdAt.mono (tups_of T4) _ _ hc⟩, dd3 _ _ _ _ _ (by omega) (by omega) (by omega), fun H6 q6 => ?_⟩
          have S6 := Same.trans T4 q6
          refine ⟨_, rfl, _, rfl, _, rfl, _, rfl, by show 3 ≤ sizeLine; decide, fun A5 n5 => ⟨by show 3 ≤ sizeLine; decide, fun A6 n6 => ?_⟩⟩
          have T5 := Same.trans S6 (same_new (o := .tup [.str "to", y2, y3]) n5)
          have u6 := same_new (o := .tup [.str "to", y1, .ref A5]) n6
          have T6 := Same.trans T5 u6
          refine ⟨v, .ref A6, t, .two true a (.two true b c), rfl, TrAt.same T6 _ _ ht, hs, ⟨A6, y1, .ref A5, rfl, upd_same, KdAt.mono (tups_of T6) _ _ ha, ⟨A5, y2, y3, rfl, u6 _ _ upd_same, KdAt.mono (tups_of T6) _ _ hb, KdAt.mono (tups_of T6) _ _ hc⟩⟩, dd4 _ _ _ _ _ (by omega) (by omega) (by omega), fun H7 q7 => ?_⟩
          have S7 := Same.trans T6 q7
          rw [curry a b c hg]
          refine ⟨rfl, _, rfl, ?_⟩
          refine ite2 (fun z => by simp at z) (fun _ => ?_)
          refine ⟨_, rfl, by show 1 ≤ sizeLine; decide, fun A7 n7 => ?_⟩
          have T7 := Same.trans S7 (same_new (o := .tup [.str "one"]) n7)
          refine ⟨v, .ref A7, t, .one, rfl, TrAt.same T7 _ _ ht, hs, ⟨A7, rfl, upd_same⟩, by decide, fun H8 q8 => ⟨_, rfl, ?_⟩⟩
          have S8 := Same.trans T7 q8
          refine iteF ?_
          refine ⟨_, rfl, _, rfl, by show 1 ≤ sizeLine; decide, fun A8 n8 => ⟨by show 3 ≤ sizeLine; decide, fun A9 n9 => ?_⟩⟩
          have T8 := Same.trans S8 (same_new (o := .tup [.str "one"]) n8)
          have u9 := same_new (o := .tup [.str "to", y3, .ref A8]) n9
          have T9 := Same.trans T8 u9
          refine ⟨v, .ref A9, t, .two true c .one, rfl, TrAt.same T9 _ _ ht, hs, ⟨A9, y3, .ref A8, rfl, upd_same, KdAt.mono (tups_of T9) _ _ hc, ⟨A8, rfl, u9 _ _ upd_same⟩⟩, dd1 _ _ (by omega), fun H9 q9 => ⟨_, rfl, ?_⟩⟩
          have S9 := Same.trans T9 q9
          rw [to_one c t]
          refine iteF ?_
          refine ⟨_, rfl, _, rfl, _, rfl, by show 3 ≤ sizeLine; decide, fun A10 n10 => ?_⟩
          have T10 := Same.trans S9 (same_new (o := .tup [.str "to", y1, y2]) n10)
          refine ⟨v, .ref A10, t, .two true a b, rfl, TrAt.same T10 _ _ ht, hs, hg, ⟨A10, y1, y2, rfl, upd_same, KdAt.mono (tups_of T10) _ _ ha, KdAt.mono (tups_of T10) _ _ hb⟩, dd _ _ _ (by omega) (by omega), fun H10 q10 => ⟨_, rfl, ?_⟩⟩
          have S10 := Same.trans T10 q10
          refine iteT ?_
          refine ⟨_, rfl, _, rfl, _, rfl, by show 3 ≤ sizeLine; decide, fun A11 n11 => ?_⟩
          have T11 := Same.trans S10 (same_new (o := .tup [.str "both", y2, y3]) n11)
          refine ⟨v, .ref A11, t, .two false b c, rfl, TrAt.same T11 _ _ ht, hs, hg, ⟨A11, y2, y3, rfl, upd_same, KdAt.mono (tups_of T11) _ _ hb, KdAt.mono (tups_of T11) _ _ hc⟩, dd _ _ _ (by omega) (by omega), fun H11 q11 => ⟨_, rfl, ?_⟩⟩
          have S11 := Same.trans T11 q11
          refine iteT ?_
          exact ⟨_, rfl, _, rfl, v, y1, t, a, rfl, TrAt.same S11 _ _ ht, hs, hg, KdAt.mono (tups_of S11) _ _ ha, by omega, fun H12 q12 => k _ (Same.trans S11 q12)⟩
        | false =>
          have S0 : Same H H := Same.refl H
          have eB : frc (.two false a b) t = false := by
            rw [frc_both, ea, eb]
            rfl
          refine ⟨_, rfl, _, rfl, _, rfl, by show 3 ≤ sizeLine; decide, fun A1 n1 => ?_⟩
          have T1 := Same.trans S0 (same_new (o := .tup [.str "both", y1, y2]) n1)
          refine ⟨v, .ref A1, t, .two false a b, rfl, TrAt.same T1 _ _ ht, hs, ⟨A1, y1, y2, rfl, upd_same, KdAt.mono (tups_of T1) _ _ ha, KdAt.mono (tups_of T1) _ _ hb⟩, dd _ _ _ (by omega) (by omega), fun H1 q1 => ?_⟩
          have S1 := Same.trans T1 q1
          rw [eB]
          refine ⟨_, rfl, ?_⟩
          refine ⟨_, rfl, _, rfl, v, y1, t, a, rfl, TrAt.same S1 _ _ ht, hs, KdAt.mono (tups_of S1) _ _ ha, by omega, fun H2 q2 => ?_⟩
          have S2 := Same.trans S1 q2
          rw [ea]
          refine ⟨_, rfl, ?_⟩
          refine iteF ?_
          refine ⟨rfl, _, rfl, ?_⟩
          refine ite2 (fun z => absurd z (by decide +kernel)) (fun _ => ?_)
          refine ⟨_, rfl, _, rfl, _, rfl, by show 3 ≤ sizeLine; decide, fun A2 n2 => ?_⟩
          have T2 := Same.trans S2 (same_new (o := .tup [.str "to", y1, y2]) n2)
          refine ⟨v, .ref A2, t, .two true a b, rfl, TrAt.same T2 _ _ ht, hs, ⟨A2, y1, y2, rfl, upd_same, KdAt.mono (tups_of T2) _ _ ha, KdAt.mono (tups_of T2) _ _ hb⟩, dd _ _ _ (by omega) (by omega), fun H3 q3 => ?_⟩
          have S3 := Same.trans T2 q3
          rw [el]
          refine ⟨_, rfl, _, rfl, ?_⟩
          refine iteF ?_
          refine iteF ?_
          refine ⟨_, rfl, _, rfl, v, y2, t, b, rfl, TrAt.same S3 _ _ ht, hs, KdAt.mono (tups_of S3) _ _ hb, by omega, fun H4 q4 => ?_⟩
          have S4 := Same.trans S3 q4
          rw [eb]
          refine ⟨_, rfl, ?_⟩
          refine iteF ?_
          refine iteF ?_
          refine ⟨_, rfl, _, rfl, _, rfl, by show 3 ≤ sizeLine; decide, fun A3 n3 => ⟨_, rfl, by show 3 ≤ sizeLine; decide, fun A4 n4 => ?_⟩⟩
          have T3 := Same.trans S4 (same_new (o := .tup [.str "both", y1, y2]) n3)
          have u4 := same_new (o := .tup [.str "to", .ref A3, y3]) n4
          have T4 := Same.trans T3 u4
          refine ⟨v, .ref A4, t, .two true (.two false a b) c, rfl, TrAt.same T4 _ _ ht, hs, ⟨A4, .ref A3, y3, rfl, upd_same, ⟨A3, y1, y2, rfl, u4 _ _ upd_same, KdAt.mono (tups_of T4) _ _ ha, KdAt.mono (tups_of T4) _ _ hb⟩, KdAt.mono (tups_of T4) _ _ hc⟩, dd3 _ _ _ _ _ (by omega) (by omega) (by omega), fun H5 q5 => ?_⟩
          have S5 := Same.trans T4 q5
          refine ⟨_, rfl, _, rfl, _, rfl, _, rfl, by show 3 ≤ sizeLine; decide, fun A5 n5 => ⟨by show 3 ≤ sizeLine; decide, fun A6 n6 => ?_⟩⟩
          have T5 := Same.trans S5 (same_new (o := .tup [.str "to", y2, y3]) n5)
          have u6 := same_new (o := .tup [.str "to", y1, .ref A5]) n6
          have T6 := Same.trans T5 u6
          refine ⟨v, .ref A6, t, .two true a (.two true b c), rfl, TrAt.same T6 _ _ ht, hs, ⟨A6, y1, .ref A5, rfl, upd_same, KdAt.mono (tups_of T6) _ _ ha, ⟨A5, y2, y3, rfl, u6 _ _ upd_same, KdAt.mono (tups_of T6) _ _ hb, KdAt.mono (tups_of T6) _ _ hc⟩⟩, dd4 _ _ _ _ _ (by omega) (by omega) (by omega), fun H6 q6 => ?_⟩
          have S6 := Same.trans T6 q6
          rw [curry a b c hg]
          refine ⟨rfl, _, rfl, ?_⟩
          refine ite2 (fun z => by simp at z) (fun _ => ?_)
          refine ⟨_, rfl, by show 1 ≤ sizeLine; decide, fun A7 n7 => ?_⟩
          have T7 := Same.trans S6 (same_new (o := .tup [.str "one"]) n7)
          refine ⟨v, .ref A7, t, .one, rfl, TrAt.same T7 _ _ ht, hs, ⟨A7, rfl, upd_same⟩, by decide, fun H7 q7 => ⟨_, rfl, ?_⟩⟩
          have S7 := Same.trans T7 q7
          refine iteF ?_
          refine ⟨_, rfl, _, rfl, by show 1 ≤ sizeLine; decide, fun A8 n8 => ⟨by show 3 ≤ sizeLine; decide, fun A9 n9 => ?_⟩⟩
          have T8 := Same.trans S7 (same_new (o := .tup [.str "one"]) n8)
          have u9 := same_new (o := .tup [.str "to", y3, .ref A8]) n9
          have T9 := Same.trans T8 u9
          refine ⟨v, .ref A9, t, .two true c .one, rfl, TrAt.same T9 _ _ ht, hs, ⟨A9, y3, .ref A8, rfl, upd_same, KdAt.mono (tups_of T9) _ _ hc, ⟨A8, rfl, u9 _ _ upd_same⟩⟩, dd1 _ _ (by omega), fun H8 q8 => ⟨_, rfl, ?_⟩⟩
          have S8 := Same.trans T9 q8
          rw [to_one c t]
          refine iteF ?_
          refine ⟨_, rfl, _, rfl, _, rfl, by show 3 ≤ sizeLine; decide, fun A10 n10 => ?_⟩
          have T10 := Same.trans S8 (same_new (o := .tup [.str "to", y1, y2]) n10)
          refine ⟨v, .ref A10, t, .two true a b, rfl, TrAt.same T10 _ _ ht, hs, hg, ⟨A10, y1, y2, rfl, upd_same, KdAt.mono (tups_of T10) _ _ ha, KdAt.mono (tups_of T10) _ _ hb⟩, dd _ _ _ (by omega) (by omega), fun H9 q9 => ⟨_, rfl, ?_⟩⟩
          have S9 := Same.trans T10 q9
          refine iteT ?_
          refine ⟨_, rfl, _, rfl, _, rfl, by show 3 ≤ sizeLine; decide, fun A11 n11 => ?_⟩
          have T11 := Same.trans S9 (same_new (o := .tup [.str "both", y2, y3]) n11)
          refine ⟨v, .ref A11, t, .two false b c, rfl, TrAt.same T11 _ _ ht, hs, hg, ⟨A11, y2, y3, rfl, upd_same, KdAt.mono (tups_of T11) _ _ hb, KdAt.mono (tups_of T11) _ _ hc⟩, dd _ _ _ (by omega) (by omega), fun H10 q10 => ⟨_, rfl, ?_⟩⟩
          have S10 := Same.trans T11 q10
          refine iteT ?_
          exact ⟨_, rfl, _, rfl, v, y1, t, a, rfl, TrAt.same S10 _ _ ht, hs, hg, KdAt.mono (tups_of S10) _ _ ha, by omega, fun H11 q11 => k _ (Same.trans S10 q11)⟩
end
def spLaw (K : PySem.W.Frag) : Sp := fun vs H Q _ => ∃ (a : Addr) (ns : List Int), vs = [.ref a] ∧ SqL K H a (ns.map V.int) ∧ ns.length ≤ 63 ∧ ∀ H', Q (.bl true) H'
section
variable {P : Program} {w : World} {K : PySem.W.Frag} {mg : Str → Option Value} {base : Heap}
abbrev nLaw : List Str := ["_law_script", "_law_k", "_law_pool_here", "_law_marks_here", "_law_tree_here", "_law_turn", "_law_some", "_law_j"]
theorem scLaw : FnScope nLaw ["_law_script"] (defScope sLaw) := ⟨rfl, rfl, rfl, by decide +kernel, rfl, by decide +kernel, by decide +kernel⟩
theorem ok_law {f f1 f2 f3 f4 f5 f6 : Addr} {fd fd1 fd2 fd3 fd4 fd5 fd6 : FuncData} (F : Fun K "law" "law" sLaw f fd)
    (GP : FnOk P w K mg base CX0 1 f1 fd1 ["_law_script", "_law_k"] (spPool K)) (kP : PySem.W.keepIn K (.ref f1) = true) (bP : Binds K fd1 ["_law_script", "_law_k"] []) (gP : mg "_law_pool" = some (.ref f1))
    (GT : FnOk P w K mg base CX0 1 f2 fd2 ["_law_pool_here", "_law_many"] spTake) (kT : PySem.W.keepIn K (.ref f2) = true) (bT : Binds K fd2 ["_law_pool_here", "_law_many"] []) (gT : mg "_law_take" = some (.ref f2))
    (GM : FnOk P w K mg base CX0 2 f3 fd3 ["_law_pool_here"] spMarks) (kM : PySem.W.keepIn K (.ref f3) = true) (bM : Binds K fd3 ["_law_pool_here"] []) (gM : mg "_law_marks" = some (.ref f3))
    (GK : FnOk P w K mg base CX0 8 f4 fd4 ["_law_pool_here", "_law_leaves", "_law_marks_here"] (spKind 6)) (kK : PySem.W.keepIn K (.ref f4) = true) (bK : Binds K fd4 ["_law_pool_here", "_law_leaves", "_law_marks_here"] []) (gK : mg "_law_kind" = some (.ref f4))
    (GR : FnOk P w K mg base CX0 6 f5 fd5 ["_law_pool_here", "_law_marks_here", "_law_had", "_law_room"] (spTree 4)) (kR : PySem.W.keepIn K (.ref f5) = true) (bR : Binds K fd5 ["_law_pool_here", "_law_marks_here", "_law_had", "_law_room"] []) (gR : mg "_law_tree" = some (.ref f5))
    (GI : FnOk P w K mg base CX0 63 f6 fd6 ["_law_tree_here", "_law_one", "_law_other", "_law_third"] spRight) (kI : PySem.W.keepIn K (.ref f6) = true) (bI : Binds K fd6 ["_law_tree_here", "_law_one", "_law_other", "_law_third"] []) (gI : mg "_law_right" = some (.ref f6))
    (mLen : mg "len" = none) (mMax : mg "max" = none) (mMin : mg "min" = none) (mRange : mg "range" = none) : FnOk P w K mg base CX0 64 f fd ["_law_script"] (spLaw K) := by
  refine F.ok scLaw (fun vs H Q E h => ?_) (fun cdv A outer s H vs Q E hr h => ?_)
  · obtain ⟨a, ns, rfl, _⟩ := h
    rfl
  · obtain ⟨a, ns, rfl, hS, hl, k⟩ := h
    have hr1 : Room 1 _ := hr.mono (by omega)
    have hr2 : Room 2 _ := hr.mono (by omega)
    have hr6 : Room 6 _ := hr.mono (by omega)
    have hr8 : Room 8 _ := hr.mono (by omega)
    refine ⟨_, pss_cons (ps_for PassesOwn.never rfl (pi_range1 (by rfl) mRange (pa_cons (pe_callB (call_max2 (by rfl)) (by rfl) mMax (by decide +kernel) (pa_cons pe_int (pa_cons (pe_callB (call_min2 (by rfl)) (by rfl) mMin (by decide +kernel) (pa_cons (pe_callB call_len_seq (by rfl) mLen PySem.boot_len (pa_cons (pv 0) pa_nil)) (pa_cons pe_int pa_nil))) pa_nil))) pa_nil)) (pg_name (i := 1) scLaw.nd rfl (Or.inl rfl))
        (pss_cons (ps_set (i := 2) scLaw.nd rfl (Or.inr rfl) (pe_call GP hr1 (by rfl) gP kP bP .nil pass0 (pa_cons (pv 0) (pa_cons (pv 1) pa_nil))))
        (pss_cons (ps_set (i := 3) scLaw.nd rfl (Or.inr rfl) (pe_call GM hr2 (by rfl) gM kM bM .nil pass0 (pa_cons (pv 2) pa_nil)))
        (pss_cons (ps_set (i := 4) scLaw.nd rfl (Or.inl rfl) (pe_call GR hr6 (by rfl) gR kR bR .nil pass0 (pa_cons (pv 2) (pa_cons (pv 3) (pa_cons (pe_lst pa_nil) (pa_cons pe_int pa_nil))))))
        (pss_one (ps_for PassesOwn.never rfl (pi_range1 (by rfl) mRange (pa_cons pe_int pa_nil)) (pg_name (i := 5) scLaw.nd rfl (Or.inl rfl))
          (pss_cons (ps_setLc (i := 6) (own := [("_law_j", 7)]) (g := gName 7) (tt := tYes) (by rfl) scLaw.nd rfl rfl (sw_true rfl rfl rfl (by decide +kernel)) (pi_range1 (by rfl) mRange (pa_cons pe_int pa_nil)) (blkOk_by (N := nLaw) (sc := defScope sLaw) (by decide +kernel)) (fun _ _ _ _ _ => pg_name (i := 7) scLaw.nd rfl (Or.inl rfl)) (fun _ _ _ _ _ => pts_nil)
            (fun _ _ _ _ _ => pe_call GK hr8 (by rfl) gK kK bK .nil pass0 (pa_cons (pv 2) (pa_cons (pe_op op_add pe_int (pe_call GT hr1 (by rfl) gT kT bT .nil pass0 (pa_cons (pv 2) (pa_cons pe_int pa_nil)))) (pa_cons (pv 3) pa_nil)))))
          (pss_one (ps_if (pt_not (pt_val (pe_call GI hr (by rfl) gI kI bI .nil pass0 (pa_cons (pv 4) (pa_cons (pe_ix ix_list (pv 6) pe_int (fun _ _ => rfl)) (pa_cons (pe_ix ix_list (pv 6) pe_int (fun _ _ => rfl)) (pa_cons (pe_ix ix_list (pv 6) pe_int (fun _ _ => rfl)) pa_nil))))))) (pss_one (ps_ret pe_bl)) pss_nil)))))))))
      (pss_one (ps_ret pe_bl)), ?_⟩
    refine ⟨_, rfl, a, _, rfl, .inl hS, _, _, rfl, _, _, rfl, ?_⟩
    rw [List.length_map]
    obtain ⟨j, hj, hj1, hj2⟩ : ∃ j : Int, (if (if (12 : Int) < (ns.length : Int) then 12 else (ns.length : Int)) > 1 then (if (12 : Int) < (ns.length : Int) then 12 else (ns.length : Int)) else 1) = j ∧ 1 ≤ j ∧ j ≤ 12 := ⟨_, rfl, by split <;> (try split) <;> omega, by split <;> (try split) <;> omega⟩
    rw [hj]
    refine ⟨j, rfl, by omega, by omega, for_range (lo := 0) (n := j.toNat) (fun i σ H2 => ∃ (i1 i2 i3 i4 i5 i6 : Option V), σ = [some (.ref a), i1, i2, i3, i4, i5, i6, none] ∧ Same H H2) ⟨none, none, none, none, none, none, rfl, Same.refl H⟩ ?_ ?_⟩
    · rintro i σ H2 hi ⟨i1, i2, i3, i4, i5, i6, rfl, hS2⟩
      refine ⟨_, rfl, _, rfl, a, ns, i, by rw [Int.zero_add]; rfl, hS2.seq hS, hl, by omega, fun p H3 hp0 hp e3 => ?_⟩
      have k3 : Kept p H2 H3 := kept_take e3
      refine ⟨_, rfl, p, rfl, hp, fun M ms H4 hM m1 m2 hp4 k4 nMp => ?_⟩
      refine ⟨_, rfl, _, rfl, by show 0 ≤ sizeLine; decide, fun L hL => ?_⟩
      have sL := same_new (o := .lst []) hL
      refine ⟨p, M, L, 3, ms, [], rfl, hp4.same sL, by decide, sL _ _ hM, by omega, upd_same, by simp, fun v t H5 t1 t2 t3 t4 hp5 k5 => ?_⟩
      have tz : t.size ≤ 60 := Nat.le_trans t4 (by decide)
      have p6 := (hp4.same sL).some
      have nM' : M ≠ p := nMp
      have ht5 : ∀ {H' : Hp}, Kept p H5 H' → TrAt H' t v := fun {H'} kk => TrAt.same (frsh_sub fun b o e1 e2 => kk b o (fun z => by
        obtain ⟨o', ho⟩ := p6
        rw [z, ho] at e1
        cases e1) e2) _ _ t1
      have out : ∀ {H' : Hp}, Kept p H5 H' → Same H H' := fun {H'} kk b o e => by
        have hp2 : H2 p = none := hp0
        have nb : b ≠ p := ne_of_none (hS2 b o e) hp2
        exact kk b o nb (k5 b o nb (sL b o (k4 b o nb (k3 b o nb (hS2 b o e)))))
      have hM5 := k5 _ _ nM' (sL _ _ hM)
      refine ⟨4, rfl, by decide, by decide, for_range (lo := 0) (n := 4) (fun i' σ H6 => ∃ (j5 j6 : Option V), σ = [some (.ref a), some (.int (0 + (i : Int))), some (.ref p), some (.ref M), some v, j5, j6, none] ∧ PoolAt H6 p ∧ Kept p H5 H6) ⟨_, _, rfl, hp5, fun b o _ e => e⟩ ?_ ?_⟩
      · rintro i' σ H6 hi' ⟨j5, j6, rfl, hp6, k6⟩
        refine ⟨3, rfl, by decide, by decide, fun D hD => lc_range (lo := 0) (n := 3) (fun j H' => ∃ (us : List V) (ks : List Kd), H' D = some (.lst us) ∧ All2 (KdAt H') ks us ∧ ks.length = j ∧ (∀ k ∈ ks, k.deep < 10) ∧ PoolAt H' p ∧ Kept p H6 H') ⟨[], [], upd_same, trivial, rfl, by simp, hp6.upd hD, kept_same (same_new hD)⟩ ?_ ?_⟩
        · have nD := hp6.ne hD
          rintro j H7 hj7 ⟨us, ks, u1, u2, u3, u4, u5, u6⟩
          refine ⟨rfl, ?_⟩
          unfold tYes
          dsimp only
          rw [if_pos rfl]
          refine ⟨_, rfl, _, rfl, p, 6, rfl, u5, by decide, by decide, fun q H8 q0 q1 hp8 e8 => ⟨_, _, rfl, rfl, ?_⟩⟩
          obtain ⟨qn, rfl⟩ : ∃ qn : Nat, q = qn := ⟨q.toNat, by omega⟩
          have k8 := kept_take e8
          refine ⟨_, rfl, p, M, 1 + qn, ms, rfl, hp8, by omega, by omega, by omega, k8 _ _ nM' (u6 _ _ nM' (k6 _ _ nM' hM5)), m1, by omega, fun y kd H9 y1 y2 hp9 k9 => ?_⟩
          have k79 := k8.trans k9
          have kl := kd.deep_lt
          refine ⟨_, k79 _ _ nD u1, small1000 (by have := u2.len; omega), us ++ [y], ks ++ [kd], upd_same, ?_, by rw [List.length_append, u3]; rfl, fun x hx => ?_, ?_, fun b o nb e => ?_⟩
          · have tl : Tups H9 (upd H9 D (.lst (us ++ [y]))) := tups_lst (k79 _ _ nD u1)
            exact (u2.mono (KdAt.mono (Tups.trans (tups_kept k79 u5) tl))).app (ls := [kd]) (us := [y]) ⟨KdAt.mono tl _ _ y1, trivial⟩
          · rcases List.mem_append.mp hx with hx | hx
            · exact u4 x hx
            · rw [List.mem_singleton.mp hx]
              omega
          · obtain ⟨c1, n1, z1, z2, z3⟩ := hp9
            exact ⟨c1, n1, by rw [upd_ne (Ne.symm nD)]; exact z1, z2, z3⟩
          · rw [upd_ne (ne_of_none e hD)]
            exact k79 b o nb (u6 b o nb e)
        · rintro H7 ⟨us, ks, u1, u2, u3, u4, u5, u6⟩
          match ks, us, u2, u3 with
          | [a1, a2, a3], [x1, x2, x3], ⟨w1, w2, w3, _⟩, _ =>
            have k57 := k6.trans u6
            refine ⟨_, rfl, _, rfl, D, _, _, _, rfl, rfl, SqL.of u1, atI_nat (j := 0) rfl, _, rfl, D, _, _, _, rfl, rfl, SqL.of u1, atI_nat (j := 1) rfl, _, rfl, D, _, _, _, rfl, rfl, SqL.of u1, atI_nat (j := 2) rfl, ?_⟩
            refine ⟨v, x1, x2, x3, t, a1, a2, a3, rfl, ht5 k57, tz, t2, w1, w2, w3, u4 _ (by simp), u4 _ (by simp), u4 _ (by simp), fun H8 s8 => ⟨_, rfl, ?_⟩⟩
            refine iteF ?_
            exact ⟨_, _, rfl, u5.same s8, k57.trans (kept_same s8)⟩
      · rintro σ H6 ⟨j5, j6, rfl, hp6, k6⟩
        exact ⟨_, _, _, _, _, _, rfl, out k6⟩
    · rintro σ H2 ⟨i1, i2, i3, i4, i5, i6, rfl, hS2⟩
      exact k _
end
/-! the end -/
theorem all_mk {l : PySem.W.OpenLaw} {w : World} {K : PySem.W.Frag} {h : Heap} {mg : Str → Option Value} {fa f0 f1 f2 f3 f4 f5 f6 f7 f8 f9 f10 f11 : Addr} (X : K.In h) (G : h.Ns mainGlobals mg) (hfa : mg "law" = some (.ref fa))
    {od0 an0 od1 an1 od2 an2 od3 an3 od4 an4 od5 an5 od6 an6 od7 an7 od8 an8 od9 an9 od10 an10 od11 an11 : Option Addr}
    {sl0 sl1 sl2 sl3 sl4 sl5 sl6 sl7 sl8 sl9 sl10 sl11 : Array (Option Value)} {oc0 kV0 dc0 pm0 cd0 ct0 oc1 kV1 dc1 pm1 cd1 ct1 oc2 kV2 dc2 pm2 cd2 ct2 oc3 kV3 dc3 pm3 cd3 ct3 oc4 kV4 dc4 pm4 cd4 ct4 oc5 kV5 dc5 pm5 cd5 ct5 oc6 kV6 dc6 pm6 cd6 ct6 oc7 kV7 dc7 pm7 cd7 ct7 oc8 kV8 dc8 pm8 cd8 ct8 oc9 kV9 dc9 pm9 cd9 ct9 oc10 kV10 dc10 pm10 cd10 ct10 oc11 kV11 dc11 pm11 cd11 ct11 : Value}
    (a0 : PySem.W.nsIn K mainGlobals "law" = some (some (.ref f0)))
    (l0 : K.lookup f0 = some ⟨oc0, od0, .func (PySem.W.fnOf "law" "law" (defArgs sLaw) (defBody sLaw) (defScope sLaw) .none kV0 dc0 pm0 an0 cd0 ct0), sl0⟩)
    (c0 : PySem.W.codeIn K cd0 "law" = true) (k0 : PySem.W.keepIn K (.ref f0) = true)
    (a1 : PySem.W.nsIn K mainGlobals "_law_pool" = some (some (.ref f1)))
    (l1 : K.lookup f1 = some ⟨oc1, od1, .func (PySem.W.fnOf "_law_pool" "_law_pool" (defArgs sPool) (defBody sPool) (defScope sPool) .none kV1 dc1 pm1 an1 cd1 ct1), sl1⟩)
    (c1 : PySem.W.codeIn K cd1 "_law_pool" = true) (k1 : PySem.W.keepIn K (.ref f1) = true)
    (a2 : PySem.W.nsIn K mainGlobals "_law_take" = some (some (.ref f2)))
    (l2 : K.lookup f2 = some ⟨oc2, od2, .func (PySem.W.fnOf "_law_take" "_law_take" (defArgs sTake) (defBody sTake) (defScope sTake) .none kV2 dc2 pm2 an2 cd2 ct2), sl2⟩)
    (c2 : PySem.W.codeIn K cd2 "_law_take" = true) (k2 : PySem.W.keepIn K (.ref f2) = true)
    (a3 : PySem.W.nsIn K mainGlobals "_law_marks" = some (some (.ref f3)))
    (l3 : K.lookup f3 = some ⟨oc3, od3, .func (PySem.W.fnOf "_law_marks" "_law_marks" (defArgs sMarks) (defBody sMarks) (defScope sMarks) .none kV3 dc3 pm3 an3 cd3 ct3), sl3⟩)
    (c3 : PySem.W.codeIn K cd3 "_law_marks" = true) (k3 : PySem.W.keepIn K (.ref f3) = true)
    (a4 : PySem.W.nsIn K mainGlobals "_law_kind" = some (some (.ref f4)))
    (l4 : K.lookup f4 = some ⟨oc4, od4, .func (PySem.W.fnOf "_law_kind" "_law_kind" (defArgs sKind) (defBody sKind) (defScope sKind) .none kV4 dc4 pm4 an4 cd4 ct4), sl4⟩)
    (c4 : PySem.W.codeIn K cd4 "_law_kind" = true) (k4 : PySem.W.keepIn K (.ref f4) = true)
    (a5 : PySem.W.nsIn K mainGlobals "_law_tree" = some (some (.ref f5)))
    (l5 : K.lookup f5 = some ⟨oc5, od5, .func (PySem.W.fnOf "_law_tree" "_law_tree" (defArgs sTree) (defBody sTree) (defScope sTree) .none kV5 dc5 pm5 an5 cd5 ct5), sl5⟩)
    (c5 : PySem.W.codeIn K cd5 "_law_tree" = true) (k5 : PySem.W.keepIn K (.ref f5) = true)
    (a6 : PySem.W.nsIn K mainGlobals "_law_right" = some (some (.ref f6)))
    (l6 : K.lookup f6 = some ⟨oc6, od6, .func (PySem.W.fnOf "_law_right" "_law_right" (defArgs sRight) (defBody sRight) (defScope sRight) .none kV6 dc6 pm6 an6 cd6 ct6), sl6⟩)
    (c6 : PySem.W.codeIn K cd6 "_law_right" = true) (k6 : PySem.W.keepIn K (.ref f6) = true)
    (a7 : PySem.W.nsIn K mainGlobals "_law_rises" = some (some (.ref f7)))
    (l7 : K.lookup f7 = some ⟨oc7, od7, .func (PySem.W.fnOf "_law_rises" "_law_rises" (defArgs sRises) (defBody sRises) (defScope sRises) .none kV7 dc7 pm7 an7 cd7 ct7), sl7⟩)
    (c7 : PySem.W.codeIn K cd7 "_law_rises" = true) (k7 : PySem.W.keepIn K (.ref f7) = true)
    (a8 : PySem.W.nsIn K mainGlobals "_law_all" = some (some (.ref f8)))
    (l8 : K.lookup f8 = some ⟨oc8, od8, .func (PySem.W.fnOf "_law_all" "_law_all" (defArgs sAll) (defBody sAll) (defScope sAll) .none kV8 dc8 pm8 an8 cd8 ct8), sl8⟩)
    (c8 : PySem.W.codeIn K cd8 "_law_all" = true) (k8 : PySem.W.keepIn K (.ref f8) = true)
    (a9 : PySem.W.nsIn K mainGlobals "holds" = some (some (.ref f9)))
    (l9 : K.lookup f9 = some ⟨oc9, od9, .func (PySem.W.fnOf "holds" "holds" (defArgs sHolds) (defBody sHolds) (defScope sHolds) .none kV9 dc9 pm9 an9 cd9 ct9), sl9⟩)
    (c9 : PySem.W.codeIn K cd9 "holds" = true) (k9 : PySem.W.keepIn K (.ref f9) = true)
    (a10 : PySem.W.nsIn K mainGlobals "laid_out" = some (some (.ref f10)))
    (l10 : K.lookup f10 = some ⟨oc10, od10, .func (PySem.W.fnOf "laid_out" "laid_out" (defArgs sLaid) (defBody sLaid) (defScope sLaid) .none kV10 dc10 pm10 an10 cd10 ct10), sl10⟩)
    (c10 : PySem.W.codeIn K cd10 "laid_out" = true) (k10 : PySem.W.keepIn K (.ref f10) = true)
    (a11 : PySem.W.nsIn K mainGlobals "where_holds" = some (some (.ref f11)))
    (l11 : K.lookup f11 = some ⟨oc11, od11, .func (PySem.W.fnOf "where_holds" "where_holds" (defArgs sWhere) (defBody sWhere) (defScope sWhere) .none kV11 dc11 pm11 an11 cd11 ct11), sl11⟩)
    (c11 : PySem.W.codeIn K cd11 "where_holds" = true) (k11 : PySem.W.keepIn K (.ref f11) = true)
    (z0 : PySem.W.nsIn K mainGlobals "len" = some none)
    (z1 : PySem.W.nsIn K mainGlobals "max" = some none)
    (z2 : PySem.W.nsIn K mainGlobals "min" = some none)
    (z3 : PySem.W.nsIn K mainGlobals "range" = some none)
    (z4 : PySem.W.nsIn K mainGlobals "int" = some none)
    (z5 : PySem.W.nsIn K mainGlobals "sorted" = some none)
    (z6 : PySem.W.nsIn K mainGlobals "zip" = some none) :
    ∃ fd : FuncData, (∀ (s : Shared) (v : Value), BindsTo s fd ⟨[v], []⟩ [("_law_script", v)]) ∧ ∀ base : Heap, K.In base → base.Ns mainGlobals mg → FnOk l.prog w K mg base CX0 64 fa fd ["_law_script"] (spLaw K) := by
  have e := hfa.symm.trans (PySem.W.mg_of X G a0)
  cases e
  have F0 := fun_mk (st := sLaw) l0 c0 k0
  have F1 := fun_mk (st := sPool) l1 c1 k1
  have b1 := F1.binds (ps := ["_law_script", "_law_k"]) fun _ _ _ _ _ _ us hl => match us, hl with | [_, _], _ => rfl
  have g1 := PySem.W.mg_of X G a1
  have F2 := fun_mk (st := sTake) l2 c2 k2
  have b2 := F2.binds (ps := ["_law_pool_here", "_law_many"]) fun _ _ _ _ _ _ us hl => match us, hl with | [_, _], _ => rfl
  have g2 := PySem.W.mg_of X G a2
  have F3 := fun_mk (st := sMarks) l3 c3 k3
  have b3 := F3.binds (ps := ["_law_pool_here"]) fun _ _ _ _ _ _ us hl => match us, hl with | [_], _ => rfl
  have g3 := PySem.W.mg_of X G a3
  have F4 := fun_mk (st := sKind) l4 c4 k4
  have b4 := F4.binds (ps := ["_law_pool_here", "_law_leaves", "_law_marks_here"]) fun _ _ _ _ _ _ us hl => match us, hl with | [_, _, _], _ => rfl
  have g4 := PySem.W.mg_of X G a4
  have F5 := fun_mk (st := sTree) l5 c5 k5
  have b5 := F5.binds (ps := ["_law_pool_here", "_law_marks_here", "_law_had", "_law_room"]) fun _ _ _ _ _ _ us hl => match us, hl with | [_, _, _, _], _ => rfl
  have g5 := PySem.W.mg_of X G a5
  have F6 := fun_mk (st := sRight) l6 c6 k6
  have b6 := F6.binds (ps := ["_law_tree_here", "_law_one", "_law_other", "_law_third"]) fun _ _ _ _ _ _ us hl => match us, hl with | [_, _, _, _], _ => rfl
  have g6 := PySem.W.mg_of X G a6
  have F7 := fun_mk (st := sRises) l7 c7 k7
  have b7 := F7.binds (ps := ["_law_tree_here", "_law_kind_here"]) fun _ _ _ _ _ _ us hl => match us, hl with | [_, _], _ => rfl
  have g7 := PySem.W.mg_of X G a7
  have F8 := fun_mk (st := sAll) l8 c8 k8
  have b8 := F8.binds (ps := ["_law_tree_here"]) fun _ _ _ _ _ _ us hl => match us, hl with | [_], _ => rfl
  have g8 := PySem.W.mg_of X G a8
  have F9 := fun_mk (st := sHolds) l9 c9 k9
  have b9 := F9.binds (ps := ["tree", "kind"]) fun _ _ _ _ _ _ us hl => match us, hl with | [_, _], _ => rfl
  have g9 := PySem.W.mg_of X G a9
  have F10 := fun_mk (st := sLaid) l10 c10 k10
  have b10 := F10.binds (ps := ["tree"]) fun _ _ _ _ _ _ us hl => match us, hl with | [_], _ => rfl
  have g10 := PySem.W.mg_of X G a10
  have F11 := fun_mk (st := sWhere) l11 c11 k11
  have b11 := F11.binds (ps := ["worlds", "kind"]) fun _ _ _ _ _ _ us hl => match us, hl with | [_, _], _ => rfl
  have g11 := PySem.W.mg_of X G a11
  have m0 := PySem.W.mg_none_of X G z0
  have m1 := PySem.W.mg_none_of X G z1
  have m2 := PySem.W.mg_none_of X G z2
  have m3 := PySem.W.mg_none_of X G z3
  have m4 := PySem.W.mg_none_of X G z4
  have m5 := PySem.W.mg_none_of X G z5
  have m6 := PySem.W.mg_none_of X G z6
  exact ⟨PySem.W.fnOf "law" "law" (defArgs sLaw) (defBody sLaw) (defScope sLaw) .none kV0 dc0 pm0 an0 cd0 ct0, fun s v => .of_eq rfl, fun base _ _ => by
    have GP := ok_pool (P := l.prog) (w := w) (mg := mg) (base := base) F1 m0
    have GT := ok_take (P := l.prog) (w := w) (mg := mg) (base := base) F2
    have GM := ok_marks (P := l.prog) (w := w) (base := base) F3 GT F2.kp b2 g2 m3 m4
    have GK := ok_kind (P := l.prog) (w := w) (base := base) F4 b4 g4 F2 b2 g2 m0 6
    have GR := ok_tree (P := l.prog) (w := w) (base := base) F5 b5 g5 GT F2.kp b2 g2 m3 m4 m5 4
    have GL := ok_laid (P := l.prog) (w := w) (mg := mg) (base := base) F10 m0
    have GW := ok_where (P := l.prog) (w := w) (base := base) F11 b11 g11 m0 m3 m6 20
    have GH := ok_holds (P := l.prog) (w := w) (base := base) F9 GL F10.kp b10 g10 (n := 20) GW F11.kp b11 g11
    have GA := ok_all (P := l.prog) (w := w) (base := base) F8 b8 g8 60
    have GS := ok_rises F7 GH F9.kp b9 g9 GA F8.kp b8 g8
    have GI := ok_right F6 GH F9.kp b9 g9 GS F7.kp b7 g7
    exact ok_law F0 GP F1.kp b1 g1 GT F2.kp b2 g2 GM F3.kp b3 g3 GK F4.kp b4 g4 GR F5.kp b5 g5 GI F6.kp b6 g6 m0 m1 m2 m3⟩
theorem walk {l : PySem.W.OpenLaw} {q : Program} {loose : List Str} {XP : (Str → Option Value) → Heap → Prop} {YP : World → Heap → Prop} {d : DefRec} {K : Params → PySem.W.Frag} (hn : l.most = some 63) (hdf : d.params.defaults = [])
    (hY : ∀ (w : World) (h : Heap), YP w h → (K w.params).In h)
    (F : ∀ (w : World) (mg : Str → Option Value) (fa : Addr) (h : Heap), (K w.params).In h → h.Ns mainGlobals mg → mg d.name = some (.ref fa) →
      ∃ fd : FuncData, (∀ (s : Shared) (u : Value), BindsTo s fd ⟨[u], []⟩ [("_law_script", u)]) ∧ ∀ base : Heap, (K w.params).In base → base.Ns mainGlobals mg → FnOk l.prog w (K w.params) mg base CX0 64 fa fd ["_law_script"] (spLaw (K w.params))) :
    PySem.W.WalkO q loose XP YP l.row.toRowW d [] (fun f vs => PySem.call f vs) :=
  L2.walk_of (n := 63) (k := 64) (x := "_law_script") (CX := fun _ => CX0) (sp := fun w => spLaw (K w.params)) hn (by decide) hdf ⟨rfl, by decide, by decide⟩ hY F (fun _ _ a ns hl _ hS => ⟨a, ns, rfl, hS, hl, fun _ => rfl⟩) fun _ _ _ _ _ z => z
end Kf
open PySem PySem.W PyProof.Rows
set_option maxRecDepth 100000 in
set_option maxHeartbeats 0 in
theorem PySem.Challenge.cw_kindfill_k36_whole_what_holds_stays_holds : PySem.Challenge.rw_kindfill_k36_whole_what_holds_stays.Holds := by
  w_on; o_law; k_head; (case hw => w_witness2)
  k_fill
  refine Kf.walk (l := PySem.Challenge.rw_kindfill_k36_whole_what_holds_stays) rfl rfl (fun w h Y => PySem.W.kIn_of Y) ?F
  case F =>
    intro w mg fa h KX G hmg
    refine' Kf.all_mk KX G hmg ?a0 ?l0 ?c0 ?k0 ?a1 ?l1 ?c1 ?k1 ?a2 ?l2 ?c2 ?k2 ?a3 ?l3 ?c3 ?k3 ?a4 ?l4 ?c4 ?k4 ?a5 ?l5 ?c5 ?k5 ?a6 ?l6 ?c6 ?k6 ?a7 ?l7 ?c7 ?k7 ?a8 ?l8 ?c8 ?k8 ?a9 ?l9 ?c9 ?k9 ?a10 ?l10 ?c10 ?k10 ?a11 ?l11 ?c11 ?k11 ?z0 ?z1 ?z2 ?z3 ?z4 ?z5 ?z6
    (case a0 => k_is)
    (case l0 => k_is)
    (case c0 => k_is)
    (case k0 => k_is)
    (case a1 => k_is)
    (case l1 => k_is)
    (case c1 => k_is)
    (case k1 => k_is)
    (case a2 => k_is)
    (case l2 => k_is)
    (case c2 => k_is)
    (case k2 => k_is)
    (case a3 => k_is)
    (case l3 => k_is)
    (case c3 => k_is)
    (case k3 => k_is)
    (case a4 => k_is)
    (case l4 => k_is)
    (case c4 => k_is)
    (case k4 => k_is)
    (case a5 => k_is)
    (case l5 => k_is)
    (case c5 => k_is)
    (case k5 => k_is)
    (case a6 => k_is)
    (case l6 => k_is)
    (case c6 => k_is)
    (case k6 => k_is)
    (case a7 => k_is)
    (case l7 => k_is)
    (case c7 => k_is)
    (case k7 => k_is)
    (case a8 => k_is)
    (case l8 => k_is)
    (case c8 => k_is)
    (case k8 => k_is)
    (case a9 => k_is)
    (case l9 => k_is)
    (case c9 => k_is)
    (case k9 => k_is)
    (case a10 => k_is)
    (case l10 => k_is)
    (case c10 => k_is)
    (case k10 => k_is)
    (case a11 => k_is)
    (case l11 => k_is)
    (case c11 => k_is)
    (case k11 => k_is)
    (case z0 => k_is)
    (case z1 => k_is)
    (case z2 => k_is)
    (case z3 => k_is)
    (case z4 => k_is)
    (case z5 => k_is)
    (case z6 => k_is)
