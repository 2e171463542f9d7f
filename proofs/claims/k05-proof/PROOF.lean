import PyProof.Rows.All
import Wide.All
import OpenK.AllK
import Wide.FinOn
import HandS.ForMost
import HandS.IsInst
import HandS.Flow
import HandS.Style
import HandS.Text
import HandS.AnyAll
import HandS.EndTab
import HandS.More
import HandS.Walk
import HandS.Codes
import HandS.NoneIn
import HandS.ForExc
import HandS.ReplaceLit
import HandS.Small
import HandS.Deep
import HandS.ExcIs
import PySem.Challenge.RW_kindfill_k05_kind_texts
set_option Elab.async false
set_option maxRecDepth 100000
namespace Kf
open PySem L2
def top (i : Nat) : Stmt := PySem.Challenge.pw_kindfill_k05_kind_texts.main.body.getD i (.Pass ⟨0, 0, 0, 0⟩)
abbrev sMark : Stmt := top 13
abbrev sKin : Stmt := top 18
abbrev sForm : Stmt := top 19
abbrev sIsK : Stmt := top 20
abbrev sShown : Stmt := top 24
abbrev sPieces : Stmt := top 25
abbrev sReadK : Stmt := top 26
abbrev sKow : Stmt := top 27
abbrev sPutW : Stmt := top 28
abbrev sClose : Stmt := top 29
abbrev sShape : Stmt := top 30
abbrev sPool : Stmt := top 32
abbrev sTake : Stmt := top 33
abbrev sKind : Stmt := top 34
abbrev sText : Stmt := top 35
abbrev sBent : Stmt := top 36
abbrev sFrom : Stmt := top 37
abbrev sDue : Stmt := top 38
abbrev sRead : Stmt := top 39
abbrev sLaw : Stmt := top 40
/-- a pool at p: what is left of the cell, and a number -/
def PoolAt (H : Hp) (p : Addr) : Prop := ∃ c n : Int, H p = some (.lst [.int c, .int n]) ∧ 0 ≤ n ∧ n < 2147483647
def spTake : Sp := fun vs H Q _ => ∃ (p : Addr) (m : Int), vs = [.ref p, .int m] ∧ PoolAt H p ∧ 0 < m ∧ m < 1073741824 ∧
  ∀ (r : Int) (H' : Hp), 0 ≤ r → r < m → PoolAt H' p → (∀ b, b ≠ p → H' b = H b) → Q (.int r) H'
def spPool (K : PySem.W.Frag) : Sp := fun vs H Q _ => ∃ (a : Addr) (ns : List Int) (k : Nat), vs = [.ref a, .int (k : Int)] ∧ SqL K H a (ns.map V.int) ∧ ns.length ≤ 63 ∧ k ≤ 63 ∧
  ∀ (p : Addr) (H' : Hp), H p = none → PoolAt H' p → (∀ b, b ≠ p → H' b = H b) → Q (.ref p) H'
theorem nm_nat {x m : Int} (hm : 0 < m) : 0 ≤ x.fmod m ∧ x.fmod m < m := ⟨Int.fmod_nonneg_of_pos x hm, Int.fmod_lt_of_pos x hm⟩
section
variable {P : Program} {w : World} {K : PySem.W.Frag} {mg : Str → Option Value} {base : Heap}
theorem scTake : FnScope ["_law_pool_here", "_law_many", "_law_found"] ["_law_pool_here", "_law_many"] (defScope sTake) := ⟨rfl, rfl, rfl, by decide +kernel, rfl, by decide +kernel, by decide +kernel⟩
theorem ok_take {f : Addr} {fd : FuncData} (F : Fun K "_law_take" "_law_take" sTake f fd) : FnOk P w K mg base CX0 1 f fd ["_law_pool_here", "_law_many"] spTake := by
  refine F.ok scTake (fun vs H Q E h => ?_) (fun cdv A outer s H vs Q E hr h => ?_)
  · obtain ⟨p, m, rfl, _⟩ := h
    rfl
  · obtain ⟨p, m, rfl, ⟨c, n, hp, hn0, hn1⟩, hm0, hm1, k⟩ := h
    refine ⟨_, pss_cons (ps_if (pt_cmpR op_gt (pe_ix ix_list (pv 0) pe_int (fun _ _ => rfl)) pe_int (nomark _))
        (pss_cons (ps_set (i := 2) scTake.nd rfl (Or.inl rfl) (pe_op op_modN (pe_ix ix_list (pv 0) pe_int (fun _ _ => rfl)) (pv 1)))
        (pss_cons (ps_asg (pe_op op_fdivN (pe_ix ix_list (pv 0) pe_int (fun _ _ => rfl)) (pv 1)) (pg_sub (pv 0) pe_int set_list))
        (pss_one (ps_ret (pv 2))))) pss_nil)
      (pss_cons (ps_asg (pe_op op_modN (pe_op op_add (pe_op op_mul (pe_ix ix_list (pv 0) pe_int (fun _ _ => rfl)) pe_int) pe_int) pe_int) (pg_sub (pv 0) pe_int set_list))
      (pss_one (ps_ret (pe_op op_modN (pe_op op_fdivN (pe_op op_modN (pe_op op_mul (pe_ix ix_list (pv 0) pe_int (fun _ _ => rfl)) (pe_ix ix_list (pv 0) pe_int (fun _ _ => rfl))) pe_int) pe_int) (pv 1))))), ?_⟩
    refine ⟨_, rfl, p, _, _, _, rfl, rfl, SqL.of hp, atI_nat (j := 0) rfl, _, _, rfl, rfl, _, rfl, ?_⟩
    have M := nm_nat (x := c) hm0
    refine ite2 (fun _ => ?_) (fun _ => ?_)
    · refine ⟨_, rfl, p, _, _, _, rfl, rfl, SqL.of hp, atI_nat (j := 0) rfl, _, rfl, _, _, rfl, rfl, by omega, ?_⟩
      refine ⟨_, rfl, p, _, _, _, rfl, rfl, SqL.of hp, atI_nat (j := 0) rfl, _, rfl, _, _, rfl, rfl, ⟨by omega, by omega⟩, ?_⟩
      refine ⟨_, rfl, p, _, _, 0, rfl, rfl, hp, rfl, ?_⟩
      refine ⟨_, rfl, ?_⟩
      exact k _ _ M.1 M.2 ⟨_, _, upd_same, hn0, hn1⟩ fun b hb => upd_ne hb
    · have N0 := nm_nat (x := n * 48271 + 11) (m := 2147483647) (by decide)
      refine ⟨_, rfl, p, _, _, _, rfl, rfl, SqL.of hp, atI_nat (j := 1) rfl, _, _, rfl, rfl, .inl ⟨by omega, by omega⟩, _, _, rfl, rfl, _, _, rfl, rfl, (by show (2147483647 : Int) ≠ 0; decide), ?_⟩
      refine ⟨_, rfl, p, _, _, 1, rfl, rfl, hp, rfl, ?_⟩
      have N1 := nm_nat (x := (n * 48271 + 11).fmod 2147483647 * (n * 48271 + 11).fmod 2147483647) (m := 2147483629) (by decide)
      refine ⟨_, rfl, p, _, _, _, rfl, rfl, SqL.of upd_same, atI_nat (j := 1) rfl, _, rfl, p, _, _, _, rfl, rfl, SqL.of upd_same, atI_nat (j := 1) rfl, _, _, rfl, rfl, .inl ⟨by omega, by omega⟩, ?_⟩
      refine ⟨_, _, rfl, rfl, (by show (2147483629 : Int) ≠ 0; decide), _, _, rfl, rfl, ⟨by decide, by decide⟩, _, rfl, _, _, rfl, rfl, by omega, ?_⟩
      exact k _ _ (nm_nat hm0).1 (nm_nat hm0).2 ⟨_, _, upd_same, N0.1, N0.2⟩ fun b hb => upd_ne hb
theorem scPool : FnScope ["_law_script", "_law_k", "_law_cell", "_law_number"] ["_law_script", "_law_k"] (defScope sPool) := ⟨rfl, rfl, rfl, by decide +kernel, rfl, by decide +kernel, by decide +kernel⟩
theorem ok_pool {f : Addr} {fd : FuncData} (F : Fun K "_law_pool" "_law_pool" sPool f fd) (mLen : mg "len" = none) : FnOk P w K mg base CX0 1 f fd ["_law_script", "_law_k"] (spPool K) := by
  refine F.ok scPool (fun vs H Q E h => ?_) (fun cdv A outer s H vs Q E hr h => ?_)
  · obtain ⟨a, ns, j, rfl, _⟩ := h
    rfl
  · obtain ⟨a, ns, j, rfl, hS, hl, hj, k⟩ := h
    refine ⟨_, pss_cons (ps_set (i := 2) scPool.nd rfl (Or.inl rfl) pe_int)
      (pss_cons (ps_if (pt_cmpR op_lt (pv 1) (pe_callB call_len_seq (by rfl) mLen PySem.boot_len (pa_cons (pv 0) pa_nil)) (nomark _))
        (pss_one (ps_set (i := 2) scPool.nd rfl (Or.inl rfl) (pe_ix ix_list (pv 0) (pv 1) (fun _ _ => rfl)))) pss_nil)
      (pss_cons (ps_set (i := 3) scPool.nd rfl (Or.inl rfl) (pe_op op_modN (pe_op op_pow (pe_op op_add (pe_op op_add (pe_op op_modN (pv 2) pe_int) (pe_op op_mul (pe_op op_mul pe_int (pv 1)) (pv 1))) pe_int) pe_int) pe_int))
      (pss_cons (ps_if (pt_cmpR op_lt (pv 2) (pe_op op_pow pe_int pe_int) (nomark _))
        (pss_one (ps_set (i := 2) scPool.nd rfl (Or.inl rfl) pe_int)) pss_nil)
      (pss_one (ps_ret (pe_lst (pa_cons (pv 2) (pa_cons (pv 3) pa_nil)))))))), ?_⟩
    have B : ∀ c : Int, 0 ≤ (c.fmod 2147483629 + 104729 * (j : Int) * (j : Int) + 11) ∧ (c.fmod 2147483629 + 104729 * (j : Int) * (j : Int) + 11) < 2 ^ 33 := fun c => by
      have M := nm_nat (x := c) (m := 2147483629) (by decide)
      have hj2 : (j : Int) * (j : Int) ≤ 63 * 63 := Int.mul_le_mul (by omega) (by omega) (by omega) (by omega)
      have hj0 : 0 ≤ (j : Int) * (j : Int) := Int.mul_nonneg (by omega) (by omega)
      have e : 104729 * (j : Int) * (j : Int) = 104729 * ((j : Int) * (j : Int)) := Int.mul_assoc _ _ _
      omega
    refine ⟨_, rfl, _, rfl, a, _, rfl, .inl hS, _, _, rfl, rfl, _, rfl, ?_⟩
    refine ite2 (fun hlt => ?_) (fun _ => ?_)
    · have hj' : j < ns.length := by simpa using hlt
      refine ⟨_, rfl, _, rfl, a, _, _, _, rfl, rfl, hS, atI_nat (j := j) (v := .int ns[j]) (by simp [hj']), ?_⟩
      generalize ns[j] = c
      have N := nm_nat (x := (c.fmod 2147483629 + 104729 * (j : Int) * (j : Int) + 11) ^ 3) (m := 2147483647) (by decide)
      have Bc := B c
      refine ⟨_, rfl, _, _, rfl, rfl, (by show (2147483629 : Int) ≠ 0; decide), _, rfl, _, _, rfl, rfl, .inl ⟨by decide, by decide⟩, _, rfl, _, _, rfl, rfl, .inl ⟨by omega, by omega⟩, ?_⟩
      refine ⟨_, _, rfl, rfl, _, _, rfl, rfl, _, _, rfl, rfl, ⟨by decide, by decide, by omega⟩, _, _, rfl, rfl, (by show (2147483647 : Int) ≠ 0; decide), ?_⟩
      refine ⟨_, rfl, _, _, rfl, rfl, ⟨by decide, by decide, by decide⟩, _, _, rfl, rfl, _, rfl, ?_⟩
      refine ite2 (fun _ => ?_) (fun _ => ?_)
      · exact ⟨_, rfl, _, rfl, (by show 2 ≤ sizeLine; decide), fun p hp => k _ _ hp ⟨_, _, upd_same, N.1, N.2⟩ fun b hb => upd_ne hb⟩
      · exact ⟨_, rfl, _, rfl, (by show 2 ≤ sizeLine; decide), fun p hp => k _ _ hp ⟨_, _, upd_same, N.1, N.2⟩ fun b hb => upd_ne hb⟩
    · have N := nm_nat (x := ((0 : Int).fmod 2147483629 + 104729 * (j : Int) * (j : Int) + 11) ^ 3) (m := 2147483647) (by decide)
      have Bc := B 0
      refine ⟨_, rfl, _, _, rfl, rfl, (by show (2147483629 : Int) ≠ 0; decide), _, rfl, _, _, rfl, rfl, .inl ⟨by decide, by decide⟩, _, rfl, _, _, rfl, rfl, .inl ⟨by omega, by omega⟩, ?_⟩
      refine ⟨_, _, rfl, rfl, _, _, rfl, rfl, _, _, rfl, rfl, ⟨by decide, by decide, by omega⟩, _, _, rfl, rfl, (by show (2147483647 : Int) ≠ 0; decide), ?_⟩
      refine ⟨_, rfl, _, _, rfl, rfl, ⟨by decide, by decide, by decide⟩, _, _, rfl, rfl, _, rfl, ?_⟩
      refine ite2 (fun _ => ?_) (fun _ => ?_)
      · exact ⟨_, rfl, _, rfl, (by show 2 ≤ sizeLine; decide), fun p hp => k _ _ hp ⟨_, _, upd_same, N.1, N.2⟩ fun b hb => upd_ne hb⟩
      · exact ⟨_, rfl, _, rfl, (by show 2 ≤ sizeLine; decide), fun p hp => k _ _ hp ⟨_, _, upd_same, N.1, N.2⟩ fun b hb => upd_ne hb⟩
end
theorem at_any {α : Type} {xs : List α} {r : Int} (h0 : 0 ≤ r) (h1 : r < xs.length) : ∃ v, atI xs r = some v ∧ v ∈ xs := by
  obtain ⟨n, rfl⟩ : ∃ n : Nat, r = n := ⟨r.toNat, by omega⟩
  have hn : n < xs.length := by omega
  exact ⟨xs[n], atI_nat (by simp [hn]), by simp⟩
theorem PoolAt.upd {H : Hp} {p l : Addr} {o : HO} (h : PoolAt H p) (hl : H l = none) : PoolAt (upd H l o) p := by
  obtain ⟨c, n, e, h0, h1⟩ := h
  exact ⟨c, n, by rw [upd_ne (ne_of_none e hl)]; exact e, h0, h1⟩
theorem PoolAt.ne {H : Hp} {p l : Addr} (h : PoolAt H p) (hl : H l = none) : l ≠ p := by
  obtain ⟨c, n, e, h0, h1⟩ := h
  exact (ne_of_none e hl).symm
theorem kept_upd {H H1 : Hp} {p l : Addr} {o : HO} (k : ∀ b u, b ≠ p → H b = some u → H1 b = some u) (hl : H1 l = none) : ∀ b u, b ≠ p → H b = some u → (upd H1 l o) b = some u := fun b u hb e => by
  rw [upd_ne (ne_of_none (k b u hb e) hl)]
  exact k b u hb e
theorem kept_eq {H H1 H2 : Hp} {p : Addr} (k : ∀ b u, b ≠ p → H b = some u → H1 b = some u) (e2 : ∀ b, b ≠ p → H2 b = H1 b) : ∀ b u, b ≠ p → H b = some u → H2 b = some u := fun b u hb e => (e2 b hb).trans (k b u hb e)
theorem small40 {n : Nat} (h : n ≤ 1000) : n ≤ sizeLine := Nat.le_trans h (by decide)

/-! kinds -/
inductive Kd where
  | one
  | mark (m : Str)
  | two (b : Bool) (k l : Kd)
def word (b : Bool) : Str := if b then "to" else "both"
def KdAt (H : Hp) : Kd → V → Prop
  | .one, v => ∃ a, v = .ref a ∧ H a = some (.tup [.str "one"])
  | .mark m, v => ∃ a, v = .ref a ∧ H a = some (.tup [.str "mark", .str m])
  | .two b k l, v => ∃ a x y, v = .ref a ∧ H a = some (.tup [.str (word b), x, y]) ∧ KdAt H k x ∧ KdAt H l y
/-- a mark: one to six small letters -/
structure MkOk (m : Str) : Prop where
  lay : PySem.PyData.canLay0 (.str m) = true
  pos : 1 ≤ m.length
  short : m.length ≤ 6
  free : 32 ∉ m.cps.toList
  nobr : 40 ∉ m.cps.toList
/-- tuples that stood stand -/
def Tups (H H' : Hp) : Prop := ∀ b xs, H b = some (.tup xs) → H' b = some (.tup xs)
theorem Tups.trans {H H1 H2 : Hp} (a : Tups H H1) (b : Tups H1 H2) : Tups H H2 := fun c xs e => b c xs (a c xs e)
theorem KdAt.mono {H H' : Hp} (t : Tups H H') : ∀ (k : Kd) (v : V), KdAt H k v → KdAt H' k v
  | .one, _, ⟨a, e, h⟩ => ⟨a, e, t _ _ h⟩
  | .mark _, _, ⟨a, e, h⟩ => ⟨a, e, t _ _ h⟩
  | .two _ k l, _, ⟨a, x, y, e, h, hk, hl⟩ => ⟨a, x, y, e, t _ _ h, KdAt.mono t k x hk, KdAt.mono t l y hl⟩
namespace Kd
def leaves : Kd → Nat
  | one => 1
  | mark _ => 1
  | two _ k l => k.leaves + l.leaves
def deep : Kd → Nat
  | one => 0
  | mark _ => 0
  | two _ k l => max k.deep l.deep + 1
def subs : Kd → List Kd
  | one => []
  | mark _ => []
  | two _ k l => [k, l]
def data : Kd → PyData
  | one => .tuple [.str "one"]
  | mark m => .tuple [.str "mark", .str m]
  | two b k l => .tuple [.str (word b), k.data, l.data]
def Ok : Kd → Prop
  | one => True
  | mark m => MkOk m
  | two _ k l => k.Ok ∧ l.Ok
theorem leaves_pos : ∀ k : Kd, 0 < k.leaves
  | one => Nat.one_pos
  | mark _ => Nat.one_pos
  | two _ k l => Nat.add_pos_left (leaves_pos k) _
theorem deep_lt : ∀ k : Kd, k.deep < k.leaves
  | one => Nat.one_pos
  | mark _ => Nat.one_pos
  | two _ k l => by
    have h1 := deep_lt k
    have h2 := deep_lt l
    show max k.deep l.deep + 1 < k.leaves + l.leaves
    have := leaves_pos k
    have := leaves_pos l
    omega
end Kd
/-- side by side -/
def All2 {α : Type} (R : α → V → Prop) : List α → List V → Prop
  | [], [] => True
  | k :: ks, v :: vs => R k v ∧ All2 R ks vs
  | _, _ => False
section
variable {α : Type} {R S : α → V → Prop}
theorem All2.mono (f : ∀ k v, R k v → S k v) : ∀ {ks : List α} {vs : List V}, All2 R ks vs → All2 S ks vs
  | [], [], _ => trivial
  | _ :: _, _ :: _, ⟨h, t⟩ => ⟨f _ _ h, All2.mono f t⟩
  | [], _ :: _, h => h.elim
  | _ :: _, [], h => h.elim
theorem All2.app : ∀ {ks : List α} {vs : List V} {ls : List α} {us : List V}, All2 R ks vs → All2 R ls us → All2 R (ks ++ ls) (vs ++ us)
  | [], [], _, _, _, g => g
  | _ :: _, _ :: _, _, _, ⟨h, t⟩, g => ⟨h, All2.app t g⟩
  | [], _ :: _, _, _, h, _ => h.elim
  | _ :: _, [], _, _, h, _ => h.elim
theorem All2.len : ∀ {ks : List α} {vs : List V}, All2 R ks vs → ks.length = vs.length
  | [], [], _ => rfl
  | _ :: _, _ :: _, ⟨_, t⟩ => congrArg (· + 1) (All2.len t)
  | [], _ :: _, h => h.elim
  | _ :: _, [], h => h.elim
/-- the last one -/
theorem All2.last : ∀ {ks : List α} {vs : List V}, All2 R ks vs → vs ≠ [] → ∃ ls k v, ks = ls ++ [k] ∧ vs = vs.dropLast ++ [v] ∧ All2 R ls vs.dropLast ∧ R k v ∧ vs[vs.length - 1]? = some v
  | [], [], _, h => absurd rfl h
  | [k], [v], ⟨h, _⟩, _ => ⟨[], k, v, rfl, rfl, trivial, h, rfl⟩
  | k :: k2 :: ks, v :: v2 :: vs, ⟨h, t⟩, _ => by
    obtain ⟨ls, k', v', e1, e2, a, r, q⟩ := All2.last t (by simp)
    refine ⟨k :: ls, k', v', by rw [e1]; rfl, ?_, ⟨h, a⟩, r, ?_⟩
    · show v :: v2 :: vs = v :: ((v2 :: vs).dropLast ++ [v'])
      rw [← e2]
    · exact q
  | [], _ :: _, h, _ => h.elim
  | _ :: _, [], h, _ => h.elim
  | [_], _ :: _ :: _, h, _ => h.2.elim
  | _ :: _ :: _, [_], h, _ => h.2.elim
end
theorem tups_of {H H' : Hp} (s : Same H H') : Tups H H' := fun b _ e => s b _ e
theorem tups_lst {H : Hp} {T : Addr} {xs ys : List V} (h : H T = some (.lst xs)) : Tups H (upd H T (.lst ys)) := fun b zs e => by
  have n : b ≠ T := ne_of e h (by intro z; cases z)
  rw [upd_ne n]
  exact e
theorem same_new {H : Hp} {p : Addr} {o : HO} (h : H p = none) : Same H (upd H p o) := fun b u e => by
  rw [upd_ne (ne_of_none e h)]
  exact e
theorem same_over {H H3 : Hp} {T : Addr} {o : HO} (S : Same H H3) (h : H T = none) : Same H (upd H3 T o) := fun b u e => by
  rw [upd_ne (ne_of_none e h)]
  exact S b u e
theorem All2.get {α : Type} {R : α → V → Prop} : ∀ {ks : List α} {vs : List V} {i : Nat} {v : V}, All2 R ks vs → vs[i]? = some v → ∃ k, ks[i]? = some k ∧ R k v
  | [], [], _, _, _, e => by simp at e
  | k :: _, v :: _, 0, _, ⟨h, _⟩, e => ⟨k, rfl, by simp at e; exact e ▸ h⟩
  | _ :: _, _ :: _, i + 1, _, ⟨_, t⟩, e => All2.get (i := i) t e
  | [], _ :: _, _, _, h, _ => h.elim
  | _ :: _, [], _, _, h, _ => h.elim
def Kept (p : Addr) (H H' : Hp) : Prop := ∀ b o, b ≠ p → H b = some o → H' b = some o
theorem Kept.trans {p : Addr} {H H1 H2 : Hp} (a : Kept p H H1) (b : Kept p H1 H2) : Kept p H H2 := fun c o n e => b c o n (a c o n e)
theorem kept_same {p : Addr} {H H1 : Hp} (s : Same H H1) : Kept p H H1 := fun b o _ e => s b o e
theorem kept_take {p : Addr} {H H1 : Hp} (e : ∀ b, b ≠ p → H1 b = H b) : Kept p H H1 := fun b _ n h => (e b n).trans h
theorem tups_kept {p : Addr} {H H1 : Hp} (k : Kept p H H1) (hp : PoolAt H p) : Tups H H1 := fun b _ e => by
  obtain ⟨c, n, z, _⟩ := hp
  exact k b _ (ne_of e z (by intro q; cases q)) e
theorem pool_marks {H : Hp} {p M : Addr} {ms : List Str} (hp : PoolAt H p) (hM : H M = some (.lst (ms.map V.str))) : M ≠ p := fun z => by
  obtain ⟨c, n, e, _⟩ := hp
  rw [z, e] at hM
  cases ms with
  | nil => cases hM
  | cons a r => cases hM
theorem PoolAt.same {H H1 : Hp} {p : Addr} (hp : PoolAt H p) (s : Same H H1) : PoolAt H1 p := by
  obtain ⟨c, n, e, h⟩ := hp
  exact ⟨c, n, s _ _ e, h⟩
def spKind (n : Nat) : Sp := fun vs H Q _ => ∃ (p M : Addr) (L : Nat) (ms : List Str), vs = [.ref p, .int (L : Int), .ref M] ∧ PoolAt H p ∧ 1 ≤ L ∧ L ≤ n ∧ L ≤ 1000 ∧ H M = some (.lst (ms.map V.str)) ∧ 1 ≤ ms.length ∧ ms.length ≤ 1000 ∧
  (∀ m ∈ ms, MkOk m) ∧ ∀ (v : V) (k : Kd) (H' : Hp), KdAt H' k v → k.leaves = L → k.Ok → PoolAt H' p → Kept p H H' → Q v H'
section
variable {P : Program} {w : World} {K : PySem.W.Frag} {mg : Str → Option Value} {base : Heap}
theorem scKind : FnScope ["_law_pool_here", "_law_leaves", "_law_marks", "_law_one", "_law_word"] ["_law_pool_here", "_law_leaves", "_law_marks"] (defScope sKind) := ⟨rfl, rfl, rfl, by decide +kernel, rfl, by decide +kernel, by decide +kernel⟩
theorem ok_kind {f fT : Addr} {fd fdT : FuncData} (F : Fun K "_law_kind" "_law_kind" sKind f fd) (bF : Binds K fd ["_law_pool_here", "_law_leaves", "_law_marks"] []) (gF : mg "_law_kind" = some (.ref f))
    (FT : Fun K "_law_take" "_law_take" sTake fT fdT) (bT : Binds K fdT ["_law_pool_here", "_law_many"] []) (gT : mg "_law_take" = some (.ref fT)) (mLen : mg "len" = none) :
    ∀ n : Nat, FnOk P w K mg base CX0 (n + 2) f fd ["_law_pool_here", "_law_leaves", "_law_marks"] (spKind n) := by
  have GT : FnOk P w K mg base CX0 1 fT fdT ["_law_pool_here", "_law_many"] spTake := ok_take FT
  intro n
  induction n with
  | zero =>
    refine F.ok scKind (fun vs H Q E h => ?_) (fun cdv A outer s H vs Q E hr h => ?_)
    · obtain ⟨p, M, L, ms, rfl, _⟩ := h
      rfl
    · obtain ⟨p, M, L, ms, _, _, h1, h2, _⟩ := h
      omega
  | succ n GK =>
    refine F.ok scKind (fun vs H Q E h => ?_) (fun cdv A outer s H vs Q E hr h => ?_)
    · obtain ⟨p, M, L, ms, rfl, _⟩ := h
      rfl
    · obtain ⟨p, M, L, ms, rfl, hp, l1, l2, l3, hM, m1, m2, hms, k⟩ := h
      have hr1 : Room 1 _ := hr.mono (by omega)
      refine ⟨_, pss_cons (ps_if (pt_cmpR op_eq (pv 1) pe_int (nomark _))
          (pss_cons (ps_if (pt_cmpR op_eq (pe_call GT hr1 (by rfl) gT FT.kp bT .nil pass0 (pa_cons (pv 0) (pa_cons pe_int pa_nil))) pe_int (nomark _)) (pss_one (ps_ret (pe_tup (pa_cons pe_str pa_nil)))) pss_nil)
          (pss_one (ps_ret (pe_tup (pa_cons pe_str (pa_cons (pe_ix ix_list (pv 2) (pe_call GT hr1 (by rfl) gT FT.kp bT .nil pass0 (pa_cons (pv 0) (pa_cons (pe_callB call_len_seq (by rfl) mLen PySem.boot_len (pa_cons (pv 2) pa_nil)) pa_nil))) (fun _ _ => rfl)) pa_nil)))))) pss_nil)
        (pss_cons (ps_set (i := 3) scKind.nd rfl (Or.inl rfl) (pe_op op_add pe_int (pe_call GT hr1 (by rfl) gT FT.kp bT .nil pass0 (pa_cons (pv 0) (pa_cons (pe_op op_sub (pv 1) pe_int) pa_nil)))))
        (pss_cons (ps_set (i := 4) scKind.nd rfl (Or.inl rfl) (pe_ix ix_list (pe_lst (pa_cons pe_str (pa_cons pe_str (pa_cons pe_str pa_nil)))) (pe_call GT hr1 (by rfl) gT FT.kp bT .nil pass0 (pa_cons (pv 0) (pa_cons pe_int pa_nil))) (fun _ _ => rfl)))
        (pss_one (ps_ret (pe_tup (pa_cons (pv 4) (pa_cons (pe_call GK hr (by rfl) gF F.kp bF .nil pass0 (pa_cons (pv 0) (pa_cons (pv 3) (pa_cons (pv 2) pa_nil))))
          (pa_cons (pe_call GK hr (by rfl) gF F.kp bF .nil pass0 (pa_cons (pv 0) (pa_cons (pe_op op_sub (pv 1) (pv 3)) (pa_cons (pv 2) pa_nil)))) pa_nil)))))))), ?_⟩
      refine ⟨_, rfl, rfl, _, rfl, ?_⟩
      refine ite2 (fun hc => ?_) (fun hc => ?_)
      · have hL : L = 1 := by
          have z := of_decide_eq_true hc
          injection z with z
          omega
        subst hL
        refine ⟨_, rfl, p, 9, rfl, hp, by decide, by decide, fun r H1 r0 r1 hp1 e1 => ?_⟩
        refine ⟨rfl, _, rfl, ?_⟩
        refine ite2 (fun _ => ?_) (fun _ => ?_)
        · refine ⟨by show 1 ≤ sizeLine; decide, fun t ht => ?_⟩
          exact k (.ref t) .one _ ⟨t, rfl, upd_same⟩ rfl trivial (hp1.same (same_new ht)) ((kept_take e1).trans (kept_same (same_new ht)))
        · have k1 := kept_take e1
          have hM1 := k1 _ _ (pool_marks hp hM) hM
          refine ⟨_, rfl, _, rfl, _, rfl, M, _, rfl, .inl (SqL.of hM1), p, _, rfl, hp1, by rw [List.length_map]; omega, by rw [List.length_map]; omega, fun q H2 q0 q1 hp2 e2 => ?_⟩
          have hM2 := kept_take e2 _ _ (pool_marks hp1 hM1) hM1
          obtain ⟨u, hu, hm⟩ := at_any (xs := ms.map V.str) q0 q1
          obtain ⟨mk, hmk, rfl⟩ := List.mem_map.mp hm
          refine ⟨M, _, _, _, rfl, rfl, SqL.of hM2, hu, by show 2 ≤ sizeLine; decide, fun t ht => ?_⟩
          exact k (.ref t) (.mark mk) _ ⟨t, rfl, upd_same⟩ rfl (hms mk hmk) (hp2.same (same_new ht)) ((k1.trans (kept_take e2)).trans (kept_same (same_new ht)))
      · have hL : 2 ≤ L := by
          rcases Nat.lt_or_ge L 2 with z | z
          · exact absurd (decide_eq_true (by rw [show L = 1 by omega]; rfl)) hc
          · exact z
        have eL : ((L : Int) - 1) = ((L - 1 : Nat) : Int) := by omega
        refine ⟨_, rfl, _, rfl, _, _, rfl, rfl, p, _, rfl, hp, by omega, by omega, fun r H1 r0 r1 hp1 e1 => ?_⟩
        obtain ⟨rn, rfl⟩ : ∃ rn : Nat, r = rn := ⟨r.toNat, by omega⟩
        refine ⟨_, _, rfl, rfl, ?_⟩
        refine ⟨by show 3 ≤ sizeLine; decide, fun l hl => ?_⟩
        have k1 := kept_take e1
        have nl := hp1.ne hl
        refine ⟨_, rfl, p, 3, rfl, hp1.upd hl, by decide, by decide, fun q H2 q0 q1 hp2 e2 => ?_⟩
        have k2 : Kept p H H2 := (k1.trans (kept_same (same_new hl))).trans (kept_take e2)
        obtain ⟨u, hu, hm⟩ := at_any (xs := [V.str "to", V.str "to", V.str "both"]) q0 q1
        obtain ⟨b, rfl⟩ : ∃ b, u = V.str (word b) := by
          simp only [List.mem_cons, List.not_mem_nil, or_false] at hm
          rcases hm with rfl | rfl | rfl
          · exact ⟨true, rfl⟩
          · exact ⟨true, rfl⟩
          · exact ⟨false, rfl⟩
        refine ⟨l, _, _, _, rfl, rfl, SqL.of ((e2 l nl).trans upd_same), hu, ?_⟩
        have hM2 := k2 _ _ (pool_marks hp hM) hM
        refine ⟨_, rfl, _, rfl, _, rfl, _, rfl, p, M, 1 + rn, ms, rfl, hp2, by omega, by omega, by omega, hM2, m1, m2, hms, fun v1 kd1 H3 h1 hl1 ho1 hp3 k3 => ?_⟩
        have hM3 := k3 _ _ (pool_marks hp2 hM2) hM2
        have e3 : ((L : Int) - (1 + (rn : Int))) = ((L - (1 + rn) : Nat) : Int) := by omega
        refine ⟨_, rfl, _, rfl, _, rfl, _, _, rfl, rfl, _, rfl, p, M, L - (1 + rn), ms, ?_, hp3, by omega, by omega, by omega, hM3, m1, m2, hms, fun v2 kd2 H4 h2 hl2 ho2 hp4 k4 => ?_⟩
        · rw [← e3]
          rfl
        refine ⟨by show 3 ≤ sizeLine; decide, fun t ht => ?_⟩
        have st : Same H4 (upd H4 t (.tup [.str (word b), v1, v2])) := same_new ht
        refine k (.ref t) (.two b kd1 kd2) _ ⟨t, v1, v2, rfl, upd_same, KdAt.mono (Tups.trans (tups_kept k4 hp3) (tups_of st)) _ _ h1, KdAt.mono (tups_of st) _ _ h2⟩ ?_ ⟨ho1, ho2⟩ (hp4.same st) (((k2.trans k3).trans k4).trans (kept_same st))
        show kd1.leaves + kd2.leaves = L
        omega
end
theorem data_depth : ∀ k : Kd, k.data.depth = k.deep + 1
  | .one => by simp only [Kd.data, Kd.deep, PyData.depth, PyData.depthAll] <;> rfl
  | .mark m => by simp only [Kd.data, Kd.deep, PyData.depth, PyData.depthAll] <;> rfl
  | .two b k l => by
    have h1 := data_depth k
    have h2 := data_depth l
    simp only [Kd.data, Kd.deep, PyData.depth, PyData.depthAll, h1, h2]
    omega
theorem data_ok : ∀ k : Kd, k.Ok → k.data.canLay0 = true
  | .one, _ => by decide +kernel
  | .mark m, h => by
    have h' : PyData.canLay0 (.str m) = true := h.lay
    have e : PyData.canLay0 (.str "mark") = true := by decide +kernel
    simp only [Kd.data, PyData.canLay0, PyData.canLayAll0] at h' e ⊢
    rw [h', e] <;> rfl
  | .two b k l, ⟨h1, h2⟩ => by
    have i1 := data_ok k h1
    have i2 := data_ok l h2
    have e : PyData.canLay0 (.str (word b)) = true := by cases b <;> decide +kernel
    simp only [PyData.canLay0] at e
    simp only [Kd.data, PyData.canLay0, PyData.canLayAll0, i1, i2, e]
    rfl
theorem kd_dp {K : PySem.W.Frag} {H : Hp} : ∀ (k : Kd) (v : V), KdAt H k v → Dp K H v k.data
  | .one, _, ⟨a, e, h⟩ => by
    subst e
    exact .tup (SqT.of h) (.cons (.str _) .nil)
  | .mark m, _, ⟨a, e, h⟩ => by
    subst e
    exact .tup (SqT.of h) (.cons (.str _) (.cons (.str _) .nil))
  | .two b k l, _, ⟨a, x, y, e, h, h1, h2⟩ => by
    subst e
    exact .tup (SqT.of h) (.cons (.str _) (.cons (kd_dp k x h1) (.cons (kd_dp l y h2) .nil)))
theorem isi_at {X : Cx} {K : PySem.W.Frag} (e : X.K = K) : CallR X (.builtin "isinstance") (rIsi K) := by
  rw [← e]
  exact call_isi
theorem boot_isi : bootBuiltins "isinstance" = some (.builtin "isinstance") := by decide +kernel
theorem boot_strT : bootBuiltins "str" = some (.type "str") := by decide +kernel
/-! words of a kind, and what it is written as -/
inductive It5 where
  | w (s : Str)
  | k (k : Kd)
def sign (b : Bool) : Str := if b then "->" else "*"
def I5At (H : Hp) : It5 → V → Prop
  | .w s, v => v = .str s
  | .k c, v => KdAt H c v
theorem I5At.mono {H H' : Hp} (t : Tups H H') : ∀ (i : It5) (v : V), I5At H i v → I5At H' i v
  | .w _, _, h => h
  | .k c, v, h => KdAt.mono t c v h
def wordsK : Kd → List Str
  | .one => ["1"]
  | .mark m => [m]
  | .two b k l => "(" :: (wordsK k ++ (sign b :: (wordsK l ++ [(")" : Str)])))
def pieces : Kd → List It5
  | .one => [.w "1"]
  | .mark m => [.w m]
  | .two b k l => [.w "(", .k k, .w (sign b), .k l, .w ")"]
def itW : It5 → List Str
  | .w s => [s]
  | .k c => wordsK c
/-- what a stack still writes, its last one first -/
def denW (ks : List It5) : List Str := ks.reverse.flatMap itW
theorem denW_snoc (ks : List It5) (i : It5) : denW (ks ++ [i]) = itW i ++ denW ks := by
  unfold denW
  rw [List.reverse_append]
  rfl
theorem denW_rev (ks ls : List It5) : denW (ks ++ ls.reverse) = ls.flatMap itW ++ denW ks := by
  unfold denW
  rw [List.reverse_append, List.reverse_reverse, List.flatMap_append]
theorem pieces_w : ∀ c : Kd, (pieces c).flatMap itW = wordsK c
  | .one => rfl
  | .mark _ => rfl
  | .two b k l => by
    show [("(" : Str)] ++ (wordsK k ++ ([sign b] ++ (wordsK l ++ ([(")" : Str)] ++ [])))) = _
    rfl
def szK : Kd → Nat
  | .one => 2
  | .mark _ => 2
  | .two _ k l => szK k + szK l + 4
def szI : It5 → Nat
  | .w _ => 1
  | .k c => szK c
def szS (ks : List It5) : Nat := (ks.map szI).sum
theorem szS_app (a b : List It5) : szS (a ++ b) = szS a + szS b := by
  unfold szS
  rw [List.map_append, List.sum_append]
theorem szS_rev (a : List It5) : szS a.reverse = szS a := by
  induction a with
  | nil => rfl
  | cons x r ih =>
    rw [List.reverse_cons, szS_app, ih]
    show szS r + (szI x + 0) = szI x + szS r
    omega
theorem szI_pos : ∀ i : It5, 1 ≤ szI i
  | .w _ => Nat.le_refl 1
  | .k .one => by decide
  | .k (.mark _) => by show 1 ≤ 2; decide
  | .k (.two _ k l) => by show 1 ≤ szK k + szK l + 4; omega
theorem szS_len : ∀ a : List It5, a.length ≤ szS a
  | [] => Nat.le_refl 0
  | x :: r => by
    have := szS_len r
    have := szI_pos x
    show r.length + 1 ≤ szI x + szS r
    omega
theorem szS_pieces : ∀ c : Kd, szS (pieces c) + 1 = szK c
  | .one => rfl
  | .mark _ => rfl
  | .two b k l => by
    show 1 + (szK k + (1 + (szK l + (1 + 0)))) + 1 = szK k + szK l + 4
    omega
theorem szK_le : ∀ c : Kd, szK c + 4 ≤ 6 * c.leaves
  | .one => Nat.le_refl 6
  | .mark _ => Nat.le_refl 6
  | .two b k l => by
    have := szK_le k
    have := szK_le l
    show szK k + szK l + 4 + 4 ≤ 6 * (k.leaves + l.leaves)
    omega
theorem wordsK_len : ∀ c : Kd, (wordsK c).length + 3 = 4 * c.leaves
  | .one => rfl
  | .mark _ => rfl
  | .two b k l => by
    have := wordsK_len k
    have := wordsK_len l
    show (("(" : Str) :: (wordsK k ++ (sign b :: (wordsK l ++ [(")" : Str)])))).length + 3 = 4 * (k.leaves + l.leaves)
    simp only [List.length_cons, List.length_append, List.length_nil]
    omega
theorem wordsK_short : ∀ c : Kd, c.Ok → ∀ x ∈ wordsK c, x.length ≤ 6
  | .one, _, x, h => by
    rw [List.mem_singleton.mp h]
    decide +kernel
  | .mark m, o, x, h => by
    rw [List.mem_singleton.mp h]
    exact o.short
  | .two b k l, ⟨o1, o2⟩, x, h => by
    have h' : x = "(" ∨ x ∈ wordsK k ∨ x = sign b ∨ x ∈ wordsK l ∨ x = ")" := by
      simpa only [wordsK, List.mem_cons, List.mem_append, List.not_mem_nil, or_false] using h
    rcases h' with rfl | h | rfl | h | rfl
    · decide +kernel
    · exact wordsK_short k o1 x h
    · cases b <;> decide +kernel
    · exact wordsK_short l o2 x h
    · decide +kernel
theorem sum_short : ∀ xs : List Str, (∀ x ∈ xs, x.length ≤ 6) → (xs.map (·.length)).sum ≤ 6 * xs.length
  | [], _ => Nat.le_refl 0
  | x :: r, h => by
    have h1 := sum_short r fun y hy => h y (List.mem_cons_of_mem _ hy)
    have h2 := h x List.mem_cons_self
    show x.length + (r.map (·.length)).sum ≤ 6 * (r.length + 1)
    omega
def textK (c : Kd) : Str := Txt.join " " (wordsK c)
theorem All2.rev {α : Type} {R : α → V → Prop} : ∀ {ks : List α} {vs : List V}, All2 R ks vs → All2 R ks.reverse vs.reverse
  | [], [], h => h
  | k :: ks, v :: vs, ⟨h, t⟩ => by
    rw [List.reverse_cons, List.reverse_cons]
    exact (All2.rev t).app ⟨h, trivial⟩
  | [], _ :: _, h => h.elim
  | _ :: _, [], h => h.elim

end Kf
namespace Kg
open PySem PySem.Spec PyProof.Rows L2 GxR
section
variable {M : Model} {A : Around} {E : Value → Shared → Prop} {s : Shared}
/-- the code object of a generator expression, found in the def's table or put there -/
theorem code_any {env : Env} {c P : Addr} {tab : Array Value} {pos : Pos} {qn : Str} {scope : Scope} {Q : Value → Shared → Prop} (hc : env.code = .ref c) (cd : PySem.W.CodeHd s.heap c P)
    (hP : s.heap.get? P = some { cls := .none, data := .fields tab }) (ht : TriplesOk tab.toList)
    (k : ∀ (code : Value) (hp : Heap) (tk : Nat) (tab' : Array Value), Heap.ExtBut P s.heap hp → s.heap.objs.size ≤ hp.objs.size → hp.get? P = some { cls := .none, data := .fields tab' } → (∃ more, tab' = tab ++ more) → TriplesOk tab'.toList →
      Q code { s with heap := hp, toks := tk }) : wpAny M A (genexprCode env pos qn scope) Q E s := by
  cases hf : codeAmong pos tab.toList with
  | some cv => exact wpAny_genexprCode_hit hc (cd.code hP ht) hf (k cv s.heap s.toks tab (Heap.ExtBut.refl _ _) (Nat.le_refl _) hP ⟨#[], by simp⟩ ht)
  | none =>
    refine wpAny_genexprCodeX hc (cd.code hP ht) (cd.tab hP) hf fun c' hp tk ext lo hi isC _ isT _ => ?_
    obtain ⟨_, _, _, _, _, _, _, _, _, _, _, _, _, _, _, _, _, _, _, tri, _⟩ := isC
    exact k _ hp tk _ ext (Nat.le_of_lt (Nat.lt_of_le_of_lt lo hi)) isT.2 ⟨_, rfl⟩ tri
end
/-- a test of the sign c that may read the module's names -/
def EltG (prog : Program) (w : World) (mg : Str → Option Value) (scope : Scope) (x : Str) (elt : Expr) (pb : Nat → Bool) : Prop :=
  ∀ (ce : Env) (A : Around) (E : Value → Shared → Prop) (c : Nat) (t : Tok) (s : Shared) (m : Str → Option Value), ce.scope = scope → ce.globals = mainGlobals → s.heap.Ns mainGlobals mg → s.heap.Ns ce.locals m → m x = some (.str ⟨#[c]⟩ t) →
    wpAny (model prog w) A (eval elt ce) (fun y s' => y = .bool (pb c) ∧ Keeps s s') E s
section
variable {X : Cx} {pins : List (Addr × Obj)} {σ : L2.St} {H : Hp} {s : Shared}
theorem gen_signs {c P : Addr} {elt iter : Expr} {x : Str} {px gpos : Pos} {scope : Scope} {pb : Nat → Bool} {te : TE} {k : Nat} {Qg : Value → Shared → Prop} {R : Str → Hp → Prop}
    (hr : Room k X.A) (TB : TabB X.base X.mg c P) (hcode : X.env.code = .ref c) (S : GenS X.env scope x) (hi : PE X iter te) (el : EltG X.prog X.w X.mg scope x elt pb)
    (hs : ∀ v, genFold iter X.env v = pure v) (I : Inv X pins σ H s) (h : te σ H fun v H1 => ∃ z : Str, v = .str z ∧ TabG H1 P ∧ R z H1)
    (q : ∀ z H1 g sg, R z H1 → Ready X pins σ H1 P z pb g sg → Qg (.ref g) sg) :
    wpAny (model X.prog X.w) X.A (eval (.GeneratorExp elt [⟨.Name x px, iter, [], 0⟩] scope gpos) X.env) Qg X.xe s := by
  refine wpAny_GeneratorExp_walksQ hr.hd S.co (closure_ok S.free) S.cell S.dot S.loc S.kind ?room ?main hs
  case room =>
    have := hr.dp
    omega
  refine thn (hi.run pins s σ H _ I h) ?_
  rintro xv sa ⟨v, H1, J, rv, z, rfl, ⟨tab, hT, tri⟩, hR⟩
  obtain ⟨tok, rfl⟩ : ∃ tok, xv = Value.str z tok := rv
  refine wpAny_pyIter_str fun ob St wk st0 => ⟨J.nolimit.push ob, ?_⟩
  have atP := J.hok P _ hT
  have ltP : P < sa.heap.objs.size := Heap.lt_size atP
  have up : ∀ b u, sa.heap.get? b = some u → (sa.heap.push ob).get? b = some u := fun b u e => Heap.get?_push_of_some _ e
  refine code_any (s := { sa with heap := sa.heap.push ob }) hcode (TB.code.keeps fun b u e => up _ _ (J.bk b u e)) (up _ _ atP) tri fun code hp tk tab' ext grown atP' more tri' => ?_
  have size1 : (sa.heap.push ob).objs.size = sa.heap.objs.size + 1 := Heap.size_push ..
  have big : sa.heap.objs.size < hp.objs.size := by
    have e : (sa.heap.push ob).objs.size ≤ hp.objs.size := grown
    omega
  have keep : ∀ b u, b ≠ P → sa.heap.get? b = some u → hp.get? b = some u := fun b u n e => ext b u n (up b u e)
  have glob : hp.Ns mainGlobals X.mg := ((J.mod.glob.keeps J.bk).push ob).extBut ext TB.gP
  obtain ⟨_, stat, _⟩ := J.nolimit
  have statP : cStatics ≠ P := fun e => by
    obtain ⟨_, _, _, g1, g2, _⟩ := stat
    rw [e, atP] at g1
    cases g1
    cases g2
  obtain ⟨bm, bo, b1, b2, b3, b4, b5, b6, b7, b8⟩ := TB.bm
  refine wpAny_builtinsFor (m := X.mg) (by rw [J.ok.glob]; exact glob) b1 b2 (keep _ _ b4 (J.bk _ _ b5)) b6 b7 b8 ?_
  refine ⟨sa.heap.objs.size, [sa.heap.objs.size], [sa.heap.objs.size], z.cps.size, SignAt z, St, fun _ => true, fun i y => ∃ cc, z.cps[i]? = some cc ∧ y = .bool (pb cc), rfl, wk, ?st, ?fp, (J.nolimit.push ob).extBut ext statP, ?wr, ?quiet, ?done⟩
  case st =>
    refine (wk X.A hr.hd).frame _ _ _ st0 fun b hb u e => ext b u (fun e2 => ?_) e
    exact Nat.ne_of_lt ltP (e2.symm.trans (List.mem_singleton.mp hb))
  case fp =>
    intro b hb
    rw [List.mem_singleton.mp hb]
    exact big
  case wr =>
    intro e
    exact Nat.ne_of_lt stat.lt (List.mem_singleton.mp e)
  case quiet =>
    intro href sub
    refine ⟨?_, ?_⟩
    · intro A' E' i v s2 m2 _ _ _ _ _
      rw [List.forIn_nil]
      exact wpAny_pure ⟨rfl, keeps_refl _⟩
    · intro A' E' i v s2 m2 _ hv _ hn hm hk
      obtain ⟨cc, u, hcc, rfl⟩ := hv
      have glob2 : s2.heap.Ns mainGlobals X.mg := by
        obtain ⟨o1, es, ep, g1, g2⟩ := glob
        refine ⟨o1, es, ep, hk mainGlobals (List.mem_range.mpr (Heap.lt_size g1)) (fun e => ?_) _ (sub _ _ g1), g2⟩
        exact Nat.ne_of_lt (J.mod.glob.keeps J.bk).lt (List.mem_singleton.mp e)
      exact wpAny_mono (el _ A' E' cc u s2 m2 rfl J.ok.glob glob2 hn hm) (fun y s3 r => ⟨⟨cc, hcc, r.1⟩, r.2⟩) fun _ _ e => e
  case done =>
    intro g h5 tk5 gs bare lt5 sz5 keep5 W at0
    rw [GxR.passing_true, List.length_range] at W
    obtain ⟨more, rfl⟩ := more
    refine q z H1 g _ hR ⟨_, _, _, _, _, W.in4_1, at0, ?_, fun sz mv => ?_⟩
    · rintro j y sj Qj Ej ⟨i, hij, cc, hcc, rfl⟩ hQj
      obtain ⟨hj, ei⟩ := List.getElem?_eq_some_iff.mp hij
      rw [List.getElem_range] at ei
      subst ei
      have e9 : z.cps.toList[j]? = some cc := by
        rw [Array.getElem?_toList]
        exact hcc
      have hQ2 : Qj (trF pb z.cps.toList j) sj := hQj
      rw [trF_some e9] at hQ2
      exact wpAny_truthy_bool hQ2
    · have old : ∀ b u, sa.heap.get? b = some u → b ∉ hp.objs.size :: [sa.heap.objs.size] := fun b u e m => by
        have lb : b < sa.heap.objs.size := Heap.lt_size e
        rcases List.mem_cons.mp m with m | m
        · exact Nat.lt_asymm big (m ▸ lb)
        · exact Nat.ne_of_lt lb (List.mem_singleton.mp m)
      have J2 := inv_tab (more := more) (h' := sz.heap) (g' := sz.gens) (d' := sz.drawn) (t' := sz.toks) J hT (fun b u n e => mv.heap b u (old b u e) (keep5 b u (keep b u n e)))
        (mv.heap P _ (old P _ atP) (keep5 P _ atP')) (AllBare.movedS (J.bare.push bare) mv)
      rw [sh_eta sa sz mv.os] at J2
      exact ⟨upd H1 P (.tbl (tab ++ more)), ⟨⟨tab ++ more, upd_same, tri'⟩, fun b n => upd_ne n⟩, J2⟩
/-- all(test for x in e), e a text, the test reading the module's names -/
theorem pe_allG {c P : Addr} {elt iter : Expr} {x : Str} {px p pos gpos : Pos} {scope : Scope} {pb : Nat → Bool} {te : TE} {k : Nat}
    (hr : Room k X.A) (hg : Gl X "all") (hm : X.mg "all" = none) (hb : bootBuiltins "all" = some (.builtin "all")) (TB : TabB X.base X.mg c P) (hcode : X.env.code = .ref c) (S : GenS X.env scope x) (hi : PE X iter te) (el : EltG X.prog X.w X.mg scope x elt pb)
    (hs : ∀ v, genFold iter X.env v = pure v)
    (he : starEach [.GeneratorExp elt [⟨.Name x px, iter, [], 0⟩] scope gpos] X.env = (false, eval (.GeneratorExp elt [⟨.Name x px, iter, [], 0⟩] scope gpos) X.env) :: starEach [] X.env := by rfl) :
    PE X (.Call (.Name "all" p) [.GeneratorExp elt [⟨.Name x px, iter, [], 0⟩] scope gpos] [] pos) (tAllS P pb te) := by
  constructor
  intro pins s σ H Q I h
  refine wpAny_Call_Name_kw (ld_blt I hg hm hb (PyProof.Rows.callWith_builtin1 ?_ he (by rfl)))
  rw [he]
  refine Calls.spliced_cons (gen_signs (R := fun z H1 => ∀ H2, Tabbed P H1 H2 → Q (.bl (z.cps.toList.all pb)) H2) hr TB hcode S hi el hs I h fun z H1 g sg hR ready => ?_)
  obtain ⟨fp, wr, G, F, St, W, st0, tr, back⟩ := ready
  refine Calls.spliced_nil (call_all_walkS (W.self 0 _ _ _ st0 ⟨g, fp, wr, G, _, F, St, _, rfl, W, st0, tr, fun sz mv => ?_⟩))
  obtain ⟨H2, tb, J⟩ := back sz mv
  exact ⟨.bl _, H2, J, rfl, by rw [all_signs z pb]; exact hR H2 tb⟩
end
/-- x in NAME, NAME a text of the module -/
theorem elt_in {prog : Program} {w : World} {mg : Str → Option Value} {scope : Scope} {x g : Str} {k : Str} {t : Tok} {p1 p2 p3 : Pos} (hk : scope.kind = .function) (hl : scope.names.lookup x = some .local) (hg : scope.names.lookup g = some .globalImplicit) (hm : mg g = some (.str k t))
    (hd : (x == ("__debug__" : Str)) = false := by decide) (hd2 : (g == ("__debug__" : Str)) = false := by decide) :
    EltG prog w mg scope x (.Compare (.Name x p1) [.In] [.Name g p2] p3) (fun c => decide (c ∈ k.cps.toList)) := by
  intro ce A E c t s m hs hglob hns hn hx
  refine wpAny_Compare1 ?_
  refine wpAny_Name (wpAny_loadName_local (by rw [hs]; exact hk) (show ce.scope.names.lookup x = some .local by rw [hs]; exact hl) hn hx ?_) hd
  refine Calls.Name_function_global (by rw [hs]; exact hk) ?_ (Calls.loadGlobal_global (by rw [hglob]; exact hns) hm ?_) hd2
  · show ce.scope.names.lookup g = _
    rw [hs]
    exact hg
  · refine PyProof.Rows.in_str ⟨?_, keeps_tok _ _⟩
    rw [PySem.StrLaws.found_one k c]
end Kg
namespace Kf
open PySem L2
theorem one_sign (c : Nat) : (⟨#[c]⟩ : Str).length = 1 := rfl
/-- a def with its code object told -/
structure FunC (K : PySem.W.Frag) (x qual : Str) (st : Stmt) (f : Addr) (fd : FuncData) (c : Addr) : Prop where
  ex : ∃ (oc : Value) (od : Option Addr) (kV doc pm : Value) (an : Option Addr) (ct : Value) (osl : Array (Option Value)),
    fd = PySem.W.fnOf x qual (defArgs st) (defBody st) (defScope st) .none kV doc pm an (.ref c) ct ∧ K.lookup f = some ⟨oc, od, .func fd, osl⟩ ∧ PySem.W.codeIn K (.ref c) qual = true
  kp : PySem.W.keepIn K (.ref f) = true
theorem FunC.fun {K : PySem.W.Frag} {x qual : Str} {st : Stmt} {f : Addr} {fd : FuncData} {c : Addr} (F : FunC K x qual st f fd c) : Fun K x qual st f fd := by
  obtain ⟨oc, od, kV, doc, pm, an, ct, osl, h1, h2, h3⟩ := F.ex
  exact ⟨⟨oc, od, kV, doc, pm, an, _, ct, osl, h1, h2, h3⟩, F.kp⟩
theorem FunC.ok {P : Program} {w : World} {K : PySem.W.Frag} {mg : Str → Option Value} {base : Heap} {x qual : Str} {st : Stmt} {f : Addr} {fd : FuncData} {c : Addr} {N ps : List Str} {k : Nat} {sp : Sp} (F : FunC K x qual st f fd c) (S : FnScope N ps (defScope st))
    (len : ∀ vs H Q E, sp vs H Q E → vs.length = ps.length)
    (body : ∀ (A : Around) (outer : List Env) (s : Shared) (H : Hp) (vs : List V) (Q : VK) (E : XK), Room k (A.deeper (PyProof.Rows.envOfC qual (defScope st) s.heap.objs.size f (.ref c))) → sp vs H Q E →
      ∃ t, PSs (cxOf CX0 P w K mg base N qual (defScope st) f (.ref c) A outer s H E).nox (defBody st) t ∧ t { nx := fun _ H' => Q .non H', rt := Q } (start N vs) H) : FnOk P w K mg base CX0 (k + 1) f fd ps sp := by
  obtain ⟨oc, od, kV, doc, pm, an, ct, osl, rfl, lk, hcd⟩ := F.ex
  refine fn_of lk hcd S len fun A outer s H vs Q E hr hsp => ?_
  obtain ⟨t, h, q⟩ := body A outer s H vs Q E hr hsp
  exact ⟨t, h.nox, q⟩
/-! tables of code objects -/
/-- the top's record of a def: its code object and its empty table -/
def Told (q : Program) (mg : Str → Option Value) (h : Heap) : Prop :=
  ∀ d ∈ PyProof.Rows.recsOf q, ∃ (f : Addr) (o : Obj) (fd : FuncData) (c P : Addr), mg d.name = some (.ref f) ∧ h.get? f = some o ∧ o.data = .func fd ∧ fd.code = .ref c ∧ h.IsCode c P #[] ∧ h.TableAt c P #[]
theorem Told.tab {q : Program} {mg : Str → Option Value} {h : Heap} (T : Told q mg h) {K : PySem.W.Frag} (X : K.In h) {x : Str} (hx : ((PyProof.Rows.recsOf q).any fun e => e.name == x) = true) {f c P : Addr} (hm : mg x = some (.ref f))
    {oc : Value} {od : Option Addr} {fd : FuncData} {osl : Array (Option Value)} (l : K.lookup f = some ⟨oc, od, .func fd, osl⟩) (hc : fd.code = .ref c)
    {e : Value} {dd : Option Addr} {vs : Array Value} {sl : Array (Option Value)} (lc : K.lookup c = some ⟨e, dd, .fields vs, sl⟩) (h11 : vs[11]? = some (.ref P)) :
    PySem.W.CodeHd h c P ∧ h.get? P = some { cls := .none, data := .fields #[] } := by
  obtain ⟨d, hd, he⟩ := List.any_eq_true.mp hx
  have hn : d.name = x := beq_iff_eq.mp he
  obtain ⟨f1, o1, fd1, c1, P1, g1, g2, g3, g4, g5, g6⟩ := T d hd
  rw [hn, hm] at g1
  obtain rfl : f = f1 := by injection (Option.some.inj g1)
  rw [X _ _ l] at g2
  obtain rfl := Option.some.inj g2
  obtain rfl : fd = fd1 := by injection g3
  rw [hc] at g4
  obtain rfl : c = c1 := by injection g4
  have hd' := PySem.W.CodeHd.of g5 g6
  obtain ⟨⟨o2, v2, e1, _, e3, e4⟩, hP⟩ := g6
  rw [X _ _ lc] at e1
  obtain rfl := Option.some.inj e1
  obtain rfl : vs = v2 := by injection e3
  rw [h11] at e4
  obtain rfl : P = P1 := by injection (Option.some.inj e4)
  exact ⟨hd', hP⟩
open PySem.Spec PyProof.Rows in
theorem walk_tabs {l : PySem.W.OpenLaw} {n k : Nat} {q : Program} {loose : List Str} {XP : (Str → Option Value) → Heap → Prop} {YP : World → Heap → Prop} {d : DefRec} {K : Params → PySem.W.Frag} {CX : World → CXT} {x : Str}
    (hn : l.most = some n) (hn2 : n ≤ sizeLine) (hdf : d.params.defaults = []) (hr : Room k callerA) (hY : ∀ (w : World) (h : Heap), YP w h → (K w.params).In h)
    (F : ∀ (w : World) (mg : Str → Option Value) (fa : Addr) (h : Heap), (K w.params).In h → h.Ns mainGlobals mg → mg d.name = some (.ref fa) → Told q mg h → LamX.LawAtS l w (K w.params) (CX w) k n x mg fa h)
    (hCX : ∀ (w : World) (H : Hp) (s : Shared) (e : Value) (s' : Shared), CX w [] H s (fun _ _ _ => False) e s' → False) :
    PySem.W.WalkO q loose XP YP l.row.toRowW d [] (fun f vs => PySem.call f vs) := by
  refine Att.attach_callB hn hdf ?_
  intro w s0 s1 mg mb fa o pm cd doc a vs ns G Y ho hd hcd hmg hobj hints hlen hbits hg
  have KX := hY w _ Y
  obtain ⟨fd, cs, sp, t1, t2, t3, hb, hsp, hF⟩ := F w mg fa _ KX G.T.g hmg G.T.tab
  exact LamX.law_callTs KX G.T.g G.T.b G.T.builtins G.T.nolimit hg t1 t2 t3 G.T.bmain hobj hints (Nat.le_trans hlen hn2) hr hF hb (fun H hH hS => hsp H a ns hlen hbits hH hS) fun H e s' => hCX w H s1 e s'
theorem tb_conv {base : Heap} {mg : Str → Option Value} {c P : Addr} (h : LamX.TabB base mg c P) : GxR.TabB base mg c P := ⟨h.code, h.bm, h.gP⟩
/-! d.get of a dict of the module -/
section
variable {X : Cx} {d : Addr} {es : Array DictEntry} {n : Nat}
/-- get: what stands at the key, or None -/
def tKGet (K : PySem.W.Frag) (d : Addr) (td ty : TE) : TE := fun σ H Q => td σ H fun x H1 => x = .ref d ∧ ty σ H1 fun y H2 => ∃ (z : Str) (r : Option Value) (v : V), y = .str z ∧ PySem.W.nsIn K d z = some r ∧ RelV v (r.getD .none) ∧ Q v H2
open PySem.Spec PyProof.Rows in
theorem pe_kget {o e : Expr} {apos cpos : Pos} {td ty : TE} (D : KDict X.K X.w d es n) (ho : PE X o td) (he : PE X e ty) (m : M1 X o "get" apos e cpos) : PE X (.Call (.Attribute o "get" apos) [e] [] cpos) (tKGet X.K d td ty) := by
  constructor
  intro pins s σ H Q I h
  refine wpAny_Call_method m.base m.few m.line PySem.F.plainAttrs_dict PySem.F.slot_dict_get PySem.F.type_dict_get (thn (ho.run pins s σ H _ I h) ?_)
  rintro u s1 ⟨x, H1, I1, rx, rfl, q1⟩
  obtain rfl : u = Value.ref d := rx
  refine ⟨kd_type D I1, fun b hb => ?_, ?_⟩
  · cases hb
    exact ⟨_, I1.kIn _ _ D.at_, rfl⟩
  · rw [m.trees]
    refine Calls.callWith_builtin rfl (Calls.evalArgs_plain (Calls.spliced_cons (thn (he.run pins s1 σ H1 _ I1 q1) ?_)))
    rintro iv s2 ⟨y, H2, I2, ry, z, r, v, rfl, er, rv, q2⟩
    obtain ⟨t, rfl⟩ := ry
    refine Calls.spliced_nil ?_
    have M := PySem.W.mapOf_K (prog := X.prog) (w := X.w) I2.kIn D.at_ D.lit
    refine call_meetsIn PySem.F.slot_dict_get M.typeIs PySem.F.entry_dict_get (PySem.F.args_dict_get_2 _ _) (meets_dict_get _ d (PySem.strKind_is X.prog X.w z t) D.low) ⟨_, M, ?_⟩
    rw [PySem.W.find_K D.at_ er]
    exact ⟨v, H2, I2.tok _, rv, q2⟩
end
open GxR
def SOk (z : Str) : Prop := ∀ c ∈ z.cps.toList, c < 1114112
def low : List Nat := ((("abcdefghijklmnopqrstuvwxyz" : Str)).cps.toList)
def isMark (z : Str) : Bool := decide (1 ≤ z.length ∧ z.length ≤ 6) && z.cps.toList.all fun c => decide (c ∈ low)
theorem boot_tupleT : bootBuiltins "tuple" = some (.type "tuple") := by decide +kernel
theorem boot_listT : bootBuiltins "list" = some (.type "list") := by decide +kernel
theorem boot_allB : bootBuiltins "all" = some (.builtin "all") := by decide +kernel
theorem genS_mk {env : Env} {scope : Scope} {x : Str} (h1 : scope.kind = .function) (h2 : scope.isCoroutine = false) (h3 : ∀ y ∈ scope.names, y.2 ≠ .cell ∧ y.2 ≠ .free) (h4 : scope.names.lookup (".0" : Str) = some NameKind.local) (h5 : scope.names.lookup x = some .local) : GenS env scope x :=
  ⟨h1, h2, fun y hy => (h3 y hy).1, h4, h5, fun y hy e => absurd e (h3 y hy).2⟩
theorem Tabbed.rfl' {P : Addr} {H : Hp} (h : TabG H P) : Tabbed P H H := ⟨h, fun _ _ => rfl⟩

/-! things -/
inductive Hd where
  | s (x : Str)
  | non
  | l (x : Str)
  | m (x y : Str)
def HdAt0 (H : Hp) : Hd → V → Prop
  | .s x, v => v = .str x
  | .non, v => v = .non
  | .l x, v => ∃ a, v = .ref a ∧ H a = some (.lst [.str x])
  | .m x y, v => ∃ a, v = .ref a ∧ H a = some (.tup [.str x, .str y])
def HOk : Hd → Prop
  | .s x => SOk x
  | .non => True
  | .l x => SOk x
  | .m x y => SOk x ∧ SOk y
def HdAt (H : Hp) (h : Hd) (v : V) : Prop := HdAt0 H h v ∧ HOk h
theorem so_one : SOk "one" := by unfold SOk; decide +kernel
theorem so_mark : SOk "mark" := by unfold SOk; decide +kernel
theorem so_to : SOk "to" := by unfold SOk; decide +kernel
theorem so_both : SOk "both" := by unfold SOk; decide +kernel
inductive Th where
  | atom (u : V)
  | lst
  | dct
  | t0
  | t1 (h : Hd)
  | t2 (h : Hd) (b : Th)
  | t3 (h : Hd) (b c : Th)
  | t4 (h : Hd)
def ThAt (H : Hp) : Th → V → Prop
  | .atom u, v => v = u ∧ flatV u = true ∧ ∀ z, u = .str z → z.length ≤ 1000 ∧ SOk z
  | .lst, v => ∃ a xs, v = .ref a ∧ H a = some (.lst xs)
  | .dct, v => ∃ a, v = .ref a ∧ H a = some (.dK [])
  | .t0, v => ∃ a, v = .ref a ∧ H a = some (.tup [])
  | .t1 h, v => ∃ a x, v = .ref a ∧ H a = some (.tup [x]) ∧ HdAt H h x
  | .t2 h b, v => ∃ a x y, v = .ref a ∧ H a = some (.tup [x, y]) ∧ HdAt H h x ∧ ThAt H b y
  | .t3 h b c, v => ∃ a x y z, v = .ref a ∧ H a = some (.tup [x, y, z]) ∧ HdAt H h x ∧ ThAt H b y ∧ ThAt H c z
  | .t4 h, v => ∃ a x y z u, v = .ref a ∧ H a = some (.tup [x, y, z, u]) ∧ HdAt H h x
/-- what stood, but tables of code objects, stands -/
def Ev (P1 : Addr) (H H' : Hp) : Prop := TabG H' P1 ∧ ∀ b o, (∀ ps, o ≠ .tbl ps) → H b = some o → H' b = some o
theorem Ev.trans {P1 : Addr} {H H1 H2 : Hp} (a : Ev P1 H H1) (b : Ev P1 H1 H2) : Ev P1 H H2 := ⟨b.1, fun c o n e => b.2 c o n (a.2 c o n e)⟩
theorem tab_non {H : Hp} {P b : Addr} {o : HO} (h : TabG H P) (n : ∀ ps, o ≠ .tbl ps) (e : H b = some o) : b ≠ P := fun z => by
  obtain ⟨ps, q, _⟩ := h
  rw [z, q] at e
  exact n ps (Option.some.inj e).symm
theorem tab_same {H H' : Hp} {P : Addr} (h : TabG H P) (s : Same H H') : TabG H' P := by
  obtain ⟨ps, e, t⟩ := h
  exact ⟨ps, s _ _ e, t⟩
theorem ev_same {P1 : Addr} {H H' : Hp} (h : TabG H P1) (s : Same H H') : Ev P1 H H' := ⟨tab_same h s, fun b o _ e => s b o e⟩
theorem ev_tab {P1 : Addr} {H H' : Hp} (h : TabG H P1) (t : Tabbed P1 H H') : Ev P1 H H' := ⟨t.1, fun b o n e => (t.2 b (tab_non h n e)).trans e⟩
theorem ev_over {P1 T : Addr} {H H2 : Hp} {o : HO} (e : Ev P1 H H2) (h : H T = none) (hl : ∃ u, H2 T = some u ∧ ∀ ps, u ≠ .tbl ps) : Ev P1 H (upd H2 T o) := by
  obtain ⟨u, hu, nu⟩ := hl
  refine ⟨?_, fun b q n eq => ?_⟩
  · obtain ⟨ps, q, t⟩ := e.1
    refine ⟨ps, ?_, t⟩
    rw [upd_ne (fun z => by rw [z, hu] at q; exact nu ps (Option.some.inj q))]
    exact q
  · rw [upd_ne (ne_of_none eq h)]
    exact e.2 b q n eq
theorem HdAt.ev {P1 : Addr} {H H' : Hp} (e : Ev P1 H H') : ∀ (h : Hd) (v : V), HdAt H h v → HdAt H' h v
  | .s _, _, q => q
  | .non, _, q => q
  | .l _, _, ⟨⟨a, q1, q2⟩, o⟩ => ⟨⟨a, q1, e.2 _ _ (fun _ z => by cases z) q2⟩, o⟩
  | .m _ _, _, ⟨⟨a, q1, q2⟩, o⟩ => ⟨⟨a, q1, e.2 _ _ (fun _ z => by cases z) q2⟩, o⟩
theorem ThAt.ev {P1 : Addr} {H H' : Hp} (e : Ev P1 H H') : ∀ (t : Th) (v : V), ThAt H t v → ThAt H' t v
  | .atom _, _, q => q
  | .lst, _, ⟨a, xs, q1, q2⟩ => ⟨a, xs, q1, e.2 _ _ (fun _ z => by cases z) q2⟩
  | .dct, _, ⟨a, q1, q2⟩ => ⟨a, q1, e.2 _ _ (fun _ z => by cases z) q2⟩
  | .t0, _, ⟨a, q1, q2⟩ => ⟨a, q1, e.2 _ _ (fun _ z => by cases z) q2⟩
  | .t1 h, _, ⟨a, x, q1, q2, q3⟩ => ⟨a, x, q1, e.2 _ _ (fun _ z => by cases z) q2, q3.ev e⟩
  | .t2 h b, _, ⟨a, x, y, q1, q2, q3, q4⟩ => ⟨a, x, y, q1, e.2 _ _ (fun _ z => by cases z) q2, q3.ev e, ThAt.ev e b y q4⟩
  | .t3 h b c, _, ⟨a, x, y, z, q1, q2, q3, q4, q5⟩ => ⟨a, x, y, z, q1, e.2 _ _ (fun _ z => by cases z) q2, q3.ev e, ThAt.ev e b y q4, ThAt.ev e c z q5⟩
  | .t4 h, _, ⟨a, x, y, z, u, q1, q2, q3⟩ => ⟨a, x, y, z, u, q1, e.2 _ _ (fun _ z => by cases z) q2, q3.ev e⟩
namespace Th
def isT : Th → Bool
  | t0 | t1 _ | t2 _ _ | t3 _ _ _ | t4 _ => true
  | _ => false
def isS : Th → Bool
  | atom (.str _) => true
  | _ => false
def markT : Th → Bool
  | atom (.str z) => isMark z
  | _ => false
def form : Th → Bool
  | t1 (.s x) => decide (x = "one")
  | t2 (.s x) b => decide (x = "mark") && b.markT
  | t3 (.s x) _ _ => decide (x = "to") || decide (x = "both")
  | _ => false
def kids : Th → List Th
  | t3 _ b c => [b, c]
  | _ => []
def gd : Th → Nat → Bool
  | _, 0 => false
  | t3 h b c, r + 1 => (t3 h b c).form && (gd b r && gd c r)
  | t, _ + 1 => t.form
def lv : Th → Nat
  | t3 _ b c => b.lv + c.lv
  | _ => 1
def sz : Th → Nat
  | t3 _ b c => b.sz + c.sz + 1
  | _ => 1
def isK (t : Th) : Bool := t.gd 13 && decide (t.lv ≤ 24)
theorem lv_pos : ∀ t : Th, 0 < t.lv
  | t3 _ b c => by
    have := lv_pos b
    show 0 < b.lv + c.lv
    omega
  | atom _ | lst | dct | t0 | t1 _ | t2 _ _ | t4 _ => Nat.one_pos
theorem sz_pos : ∀ t : Th, 0 < t.sz
  | t3 _ b c => Nat.succ_pos _
  | atom _ | lst | dct | t0 | t1 _ | t2 _ _ | t4 _ => Nat.one_pos
end Th
theorem th_tup {K : PySem.W.Frag} {H : Hp} : ∀ (t : Th) (v : V), ThAt H t v → ∃ ty : String, TyX K H v (.type ty) ∧ PySem.W.kitOne K (.type ty) (.type "tuple") = some t.isT ∧ PySem.W.kitOne K (.type ty) (.type "str") = some t.isS
  | .atom u, _, ⟨e, f, _⟩ => by
    rw [e]
    clear e
    cases u with
    | non => exact ⟨"NoneType", .base .non, kit_ty (r := false) (by decide +kernel), kit_ty (r := false) (by decide +kernel)⟩
    | bl b => exact ⟨"bool", .base (.bl b), kit_ty (r := false) (by decide +kernel), kit_ty (r := false) (by decide +kernel)⟩
    | int i => exact ⟨"int", .base (.int i), kit_ty (r := false) (by decide +kernel), kit_ty (r := false) (by decide +kernel)⟩
    | str z => exact ⟨"str", .base (.str z), kit_ty (r := false) (by decide +kernel), kit_ty (r := true) (by decide +kernel)⟩
    | _ => cases f
  | .lst, _, ⟨a, xs, e, q⟩ => ⟨"list", e ▸ .base (.lst q), kit_ty (r := false) (by decide +kernel), kit_ty (r := false) (by decide +kernel)⟩
  | .dct, _, ⟨a, e, q⟩ => ⟨"dict", e ▸ .base (.dK q), kit_ty (r := false) (by decide +kernel), kit_ty (r := false) (by decide +kernel)⟩
  | .t0, _, ⟨a, e, q⟩ => ⟨"tuple", e ▸ .base (.tup q), kit_ty (r := true) (by decide +kernel), kit_ty (r := false) (by decide +kernel)⟩
  | .t1 _, _, ⟨a, x, e, q, _⟩ => ⟨"tuple", e ▸ .base (.tup q), kit_ty (r := true) (by decide +kernel), kit_ty (r := false) (by decide +kernel)⟩
  | .t2 _ _, _, ⟨a, x, y, e, q, _⟩ => ⟨"tuple", e ▸ .base (.tup q), kit_ty (r := true) (by decide +kernel), kit_ty (r := false) (by decide +kernel)⟩
  | .t3 _ _ _, _, ⟨a, x, y, z, e, q, _⟩ => ⟨"tuple", e ▸ .base (.tup q), kit_ty (r := true) (by decide +kernel), kit_ty (r := false) (by decide +kernel)⟩
  | .t4 _, _, ⟨a, x, y, z, u, e, q, _⟩ => ⟨"tuple", e ▸ .base (.tup q), kit_ty (r := true) (by decide +kernel), kit_ty (r := false) (by decide +kernel)⟩
def Hd.isS : Hd → Bool
  | .s _ => true
  | _ => false
theorem hd_str {K : PySem.W.Frag} {H : Hp} : ∀ (h : Hd) (v : V), HdAt H h v → ∃ ty : String, TyX K H v (.type ty) ∧ PySem.W.kitOne K (.type ty) (.type "str") = some h.isS
  | .s x, _, ⟨e, _⟩ => ⟨"str", e ▸ .base (.str x), kit_ty (r := true) (by decide +kernel)⟩
  | .non, _, ⟨e, _⟩ => ⟨"NoneType", e ▸ .base .non, kit_ty (r := false) (by decide +kernel)⟩
  | .l x, _, ⟨⟨a, e, q⟩, _⟩ => ⟨"list", e ▸ .base (.lst q), kit_ty (r := false) (by decide +kernel)⟩
  | .m x y, _, ⟨⟨a, e, q⟩, _⟩ => ⟨"tuple", e ▸ .base (.tup q), kit_ty (r := false) (by decide +kernel)⟩
def spMark (P1 : Addr) : Sp := fun vs H Q _ => ∃ (v : V) (t : Th), vs = [v] ∧ ThAt H t v ∧ TabG H P1 ∧ ∀ H', Ev P1 H H' → Q (.bl t.markT) H'
section
variable {P : Program} {w : World} {K : PySem.W.Frag} {mg : Str → Option Value} {base : Heap}
theorem scMark : FnScope ["text"] ["text"] (defScope sMark) := ⟨rfl, rfl, rfl, by decide +kernel, rfl, by decide +kernel, by decide +kernel⟩
theorem ok_mark {f c P1 : Addr} {fd : FuncData} {t1 t2 : Tok} (F : FunC K "is_mark" "is_mark" sMark f fd c) (TB : TabB base mg c P1) (mIs : mg "isinstance" = none) (mStr : mg "str" = none) (mLen : mg "len" = none) (mAll : mg "all" = none)
    (gL : mg "LETTERS" = some (.str "abcdefghijklmnopqrstuvwxyz" t1)) (gN : mg "LONGEST" = some (.int 6 t2)) : FnOk P w K mg base CX0 1 f fd ["text"] (spMark P1) := by
  refine F.ok scMark (fun vs H Q E h => ?_) (fun A outer s H vs Q E hr h => ?_)
  · obtain ⟨v, t, rfl, _⟩ := h
    rfl
  · obtain ⟨v, t, rfl, hv, ht, k⟩ := h
    refine ⟨_, pss_cons (ps_if (PW.pt (pw_or (pt_not (pt_val (pe_callB (isi_at (K := K) rfl) (by rfl) mIs boot_isi (pa_cons (pv 0) (pa_cons (pe_bltn (v := .ty "str") (by rfl) mStr boot_strT rfl) pa_nil)))))
          (pw_or1 (pt_not (pt_chain op_le op_le pe_int (pe_callB call_len_str (by rfl) mLen PySem.boot_len (pa_cons (pv 0) pa_nil)) (pe_glob (v := .int 6) (by rfl) gN ⟨_, rfl⟩)))))) (pss_one (ps_ret pe_bl)) pss_nil)
      (pss_one (ps_ret (Kg.pe_allG hr (by rfl) mAll boot_allB TB rfl (genS_mk rfl rfl (by decide +kernel) rfl rfl) (pv 0) (Kg.elt_in rfl rfl rfl gL) (fun _ => rfl)))), ?_⟩
    obtain ⟨ty, h1, _, h3⟩ := th_tup (K := K) t v hv
    refine ⟨_, rfl, _, _, _, _, t.isS, rfl, .ty "str", h1, h3, t.isS, rfl, ?_⟩
    have self : Ev P1 H H := ev_same ht (Same.refl H)
    have out : t.isS = false → t.markT = false := fun e => by
      cases t with
      | atom u => cases u <;> first | rfl | cases e
      | _ => rfl
    cases hS : t.isS with
    | false =>
      refine iteT ?_
      have q := k H self
      rw [out hS] at q
      exact q
    | true =>
      obtain ⟨z, rfl⟩ : ∃ z, t = .atom (.str z) := by
        cases t with
        | atom u => cases u <;> first | exact ⟨_, rfl⟩ | cases hS
        | _ => cases hS
      obtain ⟨rfl, _, hz⟩ := hv
      obtain ⟨hz, _⟩ := hz z rfl
      refine iteF ?_
      refine ⟨_, rfl, z, rfl, small40 hz, _, _, rfl, rfl, ?_⟩
      refine ⟨_, rfl, ?_⟩
      by_cases h1 : (1 : Int) ≤ (z.length : Int)
      · rw [decide_eq_true h1]
        refine iteT ?_
        refine ⟨_, _, rfl, rfl, _, rfl, ?_⟩
        by_cases h2 : (z.length : Int) ≤ 6
        · rw [decide_eq_true h2]
          refine iteF ?_
          refine ⟨_, rfl, z, rfl, ht, fun H2 hT => ?_⟩
          have e : isMark z = z.cps.toList.all fun c => decide (c ∈ low) := by
            unfold isMark
            rw [decide_eq_true (by omega), Bool.true_and]
          have q : Q (.bl (isMark z)) H2 := k H2 (ev_tab ht hT)
          rw [e] at q
          exact q
        · rw [decide_eq_false h2]
          refine iteT ?_
          have e : isMark z = false := by
            unfold isMark
            rw [decide_eq_false (by omega), Bool.false_and]
          have q : Q (.bl (isMark z)) H := k H self
          rw [e] at q
          exact q
      · rw [decide_eq_false h1]
        refine iteF ?_
        refine ⟨_, rfl, ?_⟩
        refine iteT ?_
        have e : isMark z = false := by
          unfold isMark
          rw [decide_eq_false (by omega), Bool.false_and]
        have q : Q (.bl (isMark z)) H := k H self
        rw [e] at q
        exact q
end
def lenN (z : Str) : Option Nat := if z = "mark" then some 2 else if z = "one" then some 1 else if z = "to" then some 3 else if z = "both" then some 3 else none
def lenV (z : Str) : V := match lenN z with
  | some n => .int (n : Int)
  | none => .non
def lenD (z : Str) : PyData := match lenN z with
  | some n => .int (n : Int)
  | none => .none
theorem lenV_dp {K : PySem.W.Frag} {H : Hp} (z : Str) : Dp K H (lenV z) (lenD z) := by
  unfold lenV lenD
  cases lenN z with
  | some n => exact .int _
  | none => exact .non
theorem lenD_shaped (z : Str) : SeqAt.shaped (lenD z) = true := by
  unfold lenD
  cases lenN z with
  | some n => rfl
  | none => rfl
theorem lenD_eqv (z : Str) (n : Nat) : PyData.eqv (lenD z) (.int (n : Int)) = decide (lenN z = some n) := by
  unfold lenD
  cases lenN z with
  | some m =>
    simp only [PyData.eqv]
    rw [Bool.eq_iff_iff]
    simp
    omega
  | none =>
    simp only [PyData.eqv]
    rw [decide_eq_false (by simp)]
theorem lenN_no (z : Str) (n : Nat) (h : n = 0 ∨ 4 ≤ n) : lenN z ≠ some n := by
  unfold lenN
  intro e
  split at e
  · injection e with e
    omega
  · split at e
    · injection e with e
      omega
    · split at e
      · injection e with e
        omega
      · split at e
        · injection e with e
          omega
        · cases e
theorem lenN_one {z : Str} (h : lenN z = some 1) : z = "one" := by
  unfold lenN at h
  split at h
  · cases h
  · split at h
    · assumption
    · split at h
      · cases h
      · split at h <;> cases h
theorem lenN_two {z : Str} (h : lenN z = some 2) : z = "mark" := by
  unfold lenN at h
  split at h
  · assumption
  · split at h
    · cases h
    · split at h
      · cases h
      · split at h <;> cases h
theorem lenN_three {z : Str} (h : lenN z = some 3) : z ≠ "mark" ∧ (decide (z = "to") || decide (z = "both")) = true := by
  unfold lenN at h
  split at h
  · cases h
  · rename_i h1
    refine ⟨h1, ?_⟩
    split at h
    · cases h
    · split at h
      · rename_i h3
        rw [decide_eq_true h3]
        rfl
      · split at h
        · rename_i h4
          rw [decide_eq_true h4, Bool.or_true]
        · cases h
def spForm (P1 : Addr) : Sp := fun vs H Q _ => ∃ (v : V) (t : Th), vs = [v] ∧ ThAt H t v ∧ TabG H P1 ∧ ∀ H', Ev P1 H H' → Q (.bl t.form) H'
def spKin (P1 : Addr) : Sp := fun vs H Q _ => ∃ (v : V) (t : Th) (H0 : Hp), vs = [v] ∧ ThAt H0 t v ∧ Ev P1 H0 H ∧ t.form = true ∧
  ∀ (D : Addr) (xs : List V) (H' : Hp), H D = none → H' D = some (.lst xs) → Same H H' → All2 (ThAt H0) t.kids xs → Q (.ref D) H'
section
variable {P : Program} {w : World} {K : PySem.W.Frag} {mg : Str → Option Value} {base : Heap}
theorem scForm : FnScope ["thing", "word"] ["thing"] (defScope sForm) := ⟨rfl, rfl, rfl, by decide +kernel, rfl, by decide +kernel, by decide +kernel⟩
theorem ok_form {f fM P1 L : Addr} {fd fdM : FuncData} {es : Array DictEntry} {nn : Nat} (F : Fun K "has_form" "has_form" sForm f fd) (GM : FnOk P w K mg base CX0 1 fM fdM ["text"] (spMark P1)) (kM : PySem.W.keepIn K (.ref fM) = true) (bM : Binds K fdM ["text"] []) (gM : mg "is_mark" = some (.ref fM))
    (D : KDict K w L es nn) (gD : mg "LENGTHS" = some (.ref L)) (hLen : ∀ z : Str, ∃ r, PySem.W.nsIn K L z = some r ∧ RelV (lenV z) (r.getD .none))
    (mIs : mg "isinstance" = none) (mStr : mg "str" = none) (mLen : mg "len" = none) (mTuple : mg "tuple" = none) : FnOk P w K mg base CX0 2 f fd ["thing"] (spForm P1) := by
  refine F.ok scForm (fun vs H Q E h => ?_) (fun cdv A outer s H vs Q E hr h => ?_)
  · obtain ⟨v, t, rfl, _⟩ := h
    rfl
  · obtain ⟨v, t, rfl, hv, ht, k⟩ := h
    refine ⟨_, pss_cons (ps_if (PW.pt (pw_or (pt_not (pt_val (pe_callB (isi_at (K := K) rfl) (by rfl) mIs boot_isi (pa_cons (pv 0) (pa_cons (pe_bltn (v := .ty "tuple") (by rfl) mTuple boot_tupleT rfl) pa_nil)))))
          (pw_or1 (pt_cmpR op_eq (pe_callB call_len_seq (by rfl) mLen PySem.boot_len (pa_cons (pv 0) pa_nil)) pe_int (nomark _))))) (pss_one (ps_ret pe_bl)) pss_nil)
      (pss_cons (ps_set (i := 1) scForm.nd rfl (Or.inl rfl) (pe_ix ix_tup (pv 0) pe_int (fun _ _ => rfl)))
      (pss_cons (ps_if (PW.pt (pw_or (pt_not (pt_val (pe_callB (isi_at (K := K) rfl) (by rfl) mIs boot_isi (pa_cons (pv 1) (pa_cons (pe_bltn (v := .ty "str") (by rfl) mStr boot_strT rfl) pa_nil)))))
          (pw_or1 (pt_cmpR (op_neD hr.units) (pe_kget D (pe_glob (v := .ref L) (by rfl) gD rfl) (pv 1) ⟨by rfl, by rfl, by rfl, by rfl⟩) (pe_callB call_len_seq (by rfl) mLen PySem.boot_len (pa_cons (pv 0) pa_nil)) (nomark _))))) (pss_one (ps_ret pe_bl)) pss_nil)
      (pss_one (ps_ret (pe_or (pe_cmpR op_ne (pv 1) pe_str (nomark _)) (pe_one (pe_call GM hr (by rfl) gM kM bM .nil pass0 (pa_cons (pe_ix ix_tup (pv 0) pe_int (fun _ _ => rfl)) pa_nil)))))))), ?_⟩
    have self : Ev P1 H H := ev_same ht (Same.refl H)
    cases t with
    | atom u =>
      obtain ⟨ty, h1, h2, _⟩ := th_tup (K := K) _ v hv
      refine ⟨_, rfl, _, _, _, _, false, rfl, .ty "tuple", h1, h2, false, rfl, ?_⟩
      refine iteT ?_
      exact k H self
    | lst =>
      obtain ⟨ty, h1, h2, _⟩ := th_tup (K := K) _ v hv
      refine ⟨_, rfl, _, _, _, _, false, rfl, .ty "tuple", h1, h2, false, rfl, ?_⟩
      refine iteT ?_
      exact k H self
    | dct =>
      obtain ⟨ty, h1, h2, _⟩ := th_tup (K := K) _ v hv
      refine ⟨_, rfl, _, _, _, _, false, rfl, .ty "tuple", h1, h2, false, rfl, ?_⟩
      refine iteT ?_
      exact k H self
    | t0 =>
      obtain ⟨a, rfl, ha⟩ := hv
      refine ⟨_, rfl, _, _, _, _, true, rfl, .ty "tuple", .base (.tup ha), kit_ty (r := true) (by decide +kernel), true, rfl, ?_⟩
      refine iteF ?_
      refine ⟨_, rfl, a, _, rfl, .inr (SqT.of ha), rfl, _, rfl, ?_⟩
      refine ite2 (fun _ => k H self) (fun y => absurd (by show decide (V.int ((0 : Nat) : Int) = V.int 0) = true; decide +kernel) y)
    | t1 h =>
      obtain ⟨a, x, rfl, ha, hx⟩ := hv
      refine ⟨_, rfl, _, _, _, _, true, rfl, .ty "tuple", .base (.tup ha), kit_ty (r := true) (by decide +kernel), true, rfl, ?_⟩
      refine iteF ?_
      refine ⟨_, rfl, a, _, rfl, .inr (SqT.of ha), rfl, _, rfl, ?_⟩
      refine ite2 (fun y => by cases y) (fun _ => ?_)
      refine ⟨_, rfl, a, _, _, _, rfl, rfl, SqT.of ha, atI_nat (j := 0) rfl, ?_⟩
      obtain ⟨ty, g1, g2⟩ := hd_str (K := K) h x hx
      refine ⟨_, rfl, _, _, _, _, h.isS, rfl, .ty "str", g1, g2, h.isS, rfl, ?_⟩
      cases h with
      | s w0 =>
        obtain rfl : x = V.str w0 := hx.1
        refine iteF ?_
        obtain ⟨r, er, rr⟩ := hLen w0
        refine ⟨rfl, _, rfl, w0, r, lenV w0, rfl, er, rr, ?_⟩
        refine ⟨_, rfl, a, _, rfl, .inr (SqT.of ha), lenD w0, .int 1, lenV_dp w0, .int _, lenD_shaped w0, by decide +kernel, _, rfl, ?_⟩
        have ev : PyData.eqv (lenD w0) (.int 1) = decide (lenN w0 = some 1) := lenD_eqv w0 1
        rw [ev]
        by_cases hl : lenN w0 = some 1
        · rw [decide_eq_true hl]
          refine iteF ?_
          have e1 := lenN_one hl
          subst e1
          refine ⟨_, rfl, rfl, true, rfl, ?_⟩
          refine iteT ?_
          exact k H self
        · rw [decide_eq_false hl]
          refine iteT ?_
          have q := k H self
          have e : (Th.t1 (.s w0)).form = false := decide_eq_false (fun z => hl (by rw [z]; decide +kernel))
          rw [e] at q
          exact q
      | non =>
        refine iteT ?_
        exact k H self
      | l w0 =>
        refine iteT ?_
        exact k H self
      | m w0 w1 =>
        refine iteT ?_
        exact k H self
    | t2 h b =>
      obtain ⟨a, x, y, rfl, ha, hx, hb⟩ := hv
      refine ⟨_, rfl, _, _, _, _, true, rfl, .ty "tuple", .base (.tup ha), kit_ty (r := true) (by decide +kernel), true, rfl, ?_⟩
      refine iteF ?_
      refine ⟨_, rfl, a, _, rfl, .inr (SqT.of ha), rfl, _, rfl, ?_⟩
      refine ite2 (fun y => by cases y) (fun _ => ?_)
      refine ⟨_, rfl, a, _, _, _, rfl, rfl, SqT.of ha, atI_nat (j := 0) rfl, ?_⟩
      obtain ⟨ty, g1, g2⟩ := hd_str (K := K) h x hx
      refine ⟨_, rfl, _, _, _, _, h.isS, rfl, .ty "str", g1, g2, h.isS, rfl, ?_⟩
      cases h with
      | s w0 =>
        obtain rfl : x = V.str w0 := hx.1
        refine iteF ?_
        obtain ⟨r, er, rr⟩ := hLen w0
        refine ⟨rfl, _, rfl, w0, r, lenV w0, rfl, er, rr, ?_⟩
        refine ⟨_, rfl, a, _, rfl, .inr (SqT.of ha), lenD w0, .int 2, lenV_dp w0, .int _, lenD_shaped w0, by decide +kernel, _, rfl, ?_⟩
        have ev : PyData.eqv (lenD w0) (.int 2) = decide (lenN w0 = some 2) := lenD_eqv w0 2
        rw [ev]
        by_cases hl : lenN w0 = some 2
        · rw [decide_eq_true hl]
          refine iteF ?_
          have e1 := lenN_two hl
          subst e1
          refine ⟨_, rfl, rfl, false, rfl, ?_⟩
          refine iteF ?_
          refine ⟨_, rfl, a, _, _, _, rfl, rfl, SqT.of ha, atI_nat (j := 1) rfl, y, b, rfl, hb, ht, fun H' e => ?_⟩
          have q := k H' e
          have e2 : (Th.t2 (.s "mark") b).form = b.markT := by
            show (decide ((("mark" : Str)) = "mark") && b.markT) = _
            rw [decide_eq_true rfl, Bool.true_and]
          rw [e2] at q
          exact q
        · rw [decide_eq_false hl]
          refine iteT ?_
          have q := k H self
          have e : (Th.t2 (.s w0) b).form = false := by
            show (decide (w0 = "mark") && b.markT) = _
            rw [decide_eq_false (fun z => hl (by rw [z]; decide +kernel)), Bool.false_and]
          rw [e] at q
          exact q
      | non =>
        refine iteT ?_
        exact k H self
      | l w0 =>
        refine iteT ?_
        exact k H self
      | m w0 w1 =>
        refine iteT ?_
        exact k H self
    | t3 h b c0 =>
      obtain ⟨a, x, y, z, rfl, ha, hx, hb, hc⟩ := hv
      refine ⟨_, rfl, _, _, _, _, true, rfl, .ty "tuple", .base (.tup ha), kit_ty (r := true) (by decide +kernel), true, rfl, ?_⟩
      refine iteF ?_
      refine ⟨_, rfl, a, _, rfl, .inr (SqT.of ha), rfl, _, rfl, ?_⟩
      refine ite2 (fun y => by cases y) (fun _ => ?_)
      refine ⟨_, rfl, a, _, _, _, rfl, rfl, SqT.of ha, atI_nat (j := 0) rfl, ?_⟩
      obtain ⟨ty, g1, g2⟩ := hd_str (K := K) h x hx
      refine ⟨_, rfl, _, _, _, _, h.isS, rfl, .ty "str", g1, g2, h.isS, rfl, ?_⟩
      cases h with
      | s w0 =>
        obtain rfl : x = V.str w0 := hx.1
        refine iteF ?_
        obtain ⟨r, er, rr⟩ := hLen w0
        refine ⟨rfl, _, rfl, w0, r, lenV w0, rfl, er, rr, ?_⟩
        refine ⟨_, rfl, a, _, rfl, .inr (SqT.of ha), lenD w0, .int 3, lenV_dp w0, .int _, lenD_shaped w0, by decide +kernel, _, rfl, ?_⟩
        have ev : PyData.eqv (lenD w0) (.int 3) = decide (lenN w0 = some 3) := lenD_eqv w0 3
        rw [ev]
        by_cases hl : lenN w0 = some 3
        · rw [decide_eq_true hl]
          refine iteF ?_
          obtain ⟨n1, n2⟩ := lenN_three hl
          refine ⟨_, rfl, rfl, true, ?_, ?_⟩
          · rw [decide_eq_false (fun z => n1 (by injection z))]
            rfl
          refine iteT ?_
          have q := k H self
          have e : (Th.t3 (.s w0) b c0).form = true := n2
          rw [e] at q
          exact q
        · rw [decide_eq_false hl]
          refine iteT ?_
          have q := k H self
          have e : (Th.t3 (.s w0) b c0).form = false := by
            show (decide (w0 = "to") || decide (w0 = "both")) = _
            rw [decide_eq_false (fun z => hl (by rw [z]; decide +kernel)), decide_eq_false (fun z => hl (by rw [z]; decide +kernel))]
            rfl
          rw [e] at q
          exact q
      | non =>
        refine iteT ?_
        exact k H self
      | l w0 =>
        refine iteT ?_
        exact k H self
      | m w0 w1 =>
        refine iteT ?_
        exact k H self
    | t4 h =>
      obtain ⟨a, x, y, z, u, rfl, ha, hx⟩ := hv
      refine ⟨_, rfl, _, _, _, _, true, rfl, .ty "tuple", .base (.tup ha), kit_ty (r := true) (by decide +kernel), true, rfl, ?_⟩
      refine iteF ?_
      refine ⟨_, rfl, a, _, rfl, .inr (SqT.of ha), rfl, _, rfl, ?_⟩
      refine ite2 (fun y => by cases y) (fun _ => ?_)
      refine ⟨_, rfl, a, _, _, _, rfl, rfl, SqT.of ha, atI_nat (j := 0) rfl, ?_⟩
      obtain ⟨ty, g1, g2⟩ := hd_str (K := K) h x hx
      refine ⟨_, rfl, _, _, _, _, h.isS, rfl, .ty "str", g1, g2, h.isS, rfl, ?_⟩
      cases h with
      | s w0 =>
        obtain rfl : x = V.str w0 := hx.1
        refine iteF ?_
        obtain ⟨r, er, rr⟩ := hLen w0
        refine ⟨rfl, _, rfl, w0, r, lenV w0, rfl, er, rr, ?_⟩
        refine ⟨_, rfl, a, _, rfl, .inr (SqT.of ha), lenD w0, .int 4, lenV_dp w0, .int _, lenD_shaped w0, by decide +kernel, _, rfl, ?_⟩
        have ev : PyData.eqv (lenD w0) (.int 4) = decide (lenN w0 = some 4) := lenD_eqv w0 4
        rw [ev]
        by_cases hl : lenN w0 = some 4
        · exact absurd hl (lenN_no w0 4 (by decide))
        · rw [decide_eq_false hl]
          refine iteT ?_
          exact k H self
      | non =>
        refine iteT ?_
        exact k H self
      | l w0 =>
        refine iteT ?_
        exact k H self
      | m w0 w1 =>
        refine iteT ?_
        exact k H self
end
theorem form_t1 {h : Hd} (e : (Th.t1 h).form = true) : h = .s "one" := by
  cases h with
  | s x => rw [of_decide_eq_true (show decide (x = "one") = true from e)]
  | _ => cases e
theorem form_t2 {h : Hd} {b : Th} (e : (Th.t2 h b).form = true) : h = .s "mark" := by
  cases h with
  | s x =>
    have e' : (decide (x = "mark") && b.markT) = true := e
    rw [of_decide_eq_true (Bool.and_eq_true_iff.mp e').1]
  | _ => cases e
theorem form_t3 {h : Hd} {b c : Th} (e : (Th.t3 h b c).form = true) : ∃ x, h = .s x ∧ decide (V.str x = V.str "mark") = false := by
  cases h with
  | s x =>
    refine ⟨x, rfl, ?_⟩
    have e' : (decide (x = "to") || decide (x = "both")) = true := e
    rcases Bool.or_eq_true_iff.mp e' with z | z
    · rw [of_decide_eq_true z]
      decide +kernel
    · rw [of_decide_eq_true z]
      decide +kernel
  | _ => cases e
/-! the stack -/
def QAt (H0 H : Hp) (q : Th × Nat) (v : V) : Prop := ∃ t x, v = .ref t ∧ H t = some (.tup [x, .int (q.2 : Int)]) ∧ ThAt H0 q.1 x
theorem QAt.same {H0 H H' : Hp} (s : Same H H') (q : Th × Nat) (v : V) : QAt H0 H q v → QAt H0 H' q v := fun ⟨t, x, e, h, k⟩ => ⟨t, x, e, s _ _ h, k⟩
def gS (ks : List (Th × Nat)) : Bool := ks.all fun q => q.1.gd (13 - q.2)
def lS : List (Th × Nat) → Nat
  | [] => 0
  | q :: r => q.1.lv + lS r
def zS : List (Th × Nat) → Nat
  | [] => 0
  | q :: r => q.1.sz + zS r
theorem gS_app (a b : List (Th × Nat)) : gS (a ++ b) = (gS a && gS b) := List.all_append
theorem lS_app : ∀ a b : List (Th × Nat), lS (a ++ b) = lS a + lS b
  | [], b => (Nat.zero_add _).symm
  | q :: a, b => by
    show q.1.lv + lS (a ++ b) = q.1.lv + lS a + lS b
    rw [lS_app a b]
    omega
theorem zS_app : ∀ a b : List (Th × Nat), zS (a ++ b) = zS a + zS b
  | [], b => (Nat.zero_add _).symm
  | q :: a, b => by
    show q.1.sz + zS (a ++ b) = q.1.sz + zS a + zS b
    rw [zS_app a b]
    omega
theorem zS_len : ∀ a : List (Th × Nat), a.length ≤ zS a
  | [] => Nat.le_refl _
  | q :: a => by
    have h := zS_len a
    have p := q.1.sz_pos
    show a.length + 1 ≤ q.1.sz + zS a
    omega
theorem gd_small : ∀ (t : Th) (r : Nat), t.form = false → t.gd r = false
  | _, 0, _ => by unfold Th.gd; rfl
  | .t3 h b c, r + 1, e => by unfold Th.gd; rw [e]; rfl
  | .atom _, r + 1, e => by unfold Th.gd; exact e
  | .lst, r + 1, e => by unfold Th.gd; exact e
  | .dct, r + 1, e => by unfold Th.gd; exact e
  | .t0, r + 1, e => by unfold Th.gd; exact e
  | .t1 _, r + 1, e => by unfold Th.gd; exact e
  | .t2 _ _, r + 1, e => by unfold Th.gd; exact e
  | .t4 _, r + 1, e => by unfold Th.gd; exact e
theorem gd_step : ∀ (t : Th) (r : Nat), t.form = true → t.gd (r + 1) = gS (t.kids.map fun k => (k, 13 - r)) ∨ 13 < r
  | .t3 h b c, r, e => by
    rcases Nat.lt_or_ge 13 r with z | z
    · exact .inr z
    · refine .inl ?_
      have e2 : 13 - (13 - r) = r := by omega
      unfold Th.gd
      rw [e, Bool.true_and]
      show _ = (b.gd (13 - (13 - r)) && (c.gd (13 - (13 - r)) && true))
      rw [e2, Bool.and_true]
  | .atom _, _, e => by cases e
  | .lst, _, e => by cases e
  | .dct, _, e => by cases e
  | .t0, _, e => by cases e
  | .t1 _, r, e => .inl (by unfold Th.gd; rw [e]; rfl)
  | .t2 _ _, r, e => .inl (by unfold Th.gd; rw [e]; rfl)
  | .t4 _, _, e => by
    rename_i h
    cases h <;> cases e
theorem kids_empty {t : Th} (h : t.kids = []) : t.lv = 1 ∧ t.sz = 1 := by
  cases t with
  | t3 _ _ _ => cases h
  | _ => exact ⟨rfl, rfl⟩
theorem kids_full {t : Th} (h : t.kids ≠ []) : ∃ b c, t.kids = [b, c] ∧ t.lv = b.lv + c.lv ∧ t.sz = b.sz + c.sz + 1 := by
  cases t with
  | t3 _ b c => exact ⟨b, c, rfl, rfl, rfl⟩
  | _ => exact absurd rfl h
def spIsK (P1 : Addr) : Sp := fun vs H Q _ => ∃ (v : V) (t : Th), vs = [v] ∧ ThAt H t v ∧ t.sz ≤ 500 ∧ TabG H P1 ∧ ∀ H', Ev P1 H H' → Q (.bl t.isK) H'
section
variable {P : Program} {w : World} {K : PySem.W.Frag} {mg : Str → Option Value} {base : Heap}
theorem scKin : FnScope ["kind"] ["kind"] (defScope sKin) := ⟨rfl, rfl, rfl, by decide +kernel, rfl, by decide +kernel, by decide +kernel⟩
theorem ok_kin {f P1 : Addr} {fd : FuncData} (F : Fun K "kinds_in" "kinds_in" sKin f fd) (mList : mg "list" = none) : FnOk P w K mg base CX0 1 f fd ["kind"] (spKin P1) := by
  refine F.ok scKin (fun vs H Q E h => ?_) (fun cdv A outer s H vs Q E hr h => ?_)
  · obtain ⟨v, k, _, rfl, _⟩ := h
    rfl
  · obtain ⟨v, t, H0, rfl, hv, hev, hf, k⟩ := h
    have up : ∀ (b : Addr) (xs : List V), H0 b = some (.tup xs) → H b = some (.tup xs) := fun b xs e => hev.2 _ _ (fun _ z => by cases z) e
    refine ⟨_, pss_cons (ps_if (pt_cmpR op_eq (pe_ix ix_tup (pv 0) pe_int (fun _ _ => rfl)) pe_str (nomark _)) (pss_one (ps_ret (pe_lst pa_nil))) pss_nil)
      (pss_one (ps_ret (pe_callTy call_list_of (by rfl) mList (by decide +kernel) (pa_cons (pe_slice sl_tup (pv 0) (po_some pe_int) po_none) pa_nil)))), ?_⟩
    cases t with
    | t1 h =>
      obtain rfl := form_t1 hf
      obtain ⟨a, x, rfl, ha, hx⟩ := hv
      replace ha := up _ _ ha
      obtain rfl : x = V.str "one" := hx.1
      refine ⟨_, rfl, a, _, _, _, rfl, rfl, SqT.of ha, atI_nat (j := 0) rfl, rfl, _, rfl, ?_⟩
      refine ite2 (fun h => absurd h (by decide +kernel)) (fun _ => ?_)
      refine ⟨_, rfl, _, rfl, a, _, rfl, SqT.of ha, by decide, fun p hp => ?_⟩
      refine ⟨p, _, rfl, .inr (SqT.of upd_same), fun l hl => ?_⟩
      exact k l [] _ ((same_new hp).free hl) upd_same (Same.trans (same_new hp) (same_new hl)) trivial
    | t2 h b =>
      obtain rfl := form_t2 hf
      obtain ⟨a, x, y, rfl, ha, hx, hb⟩ := hv
      replace ha := up _ _ ha
      obtain rfl : x = V.str "mark" := hx.1
      refine ⟨_, rfl, a, _, _, _, rfl, rfl, SqT.of ha, atI_nat (j := 0) rfl, rfl, _, rfl, ?_⟩
      refine ite2 (fun _ => ?_) (fun h => absurd (by decide +kernel) h)
      exact ⟨by show 0 ≤ sizeLine; decide, fun l hl => k l [] _ hl upd_same (same_new hl) trivial⟩
    | t3 h b c =>
      obtain ⟨w0, rfl, hw⟩ := form_t3 hf
      obtain ⟨a, x, y, z, rfl, ha, hx, hb, hc⟩ := hv
      replace ha := up _ _ ha
      obtain rfl : x = V.str w0 := hx.1
      refine ⟨_, rfl, a, _, _, _, rfl, rfl, SqT.of ha, atI_nat (j := 0) rfl, rfl, _, rfl, ?_⟩
      rw [hw]
      refine iteF ?_
      refine ⟨_, rfl, _, rfl, a, _, rfl, SqT.of ha, by show ¬ (HT.sIx 3 0 (some 1) = 0 ∧ HT.sIx 3 3 none = 3); decide, fun p hp => ?_⟩
      refine ⟨p, _, rfl, .inr (SqT.of upd_same), fun l hl => ?_⟩
      exact k l [y, z] _ ((same_new hp).free hl) upd_same (Same.trans (same_new hp) (same_new hl)) ⟨hb, hc, trivial⟩
    | t4 h => cases h <;> cases hf
    | _ => cases hf
theorem scIsK : FnScope ["thing", "leaves", "todo", "part", "depth", "inner", "kind"] ["thing"] (defScope sIsK) := ⟨rfl, rfl, rfl, by decide +kernel, rfl, by decide +kernel, by decide +kernel⟩
theorem ok_isK {f fF fK P1 : Addr} {fd fdF fdK : FuncData} {u1 u2 : Tok} (F : Fun K "is_kind" "is_kind" sIsK f fd)
    (GF : FnOk P w K mg base CX0 2 fF fdF ["thing"] (spForm P1)) (kF : PySem.W.keepIn K (.ref fF) = true) (bF : Binds K fdF ["thing"] []) (gF : mg "has_form" = some (.ref fF))
    (GK : FnOk P w K mg base CX0 1 fK fdK ["kind"] (spKin P1)) (kK : PySem.W.keepIn K (.ref fK) = true) (bK : Binds K fdK ["kind"] []) (gK : mg "kinds_in" = some (.ref fK))
    (gD : mg "DEEPEST" = some (.int 12 u1)) (gL : mg "MOST_LEAVES" = some (.int 24 u2)) : FnOk P w K mg base CX0 3 f fd ["thing"] (spIsK P1) := by
  refine F.ok scIsK (fun vs H Q E h => ?_) (fun cdv A outer s H vs Q E hr h => ?_)
  · obtain ⟨v, t, rfl, _⟩ := h
    rfl
  · obtain ⟨v, t, rfl, hv, hz, ht, k⟩ := h
    have hr1 : Room 1 _ := hr.mono (by omega)
    refine ⟨_, pss_cons (ps_set (i := 1) scIsK.nd rfl (Or.inl rfl) pe_int)
      (pss_cons (ps_set (i := 2) scIsK.nd rfl (Or.inl rfl) (pe_lst (pa_cons (pe_tup (pa_cons (pv 0) (pa_cons pe_int pa_nil))) pa_nil)))
      (pss_cons (ps_while PassesOwn.never (pt_truth (pv 2) (by intro _; rfl))
        (pss_cons (ps_asg (pe_bm0 PySem.F.plainAttrs_list PySem.F.slot_list_pop PySem.F.type_list_pop mt_pop (pv 2)) (pg_tup (by rfl) (pgs_cons (pg_name (i := 3) scIsK.nd rfl (Or.inl rfl)) (pgs_cons (pg_name (i := 4) scIsK.nd rfl (Or.inl rfl)) pgs_nil))))
        (pss_cons (ps_if (PW.pt (pw_or (pt_cmpR op_gt (pv 4) (pe_glob (v := .int 12) (by rfl) gD ⟨_, rfl⟩) (nomark _)) (pw_or1 (pt_not (pt_val (pe_call GF hr (by rfl) gF kF bF .nil pass0 (pa_cons (pv 3) pa_nil))))))) (pss_one (ps_ret pe_bl)) pss_nil)
        (pss_cons (ps_set (i := 5) scIsK.nd rfl (Or.inl rfl) (pe_call GK hr1 (by rfl) gK kK bK .nil pass0 (pa_cons (pv 3) pa_nil)))
        (pss_cons (ps_if (pt_not (pt_truth (pv 5) (by intro _; rfl))) (pss_one (ps_aug (i := 1) scIsK.nd rfl (Or.inl rfl) pe_int ip_add)) pss_nil)
        (pss_cons (ps_if (pt_cmpR op_gt (pv 1) (pe_glob (v := .int 24) (by rfl) gL ⟨_, rfl⟩) (nomark _)) (pss_one (ps_ret pe_bl)) pss_nil)
        (pss_one (ps_for PassesOwn.never rfl (pi_list (pv 5)) (pg_name (i := 6) scIsK.nd rfl (Or.inl rfl))
          (pss_one (ps_expr (pe_bm PySem.F.plainAttrs_list PySem.F.slot_list_append PySem.F.type_list_append mt_append (pv 2) (pa_cons (pe_tup (pa_cons (pv 6) (pa_cons (pe_op op_add (pv 4) pe_int) pa_nil))) pa_nil))))))))))))
      (pss_one (ps_ret pe_bl)))), ?_⟩
    refine ⟨_, rfl, by show 2 ≤ sizeLine; decide, fun t0 ht0 => ⟨by show 1 ≤ sizeLine; decide, fun T hT1 => ?_⟩⟩
    have hT : H T = none := (same_new ht0).free hT1
    have S0 : Same H (upd (upd H t0 (.tup [v, .int 0])) T (.lst [.ref t0])) := Same.trans (same_new ht0) (same_new hT1)
    have n0 : t0 ≠ T := fun z => by rw [← z, upd_same] at hT1; cases hT1
    refine ⟨fun m σ H2 => ∃ (ks : List (Th × Nat)) (vs : List V) (i3 i4 i5 i6 : Option V) (n : Nat), σ = [some v, some (.int (n : Int)), some (.ref T), i3, i4, i5, i6] ∧ H2 T = some (.lst vs) ∧ All2 (QAt H H2) ks vs ∧ Ev P1 H H2 ∧
        (gS ks && decide (n + lS ks ≤ 24)) = t.isK ∧ m = zS ks ∧ zS ks ≤ 500 ∧ n ≤ 24,
      ⟨t.sz, [(t, 0)], [.ref t0], none, none, none, none, 0, rfl, upd_same, ⟨⟨t0, v, rfl, ?_, hv⟩, trivial⟩, ev_same ht S0, ?_, ?_, ?_, by omega⟩, ?_⟩
    · rw [upd_ne n0, upd_same]
      rfl
    · show ((t.gd 13 && true) && decide (0 + (t.lv + 0) ≤ 24)) = _
      rw [Bool.and_true, Nat.zero_add, Nat.add_zero]
      rfl
    · show t.sz = t.sz + 0
      omega
    · show t.sz + 0 ≤ 500
      omega
    rintro m σ H2 ⟨ks, vs, i3, i4, i5, i6, n, rfl, hvs, hA, hE, hI, hm, hq, hn⟩
    refine ⟨_, rfl, _, .inl ⟨_, SqL.of hvs, rfl⟩, ?_⟩
    by_cases he : vs = []
    · subst he
      refine iteF ?_
      obtain rfl : ks = [] := List.eq_nil_of_length_eq_zero hA.len
      have e : t.isK = true := by
        rw [← hI]
        show (true && decide (n + 0 ≤ 24)) = true
        rw [decide_eq_true (by omega)]
        rfl
      have q := k H2 hE
      rw [e] at q
      exact q
    · obtain ⟨ls, ⟨tx, d⟩, y, rfl, ev, hl2, hr2, hy⟩ := hA.last he
      have e1 : (!vs.isEmpty) = true := by cases vs with | nil => exact absurd rfl he | cons a r => rfl
      rw [if_pos e1]
      obtain ⟨tt, x, rfl, htt, hx⟩ := hr2
      have kT : ∀ b o, b ≠ T → H2 b = some o → (upd H2 T (.lst vs.dropLast)) b = some o := fun b o nb e => by rw [upd_ne nb]; exact e
      have nt : ∀ (q : Th × Nat) (u : V), QAt H H2 q u → QAt H (upd H2 T (.lst vs.dropLast)) q u := fun q u ⟨a, b, h1, h2, h3⟩ => ⟨a, b, h1, kT a _ (ne_of h2 hvs (by intro z; cases z)) h2, h3⟩
      have hls := hl2.mono nt
      have hE1 : Ev P1 H (upd H2 T (.lst vs.dropLast)) := ev_over hE hT ⟨_, hvs, fun ps z => by cases z⟩
      have hT3 : (upd H2 T (.lst vs.dropLast)) T = some (.lst vs.dropLast) := upd_same
      have htt3 := kT tt _ (ne_of htt hvs (by intro z; cases z)) htt
      rw [gS_app, lS_app] at hI
      rw [zS_app] at hm hq
      change m = zS ls + (tx.sz + 0) at hm
      change zS ls + (tx.sz + 0) ≤ 500 at hq
      change ((gS ls && (tx.gd (13 - d) && true)) && decide (n + (lS ls + (tx.lv + 0)) ≤ 24)) = _ at hI
      rw [Bool.and_true, Nat.add_zero] at hI
      have zp := tx.sz_pos
      have lp := tx.lv_pos
      have zl := zS_len ls
      have zv := hl2.len
      refine ⟨_, fun _ _ z => z, ?_⟩
      refine ⟨_, rfl, .inl ⟨rfl, _, .inl (.inl hvs)⟩, T, vs, _, rfl, rfl, hvs, hy, ?_⟩
      generalize upd H2 T (.lst vs.dropLast) = H3 at *
      refine ⟨tt, _, rfl, SqT.of htt3, rfl, ?_⟩
      refine ⟨_, _, rfl, _, _, rfl, rfl, ?_⟩
      refine ⟨_, rfl, _, _, rfl, rfl, _, rfl, ?_⟩
      by_cases hd : (12 : Int) < (d : Int)
      · refine ite2 (fun _ => ?_) (fun y => absurd (decide_eq_true hd) y)
        refine iteT ?_
        have e : t.isK = false := by
          rw [← hI]
          have e2 : 13 - d = 0 := by omega
          rw [e2]
          unfold Th.gd
          rw [Bool.and_false, Bool.false_and]
        have q := k H3 hE1
        rw [e] at q
        exact q
      · refine ite2 (fun y => absurd (of_decide_eq_true y) hd) (fun _ => ?_)
        refine ⟨_, rfl, x, tx, rfl, hx.ev hE1, hE1.1, fun H4 e34 => ⟨tx.form, rfl, ?_⟩⟩
        have hE4 := hE1.trans e34
        cases hf : tx.form with
        | false =>
          refine iteT ?_
          have e : t.isK = false := by
            rw [← hI, gd_small tx _ hf, Bool.and_false, Bool.false_and]
          have q := k H4 hE4
          rw [e] at q
          exact q
        | true =>
          refine iteF ?_
          refine ⟨_, rfl, x, tx, H, rfl, hx, hE4, hf, fun D xs H5 hD hDx s5 hkids => ?_⟩
          have hE5 := hE4.trans (ev_same hE4.1 s5)
          have e35 := e34.trans (ev_same hE4.1 s5)
          have hT4 := e34.2 _ _ (fun ps z => by cases z) hT3
          have hT5 := s5 _ _ hT4
          have nDT : D ≠ T := fun z => by rw [z, hT4] at hD; cases hD
          have hls5 : All2 (QAt H H5) ls vs.dropLast := hls.mono fun q u ⟨a, b, h1, h2, h3⟩ => ⟨a, b, h1, e35.2 _ _ (fun ps z => by cases z) h2, h3⟩
          have zk := hkids.len
          have gstep : tx.gd (13 - d) = gS (tx.kids.map fun k => (k, d + 1)) := by
            have e2 : 13 - d = (12 - d) + 1 := by omega
            have e3 : 13 - (12 - d) = d + 1 := by omega
            rcases gd_step tx (12 - d) hf with z | z
            · rw [e2, z, e3]
            · omega
          by_cases hkd : tx.kids = []
          · obtain ⟨lv1, sz1⟩ := kids_empty hkd
            rw [hkd] at zk
            have hx0 : xs = [] := List.eq_nil_of_length_eq_zero zk.symm
            have e3 : (!(!xs.isEmpty)) = true := by rw [hx0]; rfl
            refine ⟨_, rfl, _, .inl ⟨_, SqL.of hDx, rfl⟩, ?_⟩
            refine ite2 (fun _ => ?_) (fun z => absurd e3 z)
            refine ⟨_, rfl, _, _, rfl, rfl, ?_⟩
            refine ⟨_, rfl, _, _, rfl, rfl, _, rfl, ?_⟩
            by_cases hc : (24 : Int) < (n : Int) + 1
            · refine ite2 (fun _ => ?_) (fun y => absurd (decide_eq_true hc) y)
              have e : t.isK = false := by
                rw [← hI, decide_eq_false (by omega), Bool.and_false]
              have q := k H5 hE5
              rw [e] at q
              exact q
            · refine ite2 (fun y => absurd (of_decide_eq_true y) hc) (fun _ => ?_)
              rw [← hkd] at zk
              have lk : lS (tx.kids.map fun k => (k, d + 1)) = 0 := by rw [hkd]; rfl
              have zk2 : zS (tx.kids.map fun k => (k, d + 1)) = 0 := by rw [hkd]; rfl
              have kl : tx.kids.length = 0 := by rw [hkd]; rfl
              refine ⟨_, rfl, D, rfl, ⟨_, SqL.of hDx⟩, for_list (K := K) (a := D) (xs := xs) (fun i σ H6 => ∃ (us : List V) (i6 : Option V), σ = [some v, some (.int ((n + 1 : Nat) : Int)), some (.ref T), some x, some (.int (d : Int)), some (.ref D), i6] ∧ H6 T = some (.lst us) ∧
                All2 (QAt H H6) (ls ++ (tx.kids.take i).map fun q => (q, d + 1)) us ∧ Ev P1 H H6 ∧ H6 D = some (.lst xs))
                ⟨vs.dropLast, i6, rfl, hT5, by rw [List.take_zero, List.map_nil, List.append_nil]; exact hls5, hE5, hDx⟩ (fun i σ H6 _ ⟨_, _, _, _, _, _, g⟩ => SqL.of g) ?_ ?_⟩
              · rintro i y H6s H6 hi ⟨us, j6, rfl, hu, hA6, hE6, hD6⟩
                obtain ⟨q, hq1, hq2⟩ := hkids.get hi
                have hil : i < xs.length := (List.getElem?_eq_some_iff.mp hi).1
                have zl6 := hA6.len
                rw [List.length_append, List.length_map, List.length_take] at zl6
                refine ⟨_, rfl, .inl ⟨rfl, _, .inl (.inl hu)⟩, _, rfl, _, rfl, _, _, rfl, rfl, (by show 2 ≤ sizeLine; decide), fun tn htn => ?_⟩
                have st : Same H6 (upd H6 tn (.tup [y, .int ((d : Int) + 1)])) := same_new htn
                have fn : (upd H6 tn (.tup [y, .int ((d : Int) + 1)])) tn = some (.tup [y, .int ((d : Int) + 1)]) := upd_same
                have hE7 := hE6.trans (ev_same hE6.1 st)
                have ntT : tn ≠ T := fun z => by rw [z, hu] at htn; cases htn
                generalize upd H6 tn (.tup [y, .int ((d : Int) + 1)]) = H7 at *
                refine ⟨T, us, _, rfl, rfl, st _ _ hu, small1000 (by omega), ?_⟩
                have kT7 : ∀ b o, b ≠ T → H7 b = some o → (upd H7 T (.lst (us ++ [.ref tn]))) b = some o := fun b o nb e => by rw [upd_ne nb]; exact e
                refine ⟨us ++ [.ref tn], some y, rfl, upd_same, ?_, ev_over hE7 hT ⟨_, st _ _ hu, fun ps z => by cases z⟩, kT7 _ _ nDT (st _ _ hD6)⟩
                rw [List.take_add_one, hq1, List.map_append, ← List.append_assoc]
                refine (hA6.mono fun q u ⟨a, b, h1, h2, h3⟩ => ⟨a, b, h1, kT7 a _ (ne_of (st _ _ h2) (st _ _ hu) (by intro z; cases z)) (st _ _ h2), h3⟩).app (ls := [(q, d + 1)]) (us := [V.ref tn]) ⟨⟨tn, y, rfl, kT7 _ _ ntT fn, hq2⟩, trivial⟩
              · rintro H6s H6 ⟨us, j6, rfl, hu, hA6, hE6, hD6⟩
                rw [← zk, List.take_length] at hA6
                refine ⟨zS ls, by omega, _, us, _, _, _, _, (n + 1 : Nat), rfl, hu, hA6, hE6, ?_, ?_, ?_, by omega⟩
                · rw [gS_app, lS_app, ← gstep]
                  rw [← hI]
                  rw [lk, lv1, show n + 1 + (lS ls + 0) = n + (lS ls + 1) by omega]
                · rw [zS_app, zk2] <;> omega
                · rw [zS_app, zk2] <;> omega
          · obtain ⟨b, c, hbc, lv2, sz2⟩ := kids_full hkd
            rw [hbc] at zk
            change 2 = _ at zk
            have e2 : (!(!xs.isEmpty)) = false := by cases xs with | nil => cases zk | cons a r => rfl
            refine ⟨_, rfl, _, .inl ⟨_, SqL.of hDx, rfl⟩, ?_⟩
            refine ite2 (fun z => by rw [e2] at z; cases z) (fun _ => ?_)
            refine ⟨_, rfl, _, _, rfl, rfl, _, rfl, ?_⟩
            refine ite2 (fun y => absurd (of_decide_eq_true y) (by omega)) (fun _ => ?_)
            have kl : tx.kids.length = 2 := by rw [hbc]; rfl
            have zk : tx.kids.length = xs.length := by rw [kl]; exact zk
            have lk : lS (tx.kids.map fun k => (k, d + 1)) = b.lv + c.lv := by
              rw [hbc]
              show b.lv + (c.lv + 0) = _
              omega
            have zk2 : zS (tx.kids.map fun k => (k, d + 1)) = b.sz + c.sz := by
              rw [hbc]
              show b.sz + (c.sz + 0) = _
              omega
            refine ⟨_, rfl, D, rfl, ⟨_, SqL.of hDx⟩, for_list (K := K) (a := D) (xs := xs) (fun i σ H6 => ∃ (us : List V) (i6 : Option V), σ = [some v, some (.int (n : Int)), some (.ref T), some x, some (.int (d : Int)), some (.ref D), i6] ∧ H6 T = some (.lst us) ∧
              All2 (QAt H H6) (ls ++ (tx.kids.take i).map fun q => (q, d + 1)) us ∧ Ev P1 H H6 ∧ H6 D = some (.lst xs))
              ⟨vs.dropLast, i6, rfl, hT5, by rw [List.take_zero, List.map_nil, List.append_nil]; exact hls5, hE5, hDx⟩ (fun i σ H6 _ ⟨_, _, _, _, _, _, g⟩ => SqL.of g) ?_ ?_⟩
            · rintro i y H6s H6 hi ⟨us, j6, rfl, hu, hA6, hE6, hD6⟩
              obtain ⟨q, hq1, hq2⟩ := hkids.get hi
              have hil : i < xs.length := (List.getElem?_eq_some_iff.mp hi).1
              have zl6 := hA6.len
              rw [List.length_append, List.length_map, List.length_take] at zl6
              refine ⟨_, rfl, .inl ⟨rfl, _, .inl (.inl hu)⟩, _, rfl, _, rfl, _, _, rfl, rfl, (by show 2 ≤ sizeLine; decide), fun tn htn => ?_⟩
              have st : Same H6 (upd H6 tn (.tup [y, .int ((d : Int) + 1)])) := same_new htn
              have fn : (upd H6 tn (.tup [y, .int ((d : Int) + 1)])) tn = some (.tup [y, .int ((d : Int) + 1)]) := upd_same
              have hE7 := hE6.trans (ev_same hE6.1 st)
              have ntT : tn ≠ T := fun z => by rw [z, hu] at htn; cases htn
              generalize upd H6 tn (.tup [y, .int ((d : Int) + 1)]) = H7 at *
              refine ⟨T, us, _, rfl, rfl, st _ _ hu, small1000 (by omega), ?_⟩
              have kT7 : ∀ b o, b ≠ T → H7 b = some o → (upd H7 T (.lst (us ++ [.ref tn]))) b = some o := fun b o nb e => by rw [upd_ne nb]; exact e
              refine ⟨us ++ [.ref tn], some y, rfl, upd_same, ?_, ev_over hE7 hT ⟨_, st _ _ hu, fun ps z => by cases z⟩, kT7 _ _ nDT (st _ _ hD6)⟩
              rw [List.take_add_one, hq1, List.map_append, ← List.append_assoc]
              refine (hA6.mono fun q u ⟨a, b, h1, h2, h3⟩ => ⟨a, b, h1, kT7 a _ (ne_of (st _ _ h2) (st _ _ hu) (by intro z; cases z)) (st _ _ h2), h3⟩).app (ls := [(q, d + 1)]) (us := [V.ref tn]) ⟨⟨tn, y, rfl, kT7 _ _ ntT fn, hq2⟩, trivial⟩
            · rintro H6s H6 ⟨us, j6, rfl, hu, hA6, hE6, hD6⟩
              rw [← zk, List.take_length] at hA6
              refine ⟨zS ls + (b.sz + c.sz), by omega, _, us, _, _, _, _, n, rfl, hu, hA6, hE6, ?_, ?_, ?_, by omega⟩
              · rw [gS_app, lS_app, ← gstep]
                rw [← hI]
                rw [lk, lv2]
              · rw [zS_app, zk2] <;> omega
              · rw [zS_app, zk2] <;> omega
end
theorem str_assoc (a b c : Str) : a ++ b ++ c = a ++ (b ++ c) := by
  apply TL.ext_tl
  show ((a.cps ++ b.cps) ++ c.cps).toList = (a.cps ++ (b.cps ++ c.cps)).toList
  simp
theorem join_two (s : Str) : ∀ (x : Str) (xs : List Str) (y : Str) (ys : List Str), Txt.join s ((x :: xs) ++ (y :: ys)) = Txt.join s (x :: xs) ++ s ++ Txt.join s (y :: ys) := by
  intro x xs y ys
  rw [TL.join_eq, TL.join_eq, TL.join_eq]
  induction xs generalizing x with
  | nil => rfl
  | cons z r ih =>
    show x ++ s ++ Str.join s ((z :: r) ++ (y :: ys)) = (x ++ s ++ Str.join s (z :: r)) ++ s ++ Str.join s (y :: ys)
    rw [ih z]
    simp only [str_assoc]
theorem wordsK_ne : ∀ c : Kd, ∃ x xs, wordsK c = x :: xs
  | .one => ⟨_, _, rfl⟩
  | .mark _ => ⟨_, _, rfl⟩
  | .two _ _ _ => ⟨_, _, rfl⟩
theorem textK_two (b : Bool) (k l : Kd) : textK (.two b k l) = "( " ++ textK k ++ " " ++ sign b ++ " " ++ textK l ++ " )" := by
  obtain ⟨x, xs, ek⟩ := wordsK_ne k
  obtain ⟨y, ys, el⟩ := wordsK_ne l
  unfold textK
  show Txt.join " " ((("(" : Str) :: []) ++ (wordsK k ++ (sign b :: (wordsK l ++ [(")" : Str)])))) = _
  rw [ek, el]
  show Txt.join " " ((("(" : Str) :: []) ++ (x :: (xs ++ (sign b :: ((y :: ys) ++ [(")" : Str)]))))) = _
  rw [join_two]
  show _ ++ Txt.join " " ((x :: xs) ++ (sign b :: ((y :: ys) ++ [(")" : Str)]))) = _
  rw [join_two]
  show _ ++ (_ ++ Txt.join " " ((sign b :: []) ++ (y :: (ys ++ [(")" : Str)])))) = _
  rw [join_two]
  show _ ++ (_ ++ (_ ++ Txt.join " " ((y :: ys) ++ [(")" : Str)]))) = _
  rw [join_two]
  have e1 : ∀ z : Str, Txt.join " " [z] = z := fun z => by rw [TL.join_eq]; rfl
  rw [e1, e1, e1]
  have e2 : ("( " : Str) = "(" ++ " " := by decide +kernel
  have e3 : (" )" : Str) = " " ++ ")" := by decide +kernel
  rw [e2, e3]
  simp only [str_assoc]
theorem len_app (a b : Str) : (a ++ b).length = a.length + b.length := by
  show (a.cps ++ b.cps).size = a.cps.size + b.cps.size
  exact Array.size_append
theorem textK_one : textK .one = "1" := by
  unfold textK
  rw [TL.join_eq]
  rfl
theorem textK_mark (m : Str) : textK (.mark m) = m := by
  unfold textK
  rw [TL.join_eq]
  rfl
theorem sign_len (b : Bool) : (sign b).length ≤ 2 := by cases b <;> decide +kernel
theorem textK_len : ∀ c : Kd, c.Ok → (textK c).length + 8 ≤ 16 * c.leaves
  | .one, _ => by
    rw [textK_one]
    decide +kernel
  | .mark m, o => by
    rw [textK_mark]
    have := o.short
    show m.length + 8 ≤ 16
    omega
  | .two b k l, ⟨o1, o2⟩ => by
    have h1 := textK_len k o1
    have h2 := textK_len l o2
    have h3 := sign_len b
    have e1 : ("( " : Str).length = 2 := by decide +kernel
    have e2 : (" " : Str).length = 1 := by decide +kernel
    have e3 : (" )" : Str).length = 2 := by decide +kernel
    rw [textK_two]
    simp only [len_app, e1, e2, e3]
    show _ ≤ 16 * (k.leaves + l.leaves)
    omega
def spText (n : Nat) : Sp := fun vs H Q _ => ∃ (v : V) (c : Kd), vs = [v] ∧ KdAt H c v ∧ c.deep < n ∧ c.leaves ≤ 1000 ∧ c.Ok ∧ ∀ H', Same H H' → Q (.str (textK c)) H'
section
variable {P : Program} {w : World} {K : PySem.W.Frag} {mg : Str → Option Value} {base : Heap}
theorem scText : FnScope ["_law_kind_here", "_law_sign"] ["_law_kind_here"] (defScope sText) := ⟨rfl, rfl, rfl, by decide +kernel, rfl, by decide +kernel, by decide +kernel⟩
theorem ok_text {f : Addr} {fd : FuncData} (F : Fun K "_law_text" "_law_text" sText f fd) (bF : Binds K fd ["_law_kind_here"] []) (gF : mg "_law_text" = some (.ref f)) (mLen : mg "len" = none) (mInt : mg "int" = none) :
    ∀ n : Nat, FnOk P w K mg base CX0 (n + 1) f fd ["_law_kind_here"] (spText n) := by
  intro n
  induction n with
  | zero =>
    refine F.ok scText (fun vs H Q E h => ?_) (fun cdv A outer s H vs Q E hr h => ?_)
    · obtain ⟨v, k, rfl, _⟩ := h
      rfl
    · obtain ⟨v, k, _, _, h1, _⟩ := h
      omega
  | succ n GK =>
    refine F.ok scText (fun vs H Q E h => ?_) (fun cdv A outer s H vs Q E hr h => ?_)
    · obtain ⟨v, k, rfl, _⟩ := h
      rfl
    · obtain ⟨v, kd, rfl, hk, hn, hl, hok, k⟩ := h
      refine ⟨_, pss_cons (ps_if (pt_cmpR op_eq (pe_callB call_len_seq (by rfl) mLen PySem.boot_len (pa_cons (pv 0) pa_nil)) pe_int (nomark _)) (pss_one (ps_ret pe_str)) pss_nil)
        (pss_cons (ps_if (pt_cmpR op_eq (pe_callB call_len_seq (by rfl) mLen PySem.boot_len (pa_cons (pv 0) pa_nil)) pe_int (nomark _)) (pss_one (ps_ret (pe_ix ix_tup (pv 0) pe_int (fun _ _ => rfl)))) pss_nil)
        (pss_cons (ps_set (i := 1) scText.nd rfl (Or.inl rfl) (pe_ix ix_list (pe_lst (pa_cons pe_str (pa_cons pe_str pa_nil))) (pe_callTy call_int1 (by rfl) mInt (by decide +kernel) (pa_cons (pe_cmpR op_eq (pe_ix ix_tup (pv 0) pe_int (fun _ _ => rfl)) pe_str (nomark _)) pa_nil)) (fun _ _ => rfl)))
        (pss_one (ps_ret (pe_op op_add_str (pe_op op_add_str (pe_op op_add_str (pe_op op_add_str (pe_op op_add_str (pe_op op_add_str pe_str (pe_call GK hr (by rfl) gF F.kp bF .nil pass0 (pa_cons (pe_ix ix_tup (pv 0) pe_int (fun _ _ => rfl)) pa_nil))) pe_str) (pv 1)) pe_str) (pe_call GK hr (by rfl) gF F.kp bF .nil pass0 (pa_cons (pe_ix ix_tup (pv 0) pe_int (fun _ _ => rfl)) pa_nil))) pe_str))))), ?_⟩
      cases kd with
      | one =>
        obtain ⟨a, rfl, ha⟩ := hk
        refine ⟨_, rfl, a, _, rfl, .inr (SqT.of ha), rfl, _, rfl, ?_⟩
        refine ite2 (fun _ => ?_) (fun z => absurd (by decide +kernel) z)
        have := k H (Same.refl H)
        rw [textK_one] at this
        exact this
      | mark m =>
        obtain ⟨a, rfl, ha⟩ := hk
        refine ⟨_, rfl, a, _, rfl, .inr (SqT.of ha), rfl, _, rfl, ?_⟩
        refine ite2 (fun z => by cases z) (fun _ => ?_)
        refine ⟨_, rfl, a, _, rfl, .inr (SqT.of ha), rfl, _, rfl, ?_⟩
        refine ite2 (fun _ => ?_) (fun z => absurd (by show decide (V.int ((2 : Nat) : Int) = V.int 2) = true; decide +kernel) z)
        refine ⟨_, rfl, a, _, _, _, rfl, rfl, SqT.of ha, atI_nat (j := 1) rfl, ?_⟩
        have := k H (Same.refl H)
        rw [textK_mark] at this
        exact this
      | two b k1 k2 =>
        obtain ⟨a, x, y, rfl, ha, h1, h2⟩ := hk
        obtain ⟨o1, o2⟩ := hok
        change k1.leaves + k2.leaves ≤ 1000 at hl
        change max k1.deep k2.deep + 1 < n + 1 at hn
        refine ⟨_, rfl, a, _, rfl, .inr (SqT.of ha), rfl, _, rfl, ?_⟩
        refine ite2 (fun z => by cases z) (fun _ => ?_)
        refine ⟨_, rfl, a, _, rfl, .inr (SqT.of ha), rfl, _, rfl, ?_⟩
        refine ite2 (fun z => by cases z) (fun _ => ?_)
        refine ⟨by show 2 ≤ sizeLine; decide, fun l hl' => ?_⟩
        have s1 := same_new (o := .lst [.str "->", .str "*"]) hl'
        refine ⟨_, rfl, a, _, _, _, rfl, rfl, SqT.of (s1 _ _ ha), atI_nat (j := 0) rfl, rfl, .inr ⟨_, rfl, ?_⟩⟩
        refine ⟨l, _, _, .str (sign b), rfl, rfl, SqL.of upd_same, by cases b <;> decide +kernel, ?_⟩
        have l1 := textK_len k1 o1
        have l2 := textK_len k2 o2
        have l3 := sign_len b
        have e1 : ("( " : Str).length = 2 := by decide +kernel
        have e2 : (" " : Str).length = 1 := by decide +kernel
        have e3 : (" )" : Str).length = 2 := by decide +kernel
        have ok : ∀ i : Nat, i ≤ 40000 → i ≤ sizeLine := fun i h => Nat.le_trans h (by decide)
        refine ⟨_, rfl, a, _, _, _, rfl, rfl, SqT.of (s1 _ _ ha), atI_nat (j := 1) rfl, x, k1, rfl, KdAt.mono (tups_of s1) _ _ h1, by omega, by omega, o1, fun J1 q1 => ?_⟩
        have s2 := Same.trans s1 q1
        refine ⟨_, _, rfl, rfl, ok _ (by omega), ?_⟩
        refine ⟨_, _, rfl, rfl, ok _ (by simp only [len_app, e1, e2]; omega), ?_⟩
        refine ⟨_, rfl, _, _, rfl, rfl, ok _ (by simp only [len_app, e1, e2]; omega), ?_⟩
        refine ⟨_, _, rfl, rfl, ok _ (by simp only [len_app, e1, e2]; omega), ?_⟩
        refine ⟨_, rfl, a, _, _, _, rfl, rfl, SqT.of (s2 _ _ ha), atI_nat (j := 2) rfl, y, k2, rfl, KdAt.mono (tups_of s2) _ _ h2, by omega, by omega, o2, fun J2 q2 => ?_⟩
        refine ⟨_, _, rfl, rfl, ok _ (by simp only [len_app, e1, e2]; omega), ?_⟩
        refine ⟨_, _, rfl, rfl, ok _ (by simp only [len_app, e1, e2, e3]; omega), ?_⟩
        have := k J2 (Same.trans s2 q2)
        rw [textK_two] at this
        exact this
end
/-! the stack of kinds and of signs that wait -/
inductive St5 where
  | s (z : Str)
  | k (c : Kd)
def S5At (H : Hp) : St5 → V → Prop
  | .s z, v => ∃ a, v = .ref a ∧ H a = some (.tup [.str z])
  | .k c, v => KdAt H c v
theorem S5At.mono {H H' : Hp} (t : Tups H H') : ∀ (i : St5) (v : V), S5At H i v → S5At H' i v
  | .s _, _, ⟨a, e, h⟩ => ⟨a, e, t _ _ h⟩
  | .k c, v, h => KdAt.mono t c v h
def St5.shape : St5 → Str
  | .s z => z
  | .k _ => "kind"
/-- what waits is no kind's own word -/
def St5.Ok : St5 → Prop
  | .s z => z = "(" ∨ z = "->" ∨ z = "*"
  | .k c => c.Ok
def isW (z : Str) : Bool := decide (z = "mark" ∨ z = "one" ∨ z = "to" ∨ z = "both")
def rInK (K : PySem.W.Frag) (d : Addr) : R2 := fun x y H Q => ∃ (z : Str) (r : Option Value), x = .str z ∧ y = .ref d ∧ PySem.W.nsIn K d z = some r ∧ Q (.bl r.isSome) H
theorem op_inK {X : Cx} {K : PySem.W.Frag} {w : World} {d : Addr} {es : Array DictEntry} {n : Nat} (e : X.K = K) (ew : X.w = w) (D : KDict K w d es n) : OpR X (compareOp .In) (rInK K d) := by
  subst e
  subst ew
  exact op_in_kd D
theorem ixt {X : Cx} {K : PySem.W.Frag} (e : X.K = K) : IxR X (rIxT K) := by
  rw [← e]
  exact ix_tup
def spShape (K : PySem.W.Frag) : Sp := fun vs H Q _ => ∃ (a : Addr) (xs : List V) (ks : List St5), vs = [.ref a] ∧ H a = some (.lst xs) ∧ All2 (S5At H) ks xs ∧ (∀ i ∈ ks, i.Ok) ∧ xs.length ≤ 40000 ∧
  ∀ (D : Addr) (H' : Hp), H D = none → H' D = some (.lst (ks.map fun i => V.str i.shape)) → Same H H' → Q (.ref D) H'
section
variable {P : Program} {w : World} {K : PySem.W.Frag} {mg : Str → Option Value} {base : Heap}
theorem scShape : FnScope ["items", "item"] ["items"] (defScope sShape) := ⟨rfl, rfl, rfl, by decide +kernel, rfl, by decide +kernel, by decide +kernel⟩
theorem ok_shape {f L : Addr} {fd : FuncData} {es : Array DictEntry} {nn : Nat} (F : Fun K "shape_of" "shape_of" sShape f fd) (D : KDict K w L es nn) (gD : mg "LENGTHS" = some (.ref L))
    (hLen : ∀ z : Str, ∃ r, PySem.W.nsIn K L z = some r ∧ r.isSome = isW z) : FnOk P w K mg base CX0 1 f fd ["items"] (spShape K) := by
  refine F.ok scShape (fun vs H Q E h => ?_) (fun cdv A outer s H vs Q E hr h => ?_)
  · obtain ⟨a, xs, ks, rfl, _⟩ := h
    rfl
  · obtain ⟨a, xs, ks, rfl, ha, hA, hok, hle, k⟩ := h
    refine ⟨_, pss_one (ps_ret (pe_lc (own := [("item", 1)]) (g := gName 1) (by rfl) scShape.nd (pi_list (pv 0))
            (blkOk_by (N := ["items", "item"]) (sc := defScope sShape) (by decide +kernel)) (fun _ _ _ _ _ => pg_name (i := 1) scShape.nd rfl (Or.inl rfl)) (fun _ _ _ _ _ => pts_nil)
            (fun _ _ _ _ _ => pe_ifExp (pt_cmpR (op_inK (K := K) (w := w) rfl rfl D) (pe_ix (ixt (K := K) rfl) (pv 1) pe_int (fun _ _ => rfl)) (pe_glob (v := .ref L) (by rfl) gD rfl) (by with_unfolding_all rfl)) pe_str (pe_ix (ixt (K := K) rfl) (pv 1) pe_int (fun _ _ => rfl))))), ?_⟩
    refine ⟨_, rfl, a, rfl, ⟨_, SqL.of ha⟩, fun D1 hD1 => lc_list (K := K) (a := a) (xs := xs) (fun i H' => H' D1 = some (.lst ((ks.take i).map fun i => V.str i.shape)) ∧ Same H H') ⟨upd_same, same_new hD1⟩ (fun i H' _ ⟨_, q⟩ => SqL.of (q _ _ ha)) ?_ ?_⟩
    · rintro i y H' hy ⟨h1, s1⟩
      obtain ⟨it, hi, hit⟩ := (hA.mono (S5At.mono (tups_of s1))).get hy
      have ok1 := hok it (List.mem_of_getElem? hi)
      have next : (ks.take (i + 1)).map (fun i => V.str i.shape) = (ks.take i).map (fun i => V.str i.shape) ++ [V.str it.shape] := by
        rw [List.take_add_one, hi, List.map_append]
        rfl
      have il : i < ks.length := (List.getElem?_eq_some_iff.mp hi).1
      have kl := hA.len
      have la : ((ks.take i).map fun i => V.str i.shape).length < sizeLine := by
        rw [List.length_map, List.length_take]
        exact Nat.lt_of_le_of_lt (by omega : min i ks.length ≤ 40000) (by decide)
      refine ⟨rfl, ?_⟩
      unfold tYes
      dsimp only
      rw [if_pos rfl]
      have fin : ∀ z : Str, z = it.shape → ∃ acc, H' D1 = some (HO.lst acc) ∧ acc.length < sizeLine ∧ upd H' D1 (HO.lst (acc ++ [V.str z])) D1 = some (HO.lst ((ks.take (i + 1)).map fun i => V.str i.shape)) ∧ Same H (upd H' D1 (HO.lst (acc ++ [V.str z]))) := fun z ez =>
        ⟨_, h1, la, by rw [upd_same, next, ez], same_over s1 hD1⟩
      cases it with
      | s z =>
        obtain ⟨b, rfl, hb⟩ := hit
        obtain ⟨r, er, rr⟩ := hLen z
        have nz : isW z = false := by rcases ok1 with rfl | rfl | rfl <;> decide +kernel
        refine ⟨_, rfl, b, _, _, _, rfl, rfl, SqT.of hb, atI_nat (j := 0) rfl, z, r, rfl, rfl, er, _, rfl, ?_⟩
        rw [rr, nz]
        refine iteF ?_
        exact ⟨_, rfl, b, _, _, _, rfl, rfl, SqT.of hb, atI_nat (j := 0) rfl, fin z rfl⟩
      | k c =>
        have yes : ∃ b z ts, y = V.ref b ∧ H' b = some (.tup (V.str z :: ts)) ∧ isW z = true := by
          cases c with
          | one => obtain ⟨b, e, h⟩ := hit; exact ⟨b, _, _, e, h, by decide +kernel⟩
          | mark m => obtain ⟨b, e, h⟩ := hit; exact ⟨b, _, _, e, h, by decide +kernel⟩
          | two t k l => obtain ⟨b, x, u, e, h, _⟩ := hit; exact ⟨b, _, _, e, h, by cases t <;> decide +kernel⟩
        obtain ⟨b, z, ts, rfl, hb, ez⟩ := yes
        obtain ⟨r, er, rr⟩ := hLen z
        refine ⟨_, rfl, b, _, _, _, rfl, rfl, SqT.of hb, atI_nat (j := 0) rfl, z, r, rfl, rfl, er, _, rfl, ?_⟩
        rw [rr, ez]
        refine iteT ?_
        exact fin "kind" rfl
    · rintro H' ⟨h1, s1⟩
      have e : ks.take xs.length = ks := by rw [← hA.len]; exact List.take_length
      rw [e] at h1
      exact k D1 H' hD1 h1 s1
end
def spPieces : Sp := fun vs H Q _ => ∃ (v : V) (c : Kd), vs = [v] ∧ KdAt H c v ∧
  ∀ (D : Addr) (xs : List V) (H' : Hp), H D = none → H' D = some (.lst xs) → Same H H' → All2 (I5At H') (pieces c) xs → Q (.ref D) H'
def spShown : Sp := fun vs H Q _ => ∃ (v : V) (c : Kd), vs = [v] ∧ KdAt H c v ∧ c.leaves ≤ 1000 ∧ c.Ok ∧ ∀ H', Same H H' → Q (.str (textK c)) H'
section
variable {P : Program} {w : World} {K : PySem.W.Frag} {mg : Str → Option Value} {base : Heap}
theorem scPieces : FnScope ["kind"] ["kind"] (defScope sPieces) := ⟨rfl, rfl, rfl, by decide +kernel, rfl, by decide +kernel, by decide +kernel⟩
theorem ok_pieces {f : Addr} {fd : FuncData} {t1 t2 : Tok} (F : Fun K "pieces_of" "pieces_of" sPieces f fd) (y0 : mg "ARROW" = some (.str "->" t1)) (y1 : mg "STAR" = some (.str "*" t2)) :
    FnOk P w K mg base CX0 1 f fd ["kind"] spPieces := by
  refine F.ok scPieces (fun vs H Q E h => ?_) (fun cdv A outer s H vs Q E hr h => ?_)
  · obtain ⟨v, c, rfl, _⟩ := h
    rfl
  · obtain ⟨v, kd, rfl, hk, k⟩ := h
    refine ⟨_, pss_cons (ps_if (pt_cmpR op_eq (pe_ix ix_tup (pv 0) pe_int (fun _ _ => rfl)) pe_str (nomark _)) (pss_one (ps_ret (pe_lst (pa_cons (pe_ix ix_tup (pv 0) pe_int (fun _ _ => rfl)) pa_nil)))) pss_nil)
      (pss_cons (ps_if (pt_cmpR op_eq (pe_ix ix_tup (pv 0) pe_int (fun _ _ => rfl)) pe_str (nomark _)) (pss_one (ps_ret (pe_lst (pa_cons pe_str pa_nil)))) pss_nil)
      (pss_cons (ps_if (pt_cmpR op_eq (pe_ix ix_tup (pv 0) pe_int (fun _ _ => rfl)) pe_str (nomark _)) (pss_one (ps_ret (pe_lst (pa_cons pe_str (pa_cons (pe_ix ix_tup (pv 0) pe_int (fun _ _ => rfl)) (pa_cons (pe_glob (v := .str "->") (by rfl) y0 ⟨_, rfl⟩) (pa_cons (pe_ix ix_tup (pv 0) pe_int (fun _ _ => rfl)) (pa_cons pe_str pa_nil)))))))) pss_nil)
      (pss_one (ps_ret (pe_lst (pa_cons pe_str (pa_cons (pe_ix ix_tup (pv 0) pe_int (fun _ _ => rfl)) (pa_cons (pe_glob (v := .str "*") (by rfl) y1 ⟨_, rfl⟩) (pa_cons (pe_ix ix_tup (pv 0) pe_int (fun _ _ => rfl)) (pa_cons pe_str pa_nil)))))))))), ?_⟩
    cases kd with
    | one =>
      obtain ⟨a, rfl, ha⟩ := hk
      refine ⟨_, rfl, a, _, _, _, rfl, rfl, SqT.of ha, atI_nat (j := 0) rfl, rfl, _, rfl, ?_⟩
      refine ite2 (fun h => absurd h (by decide +kernel)) (fun _ => ?_)
      refine ⟨_, rfl, a, _, _, _, rfl, rfl, SqT.of ha, atI_nat (j := 0) rfl, rfl, _, rfl, ?_⟩
      refine ite2 (fun _ => ?_) (fun h => absurd (by decide +kernel) h)
      exact ⟨by decide, fun l hl => k l [.str "1"] _ hl upd_same (same_new hl) ⟨rfl, trivial⟩⟩
    | mark m =>
      obtain ⟨a, rfl, ha⟩ := hk
      refine ⟨_, rfl, a, _, _, _, rfl, rfl, SqT.of ha, atI_nat (j := 0) rfl, rfl, _, rfl, ?_⟩
      refine ite2 (fun _ => ?_) (fun h => absurd (by decide +kernel) h)
      refine ⟨_, rfl, a, _, _, _, rfl, rfl, SqT.of ha, atI_nat (j := 1) rfl, ?_⟩
      exact ⟨by show 1 ≤ sizeLine; decide, fun l hl => k l [.str m] _ hl upd_same (same_new hl) ⟨rfl, trivial⟩⟩
    | two b k1 k2 =>
      obtain ⟨a, x, y, rfl, ha, h1, h2⟩ := hk
      refine ⟨_, rfl, a, _, _, _, rfl, rfl, SqT.of ha, atI_nat (j := 0) rfl, rfl, _, rfl, ?_⟩
      refine ite2 (fun h => absurd h (by cases b <;> decide +kernel)) (fun _ => ?_)
      refine ⟨_, rfl, a, _, _, _, rfl, rfl, SqT.of ha, atI_nat (j := 0) rfl, rfl, _, rfl, ?_⟩
      refine ite2 (fun h => absurd h (by cases b <;> decide +kernel)) (fun _ => ?_)
      refine ⟨_, rfl, a, _, _, _, rfl, rfl, SqT.of ha, atI_nat (j := 0) rfl, rfl, _, rfl, ?_⟩
      cases b with
      | true =>
        refine ite2 (fun _ => ?_) (fun h => absurd (by decide +kernel) h)
        refine ⟨_, rfl, a, _, _, _, rfl, rfl, SqT.of ha, atI_nat (j := 1) rfl, _, rfl, a, _, _, _, rfl, rfl, SqT.of ha, atI_nat (j := 2) rfl, ?_⟩
        refine ⟨by show 5 ≤ sizeLine; decide, fun l hl => ?_⟩
        have sl := same_new (o := .lst [.str "(", x, .str "->", y, .str ")"]) hl
        exact k l _ _ hl upd_same sl ⟨rfl, KdAt.mono (tups_of sl) _ _ h1, rfl, KdAt.mono (tups_of sl) _ _ h2, rfl, trivial⟩
      | false =>
        refine ite2 (fun h => absurd h (by decide +kernel)) (fun _ => ?_)
        refine ⟨_, rfl, a, _, _, _, rfl, rfl, SqT.of ha, atI_nat (j := 1) rfl, _, rfl, a, _, _, _, rfl, rfl, SqT.of ha, atI_nat (j := 2) rfl, ?_⟩
        refine ⟨by show 5 ≤ sizeLine; decide, fun l hl => ?_⟩
        have sl := same_new (o := .lst [.str "(", x, .str "*", y, .str ")"]) hl
        exact k l _ _ hl upd_same sl ⟨rfl, KdAt.mono (tups_of sl) _ _ h1, rfl, KdAt.mono (tups_of sl) _ _ h2, rfl, trivial⟩
end
section
variable {P : Program} {w : World} {K : PySem.W.Frag} {mg : Str → Option Value} {base : Heap}
theorem scShown : FnScope ["kind", "words", "todo", "item"] ["kind"] (defScope sShown) := ⟨rfl, rfl, rfl, by decide +kernel, rfl, by decide +kernel, by decide +kernel⟩
theorem ok_shown {f fP : Addr} {fd fdP : FuncData} (F : Fun K "shown_kind" "shown_kind" sShown f fd) (GP : FnOk P w K mg base CX0 1 fP fdP ["kind"] spPieces) (kP : PySem.W.keepIn K (.ref fP) = true) (bP : Binds K fdP ["kind"] []) (gP : mg "pieces_of" = some (.ref fP))
    (mIs : mg "isinstance" = none) (mStr : mg "str" = none) : FnOk P w K mg base CX0 2 f fd ["kind"] spShown := by
  refine F.ok scShown (fun vs H Q E h => ?_) (fun cdv A outer s H vs Q E hr h => ?_)
  · obtain ⟨v, c, rfl, _⟩ := h
    rfl
  · obtain ⟨v, kd, rfl, hk, hL, hO, k⟩ := h
    refine ⟨_, pss_cons (ps_set (i := 1) scShown.nd rfl (Or.inl rfl) (pe_lst pa_nil))
      (pss_cons (ps_set (i := 2) scShown.nd rfl (Or.inl rfl) (pe_lst (pa_cons (pv 0) pa_nil)))
      (pss_cons (ps_while PassesOwn.never (pt_truth (pv 2) (by intro _; rfl))
        (pss_cons (ps_set (i := 3) scShown.nd rfl (Or.inl rfl) (pe_bm0 PySem.F.plainAttrs_list PySem.F.slot_list_pop PySem.F.type_list_pop mt_pop (pv 2)))
        (pss_one (ps_if (pt_val (pe_callB (isi_at (K := K) rfl) (by rfl) mIs boot_isi (pa_cons (pv 3) (pa_cons (pe_bltn (v := .ty "str") (by rfl) mStr boot_strT rfl) pa_nil))))
          (pss_one (ps_expr (pe_bm PySem.F.plainAttrs_list PySem.F.slot_list_append PySem.F.type_list_append mt_append (pv 1) (pa_cons (pv 3) pa_nil))))
          (pss_one (ps_expr (pe_bm PySem.F.plainAttrs_list PySem.F.slot_list_extend PySem.F.type_list_extend mt_extend (pv 2) (pa_cons (pe_revL (pe_call GP hr (by rfl) gP kP bP .nil pass0 (pa_cons (pv 3) pa_nil))) pa_nil))))))))
      (pss_one (ps_ret (pe_join pe_str (pv 1)))))), ?_⟩
    refine ⟨by show 0 ≤ sizeLine; decide, fun D hD => ?_⟩
    refine ⟨_, rfl, by show 1 ≤ sizeLine; decide, fun T hT1 => ?_⟩
    have hT : H T = none := (same_new hD).free hT1
    have S0 : Same H (upd (upd H D (.lst [])) T (.lst [v])) := Same.trans (same_new hD) (same_new hT1)
    have nDT : D ≠ T := fun z => by rw [← z, upd_same] at hT1; cases hT1
    have zk := szK_le kd
    have wl := wordsK_len kd
    refine ⟨fun m σ H2 => ∃ (ks : List It5) (vs : List V) (ws : List Str) (i3 : Option V), σ = [some v, some (.ref D), some (.ref T), i3] ∧ H2 T = some (.lst vs) ∧ H2 D = some (.lst (ws.map V.str)) ∧ All2 (I5At H2) ks vs ∧ Same H H2 ∧ ws ++ denW ks = wordsK kd ∧ m = szS ks ∧ m ≤ 6000,
      ⟨szK kd, [.k kd], [v], [], none, rfl, upd_same, by rw [upd_ne nDT, upd_same]; rfl, ⟨KdAt.mono (tups_of S0) _ _ hk, trivial⟩, S0, ?_, ?_, by omega⟩, ?_⟩
    · show [] ++ (wordsK kd ++ []) = wordsK kd
      rw [List.append_nil, List.nil_append]
    · show szK kd = szK kd + 0
      rfl
    rintro m σ H2 ⟨ks, vs, ws, i3, rfl, hv, hw, hA, hS, hn, hm, hz⟩
    refine ⟨_, rfl, _, .inl ⟨_, SqL.of hv, rfl⟩, ?_⟩
    by_cases he : vs = []
    · subst he
      refine iteF ?_
      obtain rfl : ks = [] := List.eq_nil_of_length_eq_zero hA.len
      obtain rfl : ws = wordsK kd := by rw [← hn]; exact (List.append_nil ws).symm
      refine ⟨⟨_, rfl⟩, _, rfl, " ", D, wordsK kd, rfl, rfl, .inl (SqL.of hw), ?_, k H2 hS⟩
      have b := sum_short _ (wordsK_short kd hO)
      have e1 : (" " : Str).length = 1 := by decide +kernel
      rw [e1]
      omega
    · obtain ⟨ls, kx, y, rfl, ev, hl, hr2, hy⟩ := hA.last he
      have e1 : (!vs.isEmpty) = true := by cases vs with | nil => exact absurd rfl he | cons a r => rfl
      rw [if_pos e1]
      refine ⟨_, fun _ _ z => z, ?_⟩
      refine ⟨_, rfl, .inl ⟨rfl, _, .inl (.inl hv)⟩, T, vs, y, rfl, rfl, hv, hy, ?_⟩
      have t1 : Tups H2 (upd H2 T (.lst vs.dropLast)) := tups_lst hv
      have nD : D ≠ T := fun z => nDT z
      have hw1 : (upd H2 T (.lst vs.dropLast)) D = some (.lst (ws.map V.str)) := by rw [upd_ne nD]; exact hw
      have hT1' : (upd H2 T (.lst vs.dropLast)) T = some (.lst vs.dropLast) := upd_same
      have hl1 := hl.mono (I5At.mono t1)
      have hr1 := I5At.mono t1 _ _ hr2
      have hS1 : Same H (upd H2 T (.lst vs.dropLast)) := same_over hS hT
      generalize upd H2 T (.lst vs.dropLast) = H3 at *
      rw [denW_snoc] at hn
      rw [szS_app] at hm
      have zl := szS_len ls
      cases kx with
      | w x =>
        obtain rfl : y = V.str x := hr1
        refine ⟨_, rfl, _, _, _, _, true, rfl, .ty "str", .base (.str _), kit_ty (by decide +kernel), true, rfl, ?_⟩
        refine iteT ?_
        refine ⟨_, rfl, .inl ⟨rfl, _, .inl (.inl hw1)⟩, _, rfl, D, _, _, rfl, rfl, hw1, ?_, ?_⟩
        · have : (wordsK kd).length = (ws ++ (itW (It5.w x) ++ denW ls)).length := by rw [hn]
          rw [List.length_append, List.length_append] at this
          rw [List.length_map]
          exact Nat.le_trans (by omega : ws.length + 1 ≤ 4000) (by decide)
        · change m = szS ls + (1 + 0) at hm
          refine ⟨m - 1, by omega, ls, vs.dropLast, ws ++ [x], _, rfl, ?_, ?_, hl1.mono (I5At.mono (tups_lst hw1)), same_over hS1 hD, ?_, by omega, by omega⟩
          · rw [upd_ne nD.symm]
            exact hT1'
          · rw [upd_same, List.map_append]
            rfl
          · rw [List.append_assoc]
            exact hn
      | k c =>
        obtain ⟨tt, hy1⟩ : ∃ t, y = V.ref t ∧ ∃ xs, H3 t = some (.tup xs) := by
          cases c with
          | one => obtain ⟨a, e, h⟩ := hr1; exact ⟨a, e, _, h⟩
          | mark m => obtain ⟨a, e, h⟩ := hr1; exact ⟨a, e, _, h⟩
          | two b k l => obtain ⟨a, x, y, e, h, _⟩ := hr1; exact ⟨a, e, _, h⟩
        obtain ⟨rfl, xs0, htt⟩ := hy1
        refine ⟨_, rfl, _, _, _, _, false, rfl, .ty "str", .base (.tup htt), kit_ty (by decide +kernel), false, rfl, ?_⟩
        refine iteF ?_
        refine ⟨_, rfl, .inl ⟨rfl, _, .inl (.inl hT1')⟩, _, rfl, _, c, rfl, hr1, fun D2 xs H4 hD2 hx2 hS4 hp => ?_⟩
        refine ⟨D2, xs, rfl, SqL.of hx2, fun p hp2 => ?_⟩
        have s5 : Same H3 (upd H4 p (.lst xs.reverse)) := Same.trans hS4 (same_new hp2)
        have hT5 := s5 _ _ hT1'
        have hw5 := s5 _ _ hw1
        have zp := szS_pieces c
        have pl := hp.len
        have zpl := szS_len (pieces c)
        change m = szS ls + (szK c + 0) at hm
        refine ⟨T, p, _, _, rfl, rfl, hT5, upd_same, ?_, ?_⟩
        · rw [List.length_reverse]
          have := hl.len
          exact Nat.le_trans (by omega : vs.dropLast.length + xs.length ≤ 6000) (by decide)
        · have npT : p ≠ T := fun z => by
            rw [z] at hp2
            have := hS4 _ _ hT1'
            rw [hp2] at this
            cases this
          refine ⟨m - 1, by omega, ls ++ (pieces c).reverse, _, ws, _, rfl, upd_same, ?_, ?_, same_over (Same.trans hS1 s5) hT, ?_, ?_, by omega⟩
          · rw [upd_ne nD]
            exact hw5
          · have a1 := (hl1.mono (I5At.mono (tups_of s5))).app ((hp.mono (I5At.mono (tups_of (same_new hp2)))).rev)
            exact a1.mono (I5At.mono (tups_lst hT5))
          · rw [denW_rev, pieces_w]
            exact hn
          · rw [szS_app, szS_rev]
            omega
end
/-! the end of a list put anew: xs[-k:] = ys -/
section
open PySem PySem.Spec PyProof.Rows
theorem tailB {n k : Nat} (h0 : 0 < k) (h : k ≤ n) : sliceBounds (some (-(k : Int))) none none n = (((n - k : Nat) : Int), (n : Int), 1) := by
  have a : (-(k : Int)) < 0 := by omega
  have b : max 0 (min (-(k : Int) + (n : Int)) (n : Int)) = ((n - k : Nat) : Int) := by omega
  show (max 0 (min (if (-(k : Int)) < 0 then -(k : Int) + (n : Int) else -(k : Int)) (n : Int)), (n : Int), (1 : Int)) = _
  rw [if_pos a, b]
variable {prog : Program} {w : World} {A : Around} {E : Value → Shared → Prop} {s : Shared}
theorem put_tail {la lb ls : Addr} {old fresh : Array Value} {m m' k : Nat} {vk : Value} {Q : Unit → Shared → Prop} (xa : s.heap.get? la = some { cls := .type "list", data := .seq old m })
    (xb : s.heap.get? lb = some { cls := .type "list", data := .seq fresh m' }) (ab : la ≠ lb) (xs : s.heap.IsSliceOf ls vk .none .none) (pk : IsPart vk (some (-(k : Int)))) (k0 : 0 < k) (kn : k ≤ old.size)
    (fit : old.size + fresh.size ≤ sizeLine) (fin : Q () { s with heap := s.heap.update la (Obj.mapSeq fun z => z.extract 0 (old.size - k) ++ fresh ++ z.extract old.size z.size) }) :
    wpAny (model prog w) A (setItem (.ref la) (.ref ls) (.ref lb)) Q E s := by
  have La : s.heap.IsList la old := PySem.IsL.isList xa
  have Lb : s.heap.IsList lb fresh := PySem.IsL.isList xb
  obtain ⟨o, ho, co, do'⟩ := id xs
  have To : s.TypeIs (.ref ls) "slice" := ⟨o, ho, co⟩
  have other : Builtin.List.listSameRef (.ref la) (.ref lb) = false := beq_eq_false_iff_ne.mpr ab
  have top : (max ((old.size - k : Nat) : Int) ((old.size : Nat) : Int)).toNat = old.size := by omega
  have room : ((fun z : Array Value => z.extract 0 (old.size - k) ++ fresh ++ z.extract old.size z.size) old).size ≤ sizeLine + 1 := by
    simp only [Array.size_append, Array.size_extract]
    omega
  unfold setItem
  refine wpAny_holding ?_
  refine wpAny_bind (wpAny_sequenceKey La.typeIs (by decide) ?_)
  refine wpAny_bind (wpAny_callSpecial?_slot (name := Str.ofString "__setitem__") La.typeIs slot_list_setitem ?_)
  refine wpAny_call_entry slot_list_setitem La.typeIs entry_list_setitem ?_ (args_list_setitem _ _ _)
  show wpAny _ _ (Builtin.List.listSubscript? (.ref ls) >>= _) _ _ s
  unfold Builtin.List.listSubscript?
  refine wpAny_bind (wpAny_bind (wpAny_specialOf To slice_no_index ?_))
  rw [if_pos (show (none : Option Value).isNone = true from rfl)]
  refine wpAny_pure ?_
  show wpAny _ _ (typeOf (.ref ls) >>= _) _ _ s
  refine wpAny_bind (wpAny_typeOf To (PySem.W.KFB.if_not (by decide) ?_))
  rw [listSliceParts_eq]
  refine wpAny_bind (wpAny_bind (wpAny_field ho do' (x := .none) rfl (wpAny_bind (wpAny_listPart .none ?_))))
  refine PySem.W.KFB.if_not (by decide) ?_
  refine wpAny_bind (wpAny_field ho do' (x := vk) rfl (wpAny_bind (wpAny_listPart pk (wpAny_bind (wpAny_field ho do' (x := .none) rfl (wpAny_bind (wpAny_listPart .none (wpAny_pure ?_))))))))
  refine PySem.W.KFB.if_not other ?_
  refine wpAny_bind (m := Builtin.List.listAllItems (.ref lb) "must assign iterable to extended slice") ?_
  unfold Builtin.List.listAllItems
  refine wpAny_bind (wpAny_typeOf Lb.typeIs (PySem.W.KFB.if_so (by decide) ?_))
  unfold Builtin.List.listItems
  refine wpAny_bind (wpAny_seqItems xb rfl (wpAny_pure (wpAny_bind (wpAny_bind (wpAny_seqItems xa rfl (wpAny_pure ?_))))))
  refine wpAny_bind (wpAny_of_eq ((sliceIndices_raw (some (-(k : Int))) none none old.size (by simp)).trans (congrArg (pure : Int × Int × Int → Sem (Int × Int × Int)) (tailB k0 kn))) ?_)
  refine PySem.W.KFB.if_so (by decide) (wpAny_bind (wpAny_rule (PySem.W.KFB.if_not (notLongL fit) ?_)))
  show wpAny _ _ (updateSeq la (fun z => z.extract 0 (((old.size - k : Nat) : Int)).toNat ++ fresh ++ z.extract (max ((old.size - k : Nat) : Int) ((old.size : Nat) : Int)).toNat z.size) >>= _) _ _ s
  rw [top, Int.toNat_natCast]
  refine wpAny_bind (wpAny_updateSeq (hz := Nat.le_trans (Nat.le_add_right _ _) fit) (_hz' := room) xa rfl (wpAny_bind (wpAny_letGo ?_)))
  first
    | exact wpAny_bind (wpAny_pure (wpAny_pure ⟨.none, rfl, wpAny_pure fin⟩))
    | exact wpAny_pure ⟨.none, rfl, wpAny_pure fin⟩
end
section
open PySem PySem.Spec PyProof.Rows
variable {X : Cx} {p2 pos : Pos} {lo : Option Expr} {e : Expr} {te : TE} {tl : TO}
/-- e[-k:] = a list -/
def gTail (te : TE) (tl : TO) : TG := fun v σ H Q => te σ H fun o H1 => tl σ H1 fun l H2 => ∃ (a b : Addr) (k : Nat) (xs ys : List V), o = .ref a ∧ v = .ref b ∧ l = some (-(k : Int)) ∧ H2 a = some (.lst xs) ∧ H2 b = some (.lst ys) ∧ a ≠ b ∧ 0 < k ∧ k ≤ xs.length ∧
  xs.length + ys.length ≤ sizeLine ∧ Q σ (upd H2 a (.lst (xs.take (xs.length - k) ++ ys)))
theorem pg_tail (he : PE X e te) (hl : PO X lo tl) : PG X (.Subscript e (.Slice lo none none p2) pos) (gTail te tl) := by
  refine ⟨fun pins s σ H v u Q I r h => ?_⟩
  rw [arm_assign_Subscript]
  refine wpAny_bind (wpAny_holding (thn (he.run pins s σ H _ I h) fun ov s1 ⟨x, H1, I1, r1, q1⟩ => ?_))
  refine wpAny_bind (wpAny_holding (wpAny_Slice (thn (hl.run pins s1 σ H1 _ I1 q1) fun vl s2 ⟨l, H2, I2, pl, q2⟩ => ?_)))
  rw [evalPart_none]
  refine wpAny_pure (wpAny_pure ?_)
  have I3 : Inv X pins σ H2 { s2 with heap := s2.heap.push { cls := .type "slice", data := .fields #[vl, .none, .none] } } := I2.kept (t' := s2.toks) fun b ob q => Heap.get?_push_of_some _ q
  obtain ⟨a, b, k, xs, ys, rfl, rfl, rfl, hx, hy, ne, k0, kn, fit, q⟩ := q2
  cases r1
  cases r
  obtain ⟨z, its, n, rx, hl, e⟩ := I3.lstM hx
  obtain ⟨z2, its2, n2, ry, hl2, e2⟩ := I3.lstM hy
  refine wpAny_bind (wpAny_standAt (wpAny_bind (wpAny_holding ?_)))
  have c1 : k ≤ its.toArray.size := by rw [List.size_toArray]; omega
  have c2 : its.toArray.size + its2.toArray.size ≤ sizeLine := by rw [List.size_toArray, List.size_toArray]; omega
  refine put_tail (k := k) e e2 ne (Heap.IsSliceOf.new ..) pl k0 c1 c2 (wpAny_release ⟨σ, _, ?_, q⟩)
  have I4 := I3.lset (its' := its.take (xs.length - k) ++ its2) (ys := xs.take (xs.length - k) ++ ys) (t' := s2.toks) hx e (f := fun z => z.extract 0 (its.toArray.size - k) ++ its2.toArray ++ z.extract its.toArray.size z.size) ?_ (Vals.append (rx.take _) ry) ?_
  · exact I4
  · show its.toArray.extract 0 (its.toArray.size - k) ++ its2.toArray ++ its.toArray.extract its.toArray.size its.toArray.size = _
    rw [splice_eq]
    simp [hl]
  · rw [List.length_append, List.length_take]
    omega
end

/-! reading words -/
def closeR : List St5 → Option (List St5)
  | .k b :: .s z :: .k a :: .s y :: r => if y = "(" then (if z = "->" then some (.k (.two true a b) :: r) else if z = "*" then some (.k (.two false a b) :: r) else none) else none
  | _ => none
def stepR (rs : List St5) (z : Str) : Option (List St5) :=
  if z = "(" ∨ z = "->" ∨ z = "*" then some (.s z :: rs)
  else if z = "1" then some (.k .one :: rs)
  else if isMark z = true then some (.k (.mark z) :: rs)
  else if z = ")" then closeR rs
  else none
def readR : List St5 → List Str → Option (List St5)
  | rs, [] => some rs
  | rs, z :: ws => (stepR rs z).bind fun r => readR r ws
def isK5 (c : Kd) : Bool := decide (c.leaves ≤ 24 ∧ c.deep ≤ 12)
def kow (ws : List Str) : Option Kd := match readR [] ws with
  | some [.k c] => if isK5 c = true then some c else none
  | _ => none
/-- all marks are marks -/
def Kd.M : Kd → Prop
  | .one => True
  | .mark m => isMark m = true ∧ SOk m
  | .two _ k l => k.M ∧ l.M
def St5.M : St5 → Prop
  | .s z => z = "(" ∨ z = "->" ∨ z = "*"
  | .k c => c.M
def stW : St5 → List Str
  | .s z => [z]
  | .k c => wordsK c
def flatR (rs : List St5) : List Str := rs.reverse.flatMap stW
theorem flatR_cons (x : St5) (rs : List St5) : flatR (x :: rs) = flatR rs ++ stW x := by
  unfold flatR
  rw [List.reverse_cons, List.flatMap_append]
  simp
theorem sok_lay5 {x : Str} (h : SOk x) : PyData.canLay0 (.str x) = true := by
  simp only [PyData.canLay0]
  show x.cps.all (fun c => decide (c < 0x110000)) = true
  rw [Array.all_eq_true']
  exact fun c hc => decide_eq_true (h c (Array.mem_toList_iff.mpr hc))
theorem Kd.M.ok : ∀ {c : Kd}, c.M → c.Ok
  | .one, _ => trivial
  | .mark m, ⟨h, s⟩ => by
    unfold isMark at h
    rw [Bool.and_eq_true] at h
    have h1 := of_decide_eq_true h.1
    refine ⟨sok_lay5 s, h1.1, h1.2, fun h32 => ?_, fun h40 => ?_⟩
    · exact absurd (of_decide_eq_true (List.all_eq_true.mp h.2 32 h32)) (by unfold low; decide +kernel)
    · exact absurd (of_decide_eq_true (List.all_eq_true.mp h.2 40 h40)) (by unfold low; decide +kernel)
  | .two _ _ _, ⟨h1, h2⟩ => ⟨h1.ok, h2.ok⟩
theorem St5.M.ok : ∀ {i : St5}, i.M → i.Ok
  | .s _, h => h
  | .k _, h => Kd.M.ok h
theorem mark_not {m : Str} (h : isMark m = true) : ¬ (m = "(" ∨ m = "->" ∨ m = "*") ∧ m ≠ "1" ∧ m ≠ ")" := by
  refine ⟨?_, ?_, ?_⟩
  · rintro (e | e | e) <;> (subst e; exact absurd h (by decide +kernel))
  · intro e
    subst e
    exact absurd h (by decide +kernel)
  · intro e
    subst e
    exact absurd h (by decide +kernel)
theorem step_open (rs : List St5) : stepR rs "(" = some (.s "(" :: rs) := if_pos (.inl rfl)
theorem step_sign (b : Bool) (rs : List St5) : stepR rs (sign b) = some (.s (sign b) :: rs) := by
  cases b
  · exact if_pos (.inr (.inr rfl))
  · exact if_pos (.inr (.inl rfl))
theorem step_one (rs : List St5) : stepR rs "1" = some (.k .one :: rs) := by
  unfold stepR
  rw [if_neg (by decide +kernel), if_pos rfl]
theorem step_mark {m : Str} (h : isMark m = true) (rs : List St5) : stepR rs m = some (.k (.mark m) :: rs) := by
  obtain ⟨a, b, c⟩ := mark_not h
  unfold stepR
  rw [if_neg a, if_neg b, if_pos h]
theorem step_close (rs : List St5) : stepR rs ")" = closeR rs := by
  unfold stepR
  rw [if_neg (by decide +kernel), if_neg (by decide +kernel), if_neg (by decide +kernel), if_pos rfl]
theorem close_two (b : Bool) (k l : Kd) (rs : List St5) : closeR (.k l :: .s (sign b) :: .k k :: .s "(" :: rs) = some (.k (.two b k l) :: rs) := by
  show (if ("(" : Str) = "(" then (if sign b = "->" then some (.k (.two true k l) :: rs) else if sign b = "*" then some (.k (.two false k l) :: rs) else none) else none) = some (St5.k (.two b k l) :: rs)
  rw [if_pos rfl]
  cases b
  · rw [if_neg (by decide +kernel)]
    exact if_pos rfl
  · exact if_pos rfl
theorem read_cons {rs r : List St5} {z : Str} (ws : List Str) (h : stepR rs z = some r) : readR rs (z :: ws) = readR r ws := by
  show (stepR rs z).bind (fun r => readR r ws) = _
  rw [h]
  rfl
/-- a kind's words are read to it -/
theorem read_kd : ∀ (c : Kd), c.M → ∀ (rs : List St5) (ws : List Str), readR rs (wordsK c ++ ws) = readR (.k c :: rs) ws
  | .one, _, rs, ws => read_cons ws (step_one rs)
  | .mark m, h, rs, ws => read_cons ws (step_mark h.1 rs)
  | .two b k l, ⟨h1, h2⟩, rs, ws => by
    have e : wordsK (.two b k l) ++ ws = ("(" : Str) :: (wordsK k ++ (sign b :: (wordsK l ++ ((")" : Str) :: ws)))) := by
      show (("(" : Str) :: (wordsK k ++ (sign b :: (wordsK l ++ [(")" : Str)])))) ++ ws = _
      simp
    rw [e, read_cons _ (step_open rs), read_kd k h1, read_cons _ (step_sign b _), read_kd l h2, read_cons _ ((step_close _).trans (close_two b k l rs))]
theorem read_words {c : Kd} (h : c.M) : readR [] (wordsK c) = some [.k c] := by
  have := read_kd c h [] []
  rw [List.append_nil] at this
  rw [this]
  rfl
theorem words_inj {c d : Kd} (h : c.M) (g : d.M) (e : wordsK c = wordsK d) : c = d := by
  have h1 := read_words h
  rw [e, read_words g] at h1
  injection h1 with h1
  injection h1 with h1
  injection h1 with h1
  exact h1.symm
theorem close_flat {rs r : List St5} (h : closeR rs = some r) : flatR r = flatR rs ++ [(")" : Str)] ∧ ((∀ i ∈ rs, i.M) → ∀ i ∈ r, i.M) ∧ ∃ x y z u t, rs = x :: y :: z :: u :: t ∧ r.length = t.length + 1 := by
  unfold closeR at h
  split at h
  · rename_i b z a y t
    split at h
    · rename_i hy
      subst hy
      have key : ∀ v : Bool, z = sign v → r = .k (.two v a b) :: t → flatR r = flatR (.k b :: .s z :: .k a :: .s "(" :: t) ++ [(")" : Str)] ∧ ((∀ i ∈ (St5.k b :: .s z :: .k a :: .s "(" :: t), i.M) → ∀ i ∈ r, i.M) ∧ ∃ x y z' u t', (St5.k b :: .s z :: .k a :: .s "(" :: t) = x :: y :: z' :: u :: t' ∧ r.length = t'.length + 1 := by
        intro v ez er
        subst ez er
        refine ⟨?_, fun hm => ?_, ⟨_, _, _, _, _, rfl, rfl⟩⟩
        · simp only [flatR_cons, stW, wordsK]
          simp
        · have ha : a.M := hm (.k a) (by simp)
          have hb : b.M := hm (.k b) (by simp)
          intro i hi
          rcases List.mem_cons.mp hi with rfl | hi
          · exact ⟨ha, hb⟩
          · exact hm i (by simp [hi])
      split at h
      · rename_i hz
        injection h with h
        exact key true hz h.symm
      · split at h
        · rename_i hz
          injection h with h
          exact key false hz h.symm
        · cases h
    · cases h
  · cases h
theorem step_flat {rs r : List St5} {z : Str} (hz : SOk z) (h : stepR rs z = some r) : flatR r = flatR rs ++ [z] ∧ ((∀ i ∈ rs, i.M) → ∀ i ∈ r, i.M) := by
  have push : ∀ i : St5, stW i = [z] → i.M → r = i :: rs → flatR r = flatR rs ++ [z] ∧ ((∀ i ∈ rs, i.M) → ∀ i ∈ r, i.M) := by
    intro i e m er
    subst er
    refine ⟨by rw [flatR_cons, e], fun hm j hj => ?_⟩
    rcases List.mem_cons.mp hj with rfl | hj
    · exact m
    · exact hm j hj
  unfold stepR at h
  split at h
  · rename_i h1
    injection h with h
    exact push (.s z) rfl h1 h.symm
  · split at h
    · rename_i h1
      injection h with h
      subst h1
      exact push (.k .one) rfl trivial h.symm
    · split at h
      · rename_i h1
        injection h with h
        exact push (.k (.mark z)) rfl ⟨h1, hz⟩ h.symm
      · split at h
        · rename_i h1
          subst h1
          exact ⟨(close_flat h).1, (close_flat h).2.1⟩
        · cases h
theorem read_flat : ∀ {ws : List Str} {rs r : List St5}, (∀ z ∈ ws, SOk z) → readR rs ws = some r → flatR r = flatR rs ++ ws ∧ ((∀ i ∈ rs, i.M) → ∀ i ∈ r, i.M)
  | [], rs, r, _, h => by
    injection h with h
    subst h
    exact ⟨(List.append_nil _).symm, fun hm => hm⟩
  | z :: ws, rs, r, hs, h => by
    change (stepR rs z).bind (fun r => readR r ws) = some r at h
    cases e : stepR rs z with
    | none => rw [e] at h; cases h
    | some r1 =>
      rw [e] at h
      obtain ⟨f1, m1⟩ := step_flat (hs z List.mem_cons_self) e
      obtain ⟨f2, m2⟩ := read_flat (fun y hy => hs y (List.mem_cons_of_mem _ hy)) h
      exact ⟨by rw [f2, f1, List.append_assoc]; rfl, fun hm => m2 (m1 hm)⟩
/-- what is read is written so, and what is written so is read -/
theorem kow_iff {ws : List Str} (hs : ∀ z ∈ ws, SOk z) (c : Kd) : kow ws = some c ↔ ws = wordsK c ∧ c.M ∧ isK5 c = true := by
  constructor
  · intro h
    unfold kow at h
    split at h
    · rename_i d e
      split at h
      · rename_i hk
        injection h with h
        subst h
        obtain ⟨f, m⟩ := read_flat hs e
        have f2 : wordsK d ++ [] = [] ++ ws := f
        rw [List.append_nil, List.nil_append] at f2
        exact ⟨f2.symm, m (fun _ h => absurd h (List.not_mem_nil)) (.k d) List.mem_cons_self, hk⟩
      · cases h
    · cases h
  · rintro ⟨rfl, m, hk⟩
    unfold kow
    rw [read_words m]
    exact if_pos hk
/-! a kind as a thing -/
def thK : Kd → Th
  | .one => .t1 (.s "one")
  | .mark m => .t2 (.s "mark") (.atom (.str m))
  | .two b k l => .t3 (.s (word b)) (thK k) (thK l)
theorem so_word5 : ∀ b : Bool, SOk (word b)
  | true => so_to
  | false => so_both
theorem isMark_len {z : Str} (h : isMark z = true) : 1 ≤ z.length ∧ z.length ≤ 6 := by
  unfold isMark at h
  rw [Bool.and_eq_true] at h
  exact of_decide_eq_true h.1
theorem th_kd {H : Hp} : ∀ (c : Kd) (v : V), c.M → KdAt H c v → ThAt H (thK c) v
  | .one, _, _, ⟨a, e, h⟩ => ⟨a, _, e, h, rfl, so_one⟩
  | .mark m, _, ⟨hm, so⟩, ⟨a, e, h⟩ => ⟨a, _, _, e, h, ⟨rfl, so_mark⟩, rfl, rfl, fun z ez => by
    injection ez with ez
    subst ez
    exact ⟨by have := isMark_len hm; omega, so⟩⟩
  | .two b k l, _, ⟨h1, h2⟩, ⟨a, x, y, e, h, hk, hl⟩ => ⟨a, _, _, _, e, h, ⟨rfl, so_word5 b⟩, th_kd k x h1 hk, th_kd l y h2 hl⟩
theorem thK_sz : ∀ c : Kd, (thK c).sz + 1 = 2 * c.leaves
  | .one => rfl
  | .mark _ => rfl
  | .two b k l => by
    have h1 := thK_sz k
    have h2 := thK_sz l
    show (thK k).sz + (thK l).sz + 1 + 1 = 2 * (k.leaves + l.leaves)
    omega
theorem thK_lv : ∀ c : Kd, (thK c).lv = c.leaves
  | .one => rfl
  | .mark _ => rfl
  | .two b k l => by
    show (thK k).lv + (thK l).lv = k.leaves + l.leaves
    rw [thK_lv k, thK_lv l]
theorem thK_gd : ∀ (c : Kd) (r : Nat), c.M → (thK c).gd r = decide (c.deep < r)
  | .one, 0, _ => by decide +kernel
  | .one, r + 1, _ => by
    rw [decide_eq_true (by show 0 < r + 1; omega)]
    show decide (("one" : Str) = "one") = true
    decide +kernel
  | .mark m, 0, _ => by
    rw [decide_eq_false (by show ¬ 0 < 0; omega)]
    rfl
  | .mark m, r + 1, ⟨h, _⟩ => by
    rw [decide_eq_true (by show 0 < r + 1; omega)]
    show (decide (("mark" : Str) = "mark") && isMark m) = true
    rw [h, decide_eq_true rfl]
    rfl
  | .two b k l, 0, _ => by
    rw [decide_eq_false (by omega)]
    rfl
  | .two b k l, r + 1, ⟨h1, h2⟩ => by
    have f : (decide (word b = "to") || decide (word b = "both")) = true := by cases b <;> decide +kernel
    show ((decide (word b = "to") || decide (word b = "both")) && ((thK k).gd r && (thK l).gd r)) = decide (max k.deep l.deep + 1 < r + 1)
    rw [f, thK_gd k r h1, thK_gd l r h2, Bool.true_and, Bool.eq_iff_iff, Bool.and_eq_true, decide_eq_true_iff, decide_eq_true_iff, decide_eq_true_iff]
    omega
theorem thK_isK (c : Kd) (h : c.M) : (thK c).isK = isK5 c := by
  unfold Th.isK isK5
  rw [thK_gd c 13 h, thK_lv, Bool.eq_iff_iff, Bool.and_eq_true, decide_eq_true_iff, decide_eq_true_iff, decide_eq_true_iff]
  omega
/-! texts side by side -/
theorem strs_dp {K : PySem.W.Frag} {H : Hp} : ∀ l : List Str, DpAll K H (l.map V.str) (l.map PyData.str)
  | [] => .nil
  | c :: r => .cons (.str _) (strs_dp r)
theorem strs_ok : ∀ l : List Str, (∀ c ∈ l, SOk c) → PyData.canLayAll0 (l.map PyData.str) = true ∧ PyData.depthAll (l.map PyData.str) = 0
  | [], _ => ⟨by simp only [List.map_nil, PyData.canLayAll0], by simp only [List.map_nil, PyData.depthAll]⟩
  | c :: r, h => by
    obtain ⟨a, b⟩ := strs_ok r fun d hd => h d (List.mem_cons_of_mem _ hd)
    have hc := sok_lay5 (h c List.mem_cons_self)
    constructor
    · simp only [List.map_cons, PyData.canLayAll0, hc, a]
      rfl
    · simp only [List.map_cons, PyData.depthAll, PyData.depth, b]
      rfl
theorem shaped5 {d : PyData} (h : d.canLay0 = true) (g : d.depth ≤ 60) : SeqAt.shaped d = true := by
  unfold SeqAt.shaped
  rw [h, Bool.true_and]
  exact decide_eq_true (by omega)
theorem strs_shaped (l : List Str) (h : ∀ c ∈ l, SOk c) : SeqAt.shaped (.list (l.map PyData.str)) = true := by
  obtain ⟨a, b⟩ := strs_ok l h
  exact shaped5 (by simp only [PyData.canLay0]; exact a) (by simp only [PyData.depth, b]; omega)
theorem str_eqv (a b : Str) : PyData.eqv (.str a) (.str b) = decide (a = b) := by
  simp only [PyData.eqv]
  rw [Bool.eq_iff_iff, decide_eq_true_iff, beq_iff_eq]
theorem strs_eqvAll : ∀ a b : List Str, PyData.eqvAll (a.map PyData.str) (b.map PyData.str) = decide (a = b)
  | [], [] => by simp [PyData.eqvAll]
  | [], _ :: _ => by simp [PyData.eqvAll]
  | _ :: _, [] => by simp [PyData.eqvAll]
  | x :: a, y :: b => by
    rw [List.map_cons, List.map_cons, PyData.eqvAll, str_eqv, strs_eqvAll a b, Bool.eq_iff_iff, Bool.and_eq_true, decide_eq_true_iff, decide_eq_true_iff, decide_eq_true_iff, List.cons.injEq]
theorem strs_eqv (a b : List Str) : PyData.eqv (.list (a.map PyData.str)) (.list (b.map PyData.str)) = decide (a = b) := by
  rw [PyData.eqv]
  exact strs_eqvAll a b
/-! lists by their ends -/
theorem All2.drop {α : Type} {R : α → V → Prop} : ∀ {ks : List α} {vs : List V} (i : Nat), All2 R ks vs → All2 R (ks.drop i) (vs.drop i)
  | _, _, 0, h => by rw [List.drop_zero, List.drop_zero]; exact h
  | [], [], i + 1, _ => by rw [List.drop_nil, List.drop_nil]; trivial
  | _ :: _, _ :: _, i + 1, ⟨_, t⟩ => All2.drop i t
  | [], _ :: _, _ + 1, h => h.elim
  | _ :: _, [], _ + 1, h => h.elim
theorem All2.take {α : Type} {R : α → V → Prop} : ∀ {ks : List α} {vs : List V} (i : Nat), All2 R ks vs → All2 R (ks.take i) (vs.take i)
  | _, _, 0, h => by rw [List.take_zero, List.take_zero]; trivial
  | [], [], i + 1, _ => by rw [List.take_nil, List.take_nil]; trivial
  | _ :: _, _ :: _, i + 1, ⟨h, t⟩ => ⟨h, All2.take i t⟩
  | [], _ :: _, _ + 1, h => h.elim
  | _ :: _, [], _ + 1, h => h.elim
theorem All2.split {α : Type} {R : α → V → Prop} : ∀ {ks ls : List α} {vs : List V}, All2 R (ks ++ ls) vs → ∃ us ws, vs = us ++ ws ∧ All2 R ks us ∧ All2 R ls ws
  | [], ls, vs, h => ⟨[], vs, rfl, trivial, h⟩
  | k :: ks, ls, v :: vs, ⟨h, t⟩ => by
    obtain ⟨us, ws, e, a, b⟩ := All2.split t
    exact ⟨v :: us, ws, by rw [e]; rfl, ⟨h, a⟩, b⟩
  | k :: ks, ls, [], h => h.elim
theorem cutV_tail (xs : List V) : cutV xs (some (-4)) none = xs.drop (xs.length - 4) := by
  unfold cutV
  have e1 : HT.sIx xs.length 0 (some (-4)) = xs.length - 4 := by
    show (if (-4 : Int) < 0 then ((-4 : Int) + (xs.length : Int)).toNat else min (-4 : Int).toNat xs.length) = _
    rw [if_pos (by decide)]
    omega
  rw [e1]
  show (xs.drop (xs.length - 4)).take (xs.length - (xs.length - 4)) = _
  apply List.take_of_length_le
  rw [List.length_drop]
  exact Nat.le_refl _
theorem at_neg {us : List V} {a b c d : V} {i : Int} {v : V} {j : Nat} (hi : i = -((4 - j : Nat) : Int)) (hj : j < 4) (h : [a, b, c, d][j]? = some v) : atI (us ++ [a, b, c, d]) i = some v := by
  have n : (us ++ [a, b, c, d]).length = us.length + 4 := by rw [List.length_append]; rfl
  have e : ixN (us ++ [a, b, c, d]).length i = some (us.length + j) := by
    unfold ixN
    rw [if_neg (by omega), if_pos (by rw [n]; omega), n]
    congr 1
    omega
  unfold atI
  rw [e]
  show (us ++ [a, b, c, d])[us.length + j]? = some v
  rw [List.getElem?_append_right (by omega)]
  simpa using h
/-! closing -/
def shapes (ks : List St5) : List Str := (ks.drop (ks.length - 4)).map St5.shape
theorem shapes_two {ks : List St5} (hm : ∀ i ∈ ks, i.M) {b : Bool} (h : shapes ks = [("(" : Str), "kind", sign b, "kind"]) : ∃ t k l, ks = t ++ [.s "(", .k k, .s (sign b), .k l] := by
  have e := List.take_append_drop (ks.length - 4) ks
  have hd : ∀ i ∈ ks.drop (ks.length - 4), i.M := fun i hi => hm i (List.mem_of_mem_drop hi)
  unfold shapes at h
  generalize ks.drop (ks.length - 4) = L at h e hd
  rcases L with _ | ⟨i1, _ | ⟨i2, _ | ⟨i3, _ | ⟨i4, _ | ⟨i5, L⟩⟩⟩⟩⟩
  · simp at h
  · simp at h
  · simp at h
  · simp at h
  · simp only [List.map_cons, List.map_nil, List.cons.injEq, and_true] at h
    obtain ⟨h1, h2, h3, h4⟩ := h
    have sN : ∀ (z : Str), z = "(" ∨ z = "->" ∨ z = "*" → z ≠ "kind" := by
      rintro z (rfl | rfl | rfl) <;> decide +kernel
    have sS : ∀ b : Bool, ("kind" : Str) ≠ sign b := by intro b; cases b <;> decide +kernel
    have g1 : i1 = .s "(" := by
      cases i1 with
      | s z => exact congrArg St5.s h1
      | k c => exact absurd h1 (by show ¬ ("kind" : Str) = "("; decide +kernel)
    have g3 : i3 = .s (sign b) := by
      cases i3 with
      | s z => exact congrArg St5.s h3
      | k c => exact absurd h3 (sS b)
    have gk : ∀ i : St5, i.M → i.shape = "kind" → ∃ c, i = .k c := by
      intro i m hi
      cases i with
      | s z => exact absurd hi (sN z m)
      | k c => exact ⟨c, rfl⟩
    obtain ⟨k, g2⟩ := gk i2 (hd i2 (by simp)) h2
    obtain ⟨l, g4⟩ := gk i4 (hd i4 (by simp)) h4
    refine ⟨ks.take (ks.length - 4), k, l, ?_⟩
    rw [← g1, ← g2, ← g3, ← g4]
    exact e.symm
  · simp at h
theorem close_is (t : List St5) (k l : Kd) (b : Bool) : closeR (t ++ [St5.s "(", .k k, .s (sign b), .k l]).reverse = some (.k (.two b k l) :: t.reverse) := by
  rw [List.reverse_append]
  exact close_two b k l t.reverse
theorem shapes_is (t : List St5) (k l : Kd) (z y : Str) : shapes (t ++ [.s y, .k k, .s z, .k l]) = [y, "kind", z, "kind"] := by
  unfold shapes
  have n : (t ++ [St5.s y, .k k, .s z, .k l]).length - 4 = t.length := by rw [List.length_append]; rfl
  rw [n, List.drop_left]
  rfl
theorem close_some {ks r : List St5} (h : closeR ks.reverse = some r) : ∃ b, shapes ks = [("(" : Str), "kind", sign b, "kind"] := by
  generalize e : ks.reverse = rs at h
  unfold closeR at h
  split at h
  · rename_i b z a y t
    have e2 : ks = t.reverse ++ [.s y, .k a, .s z, .k b] := by
      have := congrArg List.reverse e
      rw [List.reverse_reverse] at this
      rw [this]
      simp
    rw [e2, shapes_is]
    split at h
    · rename_i hy
      split at h
      · rename_i hz
        exact ⟨true, by rw [hy, hz]; rfl⟩
      · split at h
        · rename_i hz
          exact ⟨false, by rw [hy, hz]; rfl⟩
        · cases h
    · cases h
  · cases h
def spClose : Sp := fun vs H Q _ => ∃ (S : Addr) (xs : List V) (ks : List St5), vs = [.ref S] ∧ H S = some (.lst xs) ∧ All2 (S5At H) ks xs ∧ (∀ i ∈ ks, i.M) ∧ xs.length ≤ 20000 ∧
  (∀ r, closeR ks.reverse = some r → ∀ (H' : Hp) (xs' : List V), Kept S H H' → H' S = some (.lst xs') → All2 (S5At H') r.reverse xs' → Q (.bl true) H') ∧ (closeR ks.reverse = none → ∀ H', Kept S H H' → Q (.bl false) H')
theorem so_open : SOk "(" := by unfold SOk; decide +kernel
theorem so_kind : SOk "kind" := by unfold SOk; decide +kernel
theorem so_sign : ∀ b : Bool, SOk (sign b)
  | true => by unfold SOk; decide +kernel
  | false => by unfold SOk; decide +kernel
theorem so_shape {i : St5} (h : i.M) : SOk i.shape := by
  cases i with
  | s z =>
    rcases h with rfl | rfl | rfl
    · exact so_open
    · exact so_sign true
    · exact so_sign false
  | k c => exact so_kind
section
variable {P : Program} {w : World} {K : PySem.W.Frag} {mg : Str → Option Value} {base : Heap}
theorem scClose : FnScope ["stack", "shape", "word"] ["stack"] (defScope sClose) := ⟨rfl, rfl, rfl, by decide +kernel, rfl, by decide +kernel, by decide +kernel⟩
theorem ok_close {f fS : Addr} {fd fdS : FuncData} {t1 t2 : Tok} (F : Fun K "close_kind" "close_kind" sClose f fd) (GS : FnOk P w K mg base CX0 1 fS fdS ["items"] (spShape K)) (kS : PySem.W.keepIn K (.ref fS) = true) (bS : Binds K fdS ["items"] []) (gS : mg "shape_of" = some (.ref fS))
    (y0 : mg "ARROW" = some (.str "->" t1)) (y1 : mg "STAR" = some (.str "*" t2)) : FnOk P w K mg base CX0 2 f fd ["stack"] spClose := by
  refine F.ok scClose (fun vs H Q E h => ?_) (fun cdv A outer s H vs Q E hr h => ?_)
  · obtain ⟨S, xs, ks, rfl, _⟩ := h
    rfl
  · obtain ⟨S, xs, ks, rfl, hS, hA, hm, hl, yes, no⟩ := h
    refine ⟨_, pss_cons (ps_set (i := 1) scClose.nd rfl (Or.inl rfl) (pe_call GS hr (by rfl) gS kS bS .nil pass0 (pa_cons (pe_slice sl_list (pv 0) (po_some (pe_un un_neg pe_int)) po_none) pa_nil)))
      (pss_cons (ps_if (pt_cmpR (op_eqD hr.units) (pv 1) (pe_lst (pa_cons pe_str (pa_cons pe_str (pa_cons (pe_glob (v := .str "->") (by rfl) y0 ⟨_, rfl⟩) (pa_cons pe_str pa_nil))))) (nomark _)) (pss_one (ps_set (i := 2) scClose.nd rfl (Or.inl rfl) pe_str))
        (pss_one (ps_if (pt_cmpR (op_eqD hr.units) (pv 1) (pe_lst (pa_cons pe_str (pa_cons pe_str (pa_cons (pe_glob (v := .str "*") (by rfl) y1 ⟨_, rfl⟩) (pa_cons pe_str pa_nil))))) (nomark _)) (pss_one (ps_set (i := 2) scClose.nd rfl (Or.inl rfl) pe_str)) (pss_one (ps_ret pe_bl)))))
      (pss_cons (ps_asg (pe_lst (pa_cons (pe_tup (pa_cons (pv 2) (pa_cons (pe_ix ix_list (pv 0) (pe_un un_neg pe_int) (fun _ _ => rfl)) (pa_cons (pe_ix ix_list (pv 0) (pe_un un_neg pe_int) (fun _ _ => rfl)) pa_nil)))) pa_nil)) (pg_tail (pv 0) (po_some (pe_un un_neg pe_int))))
      (pss_one (ps_ret pe_bl)))), ?_⟩
    refine ⟨_, rfl, _, rfl, _, rfl, S, xs, rfl, SqL.of hS, fun p hp => ?_⟩
    rw [show cutV xs (some (-4)) none = xs.drop (xs.length - 4) from cutV_tail xs]
    have s1 := same_new (o := .lst (xs.drop (xs.length - 4))) hp
    have a1 := (hA.mono (S5At.mono (tups_of s1))).drop (xs.length - 4)
    refine ⟨p, _, _, rfl, upd_same, a1, fun i hi => (hm i (List.mem_of_mem_drop hi)).ok, ?_, fun D H2 hD hD2 s2 => ?_⟩
    · rw [List.length_drop]
      omega
    have e0 : ((ks.drop (xs.length - 4)).map fun i => V.str i.shape) = (shapes ks).map V.str := by
      unfold shapes
      rw [List.map_map, hA.len]
      rfl
    rw [e0] at hD2
    have soS : ∀ c ∈ shapes ks, SOk c := by
      intro c hc
      unfold shapes at hc
      obtain ⟨i, hi, rfl⟩ := List.mem_map.mp hc
      exact so_shape (hm i (List.mem_of_mem_drop hi))
    have S2 := Same.trans s1 s2
    have soB : ∀ b : Bool, ∀ c ∈ ([("(" : Str), "kind", sign b, "kind"] : List Str), SOk c := by
      intro b c hc
      simp only [List.mem_cons, List.not_mem_nil, or_false] at hc
      rcases hc with rfl | rfl | rfl | rfl
      · exact so_open
      · exact so_kind
      · exact so_sign b
      · exact so_kind
    have ends : ∀ (b : Bool) (H3 : Hp), Same H H3 → shapes ks = [("(" : Str), "kind", sign b, "kind"] → ∃ (us : List V) (v1 v2 v3 v4 : V), xs = us ++ [v1, v2, v3, v4] ∧ ∀ t, H3 t = none → ∀ p3, (upd H3 t (.tup [.str (word b), v2, v4])) p3 = none →
        Q (.bl true) (upd (upd (upd H3 t (.tup [.str (word b), v2, v4])) p3 (.lst [.ref t])) S (.lst (us ++ [.ref t]))) := by
      intro b H3 s3 hsh
      obtain ⟨tt, k1, k2, rfl⟩ := shapes_two hm hsh
      obtain ⟨us, ws, rfl, A1, A2⟩ := hA.split
      match ws, A2 with
      | [v1, v2, v3, v4], ⟨_, b2, _, b4, _⟩ =>
        refine ⟨us, v1, v2, v3, v4, rfl, fun t ht p3 hp3 => ?_⟩
        have st := same_new (o := .tup [.str (word b), v2, v4]) ht
        have sp := same_new (o := .lst [.ref t]) hp3
        have S4 := Same.trans s3 (Same.trans st sp)
        have hS4 := S4 _ _ hS
        have T5 := Tups.trans (tups_of S4) (tups_lst (ys := us ++ [.ref t]) hS4)
        have ht4 : (upd (upd H3 t (.tup [.str (word b), v2, v4])) p3 (.lst [.ref t])) t = some (.tup [.str (word b), v2, v4]) := sp _ _ upd_same
        refine yes _ (close_is tt k1 k2 b) _ (us ++ [.ref t]) (fun x o nx hx => ?_) upd_same ?_
        · rw [upd_ne nx]
          exact S4 _ _ hx
        · rw [List.reverse_cons, List.reverse_reverse]
          refine (A1.mono (S5At.mono T5)).app ⟨⟨t, v2, v4, rfl, ?_, KdAt.mono T5 _ _ b2, KdAt.mono T5 _ _ b4⟩, trivial⟩
          exact tups_lst hS4 _ _ ht4
    refine ⟨_, rfl, by show 4 ≤ sizeLine; decide, fun q hq => ?_⟩
    have s3 := same_new (o := .lst [.str "(", .str "kind", .str "->", .str "kind"]) hq
    have S3 := Same.trans S2 s3
    refine ⟨.list ((shapes ks).map PyData.str), .list (([("(" : Str), "kind", sign true, "kind"] : List Str).map PyData.str), .lst (SqL.of (s3 _ _ hD2)) (strs_dp _), .lst (SqL.of upd_same) (strs_dp ([("(" : Str), "kind", sign true, "kind"] : List Str)), strs_shaped _ soS, strs_shaped _ (soB true), _, rfl, ?_⟩
    rw [strs_eqv]
    refine ite2 (fun hc => ?_) (fun hc => ?_)
    · obtain ⟨us, v1, v2, v3, v4, ex, fin⟩ := ends true _ S3 (of_decide_eq_true hc)
      have hS3 := S3 _ _ hS
      refine ⟨_, rfl, _, rfl, _, rfl, S, xs, _, v2, rfl, rfl, SqL.of hS3, by rw [ex]; exact at_neg (j := 1) rfl (by decide) rfl, _, rfl, _, rfl, S, xs, _, v4, rfl, rfl, SqL.of hS3, by rw [ex]; exact at_neg (j := 3) rfl (by decide) rfl, by show 3 ≤ sizeLine; decide, fun t ht => ⟨by show 1 ≤ sizeLine; decide, fun p3 hp3 => ?_⟩⟩
      have hS5 := same_new (o := .lst [.ref t]) hp3 _ _ (same_new (o := .tup [.str (word true), v2, v4]) ht _ _ hS3)
      refine ⟨_, rfl, _, rfl, _, rfl, S, p3, 4, xs, [.ref t], rfl, rfl, rfl, hS5, upd_same, ?_, by decide, ?_, ?_, ?_⟩
      · intro z
        rw [z, upd_same] at hS5
        cases xs with
        | nil => simp at ex
        | cons => injection hS5 with hS5; injection hS5 with hS5; rw [← hS5] at ex; have := congrArg List.length ex; simp at this
      · rw [ex, List.length_append]
        show 4 ≤ us.length + 4
        omega
      · exact Nat.le_trans (show xs.length + 1 ≤ 40000 by omega) (by decide)
      · have e : xs.take (xs.length - 4) = us := by
          rw [ex, List.length_append]
          show (us ++ [v1, v2, v3, v4]).take (us.length + 4 - 4) = us
          rw [Nat.add_sub_cancel, List.take_left]
        rw [e]
        exact fin t ht p3 hp3
    · have nt : shapes ks ≠ [("(" : Str), "kind", sign true, "kind"] := fun z => hc (decide_eq_true z)
      refine ⟨_, rfl, by show 4 ≤ sizeLine; decide, fun q2 hq2 => ?_⟩
      have s4 := same_new (o := .lst [.str "(", .str "kind", .str "*", .str "kind"]) hq2
      have S4 := Same.trans S3 s4
      refine ⟨.list ((shapes ks).map PyData.str), .list (([("(" : Str), "kind", sign false, "kind"] : List Str).map PyData.str), .lst (SqL.of (s4 _ _ (s3 _ _ hD2))) (strs_dp _), .lst (SqL.of upd_same) (strs_dp ([("(" : Str), "kind", sign false, "kind"] : List Str)), strs_shaped _ soS, strs_shaped _ (soB false), _, rfl, ?_⟩
      rw [strs_eqv]
      refine ite2 (fun hc2 => ?_) (fun hc2 => ?_)
      · obtain ⟨us, v1, v2, v3, v4, ex, fin⟩ := ends false _ S4 (of_decide_eq_true hc2)
        have hS3 := S4 _ _ hS
        refine ⟨_, rfl, _, rfl, _, rfl, S, xs, _, v2, rfl, rfl, SqL.of hS3, by rw [ex]; exact at_neg (j := 1) rfl (by decide) rfl, _, rfl, _, rfl, S, xs, _, v4, rfl, rfl, SqL.of hS3, by rw [ex]; exact at_neg (j := 3) rfl (by decide) rfl, by show 3 ≤ sizeLine; decide, fun t ht => ⟨by show 1 ≤ sizeLine; decide, fun p3 hp3 => ?_⟩⟩
        have hS5 := same_new (o := .lst [.ref t]) hp3 _ _ (same_new (o := .tup [.str (word false), v2, v4]) ht _ _ hS3)
        refine ⟨_, rfl, _, rfl, _, rfl, S, p3, 4, xs, [.ref t], rfl, rfl, rfl, hS5, upd_same, ?_, by decide, ?_, ?_, ?_⟩
        · intro z
          rw [z, upd_same] at hS5
          cases xs with
          | nil => simp at ex
          | cons => injection hS5 with hS5; injection hS5 with hS5; rw [← hS5] at ex; have := congrArg List.length ex; simp at this
        · rw [ex, List.length_append]
          show 4 ≤ us.length + 4
          omega
        · exact Nat.le_trans (show xs.length + 1 ≤ 40000 by omega) (by decide)
        · have e : xs.take (xs.length - 4) = us := by
            rw [ex, List.length_append]
            show (us ++ [v1, v2, v3, v4]).take (us.length + 4 - 4) = us
            rw [Nat.add_sub_cancel, List.take_left]
          rw [e]
          exact fin t ht p3 hp3
      · refine no ?_ _ (kept_same S4)
        cases e : closeR ks.reverse with
        | none => rfl
        | some r =>
          obtain ⟨b, hb⟩ := close_some e
          cases b
          · exact absurd (decide_eq_true hb) hc2
          · exact absurd hb nt
end
open GxR
/-! putting words -/
/-- what stood, but tables of code objects and the list at S, stands -/
def EvS (P1 S : Addr) (H H' : Hp) : Prop := TabG H' P1 ∧ ∀ b o, b ≠ S → (∀ ps, o ≠ .tbl ps) → H b = some o → H' b = some o
theorem EvS.trans {P1 S : Addr} {H H1 H2 : Hp} (a : EvS P1 S H H1) (b : EvS P1 S H1 H2) : EvS P1 S H H2 := ⟨b.1, fun c o h n e => b.2 c o h n (a.2 c o h n e)⟩
theorem Ev.evs {P1 : Addr} {H H' : Hp} (e : Ev P1 H H') (S : Addr) : EvS P1 S H H' := ⟨e.1, fun c o _ n h => e.2 c o n h⟩
theorem evs_kept {P1 S : Addr} {H H' : Hp} {xs : List V} (h : TabG H P1) (hS : H S = some (.lst xs)) (k : Kept S H H') : EvS P1 S H H' := by
  refine ⟨?_, fun b o n _ e => k b o n e⟩
  obtain ⟨ps, e, t⟩ := h
  exact ⟨ps, k _ _ (fun z => by rw [z, hS] at e; cases e) e, t⟩
theorem tups_evs {P1 S : Addr} {H H' : Hp} {xs : List V} (hS : H S = some (.lst xs)) (e : EvS P1 S H H') : Tups H H' := fun b ys h => e.2 b _ (ne_of h hS (by intro z; cases z)) (fun _ z => by cases z) h
theorem tups_ev {P1 : Addr} {H H' : Hp} (e : Ev P1 H H') : Tups H H' := fun b ys h => e.2 b _ (fun _ z => by cases z) h
def spPutW (P1 : Addr) : Sp := fun vs H Q _ => ∃ (S : Addr) (z : Str) (xs : List V) (ks : List St5), vs = [.ref S, .str z] ∧ H S = some (.lst xs) ∧ All2 (S5At H) ks xs ∧ (∀ i ∈ ks, i.M) ∧ xs.length ≤ 20000 ∧ z.length ≤ 1000 ∧ SOk z ∧ TabG H P1 ∧
  (∀ r, stepR ks.reverse z = some r → ∀ (H' : Hp) (xs' : List V), EvS P1 S H H' → H' S = some (.lst xs') → All2 (S5At H') r.reverse xs' → Q (.bl true) H') ∧ (stepR ks.reverse z = none → ∀ H', EvS P1 S H H' → Q (.bl false) H')
section
variable {P : Program} {w : World} {K : PySem.W.Frag} {mg : Str → Option Value} {base : Heap}
theorem scPutW : FnScope ["stack", "word"] ["stack", "word"] (defScope sPutW) := ⟨rfl, rfl, rfl, by decide +kernel, rfl, by decide +kernel, by decide +kernel⟩
theorem ok_putw {f fM fC P1 : Addr} {fd fdM fdC : FuncData} {t1 t2 : Tok} (F : Fun K "put_word" "put_word" sPutW f fd)
    (GM : FnOk P w K mg base CX0 1 fM fdM ["text"] (spMark P1)) (kM : PySem.W.keepIn K (.ref fM) = true) (bM : Binds K fdM ["text"] []) (gM : mg "is_mark" = some (.ref fM))
    (GC : FnOk P w K mg base CX0 2 fC fdC ["stack"] spClose) (kC : PySem.W.keepIn K (.ref fC) = true) (bC : Binds K fdC ["stack"] []) (gC : mg "close_kind" = some (.ref fC))
    (y0 : mg "ARROW" = some (.str "->" t1)) (y1 : mg "STAR" = some (.str "*" t2)) : FnOk P w K mg base CX0 3 f fd ["stack", "word"] (spPutW P1) := by
  refine F.ok scPutW (fun vs H Q E h => ?_) (fun cdv A outer s H vs Q E hr h => ?_)
  · obtain ⟨S, z, xs, ks, rfl, _⟩ := h
    rfl
  · obtain ⟨S, z, xs, ks, rfl, hS, hA, hm, hl, hz, so, hT, yes, no⟩ := h
    have hr1 : Room 1 _ := hr.mono (by omega)
    refine ⟨_, pss_cons (ps_if (pt_cmpR op_in_seq (pv 1) (pe_tup (pa_cons pe_str (pa_cons (pe_glob (v := .str "->") (by rfl) y0 ⟨_, rfl⟩) (pa_cons (pe_glob (v := .str "*") (by rfl) y1 ⟨_, rfl⟩) pa_nil)))) (by rfl))
        (pss_one (ps_expr (pe_bm PySem.F.plainAttrs_list PySem.F.slot_list_append PySem.F.type_list_append mt_append (pv 0) (pa_cons (pe_tup (pa_cons (pv 1) pa_nil)) pa_nil))))
        (pss_one (ps_if (pt_cmpR op_eq (pv 1) pe_str (nomark _))
          (pss_one (ps_expr (pe_bm PySem.F.plainAttrs_list PySem.F.slot_list_append PySem.F.type_list_append mt_append (pv 0) (pa_cons (pe_tup (pa_cons pe_str pa_nil)) pa_nil))))
          (pss_one (ps_if (pt_val (pe_call GM hr1 (by rfl) gM kM bM .nil pass0 (pa_cons (pv 1) pa_nil)))
            (pss_one (ps_expr (pe_bm PySem.F.plainAttrs_list PySem.F.slot_list_append PySem.F.type_list_append mt_append (pv 0) (pa_cons (pe_tup (pa_cons pe_str (pa_cons (pv 1) pa_nil))) pa_nil))))
            (pss_one (ps_if (pt_cmpR op_eq (pv 1) pe_str (nomark _)) (pss_one (ps_ret (pe_call GC hr (by rfl) gC kC bC .nil pass0 (pa_cons (pv 0) pa_nil)))) (pss_one (ps_ret pe_bl)))))))))
      (pss_one (ps_ret pe_bl)), ?_⟩
    have push : ∀ (H1 : Hp) (xs1 : List V) (i : St5) (t : Addr) (ys : List V), EvS P1 S H H1 → H1 S = some (.lst xs) → H1 t = none → S5At (upd H1 t (.tup ys)) i (.ref t) → stepR ks.reverse z = some (i :: ks.reverse) →
        Q (.bl true) (upd (upd H1 t (.tup ys)) S (.lst (xs ++ [.ref t]))) := by
      intro H1 xs1 i t ys e1 hS1 ht hi hst
      have s1 := same_new (o := .tup ys) ht
      have hS2 := s1 _ _ hS1
      have T2 := tups_lst (ys := xs ++ [.ref t]) hS2
      refine yes _ hst _ (xs ++ [.ref t]) (e1.trans (evs_kept e1.1 hS1 fun b o n e => ?_)) upd_same ?_
      · rw [upd_ne n]
        exact s1 _ _ e
      · rw [List.reverse_cons, List.reverse_reverse]
        exact (hA.mono (S5At.mono (Tups.trans (Tups.trans (tups_evs hS e1) (tups_of s1)) T2))).app ⟨S5At.mono T2 _ _ hi, trivial⟩
    have big : xs.length < sizeLine := Nat.lt_of_le_of_lt hl (by decide)
    refine ⟨_, rfl, by show 3 ≤ sizeLine; decide, fun q hq => ?_⟩
    have s0 := same_new (o := .tup [.str "(", .str "->", .str "*"]) hq
    have e0 : Ev P1 H _ := ev_same hT s0
    refine ⟨q, _, rfl, .inr (SqT.of upd_same), rfl, by decide, _, rfl, ?_⟩
    have inv : inV (.str z) [.str "(", .str "->", .str "*"] = decide (z = "(" ∨ z = "->" ∨ z = "*") := by
      show ((("(" : Str) == z) || ((("->" : Str) == z) || ((("*" : Str) == z) || false))) = _
      rw [Bool.eq_iff_iff]
      simp only [Bool.or_eq_true, beq_iff_eq, Bool.false_eq_true, or_false, decide_eq_true_iff]
      constructor
      · rintro (e | e | e)
        · exact .inl e.symm
        · exact .inr (.inl e.symm)
        · exact .inr (.inr e.symm)
      · rintro (e | e | e)
        · exact .inl e.symm
        · exact .inr (.inl e.symm)
        · exact .inr (.inr e.symm)
    rw [inv]
    refine ite2 (fun hc => ?_) (fun hc => ?_)
    · have h3 := of_decide_eq_true hc
      refine ⟨_, rfl, .inl ⟨rfl, _, .inl (.inl (s0 _ _ hS))⟩, _, rfl, by show 1 ≤ sizeLine; decide, fun t ht => ⟨S, _, _, rfl, rfl, same_new ht _ _ (s0 _ _ hS), big, ?_⟩⟩
      exact push _ xs (.s z) t _ (e0.evs S) (s0 _ _ hS) ht ⟨t, rfl, upd_same⟩ (if_pos h3)
    · have h3 : ¬ (z = "(" ∨ z = "->" ∨ z = "*") := fun x => hc (decide_eq_true x)
      refine ⟨_, rfl, rfl, _, rfl, ?_⟩
      refine ite2 (fun hc2 => ?_) (fun hc2 => ?_)
      · have h1 : z = "1" := by
          have := of_decide_eq_true hc2
          injection this
        refine ⟨_, rfl, .inl ⟨rfl, _, .inl (.inl (s0 _ _ hS))⟩, by show 1 ≤ sizeLine; decide, fun t ht => ⟨S, _, _, rfl, rfl, same_new ht _ _ (s0 _ _ hS), big, ?_⟩⟩
        exact push _ xs (.k .one) t _ (e0.evs S) (s0 _ _ hS) ht ⟨t, rfl, upd_same⟩ (by rw [h1]; exact step_one _)
      · have h1 : z ≠ "1" := fun x => hc2 (decide_eq_true (congrArg V.str x))
        refine ⟨_, rfl, .str z, .atom (.str z), rfl, ⟨rfl, rfl, fun y ey => by injection ey with ey; subst ey; exact ⟨hz, so⟩⟩, e0.1, fun H1 e1 => ?_⟩
        have e01 := e0.trans e1
        have hS1 := e01.2 _ _ (fun _ x => by cases x) hS
        show ∃ k, V.bl (isMark z) = .bl k ∧ _
        refine ⟨_, rfl, ?_⟩
        cases hmk : isMark z with
        | true =>
          refine iteT ?_
          refine ⟨_, rfl, .inl ⟨rfl, _, .inl (.inl hS1)⟩, _, rfl, by show 2 ≤ sizeLine; decide, fun t ht => ⟨S, _, _, rfl, rfl, same_new ht _ _ hS1, big, ?_⟩⟩
          exact push _ xs (.k (.mark z)) t _ (e01.evs S) hS1 ht ⟨t, rfl, upd_same⟩ (step_mark hmk _)
        | false =>
          refine iteF ?_
          have nm : ¬ (isMark z = true) := by rw [hmk]; decide
          refine ⟨_, rfl, rfl, _, rfl, ?_⟩
          refine ite2 (fun hc3 => ?_) (fun hc3 => ?_)
          · have h4 : z = ")" := by
              have := of_decide_eq_true hc3
              injection this
            have es : stepR ks.reverse z = closeR ks.reverse := by rw [h4]; exact step_close _
            refine ⟨_, rfl, S, xs, ks, rfl, hS1, hA.mono (S5At.mono (tups_ev e01)), hm, hl, fun r er H2 xs' k2 h2 a2 => ?_, fun er H2 k2 => ?_⟩
            · exact yes r (es.trans er) H2 xs' ((e01.evs S).trans (evs_kept e01.1 hS1 k2)) h2 a2
            · exact no (es.trans er) H2 ((e01.evs S).trans (evs_kept e01.1 hS1 k2))
          · have h4 : z ≠ ")" := fun x => hc3 (decide_eq_true (congrArg V.str x))
            refine no ?_ _ (e01.evs S)
            unfold stepR
            rw [if_neg h3, if_neg h1, if_neg nm, if_neg h4]
end
/-! the kind of words -/
theorem ev_evs {P1 S : Addr} {H H2 H3 : Hp} (a : Ev P1 H H2) (b : EvS P1 S H2 H3) (h : H S = none) : Ev P1 H H3 :=
  ⟨b.1, fun c o n e => b.2 c o (ne_of_none e h) n (a.2 c o n e)⟩
theorem read_app : ∀ (a : List Str) (rs : List St5) (b : List Str), readR rs (a ++ b) = (readR rs a).bind fun r => readR r b
  | [], rs, b => rfl
  | z :: a, rs, b => by
    show (stepR rs z).bind (fun r => readR r (a ++ b)) = ((stepR rs z).bind fun r => readR r a).bind fun r => readR r b
    cases stepR rs z with
    | none => rfl
    | some r => exact read_app a r b
theorem stW_pos (i : St5) : 1 ≤ (stW i).length := by
  cases i with
  | s z => exact Nat.le_refl 1
  | k c =>
    obtain ⟨x, xs, e⟩ := wordsK_ne c
    show 1 ≤ (wordsK c).length
    rw [e]
    exact Nat.succ_le_succ (Nat.zero_le _)
theorem flatR_len : ∀ rs : List St5, rs.length ≤ (flatR rs).length
  | [] => Nat.zero_le _
  | i :: rs => by
    have h1 := flatR_len rs
    have h2 := stW_pos i
    rw [flatR_cons, List.length_append, List.length_cons]
    omega
def spKow (P1 : Addr) : Sp := fun vs H Q _ => ∃ (W : Addr) (ws : List Str), vs = [.ref W] ∧ H W = some (.lst (ws.map V.str)) ∧ (∀ z ∈ ws, z.length ≤ 1000 ∧ SOk z) ∧ ws.length ≤ 990 ∧ TabG H P1 ∧
  (∀ c, kow ws = some c → ∀ (H' : Hp) (v : V), Ev P1 H H' → KdAt H' c v → Q v H') ∧ (kow ws = none → ∀ H', Ev P1 H H' → Q .non H')
section
variable {P : Program} {w : World} {K : PySem.W.Frag} {mg : Str → Option Value} {base : Heap}
theorem scKow : FnScope ["words", "stack", "word"] ["words"] (defScope sKow) := ⟨rfl, rfl, rfl, by decide +kernel, rfl, by decide +kernel, by decide +kernel⟩
theorem ok_kow {f fP fS fI P1 : Addr} {fd fdP fdS fdI : FuncData} (F : Fun K "kind_of_words" "kind_of_words" sKow f fd)
    (GP : FnOk P w K mg base CX0 3 fP fdP ["stack", "word"] (spPutW P1)) (kP : PySem.W.keepIn K (.ref fP) = true) (bP : Binds K fdP ["stack", "word"] []) (gP : mg "put_word" = some (.ref fP))
    (GS : FnOk P w K mg base CX0 1 fS fdS ["items"] (spShape K)) (kS : PySem.W.keepIn K (.ref fS) = true) (bS : Binds K fdS ["items"] []) (gS : mg "shape_of" = some (.ref fS))
    (GI : FnOk P w K mg base CX0 3 fI fdI ["thing"] (spIsK P1)) (kI : PySem.W.keepIn K (.ref fI) = true) (bI : Binds K fdI ["thing"] []) (gI : mg "is_kind" = some (.ref fI)) : FnOk P w K mg base CX0 4 f fd ["words"] (spKow P1) := by
  refine F.ok scKow (fun vs H Q E h => ?_) (fun cdv A outer s H vs Q E hr h => ?_)
  · obtain ⟨W, ws, rfl, _⟩ := h
    rfl
  · obtain ⟨W, ws, rfl, hW, hws, hlen, hT, yes, no⟩ := h
    have hr1 : Room 1 _ := hr.mono (by omega)
    refine ⟨_, pss_cons (ps_set (i := 1) scKow.nd rfl (Or.inl rfl) (pe_lst pa_nil))
      (pss_cons (ps_for PassesOwn.never rfl (pi_list (pv 0)) (pg_name (i := 2) scKow.nd rfl (Or.inl rfl))
        (pss_one (ps_if (pt_not (pt_val (pe_call GP hr (by rfl) gP kP bP .nil pass0 (pa_cons (pv 1) (pa_cons (pv 2) pa_nil))))) (pss_one (ps_ret pe_non)) pss_nil)))
      (pss_cons (ps_if (PW.pt (pw_or (pt_cmpR (op_neD hr.units) (pe_call GS hr1 (by rfl) gS kS bS .nil pass0 (pa_cons (pv 1) pa_nil)) (pe_lst (pa_cons pe_str pa_nil)) (nomark _))
          (pw_or1 (pt_not (pt_val (pe_call GI hr (by rfl) gI kI bI .nil pass0 (pa_cons (pe_ix ix_list (pv 1) pe_int (fun _ _ => rfl)) pa_nil))))))) (pss_one (ps_ret pe_non)) pss_nil)
      (pss_one (ps_ret (pe_ix ix_list (pv 1) pe_int (fun _ _ => rfl)))))), ?_⟩
    refine ⟨by show 0 ≤ sizeLine; decide, fun S hS => ?_⟩
    have s0 := same_new (o := .lst []) hS
    have sok : ∀ z ∈ ws, SOk z := fun z hz => (hws z hz).2
    refine ⟨_, rfl, W, rfl, ⟨_, SqL.of (s0 _ _ hW)⟩, for_list (K := K) (a := W) (xs := ws.map V.str) (fun i σ H1 => ∃ (rs : List St5) (xs : List V) (i2 : Option V), σ = [some (.ref W), some (.ref S), i2] ∧ H1 S = some (.lst xs) ∧ All2 (S5At H1) rs.reverse xs ∧ readR [] (ws.take i) = some rs ∧ Ev P1 H H1)
      ⟨[], [], none, rfl, upd_same, trivial, rfl, ev_same hT s0⟩ (fun i σ H1 _ ⟨_, _, _, _, _, _, _, e⟩ => SqL.of (e.2 _ _ (fun _ z => by cases z) hW)) ?_ ?_⟩
    · rintro i x σ H1 hx ⟨rs, xs, i2, rfl, hS1, hA, hR, hE⟩
      obtain ⟨z, hz, rfl⟩ : ∃ z, ws[i]? = some z ∧ x = V.str z := by
        rw [List.getElem?_map] at hx
        cases e : ws[i]? with
        | none => rw [e] at hx; cases hx
        | some z => rw [e] at hx; injection hx with hx; exact ⟨z, rfl, hx.symm⟩
      have hzm := List.mem_of_getElem? hz
      obtain ⟨f1, m1⟩ := read_flat (fun y hy => sok y (List.mem_of_mem_take hy)) hR
      have m2 : ∀ j ∈ rs, j.M := m1 fun _ h => absurd h List.not_mem_nil
      have l1 := flatR_len rs
      rw [f1] at l1
      have l2 : xs.length ≤ 990 := by
        rw [← hA.len, List.length_reverse]
        have e1 : (flatR [] ++ ws.take i).length ≤ ws.length := by
          show ([] ++ ws.take i).length ≤ _
          rw [List.nil_append, List.length_take]
          omega
        omega
      have next : ws.take (i + 1) = ws.take i ++ [z] := by rw [List.take_add_one, hz]; rfl
      have step : readR [] (ws.take (i + 1)) = stepR rs z := by
        rw [next, read_app, hR]
        show (stepR rs z).bind (fun r => some r) = _
        cases stepR rs z <;> rfl
      refine ⟨_, rfl, _, rfl, S, z, xs, rs.reverse, rfl, hS1, hA, fun j hj => m2 j (List.mem_reverse.mp hj), by omega, (hws z hzm).1, (hws z hzm).2, hE.1, fun r hr5 H2 xs' e2 h2 a2 => ?_, fun hn H2 e2 => ?_⟩
      · rw [List.reverse_reverse] at hr5
        refine ⟨_, rfl, ?_⟩
        refine iteF ?_
        exact ⟨r, xs', _, rfl, h2, a2, step.trans hr5, ev_evs hE e2 hS⟩
      · rw [List.reverse_reverse] at hn
        refine ⟨_, rfl, ?_⟩
        refine iteT ?_
        refine no ?_ H2 (ev_evs hE e2 hS)
        have e1 : readR [] ws = none := by
          rw [← List.take_append_drop (i + 1) ws, read_app, step, hn]
          rfl
        unfold kow
        rw [e1]
    · rintro σ H1 ⟨rs, xs, i2, rfl, hS1, hA, hR, hE⟩
      rw [List.length_map, List.take_length] at hR
      obtain ⟨f1, m1⟩ := read_flat sok hR
      have m2 : ∀ j ∈ rs, j.M := m1 fun _ h => absurd h List.not_mem_nil
      have l1 := flatR_len rs
      rw [f1] at l1
      have l2 : xs.length ≤ 990 := by
        rw [← hA.len, List.length_reverse]
        have e1 : (flatR [] ++ ws).length = ws.length := rfl
        omega
      refine ⟨_, rfl, S, xs, rs.reverse, rfl, hS1, hA, fun j hj => (m2 j (List.mem_reverse.mp hj)).ok, by omega, fun D H2 hD hD2 s2 => ?_⟩
      refine ⟨by show 1 ≤ sizeLine; decide, fun q hq => ?_⟩
      have s3 := same_new (o := .lst [.str "kind"]) hq
      have S3 := Same.trans s2 s3
      have E3 := hE.trans (ev_same hE.1 S3)
      have e0 : (rs.reverse.map fun i => V.str i.shape) = (rs.reverse.map St5.shape).map V.str := by rw [List.map_map]; rfl
      rw [e0] at hD2
      refine ⟨.list ((rs.reverse.map St5.shape).map PyData.str), .list (([("kind" : Str)] : List Str).map PyData.str), .lst (SqL.of (s3 _ _ hD2)) (strs_dp _), .lst (SqL.of upd_same) (strs_dp ([("kind" : Str)] : List Str)), strs_shaped _ ?_, strs_shaped _ ?_, _, rfl, ?_⟩
      · intro c hc
        obtain ⟨i, hi, rfl⟩ := List.mem_map.mp hc
        exact so_shape (m2 i (List.mem_reverse.mp hi))
      · intro c hc
        rw [List.mem_singleton.mp hc]
        exact so_kind
      rw [strs_eqv]
      by_cases hs : rs.reverse.map St5.shape = [("kind" : Str)]
      · rw [decide_eq_true hs]
        refine iteF ?_
        obtain ⟨c, rfl⟩ : ∃ c, rs = [.k c] := by
          rcases rs with _ | ⟨i, _ | ⟨j, t⟩⟩
          · simp at hs
          · cases i with
            | k c => exact ⟨c, rfl⟩
            | s z =>
              have e : z = "kind" := by
                change [z] = [("kind" : Str)] at hs
                injection hs
              have := m2 (.s z) List.mem_cons_self
              rw [e] at this
              exact absurd this (by show ¬ (_ ∨ _ ∨ _); decide +kernel)
          · have := congrArg List.length hs
            simp at this
        match xs, hA with
        | [v], ⟨hv, _⟩ =>
          have hcM : c.M := m2 (.k c) List.mem_cons_self
          have fl : wordsK c ++ [] = [] ++ ws := f1
          rw [List.append_nil, List.nil_append] at fl
          have wl := wordsK_len c
          rw [fl] at wl
          have sz := thK_sz c
          have hv3 := KdAt.mono (tups_of S3) c v hv
          refine ⟨_, rfl, S, _, _, v, rfl, rfl, SqL.of (S3 _ _ hS1), atI_nat (j := 0) rfl, v, thK c, rfl, th_kd c v hcM hv3, by omega, E3.1, fun H4 e4 => ?_⟩
          rw [thK_isK c hcM]
          refine ⟨_, rfl, ?_⟩
          have ko : kow ws = if isK5 c = true then some c else none := by
            unfold kow
            rw [hR]
          cases hk : isK5 c with
          | true =>
            refine iteF ?_
            rw [hk] at ko
            refine ⟨_, rfl, S, _, _, v, rfl, rfl, SqL.of (e4.2 _ _ (fun _ z => by cases z) (S3 _ _ hS1)), atI_nat (j := 0) rfl, ?_⟩
            exact yes c ko H4 v (E3.trans e4) (KdAt.mono (tups_ev e4) c v hv3)
          | false =>
            refine iteT ?_
            rw [hk] at ko
            exact no ko H4 (E3.trans e4)
      · rw [decide_eq_false hs]
        refine iteT ?_
        refine no ?_ _ E3
        unfold kow
        rw [hR]
        split
        · rename_i d e
          injection e with e
          subst e
          exact absurd rfl hs
        · rfl
end
/-! reading a text -/
def spReadK (P1 C : Addr) : Sp := fun vs H Q E => ∃ z : Str, vs = [.str z] ∧ z.length + 2 ≤ sizeLine ∧ (∀ y ∈ Txt.split z " ", y.length ≤ 1000 ∧ SOk y) ∧ (Txt.split z " ").length ≤ 990 ∧ TabG H P1 ∧
  (∀ c, kow (Txt.split z " ") = some c → ∀ (H' : Hp) (v : V), Ev P1 H H' → KdAt H' c v → Q v H') ∧ (kow (Txt.split z " ") = none → ∀ H', Ev P1 H H' → E (.ref C) none H')
theorem kd_ref {H : Hp} : ∀ (c : Kd) (v : V), KdAt H c v → ∃ a ys, v = .ref a ∧ H a = some (.tup ys)
  | .one, _, ⟨a, e, h⟩ => ⟨a, _, e, h⟩
  | .mark _, _, ⟨a, e, h⟩ => ⟨a, _, e, h⟩
  | .two _ _ _, _, ⟨a, _, _, e, h, _⟩ => ⟨a, _, e, h⟩
section
variable {P : Program} {w : World} {K : PySem.W.Frag} {mg : Str → Option Value} {base : Heap}
theorem scReadK : FnScope ["text", "kind"] ["text"] (defScope sReadK) := ⟨rfl, rfl, rfl, by decide +kernel, rfl, by decide +kernel, by decide +kernel⟩
theorem ok_readK {f fW P1 C : Addr} {fd fdW : FuncData} (F : Fun K "read_kind" "read_kind" sReadK f fd)
    (GW : FnOk P w K mg base CX0 4 fW fdW ["words"] (spKow P1)) (kW : PySem.W.keepIn K (.ref fW) = true) (bW : Binds K fdW ["words"] []) (gW : mg "kind_of_words" = some (.ref fW))
    (gC : mg "NoKind" = some (.ref C)) (xC : PySem.W.excIn K C [.type "ValueError", .type "Exception", .type "BaseException", .type "object"] "ValueError.__new__" = true) (kC : PySem.W.keepIn K (.ref C) = true)
    (bC : PySem.W.subIn K (.ref C) (.type "BaseException") = some true) (tC : PySem.W.typeIn K (.ref C) = some (.type "type")) : FnOk P w K mg base (L2.CX P w) 5 f fd ["text"] (spReadK P1 C) := by
  refine F.okX scReadK (fun vs H Q E h => ?_) (fun cdv A outer s H vs Q E hr h => ?_)
  · obtain ⟨z, rfl, _⟩ := h
    rfl
  · obtain ⟨z, rfl, hz, hws, hlen, hT, yes, no⟩ := h
    refine ⟨_, pss_cons (ps_set (i := 1) scReadK.nd rfl (Or.inl rfl) (pe_call GW hr (by rfl) gW kW bW .nil pass0 (pa_cons (pe_split (pv 0) pe_str) pa_nil)))
      (pss_cons (ps_if (pt_cmpR op_isN (pv 1) pe_non (nomark _)) (pss_one (ps_raise rfl (takes_of rfl rfl rfl rfl) (pmk_own PySem.F.excBase_ValueError xC gC kC (raises_own bC tC) (by exact rfl)))) pss_nil)
      (pss_one (ps_ret (pv 1)))), ?_⟩
    refine ⟨_, rfl, ⟨_, rfl⟩, z, " ", rfl, rfl, by decide +kernel, hz, fun W hW => ?_⟩
    have s1 := same_new (o := .lst ((Txt.split z " ").map V.str)) hW
    have e1 : Ev P1 H _ := ev_same hT s1
    refine ⟨W, _, rfl, upd_same, hws, hlen, e1.1, fun c hc H2 v e2 hv => ?_, fun hn H2 e2 => ?_⟩
    · obtain ⟨a, ys, rfl, _⟩ := kd_ref c v hv
      refine ⟨_, rfl, rfl, _, rfl, ?_⟩
      refine iteF ?_
      exact ⟨_, rfl, yes c hc H2 _ (e1.trans e2) hv⟩
    · refine ⟨_, rfl, rfl, _, rfl, ?_⟩
      refine iteT ?_
      exact no hn H2 (e1.trans e2)
end
/-! texts: their signs, parted and joined -/
/-- how many opening brackets stand in a text -/
def cnt (z : Str) : Nat := z.cps.toList.count 40
def cnts (us : List Str) : Nat := (us.map cnt).sum
theorem cnts_app (a b : List Str) : cnts (a ++ b) = cnts a + cnts b := by
  unfold cnts
  rw [List.map_append, List.sum_append]
theorem tl_app (a b : Str) : (a ++ b).cps.toList = a.cps.toList ++ b.cps.toList := by
  show (a.cps ++ b.cps).toList = _
  simp
theorem cnt_app (a b : Str) : cnt (a ++ b) = cnt a + cnt b := by
  unfold cnt
  rw [tl_app, List.count_append]
theorem sok_app {a b : Str} (h : SOk a) (g : SOk b) : SOk (a ++ b) := by
  intro c hc
  rw [tl_app, List.mem_append] at hc
  exact hc.elim (h c) (g c)
theorem cnt_le (z : Str) : cnt z ≤ z.length := Nat.le_trans List.count_le_length (Nat.le_of_eq Array.length_toList)
theorem joinS_facts (us : List Str) (h : ∀ u ∈ us, SOk u) : SOk (Txt.join " " us) ∧ cnt (Txt.join " " us) = cnts us ∧ (Txt.join " " us).length ≤ (us.map (·.length)).sum + us.length := by
  rw [TL.join_eq]
  have b1 : SOk " " := by unfold SOk; decide +kernel
  have b2 : cnt " " = 0 := by decide +kernel
  have b3 : (" " : Str).length = 1 := by decide +kernel
  induction us with
  | nil => exact ⟨by unfold SOk; decide +kernel, by decide +kernel, by decide +kernel⟩
  | cons x r ih =>
    cases r with
    | nil =>
      refine ⟨h x List.mem_cons_self, ?_, ?_⟩
      · show cnt x = cnt x + 0
        omega
      · show x.length ≤ (x.length + 0) + 1
        omega
    | cons y t =>
      obtain ⟨h1, h2, h3⟩ := ih fun u hu => h u (List.mem_cons_of_mem _ hu)
      refine ⟨sok_app (sok_app (h x List.mem_cons_self) b1) h1, ?_, ?_⟩
      · show cnt (x ++ " " ++ Str.join " " (y :: t)) = cnt x + cnts (y :: t)
        rw [cnt_app, cnt_app, b2, h2]
        omega
      · show (x ++ " " ++ Str.join " " (y :: t)).length ≤ (x.length + ((y :: t).map (·.length)).sum) + ((y :: t).length + 1)
        rw [len_app, len_app, b3]
        omega
theorem spl_facts : ∀ (a acc : List Nat) (k : Nat), k = 0 → (∀ y ∈ TL.spl [32] k acc a, y.length ≤ acc.length + a.length ∧ ∀ c ∈ y, c ∈ acc ∨ c ∈ a) ∧ (TL.spl [32] k acc a).length ≤ a.length + 1 ∧ ((TL.spl [32] k acc a).map (·.count 40)).sum = acc.count 40 + a.count 40
  | [], acc, k, hk => by
    subst hk
    refine ⟨fun y hy => ?_, Nat.le_refl 1, ?_⟩
    · rw [show TL.spl [32] 0 acc [] = [acc] from rfl, List.mem_singleton] at hy
      subst hy
      exact ⟨Nat.le_refl _, fun c hc => .inl hc⟩
    · show acc.count 40 + 0 = acc.count 40 + 0
      rfl
  | c :: r, acc, k, hk => by
    subst hk
    have e : TL.spl [32] 0 acc (c :: r) = if TL.pre [32] (c :: r) = true then acc :: TL.spl [32] 0 [] r else TL.spl [32] 0 (acc ++ [c]) r := rfl
    rw [e]
    by_cases hp : TL.pre [32] (c :: r) = true
    · rw [if_pos hp]
      obtain ⟨h1, h2, h3⟩ := spl_facts r [] 0 rfl
      refine ⟨fun y hy => ?_, by rw [List.length_cons, List.length_cons]; omega, ?_⟩
      · rcases List.mem_cons.mp hy with rfl | hy
        · exact ⟨by omega, fun d hd => .inl hd⟩
        · obtain ⟨q1, q2⟩ := h1 y hy
          refine ⟨by rw [List.length_cons]; simp at q1; omega, fun d hd => ?_⟩
          rcases q2 d hd with q | q
          · exact absurd q List.not_mem_nil
          · exact .inr (List.mem_cons_of_mem _ q)
      · have hc : c = 32 := by
          have : (decide (c = 32)) = true := by
            have q := hp
            unfold TL.pre at q
            simpa using q
          exact of_decide_eq_true this
        rw [List.map_cons, List.sum_cons, h3, hc, List.count_cons_of_ne (by decide)]
        simp
    · rw [if_neg hp]
      obtain ⟨h1, h2, h3⟩ := spl_facts r (acc ++ [c]) 0 rfl
      refine ⟨fun y hy => ?_, by rw [List.length_cons]; omega, ?_⟩
      · obtain ⟨q1, q2⟩ := h1 y hy
        refine ⟨by rw [List.length_append] at q1; rw [List.length_cons]; simp at q1; omega, fun d hd => ?_⟩
        rcases q2 d hd with q | q
        · rcases List.mem_append.mp q with q | q
          · exact .inl q
          · rw [List.mem_singleton.mp q]
            exact .inr List.mem_cons_self
        · exact .inr (List.mem_cons_of_mem _ q)
      · have e1 : [c].count 40 + r.count 40 = (c :: r).count 40 := by
          rw [← List.count_append]
          rfl
        rw [h3, List.count_append]
        omega
theorem split_facts {z : Str} (h : SOk z) : (∀ y ∈ Txt.split z " ", y.length ≤ z.length ∧ SOk y) ∧ (Txt.split z " ").length ≤ z.length + 1 ∧ cnts (Txt.split z " ") = cnt z := by
  have e : Txt.split z " " = (TL.spl [32] 0 [] z.cps.toList).map SX.S := by
    have q := SX.split_S (a := z.cps.toList) (b := [32]) (by simp) (by decide)
    rw [SX.S_tl] at q
    exact q
  obtain ⟨h1, h2, h3⟩ := spl_facts z.cps.toList [] 0 rfl
  have zl : z.cps.toList.length = z.length := Array.length_toList
  rw [e]
  refine ⟨fun y hy => ?_, ?_, ?_⟩
  · obtain ⟨l, hl, rfl⟩ := List.mem_map.mp hy
    obtain ⟨q1, q2⟩ := h1 l hl
    have q3 : l.length ≤ 0 + z.cps.toList.length := q1
    refine ⟨by rw [SX.S_len]; omega, fun c hc => ?_⟩
    rcases q2 c (by simpa using hc) with q | q
    · exact absurd q List.not_mem_nil
    · exact h c q
  · rw [List.length_map]
    omega
  · unfold cnts
    rw [List.map_map]
    have : (cnt ∘ SX.S) = fun l : List Nat => l.count 40 := by
      funext l
      show (SX.S l).cps.toList.count 40 = _
      simp
    rw [this, h3]
    simp [cnt]
theorem split_back (z : Str) : Txt.join " " (Txt.split z " ") = z := by
  have one : Txt.join " " [z] = z := by
    rw [TL.join_eq]
    rfl
  unfold Txt.split
  split
  · exact one
  · split
    · exact one
    · exact StrLaws.glued_between_self z " " (z.length + 1)
/-- a text of few signs and few brackets -/
structure TxOk (z : Str) : Prop where
  short : z.length ≤ 960
  lay : SOk z
  few : cnt z ≤ 45
theorem TxOk.words {z : Str} (h : TxOk z) : (∀ y ∈ Txt.split z " ", y.length ≤ 960 ∧ SOk y) ∧ (Txt.split z " ").length ≤ 961 ∧ cnts (Txt.split z " ") ≤ 45 := by
  obtain ⟨a, b, c⟩ := split_facts h.lay
  have s := h.short
  exact ⟨fun y hy => ⟨Nat.le_trans (a y hy).1 s, (a y hy).2⟩, by omega, by rw [c]; exact h.few⟩
/-- words of a list that is bent: short, laid -/
structure LsOk (m : Nat) (us : List Str) : Prop where
  many : us.length ≤ 107
  word : ∀ u ∈ us, u.length ≤ 7 ∧ SOk u
  few : cnts us ≤ m
theorem sum7 : ∀ us : List Str, (∀ u ∈ us, u.length ≤ 7) → (us.map (·.length)).sum ≤ 7 * us.length
  | [], _ => Nat.le_refl 0
  | x :: t, h => by
    have h1 := sum7 t fun u hu => h u (List.mem_cons_of_mem _ hu)
    have h2 := h x List.mem_cons_self
    show x.length + (t.map (·.length)).sum ≤ 7 * (t.length + 1)
    omega
theorem LsOk.text {us : List Str} (h : LsOk 45 us) : TxOk (Txt.join " " us) := by
  obtain ⟨a, b, c⟩ := joinS_facts us fun u hu => (h.word u hu).2
  have s := sum7 us fun u hu => (h.word u hu).1
  have m := h.many
  exact ⟨by omega, a, by rw [b]; exact h.few⟩
theorem cnts_words : ∀ c : Kd, c.Ok → cnts (wordsK c) + 1 = c.leaves
  | .one, _ => by
    have : cnts (wordsK .one) = 0 := by decide +kernel
    rw [this]
    rfl
  | .mark m, o => by
    have h1 : cnt m = 0 := List.count_eq_zero.mpr o.nobr
    show cnt m + 0 + 1 = 1
    omega
  | .two b k l, ⟨o1, o2⟩ => by
    have h1 := cnts_words k o1
    have h2 := cnts_words l o2
    have e1 : cnt "(" = 1 := by decide +kernel
    have e2 : cnt (sign b) = 0 := by cases b <;> decide +kernel
    have e3 : cnt ")" = 0 := by decide +kernel
    have e : cnts (wordsK (.two b k l)) = cnt "(" + (cnts (wordsK k) + (cnt (sign b) + (cnts (wordsK l) + (cnt ")" + 0)))) := by
      show cnts ((("(" : Str)) :: (wordsK k ++ (sign b :: (wordsK l ++ [(")" : Str)])))) = _
      show cnt "(" + cnts (wordsK k ++ (sign b :: (wordsK l ++ [(")" : Str)]))) = _
      rw [cnts_app]
      show cnt "(" + (cnts (wordsK k) + (cnt (sign b) + cnts (wordsK l ++ [(")" : Str)]))) = _
      rw [cnts_app]
      rfl
    show _ + 1 = k.leaves + l.leaves
    rw [e, e1, e2, e3]
    omega
/-! a text with blanks replaced -/
section
open PySem PySem.Spec PyProof.Rows
def rep (x y z : Str) (n : Nat) : Str := if ((Builtin.Str.occurrences x y 0 x.length n).isEmpty || (y.length == 0 && z.length == 0)) = true then x else Builtin.Str.glued z (Builtin.Str.partsBetween x (Builtin.Str.occurrences x y 0 x.length n) y.length)
theorem fold_facts (z : Str) (hz : SOk z) (hb : 40 ∉ z.cps.toList) : ∀ (ps : List Str) (acc : Array Nat), (∀ c ∈ acc.toList, c < 1114112) → (∀ p ∈ ps, SOk p) →
    (∀ c ∈ (ps.foldl (fun acc p => acc ++ z.cps ++ p.cps) acc).toList, c < 1114112) ∧ (ps.foldl (fun acc p => acc ++ z.cps ++ p.cps) acc).toList.count 40 = acc.toList.count 40 + (ps.map cnt).sum
  | [], acc, ha, _ => ⟨ha, rfl⟩
  | p :: ps, acc, ha, hp => by
    obtain ⟨h1, h2⟩ := fold_facts z hz hb ps (acc ++ z.cps ++ p.cps) (fun c hc => by
      simp only [Array.toList_append, List.mem_append] at hc
      rcases hc with (hc | hc) | hc
      · exact ha c hc
      · exact hz c hc
      · exact hp p List.mem_cons_self c hc) fun q hq => hp q (List.mem_cons_of_mem _ hq)
    refine ⟨h1, ?_⟩
    show ((ps.foldl (fun acc p => acc ++ z.cps ++ p.cps) (acc ++ z.cps ++ p.cps))).toList.count 40 = _
    rw [h2]
    simp only [Array.toList_append, List.count_append, List.map_cons, List.sum_cons]
    rw [List.count_eq_zero.mpr hb]
    show _ = acc.toList.count 40 + (p.cps.toList.count 40 + _)
    omega
theorem glued_facts (z : Str) (hz : SOk z) (hb : 40 ∉ z.cps.toList) (ps : List Str) (hp : ∀ p ∈ ps, SOk p) : SOk (Builtin.Str.glued z ps) ∧ cnt (Builtin.Str.glued z ps) = cnts ps := by
  cases ps with
  | nil => exact ⟨fun c hc => absurd hc (by show ¬ c ∈ (#[] : Array Nat).toList; simp), rfl⟩
  | cons p r => exact fold_facts z hz hb r p.cps (hp p List.mem_cons_self) fun q hq => hp q (List.mem_cons_of_mem _ hq)
theorem rep_facts {x y z : Str} {n : Nat} (hx : SOk x) (hz : SOk z) (hb : 40 ∉ z.cps.toList) (hy : y.length = 1) (hyb : 40 ∉ y.cps.toList) (hyo : SOk y) : SOk (rep x y z n) ∧ cnt (rep x y z n) = cnt x ∧ (rep x y z n).length ≤ x.length + (Builtin.Str.occurrences x y 0 x.length n).length * z.length := by
  unfold rep
  have hps : ∀ p ∈ Builtin.Str.partsBetween x (Builtin.Str.occurrences x y 0 x.length n) y.length, SOk p := by
    intro p hp
    unfold Builtin.Str.partsBetween at hp
    obtain ⟨⟨i, j⟩, _, rfl⟩ := List.mem_map.mp hp
    intro c hc
    unfold Builtin.Str.strSub at hc
    have hc2 : c ∈ (x.cps.toList.drop i).take (j - i) := by
      have := hc
      simpa [Array.toList_extract, List.extract_eq_drop_take] using this
    exact hx c (List.mem_of_mem_drop (List.mem_of_mem_take hc2))
  split
  · exact ⟨hx, rfl, by omega⟩
  · have back := StrLaws.glued_between_self x y n
    obtain ⟨g1, g2⟩ := glued_facts z hz hb _ hps
    obtain ⟨_, g4⟩ := glued_facts y hyo hyb _ hps
    refine ⟨g1, ?_, ?_⟩
    · rw [g2, ← g4, back]
    · have l1 := congrArg Str.length back
      rw [size_glued, length_partsBetween, Nat.add_sub_cancel] at l1
      rw [size_glued, length_partsBetween, Nat.add_sub_cancel]
      omega
variable {prog : Program} {w : World} {A : Around} {E : Value → Shared → Prop} {s : Shared}
/-- str.replace with a count of one -/
theorem rep_one {x y z : Str} {t u v k : Tok} {Q : Value → Shared → Prop} (hu : u ≠ 0) (hv : v ≠ 0) (huv : u ≠ v) (hyz : (y == z) = false) (hl : x.length + z.length ≤ 1000)
    (hq : ∀ t' k', Q (.str (rep x y z 1) t') { s with toks := k' }) : wpAny (model prog w) A (call (.builtin "str.replace") [.str x t, .str y u, .str z v, .int 1 k]) Q E s := by
  have occ := StrLaws.occ_length_le x y 0 x.length 1
  have g : Gives (Builtin.«str.replace» ⟨[.str x t, .str y u, .str z v, .int 1 k], []⟩) (if ((Builtin.Str.occurrences x y 0 x.length 1).isEmpty || (y.length == 0 && z.length == 0)) = true then .val (.str x t) else .str (Builtin.Str.glued z (Builtin.Str.partsBetween x (Builtin.Str.occurrences x y 0 x.length 1) y.length))) := by
    show Gives (if ((Builtin.Str.occurrences x y 0 x.length 1).isEmpty || (y.length == 0 && z.length == 0)) = true then (do rule "str.replace.nothing"; ret (.str x t)) else
      (do let same ← isSame (.str y u) (.str z v)
          if same = true then (do rule "str.replace.old-is-new"; ret (.str x t)) else
          if Builtin.Str.tooLong (x.length + (Builtin.Str.occurrences x y 0 x.length 1).length * z.length) = true then unsupported "str.replace:memory" else
          PySem.retStr (Builtin.Str.glued z (Builtin.Str.partsBetween x (Builtin.Str.occurrences x y 0 x.length 1) y.length)))) _
    cases hc : ((Builtin.Str.occurrences x y 0 x.length 1).isEmpty || (y.length == 0 && z.length == 0))
    · have big : Builtin.Str.tooLong (x.length + (Builtin.Str.occurrences x y 0 x.length 1).length * z.length) = false := by
        have : (Builtin.Str.occurrences x y 0 x.length 1).length * z.length ≤ 1 * z.length := Nat.mul_le_mul_right _ occ
        unfold Builtin.Str.tooLong
        exact decide_eq_false (by rw [sizeLine_eq]; omega)
      rw [isSame_str_other y z u v (by simp [hu, hv]) (by simp [huv]) hyz, big]
      exact .of_eq rfl
    · exact .rule (.of_eq rfl)
  refine call_gives F.slot_str_replace (typeIs_str _ _ _) F.entry_str_replace (F.args_str_replace_4 _ _ _ _) g ?_
  have hq2 := hq
  unfold rep at hq2
  cases hc : ((Builtin.Str.occurrences x y 0 x.length 1).isEmpty || (y.length == 0 && z.length == 0))
  · rw [hc] at hq2
    have f0 : (false = true) = False := by simp
    rw [if_neg (by simp)] at hq2 ⊢
    refine ⟨?_, hq2 _ _⟩
    have l1 := congrArg Str.length (StrLaws.glued_between_self x y 1)
    rw [size_glued, length_partsBetween, Nat.add_sub_cancel] at l1
    rw [size_glued, length_partsBetween, Nat.add_sub_cancel, sizeLine_eq]
    have : (Builtin.Str.occurrences x y 0 x.length 1).length * z.length ≤ 1 * z.length := Nat.mul_le_mul_right _ occ
    omega
  · rw [hc] at hq2
    rw [if_pos rfl] at hq2 ⊢
    exact hq2 t s.toks
end

/-! a token is out: rules -/
section
open PySem PySem.Spec PyProof.Rows
variable {X : Cx} {o e : Expr} {to te : TE} {y z x c : Str} {i j k l : Nat} {c0 c1 c2 apos pos pos' : Pos} {st : Stmt} {rest : List Stmt} {t u : TS}
def tRep1 (to : TE) (y z : Str) : TE := fun σ H Q => to σ H fun v H1 => ∃ x, v = .str x ∧ x.length + z.length ≤ 1000 ∧ Q (.str (rep x y z 1)) H1
theorem pet_rep1 (ho : PE X o to) (hyz : (y == z) = false := by decide)
    (hst : starEach [.Constant (.str y) j c0, .Constant (.str z) k c1, .Constant (.int 1) l c2] X.env = [(false, eval (.Constant (.str y) j c0) X.env), (false, eval (.Constant (.str z) k c1) X.env), (false, eval (.Constant (.int 1) l c2) X.env)] := by rfl)
    (hbase : attributeBase o "replace" X.env (eval o X.env) = eval o X.env := by rfl) (hline : (apos.endLine == pos.line) = true := by rfl) :
    PET X (.Call (.Attribute o "replace" apos) [.Constant (.str y) j c0, .Constant (.str z) k c1, .Constant (.int 1) l c2] [] pos) (tRep1 to y z) := by
  intro pins s σ H Q h0 I h
  refine wpAny_Call_method_lateS hbase (by rw [hst]; rfl) hline ?_
  rw [hst]
  refine wpAny_mono (PySem.wpAny_toks (ho.run pins s σ H _ I h)) (fun v s1 q => ?_) fun _ _ z => z.2
  obtain ⟨hk, v', H1, I1, r1, a, e1, hb, q⟩ := q
  subst e1
  obtain ⟨ta, e2⟩ := r1
  subst e2
  refine ⟨"str", _, PySem.F.plainAttrs_str, PySem.F.slot_str_replace, PySem.F.type_str_replace, typeIs_str _ _ _, (fun _ e => nomatch e), Calls.callWith_builtin rfl (Calls.evalArgs_plain (Calls.spliced_cons ?_))⟩
  refine Calls.Constant_str (k := j) (pos := c0) (Calls.spliced_cons ?_)
  refine Calls.Constant_str (k := k) (pos := c1) (Calls.spliced_cons ?_)
  refine thn ((pe_int (X := X) (i := 1) (j := l) (pos := c2)).run pins _ σ H1 (fun v H2 => v = V.int 1 ∧ H2 = H1) ((I1.tok (s1.toks + 1)).tok (s1.toks + 1 + 1)) ⟨rfl, rfl⟩) fun u s2 ⟨v2, H2, I2, r2, e1, e2⟩ => Calls.spliced_nil ?_
  subst e1 e2
  obtain ⟨tu, rfl⟩ := r2
  exact rep_one (by show s1.toks ≠ 0; omega) (by show s1.toks + 1 ≠ 0; omega) (by show s1.toks ≠ s1.toks + 1; omega) hyz hb fun t' k' => ⟨.str (rep a y z 1), H2, I2.tok k', ⟨t', rfl⟩, q⟩
theorem pet_ix {r : R2} {b : Expr} {tb : TE} (hr : IxR X r) (ha : PET X e te) (hb : PE X b tb) (hs : PlainIx b) : PET X (.Subscript e b pos) (tOp r te tb) := by
  intro pins s σ H Q h0 I h
  refine Subscript_ (thn (ha pins s σ H _ h0 I h) fun v s1 ⟨x, H1, I1, rx, q1⟩ => thn (hb.run pins s1 σ H1 _ I1 q1) fun u s2 ⟨y, H2, I2, ry, q2⟩ => ?_)
  exact hr e b pins s2 σ H2 x y v u Q I2 rx ry q2 (hs _ _)
theorem psst_cut (h1 : PST X st t) (h2 : PSsT X rest u) : PSsT X (st :: rest) (C8.tCut t u) := by
  intro pins s σ H D h0 I h
  obtain ⟨Mid, hm, hu⟩ := h
  refine wpAny_execs_cons (wpAny_mono (PySem.wpAny_toks (h1 pins s σ H { D with nx := Mid } h0 I hm)) (fun f s1 q => ?_) fun _ _ x => x.2)
  obtain ⟨hk, q⟩ := q
  cases f with
  | next =>
    obtain ⟨σ', H', I', q⟩ := q
    exact h2 pins s1 σ' H' D (Nat.le_trans h0 hk) I' (hu σ' H' q)
  | ret v => exact q
  | brk => exact q
  | cont => exact q
/-- name = o.split(a written text): behind it a token is out -/
def rSplitW : V → List V → Hp → VK → Prop := fun x xs H Q => ∃ a b, x = .str a ∧ xs = [.str b] ∧ (b.length == 0) = false ∧ a.length + 2 ≤ sizeLine ∧ rNewStrs (Txt.split a b) H Q
theorem pss_split (hN : X.N.Nodup) (hi : X.N[i]? = some x) (hx : Loc X.env.scope x) (ho : PE X o to) (h2 : PSsT X rest u)
    (hst : starEach [.Constant (.str c) j c0] X.env = [(false, eval (.Constant (.str c) j c0) X.env)] := by rfl) (hbase : attributeBase o "split" X.env (eval o X.env) = eval o X.env := by rfl) (hline : (apos.endLine == c1.line) = true := by rfl)
    (hs : swapsWith (.Call (.Attribute o "split" apos) [.Constant (.str c) j c0] [] c1) (some (.Name x pos')) pos.line X.env = pure false := by rfl) (hf : X.fn x = true ∨ X.env.scope.names.lookup x = some .local := by first | exact .inl rfl | exact .inr rfl | assumption) :
    PSs X (.Assign [.Name x pos'] (.Call (.Attribute o "split" apos) [.Constant (.str c) j c0] [] c1) pos :: rest) (tSeq (tAsg (tM1 rSplitW to (tC (.str c))) (gName i)) u) := by
  refine ⟨fun pins s σ H D I h => ?_⟩
  refine wpAny_execs_cons (wpAny_Assign_Name (PySem.Call_method1 hbase hst hline (thn (ho.run pins s σ H _ I h) fun v s1 ⟨y, H1, I1, r1, q1⟩ => ?_)) hs)
  obtain ⟨⟨a, rfl⟩, q1⟩ := q1
  obtain ⟨ta, rfl⟩ := _root_.id r1
  refine ⟨"str", _, PySem.F.plainAttrs_str, PySem.F.slot_str_split, PySem.F.type_str_split, typeIs_str _ _ _, (fun _ e => nomatch e), Calls.callWith_builtin rfl (Calls.evalArgs_plain (Calls.spliced_cons ?_))⟩
  refine Calls.Constant_str (k := j) (pos := c0) (Calls.spliced_nil ?_)
  refine wpAny_mono (PySem.wpAny_toks (mt_split pins _ σ H1 _ [.str c] _ [Value.str c s1.toks] _ (I1.tok (s1.toks + 1)) r1 (.cons ⟨s1.toks, rfl⟩ .nil) q1)) (fun v2 s2 q => ?_) fun _ _ z => z.2
  obtain ⟨hk, y2, H2, I2, r2, q2⟩ := q
  have hk1 : 1 ≤ s2.toks := by
    have : s1.toks + 1 ≤ s2.toks := hk
    omega
  refine wpAny_mono (PySem.wpAny_toks (store_ok (Q := fun _ s3 => Inv X pins (σ.set i (some y2)) H2 s3) I2 hN hi hx r2 (fun _ I3 => I3) hf)) (fun _ s3 q => ?_) fun _ _ z => z.2
  exact h2 pins s3 _ H2 D (Nat.le_trans hk1 q.1) q.2 q2
theorem psst_consP (h1 : PS X st t) (h2 : PSsT X rest u) : PSsT X (st :: rest) (tSeq t u) := psst_cons (PST.of h1) h2
theorem psst_cutP (h1 : PS X st t) (h2 : PSsT X rest u) : PSsT X (st :: rest) (C8.tCut t u) := psst_cut (PST.of h1) h2
theorem pat_consP {es : List Expr} {ta : TA} (ha : PE X e te) (hr : PAT X es ta) (hs : starEach (e :: es) X.env = (false, eval e X.env) :: starEach es X.env := by rfl) : PAT X (e :: es) (tCons te ta) := pat_cons (CwR.PET.of ha) hr hs
theorem psst_endP (h : PSs X rest t) : PSsT X rest t := PSsT.of h
variable {e1 e2 e4 b cd : Expr} {t1 t2 t4 tb : TE} {tc : TT} {y2 z2 : Str} {j2 k2 l2 : Nat} {d0 d1 d2 ap2 q2 q3 q4 q5 q6 : Pos}
/-- if c: return o.replace(y, z, 1) -/
theorem psst_rep1 (hc : PT X cd tc) (ho : PE X o to) (h2 : PSsT X rest u) (hyz : (y == z) = false)
    (hst : starEach [.Constant (.str y) j c0, .Constant (.str z) k c1, .Constant (.int 1) l c2] X.env = [(false, eval (.Constant (.str y) j c0) X.env), (false, eval (.Constant (.str z) k c1) X.env), (false, eval (.Constant (.int 1) l c2) X.env)])
    (hbase : attributeBase o "replace" X.env (eval o X.env) = eval o X.env) (hline : (apos.endLine == pos.line) = true) :
    PSsT X (.If cd [.Return (some (.Call (.Attribute o "replace" apos) [.Constant (.str y) j c0, .Constant (.str z) k c1, .Constant (.int 1) l c2] [] pos)) q3] [] q4 :: rest) (tSeq (tIfS tc (tSeq (tRet (tRep1 to y z)) tNext) tNext) u) :=
  psst_cons (CwR.pst_if hc (CwR.psst_one (CwR.pst_ret (pet_rep1 ho hyz hst hbase hline))) CwR.psst_nil) h2
theorem pet_rc (ho : PE X o to) (hyz : (y == z) = false) (hst : starEach [.Constant (.str y) j c0, .Constant (.str z) k c1] X.env = [(false, eval (.Constant (.str y) j c0) X.env), (false, eval (.Constant (.str z) k c1) X.env)])
    (hbase : attributeBase o "replace" X.env (eval o X.env) = eval o X.env) (hline : (apos.endLine == pos.line) = true) : PET X (.Call (.Attribute o "replace" apos) [.Constant (.str y) j c0, .Constant (.str z) k c1] [] pos) (CwR.tReplC to y z) := CwR.pet_replC ho hyz hst hbase hline
theorem pet_r1 (ho : PE X o to) (hyz : (y == z) = false)
    (hst : starEach [.Constant (.str y) j c0, .Constant (.str z) k c1, .Constant (.int 1) l c2] X.env = [(false, eval (.Constant (.str y) j c0) X.env), (false, eval (.Constant (.str z) k c1) X.env), (false, eval (.Constant (.int 1) l c2) X.env)])
    (hbase : attributeBase o "replace" X.env (eval o X.env) = eval o X.env) (hline : (apos.endLine == pos.line) = true) : PET X (.Call (.Attribute o "replace" apos) [.Constant (.str y) j c0, .Constant (.str z) k c1, .Constant (.int 1) l c2] [] pos) (tRep1 to y z) := pet_rep1 ho hyz hst hbase hline
/-- if c: return [e1, e2, r1, e4, r2][b] -/
theorem psst_ret5 {r1 r2 : Expr} {u1 u2 : TE} (hc : PT X cd tc) (h1 : PE X e1 t1) (h2 : PE X e2 t2) (w1 : PET X r1 u1) (h4 : PE X e4 t4) (w2 : PET X r2 u2) (hb : PE X b tb) (hs : PlainIx b) (hr : PSsT X rest u)
    (n1 : starEach [e1, e2, r1, e4, r2] X.env = (false, eval e1 X.env) :: starEach [e2, r1, e4, r2] X.env) (n2 : starEach [e2, r1, e4, r2] X.env = (false, eval e2 X.env) :: starEach [r1, e4, r2] X.env) (n3 : starEach [r1, e4, r2] X.env = (false, eval r1 X.env) :: starEach [e4, r2] X.env)
    (n4 : starEach [e4, r2] X.env = (false, eval e4 X.env) :: starEach [r2] X.env) (n5 : starEach [r2] X.env = (false, eval r2 X.env) :: starEach [] X.env) :
    PSsT X (.If cd [.Return (some (.Subscript (.List [e1, e2, r1, e4, r2] q5) b q6)) q3] [] q4 :: rest)
      (tSeq (tIfS tc (tSeq (tRet (tOp (rIxL X.K) (tLst (tCons t1 (tCons t2 (tCons u1 (tCons t4 (tCons u2 tNil)))))) tb)) tNext) tNext) u) :=
  psst_cons (CwR.pst_if hc (CwR.psst_one (CwR.pst_ret (pet_ix ix_list (pet_lst (pat_cons (CwR.PET.of h1) (pat_cons (CwR.PET.of h2) (pat_cons w1 (pat_cons (CwR.PET.of h4) (pat_cons w2 pat_nil n5) n4) n3) n2) n1)) hb hs))) CwR.psst_nil) hr
/-- as PSsT, PET, told apart from what they say -/
structure PSk (X : Cx) (st : List Stmt) (t : TS) : Prop where
  run : PSsT X st t
structure PEk (X : Cx) (e : Expr) (t : TE) : Prop where
  run : PET X e t
theorem psk_cons (h1 : PS X st t) (h2 : PSk X rest u) : PSk X (st :: rest) (tSeq t u) := ⟨psst_consP h1 h2.run⟩
theorem psk_cut (h1 : PS X st t) (h2 : PSk X rest u) : PSk X (st :: rest) (C8.tCut t u) := ⟨psst_cutP h1 h2.run⟩
theorem psk_end (h : PSs X rest t) : PSk X rest t := ⟨psst_endP h⟩
theorem pek_rc (ho : PE X o to) (hyz : (y == z) = false := by decide) (hst : starEach [.Constant (.str y) j c0, .Constant (.str z) k c1] X.env = [(false, eval (.Constant (.str y) j c0) X.env), (false, eval (.Constant (.str z) k c1) X.env)] := by rfl)
    (hbase : attributeBase o "replace" X.env (eval o X.env) = eval o X.env := by rfl) (hline : (apos.endLine == pos.line) = true := by rfl) : PEk X (.Call (.Attribute o "replace" apos) [.Constant (.str y) j c0, .Constant (.str z) k c1] [] pos) (CwR.tReplC to y z) := ⟨pet_rc ho hyz hst hbase hline⟩
theorem pek_r1 (ho : PE X o to) (hyz : (y == z) = false := by decide)
    (hst : starEach [.Constant (.str y) j c0, .Constant (.str z) k c1, .Constant (.int 1) l c2] X.env = [(false, eval (.Constant (.str y) j c0) X.env), (false, eval (.Constant (.str z) k c1) X.env), (false, eval (.Constant (.int 1) l c2) X.env)] := by rfl)
    (hbase : attributeBase o "replace" X.env (eval o X.env) = eval o X.env := by rfl) (hline : (apos.endLine == pos.line) = true := by rfl) : PEk X (.Call (.Attribute o "replace" apos) [.Constant (.str y) j c0, .Constant (.str z) k c1, .Constant (.int 1) l c2] [] pos) (tRep1 to y z) := ⟨pet_r1 ho hyz hst hbase hline⟩
theorem psk_ret1 {r1 : Expr} {u1 : TE} (hc : PT X cd tc) (w1 : PEk X r1 u1) (h2 : PSk X rest u) : PSk X (.If cd [.Return (some r1) q3] [] q4 :: rest) (tSeq (tIfS tc (tSeq (tRet u1) tNext) tNext) u) :=
  ⟨psst_cons (CwR.pst_if hc (CwR.psst_one (CwR.pst_ret w1.run)) CwR.psst_nil) h2.run⟩
theorem psk_ret5 {r1 r2 : Expr} {u1 u2 : TE} (hc : PT X cd tc) (h1 : PE X e1 t1) (h2 : PE X e2 t2) (w1 : PEk X r1 u1) (h4 : PE X e4 t4) (w2 : PEk X r2 u2) (hb : PE X b tb) (hs : PlainIx b) (hr : PSk X rest u)
    (n1 : starEach [e1, e2, r1, e4, r2] X.env = (false, eval e1 X.env) :: starEach [e2, r1, e4, r2] X.env := by rfl) (n2 : starEach [e2, r1, e4, r2] X.env = (false, eval e2 X.env) :: starEach [r1, e4, r2] X.env := by rfl) (n3 : starEach [r1, e4, r2] X.env = (false, eval r1 X.env) :: starEach [e4, r2] X.env := by rfl)
    (n4 : starEach [e4, r2] X.env = (false, eval e4 X.env) :: starEach [r2] X.env := by rfl) (n5 : starEach [r2] X.env = (false, eval r2 X.env) :: starEach [] X.env := by rfl) :
    PSk X (.If cd [.Return (some (.Subscript (.List [e1, e2, r1, e4, r2] q5) b q6)) q3] [] q4 :: rest)
      (tSeq (tIfS tc (tSeq (tRet (tOp (rIxL X.K) (tLst (tCons t1 (tCons t2 (tCons u1 (tCons t4 (tCons u2 tNil)))))) tb)) tNext) tNext) u) := ⟨psst_ret5 hc h1 h2 w1.run h4 w2.run hb hs hr.run n1 n2 n3 n4 n5⟩
theorem pss_splitK (hN : X.N.Nodup) (hi : X.N[i]? = some x) (hx : Loc X.env.scope x) (ho : PE X o to) (h2 : PSk X rest u)
    (hst : starEach [.Constant (.str c) j c0] X.env = [(false, eval (.Constant (.str c) j c0) X.env)] := by rfl) (hbase : attributeBase o "split" X.env (eval o X.env) = eval o X.env := by rfl) (hline : (apos.endLine == c1.line) = true := by rfl)
    (hs : swapsWith (.Call (.Attribute o "split" apos) [.Constant (.str c) j c0] [] c1) (some (.Name x pos')) pos.line X.env = pure false := by rfl) (hf : X.fn x = true ∨ X.env.scope.names.lookup x = some .local := by first | exact .inl rfl | exact .inr rfl | assumption) :
    PSs X (.Assign [.Name x pos'] (.Call (.Attribute o "split" apos) [.Constant (.str c) j c0] [] c1) pos :: rest) (tSeq (tAsg (tM1 rSplitW to (tC (.str c))) (gName i)) u) := pss_split hN hi hx ho h2.run hst hbase hline hs hf
end
/-! a text bent -/
theorem small1000 {n : Nat} (h : n ≤ 1000) : n < sizeLine := Nat.lt_of_le_of_lt h (by decide)
theorem cutV_to (xs : List V) (j : Nat) (hj : j ≤ xs.length) : cutV xs none (some (j : Int)) = xs.take j := by
  unfold cutV
  rw [HT.sIx_nat, HT.sIx_none, Nat.min_eq_left hj]
  rfl
theorem cutV_from (xs : List V) (i : Nat) (hi : i ≤ xs.length) : cutV xs (some (i : Int)) none = xs.drop i := by
  unfold cutV
  rw [HT.sIx_nat, HT.sIx_none, Nat.min_eq_left hi]
  exact List.take_of_length_le (Nat.le_of_eq List.length_drop)
theorem cnts_drop (us : List Str) (i : Nat) : cnts (us.take i) + cnts (us.drop i) = cnts us := by
  rw [← cnts_app, List.take_append_drop]
theorem cnts_next (us : List Str) (i : Nat) : cnts (us.drop (i + 1)) ≤ cnts (us.drop i) := by
  have h := cnts_drop (us.drop i) 1
  rw [List.drop_drop] at h
  omega
theorem cnts_one (u : Str) : cnts [u] = cnt u := Nat.add_zero _
theorem cnts_rev (us : List Str) : cnts us.reverse = cnts us := by
  induction us with
  | nil => rfl
  | cons x t ih =>
    rw [List.reverse_cons, cnts_app, ih]
    show cnts t + (cnt x + 0) = cnt x + cnts t
    omega
theorem cut_ls (us : List Str) (lo hi : Option Int) : ∃ ls : List Str, cutV (us.map V.str) lo hi = ls.map V.str ∧ ls.length ≤ us.length ∧ (∀ u ∈ ls, u ∈ us) ∧ cnts ls ≤ cnts us := by
  refine ⟨(us.drop (HT.sIx us.length 0 lo)).take (HT.sIx us.length us.length hi - HT.sIx us.length 0 lo), ?_, ?_, ?_, ?_⟩
  · unfold cutV
    rw [List.length_map, List.map_take, List.map_drop]
  · rw [List.length_take, List.length_drop]
    omega
  · exact fun u hu => List.mem_of_mem_drop (List.mem_of_mem_take hu)
  · have h1 := cnts_drop us (HT.sIx us.length 0 lo)
    have h2 := cnts_drop (us.drop (HT.sIx us.length 0 lo)) (HT.sIx us.length us.length hi - HT.sIx us.length 0 lo)
    omega
def sg5 : List Str := ["(", ")", "->", "*", "1", "a", "bb", "", "A", "abcdefg", "=>", "0", "11", "a1"]
theorem wd_sg5 : ∀ u ∈ sg5, u.length ≤ 7 ∧ SOk u ∧ cnt u ≤ 1 := by
  have h : sg5.all (fun u => decide (u.length ≤ 7) && (u.cps.toList.all (fun c => decide (c < 1114112)) && decide (u.cps.toList.count 40 ≤ 1))) = true := by decide +kernel
  intro u hu
  have := List.all_eq_true.mp h u hu
  rw [Bool.and_eq_true, Bool.and_eq_true] at this
  exact ⟨of_decide_eq_true this.1, fun c hc => of_decide_eq_true (List.all_eq_true.mp this.2.1 c hc), of_decide_eq_true this.2.2⟩
structure WsOk (ws : List Str) : Prop where
  some : 1 ≤ ws.length
  many : ws.length ≤ 105
  word : ∀ u ∈ ws, u.length ≤ 7 ∧ SOk u
  few : cnts ws ≤ 26
def spBent : Sp := fun vs H Q _ => ∃ (p : Addr) (z : Str), vs = [.ref p, .str z] ∧ PoolAt H p ∧ z.length ≤ 430 ∧ SOk z ∧ cnt z ≤ 26 ∧ WsOk (Txt.split z " ") ∧ ∀ (z' : Str) (H' : Hp), TxOk z' → PoolAt H' p → Kept p H H' → Q (.str z') H'
theorem so_blank : SOk " " := by unfold SOk; decide +kernel
theorem kept_new {p l : Addr} {H H1 : Hp} {o : HO} (k : Kept p H H1) (h : H1 l = none) : Kept p H (upd H1 l o) := k.trans (kept_same (same_new h))
section
variable {P : Program} {w : World} {K : PySem.W.Frag} {mg : Str → Option Value} {base : Heap}
theorem scBent : FnScope ["_law_pool_here", "_law_text_here", "_law_words", "_law_some", "_law_at", "_law_one", "_law_way"] ["_law_pool_here", "_law_text_here"] (defScope sBent) := ⟨rfl, rfl, rfl, by decide +kernel, rfl, by decide +kernel, by decide +kernel⟩
set_option maxHeartbeats 4000000 in
theorem ok_bent {f fT : Addr} {fd fdT : FuncData} (F : Fun K "_law_bent" "_law_bent" sBent f fd)
    (GT : FnOk P w K mg base CX0 1 fT fdT ["_law_pool_here", "_law_many"] spTake) (kT : PySem.W.keepIn K (.ref fT) = true) (bT : Binds K fdT ["_law_pool_here", "_law_many"] []) (gT : mg "_law_take" = some (.ref fT)) (mLen : mg "len" = none) :
    FnOk P w K mg base CX0 2 f fd ["_law_pool_here", "_law_text_here"] spBent := by
  refine F.ok scBent (fun vs H Q E h => ?_) (fun cdv A outer s H vs Q E hr h => ?_)
  · obtain ⟨p, z, rfl, _⟩ := h
    rfl
  · obtain ⟨p, z, rfl, hp, hz, so, hcz, hws, k⟩ := h
    refine ⟨_, pss_splitK (i := 2) scBent.nd rfl (Or.inl rfl) (pv 1)
      (psk_cons ((ps_set (i := 3) scBent.nd rfl (Or.inl rfl) (pe_lst (pa_cons pe_str (pa_cons pe_str (pa_cons pe_str (pa_cons pe_str (pa_cons pe_str (pa_cons pe_str (pa_cons pe_str (pa_cons pe_str (pa_cons pe_str (pa_cons pe_str (pa_cons pe_str (pa_cons pe_str (pa_cons pe_str (pa_cons pe_str pa_nil)))))))))))))))))
      (psk_cons ((ps_set (i := 4) scBent.nd rfl (Or.inl rfl) (pe_call GT hr (by rfl) gT kT bT .nil pass0 (pa_cons (pv 0) (pa_cons (pe_callB call_len_seq (by rfl) mLen PySem.boot_len (pa_cons (pv 2) pa_nil)) pa_nil)))))
      (psk_cons ((ps_set (i := 5) scBent.nd rfl (Or.inl rfl) (pe_ix ix_list (pv 3) (pe_call GT hr (by rfl) gT kT bT .nil pass0 (pa_cons (pv 0) (pa_cons (pe_callB call_len_seq (by rfl) mLen PySem.boot_len (pa_cons (pv 3) pa_nil)) pa_nil))) (fun _ _ => rfl))))
      (psk_cons ((ps_set (i := 6) scBent.nd rfl (Or.inl rfl) (pe_call GT hr (by rfl) gT kT bT .nil pass0 (pa_cons (pv 0) (pa_cons pe_int pa_nil)))))
      (psk_cut ((ps_if (pt_cmpR op_eq (pv 6) pe_int (nomark _)) (pss_one (ps_set (i := 2) scBent.nd rfl (Or.inl rfl) (pe_op op_cat (pe_slice sl_list (pv 2) po_none (po_some (pv 4))) (pe_slice sl_list (pv 2) (po_some (pe_op op_add (pv 4) pe_int)) po_none)))) pss_nil))
      (psk_cut ((ps_if (pt_cmpR op_eq (pv 6) pe_int (nomark _)) (pss_one (ps_set (i := 2) scBent.nd rfl (Or.inl rfl) (pe_op op_cat (pe_op op_cat (pe_slice sl_list (pv 2) po_none (po_some (pv 4))) (pe_lst (pa_cons (pe_ix ix_list (pv 2) (pv 4) (fun _ _ => rfl)) pa_nil))) (pe_slice sl_list (pv 2) (po_some (pv 4)) po_none)))) pss_nil))
      (psk_cut ((ps_if (pt_cmpR op_eq (pv 6) pe_int (nomark _)) (pss_one (ps_set (i := 2) scBent.nd rfl (Or.inl rfl) (pe_op op_cat (pe_op op_cat (pe_slice sl_list (pv 2) po_none (po_some (pv 4))) (pe_lst (pa_cons (pv 5) pa_nil))) (pe_slice sl_list (pv 2) (po_some (pe_op op_add (pv 4) pe_int)) po_none)))) pss_nil))
      (psk_cut ((ps_if (pt_cmpR op_eq (pv 6) pe_int (nomark _)) (pss_one (ps_set (i := 2) scBent.nd rfl (Or.inl rfl) (pe_op op_cat (pe_op op_cat (pe_slice sl_list (pv 2) po_none (po_some (pv 4))) (pe_lst (pa_cons (pv 5) pa_nil))) (pe_slice sl_list (pv 2) (po_some (pv 4)) po_none)))) pss_nil))
      (psk_cut ((ps_if (pt_cmpR op_eq (pv 6) pe_int (nomark _)) (pss_one (ps_set (i := 2) scBent.nd rfl (Or.inl rfl) (pe_op op_cat (pe_slice sl_list (pv 2) po_none (po_some (pv 4))) (pe_revL (pe_slice sl_list (pv 2) (po_some (pv 4)) po_none))))) pss_nil))
      (psk_cut ((ps_if (pt_cmpR op_eq (pv 6) pe_int (nomark _)) (pss_one (ps_set (i := 2) scBent.nd rfl (Or.inl rfl) (pe_slice sl_list (pv 2) (po_some pe_int) (po_some (pe_un un_neg pe_int))))) pss_nil))
      (psk_cut ((ps_if (pt_cmpR op_eq (pv 6) pe_int (nomark _)) (pss_one (ps_set (i := 2) scBent.nd rfl (Or.inl rfl) (pe_op op_cat (pe_op op_cat (pe_lst (pa_cons pe_str pa_nil)) (pv 2)) (pe_lst (pa_cons pe_str pa_nil))))) pss_nil))
      (psk_ret1 (pt_cmpR op_eq (pv 6) pe_int (nomark _)) (pek_r1 (pv 1)) (psk_ret5 (pt_cmpR op_eq (pv 6) pe_int (nomark _)) (pe_op op_add_str pe_str (pv 1)) (pe_op op_add_str (pv 1) pe_str) (pek_rc (pv 1)) (pe_op op_add_str (pv 1) pe_str) (pek_r1 (pv 1)) (pe_op op_modN (pv 4) pe_int) (fun _ _ => rfl)
        (psk_end (pss_one (ps_ret (pe_join pe_str (pv 2)))))))))))))))))), ?_⟩
    have w1 := hws.some
    have w2 := hws.many
    generalize ews : Txt.split z " " = ws at *
    refine ⟨_, rfl, ⟨_, rfl⟩, z, " ", rfl, rfl, by decide +kernel, Nat.le_trans (show z.length + 2 ≤ 1000 by omega) (by decide), fun W hW => ?_⟩
    rw [ews]
    have k1 : Kept p H (upd H W (.lst (ws.map V.str))) := kept_same (same_new hW)
    have hp1 := hp.same (same_new (o := .lst (ws.map V.str)) hW)
    have nW := hp.ne hW
    have g1 : (upd H W (.lst (ws.map V.str))) W = some (.lst (ws.map V.str)) := upd_same
    generalize upd H W (.lst (ws.map V.str)) = H1 at *
    refine ⟨by show 14 ≤ sizeLine; decide, fun Sg hSg => ?_⟩
    have k2 := kept_new (o := .lst (sg5.map V.str)) k1 hSg
    have hp2 := hp1.same (same_new (o := .lst (sg5.map V.str)) hSg)
    have nS := hp1.ne hSg
    have g2 : (upd H1 Sg (.lst (sg5.map V.str))) Sg = some (.lst (sg5.map V.str)) := upd_same
    have g1b : (upd H1 Sg (.lst (sg5.map V.str))) W = some (.lst (ws.map V.str)) := same_new hSg _ _ g1
    show tSeq _ _ _ _ (upd H1 Sg (.lst (sg5.map V.str)))
    generalize upd H1 Sg (.lst (sg5.map V.str)) = H2 at *
    refine ⟨_, rfl, _, rfl, W, _, rfl, .inl (SqL.of g1b), p, _, rfl, hp2, by rw [List.length_map]; omega, by rw [List.length_map]; omega, fun at' H3 a0 a1 hp3 e3 => ?_⟩
    rw [List.length_map] at a1
    obtain ⟨an, rfl⟩ : ∃ an : Nat, at' = an := ⟨at'.toNat, by omega⟩
    have k3 := k2.trans (kept_take e3)
    refine ⟨_, rfl, _, rfl, _, rfl, Sg, _, rfl, .inl (SqL.of ((e3 Sg nS).trans g2)), p, _, rfl, hp3, by decide, by decide, fun q H4 q0 q1 hp4 e4 => ?_⟩
    have k4 := k3.trans (kept_take e4)
    obtain ⟨u1, hu1, hm1⟩ := at_any (xs := sg5.map V.str) q0 q1
    obtain ⟨one, hone, rfl⟩ := List.mem_map.mp hm1
    obtain ⟨o1, o2, o3⟩ := wd_sg5 one hone
    refine ⟨Sg, _, _, _, rfl, rfl, SqL.of ((e4 Sg nS).trans ((e3 Sg nS).trans g2)), hu1, ?_⟩
    refine ⟨_, rfl, p, 9, rfl, hp4, by decide, by decide, fun way H5 y0 y1 hp5 e5 => ?_⟩
    have k5 := k4.trans (kept_take e5)
    have gW5 : H5 W = some (.lst (ws.map V.str)) := (e5 W nW).trans ((e4 W nW).trans ((e3 W nW).trans g1b))
    obtain ⟨Mid, hMid⟩ : ∃ Mid : Nat → L2.St → Hp → Prop, ∀ k σ H', Mid k σ H' ↔ ∃ (W' : Addr) (ls : List Str), σ = [some (.ref p), some (.str z), some (.ref W'), some (.ref Sg), some (.int (an : Int)), some (.str one), some (.int way)] ∧ H' W' = some (.lst (ls.map V.str)) ∧ LsOk 45 ls ∧
        ((k : Int) ≤ way → ls = ws) ∧ PoolAt H' p ∧ Kept p H H' ∧ W' ≠ p := ⟨_, fun _ _ _ => Iff.rfl⟩
    have skip : ∀ (k : Nat) σ H', Mid k σ H' → Mid (k + 1) σ H' := fun k σ H' m => by
      obtain ⟨W', ls, e, g, ok, eq, hp', kp, n⟩ := (hMid _ _ _).mp m
      exact (hMid _ _ _).mpr ⟨W', ls, e, g, ok, fun h => eq (by omega), hp', kp, n⟩
    have put : ∀ (k : Nat) (ls : List Str) (W' : Addr) (Hk : Hp) {H' Hb : Hp}, PoolAt Hk p → Kept p H Hk → Same Hk H' → Hb W' = none → Same Hk Hb → H' W' = some (.lst (ls.map V.str)) → way = (k : Nat) → LsOk 45 ls →
        Mid (k + 1) [some (.ref p), some (.str z), some (.ref W'), some (.ref Sg), some (.int (an : Int)), some (.str one), some (.int way)] H' := fun k ls W' Hk {H' Hb} hpk kk s hb sb g hw ok =>
      (hMid _ _ _).mpr ⟨W', ls, rfl, g, ok, fun h => absurd h (by omega), hpk.same s, kk.trans (kept_same s), (hpk.same sb).ne hb⟩
    have m10 : Mid 0 [some (.ref p), some (.str z), some (.ref W), some (.ref Sg), some (.int (an : Int)), some (.str one), some (.int way)] H5 := (hMid _ _ _).mpr ⟨W, ws, rfl, gW5, ⟨by omega, hws.word, Nat.le_trans hws.few (by decide)⟩, fun _ => rfl, hp5, k5, nW⟩
    refine ⟨Mid 1, ?_, fun σ11 H11 m11 => ?_⟩
    · obtain ⟨Wk, ls, e0, gk, okk, eqk, hpk, kk, nk⟩ := (hMid 0 _ _).mp m10
      obtain rfl : W = Wk := by simpa using e0
      refine ⟨_, rfl, rfl, _, rfl, ?_⟩
      refine ite2 (fun hc => ?_) (fun _ => skip 0 _ _ m10)
      have hw : way = (0 : Nat) := by
        have := of_decide_eq_true hc
        injection this
      obtain rfl := eqk (by omega)
      refine ⟨_, rfl, _, rfl, _, rfl, W, _, rfl, SqL.of gk, fun p1 h1 => ?_⟩
      rw [cutV_to _ an (by rw [List.length_map]; omega), ← List.map_take]
      have s1 := same_new (o := .lst ((ls.take an).map V.str)) h1
      refine ⟨_, rfl, _, rfl, _, _, rfl, rfl, _, rfl, W, _, rfl, SqL.of (s1 _ _ gk), fun p2 h2 => ?_⟩
      rw [show ((an : Int) + 1) = ((an + 1 : Nat) : Int) from rfl, cutV_from _ (an + 1) (by rw [List.length_map]; omega), ← List.map_drop]
      have s2 := same_new (o := .lst ((ls.drop (an + 1)).map V.str)) h2
      refine ⟨p1, p2, _, _, rfl, rfl, s2 _ _ upd_same, upd_same, ?_, fun p3 h3 => ?_⟩
      · exact Nat.le_trans (show _ ≤ 1000 by simp only [List.length_append, List.length_map, List.length_take, List.length_drop, List.length_cons, List.length_nil, List.length_reverse]; omega) (by decide)
      rw [← List.map_append]
      have s3 := same_new (o := .lst ((ls.take an ++ ls.drop (an + 1)).map V.str)) h3
      exact put 0 _ _ _ hpk kk (Same.trans s1 (Same.trans s2 s3)) h3 (Same.trans s1 s2) upd_same hw ⟨by simp only [List.length_append, List.length_take, List.length_drop]; omega, fun u hu => (List.mem_append.mp hu).elim (fun h => hws.word u (List.mem_of_mem_take h)) (fun h => hws.word u (List.mem_of_mem_drop h)), by rw [cnts_app]; have := cnts_drop ls an; have := cnts_next ls an; have := hws.few; omega⟩
    clear m10
    refine ⟨Mid 2, ?_, fun σ12 H12 m12 => ?_⟩
    · obtain ⟨Wk, ls, rfl, gk, okk, eqk, hpk, kk, nk⟩ := (hMid 1 _ _).mp m11
      refine ⟨_, rfl, rfl, _, rfl, ?_⟩
      refine ite2 (fun hc => ?_) (fun _ => skip 1 _ _ m11)
      have hw : way = (1 : Nat) := by
        have := of_decide_eq_true hc
        injection this
      obtain rfl := eqk (by omega)
      refine ⟨_, rfl, _, rfl, _, rfl, Wk, _, rfl, SqL.of gk, fun p1 h1 => ?_⟩
      rw [cutV_to _ an (by rw [List.length_map]; omega), ← List.map_take]
      have s1 := same_new (o := .lst ((ls.take an).map V.str)) h1
      refine ⟨_, rfl, _, rfl, Wk, _, _, V.str ls[an], rfl, rfl, SqL.of (s1 _ _ gk), atI_nat (by simp [show an < ls.length by omega]), by show 1 ≤ sizeLine; decide, fun p2 h2 => ?_⟩
      have s2 := same_new (o := .lst ([ls[an]].map V.str)) h2
      refine ⟨p1, p2, _, _, rfl, rfl, s2 _ _ upd_same, upd_same, ?_, fun p3 h3 => ?_⟩
      · exact Nat.le_trans (show _ ≤ 1000 by simp only [List.length_append, List.length_map, List.length_take, List.length_drop, List.length_cons, List.length_nil, List.length_reverse]; omega) (by decide)
      have s3 := same_new (o := .lst ((ls.take an).map V.str ++ [ls[an]].map V.str)) h3
      refine ⟨_, rfl, _, rfl, _, rfl, Wk, _, rfl, SqL.of ((Same.trans s1 (Same.trans s2 s3)) _ _ gk), fun p4 h4 => ?_⟩
      rw [cutV_from _ an (by rw [List.length_map]; omega), ← List.map_drop]
      have s4 := same_new (o := .lst ((ls.drop an).map V.str)) h4
      refine ⟨p3, p4, _, _, rfl, rfl, s4 _ _ upd_same, upd_same, ?_, fun p5 h5 => ?_⟩
      · exact Nat.le_trans (show _ ≤ 1000 by simp only [List.length_append, List.length_map, List.length_take, List.length_drop, List.length_cons, List.length_nil, List.length_reverse]; omega) (by decide)
      have e5 : (ls.take an).map V.str ++ [ls[an]].map V.str ++ (ls.drop an).map V.str = (ls.take an ++ [ls[an]] ++ ls.drop an).map V.str := by rw [List.map_append, List.map_append]
      have S4 := Same.trans s1 (Same.trans s2 (Same.trans s3 s4))
      have mem := hws.word ls[an] (List.getElem_mem _)
      have cl := cnt_le ls[an]
      show Mid 2 _ (upd _ p5 (.lst ((ls.take an).map V.str ++ [ls[an]].map V.str ++ (ls.drop an).map V.str)))
      rw [e5]
      have s5 := same_new (o := .lst ((ls.take an ++ [ls[an]] ++ ls.drop an).map V.str)) h5
      exact put 1 _ _ _ hpk kk (Same.trans S4 s5) h5 S4 upd_same hw ⟨by simp only [List.length_append, List.length_take, List.length_drop, List.length_cons, List.length_nil]; omega, fun u hu => (List.mem_append.mp hu).elim (fun h => (List.mem_append.mp h).elim (fun h => hws.word u (List.mem_of_mem_take h)) (fun h => by rw [List.mem_singleton.mp h]; exact mem)) (fun h => hws.word u (List.mem_of_mem_drop h)), by rw [cnts_app, cnts_app, cnts_one]; have := cnts_drop ls an; have := hws.few; omega⟩
    clear m11
    refine ⟨Mid 3, ?_, fun σ13 H13 m13 => ?_⟩
    · obtain ⟨Wk, ls, rfl, gk, okk, eqk, hpk, kk, nk⟩ := (hMid 2 _ _).mp m12
      refine ⟨_, rfl, rfl, _, rfl, ?_⟩
      refine ite2 (fun hc => ?_) (fun _ => skip 2 _ _ m12)
      have hw : way = (2 : Nat) := by
        have := of_decide_eq_true hc
        injection this
      obtain rfl := eqk (by omega)
      refine ⟨_, rfl, _, rfl, _, rfl, Wk, _, rfl, SqL.of gk, fun p1 h1 => ?_⟩
      rw [cutV_to _ an (by rw [List.length_map]; omega), ← List.map_take]
      have s1 := same_new (o := .lst ((ls.take an).map V.str)) h1
      refine ⟨_, rfl, by show 1 ≤ sizeLine; decide, fun p2 h2 => ?_⟩
      have s2 := same_new (o := .lst ([one].map V.str)) h2
      refine ⟨p1, p2, _, _, rfl, rfl, s2 _ _ upd_same, upd_same, ?_, fun p3 h3 => ?_⟩
      · exact Nat.le_trans (show _ ≤ 1000 by simp only [List.length_append, List.length_map, List.length_take, List.length_drop, List.length_cons, List.length_nil, List.length_reverse]; omega) (by decide)
      have s3 := same_new (o := .lst ((ls.take an).map V.str ++ [one].map V.str)) h3
      refine ⟨_, rfl, _, rfl, _, _, rfl, rfl, _, rfl, Wk, _, rfl, SqL.of ((Same.trans s1 (Same.trans s2 s3)) _ _ gk), fun p4 h4 => ?_⟩
      rw [show ((an : Int) + 1) = ((an + 1 : Nat) : Int) from rfl, cutV_from _ (an + 1) (by rw [List.length_map]; omega), ← List.map_drop]
      have s4 := same_new (o := .lst ((ls.drop (an + 1)).map V.str)) h4
      refine ⟨p3, p4, _, _, rfl, rfl, s4 _ _ upd_same, upd_same, ?_, fun p5 h5 => ?_⟩
      · exact Nat.le_trans (show _ ≤ 1000 by simp only [List.length_append, List.length_map, List.length_take, List.length_drop, List.length_cons, List.length_nil, List.length_reverse]; omega) (by decide)
      have e5 : (ls.take an).map V.str ++ [one].map V.str ++ (ls.drop (an + 1)).map V.str = (ls.take an ++ [one] ++ ls.drop (an + 1)).map V.str := by rw [List.map_append, List.map_append]
      have S4 := Same.trans s1 (Same.trans s2 (Same.trans s3 s4))
      show Mid 3 _ (upd _ p5 (.lst ((ls.take an).map V.str ++ [one].map V.str ++ (ls.drop (an + 1)).map V.str)))
      rw [e5]
      have s5 := same_new (o := .lst ((ls.take an ++ [one] ++ ls.drop (an + 1)).map V.str)) h5
      exact put 2 _ _ _ hpk kk (Same.trans S4 s5) h5 S4 upd_same hw ⟨by simp only [List.length_append, List.length_take, List.length_drop, List.length_cons, List.length_nil]; omega, fun u hu => (List.mem_append.mp hu).elim (fun h => (List.mem_append.mp h).elim (fun h => hws.word u (List.mem_of_mem_take h)) (fun h => by rw [List.mem_singleton.mp h]; exact ⟨o1, o2⟩)) (fun h => hws.word u (List.mem_of_mem_drop h)), by rw [cnts_app, cnts_app, cnts_one]; have := cnts_drop ls an; have := cnts_next ls an; have := hws.few; omega⟩
    clear m12
    refine ⟨Mid 4, ?_, fun σ14 H14 m14 => ?_⟩
    · obtain ⟨Wk, ls, rfl, gk, okk, eqk, hpk, kk, nk⟩ := (hMid 3 _ _).mp m13
      refine ⟨_, rfl, rfl, _, rfl, ?_⟩
      refine ite2 (fun hc => ?_) (fun _ => skip 3 _ _ m13)
      have hw : way = (3 : Nat) := by
        have := of_decide_eq_true hc
        injection this
      obtain rfl := eqk (by omega)
      refine ⟨_, rfl, _, rfl, _, rfl, Wk, _, rfl, SqL.of gk, fun p1 h1 => ?_⟩
      rw [cutV_to _ an (by rw [List.length_map]; omega), ← List.map_take]
      have s1 := same_new (o := .lst ((ls.take an).map V.str)) h1
      refine ⟨_, rfl, by show 1 ≤ sizeLine; decide, fun p2 h2 => ?_⟩
      have s2 := same_new (o := .lst ([one].map V.str)) h2
      refine ⟨p1, p2, _, _, rfl, rfl, s2 _ _ upd_same, upd_same, ?_, fun p3 h3 => ?_⟩
      · exact Nat.le_trans (show _ ≤ 1000 by simp only [List.length_append, List.length_map, List.length_take, List.length_drop, List.length_cons, List.length_nil, List.length_reverse]; omega) (by decide)
      have s3 := same_new (o := .lst ((ls.take an).map V.str ++ [one].map V.str)) h3
      refine ⟨_, rfl, _, rfl, _, rfl, Wk, _, rfl, SqL.of ((Same.trans s1 (Same.trans s2 s3)) _ _ gk), fun p4 h4 => ?_⟩
      rw [cutV_from _ an (by rw [List.length_map]; omega), ← List.map_drop]
      have s4 := same_new (o := .lst ((ls.drop an).map V.str)) h4
      refine ⟨p3, p4, _, _, rfl, rfl, s4 _ _ upd_same, upd_same, ?_, fun p5 h5 => ?_⟩
      · exact Nat.le_trans (show _ ≤ 1000 by simp only [List.length_append, List.length_map, List.length_take, List.length_drop, List.length_cons, List.length_nil, List.length_reverse]; omega) (by decide)
      have e5 : (ls.take an).map V.str ++ [one].map V.str ++ (ls.drop (an)).map V.str = (ls.take an ++ [one] ++ ls.drop (an)).map V.str := by rw [List.map_append, List.map_append]
      have S4 := Same.trans s1 (Same.trans s2 (Same.trans s3 s4))
      show Mid 4 _ (upd _ p5 (.lst ((ls.take an).map V.str ++ [one].map V.str ++ (ls.drop (an)).map V.str)))
      rw [e5]
      have s5 := same_new (o := .lst ((ls.take an ++ [one] ++ ls.drop (an)).map V.str)) h5
      exact put 3 _ _ _ hpk kk (Same.trans S4 s5) h5 S4 upd_same hw ⟨by simp only [List.length_append, List.length_take, List.length_drop, List.length_cons, List.length_nil]; omega, fun u hu => (List.mem_append.mp hu).elim (fun h => (List.mem_append.mp h).elim (fun h => hws.word u (List.mem_of_mem_take h)) (fun h => by rw [List.mem_singleton.mp h]; exact ⟨o1, o2⟩)) (fun h => hws.word u (List.mem_of_mem_drop h)), by rw [cnts_app, cnts_app, cnts_one]; have := cnts_drop ls an; have := cnts_next ls an; have := hws.few; omega⟩
    clear m13
    refine ⟨Mid 5, ?_, fun σ15 H15 m15 => ?_⟩
    · obtain ⟨Wk, ls, rfl, gk, okk, eqk, hpk, kk, nk⟩ := (hMid 4 _ _).mp m14
      refine ⟨_, rfl, rfl, _, rfl, ?_⟩
      refine ite2 (fun hc => ?_) (fun _ => skip 4 _ _ m14)
      have hw : way = (4 : Nat) := by
        have := of_decide_eq_true hc
        injection this
      obtain rfl := eqk (by omega)
      refine ⟨_, rfl, _, rfl, _, rfl, Wk, _, rfl, SqL.of gk, fun p1 h1 => ?_⟩
      rw [cutV_to _ an (by rw [List.length_map]; omega), ← List.map_take]
      have s1 := same_new (o := .lst ((ls.take an).map V.str)) h1
      refine ⟨_, rfl, _, rfl, _, rfl, Wk, _, rfl, SqL.of (s1 _ _ gk), fun p2 h2 => ?_⟩
      rw [cutV_from _ an (by rw [List.length_map]; omega), ← List.map_drop]
      have s2 := same_new (o := .lst ((ls.drop an).map V.str)) h2
      refine ⟨p2, _, rfl, SqL.of upd_same, fun p3 h3 => ?_⟩
      rw [← List.map_reverse]
      have s3 := same_new (o := .lst ((ls.drop an).reverse.map V.str)) h3
      refine ⟨p1, p3, _, _, rfl, rfl, s3 _ _ (s2 _ _ upd_same), upd_same, ?_, fun p5 h5 => ?_⟩
      · exact Nat.le_trans (show _ ≤ 1000 by simp only [List.length_append, List.length_map, List.length_take, List.length_drop, List.length_cons, List.length_nil, List.length_reverse]; omega) (by decide)
      have S4 := Same.trans s1 (Same.trans s2 s3)
      rw [← List.map_append]
      have s5 := same_new (o := .lst ((ls.take an ++ (ls.drop an).reverse).map V.str)) h5
      exact put 4 _ _ _ hpk kk (Same.trans S4 s5) h5 S4 upd_same hw ⟨by simp only [List.length_append, List.length_take, List.length_drop, List.length_reverse]; omega, fun u hu => (List.mem_append.mp hu).elim (fun h => hws.word u (List.mem_of_mem_take h)) (fun h => hws.word u (List.mem_of_mem_drop (List.mem_reverse.mp h))), by rw [cnts_app, cnts_rev]; have := cnts_drop ls an; have := hws.few; omega⟩
    clear m14
    refine ⟨Mid 6, ?_, fun σ16 H16 m16 => ?_⟩
    · obtain ⟨Wk, ls, rfl, gk, okk, eqk, hpk, kk, nk⟩ := (hMid 5 _ _).mp m15
      refine ⟨_, rfl, rfl, _, rfl, ?_⟩
      refine ite2 (fun hc => ?_) (fun _ => skip 5 _ _ m15)
      have hw : way = (5 : Nat) := by
        have := of_decide_eq_true hc
        injection this
      obtain rfl := eqk (by omega)
      refine ⟨_, rfl, _, rfl, _, rfl, _, rfl, Wk, _, rfl, SqL.of gk, fun p1 h1 => ?_⟩
      obtain ⟨l2, e2, q1, q2, q3⟩ := cut_ls ls (some 1) (some (-1))
      have e3 : cutV (ls.map V.str) (some 1) (some (-1)) = l2.map V.str := e2
      show Mid 6 _ (upd _ p1 (.lst (cutV (ls.map V.str) (some 1) (some (-1)))))
      rw [e3]
      have s5 := same_new (o := .lst (l2.map V.str)) h1
      exact put 5 _ _ _ hpk kk s5 h1 (Same.refl _) upd_same hw ⟨by omega, fun u hu => hws.word u (q2 u hu), by have := hws.few; omega⟩
    clear m15
    refine ⟨Mid 7, ?_, fun σ17 H17 m17 => ?_⟩
    · obtain ⟨Wk, ls, rfl, gk, okk, eqk, hpk, kk, nk⟩ := (hMid 6 _ _).mp m16
      refine ⟨_, rfl, rfl, _, rfl, ?_⟩
      refine ite2 (fun hc => ?_) (fun _ => skip 6 _ _ m16)
      have hw : way = (6 : Nat) := by
        have := of_decide_eq_true hc
        injection this
      obtain rfl := eqk (by omega)
      refine ⟨by show 1 ≤ sizeLine; decide, fun p1 h1 => ?_⟩
      have s1 := same_new (o := .lst ([("(" : Str)].map V.str)) h1
      refine ⟨_, rfl, p1, Wk, _, _, rfl, rfl, upd_same, s1 _ _ gk, ?_, fun p3 h3 => ?_⟩
      · exact Nat.le_trans (show _ ≤ 1000 by simp only [List.length_append, List.length_map, List.length_take, List.length_drop, List.length_cons, List.length_nil, List.length_reverse]; omega) (by decide)
      have s3 := same_new (o := .lst ([("(" : Str)].map V.str ++ ls.map V.str)) h3
      refine ⟨by show 1 ≤ sizeLine; decide, fun p4 h4 => ?_⟩
      have s4 := same_new (o := .lst ([(")" : Str)].map V.str)) h4
      refine ⟨p3, p4, _, _, rfl, rfl, s4 _ _ upd_same, upd_same, ?_, fun p5 h5 => ?_⟩
      · exact Nat.le_trans (show _ ≤ 1000 by simp only [List.length_append, List.length_map, List.length_take, List.length_drop, List.length_cons, List.length_nil, List.length_reverse]; omega) (by decide)
      have e5 : [("(" : Str)].map V.str ++ ls.map V.str ++ [(")" : Str)].map V.str = ([("(" : Str)] ++ ls ++ [(")" : Str)]).map V.str := by rw [List.map_append, List.map_append]
      have S4 := Same.trans s1 (Same.trans s3 s4)
      show Mid 7 _ (upd _ p5 (.lst ([("(" : Str)].map V.str ++ ls.map V.str ++ [(")" : Str)].map V.str)))
      rw [e5]
      have s5 := same_new (o := .lst (([("(" : Str)] ++ ls ++ [(")" : Str)]).map V.str)) h5
      have f1 := wd_sg5 "(" (by decide +kernel)
      have f2 := wd_sg5 ")" (by decide +kernel)
      exact put 6 _ _ _ hpk kk (Same.trans S4 s5) h5 S4 upd_same hw ⟨by simp only [List.length_append, List.length_cons, List.length_nil]; omega, fun u hu => (List.mem_append.mp hu).elim (fun h => (List.mem_append.mp h).elim (fun h => by rw [List.mem_singleton.mp h]; exact ⟨f1.1, f1.2.1⟩) (fun h => hws.word u h)) (fun h => by rw [List.mem_singleton.mp h]; exact ⟨f2.1, f2.2.1⟩), by rw [cnts_app, cnts_app, cnts_one, cnts_one]; have := hws.few; have := f1.2.2; have := f2.2.2; omega⟩
    clear m16
    obtain ⟨Wk, ls, rfl, gk, okk, eqk, hpk, kk, nk⟩ := (hMid 7 _ _).mp m17
    have b2 : (" " : Str).length = 1 := by decide +kernel
    have b3 : 40 ∉ (" " : Str).cps.toList := by decide +kernel
    have r1 : ∀ (y : Str), SOk y → 40 ∉ y.cps.toList → y.length ≤ 2 → TxOk (rep z " " y 1) := fun y hy hb hl => by
      obtain ⟨q1, q2, q3⟩ := rep_facts (n := 1) so hy hb b2 b3 so_blank
      have oc := StrLaws.occ_length_le z " " 0 z.length 1
      have : (Builtin.Str.occurrences z " " 0 z.length 1).length * y.length ≤ 1 * 2 := Nat.mul_le_mul oc hl
      exact ⟨by omega, q1, by rw [q2]; omega⟩
    refine ⟨_, rfl, rfl, _, rfl, ?_⟩
    refine ite2 (fun hc => ?_) (fun _ => ?_)
    · refine ⟨_, rfl, z, rfl, ?_, k _ _ (r1 "  " (by unfold SOk; decide +kernel) (by decide +kernel) (by decide +kernel)) hpk kk⟩
      have : ("  " : Str).length = 2 := by decide +kernel
      omega
    refine ⟨_, rfl, rfl, _, rfl, ?_⟩
    refine ite2 (fun hc => ?_) (fun _ => ?_)
    · have tabl : ("\t" : Str).length = 1 := by decide +kernel
      have nll : ("\n" : Str).length = 1 := by decide +kernel
      have z0 : ("" : Str).length = 0 := by decide +kernel
      have okf : ∀ {i : Nat}, i ≤ 1000 → i ≤ sizeLine := fun h => Nat.le_trans h (by decide)
      refine ⟨_, rfl, _, _, rfl, rfl, okf (by omega), _, rfl, _, _, rfl, rfl, okf (by omega), _, rfl, z, rfl, by rw [z0]; omega, _, rfl, _, _, rfl, rfl, okf (by omega), _, rfl, z, rfl, by omega, by show 5 ≤ sizeLine; decide, fun l hl => ?_⟩
      have N := nm_nat (x := (an : Int)) (m := 5) (by decide)
      refine ⟨_, rfl, _, _, rfl, rfl, by show (5 : Int) ≠ 0; decide, ?_⟩
      have all : ∀ v ∈ [V.str (" " ++ z), V.str (z ++ " "), V.str (Txt.replace z " " ""), V.str (z ++ "\n"), V.str (rep z " " "\t" 1)], ∃ y, v = V.str y ∧ TxOk y := by
        intro v hv
        simp only [List.mem_cons, List.not_mem_nil, or_false] at hv
        have c0 : cnt " " = 0 := by decide +kernel
        have c1 : cnt "\n" = 0 := by decide +kernel
        rcases hv with rfl | rfl | rfl | rfl | rfl
        · exact ⟨_, rfl, by rw [len_app]; omega, sok_app so_blank so, by rw [cnt_app]; omega⟩
        · exact ⟨_, rfl, by rw [len_app]; omega, sok_app so so_blank, by rw [cnt_app]; omega⟩
        · obtain ⟨q1, q2, q3⟩ := rep_facts (n := z.length + 1) so (z := "") (by unfold SOk; decide +kernel) (by decide +kernel) b2 b3 so_blank
          have e : Txt.replace z " " "" = rep z " " "" (z.length + 1) := rfl
          rw [z0, Nat.mul_zero] at q3
          exact ⟨_, rfl, by rw [e]; omega, by rw [e]; exact q1, by rw [e, q2]; omega⟩
        · exact ⟨_, rfl, by rw [len_app]; omega, sok_app so (by unfold SOk; decide +kernel), by rw [cnt_app]; omega⟩
        · exact ⟨_, rfl, r1 "\t" (by unfold SOk; decide +kernel) (by decide +kernel) (by decide +kernel)⟩
      obtain ⟨v, hv, hm⟩ := at_any (xs := [V.str (" " ++ z), V.str (z ++ " "), V.str (Txt.replace z " " ""), V.str (z ++ "\n"), V.str (rep z " " "\t" 1)]) N.1 N.2
      obtain ⟨y, rfl, oky⟩ := all v hm
      exact ⟨l, _, _, _, rfl, rfl, SqL.of upd_same, hv, k _ _ oky (hpk.same (same_new hl)) (kept_new kk hl)⟩
    have sm := sum7 ls fun u hu => (okk.word u hu).1
    have mn := okk.many
    refine ⟨⟨_, rfl⟩, _, rfl, " ", Wk, ls, rfl, rfl, .inl (SqL.of gk), by rw [b2]; omega, k _ _ okk.text hpk kk⟩
end
/-! the law's own reading, by going down -/
theorem words_head (c : Kd) (h : c.M) : ∃ x xs, wordsK c = x :: xs ∧ (x = "(" ∨ x = "1" ∨ isMark x = true) := by
  cases c with
  | one => exact ⟨_, _, rfl, .inr (.inl rfl)⟩
  | mark m => exact ⟨_, _, rfl, .inr (.inr h.1)⟩
  | two b k l => exact ⟨_, _, rfl, .inl rfl⟩
theorem words_two (b : Bool) (k l : Kd) (X : List Str) : wordsK (.two b k l) ++ X = ("(" : Str) :: (wordsK k ++ (sign b :: (wordsK l ++ ((")" : Str) :: X)))) := by
  show (("(" : Str) :: (wordsK k ++ (sign b :: (wordsK l ++ [(")" : Str)])))) ++ X = _
  simp
theorem words_pre : ∀ (c d : Kd), c.M → d.M → ∀ X Y : List Str, wordsK c ++ X = wordsK d ++ Y → c = d ∧ X = Y := by
  intro c
  induction c with
  | one =>
    intro d hc hd X Y h
    cases d with
    | one => exact ⟨rfl, by injection h⟩
    | mark m =>
      have e : (("1" : Str)) = m := by injection h
      have := hd.1
      rw [← e] at this
      exact absurd this (by decide +kernel)
    | two b k l =>
      have e : (("1" : Str)) = "(" := by injection h
      exact absurd e (by decide +kernel)
  | mark m =>
    intro d hc hd X Y h
    cases d with
    | one =>
      have e : m = "1" := by injection h
      have := hc.1
      rw [e] at this
      exact absurd this (by decide +kernel)
    | mark m' =>
      injection h with e1 e2
      exact ⟨by rw [e1], e2⟩
    | two b k l =>
      have e : m = "(" := by injection h
      have := hc.1
      rw [e] at this
      exact absurd this (by decide +kernel)
  | two b k l ihk ihl =>
    intro d hc hd X Y h
    cases d with
    | one =>
      have e : (("(" : Str)) = "1" := by injection h
      exact absurd e (by decide +kernel)
    | mark m =>
      have e : (("(" : Str)) = m := by injection h
      have := hd.1
      rw [← e] at this
      exact absurd this (by decide +kernel)
    | two b' k' l' =>
      rw [words_two, words_two] at h
      injection h with _ h
      obtain ⟨ek, h⟩ := ihk k' hc.1 hd.1 _ _ h
      injection h with es h
      obtain ⟨el, h⟩ := ihl l' hc.2 hd.2 _ _ h
      injection h with _ h
      have eb : b = b' := by
        cases b <;> cases b'
        · rfl
        · exact absurd es (by decide +kernel)
        · exact absurd es (by decide +kernel)
        · rfl
      exact ⟨by rw [eb, ek, el], h⟩
/-- some kind's words begin a list -/
def Beg (us : List Str) : Prop := ∃ c rest, Kd.M c ∧ us = wordsK c ++ rest
theorem beg_nil : ¬ Beg [] := by
  rintro ⟨c, rest, hc, e⟩
  obtain ⟨x, xs, ex, _⟩ := words_head c hc
  rw [ex] at e
  cases e
theorem beg_head {z : Str} {tl : List Str} (h : Beg (z :: tl)) : z = "(" ∨ z = "1" ∨ isMark z = true := by
  obtain ⟨c, rest, hc, e⟩ := h
  obtain ⟨x, xs, ex, hx⟩ := words_head c hc
  rw [ex] at e
  injection e with e _
  rw [e]
  exact hx
/-- behind an opening bracket: a kind, a sign, a kind, a closing bracket -/
theorem beg_two {tl : List Str} (h : Beg (("(" : Str) :: tl)) : ∃ b k l rest, Kd.M k ∧ Kd.M l ∧ tl = wordsK k ++ (sign b :: (wordsK l ++ ((")" : Str) :: rest))) := by
  obtain ⟨c, rest, hc, e⟩ := h
  cases c with
  | one =>
    have : (("(" : Str)) = "1" := by injection e
    exact absurd this (by decide +kernel)
  | mark m =>
    have q : (("(" : Str)) = m := by injection e
    have := hc.1
    rw [← q] at this
    exact absurd this (by decide +kernel)
  | two b k l =>
    rw [words_two] at e
    injection e with _ e
    exact ⟨b, k, l, rest, hc.1, hc.2, e⟩
def spFrom (n : Nat) : Sp := fun vs H Q _ => ∃ (W : Addr) (at' : Nat) (ws : List Str), vs = [.ref W, .int (at' : Int)] ∧ H W = some (.lst (ws.map V.str)) ∧ (∀ y ∈ ws, y.length ≤ 960 ∧ SOk y) ∧ ws.length ≤ 961 ∧ at' ≤ ws.length ∧ cnts (ws.drop at') < n ∧
  (∀ c rest, Kd.M c → ws.drop at' = wordsK c ++ rest → ∀ (H' : Hp) (D : Addr) (v : V), Same H H' → KdAt H' c v → H' D = some (.lst [v, .int ((at' + (wordsK c).length : Nat) : Int), .int (c.leaves : Int), .int (c.deep : Int)]) → Q (.ref D) H') ∧
  (¬ Beg (ws.drop at') → ∀ H', Same H H' → Q .non H')
theorem drop_len {ws rest : List Str} {i : Nat} {us : List Str} (h : ws.drop i = us ++ rest) (hi : i ≤ ws.length) : ws.drop (i + us.length) = rest ∧ i + us.length ≤ ws.length := by
  have hl := congrArg List.length h
  rw [List.length_drop, List.length_append] at hl
  refine ⟨?_, by omega⟩
  rw [← List.drop_drop, h, List.drop_left]
theorem take_one_map (us : List Str) : (us.map V.str).take 1 = (us.take 1).map V.str := by rw [List.map_take]
theorem cutV_two (xs : List V) (i : Nat) (hi : i ≤ xs.length) : cutV xs (some (i : Int)) (some ((i : Int) + 1)) = (xs.drop i).take 1 := by
  unfold cutV
  rw [show ((i : Int) + 1) = ((i + 1 : Nat) : Int) from rfl, HT.sIx_nat, HT.sIx_nat, Nat.min_eq_left hi]
  by_cases h : i + 1 ≤ xs.length
  · rw [Nat.min_eq_left h, Nat.add_sub_cancel_left]
  · have e : i = xs.length := by omega
    subst e
    simp
theorem sign_two (b : Bool) : (decide ([sign b] = [("->" : Str)]) || decide ([sign b] = [("*" : Str)])) = true := by cases b <;> decide +kernel
section
variable {P : Program} {w : World} {K : PySem.W.Frag} {mg : Str → Option Value} {base : Heap}
def sgn (c : Nat) : V := .str ⟨#[c]⟩
theorem sgn_dp {K : PySem.W.Frag} {H : Hp} : ∀ l : List Nat, DpAll K H (l.map sgn) (l.map fun c => PyData.str ⟨#[c]⟩)
  | [] => .nil
  | c :: r => .cons (.str _) (sgn_dp r)
theorem sgn_ok : ∀ l : List Nat, (∀ c ∈ l, c < 1114112) → PyData.canLayAll0 (l.map fun c => PyData.str ⟨#[c]⟩) = true ∧ PyData.depthAll (l.map fun c => PyData.str ⟨#[c]⟩) = 0
  | [], _ => ⟨by simp only [List.map_nil, PyData.canLayAll0], by simp only [List.map_nil, PyData.depthAll]⟩
  | c :: r, h => by
    obtain ⟨a, b⟩ := sgn_ok r fun d hd => h d (List.mem_cons_of_mem _ hd)
    have hc : PyData.canLay0 (.str ⟨#[c]⟩) = true := by
      simp only [PyData.canLay0]
      show (#[c]).all (fun x => decide (x < 0x110000)) = true
      have := h c List.mem_cons_self
      simp
      omega
    constructor
    · simp only [List.map_cons, PyData.canLayAll0, hc, a]
      rfl
    · simp only [List.map_cons, PyData.depthAll, PyData.depth, b]
      rfl
theorem eqv_nil (ds : List PyData) : PyData.eqv (.list ds) (.list []) = ds.isEmpty := by
  cases ds with
  | nil => simp only [PyData.eqv, PyData.eqvAll]; rfl
  | cons a r => simp only [PyData.eqv, PyData.eqvAll]; rfl
theorem low_due (z : Str) : ((z.cps.toList.filter fun c => !decide (c ∈ low)).map fun c => PyData.str ⟨#[c]⟩).isEmpty = z.cps.toList.all fun c => decide (c ∈ low) := by
  rw [List.isEmpty_map, Bool.eq_iff_iff, List.isEmpty_iff, List.filter_eq_nil_iff, List.all_eq_true]
  constructor
  · intro q c hc
    have := q c hc
    simpa using this
  · intro q c hc
    have := q c hc
    simpa using this
theorem two_eqv (us : List Str) : ([PyData.list [.str "->"], .list [.str "*"]].any fun z => PyData.eqv z (.list (us.map PyData.str))) = (decide (us = [("->" : Str)]) || decide (us = [("*" : Str)])) := by
  have e1 := strs_eqv [("->" : Str)] us
  have e2 := strs_eqv [("*" : Str)] us
  show (PyData.eqv (.list [.str "->"]) (.list (us.map PyData.str)) || (PyData.eqv (.list [.str "*"]) (.list (us.map PyData.str)) || false)) = _
  rw [show PyData.eqv (.list [.str "->"]) (.list (us.map PyData.str)) = decide ([("->" : Str)] = us) from e1, show PyData.eqv (.list [.str "*"]) (.list (us.map PyData.str)) = decide ([("*" : Str)] = us) from e2, Bool.or_false]
  simp only [eq_comm]
theorem room65 {k : Nat} {A : Around} (r : Room k A) : A.units + 65 < cLine := by
  have := r.un
  omega
theorem so_close : SOk ")" := by unfold SOk; decide +kernel
theorem scFrom : FnScope ["_law_words", "_law_at", "_law_word", "_law_one", "_law_other", "_law_kind_here", "_law_sign"] ["_law_words", "_law_at"] (defScope sFrom) := ⟨rfl, rfl, rfl, by decide +kernel, rfl, by decide +kernel, by decide +kernel⟩
set_option maxHeartbeats 2000000 in
theorem ok_from {f : Addr} {fd : FuncData} (F : Fun K "_law_from" "_law_from" sFrom f fd) (bF : Binds K fd ["_law_words", "_law_at"] []) (gF : mg "_law_from" = some (.ref f)) (mLen : mg "len" = none) (mInt : mg "int" = none) (mMax : mg "max" = none) :
    ∀ n : Nat, FnOk P w K mg base CX0 (n + 2) f fd ["_law_words", "_law_at"] (spFrom n) := by
  intro n
  induction n with
  | zero =>
    refine F.ok scFrom (fun vs H Q E h => ?_) (fun cdv A outer s H vs Q E hr h => ?_)
    · obtain ⟨W, a, ws, rfl, _⟩ := h
      rfl
    · obtain ⟨W, a, ws, _, _, _, _, _, h1, _⟩ := h
      omega
  | succ n GF =>
    refine F.ok scFrom (fun vs H Q E h => ?_) (fun cdv A outer s H vs Q E hr h => ?_)
    · obtain ⟨W, a, ws, rfl, _⟩ := h
      rfl
    · obtain ⟨W, at', ws, rfl, hW, hws, hwl, hat, hn, yes, no⟩ := h
      refine ⟨_, pss_cons (ps_if (PW.pt (pw_or (pt_cmpR op_ge (pv 1) (pe_callB call_len_seq (by rfl) mLen PySem.boot_len (pa_cons (pv 0) pa_nil)) (nomark _)) (pw_or1 (pt_cmpR op_in_seq (pe_ix ix_list (pv 0) (pv 1) (fun _ _ => rfl)) (pe_lst (pa_cons pe_str (pa_cons pe_str (pa_cons pe_str (pa_cons pe_str pa_nil))))) (by rfl))))) (pss_one (ps_ret pe_non)) pss_nil)
        (pss_cons (ps_set (i := 2) scFrom.nd rfl (Or.inl rfl) (pe_ix ix_list (pv 0) (pv 1) (fun _ _ => rfl)))
        (pss_cons (ps_if (pt_cmpR op_eq (pv 2) pe_str (nomark _)) (pss_one (ps_ret (pe_lst (pa_cons (pe_tup (pa_cons pe_str pa_nil)) (pa_cons (pe_op op_add (pv 1) pe_int) (pa_cons pe_int (pa_cons pe_int pa_nil))))))) pss_nil)
        (pss_cons (ps_if (pt_cmpR op_ne (pv 2) pe_str (nomark _))
          (pss_cons (ps_if (PW.pt (pw_or (pt_cmpR op_gt (pe_callB call_len_str (by rfl) mLen PySem.boot_len (pa_cons (pv 2) pa_nil)) pe_int (nomark _)) (pw_or1 (pt_cmpR (op_neD hr.units) (pe_lc (own := [("_law_sign", 6)]) (g := gName 6) (by rfl) scFrom.nd (pi_str (pv 2))
              (blkOk_by (N := ["_law_words", "_law_at", "_law_word", "_law_one", "_law_other", "_law_kind_here", "_law_sign"]) (sc := defScope sFrom) (by decide +kernel)) (fun _ _ _ _ _ => pg_name (i := 6) scFrom.nd rfl (Or.inl rfl)) (fun _ _ _ _ _ => pts_one (pt_cmpR op_notIn_sign (pv 6) pe_str (by rfl))) (fun _ _ _ _ _ => pv 6)) (pe_lst pa_nil) (nomark _))))) (pss_one (ps_ret pe_non)) pss_nil)
          (pss_one (ps_ret (pe_lst (pa_cons (pe_tup (pa_cons pe_str (pa_cons (pv 2) pa_nil))) (pa_cons (pe_op op_add (pv 1) pe_int) (pa_cons pe_int (pa_cons pe_int pa_nil)))))))) pss_nil)
        (pss_cons (ps_set (i := 3) scFrom.nd rfl (Or.inl rfl) (pe_call GF hr (by rfl) gF F.kp bF .nil pass0 (pa_cons (pv 0) (pa_cons (pe_op op_add (pv 1) pe_int) pa_nil))))
        (pss_cons (ps_if (PW.pt (pw_or (pt_cmpR op_isN (pv 3) pe_non (nomark _)) (pw_or1 (pt_cmpR (op_notInD (room65 hr)) (pe_slice sl_list (pv 0) (po_some (pe_ix ix_list (pv 3) pe_int (fun _ _ => rfl))) (po_some (pe_op op_add (pe_ix ix_list (pv 3) pe_int (fun _ _ => rfl)) pe_int))) (pe_lst (pa_cons (pe_lst (pa_cons pe_str pa_nil)) (pa_cons (pe_lst (pa_cons pe_str pa_nil)) pa_nil))) (by rfl))))) (pss_one (ps_ret pe_non)) pss_nil)
        (pss_cons (ps_set (i := 4) scFrom.nd rfl (Or.inl rfl) (pe_call GF hr (by rfl) gF F.kp bF .nil pass0 (pa_cons (pv 0) (pa_cons (pe_op op_add (pe_ix ix_list (pv 3) pe_int (fun _ _ => rfl)) pe_int) pa_nil))))
        (pss_cons (ps_if (PW.pt (pw_or (pt_cmpR op_isN (pv 4) pe_non (nomark _)) (pw_or1 (pt_cmpR (op_neD hr.units) (pe_slice sl_list (pv 0) (po_some (pe_ix ix_list (pv 4) pe_int (fun _ _ => rfl))) (po_some (pe_op op_add (pe_ix ix_list (pv 4) pe_int (fun _ _ => rfl)) pe_int))) (pe_lst (pa_cons pe_str pa_nil)) (nomark _))))) (pss_one (ps_ret pe_non)) pss_nil)
        (pss_cons (ps_set (i := 5) scFrom.nd rfl (Or.inl rfl) (pe_tup (pa_cons (pe_ix ix_list (pe_lst (pa_cons pe_str (pa_cons pe_str pa_nil))) (pe_callTy call_int1 (by rfl) mInt (by decide +kernel) (pa_cons (pe_cmpR op_eq (pe_ix ix_list (pv 0) (pe_ix ix_list (pv 3) pe_int (fun _ _ => rfl)) (fun _ _ => rfl)) pe_str (nomark _)) pa_nil)) (fun _ _ => rfl))
            (pa_cons (pe_ix ix_list (pv 3) pe_int (fun _ _ => rfl)) (pa_cons (pe_ix ix_list (pv 4) pe_int (fun _ _ => rfl)) pa_nil)))))
        (pss_one (ps_ret (pe_lst (pa_cons (pv 5) (pa_cons (pe_op op_add (pe_ix ix_list (pv 4) pe_int (fun _ _ => rfl)) pe_int) (pa_cons (pe_op op_add (pe_ix ix_list (pv 3) pe_int (fun _ _ => rfl)) (pe_ix ix_list (pv 4) pe_int (fun _ _ => rfl)))
            (pa_cons (pe_op op_add pe_int (pe_callB (call_max2 (by rfl)) (by rfl) mMax (by decide +kernel) (pa_cons (pe_ix ix_list (pv 3) pe_int (fun _ _ => rfl)) (pa_cons (pe_ix ix_list (pv 4) pe_int (fun _ _ => rfl)) pa_nil)))) pa_nil))))))))))))))), ?_⟩
      have el : (ws.map V.str).length = ws.length := List.length_map _
      have one_le : ∀ {i : Nat}, i ≤ 1000 → i ≤ sizeLine := fun h => Nat.le_trans h (by decide)
      refine ⟨_, rfl, _, rfl, W, _, rfl, .inl (SqL.of hW), _, _, rfl, rfl, _, rfl, ?_⟩
      refine ite2 (fun hc => ?_) (fun hc => ?_)
      · refine iteT ?_
        have : ws.length ≤ at' := by
          have := of_decide_eq_true hc
          rw [el] at this
          omega
        refine no ?_ H (Same.refl H)
        rw [List.drop_of_length_le this]
        exact beg_nil
      have hlt : at' < ws.length := by
        rcases Nat.lt_or_ge at' ws.length with h | h
        · exact h
        · exact absurd (decide_eq_true (by rw [el]; omega)) hc
      have gz : (ws.map V.str)[at']? = some (V.str ws[at']) := by simp [hlt]
      have hd0 : ws.drop at' = ws[at'] :: ws.drop (at' + 1) := List.drop_eq_getElem_cons hlt
      obtain ⟨zl, zs⟩ := hws ws[at'] (List.getElem_mem _)
      generalize ws[at'] = z at gz hd0 zl zs
      rw [hd0] at yes no hn
      refine ⟨_, rfl, _, rfl, W, _, _, V.str z, rfl, rfl, SqL.of hW, atI_nat gz, by show 4 ≤ sizeLine; decide, fun q hq => ?_⟩
      have s1 := same_new (o := .lst [V.str "", V.str ")", V.str "->", V.str "*"]) hq
      have hW1 := s1 _ _ hW
      refine ⟨q, _, rfl, .inl (SqL.of upd_same), rfl, by decide, _, rfl, ?_⟩
      generalize upd H q (.lst [V.str "", V.str ")", V.str "->", V.str "*"]) = H1 at *
      have inv : inV (.str z) [.str "", .str ")", .str "->", .str "*"] = decide (z = "" ∨ z = ")" ∨ z = "->" ∨ z = "*") := by
        show ((("" : Str) == z) || (((")" : Str) == z) || ((("->" : Str) == z) || ((("*" : Str) == z) || false)))) = _
        rw [Bool.eq_iff_iff]
        simp only [Bool.or_eq_true, beq_iff_eq, Bool.false_eq_true, or_false, decide_eq_true_iff]
        constructor
        · rintro (e | e | e | e)
          · exact .inl e.symm
          · exact .inr (.inl e.symm)
          · exact .inr (.inr (.inl e.symm))
          · exact .inr (.inr (.inr e.symm))
        · rintro (e | e | e | e)
          · exact .inl e.symm
          · exact .inr (.inl e.symm)
          · exact .inr (.inr (.inl e.symm))
          · exact .inr (.inr (.inr e.symm))
      rw [inv]
      refine ite2 (fun hc2 => ?_) (fun hc2 => ?_)
      · refine no (fun hb => ?_) H1 s1
        have h4 := of_decide_eq_true hc2
        have h5 := beg_head hb
        rcases h4 with rfl | rfl | rfl | rfl
        · exact absurd h5 (by decide +kernel)
        · exact absurd h5 (by decide +kernel)
        · exact absurd h5 (by decide +kernel)
        · exact absurd h5 (by decide +kernel)
      have nz : ¬ (z = "" ∨ z = ")" ∨ z = "->" ∨ z = "*") := fun x => hc2 (decide_eq_true x)
      refine ⟨_, rfl, _, rfl, W, _, _, V.str z, rfl, rfl, SqL.of hW1, atI_nat gz, ?_⟩
      refine ⟨_, rfl, rfl, _, rfl, ?_⟩
      refine ite2 (fun hc3 => ?_) (fun hc3 => ?_)
      · have h1 : z = "1" := by
          have := of_decide_eq_true hc3
          injection this
        subst h1
        refine ⟨by show 1 ≤ sizeLine; decide, fun t ht => ?_⟩
        have st := same_new (o := .tup [V.str "one"]) ht
        refine ⟨_, rfl, _, _, rfl, rfl, by show 4 ≤ sizeLine; decide, fun l hl => ?_⟩
        have sl := same_new (o := .lst [V.ref t, .int ((at' : Int) + 1), .int 1, .int 0]) hl
        exact yes .one _ trivial rfl _ l (.ref t) (Same.trans s1 (Same.trans st sl)) ⟨t, rfl, sl _ _ upd_same⟩ upd_same
      have n1 : z ≠ "1" := fun x => hc3 (decide_eq_true (congrArg V.str x))
      refine ⟨_, rfl, rfl, _, rfl, ?_⟩
      by_cases hop : z = "("
      rotate_left
      · refine ite2 (fun _ => ?_) (fun hc4 => absurd ?_ hc4)
        rotate_left
        · show (!decide (V.str z = V.str "(")) = true
          rw [decide_eq_false (fun x => hop (by injection x))]
          rfl
        refine ⟨_, rfl, z, rfl, Nat.le_of_lt (small1000 (by omega)), _, _, rfl, rfl, _, rfl, ?_⟩
        refine ite2 (fun hc5 => ?_) (fun hc5 => ?_)
        · refine iteT ?_
          have h6 : (6 : Int) < (z.length : Int) := of_decide_eq_true hc5
          refine no (fun hb => ?_) H1 s1
          rcases beg_head hb with h | h | h
          · exact hop h
          · exact n1 h
          · have := isMark_len h
            omega
        have h6 : z.length ≤ 6 := by
          rcases Nat.lt_or_ge 6 z.length with h | h
          · exact absurd (decide_eq_true (by omega : (6 : Int) < (z.length : Int))) hc5
          · exact h
        have zll : z.cps.toList.length = z.length := Array.length_toList
        refine ⟨_, rfl, z, rfl, fun D hD => lc_it (walk_str (z := z)) (fun i H' => H' D = some (.lst (((z.cps.toList.take i).filter fun c => !decide (c ∈ low)).map sgn)) ∧ Same H1 H') ⟨upd_same, same_new hD⟩ (fun _ _ _ _ => trivial) ?_ ?_⟩
        · rintro i x H6 H7 hi ⟨q1, q2⟩ ⟨rfl, c, hc, rfl⟩
          have hc' : z.cps.toList[i]? = some c := by rw [Array.getElem?_toList]; exact hc
          have il : i < z.length := hi
          refine ⟨rfl, ?_⟩
          refine ⟨_, rfl, c, _, rfl, rfl, _, rfl, ?_⟩
          have step : (((z.cps.toList.take (i + 1)).filter fun c => !decide (c ∈ low)).map sgn) = (((z.cps.toList.take i).filter fun c => !decide (c ∈ low)).map sgn) ++ (([c].filter fun c => !decide (c ∈ low)).map sgn) := by
            rw [List.take_add_one, hc', List.filter_append, List.map_append]
            rfl
          by_cases hcl : c ∈ low
          · have e1 : (!decide (c ∈ (("abcdefghijklmnopqrstuvwxyz" : Str)).cps.toList)) = false := by
              rw [decide_eq_true (show c ∈ (("abcdefghijklmnopqrstuvwxyz" : Str)).cps.toList from hcl)]
              rfl
            refine ite2 (fun y => by rw [e1] at y; cases y) fun _ => ⟨?_, q2⟩
            rw [step, List.filter_cons_of_neg (by simp [hcl]), List.filter_nil, List.map_nil, List.append_nil]
            exact q1
          · have e1 : (!decide (c ∈ (("abcdefghijklmnopqrstuvwxyz" : Str)).cps.toList)) = true := by
              rw [decide_eq_false (show ¬ c ∈ (("abcdefghijklmnopqrstuvwxyz" : Str)).cps.toList from hcl)]
              rfl
            rw [e1]
            refine iteT ?_
            refine ⟨_, rfl, _, q1, small1000 ?_, ?_, ?_⟩
            · rw [List.length_map]
              have := List.length_filter_le (fun c => !decide (c ∈ low)) (z.cps.toList.take i)
              rw [List.length_take] at this
              omega
            · rw [upd_same, step, List.filter_cons_of_pos (by simp [hcl]), List.filter_nil]
              rfl
            · intro b o e
              rw [upd_ne (ne_of_none e hD)]
              exact q2 b o e
        · rintro H6 ⟨q1, q2⟩
          refine ⟨by show 0 ≤ sizeLine; decide, fun l hl8 => ?_⟩
          have s8 := same_new (o := .lst []) hl8
          have fl : z.cps.toList.take z.cps.size = z.cps.toList := List.take_of_length_le (by rw [zll]; exact Nat.le_refl _)
          rw [fl] at q1
          obtain ⟨ok1, ok2⟩ := sgn_ok (z.cps.toList.filter fun c => !decide (c ∈ low)) fun c hc => zs c (List.mem_filter.mp hc).1
          refine ⟨.list ((z.cps.toList.filter fun c => !decide (c ∈ low)).map fun c => PyData.str ⟨#[c]⟩), .list [], .lst (SqL.of (s8 _ _ q1)) (sgn_dp _), .lst (SqL.of upd_same) .nil, ?_, by decide +kernel, _, rfl, ?_⟩
          · unfold SeqAt.shaped
            simp only [PyData.canLay0, PyData.depth, ok1, ok2]
            rfl
          rw [eqv_nil, low_due]
          have s9 := Same.trans s1 (Same.trans q2 s8)
          have zpos : 1 ≤ z.length := by
            rcases Nat.eq_zero_or_pos z.length with h | h
            · exfalso
              refine nz (.inl ?_)
              obtain ⟨a⟩ := z
              have : a = #[] := Array.eq_empty_of_size_eq_zero h
              rw [this]
              rfl
            · exact h
          have em : isMark z = z.cps.toList.all fun c => decide (c ∈ low) := by
            unfold isMark
            rw [decide_eq_true ⟨zpos, h6⟩, Bool.true_and]
          rw [← em]
          cases hm : isMark z with
          | false =>
            refine iteT ?_
            refine no (fun hb => ?_) _ s9
            rcases beg_head hb with h | h | h
            · exact hop h
            · exact n1 h
            · rw [hm] at h
              cases h
          | true =>
            refine iteF ?_
            refine ⟨_, rfl, by show 2 ≤ sizeLine; decide, fun t ht => ?_⟩
            have st := same_new (o := .tup [V.str "mark", V.str z]) ht
            refine ⟨_, rfl, _, _, rfl, rfl, by show 4 ≤ sizeLine; decide, fun l2 hl2 => ?_⟩
            have sl := same_new (o := .lst [V.ref t, .int ((at' : Int) + 1), .int 1, .int 0]) hl2
            exact yes (.mark z) _ ⟨hm, zs⟩ rfl _ l2 (.ref t) (Same.trans s9 (Same.trans st sl)) ⟨t, rfl, sl _ _ upd_same⟩ upd_same
      subst hop
      refine ite2 (fun hc4 => absurd hc4 (by decide +kernel)) (fun _ => ?_)
      -- behind an opening bracket
      have hcn : cnts (ws.drop (at' + 1)) < n := by
        have e1 : cnts ((("(" : Str)) :: ws.drop (at' + 1)) = cnt "(" + cnts (ws.drop (at' + 1)) := rfl
        have e2 : cnt "(" = 1 := by decide +kernel
        omega
      have hdr : ∀ i, ws.drop i = ws.drop i := fun _ => rfl
      obtain ⟨tl, etl⟩ : ∃ tl, ws.drop (at' + 1) = tl := ⟨_, rfl⟩
      rw [etl] at yes no hcn
      refine ⟨_, rfl, _, rfl, _, _, rfl, rfl, W, at' + 1, ws, rfl, hW1, hws, hwl, by omega, by rw [etl]; exact hcn, fun k r1 hk e1 H2 D1 v1 s2 hv1 hD1 => ?_, fun hnb H2 s2 => ?_⟩
      rotate_left
      · rw [etl] at hnb
        refine ⟨_, rfl, rfl, _, rfl, ?_⟩
        refine iteT ?_
        refine iteT ?_
        refine no (fun hb => ?_) _ (Same.trans s1 s2)
        obtain ⟨b, k, l, rest, hk, hl, e⟩ := beg_two hb
        exact hnb ⟨k, _, hk, e⟩
      obtain ⟨a1, ea1⟩ : ∃ a1 : Nat, a1 = at' + 1 + (wordsK k).length := ⟨_, rfl⟩
      rw [← ea1] at hD1
      obtain ⟨er1, la1⟩ := drop_len e1 (by omega)
      rw [← ea1] at er1 la1
      rw [etl] at e1
      have S2 := Same.trans s1 s2
      have hW2 := s2 _ _ hW1
      refine ⟨_, rfl, rfl, _, rfl, ?_⟩
      refine iteF ?_
      have cutOne : ∀ (i : Nat), i ≤ ws.length → cutV (ws.map V.str) (some (i : Int)) (some ((i : Int) + 1)) = ((ws.drop i).take 1).map V.str := fun i hi => by
        rw [cutV_two _ _ (by rw [List.length_map]; exact hi), ← List.map_drop, List.map_take]
      refine ⟨_, rfl, _, rfl, D1, _, _, .int (a1 : Int), rfl, rfl, SqL.of hD1, atI_nat (j := 1) rfl, _, rfl, _, rfl, D1, _, _, .int (a1 : Int), rfl, rfl, SqL.of hD1, atI_nat (j := 1) rfl, _, _, rfl, rfl, _, rfl, W, _, rfl, SqL.of hW2, fun p hp => ?_⟩
      rw [cutOne a1 la1, er1]
      have s3 := same_new (o := .lst ((r1.take 1).map V.str)) hp
      refine ⟨by show 1 ≤ sizeLine; decide, fun l1 hl1 => ⟨by show 1 ≤ sizeLine; decide, fun l2 hl2 => ⟨by show 2 ≤ sizeLine; decide, fun l3 hl3 => ?_⟩⟩⟩
      have s4 := same_new (o := .lst [V.str "->"]) hl1
      have s5 := same_new (o := .lst [V.str "*"]) hl2
      have s6 := same_new (o := .lst [V.ref l1, V.ref l2]) hl3
      have s56 := Same.trans s5 s6
      have s456 := Same.trans s4 s56
      have so1 : ∀ c ∈ r1.take 1, SOk c := fun c hc => (hws c (List.mem_of_mem_drop (er1 ▸ List.mem_of_mem_take hc))).2
      refine ⟨.list ((r1.take 1).map PyData.str), [.list [.str "->"], .list [.str "*"]], .lst (SqL.of (s456 _ _ upd_same)) (strs_dp _), .lst (SqL.of upd_same) (.cons (.lst (SqL.of (s56 _ _ upd_same)) (.cons (.str _) .nil)) (.cons (.lst (SqL.of (s6 _ _ upd_same)) (.cons (.str _) .nil)) .nil)), strs_shaped _ so1, by decide +kernel, _, rfl, ?_⟩
      rw [two_eqv]
      have S6 := Same.trans S2 (Same.trans s3 s456)
      have S26 := Same.trans s3 s456
      by_cases hs : ∃ b r2, r1 = sign b :: r2
      rotate_left
      · have e2 : (decide (r1.take 1 = [("->" : Str)]) || decide (r1.take 1 = [("*" : Str)])) = false := by
          rw [Bool.or_eq_false_iff, decide_eq_false_iff_not, decide_eq_false_iff_not]
          constructor
          · intro e
            cases r1 with
            | nil => cases e
            | cons x r => exact hs ⟨true, r, by have : [x] = [("->" : Str)] := e; injection this with this; rw [this]; rfl⟩
          · intro e
            cases r1 with
            | nil => cases e
            | cons x r => exact hs ⟨false, r, by have : [x] = [("*" : Str)] := e; injection this with this; rw [this]; rfl⟩
        rw [e2]
        refine iteT ?_
        refine no (fun hb => ?_) _ S6
        obtain ⟨b, k', l', rest, hk', hl', e⟩ := beg_two hb
        rw [e1] at e
        obtain ⟨_, e3⟩ := words_pre k k' hk hk' _ _ e
        exact hs ⟨b, _, e3⟩
      obtain ⟨b, r2, rfl⟩ := hs
      have e2 : (decide ((sign b :: r2).take 1 = [("->" : Str)]) || decide ((sign b :: r2).take 1 = [("*" : Str)])) = true := sign_two b
      rw [e2]
      refine iteF ?_
      have la2 : a1 + 1 ≤ ws.length := by
        have := congrArg List.length er1
        rw [List.length_drop, List.length_cons] at this
        omega
      have er2 : ws.drop (a1 + 1) = r2 := by
        rw [← List.drop_drop, er1]
        rfl
      have gsg : (ws.map V.str)[a1]? = some (V.str (sign b)) := by
        have := congrArg List.head? er1
        rw [List.head?_drop] at this
        rw [List.getElem?_map, this]
        rfl
      have hcn2 : cnts r2 < n := by
        have q : cnts tl = cnts (wordsK k) + (cnt (sign b) + cnts r2) := by
          rw [e1, cnts_app]
          rfl
        omega
      have hW6 := S26 _ _ hW2
      have hD16 := S26 _ _ hD1
      refine ⟨_, rfl, _, rfl, D1, _, _, .int (a1 : Int), rfl, rfl, SqL.of hD16, atI_nat (j := 1) rfl, _, _, rfl, rfl, W, a1 + 1, ws, rfl, hW6, hws, hwl, la2, by rw [er2]; exact hcn2, fun l r3 hl e3 H7 D2 v2 s7 hv2 hD2 => ?_, fun hnb H7 s7 => ?_⟩
      rotate_left
      · rw [er2] at hnb
        refine ⟨_, rfl, rfl, _, rfl, ?_⟩
        refine iteT ?_
        refine iteT ?_
        refine no (fun hb => ?_) _ (Same.trans S6 s7)
        obtain ⟨b', k', l', rest, hk', hl', e⟩ := beg_two hb
        rw [e1] at e
        obtain ⟨_, e4⟩ := words_pre k k' hk hk' _ _ e
        injection e4 with _ e4
        exact hnb ⟨l', _, hl', e4⟩
      obtain ⟨a2, ea2⟩ : ∃ a2 : Nat, a2 = a1 + 1 + (wordsK l).length := ⟨_, rfl⟩
      rw [← ea2] at hD2
      obtain ⟨er3, la3⟩ := drop_len e3 la2
      rw [← ea2] at er3 la3
      rw [er2] at e3
      have S7 := Same.trans S6 s7
      have hW7 := s7 _ _ hW6
      have hD17 := s7 _ _ hD16
      refine ⟨_, rfl, rfl, _, rfl, ?_⟩
      refine iteF ?_
      refine ⟨_, rfl, _, rfl, D2, _, _, .int (a2 : Int), rfl, rfl, SqL.of hD2, atI_nat (j := 1) rfl, _, rfl, _, rfl, D2, _, _, .int (a2 : Int), rfl, rfl, SqL.of hD2, atI_nat (j := 1) rfl, _, _, rfl, rfl, _, rfl, W, _, rfl, SqL.of hW7, fun p2 hp2 => ?_⟩
      rw [cutOne a2 la3, er3]
      have s8 := same_new (o := .lst ((r3.take 1).map V.str)) hp2
      refine ⟨by show 1 ≤ sizeLine; decide, fun l4 hl4 => ?_⟩
      have s9 := same_new (o := .lst [V.str ")"]) hl4
      have so3 : ∀ c ∈ r3.take 1, SOk c := fun c hc => (hws c (List.mem_of_mem_drop (er3 ▸ List.mem_of_mem_take hc))).2
      refine ⟨.list ((r3.take 1).map PyData.str), .list (([(")" : Str)] : List Str).map PyData.str), .lst (SqL.of (s9 _ _ upd_same)) (strs_dp _), .lst (SqL.of upd_same) (strs_dp ([(")" : Str)] : List Str)), strs_shaped _ so3, strs_shaped _ (fun c hc => by rw [List.mem_singleton.mp hc]; exact so_close), _, rfl, ?_⟩
      rw [strs_eqv]
      have S79 := Same.trans s8 s9
      have S9 := Same.trans S7 S79
      by_cases hcl : r3.take 1 = [(")" : Str)]
      rotate_left
      · rw [decide_eq_false hcl]
        refine iteT ?_
        refine no (fun hb => ?_) _ S9
        obtain ⟨b', k', l', rest, hk', hl', e⟩ := beg_two hb
        rw [e1] at e
        obtain ⟨_, e4⟩ := words_pre k k' hk hk' _ _ e
        injection e4 with _ e4
        rw [e3] at e4
        obtain ⟨_, e5⟩ := words_pre l l' hl hl' _ _ e4
        exact hcl (by rw [e5]; rfl)
      rw [decide_eq_true hcl]
      refine iteF ?_
      obtain ⟨r4, rfl⟩ : ∃ r4, r3 = (")" : Str) :: r4 := by
        cases r3 with
        | nil => cases hcl
        | cons x r => exact ⟨r, by have : [x] = [(")" : Str)] := hcl; injection this with this; rw [this]⟩
      have hW9 := S79 _ _ hW7
      have hD19 := S79 _ _ hD17
      have hD29 := S79 _ _ hD2
      refine ⟨by show 2 ≤ sizeLine; decide, fun lq hlq => ?_⟩
      have sq := same_new (o := .lst [V.str "to", V.str "both"]) hlq
      refine ⟨_, rfl, _, rfl, D1, _, _, .int (a1 : Int), rfl, rfl, SqL.of (sq _ _ hD19), atI_nat (j := 1) rfl, W, _, _, V.str (sign b), rfl, rfl, SqL.of (sq _ _ hW9), atI_nat gsg, rfl, .inr ⟨_, rfl, ?_⟩⟩
      refine ⟨lq, _, _, .str (word b), rfl, rfl, SqL.of upd_same, by cases b <;> decide +kernel, ?_⟩
      refine ⟨_, rfl, D1, _, _, v1, rfl, rfl, SqL.of (sq _ _ hD19), atI_nat (j := 0) rfl, _, rfl, D2, _, _, v2, rfl, rfl, SqL.of (sq _ _ hD29), atI_nat (j := 0) rfl, by show 3 ≤ sizeLine; decide, fun t ht => ?_⟩
      have st := same_new (o := .tup [V.str (word b), v1, v2]) ht
      have sqt := Same.trans sq st
      have hDa := sqt _ _ hD19
      have hDb := sqt _ _ hD29
      refine ⟨_, rfl, _, rfl, D2, _, _, .int (a2 : Int), rfl, rfl, SqL.of hDb, atI_nat (j := 1) rfl, _, _, rfl, rfl, _, rfl, D1, _, _, .int (k.leaves : Int), rfl, rfl, SqL.of hDa, atI_nat (j := 2) rfl, _, rfl, D2, _, _, .int (l.leaves : Int), rfl, rfl, SqL.of hDb, atI_nat (j := 2) rfl, _, _, rfl, rfl,
        _, rfl, D1, _, _, .int (k.deep : Int), rfl, rfl, SqL.of hDa, atI_nat (j := 3) rfl, _, rfl, D2, _, _, .int (l.deep : Int), rfl, rfl, SqL.of hDb, atI_nat (j := 3) rfl, _, _, rfl, _, _, rfl, rfl, by show 4 ≤ sizeLine; decide, fun lr hlr => ?_⟩
      have em : (1 + if (l.deep : Int) > (k.deep : Int) then (l.deep : Int) else (k.deep : Int)) = (((Kd.two b k l).deep : Nat) : Int) := by
        show _ = ((max k.deep l.deep + 1 : Nat) : Int)
        split <;> omega
      have ew : ((a2 : Int) + 1) = ((at' + (wordsK (.two b k l)).length : Nat) : Int) := by
        have : (wordsK (.two b k l)).length = (wordsK k).length + (wordsK l).length + 3 := by
          show ((("(" : Str)) :: (wordsK k ++ (sign b :: (wordsK l ++ [(")" : Str)])))).length = _
          simp only [List.length_cons, List.length_append, List.length_nil]
          omega
        omega
      have ev : ((k.leaves : Int) + (l.leaves : Int)) = (((Kd.two b k l).leaves : Nat) : Int) := by
        show _ = ((k.leaves + l.leaves : Nat) : Int)
        omega
      have sr := same_new (o := .lst [.ref t, .int ((a2 : Int) + 1), .int ((k.leaves : Int) + (l.leaves : Int)), .int (1 + if (l.deep : Int) > (k.deep : Int) then (l.deep : Int) else (k.deep : Int))]) hlr
      have T := tups_of (Same.trans s7 (Same.trans S79 (Same.trans sqt sr)))
      have T6 := tups_of (Same.trans S26 (Same.trans s7 (Same.trans S79 (Same.trans sqt sr))))
      have T9 := tups_of (Same.trans S79 (Same.trans sqt sr))
      refine yes (.two b k l) r4 ⟨hk, hl⟩ ?_ _ lr (.ref t) (Same.trans S9 (Same.trans sqt sr)) ⟨t, v1, v2, rfl, sr _ _ upd_same, KdAt.mono T6 _ _ hv1, KdAt.mono T9 _ _ hv2⟩ ?_
      · rw [words_two, e1, e3]
      · rw [← em, ← ew, ← ev]
        exact upd_same
end

/-! an exception kept beyond the suite that caught it -/
section
open PySem PySem.Spec PyProof.Rows
/-- an exception of the class cls at a -/
def ExC (cls : Value) (d : Option Addr) (a : Addr) : HO := .ext fun h => ∃ (oe : Obj) (vs : Array Value), h.get? a = some oe ∧ Zc cls d oe ∧ oe.data = .fields vs
variable {X : Cx} {pins : List (Addr × Obj)} {σ : L2.St} {H : Hp} {s : Shared}
/-- what is pinned may be tracked -/
theorem Inv.track {a : Addr} {oe : Obj} {vs : Array Value} {cls : Value} {d : Option Addr} {pn : List (Addr × Obj)} (I : Inv (X.suite a ((a, oe) :: (X.pn ++ pins))) pn σ H s) (kx : X.Ok) (zc : Zc cls d oe) (fv : oe.data = .fields vs)
    (n0 : X.s_0.heap.get? a = none) (np : ∀ p ∈ X.pn ++ pins, p.1 ≠ a) : Inv X pins σ (upd H a (ExC cls d a)) s := by
  obtain ⟨here, un, nl, nf, nc⟩ := I.pin (a, oe) (List.mem_append.mpr (.inl List.mem_cons_self))
  have U := I.unsuite kx
  have off : ∀ {b : Addr} {u : HO}, H b = some u → (upd H a (ExC cls d a)) b = some u := fun {b u} e => by
    rw [upd_ne (ne_of_none e un)]
    exact e
  have none' : ∀ {b : Addr}, H b = none → b ≠ a → (upd H a (ExC cls d a)) b = none := fun {b} e nb => by
    rw [upd_ne nb]
    exact e
  have obj : ObjOk X.prog X.w (upd H a (ExC cls d a)) s.heap a (ExC cls d a) := ⟨⟨oe, vs, here, zc, fv⟩, ⟨oe, here⟩, fun _ _ ⟨o, v, q, r⟩ st => ⟨o, v, st o q, r⟩⟩
  refine ⟨kx, U.os, U.bare, ⟨U.base.keep, U.base.slot, fun b o e n x => none' (U.base.free b o e n x) (fun z => ?_), U.base.there, fun b xs e => off (U.base.tups b xs e), fun b o u e => off (U.base.frzs b o u e), fun b ps e => ?_⟩, U.loc, U.cell, none' U.free (Ne.symm nl), fun x c e => none' (U.freeC x c e) (fun z => ?_), fun p hp => ?_, ?_, U.len⟩
  · rw [z, n0] at e
    cases e
  · obtain ⟨m, q⟩ := U.base.tbls b ps e
    exact ⟨m, off q⟩
  · obtain ⟨v, o, g, gd⟩ := U.cell x c e
    rw [z, here] at g
    injection g with g
    subst g
    exact nc v gd
  · obtain ⟨e1, e2, e3⟩ := U.pin p hp
    exact ⟨e1, none' e2 (np p hp), e3⟩
  · intro b u e
    by_cases hb : b = a
    · subst hb
      rw [upd_same] at e
      injection e with e
      subst e
      exact obj
    · rw [upd_ne hb] at e
      exact (U.hok b u e).stay (fun c v _ q => q) (fun c q => off q) fun c ys q => off q
/-- what a clause 'except x as n' wishes, whose exception is tracked behind the suite -/
def wHold (K : PySem.W.Frag) (c : Value) (i : Nat) (ts : Addr → Value → Option Addr → TS) (Wo : WX) (D : Ends) : WX := fun cls d σ H =>
  ∃ b, PySem.W.exmOne K cls c = some b ∧ (b = true → ∀ a, H a = none → ts a cls d ⟨fun σ' H' => D.nx (σ'.set i none) (upd H' a (ExC cls d a)), fun _ _ => False, fun _ _ => False, fun _ _ => False⟩ (σ.set i (some (.ref a))) H) ∧ (b = false → Wo cls d σ H)
variable {x n : Str} {c : Value} {i : Nat} {body rest : List Stmt} {b₁ : Stmt} {np pos hpos : Pos} {tb : WX → TS} {ts : Addr → Value → Option Addr → TS} {Wo : WX}
theorem ps_try_hold (st : X.stack = X.env :: X.outer) (fr : X.env.frame = some X.env.locals) (nox : X.ex = []) (nd : X.N.Nodup) (at' : X.N[i]? = some n) (lc : X.env.kindOf n = some .local) (nm : Names X x c) (takes : Takes X Wo)
    (inner : ∀ (W : WX) (pn : List (Addr × Obj)) (xe : Value → Shared → Prop), Takes (X.tr pn xe) W → PassesOwn (model X.prog X.w) X.A X.env xe → PSs (X.tr pn xe) body (tb W))
    (suite : ∀ (a : Addr) (oe : Obj) (cls : Value) (d : Option Addr) (pn : List (Addr × Obj)), Zc cls d oe → (∃ vs, oe.data = .fields vs) → PSs (X.suite a ((a, oe) :: pn)) (b₁ :: rest) (ts a cls d)) :
    PS X (.Try body [.ExceptHandler (some (.Name x np)) (some n) (b₁ :: rest) hpos] [] [] pos) (fun D σ H => tb (wHold X.K c i ts Wo D) D σ H) := by
  refine ⟨fun pins s σ H D I h => ?_⟩
  have kx := I.ok
  have frs' : X.A.frames = some (X.env :: X.outer) := by rw [kx.frames, st]
  have lcl : Loc X.env.scope n := .inl lc
  refine wpAny_Try_except (wpAny_mono ((inner (wHold X.K c i ts Wo D) (X.pn ++ pins) (fun e u₁ => wpAny (model X.prog X.w) X.A (noteFrame e X.env) (fun _ u₂ => wpAny (model X.prog X.w) X.A (setFlight e none) (fun _ u₃ =>
    wpAny (model X.prog X.w) X.A (handleBy e X.env [.ExceptHandler (some (.Name x np)) (some n) (b₁ :: rest) hpos]) (SP X pins D) X.xe u₃) X.xe u₂) X.xe u₁) (fun u s' caught => ?_) PassesOwn.looking).run [] s σ H D (I.toTry _) h) (fun fl s1 fin => ?_) fun e s1 z => z)
  · obtain ⟨a, B, sI, pins', σ', H', cls, d, rfl, JT, ground, up, sky, un, os, ag, b, say, yes, no⟩ := caught
    have J : Inv X pins σ' H' sI := JT.ofTry kx
    have sky2 : Sky B (X.env :: X.outer) a (Zc cls d) X.env.locals s'.heap := by rw [← st]; exact sky
    show wpAny (model X.prog X.w) X.A (noteFrame (.ref a) X.env) _ _ _
    refine Sky.land Zc.steady frs' fr sky2 fun h3 f3 up3 => ?_
    have J3 : Inv X pins σ' H' { s' with heap := h3 } := J.landed ground f3.1 (up.trans up3) os ag
    obtain ⟨o3, v3, g3, z3, d3⟩ := f3.there
    have off : a ∉ frs (X.env :: X.outer) := fun hm => by
      obtain ⟨_, o', e', hn⟩ := f3.2.2.1.mem hm
      rw [g3] at e'
      cases e'
      exact hn _ d3
    have gone : sI.heap.get? a = none := by
      cases e : sI.heap.get? a with
      | none => rfl
      | some o =>
        have q := ground a o e (by rw [st]; exact off)
        rw [f3.2.1] at q
        cases q
    have n0 : X.s_0.heap.get? a = none := by
      cases e : X.s_0.heap.get? a with
      | none => rfl
      | some o =>
        obtain ⟨o', q⟩ := J.base.there a o e (by rw [nox]; exact fun z => nomatch z)
        rw [gone] at q
        cases q
    have apart : ∀ p ∈ X.pn ++ pins, p.1 ≠ a := fun p hp z => by
      have q := (J.pin p hp).1
      rw [z, gone] at q
      cases q
    have nl : a ≠ X.env.locals := fun z => off (List.mem_filterMap.mpr ⟨X.env, List.mem_cons_self, by rw [fr, z]⟩)
    have nf : a ∉ X.fs := fun hm => by
      obtain ⟨e, he, q⟩ := List.mem_filterMap.mp hm
      exact off (List.mem_filterMap.mpr ⟨e, List.mem_cons_of_mem _ he, q⟩)
    have S3 := J3.suite g3 d3 un nl nf
    refine wpAny_handleBy_cons (codeAny_handlers_test ?_) (by intro q; cases q)
    have LT : PySem.W.Looks (model X.prog X.w) h3 (typeOf (.ref a)) cls := fun A Q E u k q => wpAny_typeOf_ref (k _ _ g3) (by rw [z3.1]; exact q)
    have LM := PySem.W.exm_one (M := model X.prog X.w) J3.kIn LT say
    have test : ∀ {Q E : Value → Shared → Prop}, Q c { s' with heap := h3 } → wpAny (model X.prog X.w) (X.A.mark (some (.ref a))) (eval (.Name x np) X.env) Q E { s' with heap := h3 } := fun {Q E} q => by
      obtain ⟨g1, g2, hm | ⟨hm, hv, hnn⟩⟩ := nm
      · exact ld_glob (X := X.suite a ((a, o3) :: (X.pn ++ pins))) S3 g1 hm q g2
      · exact ld_blt (X := X.suite a ((a, o3) :: (X.pn ++ pins))) S3 g1 hm hv q hnn g2
    refine test (LM.here ?_)
    cases b with
    | true =>
      refine codeAny_handlers_suite_as (HandSPX.lands_againZ f3 fun h4 f4 up4 => ?_)
      have J4 : Inv X pins σ' H' { s' with heap := h4 } := J.landed ground f4.1 ((up.trans up3).trans up4) os ag
      obtain ⟨o4, v4, g4, z4, d4⟩ := f4.there
      refine store_ok (X := X.suite a ((a, o4) :: (X.pn ++ pins))) (v := .ref a) (J4.suite g4 d4 un nl nf) nd at' lcl rfl (fun s5 S5 => ?_) (.inr lc)
      refine wpAny_mono ((suite a o4 cls d (X.pn ++ pins) z4 ⟨_, d4⟩).run [] s5 _ H' _ S5 (yes rfl a un)) (fun fl s6 fin => ?_) (fun _ _ z => False.elim z)
      cases fl with
      | next =>
        obtain ⟨σ6, H6, S6, q6⟩ := fin
        exact gone_ok (Inv.track S6 kx z4 d4 n0 apart) nd at' lc fun s7 J7 => ⟨_, _, J7, q6⟩
      | brk =>
        obtain ⟨_, _, _, q6⟩ := fin
        exact q6.elim
      | cont =>
        obtain ⟨_, _, _, q6⟩ := fin
        exact q6.elim
      | ret u =>
        obtain ⟨_, _, _, _, _, q6⟩ := fin
        exact q6.elim
    | false =>
      show wpAny _ X.A (handleBy (.ref a) X.env []) _ _ _
      refine wpAny_handleBy_nil ?_
      obtain ⟨_, _, _, o, vs, T, oT, tv, g, hz, hd, h1, hr⟩ := id f3
      unfold PySem.passOn
      refine wpAny_bind (wpAny_field g hd h1 ?_)
      rw [if_neg (show ¬ ((Value.ref T == Value.none) = true) from by simp)]
      have out : wpAny (model X.prog X.w) X.A (setFlight (.ref a) X.env.frame) (fun _ u4 => wpAny (model X.prog X.w) X.A (throw (.ref a) : Sem Flow) (SP X pins D) X.xe u4) X.xe { s' with heap := h3 } := by
        rw [fr]
        refine HandSPX.setFlight_upZ f3 fun h4 k4 up4 => wpAny_throw (takes _ _ ?_)
        exact ⟨a, B, sI, pins, σ', H', cls, d, rfl, J, ground, (up.trans up3).trans up4, .inr (.inr (by rw [st]; exact k4)), un, os, ag, no rfl⟩
      first
        | exact wpAny_bind (wpAny_pure (wpAny_bind out))
        | exact wpAny_bind out
  · cases fl with
    | next =>
      obtain ⟨σ2, H2, J2, q⟩ := fin
      exact wpAny_execs_nil ⟨σ2, H2, J2.ofTry kx, q⟩
    | brk =>
      obtain ⟨σ2, H2, J2, q⟩ := fin
      exact ⟨σ2, H2, J2.ofTry kx, q⟩
    | cont =>
      obtain ⟨σ2, H2, J2, q⟩ := fin
      exact ⟨σ2, H2, J2.ofTry kx, q⟩
    | ret u =>
      obtain ⟨v, σ2, H2, J2, r, q⟩ := fin
      exact ⟨v, σ2, H2, J2.ofTry kx, r, q⟩
end
section
open PySem PySem.Spec PyProof.Rows
variable {X : Cx}
theorem ext_inst {X : Cx} {pins : List (Addr × Obj)} {σ : L2.St} {H : Hp} {s : Shared} {a D : Addr} (I : Inv X pins σ H s) (h : H a = some (ExC (.ref D) none a)) : ∃ oe, PySem.W.InstAt s.heap a oe D none := by
  obtain ⟨⟨oe, vs, g, hz, hv⟩, _, _⟩ := I.hok a _ h
  obtain ⟨oc, od, oda, osl⟩ := oe
  obtain ⟨h1, h2⟩ := hz
  dsimp only at h1 h2 hv
  subst h1 h2 hv
  exact ⟨_, g, rfl, rfl, trivial⟩
/-- isinstance(e, c), e a tracked exception without an own dict -/
def rIsX (K : PySem.W.Frag) : List V → Hp → VK → Prop := fun xs H Q => ∃ (a D : Addr) (c : V) (cv : Value) (b : Bool), xs = [.ref a, c] ∧ H a = some (ExC (.ref D) none a) ∧ ExcC K D ∧ ClsV c cv ∧ PySem.W.kitOne K (.ref D) cv = some b ∧ Q (.bl b) H
theorem call_isX : CallR X (.builtin "isinstance") (rIsX X.K) := by
  intro pins s σ H xs us Q I r h
  obtain ⟨a, D, c, cv, b, rfl, ha, C, hc, e, q⟩ := h
  obtain ⟨u1, u2, rfl, r1, r2⟩ := vals2 r
  cases r1
  have e2 := hc.eq r2
  subst e2
  obtain ⟨oe, J⟩ := ext_inst I ha
  exact PySem.W.kia_one (PySem.W.handS_kitx_exc C.hg C.hk C.hs C.hd C.ha C.hn C.ht C.hm) I.kIn J e (fun z => nomatch z) fun tk => ⟨.bl b, H, I.tok tk, rfl, q⟩
end

/-! what is due, what is read -/
section
open PySem PySem.Spec PyProof.Rows
variable {X : Cx}
def rIsXT (K : PySem.W.Frag) : List V → Hp → VK → Prop := fun xs H Q => ∃ (a D tp : Addr) (cs : List V) (us : List Value) (b : Bool), xs = [.ref a, .ref tp] ∧ H a = some (ExC (.ref D) none a) ∧ ExcC K D ∧ H tp = some (.tup cs) ∧ Paired ClsV cs us ∧ PySem.W.kitAny K (.ref D) us = some b ∧ Q (.bl b) H
theorem call_isXT : CallR X (.builtin "isinstance") (rIsXT X.K) := by
  intro pins s σ H xs us Q I r h
  obtain ⟨a, D, tp, cs, ws, b, rfl, ha, C, ht, k, e, q⟩ := h
  obtain ⟨u1, u2, rfl, r1, r2⟩ := vals2 r
  cases r1
  cases (show u2 = Value.ref tp from r2)
  obtain ⟨oe, J⟩ := ext_inst I ha
  obtain ⟨_, its, rv, o, g1, g2, n, g3⟩ := (show ObjOk X.prog X.w H s.heap tp (.tup cs) from I.hok tp _ ht)
  have e3 := ClsV.all k rv
  subst e3
  obtain ⟨oc, od, dt, sl⟩ := o
  simp only at g2 g3
  subst g2 g3
  exact PySem.W.kia_tup (PySem.W.handS_kitx_exc C.hg C.hk C.hs C.hd C.ha C.hn C.ht C.hm) I.kIn J g1 e (fun z => nomatch z) fun tk => ⟨.bl b, H, I.tok tk, rfl, q⟩
theorem isx {K : PySem.W.Frag} (e : X.K = K) : CallR X (.builtin "isinstance") (rIsX K) := by
  rw [← e]
  exact call_isX
theorem isxt {K : PySem.W.Frag} (e : X.K = K) : CallR X (.builtin "isinstance") (rIsXT K) := by
  rw [← e]
  exact call_isXT
end
def spDue : Sp := fun vs H Q _ => ∃ z : Str, vs = [.str z] ∧ TxOk z ∧ (∀ c, kow (Txt.split z " ") = some c → ∀ (H' : Hp) (v : V), Same H H' → KdAt H' c v → Q v H') ∧ (kow (Txt.split z " ") = none → ∀ H', Same H H' → Q .non H')
def spRead (P1 : Addr) : Sp := fun vs H Q _ => ∃ z : Str, vs = [.str z] ∧ TxOk z ∧ TabG H P1 ∧
  (∀ c, kow (Txt.split z " ") = some c → ∀ (H' : Hp) (t : Addr) (v : V), Ev P1 H H' → KdAt H' c v → H' t = some (.tup [.str "told", v]) → Q (.ref t) H') ∧ (kow (Txt.split z " ") = none → ∀ H', Ev P1 H H' → Q .non H')
section
variable {P : Program} {w : World} {K : PySem.W.Frag} {mg : Str → Option Value} {base : Heap}
theorem scDue : FnScope ["_law_text_here", "_law_words", "_law_found"] ["_law_text_here"] (defScope sDue) := ⟨rfl, rfl, rfl, by decide +kernel, rfl, by decide +kernel, by decide +kernel⟩
theorem ok_due {f fF : Addr} {fd fdF : FuncData} (F : Fun K "_law_due" "_law_due" sDue f fd) (GF : FnOk P w K mg base CX0 48 fF fdF ["_law_words", "_law_at"] (spFrom 46)) (kF : PySem.W.keepIn K (.ref fF) = true) (bF : Binds K fdF ["_law_words", "_law_at"] []) (gF : mg "_law_from" = some (.ref fF)) (mLen : mg "len" = none) :
    FnOk P w K mg base CX0 49 f fd ["_law_text_here"] spDue := by
  refine F.ok scDue (fun vs H Q E h => ?_) (fun cdv A outer s H vs Q E hr h => ?_)
  · obtain ⟨z, rfl, _⟩ := h
    rfl
  · obtain ⟨z, rfl, hz, yes, no⟩ := h
    refine ⟨_, pss_cons (ps_set (i := 1) scDue.nd rfl (Or.inl rfl) (pe_split (pv 0) pe_str))
      (pss_cons (ps_set (i := 2) scDue.nd rfl (Or.inl rfl) (pe_call GF hr (by rfl) gF kF bF .nil pass0 (pa_cons (pv 1) (pa_cons pe_int pa_nil))))
      (pss_cons (ps_if (PW.pt (pw_or (pt_cmpR op_isN (pv 2) pe_non (nomark _)) (pw_or (pt_cmpR op_ne (pe_ix ix_list (pv 2) pe_int (fun _ _ => rfl)) (pe_callB call_len_seq (by rfl) mLen PySem.boot_len (pa_cons (pv 1) pa_nil)) (nomark _)) (pw_or (pt_cmpR op_gt (pe_ix ix_list (pv 2) pe_int (fun _ _ => rfl)) pe_int (nomark _)) (pw_or1 (pt_cmpR op_gt (pe_ix ix_list (pv 2) pe_int (fun _ _ => rfl)) pe_int (nomark _)))))))
        (pss_one (ps_ret pe_non)) pss_nil)
      (pss_one (ps_ret (pe_ix ix_list (pv 2) pe_int (fun _ _ => rfl)))))), ?_⟩
    obtain ⟨f1, f2, f3⟩ := hz.words
    have zs := hz.short
    refine ⟨_, rfl, ⟨_, rfl⟩, z, " ", rfl, rfl, by decide +kernel, Nat.le_trans (show z.length + 2 ≤ 1000 by omega) (by decide), fun W hW => ?_⟩
    generalize Txt.split z " " = ws at *
    have s1 := same_new (o := .lst (ws.map V.str)) hW
    have so : ∀ y ∈ ws, SOk y := fun y hy => (f1 y hy).2
    refine ⟨_, rfl, W, 0, ws, rfl, upd_same, f1, f2, Nat.zero_le _, by rw [List.drop_zero]; omega, fun c rest hc e H2 D v s2 hv hD => ?_, fun hnb H2 s2 => ?_⟩
    · rw [List.drop_zero] at e
      rw [Nat.zero_add] at hD
      have S2 := Same.trans s1 s2
      refine ⟨_, rfl, rfl, _, rfl, ?_⟩
      refine iteF ?_
      refine ⟨_, rfl, D, _, _, .int ((wordsK c).length : Int), rfl, rfl, SqL.of hD, atI_nat (j := 1) rfl, _, rfl, W, _, rfl, .inl (SqL.of (s2 _ _ upd_same)), rfl, _, rfl, ?_⟩
      have notk : (ws ≠ wordsK c ∨ isK5 c = false) → kow ws = none := fun h => by
        cases ek : kow ws with
        | none => rfl
        | some d =>
          exfalso
          obtain ⟨e1, hd, hk⟩ := (kow_iff so d).mp ek
          have e2 : wordsK c ++ rest = wordsK d ++ [] := by rw [List.append_nil, ← e1, e]
          obtain ⟨rfl, e3⟩ := words_pre c d hc hd _ _ e2
          rcases h with h | h
          · exact h e1
          · rw [hk] at h
            cases h
      by_cases hlen : (wordsK c).length = ws.length
      · refine ite2 (fun q => ?_) (fun _ => ?_)
        · exfalso
          revert q
          show ¬ ((!decide (V.int ((wordsK c).length : Int) = V.int ((ws.map V.str).length : Int))) = true)
          rw [List.length_map, hlen, decide_eq_true rfl]
          simp
        have ew : ws = wordsK c := by
          rw [e, List.length_append] at hlen
          have : rest = [] := List.eq_nil_of_length_eq_zero (by omega)
          rw [e, this, List.append_nil]
        refine ⟨_, rfl, D, _, _, .int (c.leaves : Int), rfl, rfl, SqL.of hD, atI_nat (j := 2) rfl, _, _, rfl, rfl, _, rfl, ?_⟩
        refine ite2 (fun q => ?_) (fun q => ?_)
        · refine iteT ?_
          have h24 : (24 : Int) < (c.leaves : Int) := of_decide_eq_true q
          exact no (notk (.inr (by unfold isK5; rw [decide_eq_false (by omega)]))) _ S2
        have h24 : c.leaves ≤ 24 := by
          rcases Nat.lt_or_ge 24 c.leaves with h | h
          · exact absurd (decide_eq_true (by omega : (24 : Int) < (c.leaves : Int))) q
          · exact h
        refine ⟨_, rfl, D, _, _, .int (c.deep : Int), rfl, rfl, SqL.of hD, atI_nat (j := 3) rfl, _, _, rfl, rfl, _, rfl, ?_⟩
        refine ite2 (fun q => ?_) (fun q => ?_)
        · have h12 : (12 : Int) < (c.deep : Int) := of_decide_eq_true q
          exact no (notk (.inr (by unfold isK5; rw [decide_eq_false (by omega)]))) _ S2
        have h12 : c.deep ≤ 12 := by
          rcases Nat.lt_or_ge 12 c.deep with h | h
          · exact absurd (decide_eq_true (by omega : (12 : Int) < (c.deep : Int))) q
          · exact h
        refine ⟨_, rfl, D, _, _, v, rfl, rfl, SqL.of hD, atI_nat (j := 0) rfl, ?_⟩
        exact yes c ((kow_iff so c).mpr ⟨ew, hc, by unfold isK5; exact decide_eq_true ⟨h24, h12⟩⟩) _ v S2 hv
      · refine ite2 (fun _ => ?_) (fun q => ?_)
        · refine iteT ?_
          exact no (notk (.inl fun x => hlen (by rw [x]))) _ S2
        · exfalso
          refine q ?_
          show (!decide (V.int ((wordsK c).length : Int) = V.int ((ws.map V.str).length : Int))) = true
          rw [List.length_map, decide_eq_false (fun x => hlen (by injection x with x; omega))]
          rfl
    · rw [List.drop_zero] at hnb
      refine ⟨_, rfl, rfl, _, rfl, ?_⟩
      refine iteT ?_
      refine iteT ?_
      refine no ?_ _ (Same.trans s1 s2)
      cases ek : kow ws with
      | none => rfl
      | some d =>
        obtain ⟨e1, hd, _⟩ := (kow_iff so d).mp ek
        exact absurd ⟨d, [], hd, by rw [List.append_nil]; exact e1⟩ hnb
theorem scRead : FnScope ["_law_text_here", "_law_found", "_law_error", "e"] ["_law_text_here"] (defScope sRead) := ⟨rfl, rfl, rfl, by decide +kernel, rfl, by decide +kernel, by decide +kernel⟩
theorem ok_read {f fR P1 C Er C1 C2 C3 C4 C5 C6 C7 : Addr} {fd fdR : FuncData} (F : Fun K "_law_read" "_law_read" sRead f fd)
    (GR : FnOk P w K mg base (L2.CX P w) 5 fR fdR ["text"] (spReadK P1 C)) (kR : PySem.W.keepIn K (.ref fR) = true) (bR : Binds K fdR ["text"] []) (gR : mg "read_kind" = some (.ref fR))
    (gE : mg "KindError" = some (.ref Er)) (te : PySem.W.exmOne K (.ref C) (.ref Er) = some true) (xC : ExcC K C) (gC : mg "NoKind" = some (.ref C)) (mIs : mg "isinstance" = none) (mVE : mg "ValueError" = none)
    (g1 : mg "NoText" = some (.ref C1)) (g2 : mg "NoFit" = some (.ref C2)) (g3 : mg "NoName" = some (.ref C3)) (g4 : mg "NoNumber" = some (.ref C4)) (g5 : mg "NoRow" = some (.ref C5)) (g6 : mg "TooLong" = some (.ref C6)) (g7 : mg "TooMany" = some (.ref C7))
    (i1 : PySem.W.kitOne K (.ref C) (.ref C) = some true) (i2 : PySem.W.kitOne K (.ref C) (.type "ValueError") = some true) (i3 : PySem.W.kitAny K (.ref C) [.ref C1, .ref C2, .ref C3, .ref C4, .ref C5, .ref C6, .ref C7] = some false) : FnOk P w K mg base CX0 6 f fd ["_law_text_here"] (spRead P1) := by
  refine F.ok scRead (fun vs H Q E h => ?_) (fun cdv A outer s H vs Q E hr h => ?_)
  · obtain ⟨z, rfl, _⟩ := h
    rfl
  · obtain ⟨z, rfl, hz, hT, yes, no⟩ := h
    refine ⟨_, pss_cons (ps_set (i := 1) scRead.nd rfl (Or.inl rfl) pe_non)
      (pss_cons (ps_set (i := 2) scRead.nd rfl (Or.inl rfl) pe_non)
      (pss_cons (ps_try_hold (i := 3) (tb := fun W => tAsg (tCallS (spReadK P1 C) (WE W) (tCons (tVar 0) tNil)) (gName 1)) (ts := fun _ _ _ => tAsg (tVar 3) (gName 2)) (Wo := fun _ _ _ _ => False) rfl rfl rfl scRead.nd rfl rfl ⟨rfl, by decide, Or.inl gE⟩ takes0
          (fun W pn xe tk _ => pss_one (ps_set (i := 1) scRead.nd rfl (Or.inl rfl) (by exact (pe_callS GR hr (by rfl) gR kR bR (fun σ => passAt tk σ) (pa_cons (pv 0) pa_nil)))))
          (fun a oe cls d pn _ _ => pss_one (ps_set (i := 2) scRead.nd rfl (Or.inl rfl) (pv 3))))
      (pss_cons (ps_if (pt_cmpR op_isN (pv 2) pe_non (nomark _)) (pss_one (ps_ret (pe_tup (pa_cons pe_str (pa_cons (pv 1) pa_nil))))) pss_nil)
      (pss_cons (ps_if (PW.pt (pw_or (pt_not (pt_val (pe_callB (isx (K := K) rfl) (by rfl) mIs boot_isi (pa_cons (pv 2) (pa_cons (pe_glob (v := .ref C) (by rfl) gC rfl) pa_nil))))) (pw_or1 (pt_not (pt_val (pe_callB (isx (K := K) rfl) (by rfl) mIs boot_isi (pa_cons (pv 2) (pa_cons (pe_bltn (v := .ty "ValueError") (by rfl) mVE (by decide +kernel) rfl) pa_nil)))))))) (pss_one (ps_ret pe_str)) pss_nil)
      (pss_cons (ps_if (pt_val (pe_callB (isxt (K := K) rfl) (by rfl) mIs boot_isi (pa_cons (pv 2) (pa_cons (pe_tup (pa_cons (pe_glob (v := .ref C1) (by rfl) g1 rfl) (pa_cons (pe_glob (v := .ref C2) (by rfl) g2 rfl) (pa_cons (pe_glob (v := .ref C3) (by rfl) g3 rfl) (pa_cons (pe_glob (v := .ref C4) (by rfl) g4 rfl) (pa_cons (pe_glob (v := .ref C5) (by rfl) g5 rfl) (pa_cons (pe_glob (v := .ref C6) (by rfl) g6 rfl) (pa_cons (pe_glob (v := .ref C7) (by rfl) g7 rfl) pa_nil)))))))) pa_nil)))) (pss_one (ps_ret pe_str)) pss_nil)
      (pss_one (ps_ret pe_non))))))), ?_⟩
    obtain ⟨f1, f2, _⟩ := hz.words
    have zs := hz.short
    refine ⟨_, rfl, z, rfl, Nat.le_trans (show z.length + 2 ≤ 1000 by omega) (by decide), fun y hy => ⟨Nat.le_trans (f1 y hy).1 (by decide), (f1 y hy).2⟩, by omega, hT, fun c hc H2 v e2 hv => ?_, fun hn H2 e2 => ?_⟩
    · refine ⟨_, rfl, rfl, _, rfl, ?_⟩
      refine iteT ?_
      refine ⟨_, rfl, by show 2 ≤ sizeLine; decide, fun t ht => ?_⟩
      have s1 := same_new (o := .tup [.str "told", v]) ht
      exact yes c hc _ t v (e2.trans (ev_same e2.1 s1)) (KdAt.mono (tups_of s1) c v hv) upd_same
    · refine ⟨true, te, fun _ a ha => ?_, fun q => nomatch q⟩
      refine ⟨_, rfl, ?_⟩
      have s1 := same_new (o := ExC (.ref C) none a) ha
      have hx : (upd H2 a (ExC (.ref C) none a)) a = some (ExC (.ref C) none a) := upd_same
      have e3 := e2.trans (ev_same e2.1 s1)
      refine ⟨_, rfl, rfl, _, rfl, ?_⟩
      refine iteF ?_
      refine ⟨_, rfl, a, C, .ref C, .ref C, true, rfl, hx, xC, .own C, i1, true, rfl, ?_⟩
      refine iteF ?_
      refine ⟨_, rfl, a, C, .ty "ValueError", .type "ValueError", true, rfl, hx, xC, .ty "ValueError", i2, true, rfl, ?_⟩
      refine iteF ?_
      refine ⟨_, rfl, by show 7 ≤ sizeLine; decide, fun tp htp => ?_⟩
      have s4 := same_new (o := .tup [V.ref C1, V.ref C2, V.ref C3, V.ref C4, V.ref C5, V.ref C6, V.ref C7]) htp
      refine ⟨a, C, tp, _, [.ref C1, .ref C2, .ref C3, .ref C4, .ref C5, .ref C6, .ref C7], false, rfl, s4 _ _ hx, xC, upd_same, .cons (.own _) (.cons (.own _) (.cons (.own _) (.cons (.own _) (.cons (.own _) (.cons (.own _) (.cons (.own _) .nil)))))), i3, false, rfl, ?_⟩
      refine iteF ?_
      exact no hn _ (e3.trans (ev_same e3.1 s4))
end
theorem lay_sok {x : Str} (h : PyData.canLay0 (.str x) = true) : SOk x := by
  simp only [PyData.canLay0] at h
  change x.cps.all (fun c => decide (c < 0x110000)) = true at h
  rw [Array.all_eq_true'] at h
  exact fun c hc => of_decide_eq_true (h c (Array.mem_toList_iff.mp hc))
theorem wk_words : ∀ c : Kd, c.Ok → ∀ u ∈ wordsK c, u.length ≤ 7 ∧ SOk u ∧ 32 ∉ u.cps.toList
  | .one, _, u, h => by
    rw [List.mem_singleton.mp h]
    exact ⟨by decide +kernel, by unfold SOk; decide +kernel, by decide +kernel⟩
  | .mark m, o, u, h => by
    rw [List.mem_singleton.mp h]
    exact ⟨Nat.le_succ_of_le o.short, lay_sok o.lay, o.free⟩
  | .two b k l, ⟨o1, o2⟩, u, h => by
    have h' : u = "(" ∨ u ∈ wordsK k ∨ u = sign b ∨ u ∈ wordsK l ∨ u = ")" := by
      simpa only [wordsK, List.mem_cons, List.mem_append, List.not_mem_nil, or_false] using h
    rcases h' with rfl | h | rfl | h | rfl
    · exact ⟨by decide +kernel, so_open, by decide +kernel⟩
    · exact wk_words k o1 u h
    · exact ⟨by cases b <;> decide +kernel, so_sign b, by cases b <;> decide +kernel⟩
    · exact wk_words l o2 u h
    · exact ⟨by decide +kernel, so_close, by decide +kernel⟩
theorem split_text {c : Kd} (h : c.Ok) : Txt.split (textK c) " " = wordsK c := by
  obtain ⟨x, xs, e⟩ := wordsK_ne c
  exact TL.split_join (y := " ") (s := 32) (S := []) (by decide +kernel) (by decide +kernel) (by rw [e]; simp) fun u hu => (wk_words c h u hu).2.2
theorem text_facts {c : Kd} (h : c.Ok) (hl : c.leaves ≤ 27) : (textK c).length ≤ 430 ∧ SOk (textK c) ∧ cnt (textK c) ≤ 26 ∧ WsOk (Txt.split (textK c) " ") := by
  have tl := textK_len c h
  obtain ⟨a, b, _⟩ := joinS_facts (wordsK c) fun u hu => (wk_words c h u hu).2.1
  have cw := cnts_words c h
  have wl := wordsK_len c
  have lp := c.leaves_pos
  have e : cnt (textK c) = cnts (wordsK c) := b
  rw [split_text h]
  exact ⟨by omega, a, by omega, by omega, by omega, fun u hu => ⟨(wk_words c h u hu).1, (wk_words c h u hu).2.1⟩, by omega⟩
theorem evs_take {P1 p : Addr} {H H1 : Hp} (hT : TabG H P1) (hp : PoolAt H p) (e : ∀ b, b ≠ p → H1 b = H b) : EvS P1 p H H1 := by
  obtain ⟨c, n, h, _⟩ := hp
  exact evs_kept hT h (kept_take e)
theorem evs_same {P1 p : Addr} {H H1 : Hp} (hT : TabG H P1) (s : Same H H1) : EvS P1 p H H1 := (ev_same hT s).evs p
theorem evs_keptP {P1 p : Addr} {H H1 : Hp} (hT : TabG H P1) (hp : PoolAt H p) (k : Kept p H H1) : EvS P1 p H H1 := by
  obtain ⟨c, n, h, _⟩ := hp
  exact evs_kept hT h k
theorem ev_two {P1 p : Addr} {H0 H7 H8 H9 : Hp} (E7 : Ev P1 H0 H7) (hp0 : H7 p = none) (E8 : Ev P1 H0 H8) (k : EvS P1 p H8 H9) : Ev P1 H0 H9 := ⟨k.1, fun b o nt hb => k.2 b o (fun z => by
  have := E7.2 b o nt hb
  rw [z, hp0] at this
  cases this) nt (E8.2 b o nt hb)⟩
theorem evs_lst {P1 p S : Addr} {H H1 : Hp} {xs : List V} (e : EvS P1 p H H1) (h : H S = some (.lst xs)) (n : S ≠ p) : H1 S = some (.lst xs) := e.2 _ _ n (fun _ z => by cases z) h
theorem told_lay {c : Kd} (h : c.Ok) : PyData.canLay0 (.tuple [.str "told", c.data]) = true := by
  have a := data_ok c h
  have e : PyData.canLay0 (.str "told") = true := by decide +kernel
  simp only [PyData.canLay0, PyData.canLayAll0, a] at e ⊢
  rw [e]
  rfl
theorem told_shaped {c : Kd} (h : c.Ok) (l : c.leaves ≤ 40) : SeqAt.shaped (.tuple [.str "told", c.data]) = true := by
  have d := data_depth c
  have dl := c.deep_lt
  refine shaped5 (told_lay h) ?_
  simp only [PyData.depth, PyData.depthAll, d]
  omega
def spLaw (K : PySem.W.Frag) (P1 : Addr) : Sp := fun vs H Q _ => ∃ (a : Addr) (ns : List Int), vs = [.ref a] ∧ SqL K H a (ns.map V.int) ∧ ns.length ≤ 63 ∧ TabG H P1 ∧ ∀ H', Q (.bl true) H'
theorem seq_ev {K : PySem.W.Frag} {P1 a : Addr} {xs : List V} {H H' : Hp} (e : Ev P1 H H') (h : SqL K H a xs) : SqL K H' a xs := by
  rcases h with (h | ⟨o, h⟩) | h
  · exact .inl (.inl (e.2 _ _ (fun _ z => by cases z) h))
  · exact .inl (.inr ⟨o, e.2 _ _ (fun _ z => by cases z) h⟩)
  · exact .inr h
def ms5 : List Str := ["a", "x", "one", "to", "both", "mark", "dddddd"]
theorem mk_ms5 : ∀ m ∈ ms5, MkOk m := by
  have h : ms5.all (fun u => PyData.canLay0 (.str u) && (decide (1 ≤ u.length ∧ u.length ≤ 6) && (!(u.cps.toList.contains 32) && !(u.cps.toList.contains 40)))) = true := by decide +kernel
  intro u hu
  have := List.all_eq_true.mp h u hu
  rw [Bool.and_eq_true, Bool.and_eq_true, Bool.and_eq_true] at this
  obtain ⟨a, b, c, d⟩ := this
  have b2 := of_decide_eq_true b
  refine ⟨a, b2.1, b2.2, fun x => ?_, fun x => ?_⟩
  · rw [List.contains_iff_mem.mpr x] at c
    cases c
  · rw [List.contains_iff_mem.mpr x] at d
    cases d
theorem pair_at {α : Type} {x y : α} {r : Int} (h0 : 0 ≤ r) (h1 : r < 2) : ∃ v, atI [x, y] r = some v ∧ (v = x ∨ v = y) := by
  obtain ⟨v, hv, hm⟩ := at_any (xs := [x, y]) h0 h1
  exact ⟨v, hv, by simpa using hm⟩
section
variable {P : Program} {w : World} {K : PySem.W.Frag} {mg : Str → Option Value} {base : Heap}
theorem scLaw : FnScope ["_law_script", "_law_k", "_law_pool_here", "_law_leaves", "_law_kind_here", "_law_text_here", "_law_due_here"] ["_law_script"] (defScope sLaw) := ⟨rfl, rfl, rfl, by decide +kernel, rfl, by decide +kernel, by decide +kernel⟩
set_option maxHeartbeats 2000000 in
theorem ok_law {f f1 f2 f3 f4 f5 f6 f7 f8 f9 P1 C : Addr} {fd fd1 fd2 fd3 fd4 fd5 fd6 fd7 fd8 fd9 : FuncData} (F : Fun K "law" "law" sLaw f fd)
    (GP : FnOk P w K mg base CX0 1 f1 fd1 ["_law_script", "_law_k"] (spPool K)) (kP : PySem.W.keepIn K (.ref f1) = true) (bP : Binds K fd1 ["_law_script", "_law_k"] []) (gP : mg "_law_pool" = some (.ref f1))
    (GT : FnOk P w K mg base CX0 1 f2 fd2 ["_law_pool_here", "_law_many"] spTake) (kT : PySem.W.keepIn K (.ref f2) = true) (bT : Binds K fd2 ["_law_pool_here", "_law_many"] []) (gT : mg "_law_take" = some (.ref f2))
    (GK : FnOk P w K mg base CX0 29 f3 fd3 ["_law_pool_here", "_law_leaves", "_law_marks"] (spKind 27)) (kK : PySem.W.keepIn K (.ref f3) = true) (bK : Binds K fd3 ["_law_pool_here", "_law_leaves", "_law_marks"] []) (gK : mg "_law_kind" = some (.ref f3))
    (GX : FnOk P w K mg base CX0 29 f4 fd4 ["_law_kind_here"] (spText 28)) (kX : PySem.W.keepIn K (.ref f4) = true) (bX : Binds K fd4 ["_law_kind_here"] []) (gX : mg "_law_text" = some (.ref f4))
    (GB : FnOk P w K mg base CX0 2 f5 fd5 ["_law_pool_here", "_law_text_here"] spBent) (kB : PySem.W.keepIn K (.ref f5) = true) (bB : Binds K fd5 ["_law_pool_here", "_law_text_here"] []) (gB : mg "_law_bent" = some (.ref f5))
    (GD : FnOk P w K mg base CX0 49 f6 fd6 ["_law_text_here"] spDue) (kD : PySem.W.keepIn K (.ref f6) = true) (bD : Binds K fd6 ["_law_text_here"] []) (gD : mg "_law_due" = some (.ref f6))
    (GR : FnOk P w K mg base CX0 6 f7 fd7 ["_law_text_here"] (spRead P1)) (kR : PySem.W.keepIn K (.ref f7) = true) (bR : Binds K fd7 ["_law_text_here"] []) (gR : mg "_law_read" = some (.ref f7))
    (GS : FnOk P w K mg base CX0 2 f8 fd8 ["kind"] spShown) (kS : PySem.W.keepIn K (.ref f8) = true) (bS : Binds K fd8 ["kind"] []) (gS : mg "shown_kind" = some (.ref f8))
    (GU : FnOk P w K mg base (L2.CX P w) 5 f9 fd9 ["text"] (spReadK P1 C)) (kU : PySem.W.keepIn K (.ref f9) = true) (bU : Binds K fd9 ["text"] []) (gU : mg "read_kind" = some (.ref f9))
    (mLen : mg "len" = none) (mMax : mg "max" = none) (mMin : mg "min" = none) (mRange : mg "range" = none) (mInt : mg "int" = none) : FnOk P w K mg base CX0 50 f fd ["_law_script"] (spLaw K P1) := by
  refine F.ok scLaw (fun vs H Q E h => ?_) (fun cdv A outer s H vs Q E hr h => ?_)
  · obtain ⟨a, ns, rfl, _⟩ := h
    rfl
  · obtain ⟨a, ns, rfl, hS, hl, ht, k⟩ := h
    have hr1 : Room 1 _ := hr.mono (by omega)
    have hr2 : Room 2 _ := hr.mono (by omega)
    have hr5 : Room 5 _ := hr.mono (by omega)
    have hr6 : Room 6 _ := hr.mono (by omega)
    have hr29 : Room 29 _ := hr.mono (by omega)
    refine ⟨_, pss_cons (ps_for PassesOwn.never rfl (pi_range1 (by rfl) mRange (pa_cons (pe_callB (call_max2 (by rfl)) (by rfl) mMax (by decide +kernel) (pa_cons pe_int (pa_cons (pe_callB (call_min2 (by rfl)) (by rfl) mMin (by decide +kernel) (pa_cons (pe_callB call_len_seq (by rfl) mLen PySem.boot_len (pa_cons (pv 0) pa_nil)) (pa_cons pe_int pa_nil))) pa_nil))) pa_nil)) (pg_name (i := 1) scLaw.nd rfl (Or.inl rfl))
        (pss_cons (ps_set (i := 2) scLaw.nd rfl (Or.inl rfl) (pe_call GP hr1 (by rfl) gP kP bP .nil pass0 (pa_cons (pv 0) (pa_cons (pv 1) pa_nil))))
        (pss_cons (ps_set (i := 3) scLaw.nd rfl (Or.inl rfl) (pe_ix ix_list (pe_lst (pa_cons (pe_op op_add pe_int (pe_call GT hr1 (by rfl) gT kT bT .nil pass0 (pa_cons (pv 2) (pa_cons pe_int pa_nil)))) (pa_cons (pe_op op_add pe_int (pe_call GT hr1 (by rfl) gT kT bT .nil pass0 (pa_cons (pv 2) (pa_cons pe_int pa_nil)))) pa_nil)))
            (pe_callTy call_int1 (by rfl) mInt (by decide +kernel) (pa_cons (pe_cmpR op_eq (pe_call GT hr1 (by rfl) gT kT bT .nil pass0 (pa_cons (pv 2) (pa_cons pe_int pa_nil))) pe_int (nomark _)) pa_nil)) (fun _ _ => rfl)))
        (pss_cons (ps_set (i := 4) scLaw.nd rfl (Or.inl rfl) (pe_call GK hr29 (by rfl) gK kK bK .nil pass0 (pa_cons (pv 2) (pa_cons (pv 3) (pa_cons (pe_lst (pa_cons pe_str (pa_cons pe_str (pa_cons pe_str (pa_cons pe_str (pa_cons pe_str (pa_cons pe_str (pa_cons pe_str pa_nil)))))))) pa_nil)))))
        (pss_cons (ps_set (i := 5) scLaw.nd rfl (Or.inl rfl) (pe_call GX hr29 (by rfl) gX kX bX .nil pass0 (pa_cons (pv 4) pa_nil)))
        (C8.pss_cut (ps_if (PW.pt (pw_and (pt_cmpR op_notN (pe_call GD hr (by rfl) gD kD bD .nil pass0 (pa_cons (pv 5) pa_nil)) pe_non (nomark _)) (pw_and1 (pt_cmpR op_ne (pe_call GS hr2 (by rfl) gS kS bS .nil pass0 (pa_cons (pv 4) pa_nil)) (pv 5) (nomark _))))) (pss_one (ps_ret pe_bl)) pss_nil)
        (C8.pss_cut (ps_if (pt_cmpR op_gt (pe_call GT hr1 (by rfl) gT kT bT .nil pass0 (pa_cons (pv 2) (pa_cons pe_int pa_nil))) pe_int (nomark _)) (pss_one (ps_set (i := 5) scLaw.nd rfl (Or.inl rfl) (pe_call GB hr2 (by rfl) gB kB bB .nil pass0 (pa_cons (pv 2) (pa_cons (pv 5) pa_nil))))) pss_nil)
        (pss_cons (ps_set (i := 6) scLaw.nd rfl (Or.inl rfl) (pe_call GD hr (by rfl) gD kD bD .nil pass0 (pa_cons (pv 5) pa_nil)))
        (C8.pss_cut (ps_if (pt_cmpR (op_neD hr.units) (pe_call GR hr6 (by rfl) gR kR bR .nil pass0 (pa_cons (pv 5) pa_nil)) (pe_ix ix_list (pe_lst (pa_cons pe_non (pa_cons (pe_tup (pa_cons pe_str (pa_cons (pv 6) pa_nil))) pa_nil)))
              (pe_callTy call_int1 (by rfl) mInt (by decide +kernel) (pa_cons (pe_cmpR op_notN (pv 6) pe_non (nomark _)) pa_nil)) (fun _ _ => rfl)) (nomark _)) (pss_one (ps_ret pe_bl)) pss_nil)
        (pss_one (ps_if (PW.pt (pw_and (pt_cmpR op_notN (pv 6) pe_non (nomark _)) (pw_and1 (pt_cmpR op_ne (pe_call GS hr2 (by rfl) gS kS bS .nil pass0 (pa_cons (pe_callS (E := WE fun _ _ _ _ => False) GU hr5 (by rfl) gU kU bU (fun σ => passAt takes0 σ) (pa_cons (pv 5) pa_nil)) pa_nil)) (pv 5) (nomark _))))) (pss_one (ps_ret pe_bl)) pss_nil)))))))))))
      (pss_one (ps_ret pe_bl)), ?_⟩
    refine ⟨_, rfl, a, _, rfl, .inl hS, _, _, rfl, _, _, rfl, ?_⟩
    rw [List.length_map]
    obtain ⟨j, hj, hj1, hj2⟩ : ∃ j : Int, (if (if (20 : Int) < (ns.length : Int) then 20 else (ns.length : Int)) > 1 then (if (20 : Int) < (ns.length : Int) then 20 else (ns.length : Int)) else 1) = j ∧ 1 ≤ j ∧ j ≤ 20 := ⟨_, rfl, by split <;> (try split) <;> omega, by split <;> (try split) <;> omega⟩
    rw [hj]
    refine ⟨j, rfl, by omega, by omega, for_range (lo := 0) (n := j.toNat) (fun i σ H2 => ∃ (i1 i2 i3 i4 i5 i6 : Option V), σ = [some (.ref a), i1, i2, i3, i4, i5, i6] ∧ SqL K H2 a (ns.map V.int) ∧ TabG H2 P1) ⟨none, none, none, none, none, none, rfl, hS, ht⟩ ?_ ?_⟩
    · rintro i σ H2 hi ⟨i1, i2, i3, i4, i5, i6, rfl, hS2, ht2⟩
      refine ⟨_, rfl, _, rfl, a, ns, i, by rw [Int.zero_add]; rfl, hS2, hl, by omega, fun p H3 hp0 hp e3 => ?_⟩
      have s3 : Same H2 H3 := fun b o e => (e3 b (ne_of_none e hp0)).trans e
      have E3 : Ev P1 H2 H3 := ev_same ht2 s3
      have done : ∀ {H' : Hp}, EvS P1 p H3 H' → SqL K H' a (ns.map V.int) ∧ TabG H' P1 := fun {H'} k => ⟨seq_ev (ev_two (ev_same ht2 (Same.refl H2)) hp0 E3 k) hS2, k.1⟩
      refine ⟨_, rfl, p, 12, rfl, hp, by decide, by decide, fun r1 H4 a0 a1 hp4 e4 => ⟨_, _, rfl, rfl, ?_⟩⟩
      refine ⟨_, rfl, p, 6, rfl, hp4, by decide, by decide, fun r2 H5 b0 b1 hp5 e5 => ⟨_, _, rfl, rfl, by show 2 ≤ sizeLine; decide, fun l hl5 => ?_⟩⟩
      have k4 := evs_take E3.1 hp e4
      have k5 := k4.trans (evs_take k4.1 hp4 e5)
      have s5 := same_new (o := .lst [V.int (1 + r1), V.int (22 + r2)]) hl5
      have hp5' := hp5.same s5
      have nlp := hp5.ne hl5
      have k5' := k5.trans (evs_same k5.1 s5)
      refine ⟨_, rfl, p, 5, rfl, hp5', by decide, by decide, fun r3 H6 c0 c1 hp6 e6 => ?_⟩
      have k6 := k5'.trans (evs_take k5'.1 hp5' e6)
      refine ⟨rfl, .inr ⟨_, rfl, ?_⟩⟩
      obtain ⟨lv, hlv, hlv2⟩ := pair_at (x := V.int (1 + r1)) (y := V.int (22 + r2)) (r := if decide (V.int r3 = V.int 4) = true then 1 else 0) (by split <;> decide) (by split <;> decide)
      obtain ⟨L, rfl, L1, L2⟩ : ∃ L : Nat, lv = V.int (L : Int) ∧ 1 ≤ L ∧ L ≤ 27 := by
        rcases hlv2 with rfl | rfl
        · exact ⟨(1 + r1).toNat, by congr 1; omega, by omega, by omega⟩
        · exact ⟨(22 + r2).toNat, by congr 1; omega, by omega, by omega⟩
      refine ⟨l, _, _, _, rfl, rfl, SqL.of ((e6 l nlp).trans upd_same), hlv, ?_⟩
      refine ⟨_, rfl, _, rfl, by show 7 ≤ sizeLine; decide, fun M hM => ?_⟩
      have sM := same_new (o := .lst (ms5.map V.str)) hM
      have hp6' := hp6.same sM
      refine ⟨p, M, L, ms5, rfl, hp6', L1, L2, by omega, upd_same, by decide, by decide, mk_ms5, fun v kd H8 hv hlvs hok hp8 k8 => ?_⟩
      have k6' := k6.trans (evs_same k6.1 sM)
      have k8' := k6'.trans (evs_keptP k6'.1 hp6' k8)
      have dl := kd.deep_lt
      refine ⟨_, rfl, v, kd, rfl, hv, by omega, by omega, hok, fun H9 s9 => ?_⟩
      have k9 := k8'.trans (evs_same k8'.1 s9)
      have hp9 := hp8.same s9
      have hv9 := KdAt.mono (tups_of s9) kd v hv
      obtain ⟨t1, t2, t3, t4⟩ := text_facts hok (by omega)
      have okT : TxOk (textK kd) := ⟨by omega, t2, by omega⟩
      refine ⟨fun σ' H' => ∃ i6 : Option V, σ' = [some (.ref a), some (.int ((0 : Int) + (i : Int))), some (.ref p), some (.int (L : Int)), some v, some (.str (textK kd)), i6] ∧ PoolAt H' p ∧ EvS P1 p H3 H', ?_, ?_⟩
      · refine ⟨_, rfl, textK kd, rfl, okT, fun c hc H10 v2 s10 hv2 => ?_, fun hn H10 s10 => ?_⟩
        · obtain ⟨va, ys, rfl, _⟩ := kd_ref c v2 hv2
          refine ⟨rfl, _, rfl, ?_⟩
          refine iteT ?_
          refine ⟨_, rfl, v, kd, rfl, KdAt.mono (tups_of s10) kd v hv9, by omega, hok, fun H11 s11 => ?_⟩
          refine ⟨_, rfl, rfl, _, rfl, ?_⟩
          refine ite2 (fun q => ?_) (fun _ => ?_)
          · exfalso
            revert q
            show ¬ ((!decide (V.str (textK kd) = V.str (textK kd))) = true)
            rw [decide_eq_true rfl]
            simp
          · have S := Same.trans s10 s11
            exact ⟨_, rfl, hp9.same S, k9.trans (evs_same k9.1 S)⟩
        · refine ⟨rfl, _, rfl, ?_⟩
          refine iteF ?_
          refine iteF ?_
          exact ⟨_, rfl, hp9.same s10, k9.trans (evs_same k9.1 s10)⟩
      rintro σ' H10 ⟨j6, rfl, hp10, k10⟩
      refine ⟨fun σ' H' => ∃ (z : Str) (i6 : Option V), σ' = [some (.ref a), some (.int ((0 : Int) + (i : Int))), some (.ref p), some (.int (L : Int)), some v, some (.str z), i6] ∧ TxOk z ∧ EvS P1 p H3 H', ?_, ?_⟩
      · refine ⟨_, rfl, p, 3, rfl, hp10, by decide, by decide, fun q H11 q0 q1 hp11 e11 => ⟨_, _, rfl, rfl, _, rfl, ?_⟩⟩
        have k11 := k10.trans (evs_take k10.1 hp10 e11)
        refine ite2 (fun _ => ?_) (fun _ => ?_)
        · exact ⟨_, rfl, _, rfl, p, textK kd, rfl, hp11, t1, t2, t3, t4, fun z' H12 okz hp12 k12 => ⟨z', _, rfl, okz, k11.trans (evs_keptP k11.1 hp11 k12)⟩⟩
        · exact ⟨textK kd, _, rfl, okT, k11⟩
      rintro σ' H13 ⟨z, j7, rfl, okz, k13⟩
      obtain ⟨f1, f2, f3⟩ := okz.words
      have zs := okz.short
      have so : ∀ y ∈ Txt.split z " ", SOk y := fun y hy => (f1 y hy).2
      refine ⟨_, rfl, z, rfl, okz, fun c hc H14 v2 s14 hv2 => ?_, fun hn H14 s14 => ?_⟩
      · obtain ⟨ew, hcM, hk5⟩ := (kow_iff so c).mp hc
        have hk6 : c.leaves ≤ 24 ∧ c.deep ≤ 12 := by
          unfold isK5 at hk5
          exact of_decide_eq_true hk5
        have k14 := k13.trans (evs_same k13.1 s14)
        obtain ⟨va, ys, rfl, _⟩ := kd_ref c v2 hv2
        refine ⟨fun σ' H' => σ' = [some (.ref a), some (.int ((0 : Int) + (i : Int))), some (.ref p), some (.int (L : Int)), some v, some (.str z), some (.ref va)] ∧ EvS P1 p H3 H', ?_, ?_⟩
        · refine ⟨_, rfl, z, rfl, okz, k14.1, fun c' hc' H17 t v3 e17 hv3 ht3 => ?_, fun hn' => absurd (hn'.symm.trans hc) (by intro z; cases z)⟩
          obtain rfl : c' = c := by
            rw [hc] at hc'
            injection hc' with hc'
            exact hc'.symm
          have hv27 := KdAt.mono (tups_ev e17) c' _ hv2
          refine ⟨_, rfl, by show 2 ≤ sizeLine; decide, fun t2 ht2 => ⟨by show 2 ≤ sizeLine; decide, fun l2 hl2 => ?_⟩⟩
          have st := same_new (o := .tup [V.str "told", V.ref va]) ht2
          have sl9 := same_new (o := .lst [V.non, V.ref t2]) hl2
          have S9 := Same.trans st sl9
          refine ⟨_, rfl, rfl, .inr ⟨_, rfl, ?_⟩⟩
          refine ⟨l2, _, _, .ref t2, rfl, rfl, SqL.of upd_same, rfl, ?_⟩
          refine ⟨.tuple [.str "told", c'.data], .tuple [.str "told", c'.data], .tup (SqT.of (S9 _ _ ht3)) (.cons (.str _) (.cons (kd_dp c' v3 (KdAt.mono (tups_of S9) c' _ hv3)) .nil)), .tup (SqT.of (sl9 _ _ upd_same)) (.cons (.str _) (.cons (kd_dp c' _ (KdAt.mono (tups_of S9) c' _ hv27)) .nil)), told_shaped hcM.ok (by omega), told_shaped hcM.ok (by omega), _, rfl, ?_⟩
          rw [SeqAt.eqv_refl _ (told_lay hcM.ok)]
          refine iteF ?_
          exact ⟨rfl, k14.trans ((e17.evs p).trans (evs_same e17.1 S9))⟩
        · rintro σ' H18 ⟨rfl, k18⟩
          refine ⟨_, rfl, rfl, _, rfl, ?_⟩
          refine iteT ?_
          refine ⟨_, rfl, z, rfl, Nat.le_trans (show z.length + 2 ≤ 1000 by omega) (by decide), fun y hy => ⟨Nat.le_trans (f1 y hy).1 (by decide), (f1 y hy).2⟩, by omega, k18.1, fun c' hc' H19 v4 e19 hv4 => ?_, fun hn' => absurd (hn'.symm.trans hc) (by intro z; cases z)⟩
          obtain rfl : c' = c := by
            rw [hc] at hc'
            injection hc' with hc'
            exact hc'.symm
          refine ⟨v4, c', rfl, hv4, by omega, hcM.ok, fun H20 s20 => ?_⟩
          refine ⟨_, rfl, rfl, _, rfl, ?_⟩
          have ez : textK c' = z := by
            have := split_back z
            rw [ew] at this
            exact this
          refine ite2 (fun q => ?_) (fun _ => ?_)
          · exfalso
            revert q
            show ¬ ((!decide (V.str (textK c') = V.str z)) = true)
            rw [ez, decide_eq_true rfl]
            simp
          · obtain ⟨d1, d2⟩ := done (k18.trans ((e19.evs p).trans (evs_same e19.1 s20)))
            exact ⟨_, _, _, _, _, _, rfl, d1, d2⟩
      · have k14 := k13.trans (evs_same k13.1 s14)
        refine ⟨fun σ' H' => σ' = [some (.ref a), some (.int ((0 : Int) + (i : Int))), some (.ref p), some (.int (L : Int)), some v, some (.str z), some .non] ∧ EvS P1 p H3 H', ?_, ?_⟩
        · refine ⟨_, rfl, z, rfl, okz, k14.1, fun c' hc' => absurd (hc'.symm.trans hn) (by intro z; cases z), fun hn' H17 e17 => ?_⟩
          refine ⟨_, rfl, by show 2 ≤ sizeLine; decide, fun t2 ht2 => ⟨by show 2 ≤ sizeLine; decide, fun l2 hl2 => ?_⟩⟩
          have st := same_new (o := .tup [V.str "told", V.non]) ht2
          have sl9 := same_new (o := .lst [V.non, V.ref t2]) hl2
          have S9 := Same.trans st sl9
          refine ⟨_, rfl, rfl, .inr ⟨_, rfl, ?_⟩⟩
          refine ⟨l2, _, _, .non, rfl, rfl, SqL.of upd_same, rfl, ?_⟩
          refine ⟨.none, .none, .non, .non, by decide +kernel, by decide +kernel, _, rfl, ?_⟩
          rw [SeqAt.eqv_refl _ (by decide +kernel)]
          refine iteF ?_
          exact ⟨rfl, k14.trans ((e17.evs p).trans (evs_same e17.1 S9))⟩
        · rintro σ' H18 ⟨rfl, k18⟩
          refine ⟨_, rfl, rfl, _, rfl, ?_⟩
          refine iteF ?_
          refine iteF ?_
          obtain ⟨d1, d2⟩ := done k18
          exact ⟨_, _, _, _, _, _, rfl, d1, d2⟩
    · rintro σ H2 ⟨_, _, _, _, _, _, rfl, _⟩
      exact k H2
end

theorem len_look {K : PySem.W.Frag} {L : Addr} {h1 h2 h3 h4 : Int} {t1 t2 t3 t4 u1 u2 u3 u4 : Tok} {nn : Nat}
    (lL : K.lookup L = some ⟨.type "dict", none, .dict #[⟨h1, .str "mark" t1, .int 2 u1⟩, ⟨h2, .str "one" t2, .int 1 u2⟩, ⟨h3, .str "to" t3, .int 3 u3⟩, ⟨h4, .str "both" t4, .int 3 u4⟩] nn, #[]⟩) (z : Str) :
    ∃ r, PySem.W.nsIn K L z = some r ∧ RelV (lenV z) (r.getD .none) ∧ r.isSome = isW z := by
  unfold PySem.W.nsIn
  rw [lL]
  simp only [List.find?_cons, List.find?_nil, PySem.W.isStr_of, Value.isStrOf]
  unfold lenV lenN isW
  by_cases e1 : z = "mark"
  · subst e1
    exact ⟨_, rfl, ⟨_, rfl⟩, (show true = _ from by decide +kernel)⟩
  by_cases e2 : z = "one"
  · subst e2
    exact ⟨_, rfl, ⟨_, rfl⟩, (show true = _ from by decide +kernel)⟩
  by_cases e3 : z = "to"
  · subst e3
    exact ⟨_, rfl, ⟨_, rfl⟩, (show true = _ from by decide +kernel)⟩
  by_cases e4 : z = "both"
  · subst e4
    exact ⟨_, rfl, ⟨_, rfl⟩, (show true = _ from by decide +kernel)⟩
  have n1 : ("mark" == z) = false := by simpa using fun e => e1 e.symm
  have n2 : ("one" == z) = false := by simpa using fun e => e2 e.symm
  have n3 : ("to" == z) = false := by simpa using fun e => e3 e.symm
  have n4 : ("both" == z) = false := by simpa using fun e => e4 e.symm
  refine ⟨none, ?_, ?_, ?_⟩
  · simp [e1, e2, e3, e4, n1, n2, n3, n4, DictEntry.refKey]
  · rw [if_neg e1, if_neg e2, if_neg e3, if_neg e4]
    rfl
  · rw [decide_eq_false (by rintro (e | e | e | e) <;> contradiction)]
    rfl
/-- an error of the class at S is what «except T» names -/
theorem exm_under {K : PySem.W.Frag} {S T : Addr} (h1 : PySem.W.subIn K (.ref T) (.type "BaseException") = some true) (h2 : PySem.W.isClsIn K T = true) (h3 : PySem.W.typeIn K (.ref T) = some (.type "type")) (h4 : PySem.W.subIn K (.ref S) (.ref T) = some true) :
    PySem.W.exmOne K (.ref S) (.ref T) = some true := by
  unfold PySem.W.exmOne
  have h2' : (PySem.W.clsIn K T).isSome = true := h2
  rw [if_pos (by rw [h1]; rfl)]
  unfold PySem.W.kitCls
  first
    | (rw [if_pos (by rw [h2', h3]; rfl)]; exact h4)
    | (simp only [h3, h2', h4, beq_self_eq_true, Bool.and_self, if_true])
/-! the end -/
theorem all_mk {l : PySem.W.OpenLaw} {q : Program} {w : World} {K : PySem.W.Frag} {h : Heap} {mg : Str → Option Value} {fa f0 f1 f2 f3 f4 f5 f6 f7 f8 f9 f10 f11 f12 f13 f14 f15 f16 f17 f18 f19 : Addr} (X : K.In h) (G : h.Ns mainGlobals mg) (hfa : mg "law" = some (.ref fa)) (T : Told q mg h)
    {od0 an0 od1 an1 od2 an2 od3 an3 od4 an4 od5 an5 od6 an6 od7 an7 od8 an8 od9 an9 od10 an10 od11 an11 od12 an12 od13 an13 od14 an14 od15 an15 od16 an16 od17 an17 od18 an18 od19 an19 : Option Addr}
    {sl0 sl1 sl2 sl3 sl4 sl5 sl6 sl7 sl8 sl9 sl10 sl11 sl12 sl13 sl14 sl15 sl16 sl17 sl18 sl19 : Array (Option Value)} {oc0 kV0 dc0 pm0 ct0 oc1 kV1 dc1 pm1 ct1 oc2 kV2 dc2 pm2 ct2 oc3 kV3 dc3 pm3 ct3 oc4 kV4 dc4 pm4 ct4 oc5 kV5 dc5 pm5 ct5 oc6 kV6 dc6 pm6 ct6 oc7 kV7 dc7 pm7 ct7 oc8 kV8 dc8 pm8 ct8 oc9 kV9 dc9 pm9 ct9 oc10 kV10 dc10 pm10 ct10 oc11 kV11 dc11 pm11 ct11 oc12 kV12 dc12 pm12 ct12 oc13 kV13 dc13 pm13 ct13 oc14 kV14 dc14 pm14 ct14 oc15 kV15 dc15 pm15 ct15 oc16 kV16 dc16 pm16 ct16 oc17 kV17 dc17 pm17 ct17 oc18 kV18 dc18 pm18 ct18 oc19 kV19 dc19 pm19 ct19 : Value}
    {cd0 cd1 cd2 cd3 cd4 cd5 cd6 cd7 cd8 cd9 cd10 cd11 cd12 cd13 cd14 cd15 cd16 cd17 cd18 : Value} {c19 P19 : Addr} {dd19 : Option Addr} {e19 : Value} {v19 : Array Value} {sx19 : Array (Option Value)}
    {u0 u1 u2 u3 u4 u5 : Tok}
    (a0 : PySem.W.nsIn K mainGlobals "law" = some (some (.ref f0)))
    (l0 : K.lookup f0 = some ⟨oc0, od0, .func (PySem.W.fnOf "law" "law" (defArgs sLaw) (defBody sLaw) (defScope sLaw) .none kV0 dc0 pm0 an0 cd0 ct0), sl0⟩)
    (i0 : PySem.W.codeIn K cd0 "law" = true) (k0 : PySem.W.keepIn K (.ref f0) = true)
    (a1 : PySem.W.nsIn K mainGlobals "_law_pool" = some (some (.ref f1)))
    (l1 : K.lookup f1 = some ⟨oc1, od1, .func (PySem.W.fnOf "_law_pool" "_law_pool" (defArgs sPool) (defBody sPool) (defScope sPool) .none kV1 dc1 pm1 an1 cd1 ct1), sl1⟩)
    (i1 : PySem.W.codeIn K cd1 "_law_pool" = true) (k1 : PySem.W.keepIn K (.ref f1) = true)
    (a2 : PySem.W.nsIn K mainGlobals "_law_take" = some (some (.ref f2)))
    (l2 : K.lookup f2 = some ⟨oc2, od2, .func (PySem.W.fnOf "_law_take" "_law_take" (defArgs sTake) (defBody sTake) (defScope sTake) .none kV2 dc2 pm2 an2 cd2 ct2), sl2⟩)
    (i2 : PySem.W.codeIn K cd2 "_law_take" = true) (k2 : PySem.W.keepIn K (.ref f2) = true)
    (a3 : PySem.W.nsIn K mainGlobals "_law_kind" = some (some (.ref f3)))
    (l3 : K.lookup f3 = some ⟨oc3, od3, .func (PySem.W.fnOf "_law_kind" "_law_kind" (defArgs sKind) (defBody sKind) (defScope sKind) .none kV3 dc3 pm3 an3 cd3 ct3), sl3⟩)
    (i3 : PySem.W.codeIn K cd3 "_law_kind" = true) (k3 : PySem.W.keepIn K (.ref f3) = true)
    (a4 : PySem.W.nsIn K mainGlobals "_law_text" = some (some (.ref f4)))
    (l4 : K.lookup f4 = some ⟨oc4, od4, .func (PySem.W.fnOf "_law_text" "_law_text" (defArgs sText) (defBody sText) (defScope sText) .none kV4 dc4 pm4 an4 cd4 ct4), sl4⟩)
    (i4 : PySem.W.codeIn K cd4 "_law_text" = true) (k4 : PySem.W.keepIn K (.ref f4) = true)
    (a5 : PySem.W.nsIn K mainGlobals "_law_bent" = some (some (.ref f5)))
    (l5 : K.lookup f5 = some ⟨oc5, od5, .func (PySem.W.fnOf "_law_bent" "_law_bent" (defArgs sBent) (defBody sBent) (defScope sBent) .none kV5 dc5 pm5 an5 cd5 ct5), sl5⟩)
    (i5 : PySem.W.codeIn K cd5 "_law_bent" = true) (k5 : PySem.W.keepIn K (.ref f5) = true)
    (a6 : PySem.W.nsIn K mainGlobals "_law_from" = some (some (.ref f6)))
    (l6 : K.lookup f6 = some ⟨oc6, od6, .func (PySem.W.fnOf "_law_from" "_law_from" (defArgs sFrom) (defBody sFrom) (defScope sFrom) .none kV6 dc6 pm6 an6 cd6 ct6), sl6⟩)
    (i6 : PySem.W.codeIn K cd6 "_law_from" = true) (k6 : PySem.W.keepIn K (.ref f6) = true)
    (a7 : PySem.W.nsIn K mainGlobals "_law_due" = some (some (.ref f7)))
    (l7 : K.lookup f7 = some ⟨oc7, od7, .func (PySem.W.fnOf "_law_due" "_law_due" (defArgs sDue) (defBody sDue) (defScope sDue) .none kV7 dc7 pm7 an7 cd7 ct7), sl7⟩)
    (i7 : PySem.W.codeIn K cd7 "_law_due" = true) (k7 : PySem.W.keepIn K (.ref f7) = true)
    (a8 : PySem.W.nsIn K mainGlobals "_law_read" = some (some (.ref f8)))
    (l8 : K.lookup f8 = some ⟨oc8, od8, .func (PySem.W.fnOf "_law_read" "_law_read" (defArgs sRead) (defBody sRead) (defScope sRead) .none kV8 dc8 pm8 an8 cd8 ct8), sl8⟩)
    (i8 : PySem.W.codeIn K cd8 "_law_read" = true) (k8 : PySem.W.keepIn K (.ref f8) = true)
    (a9 : PySem.W.nsIn K mainGlobals "shown_kind" = some (some (.ref f9)))
    (l9 : K.lookup f9 = some ⟨oc9, od9, .func (PySem.W.fnOf "shown_kind" "shown_kind" (defArgs sShown) (defBody sShown) (defScope sShown) .none kV9 dc9 pm9 an9 cd9 ct9), sl9⟩)
    (i9 : PySem.W.codeIn K cd9 "shown_kind" = true) (k9 : PySem.W.keepIn K (.ref f9) = true)
    (a10 : PySem.W.nsIn K mainGlobals "pieces_of" = some (some (.ref f10)))
    (l10 : K.lookup f10 = some ⟨oc10, od10, .func (PySem.W.fnOf "pieces_of" "pieces_of" (defArgs sPieces) (defBody sPieces) (defScope sPieces) .none kV10 dc10 pm10 an10 cd10 ct10), sl10⟩)
    (i10 : PySem.W.codeIn K cd10 "pieces_of" = true) (k10 : PySem.W.keepIn K (.ref f10) = true)
    (a11 : PySem.W.nsIn K mainGlobals "read_kind" = some (some (.ref f11)))
    (l11 : K.lookup f11 = some ⟨oc11, od11, .func (PySem.W.fnOf "read_kind" "read_kind" (defArgs sReadK) (defBody sReadK) (defScope sReadK) .none kV11 dc11 pm11 an11 cd11 ct11), sl11⟩)
    (i11 : PySem.W.codeIn K cd11 "read_kind" = true) (k11 : PySem.W.keepIn K (.ref f11) = true)
    (a12 : PySem.W.nsIn K mainGlobals "kind_of_words" = some (some (.ref f12)))
    (l12 : K.lookup f12 = some ⟨oc12, od12, .func (PySem.W.fnOf "kind_of_words" "kind_of_words" (defArgs sKow) (defBody sKow) (defScope sKow) .none kV12 dc12 pm12 an12 cd12 ct12), sl12⟩)
    (i12 : PySem.W.codeIn K cd12 "kind_of_words" = true) (k12 : PySem.W.keepIn K (.ref f12) = true)
    (a13 : PySem.W.nsIn K mainGlobals "put_word" = some (some (.ref f13)))
    (l13 : K.lookup f13 = some ⟨oc13, od13, .func (PySem.W.fnOf "put_word" "put_word" (defArgs sPutW) (defBody sPutW) (defScope sPutW) .none kV13 dc13 pm13 an13 cd13 ct13), sl13⟩)
    (i13 : PySem.W.codeIn K cd13 "put_word" = true) (k13 : PySem.W.keepIn K (.ref f13) = true)
    (a14 : PySem.W.nsIn K mainGlobals "close_kind" = some (some (.ref f14)))
    (l14 : K.lookup f14 = some ⟨oc14, od14, .func (PySem.W.fnOf "close_kind" "close_kind" (defArgs sClose) (defBody sClose) (defScope sClose) .none kV14 dc14 pm14 an14 cd14 ct14), sl14⟩)
    (i14 : PySem.W.codeIn K cd14 "close_kind" = true) (k14 : PySem.W.keepIn K (.ref f14) = true)
    (a15 : PySem.W.nsIn K mainGlobals "shape_of" = some (some (.ref f15)))
    (l15 : K.lookup f15 = some ⟨oc15, od15, .func (PySem.W.fnOf "shape_of" "shape_of" (defArgs sShape) (defBody sShape) (defScope sShape) .none kV15 dc15 pm15 an15 cd15 ct15), sl15⟩)
    (i15 : PySem.W.codeIn K cd15 "shape_of" = true) (k15 : PySem.W.keepIn K (.ref f15) = true)
    (a16 : PySem.W.nsIn K mainGlobals "is_kind" = some (some (.ref f16)))
    (l16 : K.lookup f16 = some ⟨oc16, od16, .func (PySem.W.fnOf "is_kind" "is_kind" (defArgs sIsK) (defBody sIsK) (defScope sIsK) .none kV16 dc16 pm16 an16 cd16 ct16), sl16⟩)
    (i16 : PySem.W.codeIn K cd16 "is_kind" = true) (k16 : PySem.W.keepIn K (.ref f16) = true)
    (a17 : PySem.W.nsIn K mainGlobals "has_form" = some (some (.ref f17)))
    (l17 : K.lookup f17 = some ⟨oc17, od17, .func (PySem.W.fnOf "has_form" "has_form" (defArgs sForm) (defBody sForm) (defScope sForm) .none kV17 dc17 pm17 an17 cd17 ct17), sl17⟩)
    (i17 : PySem.W.codeIn K cd17 "has_form" = true) (k17 : PySem.W.keepIn K (.ref f17) = true)
    (a18 : PySem.W.nsIn K mainGlobals "kinds_in" = some (some (.ref f18)))
    (l18 : K.lookup f18 = some ⟨oc18, od18, .func (PySem.W.fnOf "kinds_in" "kinds_in" (defArgs sKin) (defBody sKin) (defScope sKin) .none kV18 dc18 pm18 an18 cd18 ct18), sl18⟩)
    (i18 : PySem.W.codeIn K cd18 "kinds_in" = true) (k18 : PySem.W.keepIn K (.ref f18) = true)
    (a19 : PySem.W.nsIn K mainGlobals "is_mark" = some (some (.ref f19)))
    (l19 : K.lookup f19 = some ⟨oc19, od19, .func (PySem.W.fnOf "is_mark" "is_mark" (defArgs sMark) (defBody sMark) (defScope sMark) .none kV19 dc19 pm19 an19 (.ref c19) ct19), sl19⟩)
    (i19 : PySem.W.codeIn K (.ref c19) "is_mark" = true) (k19 : PySem.W.keepIn K (.ref f19) = true)
    (r19 : ((PyProof.Rows.recsOf q).any fun e => e.name == ("is_mark" : Str)) = true) (d19 : K.lookup c19 = some ⟨e19, dd19, .fields v19, sx19⟩) (j19 : v19[11]? = some (.ref P19)) (n19 : K.lookup P19 = none)
    (y0 : PySem.W.nsIn K mainGlobals "LETTERS" = some (some (.str "abcdefghijklmnopqrstuvwxyz" u0)))
    (y1 : PySem.W.nsIn K mainGlobals "LONGEST" = some (some (.int 6 u1)))
    (y2 : PySem.W.nsIn K mainGlobals "MOST_LEAVES" = some (some (.int 24 u2)))
    (y3 : PySem.W.nsIn K mainGlobals "DEEPEST" = some (some (.int 12 u3)))
    (y4 : PySem.W.nsIn K mainGlobals "ARROW" = some (some (.str "->" u4)))
    (y5 : PySem.W.nsIn K mainGlobals "STAR" = some (some (.str "*" u5)))
    (z0 : PySem.W.nsIn K mainGlobals "len" = some none)
    (z1 : PySem.W.nsIn K mainGlobals "max" = some none)
    (z2 : PySem.W.nsIn K mainGlobals "min" = some none)
    (z3 : PySem.W.nsIn K mainGlobals "range" = some none)
    (z4 : PySem.W.nsIn K mainGlobals "list" = some none)
    (z5 : PySem.W.nsIn K mainGlobals "isinstance" = some none)
    (z6 : PySem.W.nsIn K mainGlobals "int" = some none)
    (z7 : PySem.W.nsIn K mainGlobals "tuple" = some none)
    (z8 : PySem.W.nsIn K mainGlobals "str" = some none)
    (z9 : PySem.W.nsIn K mainGlobals "all" = some none)
    (z10 : PySem.W.nsIn K mainGlobals "ValueError" = some none)
    {L C Er : Addr} {h1 h2 h3 h4 : Int} {t1 t2 t3 t4 v1 v2 v3 v4 : Tok} {nn : Nat} (aL : PySem.W.nsIn K mainGlobals "LENGTHS" = some (some (.ref L)))
    (lL : K.lookup L = some ⟨.type "dict", none, .dict #[⟨h1, .str "mark" t1, .int 2 v1⟩, ⟨h2, .str "one" t2, .int 1 v2⟩, ⟨h3, .str "to" t3, .int 3 v3⟩, ⟨h4, .str "both" t4, .int 3 v4⟩] nn, #[]⟩) (kL : PySem.W.KeysLit w.params [⟨h1, .str "mark" t1, .int 2 v1⟩, ⟨h2, .str "one" t2, .int 1 v2⟩, ⟨h3, .str "to" t3, .int 3 v3⟩, ⟨h4, .str "both" t4, .int 3 v4⟩]) (sL : (L == sysModules) = false)
    (aC : PySem.W.nsIn K mainGlobals "NoKind" = some (some (.ref C))) (xC : PySem.W.excIn K C [.type "ValueError", .type "Exception", .type "BaseException", .type "object"] "ValueError.__new__" = true) (kC : PySem.W.keepIn K (.ref C) = true) (bC : PySem.W.subIn K (.ref C) (.type "BaseException") = some true) (tC : PySem.W.typeIn K (.ref C) = some (.type "type"))
    (aE : PySem.W.nsIn K mainGlobals "KindError" = some (some (.ref Er))) (bE : PySem.W.subIn K (.ref Er) (.type "BaseException") = some true) (iE : PySem.W.isClsIn K Er = true) (tE : PySem.W.typeIn K (.ref Er) = some (.type "type")) (sE : PySem.W.subIn K (.ref C) (.ref Er) = some true)
    {K1 K2 K3 K4 K5 K6 K7 : Addr}
    (aK1 : PySem.W.nsIn K mainGlobals "NoText" = some (some (.ref K1)))
    (aK2 : PySem.W.nsIn K mainGlobals "NoFit" = some (some (.ref K2)))
    (aK3 : PySem.W.nsIn K mainGlobals "NoName" = some (some (.ref K3)))
    (aK4 : PySem.W.nsIn K mainGlobals "NoNumber" = some (some (.ref K4)))
    (aK5 : PySem.W.nsIn K mainGlobals "NoRow" = some (some (.ref K5)))
    (aK6 : PySem.W.nsIn K mainGlobals "TooLong" = some (some (.ref K6)))
    (aK7 : PySem.W.nsIn K mainGlobals "TooMany" = some (some (.ref K7)))
    (qg : PySem.W.findIn K (.ref C) "__getattribute__" = some (some (.builtin "BaseException.__getattribute__")))
    (qk : PySem.W.findIn K (.ref C) "__getattr__" = some none)
    (qd : PySem.W.hasDictIn K C = true)
    (qa : PySem.W.findIn K (.ref C) "__class__" = some (some (.builtin "object.__class__")))
    (qn : PySem.W.specialIn K (.builtin "object.__class__") "__get__" = some (some (.builtin "getset_descriptor.__get__")))
    (qt : PySem.W.takesIn K (.builtin "object.__class__") = some true)
    (qm : PySem.W.mroIn K C (.type "object") = some true)
    (iK1 : PySem.W.kitOne K (.ref C) (.ref C) = some true)
    (iK2 : PySem.W.kitOne K (.ref C) (.type "ValueError") = some true)
    (iK3 : PySem.W.kitAny K (.ref C) [.ref K1, .ref K2, .ref K3, .ref K4, .ref K5, .ref K6, .ref K7] = some false) :
    LamX.LawAtS l w K CX0 50 63 "_law_script" mg fa h := by
  have e := hfa.symm.trans (PySem.W.mg_of X G a0)
  cases e
  have F0 := fun_mk (st := sLaw) l0 i0 k0
  have F1 := fun_mk (st := sPool) l1 i1 k1
  have g1 := PySem.W.mg_of X G a1
  have b1 := (F1).binds (ps := ["_law_script", "_law_k"]) fun _ _ _ _ _ _ us hl => match us, hl with | [_, _], _ => rfl
  have F2 := fun_mk (st := sTake) l2 i2 k2
  have g2 := PySem.W.mg_of X G a2
  have b2 := (F2).binds (ps := ["_law_pool_here", "_law_many"]) fun _ _ _ _ _ _ us hl => match us, hl with | [_, _], _ => rfl
  have F3 := fun_mk (st := sKind) l3 i3 k3
  have g3 := PySem.W.mg_of X G a3
  have b3 := (F3).binds (ps := ["_law_pool_here", "_law_leaves", "_law_marks"]) fun _ _ _ _ _ _ us hl => match us, hl with | [_, _, _], _ => rfl
  have F4 := fun_mk (st := sText) l4 i4 k4
  have g4 := PySem.W.mg_of X G a4
  have b4 := (F4).binds (ps := ["_law_kind_here"]) fun _ _ _ _ _ _ us hl => match us, hl with | [_], _ => rfl
  have F5 := fun_mk (st := sBent) l5 i5 k5
  have g5 := PySem.W.mg_of X G a5
  have b5 := (F5).binds (ps := ["_law_pool_here", "_law_text_here"]) fun _ _ _ _ _ _ us hl => match us, hl with | [_, _], _ => rfl
  have F6 := fun_mk (st := sFrom) l6 i6 k6
  have g6 := PySem.W.mg_of X G a6
  have b6 := (F6).binds (ps := ["_law_words", "_law_at"]) fun _ _ _ _ _ _ us hl => match us, hl with | [_, _], _ => rfl
  have F7 := fun_mk (st := sDue) l7 i7 k7
  have g7 := PySem.W.mg_of X G a7
  have b7 := (F7).binds (ps := ["_law_text_here"]) fun _ _ _ _ _ _ us hl => match us, hl with | [_], _ => rfl
  have F8 := fun_mk (st := sRead) l8 i8 k8
  have g8 := PySem.W.mg_of X G a8
  have b8 := (F8).binds (ps := ["_law_text_here"]) fun _ _ _ _ _ _ us hl => match us, hl with | [_], _ => rfl
  have F9 := fun_mk (st := sShown) l9 i9 k9
  have g9 := PySem.W.mg_of X G a9
  have b9 := (F9).binds (ps := ["kind"]) fun _ _ _ _ _ _ us hl => match us, hl with | [_], _ => rfl
  have F10 := fun_mk (st := sPieces) l10 i10 k10
  have g10 := PySem.W.mg_of X G a10
  have b10 := (F10).binds (ps := ["kind"]) fun _ _ _ _ _ _ us hl => match us, hl with | [_], _ => rfl
  have F11 := fun_mk (st := sReadK) l11 i11 k11
  have g11 := PySem.W.mg_of X G a11
  have b11 := (F11).binds (ps := ["text"]) fun _ _ _ _ _ _ us hl => match us, hl with | [_], _ => rfl
  have F12 := fun_mk (st := sKow) l12 i12 k12
  have g12 := PySem.W.mg_of X G a12
  have b12 := (F12).binds (ps := ["words"]) fun _ _ _ _ _ _ us hl => match us, hl with | [_], _ => rfl
  have F13 := fun_mk (st := sPutW) l13 i13 k13
  have g13 := PySem.W.mg_of X G a13
  have b13 := (F13).binds (ps := ["stack", "word"]) fun _ _ _ _ _ _ us hl => match us, hl with | [_, _], _ => rfl
  have F14 := fun_mk (st := sClose) l14 i14 k14
  have g14 := PySem.W.mg_of X G a14
  have b14 := (F14).binds (ps := ["stack"]) fun _ _ _ _ _ _ us hl => match us, hl with | [_], _ => rfl
  have F15 := fun_mk (st := sShape) l15 i15 k15
  have g15 := PySem.W.mg_of X G a15
  have b15 := (F15).binds (ps := ["items"]) fun _ _ _ _ _ _ us hl => match us, hl with | [_], _ => rfl
  have F16 := fun_mk (st := sIsK) l16 i16 k16
  have g16 := PySem.W.mg_of X G a16
  have b16 := (F16).binds (ps := ["thing"]) fun _ _ _ _ _ _ us hl => match us, hl with | [_], _ => rfl
  have F17 := fun_mk (st := sForm) l17 i17 k17
  have g17 := PySem.W.mg_of X G a17
  have b17 := (F17).binds (ps := ["thing"]) fun _ _ _ _ _ _ us hl => match us, hl with | [_], _ => rfl
  have F18 := fun_mk (st := sKin) l18 i18 k18
  have g18 := PySem.W.mg_of X G a18
  have b18 := (F18).binds (ps := ["kind"]) fun _ _ _ _ _ _ us hl => match us, hl with | [_], _ => rfl
  have F19 : FunC K "is_mark" "is_mark" sMark f19 _ c19 := ⟨⟨_, _, _, _, _, _, _, _, rfl, l19, i19⟩, k19⟩
  have g19 := PySem.W.mg_of X G a19
  have T19 := T.tab X r19 g19 l19 rfl d19 j19
  have b19 := (F19.fun).binds (ps := ["text"]) fun _ _ _ _ _ _ us hl => match us, hl with | [_], _ => rfl
  have x0 := PySem.W.mg_of X G y0
  have x1 := PySem.W.mg_of X G y1
  have x2 := PySem.W.mg_of X G y2
  have x3 := PySem.W.mg_of X G y3
  have x4 := PySem.W.mg_of X G y4
  have x5 := PySem.W.mg_of X G y5
  have m0 := PySem.W.mg_none_of X G z0
  have m1 := PySem.W.mg_none_of X G z1
  have m2 := PySem.W.mg_none_of X G z2
  have m3 := PySem.W.mg_none_of X G z3
  have m4 := PySem.W.mg_none_of X G z4
  have m5 := PySem.W.mg_none_of X G z5
  have m6 := PySem.W.mg_none_of X G z6
  have m7 := PySem.W.mg_none_of X G z7
  have m8 := PySem.W.mg_none_of X G z8
  have m9 := PySem.W.mg_none_of X G z9
  have m10 := PySem.W.mg_none_of X G z10
  have xL := PySem.W.mg_of X G aL
  have gC := PySem.W.mg_of X G aC
  have gE := PySem.W.mg_of X G aE
  have te := exm_under bE iE tE sE
  have gK1 := PySem.W.mg_of X G aK1
  have gK2 := PySem.W.mg_of X G aK2
  have gK3 := PySem.W.mg_of X G aK3
  have gK4 := PySem.W.mg_of X G aK4
  have gK5 := PySem.W.mg_of X G aK5
  have gK6 := PySem.W.mg_of X G aK6
  have gK7 := PySem.W.mg_of X G aK7
  refine ⟨PySem.W.fnOf "law" "law" (defArgs sLaw) (defBody sLaw) (defScope sLaw) .none kV0 dc0 pm0 an0 cd0 ct0, [(c19, P19)], spLaw K P19, ?_, ?_, ?_, fun s v => .of_eq rfl, fun H a ns hl _ hT hS => ⟨a, ns, rfl, hS, hl, ⟨#[], hT (c19, P19) (by simp), by trivial⟩, fun _ => rfl⟩, fun base _ _ hB => by
    have TB := tb_conv (hB (c19, P19) (by simp))
    have D : KDict _ _ _ _ _ := ⟨lL, kL, sL⟩
    have GP := ok_pool (P := l.prog) (w := w) (mg := mg) (base := base) F1 m0
    have GT := ok_take (P := l.prog) (w := w) (mg := mg) (base := base) F2
    have GK := ok_kind (P := l.prog) (w := w) (base := base) F3 b3 g3 F2 b2 g2 m0 27
    have GX := ok_text (P := l.prog) (w := w) (base := base) F4 b4 g4 m0 m6 28
    have GB := ok_bent (P := l.prog) (w := w) (base := base) F5 GT F2.kp b2 g2 m0
    have GH := ok_from (P := l.prog) (w := w) (base := base) F6 b6 g6 m0 m6 m1 46
    have GD := ok_due F7 GH F6.kp b6 g6 m0
    have GV := ok_pieces (P := l.prog) (w := w) (base := base) F10 x4 x5
    have GN := ok_shown F9 GV F10.kp b10 g10 m5 m8
    have GM := ok_mark (P := l.prog) (w := w) F19 TB m5 m8 m0 m9 x0 x1
    have GF := ok_form F17 GM F19.kp b19 g19 D xL (fun z => let ⟨r, a, b, _⟩ := len_look lL z; ⟨r, a, b⟩) m5 m8 m0 m7
    have GI := ok_kin (P := l.prog) (w := w) (base := base) (P1 := P19) F18 m4
    have GIs := ok_isK F16 GF F17.kp b17 g17 GI F18.kp b18 g18 x3 x2
    have GS := ok_shape (P := l.prog) (w := w) (base := base) F15 D xL (fun z => let ⟨r, a, _, b⟩ := len_look lL z; ⟨r, a, b⟩)
    have GC := ok_close F14 GS F15.kp b15 g15 x4 x5
    have GW := ok_putw F13 GM F19.kp b19 g19 GC F14.kp b14 g14 x4 x5
    have GO := ok_kow F12 GW F13.kp b13 g13 GS F15.kp b15 g15 GIs F16.kp b16 g16
    have GR := ok_readK F11 GO F12.kp b12 g12 gC xC kC bC tC
    have GE := ok_read F8 GR F11.kp b11 g11 gE te ⟨qg, qk, bC, qd, qa, qn, qt, qm⟩ gC m5 m10 gK1 gK2 gK3 gK4 gK5 gK6 gK7 iK1 iK2 iK3
    exact ok_law F0 GP F1.kp b1 g1 GT F2.kp b2 g2 GK F3.kp b3 g3 GX F4.kp b4 g4 GB F5.kp b5 g5 GD F7.kp b7 g7 GE F8.kp b8 g8 GN F9.kp b9 g9 GR F11.kp b11 g11 m0 m1 m2 m3 m6⟩
  · exact fun p hp => by
      obtain rfl := List.mem_singleton.mp hp
      exact T19.2
  · exact fun p hp => by
      obtain rfl := List.mem_singleton.mp hp
      exact n19
  · exact fun p hp => by
      obtain rfl := List.mem_singleton.mp hp
      exact T19.1
end Kf
open PySem PySem.W PyProof.Rows
set_option maxRecDepth 100000 in
set_option maxHeartbeats 0 in
theorem PySem.Challenge.cw_kindfill_k05_kind_texts_holds : PySem.Challenge.rw_kindfill_k05_kind_texts.Holds := by
  w_on; o_law; k_head; (case hw => w_witness2)
  k_fill
  refine Kf.walk_tabs (l := PySem.Challenge.rw_kindfill_k05_kind_texts) (n := 63) (k := 50) (CX := fun _ => L2.CX0) (x := "_law_script") rfl (by decide) rfl ⟨rfl, by decide, by decide⟩ (fun w h Y => PySem.W.kIn_of Y) ?F (fun _ _ _ _ _ z => z)
  case F =>
    intro w mg fa h KX G hmg T
    refine' Kf.all_mk KX G hmg T ?a0 ?l0 ?i0 ?k0 ?a1 ?l1 ?i1 ?k1 ?a2 ?l2 ?i2 ?k2 ?a3 ?l3 ?i3 ?k3 ?a4 ?l4 ?i4 ?k4 ?a5 ?l5 ?i5 ?k5 ?a6 ?l6 ?i6 ?k6 ?a7 ?l7 ?i7 ?k7 ?a8 ?l8 ?i8 ?k8 ?a9 ?l9 ?i9 ?k9 ?a10 ?l10 ?i10 ?k10 ?a11 ?l11 ?i11 ?k11 ?a12 ?l12 ?i12 ?k12 ?a13 ?l13 ?i13 ?k13 ?a14 ?l14 ?i14 ?k14 ?a15 ?l15 ?i15 ?k15 ?a16 ?l16 ?i16 ?k16 ?a17 ?l17 ?i17 ?k17 ?a18 ?l18 ?i18 ?k18 ?a19 ?l19 ?i19 ?k19 ?r19 ?d19 ?j19 ?n19 ?y0 ?y1 ?y2 ?y3 ?y4 ?y5 ?z0 ?z1 ?z2 ?z3 ?z4 ?z5 ?z6 ?z7 ?z8 ?z9 ?z10 ?aL ?lL ?kL ?sL ?aC ?xC ?kC ?bC ?tC ?aE ?bE ?iE ?tE ?sE ?aK1 ?aK2 ?aK3 ?aK4 ?aK5 ?aK6 ?aK7 ?qg ?qk ?qd ?qa ?qn ?qt ?qm ?iK1 ?iK2 ?iK3
    (case a0 => k_is)
    (case l0 => k_is)
    (case i0 => k_is)
    (case k0 => k_is)
    (case a1 => k_is)
    (case l1 => k_is)
    (case i1 => k_is)
    (case k1 => k_is)
    (case a2 => k_is)
    (case l2 => k_is)
    (case i2 => k_is)
    (case k2 => k_is)
    (case a3 => k_is)
    (case l3 => k_is)
    (case i3 => k_is)
    (case k3 => k_is)
    (case a4 => k_is)
    (case l4 => k_is)
    (case i4 => k_is)
    (case k4 => k_is)
    (case a5 => k_is)
    (case l5 => k_is)
    (case i5 => k_is)
    (case k5 => k_is)
    (case a6 => k_is)
    (case l6 => k_is)
    (case i6 => k_is)
    (case k6 => k_is)
    (case a7 => k_is)
    (case l7 => k_is)
    (case i7 => k_is)
    (case k7 => k_is)
    (case a8 => k_is)
    (case l8 => k_is)
    (case i8 => k_is)
    (case k8 => k_is)
    (case a9 => k_is)
    (case l9 => k_is)
    (case i9 => k_is)
    (case k9 => k_is)
    (case a10 => k_is)
    (case l10 => k_is)
    (case i10 => k_is)
    (case k10 => k_is)
    (case a11 => k_is)
    (case l11 => k_is)
    (case i11 => k_is)
    (case k11 => k_is)
    (case a12 => k_is)
    (case l12 => k_is)
    (case i12 => k_is)
    (case k12 => k_is)
    (case a13 => k_is)
    (case l13 => k_is)
    (case i13 => k_is)
    (case k13 => k_is)
    (case a14 => k_is)
    (case l14 => k_is)
    (case i14 => k_is)
    (case k14 => k_is)
    (case a15 => k_is)
    (case l15 => k_is)
    (case i15 => k_is)
    (case k15 => k_is)
    (case a16 => k_is)
    (case l16 => k_is)
    (case i16 => k_is)
    (case k16 => k_is)
    (case a17 => k_is)
    (case l17 => k_is)
    (case i17 => k_is)
    (case k17 => k_is)
    (case a18 => k_is)
    (case l18 => k_is)
    (case i18 => k_is)
    (case k18 => k_is)
    (case a19 => k_is)
    (case l19 => k_is)
    (case i19 => k_is)
    (case k19 => k_is)
    (case r19 => first | decide +kernel | kernel_rfl)
    (case d19 => k_is)
    (case j19 => exact rfl)
    (case n19 => first | exact rfl | kernel_rfl | decide +kernel)
    (case y0 => k_is)
    (case y1 => k_is)
    (case y2 => k_is)
    (case y3 => k_is)
    (case y4 => k_is)
    (case y5 => k_is)
    (case z0 => k_is)
    (case z1 => k_is)
    (case z2 => k_is)
    (case z3 => k_is)
    (case z4 => k_is)
    (case z5 => k_is)
    (case z6 => k_is)
    (case z7 => k_is)
    (case z8 => k_is)
    (case z9 => k_is)
    (case z10 => k_is)
    (case aL => k_is)
    (case lL => k_is)
    (case kL => exact ⟨⟨_, _, rfl, rfl⟩, ⟨_, _, rfl, rfl⟩, ⟨_, _, rfl, rfl⟩, ⟨_, _, rfl, rfl⟩, trivial⟩)
    (case sL => first | rfl | decide)
    (case aC => k_is)
    (case xC => first | k_exc | k_is)
    (case kC => k_is)
    (case bC => k_is)
    (case tC => k_is)
    (case aE => k_is)
    (case bE => k_is)
    (case iE => k_is)
    (case tE => k_is)
    (case sE => first | k_is | rfl)
    (case aK1 => first | k_is | decide +kernel | rfl)
    (case aK2 => first | k_is | decide +kernel | rfl)
    (case aK3 => first | k_is | decide +kernel | rfl)
    (case aK4 => first | k_is | decide +kernel | rfl)
    (case aK5 => first | k_is | decide +kernel | rfl)
    (case aK6 => first | k_is | decide +kernel | rfl)
    (case aK7 => first | k_is | decide +kernel | rfl)
    (case qg => first | k_is | decide +kernel | rfl)
    (case qk => first | k_is | decide +kernel | rfl)
    (case qd => first | k_is | decide +kernel | rfl)
    (case qa => first | k_is | decide +kernel | rfl)
    (case qn => first | k_is | decide +kernel | rfl)
    (case qt => first | k_is | decide +kernel | rfl)
    (case qm => first | k_is | decide +kernel | rfl)
    (case iK1 => first | k_is | decide +kernel | rfl)
    (case iK2 => first | k_is | decide +kernel | rfl)
    (case iK3 => first | k_is | decide +kernel | rfl)
