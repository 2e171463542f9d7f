import PyProof.Rows.All
import Wide.All
import OpenK.AllK
import Wide.FinOn
import HandS.ForMost
import HandS.IsInst
import HandS.Flow
import HandS.Style
import HandS.Text
import HandS.AnyAll
import HandS.EndTab
import HandS.More
import HandS.Walk
import HandS.Codes
import HandS.NoneIn
import HandS.ExcValue
import HandS.ExcInit
import HandS.ExcField
import HandS.ExcIs
import KE.KExcIs
import PySem.Challenge.RW_kindfill_k13_refusals
set_option Elab.async false
set_option maxRecDepth 100000
namespace Kf
open PySem L2
def top (i : Nat) : Stmt := PySem.Challenge.pw_kindfill_k13_refusals.main.body.getD i (.Pass ⟨0, 0, 0, 0⟩)
def inner (i : Nat) : Stmt := match top i with
  | .ClassDef (body := b) .. => b.getD 0 (.Pass ⟨0, 0, 0, 0⟩)
  | _ => .Pass ⟨0, 0, 0, 0⟩
abbrev sFitI : Stmt := inner 4
abbrev sMakI : Stmt := inner 9
abbrev sPool : Stmt := top 19
abbrev sTake : Stmt := top 20
abbrev sMade : Stmt := top 21
abbrev sKinds : Stmt := top 22
abbrev sLaw : Stmt := top 23
/-- a pool at p: what is left of the cell, and a number -/
def PoolAt (H : Hp) (p : Addr) : Prop := ∃ c n : Int, H p = some (.lst [.int c, .int n]) ∧ 0 ≤ n ∧ n < 2147483647
def spTake : Sp := fun vs H Q _ => ∃ (p : Addr) (m : Int), vs = [.ref p, .int m] ∧ PoolAt H p ∧ 0 < m ∧ m < 1073741824 ∧
  ∀ (r : Int) (H' : Hp), 0 ≤ r → r < m → PoolAt H' p → (∀ b, b ≠ p → H' b = H b) → Q (.int r) H'
def spPool (K : PySem.W.Frag) : Sp := fun vs H Q _ => ∃ (a : Addr) (ns : List Int) (k : Nat), vs = [.ref a, .int (k : Int)] ∧ SqL K H a (ns.map V.int) ∧ ns.length ≤ 63 ∧ k ≤ 63 ∧
  ∀ (p : Addr) (H' : Hp), H p = none → PoolAt H' p → (∀ b, b ≠ p → H' b = H b) → Q (.ref p) H'
theorem nm_nat {x m : Int} (hm : 0 < m) : 0 ≤ x.fmod m ∧ x.fmod m < m := ⟨Int.fmod_nonneg_of_pos x hm, Int.fmod_lt_of_pos x hm⟩
section
variable {P : Program} {w : World} {K : PySem.W.Frag} {mg : Str → Option Value} {base : Heap}
theorem scTake : FnScope ["_law_pool_here", "_law_many", "_law_found"] ["_law_pool_here", "_law_many"] (defScope sTake) := ⟨rfl, rfl, rfl, by decide +kernel, rfl, by decide +kernel, by decide +kernel⟩
theorem ok_take {f : Addr} {fd : FuncData} (F : Fun K "_law_take" "_law_take" sTake f fd) : FnOk P w K mg base CX0 1 f fd ["_law_pool_here", "_law_many"] spTake := by
  refine F.ok scTake (fun vs H Q E h => ?_) (fun cdv A outer s H vs Q E hr h => ?_)
  · obtain ⟨p, m, rfl, _⟩ := h
    rfl
  · obtain ⟨p, m, rfl, ⟨c, n, hp, hn0, hn1⟩, hm0, hm1, k⟩ := h
    refine ⟨_, pss_cons (ps_if (pt_cmpR op_gt (pe_ix ix_list (pv 0) pe_int (fun _ _ => rfl)) pe_int (nomark _))
        (pss_cons (ps_set (i := 2) scTake.nd rfl (Or.inl rfl) (pe_op op_modN (pe_ix ix_list (pv 0) pe_int (fun _ _ => rfl)) (pv 1)))
        (pss_cons (ps_asg (pe_op op_fdivN (pe_ix ix_list (pv 0) pe_int (fun _ _ => rfl)) (pv 1)) (pg_sub (pv 0) pe_int set_list))
        (pss_one (ps_ret (pv 2))))) pss_nil)
      (pss_cons (ps_asg (pe_op op_modN (pe_op op_add (pe_op op_mul (pe_ix ix_list (pv 0) pe_int (fun _ _ => rfl)) pe_int) pe_int) pe_int) (pg_sub (pv 0) pe_int set_list))
      (pss_one (ps_ret (pe_op op_modN (pe_op op_fdivN (pe_op op_modN (pe_op op_mul (pe_ix ix_list (pv 0) pe_int (fun _ _ => rfl)) (pe_ix ix_list (pv 0) pe_int (fun _ _ => rfl))) pe_int) pe_int) (pv 1))))), ?_⟩
    refine ⟨_, rfl, p, _, _, _, rfl, rfl, SqL.of hp, atI_nat (j := 0) rfl, _, _, rfl, rfl, _, rfl, ?_⟩
    have M := nm_nat (x := c) hm0
    refine ite2 (fun _ => ?_) (fun _ => ?_)
    · refine ⟨_, rfl, p, _, _, _, rfl, rfl, SqL.of hp, atI_nat (j := 0) rfl, _, rfl, _, _, rfl, rfl, by omega, ?_⟩
      refine ⟨_, rfl, p, _, _, _, rfl, rfl, SqL.of hp, atI_nat (j := 0) rfl, _, rfl, _, _, rfl, rfl, ⟨by omega, by omega⟩, ?_⟩
      refine ⟨_, rfl, p, _, _, 0, rfl, rfl, hp, rfl, ?_⟩
      refine ⟨_, rfl, ?_⟩
      exact k _ _ M.1 M.2 ⟨_, _, upd_same, hn0, hn1⟩ fun b hb => upd_ne hb
    · have N0 := nm_nat (x := n * 48271 + 11) (m := 2147483647) (by decide)
      refine ⟨_, rfl, p, _, _, _, rfl, rfl, SqL.of hp, atI_nat (j := 1) rfl, _, _, rfl, rfl, .inl ⟨by omega, by omega⟩, _, _, rfl, rfl, _, _, rfl, rfl, (by show (2147483647 : Int) ≠ 0; decide), ?_⟩
      refine ⟨_, rfl, p, _, _, 1, rfl, rfl, hp, rfl, ?_⟩
      have N1 := nm_nat (x := (n * 48271 + 11).fmod 2147483647 * (n * 48271 + 11).fmod 2147483647) (m := 2147483629) (by decide)
      refine ⟨_, rfl, p, _, _, _, rfl, rfl, SqL.of upd_same, atI_nat (j := 1) rfl, _, rfl, p, _, _, _, rfl, rfl, SqL.of upd_same, atI_nat (j := 1) rfl, _, _, rfl, rfl, .inl ⟨by omega, by omega⟩, ?_⟩
      refine ⟨_, _, rfl, rfl, (by show (2147483629 : Int) ≠ 0; decide), _, _, rfl, rfl, ⟨by decide, by decide⟩, _, rfl, _, _, rfl, rfl, by omega, ?_⟩
      exact k _ _ (nm_nat hm0).1 (nm_nat hm0).2 ⟨_, _, upd_same, N0.1, N0.2⟩ fun b hb => upd_ne hb
theorem scPool : FnScope ["_law_script", "_law_k", "_law_cell", "_law_number"] ["_law_script", "_law_k"] (defScope sPool) := ⟨rfl, rfl, rfl, by decide +kernel, rfl, by decide +kernel, by decide +kernel⟩
theorem ok_pool {f : Addr} {fd : FuncData} (F : Fun K "_law_pool" "_law_pool" sPool f fd) (mLen : mg "len" = none) : FnOk P w K mg base CX0 1 f fd ["_law_script", "_law_k"] (spPool K) := by
  refine F.ok scPool (fun vs H Q E h => ?_) (fun cdv A outer s H vs Q E hr h => ?_)
  · obtain ⟨a, ns, j, rfl, _⟩ := h
    rfl
  · obtain ⟨a, ns, j, rfl, hS, hl, hj, k⟩ := h
    refine ⟨_, pss_cons (ps_set (i := 2) scPool.nd rfl (Or.inl rfl) pe_int)
      (pss_cons (ps_if (pt_cmpR op_lt (pv 1) (pe_callB call_len_seq (by rfl) mLen PySem.boot_len (pa_cons (pv 0) pa_nil)) (nomark _))
        (pss_one (ps_set (i := 2) scPool.nd rfl (Or.inl rfl) (pe_ix ix_list (pv 0) (pv 1) (fun _ _ => rfl)))) pss_nil)
      (pss_cons (ps_set (i := 3) scPool.nd rfl (Or.inl rfl) (pe_op op_modN (pe_op op_pow (pe_op op_add (pe_op op_add (pe_op op_modN (pv 2) pe_int) (pe_op op_mul (pe_op op_mul pe_int (pv 1)) (pv 1))) pe_int) pe_int) pe_int))
      (pss_cons (ps_if (pt_cmpR op_lt (pv 2) (pe_op op_pow pe_int pe_int) (nomark _))
        (pss_one (ps_set (i := 2) scPool.nd rfl (Or.inl rfl) pe_int)) pss_nil)
      (pss_one (ps_ret (pe_lst (pa_cons (pv 2) (pa_cons (pv 3) pa_nil)))))))), ?_⟩
    have B : ∀ c : Int, 0 ≤ (c.fmod 2147483629 + 104729 * (j : Int) * (j : Int) + 11) ∧ (c.fmod 2147483629 + 104729 * (j : Int) * (j : Int) + 11) < 2 ^ 33 := fun c => by
      have M := nm_nat (x := c) (m := 2147483629) (by decide)
      have hj2 : (j : Int) * (j : Int) ≤ 63 * 63 := Int.mul_le_mul (by omega) (by omega) (by omega) (by omega)
      have hj0 : 0 ≤ (j : Int) * (j : Int) := Int.mul_nonneg (by omega) (by omega)
      have e : 104729 * (j : Int) * (j : Int) = 104729 * ((j : Int) * (j : Int)) := Int.mul_assoc _ _ _
      omega
    refine ⟨_, rfl, _, rfl, a, _, rfl, .inl hS, _, _, rfl, rfl, _, rfl, ?_⟩
    refine ite2 (fun hlt => ?_) (fun _ => ?_)
    · have hj' : j < ns.length := by simpa using hlt
      refine ⟨_, rfl, _, rfl, a, _, _, _, rfl, rfl, hS, atI_nat (j := j) (v := .int ns[j]) (by simp [hj']), ?_⟩
      generalize ns[j] = c
      have N := nm_nat (x := (c.fmod 2147483629 + 104729 * (j : Int) * (j : Int) + 11) ^ 3) (m := 2147483647) (by decide)
      have Bc := B c
      refine ⟨_, rfl, _, _, rfl, rfl, (by show (2147483629 : Int) ≠ 0; decide), _, rfl, _, _, rfl, rfl, .inl ⟨by decide, by decide⟩, _, rfl, _, _, rfl, rfl, .inl ⟨by omega, by omega⟩, ?_⟩
      refine ⟨_, _, rfl, rfl, _, _, rfl, rfl, _, _, rfl, rfl, ⟨by decide, by decide, by omega⟩, _, _, rfl, rfl, (by show (2147483647 : Int) ≠ 0; decide), ?_⟩
      refine ⟨_, rfl, _, _, rfl, rfl, ⟨by decide, by decide, by decide⟩, _, _, rfl, rfl, _, rfl, ?_⟩
      refine ite2 (fun _ => ?_) (fun _ => ?_)
      · exact ⟨_, rfl, _, rfl, (by show 2 ≤ sizeLine; decide), fun p hp => k _ _ hp ⟨_, _, upd_same, N.1, N.2⟩ fun b hb => upd_ne hb⟩
      · exact ⟨_, rfl, _, rfl, (by show 2 ≤ sizeLine; decide), fun p hp => k _ _ hp ⟨_, _, upd_same, N.1, N.2⟩ fun b hb => upd_ne hb⟩
    · have N := nm_nat (x := ((0 : Int).fmod 2147483629 + 104729 * (j : Int) * (j : Int) + 11) ^ 3) (m := 2147483647) (by decide)
      have Bc := B 0
      refine ⟨_, rfl, _, _, rfl, rfl, (by show (2147483629 : Int) ≠ 0; decide), _, rfl, _, _, rfl, rfl, .inl ⟨by decide, by decide⟩, _, rfl, _, _, rfl, rfl, .inl ⟨by omega, by omega⟩, ?_⟩
      refine ⟨_, _, rfl, rfl, _, _, rfl, rfl, _, _, rfl, rfl, ⟨by decide, by decide, by omega⟩, _, _, rfl, rfl, (by show (2147483647 : Int) ≠ 0; decide), ?_⟩
      refine ⟨_, rfl, _, _, rfl, rfl, ⟨by decide, by decide, by decide⟩, _, _, rfl, rfl, _, rfl, ?_⟩
      refine ite2 (fun _ => ?_) (fun _ => ?_)
      · exact ⟨_, rfl, _, rfl, (by show 2 ≤ sizeLine; decide), fun p hp => k _ _ hp ⟨_, _, upd_same, N.1, N.2⟩ fun b hb => upd_ne hb⟩
      · exact ⟨_, rfl, _, rfl, (by show 2 ≤ sizeLine; decide), fun p hp => k _ _ hp ⟨_, _, upd_same, N.1, N.2⟩ fun b hb => upd_ne hb⟩
end
theorem at_any {α : Type} {xs : List α} {r : Int} (h0 : 0 ≤ r) (h1 : r < xs.length) : ∃ v, atI xs r = some v ∧ v ∈ xs := by
  obtain ⟨n, rfl⟩ : ∃ n : Nat, r = n := ⟨r.toNat, by omega⟩
  have hn : n < xs.length := by omega
  exact ⟨xs[n], atI_nat (by simp [hn]), by simp⟩
theorem PoolAt.upd {H : Hp} {p l : Addr} {o : HO} (h : PoolAt H p) (hl : H l = none) : PoolAt (upd H l o) p := by
  obtain ⟨c, n, e, h0, h1⟩ := h
  exact ⟨c, n, by rw [upd_ne (ne_of_none e hl)]; exact e, h0, h1⟩
theorem PoolAt.ne {H : Hp} {p l : Addr} (h : PoolAt H p) (hl : H l = none) : l ≠ p := by
  obtain ⟨c, n, e, h0, h1⟩ := h
  exact (ne_of_none e hl).symm
theorem kept_upd {H H1 : Hp} {p l : Addr} {o : HO} (k : ∀ b u, b ≠ p → H b = some u → H1 b = some u) (hl : H1 l = none) : ∀ b u, b ≠ p → H b = some u → (upd H1 l o) b = some u := fun b u hb e => by
  rw [upd_ne (ne_of_none (k b u hb e) hl)]
  exact k b u hb e
theorem kept_eq {H H1 H2 : Hp} {p : Addr} (k : ∀ b u, b ≠ p → H b = some u → H1 b = some u) (e2 : ∀ b, b ≠ p → H2 b = H1 b) : ∀ b u, b ≠ p → H b = some u → H2 b = some u := fun b u hb e => (e2 b hb).trans (k b u hb e)
theorem small40 {n : Nat} (h : n ≤ 1000) : n ≤ sizeLine := Nat.le_trans h (by decide)


/-! refusals as values -/
section
open PySem PySem.Spec PyProof.Rows
/-- a refusal of the class D stands at a: without a dict of its own, or with one -/
def ErrAt (H : Hp) (a D : Addr) : Prop := H a = some (ExO (.ref D) a) ∨ ∃ d fs, H a = some (exo a D (some d)) ∧ H d = some (exd d fs)
variable {X : Cx} {pins : List (Addr × Obj)} {σ : L2.St} {H : Hp} {s : Shared}
theorem err_inst {a D : Addr} (I : Inv X pins σ H s) (h : ErrAt H a D) : ∃ oe od, PySem.W.InstAt s.heap a oe D od := by
  rcases h with h | ⟨d, fs, h, hd⟩
  · obtain ⟨⟨oe, vs, g, hz, hv, _⟩, _, _⟩ := I.hok a _ h
    obtain ⟨oc, od, oda, osl⟩ := oe
    obtain ⟨h1, h2⟩ := hz
    dsimp only at h1 h2 hv
    subst h1 h2 hv
    exact ⟨_, none, g, rfl, rfl, trivial⟩
  · obtain ⟨t1, g⟩ := exo_at I.hok h
    obtain ⟨mA, n, _⟩ := exd_at I.hok hd
    obtain ⟨od, g2, _⟩ := lookIn_ns n
    exact ⟨_, some od, g, rfl, rfl, g2⟩
/-- isinstance(e, c), e a refusal that is held as a value -/
def rIsR (K : PySem.W.Frag) : List V → Hp → VK → Prop := fun xs H Q => ∃ (a D : Addr) (c : V) (cv : Value) (b : Bool), xs = [.ref a, c] ∧ ErrAt H a D ∧ ExcC K D ∧ (∀ u, RelV c u → u = cv) ∧ PySem.W.kitOne K (.ref D) cv = some b ∧ Q (.bl b) H
theorem call_isR : CallR X (.builtin "isinstance") (rIsR X.K) := by
  intro pins s σ H xs us Q I r h
  obtain ⟨a, D, c, cv, b, rfl, ha, C, hc, e, q⟩ := h
  cases r with
  | cons rx rr =>
    cases rr with
    | cons rt rr =>
      cases rr
      cases rx
      have e2 := hc _ rt
      subst e2
      obtain ⟨oe, od, J⟩ := err_inst I ha
      obtain ⟨cd, hcd, _⟩ := PySem.W.any_some C.hd
      exact PySem.W.kia_one (PySem.W.kitx_exc (od := od) (by rw [hcd]; rfl) C.hg C.hk C.hs C.ha C.hn C.ht C.hm) I.kIn J e (fun z => nomatch z) fun tk => ⟨.bl b, H, I.tok tk, rfl, q⟩
/-- e.f, e a refusal that is held as a value -/
def tXo (K : PySem.W.Frag) (f : Str) (te : TE) : TE := fun σ H Q => te σ H fun x H1 => ∃ (a C dd : Addr) (fs : List (Str × V)) (v : V), x = .ref a ∧ XfC K C ∧ PySem.W.findIn K (.ref C) f = some none ∧ H1 a = some (exo a C (some dd)) ∧ H1 dd = some (exd dd fs) ∧ fs.lookup f = some v ∧ Q v H1
theorem pe_xo {e : Expr} {te : TE} {pos : Pos} {f : Str} (he : PE X e te) (hb : attributeBase e f X.env (eval e X.env) = eval e X.env := by rfl) : PE X (.Attribute e f pos) (tXo X.K f te) := by
  refine ⟨fun pins s σ H Q I h => attr_of hb (thn (he.run pins s σ H _ I h) fun u s1 hh => ?_)⟩
  obtain ⟨x, H1, I1, rx, a, C, dd, fs, v, rfl, T, no, ea, ed, l, q⟩ := hh
  obtain rfl : u = Value.ref a := rx
  obtain ⟨t1, g⟩ := exo_at I1.hok ea
  obtain ⟨mA, n, hr⟩ := exd_at I1.hok ed
  obtain ⟨od, g2, hl⟩ := lookIn_ns n
  obtain ⟨y, hy, ry⟩ := RelO.some_of (v := v) (o := mA f) (by rw [← l]; exact hr f)
  have J : PySem.W.InstAt s1.heap a { cls := .ref C, dict := some dd, data := .fields #[.ref t1, .none, .none, .none, .bool false, .none] } C (some od) := ⟨g, rfl, rfl, g2⟩
  exact HandSPX.exc_get I1.kIn J T.ga T.gg T.exC (PySem.W.findObj_own T.hdC no rfl (by rw [hl, hy])) (handed_of ry) ⟨v, H1, I1.tok _, ry, q⟩
/-- C.__init__(self, ..), C a class of the module that has none of its own, over ValueError -/
theorem pe_keinit {x : Str} {Er : Addr} {e : Expr} {es : List Expr} {ta : TA} {p1 p2 pos : Pos} {pl : Sem Bool} (hg : Gl X x) (hm : X.mg x = some (.ref Er)) (sG : PySem.W.specialIn X.K (.ref Er) "__getattribute__" = some (some (.builtin "type.__getattribute__")))
    (rI : PySem.W.readsIn X.K Er (.type "type") = true) (vV : PySem.W.findCls X.K (.ref Er) (.type "type") "__init__" = some (.val (.builtin "ValueError.__init__"))) (ha : PA X (e :: es) ta)
    (hc : eval (.Call (.Attribute (.Name x p1) "__init__" p2) (e :: es) [] pos) X.env = (do
      let ov ← eval (.Name x p1) X.env
      standAt p2.atName
      let (f, first) ← holding [ov] (getMethod ov "__init__" pl)
      callWith pos f first (backTo pos (starEach (e :: es) X.env)) (backToKw pos (keywordEach [] X.env))) := by rfl)
    (hdb : (x == ("__debug__" : Str)) = false := by decide)
    (he : starEach (e :: es) X.env = (false, eval e X.env) :: starEach es X.env := by rfl) (hpl : (backTo pos (starEach es X.env)).any (·.1) = false := by rfl) :
    PE X (.Call (.Attribute (.Name x p1) "__init__" p2) (e :: es) [] pos) (tVeI X.K ta) := by
  refine ⟨fun pins s σ H Q I h => PySem.W.methodCall_KW (ld_glob I hg hm ?_ hdb) hc⟩
  refine PySem.W.method_cls I.kIn sG (PySem.W.cls_value I.kIn rI vV (by decide +kernel) ?_)
  show wpAny _ _ (callWith pos (Value.builtin "ValueError.__init__") [] (backTo pos (starEach (e :: es) X.env)) []) _ _ _
  refine PyProof.Rows.callWith_method1 (thn (ha.run pos pins _ σ H _ (I.tok _) h) fun us s1 hh => ?_) he hpl
  obtain ⟨vs, H1, I1, r1, a, C, ws, rfl, hl, T, ea, q⟩ := hh
  cases r1 with
  | @cons _ u0 _ ur ra rw' =>
    obtain rfl : u0 = Value.ref a := ra
    exact oinit_ok T I1 ea (by rw [← Paired.length rw', sizeLine_eq]; omega) fun s' J => ⟨.non, H1, J, rfl, q⟩
/-- what stood before a refusal was laid, and behind its making -/
theorem un_made {fs : List Addr} {H1 H2 : Hp} {hp hp2 h2 : Heap} {a : Addr} {o : HO} (ha : hp.objs.size ≤ a) (hn : H1 a = none) (k : ∀ b u, hp.get? b = some u → hp2.get? b = some u) (un : Un fs [] (upd H1 a o) H2 hp2 h2) : Un fs [] H1 H2 hp h2 := by
  have na : ∀ {b : Addr} {u : Obj}, hp.get? b = some u → b ≠ a := fun {b u} z => Nat.ne_of_lt (Nat.lt_of_lt_of_le (Heap.lt_size z) ha)
  have up : ∀ {b : Addr}, b ≠ a → H1 b = none → upd H1 a o b = none := fun {b} hb n => (upd_ne hb).trans n
  have st : ∀ {b : Addr} {u : HO}, H1 b = some u → upd H1 a o b = some u := fun {b u} e => (upd_ne (ne_of_none e hn)).trans e
  exact ⟨fun b u z n hf hx => un.keep b u (k b u z) (up (na z) n) hf hx, fun b u z n hf hx => un.slot b u (k b u z) (up (na z) n) hf hx, fun b u z n hx => un.free b u (k b u z) (up (na z) n) hx,
    fun b u z hx => un.there b u (k b u z) hx, fun b xs z => un.tups b xs (st z), fun b u v z => un.frzs b u v (st z), fun b ps z => un.tbls b ps (st z)⟩
/-- C(e, ..) as a value, C a class with an __init__ of its own that keeps sp -/
theorem pe_oex {x : Str} {C fI : Addr} {k : Nat} {fd : FuncData} {ps : List Str} {sp : Sp} {ds : List Value} {dvs : List V} {e : Expr} {es : List Expr} {ta : TA} {p pos : Pos} (T : OexC X.K C) (iC : PySem.W.findIn X.K (.ref C) "__init__" = some (some (.ref fI))) (tI : PySem.W.typeIn X.K (.ref fI) = some (.type "function"))
    (F1 : FnOk X.prog X.w X.K X.mg X.base CX0 k fI fd ps sp) (hr : Room (k + 1) X.A) (hb : Binds X.K fd ps ds) (hd : Vals dvs ds) (hg : Gl X x) (hm : X.mg x = some (.ref C)) (ha : PA X (e :: es) ta)
    (hdb : (x == ("__debug__" : Str)) = false := by decide) (he : starEach (e :: es) X.env = (false, eval e X.env) :: starEach es X.env := by rfl) (hpl : (backTo pos (starEach es X.env)).any (·.1) = false := by rfl) :
    PE X (.Call (.Name x p) (e :: es) [] pos) (fun σ H Q => ta σ H fun vs H1 => vs.length ≤ 1000 ∧ ∀ a, H1 a = none → sp (.ref a :: (vs ++ dvs)) (upd H1 a (exo a C none)) (fun v H2 => v = .non ∧ Q (.ref a) H2) (fun _ _ _ => False)) := by
  refine ⟨fun pins s σ H Q I h => ?_⟩
  obtain ⟨nm, q, N, bs, bm, sn, sub, ab, col, dd, k0, k1, k2, k3, k5, hC, hbm⟩ := T.cls
  refine wpAny_Call_Name_kw (ld_glob I hg hm ?_ hdb)
  refine PySem.W.callWith_K (h₀ := X.base) I.ok.mod.kin T.kC (thn (ha.run pos pins s σ H _ I h) fun us s1 hh => ?_) he hpl
  obtain ⟨vs, H1, I1, r1, hz, q1⟩ := hh
  refine ⟨I1.kIn, ?_⟩
  show wpAny _ _ (call (.ref C) us) _ _ _
  obtain ⟨hp, g, dr, tk, os⟩ := s1
  have hsz : hp.objs.size ≤ hp.objs.size + 1 := Nat.le_succ _
  have hn : H1 (hp.objs.size + 1) = none := I1.hok.fresh hsz
  have hq := q1 _ hn
  generalize hH : (hp.push (PySem.W.kdv_tup us)).push (PySem.HandSPX.excO C hp.objs.size) = hp2 at *
  have kk : ∀ b o, hp.get? b = some o → hp2.get? b = some o := fun b o z => by
    rw [← hH]
    exact Heap.get?_push_of_some _ (Heap.get?_push_of_some _ z)
  have hget : hp2.get? (hp.objs.size + 1) = some (PySem.HandSPX.excO C hp.objs.size) := by
    rw [← hH]
    heap_get
  have I2 : Inv X pins σ (upd H1 (hp.objs.size + 1) (exo (hp.objs.size + 1) C none)) ⟨hp2, g, dr, tk, os⟩ := I1.laid (t' := tk) kk hsz (exo_ok hget)
  have r2 : Vals (V.ref (hp.objs.size + 1) :: (vs ++ dvs)) (Value.ref (hp.objs.size + 1) :: (us ++ ds)) := .cons rfl (r1.append hd)
  have hl : (Value.ref (hp.objs.size + 1) :: us ++ ds).length = ps.length := r2.length.symm.trans (F1.len _ _ _ _ hq)
  refine wpAny_call (PySem.HandSPX.call_own F.excBase_ValueError (fun Y => PySem.HandSPX.refsVE_contains Y bm hbm) (I1.kIn _ _ hC) (PySem.W.looks_findIn I1.kIn iC) (fun self => PySem.W.bind_fn I1.kIn self tI) (by rw [← Paired.length r1, sizeLine_eq]; omega) ?_)
  rw [hH]
  refine codeAny_mono (F1.run _ X.stack _ _ ⟨Value.ref (hp.objs.size + 1) :: us, []⟩ (Value.ref (hp.objs.size + 1) :: (us ++ ds)) _ _ (fun _ _ _ => False) (hr.make C us []) (I2.env0.make C us []) (hb _ (Value.ref (hp.objs.size + 1) :: us) I2.kIn hl) r2 hq) fun r s' hq' => ?_
  match r, hq' with
  | .ok (.ret u), ⟨v, H2, os2, bare2, un2, hok2, rv, ev, q2⟩ =>
    subst ev
    obtain ⟨h2, g2, d2, t2, os'⟩ := s'
    exact ⟨rv, .ref _, H2, I1.call' (ch := []) os2 (un_made hsz hn kk un2) hok2 bare2 (fun b z => absurd z (by simp)), rfl, q2⟩
end
/-- what an __init__ of their own leaves -/
def spOwn (K : PySem.W.Frag) (C : Addr) (f : Str) : Sp := fun vs H Q _ => ∃ (a : Addr) (y : V), vs = [.ref a, y] ∧ H a = some (exo a C none) ∧ ∀ dx, H dx = none → dx ≠ a → Q .non (upd (upd H dx (exd dx [(f, y)])) a (exo a C (some dx)))
section
variable {P : Program} {w : World} {K : PySem.W.Frag} {mg : Str → Option Value} {base : Heap}
theorem scFitI : FnScope ["self", "place"] ["self", "place"] (defScope sFitI) := ⟨rfl, rfl, rfl, by decide +kernel, rfl, by decide +kernel, by decide +kernel⟩
theorem scMakI : FnScope ["self", "at"] ["self", "at"] (defScope sMakI) := ⟨rfl, rfl, rfl, by decide +kernel, rfl, by decide +kernel, by decide +kernel⟩
theorem ok_fitI {f C Er : Addr} {fd : FuncData} (F : Fun K "__init__" "NoFit.__init__" sFitI f fd) (gE : mg "KindError" = some (.ref Er)) (sG : PySem.W.specialIn K (.ref Er) "__getattribute__" = some (some (.builtin "type.__getattribute__")))
    (rI : PySem.W.readsIn K Er (.type "type") = true) (vV : PySem.W.findCls K (.ref Er) (.type "type") "__init__" = some (.val (.builtin "ValueError.__init__"))) (T : OexC K C) (no : PySem.W.findIn K (.ref C) "place" = some none) :
    FnOk P w K mg base CX0 1 f fd ["self", "place"] (spOwn K C "place") := by
  refine F.ok scFitI (fun vs H Q E h => ?_) (fun cdv A outer s H vs Q E hr h => ?_)
  · obtain ⟨a, y, rfl, _⟩ := h
    rfl
  · obtain ⟨a, y, rfl, hH, k⟩ := h
    refine ⟨_, pss_cons (ps_expr (pe_keinit (by rfl) gE sG rI vV (pa_cons (pv 0) (pa_cons pe_str pa_nil)))) (pss_one (ps_ost (pv 0) (pv 1))), ?_⟩
    refine ⟨_, rfl, a, C, [_], rfl, by decide, T, hH, ?_⟩
    exact ⟨_, rfl, _, rfl, a, C, rfl, T, no, .inl ⟨hH, fun dx h1 h2 => k dx h1 h2⟩⟩
theorem ok_makI {f C Er : Addr} {fd : FuncData} (F : Fun K "__init__" "NoMaking.__init__" sMakI f fd) (gE : mg "KindError" = some (.ref Er)) (sG : PySem.W.specialIn K (.ref Er) "__getattribute__" = some (some (.builtin "type.__getattribute__")))
    (rI : PySem.W.readsIn K Er (.type "type") = true) (vV : PySem.W.findCls K (.ref Er) (.type "type") "__init__" = some (.val (.builtin "ValueError.__init__"))) (T : OexC K C) (no : PySem.W.findIn K (.ref C) "at" = some none) :
    FnOk P w K mg base CX0 1 f fd ["self", "at"] (spOwn K C "at") := by
  refine F.ok scMakI (fun vs H Q E h => ?_) (fun cdv A outer s H vs Q E hr h => ?_)
  · obtain ⟨a, y, rfl, _⟩ := h
    rfl
  · obtain ⟨a, y, rfl, hH, k⟩ := h
    refine ⟨_, pss_cons (ps_expr (pe_keinit (by rfl) gE sG rI vV (pa_cons (pv 0) (pa_cons pe_str pa_nil)))) (pss_one (ps_ost (pv 0) (pv 1))), ?_⟩
    refine ⟨_, rfl, a, C, [_], rfl, by decide, T, hH, ?_⟩
    exact ⟨_, rfl, _, rfl, a, C, rfl, T, no, .inl ⟨hH, fun dx h1 h2 => k dx h1 h2⟩⟩
end
theorem boot_isi : bootBuiltins "isinstance" = some (.builtin "isinstance") := by decide +kernel
theorem same_new {H : Hp} {p : Addr} {o : HO} (h : H p = none) : Same H (upd H p o) := fun b u e => by
  rw [upd_ne (ne_of_none e h)]
  exact e
theorem isr_at {X : Cx} {K : PySem.W.Frag} (e : X.K = K) : CallR X (.builtin "isinstance") (rIsR K) := by
  rw [← e]
  exact call_isR
theorem rel_ref {C : Addr} : ∀ u, RelV (.ref C) u → u = Value.ref C := fun u r => r
/-- the classes of the refusals by their numbers -/
structure Cls where
  a0 : Addr
  a1 : Addr
  a2 : Addr
  a3 : Addr
  a4 : Addr
  a5 : Addr
  a6 : Addr
  a7 : Addr
  a8 : Addr
  a9 : Addr
  a10 : Addr
  a11 : Addr
  a12 : Addr
  a13 : Addr
  a14 : Addr
  a15 : Addr
def Cls.get (c : Cls) (i : Nat) : Addr := [c.a0, c.a1, c.a2, c.a3, c.a4, c.a5, c.a6, c.a7, c.a8, c.a9, c.a10, c.a11, c.a12, c.a13, c.a14, c.a15].getD i 0
abbrev bmVE : List Value := [.type "ValueError", .type "Exception", .type "BaseException", .type "object"]
/-- what the module says of them -/
structure ClsOk (K : PySem.W.Frag) (mg : Str → Option Value) (c : Cls) : Prop where
  g0 : mg "NoKind" = some (.ref c.a0)
  g1 : mg "NoText" = some (.ref c.a1)
  g2 : mg "NoStep" = some (.ref c.a2)
  g3 : mg "TooLong" = some (.ref c.a3)
  g4 : mg "TooMany" = some (.ref c.a4)
  g5 : mg "NoLong" = some (.ref c.a5)
  g6 : mg "NoNumber" = some (.ref c.a6)
  g7 : mg "NoRow" = some (.ref c.a7)
  g8 : mg "NoName" = some (.ref c.a8)
  g9 : mg "Twice" = some (.ref c.a9)
  g10 : mg "Used" = some (.ref c.a10)
  g11 : mg "NoGap" = some (.ref c.a11)
  g12 : mg "NoTree" = some (.ref c.a12)
  g13 : mg "NoUndo" = some (.ref c.a13)
  g14 : mg "NoFit" = some (.ref c.a14)
  g15 : mg "NoMaking" = some (.ref c.a15)
  is : ∀ i, i < 16 → ExcC K (c.get i)
  kit : ∀ i, i < 16 → ∀ j, j < 16 → PySem.W.kitOne K (.ref (c.get i)) (.ref (c.get j)) = some (decide (j = i))
  own : ∀ i, i < 14 → PySem.W.excIn K (c.get i) bmVE "ValueError.__new__" = true
  kp : ∀ i, i < 16 → PySem.W.keepIn K (.ref (c.get i)) = true
/-- the truths that are told of the one with the number i -/
def truths (i : Nat) : List V := (List.range 16).map fun j => .bl (decide (j = i))
def spKinds (c : Cls) : Sp := fun vs H Q _ => ∃ (a : Addr) (i : Nat), vs = [.ref a] ∧ i < 16 ∧ ErrAt H a (c.get i) ∧ ∀ (l : Addr) (H' : Hp), Same H H' → H' l = some (.lst (truths i)) → Q (.ref l) H'
theorem err_same {H H' : Hp} {a D : Addr} (s : Same H H') (h : ErrAt H a D) : ErrAt H' a D := by
  rcases h with h | ⟨d, fs, h1, h2⟩
  · exact .inl (s _ _ h)
  · exact .inr ⟨d, fs, s _ _ h1, s _ _ h2⟩
section
variable {P : Program} {w : World} {K : PySem.W.Frag} {mg : Str → Option Value} {base : Heap}
theorem scKinds : FnScope ["_law_e", "_law_kinds_here"] ["_law_e"] (defScope sKinds) := ⟨rfl, rfl, rfl, by decide +kernel, rfl, by decide +kernel, by decide +kernel⟩
theorem ok_kinds {f : Addr} {fd : FuncData} {c : Cls} (F : Fun K "_law_kinds" "_law_kinds" sKinds f fd) (T : ClsOk K mg c) (mIs : mg "isinstance" = none) : FnOk P w K mg base CX0 1 f fd ["_law_e"] (spKinds c) := by
  refine F.ok scKinds (fun vs H Q E h => ?_) (fun cdv A outer s H vs Q E hr h => ?_)
  · obtain ⟨a, i, rfl, _⟩ := h
    rfl
  · obtain ⟨a, i, rfl, hi, ha, k⟩ := h
    refine ⟨_, pss_cons (ps_set (i := 1) scKinds.nd rfl (Or.inl rfl) (pe_lst (pa_cons (pe_callB (isr_at (K := K) rfl) (by rfl) mIs boot_isi (pa_cons (pv 0) (pa_cons (pe_glob (v := .ref c.a0) (by rfl) T.g0 rfl) pa_nil)))
          (pa_cons (pe_callB (isr_at (K := K) rfl) (by rfl) mIs boot_isi (pa_cons (pv 0) (pa_cons (pe_glob (v := .ref c.a1) (by rfl) T.g1 rfl) pa_nil)))
          (pa_cons (pe_callB (isr_at (K := K) rfl) (by rfl) mIs boot_isi (pa_cons (pv 0) (pa_cons (pe_glob (v := .ref c.a2) (by rfl) T.g2 rfl) pa_nil)))
          (pa_cons (pe_callB (isr_at (K := K) rfl) (by rfl) mIs boot_isi (pa_cons (pv 0) (pa_cons (pe_glob (v := .ref c.a3) (by rfl) T.g3 rfl) pa_nil))) pa_nil))))))
      (pss_cons (ps_set (i := 1) scKinds.nd rfl (Or.inl rfl) (pe_op op_cat (pv 1) (pe_lst (pa_cons (pe_callB (isr_at (K := K) rfl) (by rfl) mIs boot_isi (pa_cons (pv 0) (pa_cons (pe_glob (v := .ref c.a4) (by rfl) T.g4 rfl) pa_nil)))
          (pa_cons (pe_callB (isr_at (K := K) rfl) (by rfl) mIs boot_isi (pa_cons (pv 0) (pa_cons (pe_glob (v := .ref c.a5) (by rfl) T.g5 rfl) pa_nil)))
          (pa_cons (pe_callB (isr_at (K := K) rfl) (by rfl) mIs boot_isi (pa_cons (pv 0) (pa_cons (pe_glob (v := .ref c.a6) (by rfl) T.g6 rfl) pa_nil)))
          (pa_cons (pe_callB (isr_at (K := K) rfl) (by rfl) mIs boot_isi (pa_cons (pv 0) (pa_cons (pe_glob (v := .ref c.a7) (by rfl) T.g7 rfl) pa_nil))) pa_nil)))))))
      (pss_cons (ps_set (i := 1) scKinds.nd rfl (Or.inl rfl) (pe_op op_cat (pv 1) (pe_lst (pa_cons (pe_callB (isr_at (K := K) rfl) (by rfl) mIs boot_isi (pa_cons (pv 0) (pa_cons (pe_glob (v := .ref c.a8) (by rfl) T.g8 rfl) pa_nil)))
          (pa_cons (pe_callB (isr_at (K := K) rfl) (by rfl) mIs boot_isi (pa_cons (pv 0) (pa_cons (pe_glob (v := .ref c.a9) (by rfl) T.g9 rfl) pa_nil)))
          (pa_cons (pe_callB (isr_at (K := K) rfl) (by rfl) mIs boot_isi (pa_cons (pv 0) (pa_cons (pe_glob (v := .ref c.a10) (by rfl) T.g10 rfl) pa_nil)))
          (pa_cons (pe_callB (isr_at (K := K) rfl) (by rfl) mIs boot_isi (pa_cons (pv 0) (pa_cons (pe_glob (v := .ref c.a11) (by rfl) T.g11 rfl) pa_nil))) pa_nil)))))))
      (pss_one (ps_ret (pe_op op_cat (pv 1) (pe_lst (pa_cons (pe_callB (isr_at (K := K) rfl) (by rfl) mIs boot_isi (pa_cons (pv 0) (pa_cons (pe_glob (v := .ref c.a12) (by rfl) T.g12 rfl) pa_nil)))
          (pa_cons (pe_callB (isr_at (K := K) rfl) (by rfl) mIs boot_isi (pa_cons (pv 0) (pa_cons (pe_glob (v := .ref c.a13) (by rfl) T.g13 rfl) pa_nil)))
          (pa_cons (pe_callB (isr_at (K := K) rfl) (by rfl) mIs boot_isi (pa_cons (pv 0) (pa_cons (pe_glob (v := .ref c.a14) (by rfl) T.g14 rfl) pa_nil)))
          (pa_cons (pe_callB (isr_at (K := K) rfl) (by rfl) mIs boot_isi (pa_cons (pv 0) (pa_cons (pe_glob (v := .ref c.a15) (by rfl) T.g15 rfl) pa_nil))) pa_nil)))))))))), ?_⟩
    have C := T.is i hi
    have kt := T.kit i hi
    refine ⟨_, rfl, a, _, _, _, _, rfl, ha, C, rel_ref, kt 0 (by decide), ?_⟩
    refine ⟨_, rfl, a, _, _, _, _, rfl, ha, C, rel_ref, kt 1 (by decide), ?_⟩
    refine ⟨_, rfl, a, _, _, _, _, rfl, ha, C, rel_ref, kt 2 (by decide), ?_⟩
    refine ⟨_, rfl, a, _, _, _, _, rfl, ha, C, rel_ref, kt 3 (by decide), ?_⟩
    refine ⟨by show 4 ≤ sizeLine; decide, fun l1 n1 => ?_⟩
    have s1 := same_new (o := .lst [V.bl (decide (0 = i)), V.bl (decide (1 = i)), V.bl (decide (2 = i)), V.bl (decide (3 = i))]) n1
    have e1 := err_same s1 ha
    have p1 := upd_same (H := H) (a := l1) (o := .lst [V.bl (decide (0 = i)), V.bl (decide (1 = i)), V.bl (decide (2 = i)), V.bl (decide (3 = i))])
    refine ⟨_, rfl, ?_⟩
    refine ⟨_, rfl, a, _, _, _, _, rfl, e1, C, rel_ref, kt 4 (by decide), ?_⟩
    refine ⟨_, rfl, a, _, _, _, _, rfl, e1, C, rel_ref, kt 5 (by decide), ?_⟩
    refine ⟨_, rfl, a, _, _, _, _, rfl, e1, C, rel_ref, kt 6 (by decide), ?_⟩
    refine ⟨_, rfl, a, _, _, _, _, rfl, e1, C, rel_ref, kt 7 (by decide), ?_⟩
    refine ⟨by show 4 ≤ sizeLine; decide, fun l2 n2 => ?_⟩
    have s2 := s1.trans (same_new (o := .lst [V.bl (decide (4 = i)), V.bl (decide (5 = i)), V.bl (decide (6 = i)), V.bl (decide (7 = i))]) n2)
    refine ⟨l1, l2, _, _, rfl, rfl, same_new n2 _ _ p1, upd_same, by show 8 ≤ sizeLine; decide, fun l3 n3 => ?_⟩
    have s3 := s2.trans (same_new (o := .lst ([V.bl (decide (0 = i)), V.bl (decide (1 = i)), V.bl (decide (2 = i)), V.bl (decide (3 = i))] ++ [V.bl (decide (4 = i)), V.bl (decide (5 = i)), V.bl (decide (6 = i)), V.bl (decide (7 = i))])) n3)
    have e3 := err_same s3 ha
    refine ⟨_, rfl, ?_⟩
    refine ⟨_, rfl, a, _, _, _, _, rfl, e3, C, rel_ref, kt 8 (by decide), ?_⟩
    refine ⟨_, rfl, a, _, _, _, _, rfl, e3, C, rel_ref, kt 9 (by decide), ?_⟩
    refine ⟨_, rfl, a, _, _, _, _, rfl, e3, C, rel_ref, kt 10 (by decide), ?_⟩
    refine ⟨_, rfl, a, _, _, _, _, rfl, e3, C, rel_ref, kt 11 (by decide), ?_⟩
    refine ⟨by show 4 ≤ sizeLine; decide, fun l4 n4 => ?_⟩
    have s4 := s3.trans (same_new (o := .lst [V.bl (decide (8 = i)), V.bl (decide (9 = i)), V.bl (decide (10 = i)), V.bl (decide (11 = i))]) n4)
    refine ⟨l3, l4, _, _, rfl, rfl, same_new n4 _ _ upd_same, upd_same, by show 12 ≤ sizeLine; decide, fun l5 n5 => ?_⟩
    have s5 := s4.trans (same_new (o := .lst (([V.bl (decide (0 = i)), V.bl (decide (1 = i)), V.bl (decide (2 = i)), V.bl (decide (3 = i))] ++ [V.bl (decide (4 = i)), V.bl (decide (5 = i)), V.bl (decide (6 = i)), V.bl (decide (7 = i))]) ++ [V.bl (decide (8 = i)), V.bl (decide (9 = i)), V.bl (decide (10 = i)), V.bl (decide (11 = i))])) n5)
    have e5 := err_same s5 ha
    refine ⟨_, rfl, ?_⟩
    refine ⟨_, rfl, a, _, _, _, _, rfl, e5, C, rel_ref, kt 12 (by decide), ?_⟩
    refine ⟨_, rfl, a, _, _, _, _, rfl, e5, C, rel_ref, kt 13 (by decide), ?_⟩
    refine ⟨_, rfl, a, _, _, _, _, rfl, e5, C, rel_ref, kt 14 (by decide), ?_⟩
    refine ⟨_, rfl, a, _, _, _, _, rfl, e5, C, rel_ref, kt 15 (by decide), ?_⟩
    refine ⟨by show 4 ≤ sizeLine; decide, fun l6 n6 => ?_⟩
    have s6 := s5.trans (same_new (o := .lst [V.bl (decide (12 = i)), V.bl (decide (13 = i)), V.bl (decide (14 = i)), V.bl (decide (15 = i))]) n6)
    refine ⟨l5, l6, _, _, rfl, rfl, same_new n6 _ _ upd_same, upd_same, by show 16 ≤ sizeLine; decide, fun l7 n7 => ?_⟩
    exact k l7 _ (s6.trans (same_new n7)) (upd_same.trans rfl)
end
/-- a row of names with one text each -/
structure MadeAt (H : Hp) (c : Cls) (i : Nat) (a t : Addr) (n : Nat) : Prop where
  err : ErrAt H a (c.get i)
  fit : i = 14 → ∃ d, H a = some (exo a c.a14 (some d)) ∧ H d = some (exd d [("place", .ref t)])
  mak : i = 15 → ∃ d, H a = some (exo a c.a15 (some d)) ∧ H d = some (exd d [("at", .int n)])
def spMade (c : Cls) : Sp := fun vs H Q _ => ∃ (i : Nat) (t : Addr) (xs : List V), vs = [.int i, .ref t] ∧ i < 16 ∧ H t = some (.lst xs) ∧ xs.length ≤ 1000 ∧ ∀ (a : Addr) (H' : Hp), Same H H' → MadeAt H' c i a t xs.length → Q (.ref a) H'
/-- four new ones and the list of them -/
theorem four {H : Hp} {a1 a2 a3 a4 l : Addr} {o1 o2 o3 o4 ol : HO} (n1 : H a1 = none) (n2 : upd H a1 o1 a2 = none) (n3 : upd (upd H a1 o1) a2 o2 a3 = none) (n4 : upd (upd (upd H a1 o1) a2 o2) a3 o3 a4 = none)
    (nl : upd (upd (upd (upd H a1 o1) a2 o2) a3 o3) a4 o4 l = none) : Same H (upd (upd (upd (upd (upd H a1 o1) a2 o2) a3 o3) a4 o4) l ol) ∧ (upd (upd (upd (upd (upd H a1 o1) a2 o2) a3 o3) a4 o4) l ol) a1 = some o1 ∧
    (upd (upd (upd (upd (upd H a1 o1) a2 o2) a3 o3) a4 o4) l ol) a2 = some o2 ∧ (upd (upd (upd (upd (upd H a1 o1) a2 o2) a3 o3) a4 o4) l ol) a3 = some o3 ∧ (upd (upd (upd (upd (upd H a1 o1) a2 o2) a3 o3) a4 o4) l ol) a4 = some o4 := by
  have s1 := same_new (o := o1) n1
  have s2 := same_new (o := o2) n2
  have s3 := same_new (o := o3) n3
  have s4 := same_new (o := o4) n4
  have s5 := same_new (o := ol) nl
  exact ⟨(((s1.trans s2).trans s3).trans s4).trans s5, s5 _ _ (s4 _ _ (s3 _ _ (s2 _ _ upd_same))), s5 _ _ (s4 _ _ (s3 _ _ upd_same)), s5 _ _ (s4 _ _ upd_same), s5 _ _ upd_same⟩
/-- one with a dict of its own is laid -/
theorem own_laid {W : Hp} {a d : Addr} {o1 o2 o3 : HO} (na : W a = none) (nd : upd W a o1 d = none) (ne : d ≠ a) : Same W (upd (upd (upd W a o1) d o2) a o3) ∧ (upd (upd (upd W a o1) d o2) a o3) a = some o3 ∧ (upd (upd (upd W a o1) d o2) a o3) d = some o2 := by
  have nd' : W d = none := (upd_ne ne).symm.trans nd
  refine ⟨fun b u e => ?_, upd_same, (upd_ne ne).trans upd_same⟩
  have h1 := ne_of_none e na
  exact (upd_ne h1).trans ((upd_ne (ne_of_none e nd')).trans ((upd_ne h1).trans e))
section
variable {P : Program} {w : World} {K : PySem.W.Frag} {mg : Str → Option Value} {base : Heap}
theorem scMade : FnScope ["_law_way", "_law_thing"] ["_law_way", "_law_thing"] (defScope sMade) := ⟨rfl, rfl, rfl, by decide +kernel, rfl, by decide +kernel, by decide +kernel⟩
theorem ok_made {f f1 f2 : Addr} {fd fd1 fd2 : FuncData} {c : Cls} (F : Fun K "_law_made" "_law_made" sMade f fd) (T : ClsOk K mg c)
    (G1 : FnOk P w K mg base CX0 1 f1 fd1 ["self", "place"] (spOwn K c.a14 "place")) (b1 : Binds K fd1 ["self", "place"] []) (T1 : OexC K c.a14) (i1 : PySem.W.findIn K (.ref c.a14) "__init__" = some (some (.ref f1))) (t1 : PySem.W.typeIn K (.ref f1) = some (.type "function"))
    (G2 : FnOk P w K mg base CX0 1 f2 fd2 ["self", "at"] (spOwn K c.a15 "at")) (b2 : Binds K fd2 ["self", "at"] []) (T2 : OexC K c.a15) (i2 : PySem.W.findIn K (.ref c.a15) "__init__" = some (some (.ref f2))) (t2 : PySem.W.typeIn K (.ref f2) = some (.type "function"))
    (mLen : mg "len" = none) : FnOk P w K mg base CX0 3 f fd ["_law_way", "_law_thing"] (spMade c) := by
  refine F.ok scMade (fun vs H Q E h => ?_) (fun cdv A outer s H vs Q E hr h => ?_)
  · obtain ⟨i, t, xs, rfl, _⟩ := h
    rfl
  · obtain ⟨i, t, xs, rfl, hi, hT, hx, k⟩ := h
    have B := PySem.F.excBase_ValueError
    refine ⟨_, pss_cons (ps_if (pt_cmpR op_lt (pv 0) pe_int (nomark _)) (pss_one (ps_ret (pe_ix ix_list (pe_lst (pa_cons (pe_exc1 B (T.own 0 (by decide)) T.g0 (T.kp 0 (by decide)) (by rfl) pe_str) (pa_cons (pe_exc1 B (T.own 1 (by decide)) T.g1 (T.kp 1 (by decide)) (by rfl) pe_str)
          (pa_cons (pe_exc1 B (T.own 2 (by decide)) T.g2 (T.kp 2 (by decide)) (by rfl) pe_str) (pa_cons (pe_exc1 B (T.own 3 (by decide)) T.g3 (T.kp 3 (by decide)) (by rfl) pe_str) pa_nil))))) (pv 0) (fun _ _ => rfl)))) pss_nil)
      (pss_cons (ps_if (pt_cmpR op_lt (pv 0) pe_int (nomark _)) (pss_one (ps_ret (pe_ix ix_list (pe_lst (pa_cons (pe_exc1 B (T.own 4 (by decide)) T.g4 (T.kp 4 (by decide)) (by rfl) pe_str) (pa_cons (pe_exc1 B (T.own 5 (by decide)) T.g5 (T.kp 5 (by decide)) (by rfl) pe_str)
          (pa_cons (pe_exc1 B (T.own 6 (by decide)) T.g6 (T.kp 6 (by decide)) (by rfl) pe_str) (pa_cons (pe_exc1 B (T.own 7 (by decide)) T.g7 (T.kp 7 (by decide)) (by rfl) pe_str) pa_nil))))) (pe_op op_sub (pv 0) pe_int) (fun _ _ => rfl)))) pss_nil)
      (pss_cons (ps_if (pt_cmpR op_lt (pv 0) pe_int (nomark _)) (pss_one (ps_ret (pe_ix ix_list (pe_lst (pa_cons (pe_exc1 B (T.own 8 (by decide)) T.g8 (T.kp 8 (by decide)) (by rfl) pe_str) (pa_cons (pe_exc1 B (T.own 9 (by decide)) T.g9 (T.kp 9 (by decide)) (by rfl) pe_str)
          (pa_cons (pe_exc1 B (T.own 10 (by decide)) T.g10 (T.kp 10 (by decide)) (by rfl) pe_str) (pa_cons (pe_exc1 B (T.own 11 (by decide)) T.g11 (T.kp 11 (by decide)) (by rfl) pe_str) pa_nil))))) (pe_op op_sub (pv 0) pe_int) (fun _ _ => rfl)))) pss_nil)
      (pss_one (ps_ret (pe_ix ix_list (pe_lst (pa_cons (pe_exc1 B (T.own 12 (by decide)) T.g12 (T.kp 12 (by decide)) (by rfl) pe_str) (pa_cons (pe_exc1 B (T.own 13 (by decide)) T.g13 (T.kp 13 (by decide)) (by rfl) pe_str)
          (pa_cons (pe_oex (dvs := []) T1 i1 t1 G1 hr b1 .nil (by rfl) T.g14 (pa_cons (pv 1) pa_nil)) (pa_cons (pe_oex (dvs := []) T2 i2 t2 G2 hr b2 .nil (by rfl) T.g15 (pa_cons (pe_callB call_len_seq (by rfl) mLen PySem.boot_len (pa_cons (pv 1) pa_nil)) pa_nil)) pa_nil))))) (pe_op op_sub (pv 0) pe_int) (fun _ _ => rfl)))))), ?_⟩
    refine ⟨_, rfl, _, _, rfl, rfl, _, rfl, ?_⟩
    refine L2.ite2 (fun hc => ?_) (fun hc => ?_)
    · have h4 : i < 4 := by
        have z := of_decide_eq_true hc
        omega
      refine fun a1 n1 a2 n2 a3 n3 a4 n4 => ⟨by show 4 ≤ sizeLine; decide, fun l nl => ?_⟩
      obtain ⟨s, e1, e2, e3, e4⟩ := four (ol := .lst [V.ref a1, .ref a2, .ref a3, .ref a4]) n1 n2 n3 n4 nl
      obtain rfl | rfl | rfl | rfl : i = 0 ∨ i = 1 ∨ i = 2 ∨ i = 3 := by omega
      · exact ⟨_, rfl, l, _, _, _, rfl, rfl, SqL.of upd_same, atI_nat (j := 0) rfl, k a1 _ s ⟨.inl e1, fun z => absurd z (by decide), fun z => absurd z (by decide)⟩⟩
      · exact ⟨_, rfl, l, _, _, _, rfl, rfl, SqL.of upd_same, atI_nat (j := 1) rfl, k a2 _ s ⟨.inl e2, fun z => absurd z (by decide), fun z => absurd z (by decide)⟩⟩
      · exact ⟨_, rfl, l, _, _, _, rfl, rfl, SqL.of upd_same, atI_nat (j := 2) rfl, k a3 _ s ⟨.inl e3, fun z => absurd z (by decide), fun z => absurd z (by decide)⟩⟩
      · exact ⟨_, rfl, l, _, _, _, rfl, rfl, SqL.of upd_same, atI_nat (j := 3) rfl, k a4 _ s ⟨.inl e4, fun z => absurd z (by decide), fun z => absurd z (by decide)⟩⟩
    · have g4 : ¬ i < 4 := fun z => hc (decide_eq_true (by omega))
      refine ⟨_, rfl, _, _, rfl, rfl, _, rfl, ?_⟩
      refine L2.ite2 (fun hc2 => ?_) (fun hc2 => ?_)
      · have h4 : i < 8 := by
          have z := of_decide_eq_true hc2
          omega
        refine fun a1 n1 a2 n2 a3 n3 a4 n4 => ⟨by show 4 ≤ sizeLine; decide, fun l nl => ?_⟩
        obtain ⟨s, e1, e2, e3, e4⟩ := four (ol := .lst [V.ref a1, .ref a2, .ref a3, .ref a4]) n1 n2 n3 n4 nl
        obtain rfl | rfl | rfl | rfl : i = 4 ∨ i = 5 ∨ i = 6 ∨ i = 7 := by omega
        · exact ⟨_, rfl, _, _, rfl, rfl, l, _, _, _, rfl, rfl, SqL.of upd_same, atI_nat (j := 0) rfl, k a1 _ s ⟨.inl e1, fun z => absurd z (by decide), fun z => absurd z (by decide)⟩⟩
        · exact ⟨_, rfl, _, _, rfl, rfl, l, _, _, _, rfl, rfl, SqL.of upd_same, atI_nat (j := 1) rfl, k a2 _ s ⟨.inl e2, fun z => absurd z (by decide), fun z => absurd z (by decide)⟩⟩
        · exact ⟨_, rfl, _, _, rfl, rfl, l, _, _, _, rfl, rfl, SqL.of upd_same, atI_nat (j := 2) rfl, k a3 _ s ⟨.inl e3, fun z => absurd z (by decide), fun z => absurd z (by decide)⟩⟩
        · exact ⟨_, rfl, _, _, rfl, rfl, l, _, _, _, rfl, rfl, SqL.of upd_same, atI_nat (j := 3) rfl, k a4 _ s ⟨.inl e4, fun z => absurd z (by decide), fun z => absurd z (by decide)⟩⟩
      · have g8 : ¬ i < 8 := fun z => hc2 (decide_eq_true (by omega))
        refine ⟨_, rfl, _, _, rfl, rfl, _, rfl, ?_⟩
        refine L2.ite2 (fun hc3 => ?_) (fun hc3 => ?_)
        · have h4 : i < 12 := by
            have z := of_decide_eq_true hc3
            omega
          refine fun a1 n1 a2 n2 a3 n3 a4 n4 => ⟨by show 4 ≤ sizeLine; decide, fun l nl => ?_⟩
          obtain ⟨s, e1, e2, e3, e4⟩ := four (ol := .lst [V.ref a1, .ref a2, .ref a3, .ref a4]) n1 n2 n3 n4 nl
          obtain rfl | rfl | rfl | rfl : i = 8 ∨ i = 9 ∨ i = 10 ∨ i = 11 := by omega
          · exact ⟨_, rfl, _, _, rfl, rfl, l, _, _, _, rfl, rfl, SqL.of upd_same, atI_nat (j := 0) rfl, k a1 _ s ⟨.inl e1, fun z => absurd z (by decide), fun z => absurd z (by decide)⟩⟩
          · exact ⟨_, rfl, _, _, rfl, rfl, l, _, _, _, rfl, rfl, SqL.of upd_same, atI_nat (j := 1) rfl, k a2 _ s ⟨.inl e2, fun z => absurd z (by decide), fun z => absurd z (by decide)⟩⟩
          · exact ⟨_, rfl, _, _, rfl, rfl, l, _, _, _, rfl, rfl, SqL.of upd_same, atI_nat (j := 2) rfl, k a3 _ s ⟨.inl e3, fun z => absurd z (by decide), fun z => absurd z (by decide)⟩⟩
          · exact ⟨_, rfl, _, _, rfl, rfl, l, _, _, _, rfl, rfl, SqL.of upd_same, atI_nat (j := 3) rfl, k a4 _ s ⟨.inl e4, fun z => absurd z (by decide), fun z => absurd z (by decide)⟩⟩
        · have g12 : ¬ i < 12 := fun z => hc3 (decide_eq_true (by omega))
          refine fun a1 n1 a2 n2 => ?_
          have s1 := same_new (o := ExO (.ref (c.get 12)) a1) n1
          have s2 := same_new (o := ExO (.ref (c.get 13)) a2) n2
          refine ⟨_, rfl, by show 1 ≤ 1000; decide, fun a3 n3 => ⟨a3, .ref t, rfl, upd_same, fun d1 d1n d1a => ⟨rfl, ?_⟩⟩⟩
          obtain ⟨s3, p3, q3⟩ := own_laid (o2 := exd d1 [("place", .ref t)]) (o3 := exo a3 c.a14 (some d1)) n3 d1n d1a
          have w3 := (s1.trans s2).trans s3
          refine ⟨_, rfl, t, _, rfl, .inl (SqL.of (w3 _ _ hT)), by show 1 ≤ 1000; decide, fun a4 n4 => ⟨a4, _, rfl, upd_same, fun d2 d2n d2a => ⟨rfl, by show 4 ≤ sizeLine; decide, fun l nl => ?_⟩⟩⟩
          obtain ⟨s4, p4, q4⟩ := own_laid (o2 := exd d2 [("at", .int xs.length)]) (o3 := exo a4 c.a15 (some d2)) n4 d2n d2a
          have s5 := same_new (o := .lst [V.ref a1, .ref a2, .ref a3, .ref a4]) nl
          have w5 := (w3.trans s4).trans s5
          obtain rfl | rfl | rfl | rfl : i = 12 ∨ i = 13 ∨ i = 14 ∨ i = 15 := by omega
          · exact ⟨_, rfl, _, _, rfl, rfl, l, _, _, _, rfl, rfl, SqL.of upd_same, atI_nat (j := 0) rfl, k a1 _ w5 ⟨.inl (s5 _ _ (s4 _ _ (s3 _ _ (s2 _ _ upd_same)))), fun z => absurd z (by decide), fun z => absurd z (by decide)⟩⟩
          · exact ⟨_, rfl, _, _, rfl, rfl, l, _, _, _, rfl, rfl, SqL.of upd_same, atI_nat (j := 1) rfl, k a2 _ w5 ⟨.inl (s5 _ _ (s4 _ _ (s3 _ _ upd_same))), fun z => absurd z (by decide), fun z => absurd z (by decide)⟩⟩
          · have x1 := s5 _ _ (s4 _ _ p3)
            have x2 := s5 _ _ (s4 _ _ q3)
            exact ⟨_, rfl, _, _, rfl, rfl, l, _, _, _, rfl, rfl, SqL.of upd_same, atI_nat (j := 2) rfl, k a3 _ w5 ⟨.inr ⟨d1, _, x1, x2⟩, fun _ => ⟨d1, x1, x2⟩, fun z => absurd z (by decide)⟩⟩
          · have x1 := s5 _ _ p4
            have x2 := s5 _ _ q4
            exact ⟨_, rfl, _, _, rfl, rfl, l, _, _, _, rfl, rfl, SqL.of upd_same, atI_nat (j := 3) rfl, k a4 _ w5 ⟨.inr ⟨d2, _, x1, x2⟩, fun z => absurd z (by decide), fun _ => ⟨d2, x1, x2⟩⟩⟩
end
theorem boot_veT : bootBuiltins "ValueError" = some (.type "ValueError") := by decide +kernel
def spLaw (K : PySem.W.Frag) : Sp := fun vs H Q _ => ∃ (a : Addr) (ns : List Int), vs = [.ref a] ∧ SqL K H a (ns.map V.int) ∧ ns.length ≤ 63 ∧ ∀ H', Q (.bl true) H'
theorem pool_same {H H' : Hp} {p : Addr} (s : Same H H') (h : PoolAt H p) : PoolAt H' p := by
  obtain ⟨c, n, e, r⟩ := h
  exact ⟨c, n, s _ _ e, r⟩
theorem ints_all {K : PySem.W.Frag} {H : Hp} : ∀ ys : List Int, DpAll K H (ys.map V.int) (ys.map PyData.int)
  | [] => .nil
  | y :: ys => .cons (.int y) (ints_all ys)
theorem bls_all {K : PySem.W.Frag} {H : Hp} {β : Type} (g : β → Bool) : ∀ ys : List β, DpAll K H (ys.map fun y => .bl (g y)) (ys.map fun y => PyData.bool (g y))
  | [] => .nil
  | y :: ys => .cons (.bl (g y)) (bls_all g ys)
theorem rel_ty {x : String} : ∀ u, RelV (.ty x) u → u = Value.type x := fun u r => r
theorem small1000 {n : Nat} (h : n < 1000) : n < sizeLine := Nat.lt_of_lt_of_le h (by decide)
theorem flat_ok {β : Type} (g : β → PyData) (hg : ∀ b, (g b).canLay0 = true ∧ (g b).depth ≤ 1) : ∀ ys : List β, PyData.canLayAll0 (ys.map g) = true ∧ PyData.depthAll (ys.map g) ≤ 1
  | [] => ⟨by simp only [List.map_nil, PyData.canLayAll0], by simp only [List.map_nil, PyData.depthAll]; omega⟩
  | y :: ys => by
    have h := flat_ok g hg ys
    have h1 := hg y
    refine ⟨by simp only [List.map_cons, PyData.canLayAll0, h.1, h1.1]; rfl, ?_⟩
    simp only [List.map_cons, PyData.depthAll]
    omega
theorem flat_shaped {β : Type} (g : β → PyData) (hg : ∀ b, (g b).canLay0 = true ∧ (g b).depth ≤ 1) (ys : List β) : SeqAt.shaped (.list (ys.map g)) = true ∧ PyData.eqv (.list (ys.map g)) (.list (ys.map g)) = true := by
  have h := flat_ok g hg ys
  have e : PyData.canLay0 (.list (ys.map g)) = true := by simp only [PyData.canLay0, h.1]
  refine ⟨?_, SeqAt.eqv_refl _ e⟩
  unfold SeqAt.shaped
  rw [e, Bool.true_and]
  refine decide_eq_true ?_
  simp only [PyData.depth]
  omega
theorem flat_int (b : Int) : (PyData.int b).canLay0 = true ∧ (PyData.int b).depth ≤ 1 := by
  simp only [PyData.canLay0, PyData.depth]
  exact ⟨trivial, by omega⟩
theorem flat_bl (b : Bool) : (PyData.bool b).canLay0 = true ∧ (PyData.bool b).depth ≤ 1 := by
  simp only [PyData.canLay0, PyData.depth]
  exact ⟨trivial, by omega⟩
section
variable {P : Program} {w : World} {K : PySem.W.Frag} {mg : Str → Option Value} {base : Heap}
theorem scLaw : FnScope ["_law_script", "_law_pool_here", "_law_way", "_law_thing", "_law_error", "_law_k", "_law_one"] ["_law_script"] (defScope sLaw) := ⟨rfl, rfl, rfl, by decide +kernel, rfl, by decide +kernel, by decide +kernel⟩
theorem ok_law {f f1 f2 f3 f4 Er : Addr} {fd fd1 fd2 fd3 fd4 : FuncData} {c : Cls} (F : Fun K "law" "law" sLaw f fd)
    (GP : FnOk P w K mg base CX0 1 f1 fd1 ["_law_script", "_law_k"] (spPool K)) (kP : PySem.W.keepIn K (.ref f1) = true) (bP : Binds K fd1 ["_law_script", "_law_k"] []) (gP : mg "_law_pool" = some (.ref f1))
    (GT : FnOk P w K mg base CX0 1 f2 fd2 ["_law_pool_here", "_law_many"] spTake) (kT : PySem.W.keepIn K (.ref f2) = true) (bT : Binds K fd2 ["_law_pool_here", "_law_many"] []) (gT : mg "_law_take" = some (.ref f2))
    (GM : FnOk P w K mg base CX0 3 f3 fd3 ["_law_way", "_law_thing"] (spMade c)) (kM : PySem.W.keepIn K (.ref f3) = true) (bM : Binds K fd3 ["_law_way", "_law_thing"] []) (gM : mg "_law_made" = some (.ref f3))
    (GK : FnOk P w K mg base CX0 1 f4 fd4 ["_law_e"] (spKinds c)) (kK : PySem.W.keepIn K (.ref f4) = true) (bK : Binds K fd4 ["_law_e"] []) (gK : mg "_law_kinds" = some (.ref f4))
    (T : ClsOk K mg c) (gE : mg "KindError" = some (.ref Er)) (kE : ∀ i, i < 16 → PySem.W.kitOne K (.ref (c.get i)) (.ref Er) = some true) (kV : ∀ i, i < 16 → PySem.W.kitOne K (.ref (c.get i)) (.type "ValueError") = some true)
    (xF : XfC K c.a14) (nF : PySem.W.findIn K (.ref c.a14) "place" = some none) (xM : XfC K c.a15) (nM : PySem.W.findIn K (.ref c.a15) "at" = some none)
    (mLen : mg "len" = none) (mRange : mg "range" = none) (mIs : mg "isinstance" = none) (mVE : mg "ValueError" = none) : FnOk P w K mg base CX0 6 f fd ["_law_script"] (spLaw K) := by
  refine F.ok scLaw (fun vs H Q E h => ?_) (fun cdv A outer s H vs Q E hr h => ?_)
  · obtain ⟨a, ns, rfl, _⟩ := h
    rfl
  · obtain ⟨a, ns, rfl, hS, hl, k⟩ := h
    have hr1 : Room 1 _ := hr.mono (by omega)
    have hr3 : Room 3 _ := hr.mono (by omega)
    refine ⟨_, pss_cons (ps_set (i := 1) scLaw.nd rfl (Or.inr rfl) (pe_call GP hr1 (by rfl) gP kP bP .nil pass0 (pa_cons (pv 0) (pa_cons pe_int pa_nil))))
      (pss_cons (ps_for PassesOwn.never rfl (pi_range1 (by rfl) mRange (pa_cons pe_int pa_nil)) (pg_name (i := 2) scLaw.nd rfl (Or.inr rfl))
        (pss_cons (ps_setLc (i := 3) (own := [("_law_k", 5)]) (g := gName 5) (tt := tYes) (by rfl) scLaw.nd rfl rfl (sw_true rfl rfl rfl (by decide +kernel)) (pi_range1 (by rfl) mRange (pa_cons (pe_call GT hr1 (by rfl) gT kT bT .nil pass0 (pa_cons (pv 1) (pa_cons pe_int pa_nil))) pa_nil))
          (blkOk_by (N := ["_law_script", "_law_pool_here", "_law_way", "_law_thing", "_law_error", "_law_k", "_law_one"]) (sc := defScope sLaw) (by decide +kernel)) (fun _ _ _ _ _ => pg_name (i := 5) scLaw.nd rfl (Or.inl rfl)) (fun _ _ _ _ _ => pts_nil)
          (fun _ _ _ _ _ => pe_call GT hr1 (by rfl) gT kT bT .nil pass0 (pa_cons (pv 1) (pa_cons pe_int pa_nil))))
        (pss_cons (ps_set (i := 4) scLaw.nd rfl (Or.inl rfl) (pe_call GM hr3 (by rfl) gM kM bM .nil pass0 (pa_cons (pv 2) (pa_cons (pv 3) pa_nil))))
        (pss_cons (ps_if (PW.pt (pw_or (pt_not (pt_val (pe_callB (isr_at (K := K) rfl) (by rfl) mIs boot_isi (pa_cons (pv 4) (pa_cons (pe_glob (v := .ref Er) (by rfl) gE rfl) pa_nil)))))
            (pw_or1 (pt_not (pt_val (pe_callB (isr_at (K := K) rfl) (by rfl) mIs boot_isi (pa_cons (pv 4) (pa_cons (pe_bltn (v := .ty "ValueError") (by rfl) mVE boot_veT rfl) pa_nil)))))))) (pss_one (ps_ret pe_bl)) pss_nil)
        (pss_cons (ps_if (pt_cmpR (op_neD hr.units) (pe_call GK hr1 (by rfl) gK kK bK .nil pass0 (pa_cons (pv 4) pa_nil)) (pe_lc (own := [("_law_one", 6)]) (g := gName 6) (tt := tYes) (by rfl) scLaw.nd (pi_range1 (by rfl) mRange (pa_cons pe_int pa_nil))
            (blkOk_by (N := ["_law_script", "_law_pool_here", "_law_way", "_law_thing", "_law_error", "_law_k", "_law_one"]) (sc := defScope sLaw) (by decide +kernel)) (fun _ _ _ _ _ => pg_name (i := 6) scLaw.nd rfl (Or.inl rfl)) (fun _ _ _ _ _ => pts_nil)
            (fun _ _ _ _ _ => pe_cmpR op_eq (pv 6) (pv 2) (nomark _))) (nomark _)) (pss_one (ps_ret pe_bl)) pss_nil)
        (pss_one (ps_if (PW.pt (pw_or (PW.pt (pw_and (pt_cmpR op_eq (pv 2) pe_int (nomark _)) (pw_and1 (pt_cmpR (op_neD hr.units) (pe_xo (pv 4)) (pv 3) (nomark _)))))
            (pw_or1 (PW.pt (pw_and (pt_cmpR op_eq (pv 2) pe_int (nomark _)) (pw_and1 (pt_cmpR op_ne (pe_xo (pv 4)) (pe_callB call_len_seq (by rfl) mLen PySem.boot_len (pa_cons (pv 3) pa_nil)) (nomark _)))))))) (pss_one (ps_ret pe_bl)) pss_nil)))))))
      (pss_one (ps_ret pe_bl))), ?_⟩
    refine ⟨_, rfl, a, ns, 0, rfl, hS, hl, by decide, fun p H1 hp0 hp e1 => ?_⟩
    refine ⟨16, rfl, by decide, by decide, for_range (lo := 0) (n := 16) (fun i σ H2 => ∃ (i2 i3 i4 i5 i6 : Option V), σ = [some (.ref a), some (.ref p), i2, i3, i4, i5, i6] ∧ PoolAt H2 p) ⟨none, none, none, none, none, rfl, hp⟩ ?_ ?_⟩
    · rintro i σ H2 hi ⟨i2, i3, i4, i5, i6, rfl, hp2⟩
      rw [Int.zero_add]
      refine ⟨_, rfl, p, 5, rfl, hp2, by decide, by decide, fun r H3 r0 r1 hp3 e3 => ⟨r, rfl, by omega, by omega, fun D hD => lc_range (lo := 0) (n := r.toNat) (fun j H' => ∃ ys : List Int, H' D = some (.lst (ys.map V.int)) ∧ ys.length = j ∧ PoolAt H' p) ⟨[], upd_same, rfl, hp3.upd hD⟩ ?_ ?_⟩⟩
      · have nD := hp3.ne hD
        rintro j H' hj ⟨ys, hy, hl5, hq⟩
        refine ⟨rfl, ?_⟩
        unfold tYes
        dsimp only
        rw [if_pos rfl]
        refine ⟨_, rfl, p, 2, rfl, hq, by decide, by decide, fun q H5 q0 q1 hp5 e5 => ⟨_, (e5 D nD).trans hy, small1000 (by rw [List.length_map]; omega), ys ++ [q], ?_, by rw [List.length_append, hl5]; rfl, ?_⟩⟩
        · rw [upd_same, List.map_append] <;> rfl
        · obtain ⟨c1, n1, z1, z2, z3⟩ := hp5
          exact ⟨c1, n1, by rw [upd_ne nD.symm]; exact z1, z2, z3⟩
      · rintro H4 ⟨ys, hy, hl4, hp4⟩
        refine ⟨_, rfl, _, rfl, i, D, _, rfl, hi, hy, by rw [List.length_map]; omega, fun er H5 s5 M5 => ?_⟩
        rw [List.length_map] at M5
        have hC := T.is i hi
        refine ⟨_, rfl, er, _, _, _, true, rfl, M5.err, hC, rel_ref, kE i hi, true, rfl, ?_⟩
        refine iteF ?_
        refine ⟨_, rfl, er, _, _, _, true, rfl, M5.err, hC, rel_ty, kV i hi, true, rfl, ?_⟩
        refine iteF ?_
        refine ⟨_, rfl, er, i, rfl, hi, M5.err, fun l H6 s6 hl6 => ?_⟩
        refine ⟨16, rfl, by decide, by decide, fun D2 hD2 => lc_range (lo := 0) (n := 16) (fun j H' => H' D2 = some (.lst ((List.range j).map fun m => V.bl (decide (m = i)))) ∧ Same H6 H') ⟨upd_same, same_new hD2⟩ ?_ ?_⟩
        · rintro j H' hj ⟨q1, q2⟩
          rw [Int.zero_add]
          refine ⟨rfl, ?_⟩
          unfold tYes
          dsimp only
          rw [if_pos rfl]
          refine ⟨_, rfl, _, rfl, rfl, _, q1, small1000 (by rw [List.length_map, List.length_range]; omega), ?_, fun b o e => (upd_ne (ne_of_none e hD2)).trans (q2 b o e)⟩
          rw [upd_same, List.range_succ, List.map_append]
          have e : decide (V.int (j : Int) = V.int (i : Int)) = decide (j = i) := by
            by_cases h : j = i
            · rw [h, decide_eq_true rfl, decide_eq_true rfl]
            · rw [decide_eq_false h, decide_eq_false (fun z => h (by injection z with z; omega))]
          rw [e] <;> rfl
        · rintro H7 ⟨h7, s7⟩
          have sh := flat_shaped (fun m => PyData.bool (decide (m = i))) (fun m => flat_bl _) (List.range 16)
          refine ⟨_, _, .lst (SqL.of (s7 _ _ hl6)) (bls_all (fun m => decide (m = i)) (List.range 16)), .lst (SqL.of h7) (bls_all (fun m => decide (m = i)) (List.range 16)), sh.1, sh.1, _, rfl, ?_⟩
          rw [sh.2]
          refine iteF ?_
          have s57 := s6.trans s7
          have M7 : MadeAt H7 c i er D ys.length := ⟨err_same s57 M5.err, fun z => let ⟨d, x, y⟩ := M5.fit z; ⟨d, s57 _ _ x, s57 _ _ y⟩, fun z => let ⟨d, x, y⟩ := M5.mak z; ⟨d, s57 _ _ x, s57 _ _ y⟩⟩
          have p7 : PoolAt H7 p := pool_same (s5.trans s57) hp4
          have y7 := s57 _ _ (s5 _ _ hy)
          have done : ∃ (j2 j3 j4 j5 j6 : Option V), [some (V.ref a), some (V.ref p), some (V.int i), some (V.ref D), some (V.ref er), i5, i6] = [some (V.ref a), some (V.ref p), j2, j3, j4, j5, j6] ∧ PoolAt H7 p := ⟨_, _, _, _, _, rfl, p7⟩
          refine ⟨_, rfl, rfl, _, rfl, ?_⟩
          refine ite2 (fun hc => ?_) (fun hc => ?_)
          · obtain rfl : i = 14 := by
              have z := of_decide_eq_true hc
              injection z with z
              omega
            obtain ⟨d, x, y⟩ := M7.fit rfl
            have sh2 := flat_shaped PyData.int flat_int ys
            refine ⟨_, rfl, er, c.a14, d, _, .ref D, rfl, xF, nF, x, y, rfl, _, rfl, ?_⟩
            refine ⟨_, _, .lst (SqL.of y7) (ints_all ys), .lst (SqL.of y7) (ints_all ys), sh2.1, sh2.1, _, rfl, ?_⟩
            rw [sh2.2]
            refine iteF ?_
            refine ⟨_, rfl, rfl, _, rfl, ?_⟩
            refine ite2 (fun hc2 => ?_) (fun hc2 => ?_)
            · have z := of_decide_eq_true hc2
              injection z with z
              omega
            · refine iteF ?_
              exact done
          · refine ⟨_, rfl, rfl, _, rfl, ?_⟩
            refine ite2 (fun hc2 => ?_) (fun hc2 => ?_)
            · obtain rfl : i = 15 := by
                have z := of_decide_eq_true hc2
                injection z with z
                omega
              obtain ⟨d, x, y⟩ := M7.mak rfl
              refine ⟨_, rfl, er, c.a15, d, _, _, rfl, xM, nM, x, y, rfl, _, rfl, D, _, rfl, .inl (SqL.of y7), rfl, ?_⟩
              rw [List.length_map]
              refine ⟨_, rfl, ?_⟩
              refine ite2 (fun hb => ?_) (fun _ => ?_)
              · have z : decide (V.int (ys.length : Int) = V.int (ys.length : Int)) = true := decide_eq_true rfl
                rw [z] at hb
                cases hb
              · exact done
            · refine iteF ?_
              exact done
    · rintro σ H2 ⟨i2, i3, i4, i5, i6, rfl, hp2⟩
      exact k _
end
/-! what is looked up of the classes -/
def exB (K : PySem.W.Frag) (D : Addr) : Bool := decide (PySem.W.findIn K (.ref D) "__getattribute__" = some (some (.builtin "BaseException.__getattribute__"))) && (decide (PySem.W.findIn K (.ref D) "__getattr__" = some none) && (decide (PySem.W.subIn K (.ref D) (.type "BaseException") = some true) &&
  (PySem.W.hasDictIn K D && (decide (PySem.W.findIn K (.ref D) "__class__" = some (some (.builtin "object.__class__"))) && (decide (PySem.W.specialIn K (.builtin "object.__class__") "__get__" = some (some (.builtin "getset_descriptor.__get__"))) &&
  (decide (PySem.W.takesIn K (.builtin "object.__class__") = some true) && decide (PySem.W.mroIn K D (.type "object") = some true)))))))
theorem exB_ok {K : PySem.W.Frag} {D : Addr} (h : exB K D = true) : ExcC K D := by
  obtain ⟨h1, h⟩ := Bool.and_eq_true_iff.mp h
  obtain ⟨h2, h⟩ := Bool.and_eq_true_iff.mp h
  obtain ⟨h3, h⟩ := Bool.and_eq_true_iff.mp h
  obtain ⟨h4, h⟩ := Bool.and_eq_true_iff.mp h
  obtain ⟨h5, h⟩ := Bool.and_eq_true_iff.mp h
  obtain ⟨h6, h⟩ := Bool.and_eq_true_iff.mp h
  obtain ⟨h7, h8⟩ := Bool.and_eq_true_iff.mp h
  exact ⟨of_decide_eq_true h1, of_decide_eq_true h2, of_decide_eq_true h3, h4, of_decide_eq_true h5, of_decide_eq_true h6, of_decide_eq_true h7, of_decide_eq_true h8⟩
def oneB (K : PySem.W.Frag) (c : Cls) (Er : Addr) (i : Nat) : Bool := exB K (c.get i) && (PySem.W.keepIn K (.ref (c.get i)) && (decide (PySem.W.kitOne K (.ref (c.get i)) (.ref Er) = some true) && (decide (PySem.W.kitOne K (.ref (c.get i)) (.type "ValueError") = some true) &&
  (List.range 16).all fun j => decide (PySem.W.kitOne K (.ref (c.get i)) (.ref (c.get j)) = some (decide (j = i))))))
def okB (K : PySem.W.Frag) (c : Cls) (Er : Addr) : Bool := (List.range 16).all fun i => oneB K c Er i
def ownB (K : PySem.W.Frag) (c : Cls) : Bool := (List.range 14).all fun i => PySem.W.excIn K (c.get i) bmVE "ValueError.__new__"
section
variable {K : PySem.W.Frag} {c : Cls} {Er : Addr}
theorem okB_at (h : okB K c Er = true) (i : Nat) (hi : i < 16) : oneB K c Er i = true := List.all_eq_true.mp h i (List.mem_range.mpr hi)
theorem all_own (h : ownB K c = true) : ∀ i, i < 14 → PySem.W.excIn K (c.get i) bmVE "ValueError.__new__" = true := fun i hi => List.all_eq_true.mp h i (List.mem_range.mpr hi)
theorem all_is (h : okB K c Er = true) : ∀ i, i < 16 → ExcC K (c.get i) := fun i hi => exB_ok (Bool.and_eq_true_iff.mp (okB_at h i hi)).1
theorem all_kp (h : okB K c Er = true) : ∀ i, i < 16 → PySem.W.keepIn K (.ref (c.get i)) = true := fun i hi => (Bool.and_eq_true_iff.mp (Bool.and_eq_true_iff.mp (okB_at h i hi)).2).1
theorem all_kE (h : okB K c Er = true) : ∀ i, i < 16 → PySem.W.kitOne K (.ref (c.get i)) (.ref Er) = some true := fun i hi => of_decide_eq_true (Bool.and_eq_true_iff.mp (Bool.and_eq_true_iff.mp (Bool.and_eq_true_iff.mp (okB_at h i hi)).2).2).1
theorem all_kV (h : okB K c Er = true) : ∀ i, i < 16 → PySem.W.kitOne K (.ref (c.get i)) (.type "ValueError") = some true := fun i hi => of_decide_eq_true (Bool.and_eq_true_iff.mp (Bool.and_eq_true_iff.mp (Bool.and_eq_true_iff.mp (Bool.and_eq_true_iff.mp (okB_at h i hi)).2).2).2).1
theorem all_kit (h : okB K c Er = true) : ∀ i, i < 16 → ∀ j, j < 16 → PySem.W.kitOne K (.ref (c.get i)) (.ref (c.get j)) = some (decide (j = i)) := fun i hi j hj =>
  of_decide_eq_true (List.all_eq_true.mp (Bool.and_eq_true_iff.mp (Bool.and_eq_true_iff.mp (Bool.and_eq_true_iff.mp (Bool.and_eq_true_iff.mp (okB_at h i hi)).2).2).2).2 j (List.mem_range.mpr hj))
end
def oexB (K : PySem.W.Frag) (C : Addr) : Bool := match K.lookup C with
  | some ⟨.type "type", _, .cls cd, sl⟩ => (match cd.mro, sl.toList with
    | .ref C' :: bm, [_, _, _, _, some (.builtin n), _] => (C' == C && n == "ValueError.__new__") && (!cd.hasDel && cd.hasDict && PySem.HandSPX.refsVE bm)
    | _, _ => false)
  | _ => false
theorem oexB_cls {K : PySem.W.Frag} {C : Addr} (q : oexB K C = true) : ∃ nm q N bs bm sn sub ab col dd k0 k1 k2 k3 k5, K.lookup C = some (excClassObj nm q C N bs bm true sn sub ab col dd k0 k1 k2 k3 k5 "ValueError.__new__") ∧ PySem.HandSPX.refsVE bm = true := by
  unfold oexB at q
  split at q
  · rename_i dd cd sl ho
    split at q
    · rename_i C' bm k0 k1 k2 k3 n k5 hm hs
      simp only [Bool.and_eq_true, beq_iff_eq, Bool.not_eq_true'] at q
      obtain ⟨⟨rfl, rfl⟩, ⟨hdel, hdict⟩, hok⟩ := q
      obtain ⟨nm, bs, mro, ns, qn, hd, sn, sub, ab, col, del⟩ := cd
      dsimp only at hm hdel hdict
      subst hm hdel hdict
      obtain ⟨l⟩ := sl
      simp only at hs
      subst hs
      exact ⟨nm, qn, ns, bs, bm, sn, sub, ab, col, dd, k0, k1, k2, k3, k5, ho, hok⟩
    · cases q
  · cases q
/-! the end -/
theorem all_mk {l : PySem.W.OpenLaw} {w : World} {K : PySem.W.Frag} {h : Heap} {mg : Str → Option Value} {fa f0 f1 f2 f3 f4 : Addr} (X : K.In h) (G : h.Ns mainGlobals mg) (hfa : mg "law" = some (.ref fa))
    {od0 an0 od1 an1 od2 an2 od3 an3 od4 an4 : Option Addr}
    {sl0 sl1 sl2 sl3 sl4 : Array (Option Value)} {oc0 kV0 dc0 pm0 cd0 ct0 oc1 kV1 dc1 pm1 cd1 ct1 oc2 kV2 dc2 pm2 cd2 ct2 oc3 kV3 dc3 pm3 cd3 ct3 oc4 kV4 dc4 pm4 cd4 ct4 : Value}
    (a0 : PySem.W.nsIn K mainGlobals "law" = some (some (.ref f0)))
    (l0 : K.lookup f0 = some ⟨oc0, od0, .func (PySem.W.fnOf "law" "law" (defArgs sLaw) (defBody sLaw) (defScope sLaw) .none kV0 dc0 pm0 an0 cd0 ct0), sl0⟩)
    (c0 : PySem.W.codeIn K cd0 "law" = true) (k0 : PySem.W.keepIn K (.ref f0) = true)
    (a1 : PySem.W.nsIn K mainGlobals "_law_pool" = some (some (.ref f1)))
    (l1 : K.lookup f1 = some ⟨oc1, od1, .func (PySem.W.fnOf "_law_pool" "_law_pool" (defArgs sPool) (defBody sPool) (defScope sPool) .none kV1 dc1 pm1 an1 cd1 ct1), sl1⟩)
    (c1 : PySem.W.codeIn K cd1 "_law_pool" = true) (k1 : PySem.W.keepIn K (.ref f1) = true)
    (a2 : PySem.W.nsIn K mainGlobals "_law_take" = some (some (.ref f2)))
    (l2 : K.lookup f2 = some ⟨oc2, od2, .func (PySem.W.fnOf "_law_take" "_law_take" (defArgs sTake) (defBody sTake) (defScope sTake) .none kV2 dc2 pm2 an2 cd2 ct2), sl2⟩)
    (c2 : PySem.W.codeIn K cd2 "_law_take" = true) (k2 : PySem.W.keepIn K (.ref f2) = true)
    (a3 : PySem.W.nsIn K mainGlobals "_law_made" = some (some (.ref f3)))
    (l3 : K.lookup f3 = some ⟨oc3, od3, .func (PySem.W.fnOf "_law_made" "_law_made" (defArgs sMade) (defBody sMade) (defScope sMade) .none kV3 dc3 pm3 an3 cd3 ct3), sl3⟩)
    (c3 : PySem.W.codeIn K cd3 "_law_made" = true) (k3 : PySem.W.keepIn K (.ref f3) = true)
    (a4 : PySem.W.nsIn K mainGlobals "_law_kinds" = some (some (.ref f4)))
    (l4 : K.lookup f4 = some ⟨oc4, od4, .func (PySem.W.fnOf "_law_kinds" "_law_kinds" (defArgs sKinds) (defBody sKinds) (defScope sKinds) .none kV4 dc4 pm4 an4 cd4 ct4), sl4⟩)
    (c4 : PySem.W.codeIn K cd4 "_law_kinds" = true) (k4 : PySem.W.keepIn K (.ref f4) = true)
    (z0 : PySem.W.nsIn K mainGlobals "len" = some none)
    (z1 : PySem.W.nsIn K mainGlobals "range" = some none)
    (z2 : PySem.W.nsIn K mainGlobals "isinstance" = some none)
    (z3 : PySem.W.nsIn K mainGlobals "ValueError" = some none)
    {K0 K1 K2 K3 K4 K5 K6 K7 K8 K9 K10 K11 K12 K13 K14 K15 Er fI1 fI2 : Addr} {odI1 anI1 odI2 anI2 : Option Addr} {slI1 slI2 : Array (Option Value)} {ocI1 kVI1 dcI1 pmI1 cdI1 ctI1 ocI2 kVI2 dcI2 pmI2 cdI2 ctI2 : Value}
    (aK0 : PySem.W.nsIn K mainGlobals "NoKind" = some (some (.ref K0)))
    (aK1 : PySem.W.nsIn K mainGlobals "NoText" = some (some (.ref K1)))
    (aK2 : PySem.W.nsIn K mainGlobals "NoStep" = some (some (.ref K2)))
    (aK3 : PySem.W.nsIn K mainGlobals "TooLong" = some (some (.ref K3)))
    (aK4 : PySem.W.nsIn K mainGlobals "TooMany" = some (some (.ref K4)))
    (aK5 : PySem.W.nsIn K mainGlobals "NoLong" = some (some (.ref K5)))
    (aK6 : PySem.W.nsIn K mainGlobals "NoNumber" = some (some (.ref K6)))
    (aK7 : PySem.W.nsIn K mainGlobals "NoRow" = some (some (.ref K7)))
    (aK8 : PySem.W.nsIn K mainGlobals "NoName" = some (some (.ref K8)))
    (aK9 : PySem.W.nsIn K mainGlobals "Twice" = some (some (.ref K9)))
    (aK10 : PySem.W.nsIn K mainGlobals "Used" = some (some (.ref K10)))
    (aK11 : PySem.W.nsIn K mainGlobals "NoGap" = some (some (.ref K11)))
    (aK12 : PySem.W.nsIn K mainGlobals "NoTree" = some (some (.ref K12)))
    (aK13 : PySem.W.nsIn K mainGlobals "NoUndo" = some (some (.ref K13)))
    (aK14 : PySem.W.nsIn K mainGlobals "NoFit" = some (some (.ref K14)))
    (aK15 : PySem.W.nsIn K mainGlobals "NoMaking" = some (some (.ref K15)))
    (aE : PySem.W.nsIn K mainGlobals "KindError" = some (some (.ref Er)))
    (iI1 : PySem.W.findIn K (.ref K14) "__init__" = some (some (.ref fI1)))
    (lI1 : K.lookup fI1 = some ⟨ocI1, odI1, .func (PySem.W.fnOf "__init__" "NoFit.__init__" (defArgs sFitI) (defBody sFitI) (defScope sFitI) .none kVI1 dcI1 pmI1 anI1 cdI1 ctI1), slI1⟩)
    (cI1 : PySem.W.codeIn K cdI1 "NoFit.__init__" = true)
    (kI1 : PySem.W.keepIn K (.ref fI1) = true)
    (tI1 : PySem.W.typeIn K (.ref fI1) = some (.type "function"))
    (oC1 : oexB K K14 = true)
    (oS1 : PySem.W.findIn K (.ref K14) "__setattr__" = some (some (.builtin "object.__setattr__")))
    (oE1 : PySem.W.subIn K (.ref K14) (.type "BaseException") = some true)
    (oT1 : PySem.W.typeIn K (.ref K14) = some (.type "type"))
    (oK1 : PySem.W.keepIn K (.ref K14) = true)
    (iI2 : PySem.W.findIn K (.ref K15) "__init__" = some (some (.ref fI2)))
    (lI2 : K.lookup fI2 = some ⟨ocI2, odI2, .func (PySem.W.fnOf "__init__" "NoMaking.__init__" (defArgs sMakI) (defBody sMakI) (defScope sMakI) .none kVI2 dcI2 pmI2 anI2 cdI2 ctI2), slI2⟩)
    (cI2 : PySem.W.codeIn K cdI2 "NoMaking.__init__" = true)
    (kI2 : PySem.W.keepIn K (.ref fI2) = true)
    (tI2 : PySem.W.typeIn K (.ref fI2) = some (.type "function"))
    (oC2 : oexB K K15 = true)
    (oS2 : PySem.W.findIn K (.ref K15) "__setattr__" = some (some (.builtin "object.__setattr__")))
    (oE2 : PySem.W.subIn K (.ref K15) (.type "BaseException") = some true)
    (oT2 : PySem.W.typeIn K (.ref K15) = some (.type "type"))
    (oK2 : PySem.W.keepIn K (.ref K15) = true)
    (nF : PySem.W.findIn K (.ref K14) "place" = some none)
    (nM : PySem.W.findIn K (.ref K15) "at" = some none)
    (xF : xfB K K14 = true)
    (xM : xfB K K15 = true)
    (sG : PySem.W.specialIn K (.ref Er) "__getattribute__" = some (some (.builtin "type.__getattribute__")))
    (rI : PySem.W.readsIn K Er (.type "type") = true)
    (vV : PySem.W.findCls K (.ref Er) (.type "type") "__init__" = some (.val (.builtin "ValueError.__init__")))
    (okI : okB K (⟨K0, K1, K2, K3, K4, K5, K6, K7, K8, K9, K10, K11, K12, K13, K14, K15⟩ : Cls) Er = true)
    (okO : ownB K (⟨K0, K1, K2, K3, K4, K5, K6, K7, K8, K9, K10, K11, K12, K13, K14, K15⟩ : Cls) = true) :
    ∃ fd : FuncData, (∀ (s : Shared) (v : Value), BindsTo s fd ⟨[v], []⟩ [("_law_script", v)]) ∧ ∀ base : Heap, K.In base → base.Ns mainGlobals mg → FnOk l.prog w K mg base CX0 6 fa fd ["_law_script"] (spLaw K) := by
  have e := hfa.symm.trans (PySem.W.mg_of X G a0)
  cases e
  have F0 := fun_mk (st := sLaw) l0 c0 k0
  have F1 := fun_mk (st := sPool) l1 c1 k1
  have b1 := F1.binds (ps := ["_law_script", "_law_k"]) fun _ _ _ _ _ _ us hl => match us, hl with | [_, _], _ => rfl
  have g1 := PySem.W.mg_of X G a1
  have F2 := fun_mk (st := sTake) l2 c2 k2
  have b2 := F2.binds (ps := ["_law_pool_here", "_law_many"]) fun _ _ _ _ _ _ us hl => match us, hl with | [_, _], _ => rfl
  have g2 := PySem.W.mg_of X G a2
  have F3 := fun_mk (st := sMade) l3 c3 k3
  have b3 := F3.binds (ps := ["_law_way", "_law_thing"]) fun _ _ _ _ _ _ us hl => match us, hl with | [_, _], _ => rfl
  have g3 := PySem.W.mg_of X G a3
  have F4 := fun_mk (st := sKinds) l4 c4 k4
  have b4 := F4.binds (ps := ["_law_e"]) fun _ _ _ _ _ _ us hl => match us, hl with | [_], _ => rfl
  have g4 := PySem.W.mg_of X G a4
  have m0 := PySem.W.mg_none_of X G z0
  have m1 := PySem.W.mg_none_of X G z1
  have m2 := PySem.W.mg_none_of X G z2
  have m3 := PySem.W.mg_none_of X G z3
  have gK0 := PySem.W.mg_of X G aK0
  have gK1 := PySem.W.mg_of X G aK1
  have gK2 := PySem.W.mg_of X G aK2
  have gK3 := PySem.W.mg_of X G aK3
  have gK4 := PySem.W.mg_of X G aK4
  have gK5 := PySem.W.mg_of X G aK5
  have gK6 := PySem.W.mg_of X G aK6
  have gK7 := PySem.W.mg_of X G aK7
  have gK8 := PySem.W.mg_of X G aK8
  have gK9 := PySem.W.mg_of X G aK9
  have gK10 := PySem.W.mg_of X G aK10
  have gK11 := PySem.W.mg_of X G aK11
  have gK12 := PySem.W.mg_of X G aK12
  have gK13 := PySem.W.mg_of X G aK13
  have gK14 := PySem.W.mg_of X G aK14
  have gK15 := PySem.W.mg_of X G aK15
  have gE := PySem.W.mg_of X G aE
  have FI1 := fun_mk (st := sFitI) lI1 cI1 kI1
  have bI1 := FI1.binds (ps := ["self", "place"]) fun _ _ _ _ _ _ us hl => match us, hl with | [_, _], _ => rfl
  have T1 : OexC K K14 := ⟨oexB_cls oC1, oS1, oE1, oT1, oK1⟩
  have FI2 := fun_mk (st := sMakI) lI2 cI2 kI2
  have bI2 := FI2.binds (ps := ["self", "at"]) fun _ _ _ _ _ _ us hl => match us, hl with | [_, _], _ => rfl
  have T2 : OexC K K15 := ⟨oexB_cls oC2, oS2, oE2, oT2, oK2⟩
  have TC : ClsOk K mg (⟨K0, K1, K2, K3, K4, K5, K6, K7, K8, K9, K10, K11, K12, K13, K14, K15⟩ : Cls) := ⟨gK0, gK1, gK2, gK3, gK4, gK5, gK6, gK7, gK8, gK9, gK10, gK11, gK12, gK13, gK14, gK15, all_is okI, all_kit okI, all_own okO, all_kp okI⟩
  exact ⟨PySem.W.fnOf "law" "law" (defArgs sLaw) (defBody sLaw) (defScope sLaw) .none kV0 dc0 pm0 an0 cd0 ct0, fun s v => .of_eq rfl, fun base _ _ => by
    have GP := ok_pool (P := l.prog) (w := w) (mg := mg) (base := base) F1 m0
    have GT := ok_take (P := l.prog) (w := w) (mg := mg) (base := base) F2
    have G1 := ok_fitI (P := l.prog) (w := w) (mg := mg) (base := base) FI1 gE sG rI vV T1 nF
    have G2 := ok_makI (P := l.prog) (w := w) (mg := mg) (base := base) FI2 gE sG rI vV T2 nM
    have GM := ok_made (P := l.prog) (w := w) (base := base) F3 TC G1 bI1 T1 iI1 tI1 G2 bI2 T2 iI2 tI2 m0
    have GK := ok_kinds (P := l.prog) (w := w) (base := base) F4 TC m2
    exact ok_law F0 GP F1.kp b1 g1 GT F2.kp b2 g2 GM F3.kp b3 g3 GK F4.kp b4 g4 TC gE (all_kE okI) (all_kV okI) (xfB_ok xF) nF (xfB_ok xM) nM m0 m1 m2 m3⟩
theorem walk {l : PySem.W.OpenLaw} {q : Program} {loose : List Str} {XP : (Str → Option Value) → Heap → Prop} {YP : World → Heap → Prop} {d : DefRec} {K : Params → PySem.W.Frag} (hn : l.most = some 63) (hdf : d.params.defaults = [])
    (hY : ∀ (w : World) (h : Heap), YP w h → (K w.params).In h)
    (F : ∀ (w : World) (mg : Str → Option Value) (fa : Addr) (h : Heap), (K w.params).In h → h.Ns mainGlobals mg → mg d.name = some (.ref fa) →
      ∃ fd : FuncData, (∀ (s : Shared) (u : Value), BindsTo s fd ⟨[u], []⟩ [("_law_script", u)]) ∧ ∀ base : Heap, (K w.params).In base → base.Ns mainGlobals mg → FnOk l.prog w (K w.params) mg base CX0 6 fa fd ["_law_script"] (spLaw (K w.params))) :
    PySem.W.WalkO q loose XP YP l.row.toRowW d [] (fun f vs => PySem.call f vs) :=
  L2.walk_of (n := 63) (k := 6) (x := "_law_script") (CX := fun _ => CX0) (sp := fun w => spLaw (K w.params)) hn (by decide) hdf ⟨rfl, by decide, by decide⟩ hY F (fun _ _ a ns hl _ hS => ⟨a, ns, rfl, hS, hl, fun _ => rfl⟩) fun _ _ _ _ _ z => z
end Kf
open PySem PySem.W PyProof.Rows
set_option maxRecDepth 100000 in
set_option maxHeartbeats 0 in
theorem PySem.Challenge.cw_kindfill_k13_refusals_holds : PySem.Challenge.rw_kindfill_k13_refusals.Holds := by
  w_on; o_law; k_head; (case hw => w_witness2)
  k_fill
  refine Kf.walk (l := PySem.Challenge.rw_kindfill_k13_refusals) rfl rfl (fun w h Y => PySem.W.kIn_of Y) ?F
  case F =>
    intro w mg fa h KX G hmg
    refine' Kf.all_mk KX G hmg ?a0 ?l0 ?c0 ?k0 ?a1 ?l1 ?c1 ?k1 ?a2 ?l2 ?c2 ?k2 ?a3 ?l3 ?c3 ?k3 ?a4 ?l4 ?c4 ?k4 ?z0 ?z1 ?z2 ?z3 ?aK0 ?aK1 ?aK2 ?aK3 ?aK4 ?aK5 ?aK6 ?aK7 ?aK8 ?aK9 ?aK10 ?aK11 ?aK12 ?aK13 ?aK14 ?aK15 ?aE ?iI1 ?lI1 ?cI1 ?kI1 ?tI1 ?oC1 ?oS1 ?oE1 ?oT1 ?oK1 ?iI2 ?lI2 ?cI2 ?kI2 ?tI2 ?oC2 ?oS2 ?oE2 ?oT2 ?oK2 ?nF ?nM ?xF ?xM ?sG ?rI ?vV ?okI ?okO
    (case a0 => k_is)
    (case l0 => k_is)
    (case c0 => k_is)
    (case k0 => k_is)
    (case a1 => k_is)
    (case l1 => k_is)
    (case c1 => k_is)
    (case k1 => k_is)
    (case a2 => k_is)
    (case l2 => k_is)
    (case c2 => k_is)
    (case k2 => k_is)
    (case a3 => k_is)
    (case l3 => k_is)
    (case c3 => k_is)
    (case k3 => k_is)
    (case a4 => k_is)
    (case l4 => k_is)
    (case c4 => k_is)
    (case k4 => k_is)
    (case z0 => k_is)
    (case z1 => k_is)
    (case z2 => k_is)
    (case z3 => k_is)
    (case aK0 => k_is)
    (case aK1 => k_is)
    (case aK2 => k_is)
    (case aK3 => k_is)
    (case aK4 => k_is)
    (case aK5 => k_is)
    (case aK6 => k_is)
    (case aK7 => k_is)
    (case aK8 => k_is)
    (case aK9 => k_is)
    (case aK10 => k_is)
    (case aK11 => k_is)
    (case aK12 => k_is)
    (case aK13 => k_is)
    (case aK14 => k_is)
    (case aK15 => k_is)
    (case aE => k_is)
    (case iI1 => k_is)
    (case lI1 => k_is)
    (case cI1 => k_is)
    (case kI1 => k_is)
    (case tI1 => k_is)
    (case oC1 => first | kernel_rfl | decide +kernel | rfl)
    (case oS1 => k_is)
    (case oE1 => k_is)
    (case oT1 => k_is)
    (case oK1 => k_is)
    (case iI2 => k_is)
    (case lI2 => k_is)
    (case cI2 => k_is)
    (case kI2 => k_is)
    (case tI2 => k_is)
    (case oC2 => first | kernel_rfl | decide +kernel | rfl)
    (case oS2 => k_is)
    (case oE2 => k_is)
    (case oT2 => k_is)
    (case oK2 => k_is)
    (case nF => k_is)
    (case nM => k_is)
    (case xF => first | kernel_rfl | decide +kernel | rfl)
    (case xM => first | kernel_rfl | decide +kernel | rfl)
    (case sG => k_is)
    (case rI => k_is)
    (case vV => k_is)
    (case okI => first | kernel_rfl | decide +kernel | rfl)
    (case okO => first | kernel_rfl | decide +kernel | rfl)
