import PyProof.Rows.All
import Wide.All
import OpenK.AllK
import Wide.FinOn
import HandS.ForMost
import HandS.IsInst
import HandS.AnyAll
import HandS.EndTab
import HandS.More
import HandS.Walk
import PySem.Challenge.RW_kindfill_k02_is_kind
set_option Elab.async false
set_option maxRecDepth 100000
namespace Kg
open PySem PySem.Spec PyProof.Rows L2 GxR
section
variable {M : Model} {A : Around} {E : Value → Shared → Prop} {s : Shared}
/-- the code object of a generator expression, found in the def's table or put there -/
theorem code_any {env : Env} {c P : Addr} {tab : Array Value} {pos : Pos} {qn : Str} {scope : Scope} {Q : Value → Shared → Prop} (hc : env.code = .ref c) (cd : PySem.W.CodeHd s.heap c P)
    (hP : s.heap.get? P = some { cls := .none, data := .fields tab }) (ht : TriplesOk tab.toList)
    (k : ∀ (code : Value) (hp : Heap) (tk : Nat) (tab' : Array Value), Heap.ExtBut P s.heap hp → s.heap.objs.size ≤ hp.objs.size → hp.get? P = some { cls := .none, data := .fields tab' } → (∃ more, tab' = tab ++ more) → TriplesOk tab'.toList →
      Q code { s with heap := hp, toks := tk }) : wpAny M A (genexprCode env pos qn scope) Q E s := by
  cases hf : codeAmong pos tab.toList with
  | some cv => exact wpAny_genexprCode_hit hc (cd.code hP ht) hf (k cv s.heap s.toks tab (Heap.ExtBut.refl _ _) (Nat.le_refl _) hP ⟨#[], by simp⟩ ht)
  | none =>
    refine wpAny_genexprCodeX hc (cd.code hP ht) (cd.tab hP) hf fun c' hp tk ext lo hi isC _ isT _ => ?_
    obtain ⟨_, _, _, _, _, _, _, _, _, _, _, _, _, _, _, _, _, _, _, tri, _⟩ := isC
    exact k _ hp tk _ ext (Nat.le_of_lt (Nat.lt_of_le_of_lt lo hi)) isT.2 ⟨_, rfl⟩ tri
end
/-- a test of the sign c that may read the module's names -/
def EltG (prog : Program) (w : World) (mg : Str → Option Value) (scope : Scope) (x : Str) (elt : Expr) (pb : Nat → Bool) : Prop :=
  ∀ (ce : Env) (A : Around) (E : Value → Shared → Prop) (c : Nat) (t : Tok) (s : Shared) (m : Str → Option Value), ce.scope = scope → ce.globals = mainGlobals → s.heap.Ns mainGlobals mg → s.heap.Ns ce.locals m → m x = some (.str ⟨#[c]⟩ t) →
    wpAny (model prog w) A (eval elt ce) (fun y s' => y = .bool (pb c) ∧ Keeps s s') E s
section
variable {X : Cx} {pins : List (Addr × Obj)} {σ : L2.St} {H : Hp} {s : Shared}
theorem gen_signs {c P : Addr} {elt iter : Expr} {x : Str} {px gpos : Pos} {scope : Scope} {pb : Nat → Bool} {te : TE} {k : Nat} {Qg : Value → Shared → Prop} {R : Str → Hp → Prop}
    (hr : Room k X.A) (TB : TabB X.base X.mg c P) (hcode : X.env.code = .ref c) (S : GenS X.env scope x) (hi : PE X iter te) (el : EltG X.prog X.w X.mg scope x elt pb)
    (hs : ∀ v, genFold iter X.env v = pure v) (I : Inv X pins σ H s) (h : te σ H fun v H1 => ∃ z : Str, v = .str z ∧ TabG H1 P ∧ R z H1)
    (q : ∀ z H1 g sg, R z H1 → Ready X pins σ H1 P z pb g sg → Qg (.ref g) sg) :
    wpAny (model X.prog X.w) X.A (eval (.GeneratorExp elt [⟨.Name x px, iter, [], 0⟩] scope gpos) X.env) Qg X.xe s := by
  refine wpAny_GeneratorExp_walksQ hr.hd S.co (closure_ok S.free) S.cell S.dot S.loc S.kind ?room ?main hs
  case room =>
    have := hr.dp
    omega
  refine thn (hi.run pins s σ H _ I h) ?_
  rintro xv sa ⟨v, H1, J, rv, z, rfl, ⟨tab, hT, tri⟩, hR⟩
  obtain ⟨tok, rfl⟩ : ∃ tok, xv = Value.str z tok := rv
  refine wpAny_pyIter_str fun ob St wk st0 => ⟨J.nolimit.push ob, ?_⟩
  have atP := J.hok P _ hT
  have ltP : P < sa.heap.objs.size := Heap.lt_size atP
  have up : ∀ b u, sa.heap.get? b = some u → (sa.heap.push ob).get? b = some u := fun b u e => Heap.get?_push_of_some _ e
  refine code_any (s := { sa with heap := sa.heap.push ob }) hcode (TB.code.keeps fun b u e => up _ _ (J.bk b u e)) (up _ _ atP) tri fun code hp tk tab' ext grown atP' more tri' => ?_
  have size1 : (sa.heap.push ob).objs.size = sa.heap.objs.size + 1 := Heap.size_push ..
  have big : sa.heap.objs.size < hp.objs.size := by
    have e : (sa.heap.push ob).objs.size ≤ hp.objs.size := grown
    omega
  have keep : ∀ b u, b ≠ P → sa.heap.get? b = some u → hp.get? b = some u := fun b u n e => ext b u n (up b u e)
  have glob : hp.Ns mainGlobals X.mg := ((J.mod.glob.keeps J.bk).push ob).extBut ext TB.gP
  obtain ⟨_, stat, _⟩ := J.nolimit
  have statP : cStatics ≠ P := fun e => by
    obtain ⟨_, _, _, g1, g2, _⟩ := stat
    rw [e, atP] at g1
    cases g1
    cases g2
  obtain ⟨bm, bo, b1, b2, b3, b4, b5, b6, b7, b8⟩ := TB.bm
  refine wpAny_builtinsFor (m := X.mg) (by rw [J.ok.glob]; exact glob) b1 b2 (keep _ _ b4 (J.bk _ _ b5)) b6 b7 b8 ?_
  refine ⟨sa.heap.objs.size, [sa.heap.objs.size], [sa.heap.objs.size], z.cps.size, SignAt z, St, fun _ => true, fun i y => ∃ cc, z.cps[i]? = some cc ∧ y = .bool (pb cc), rfl, wk, ?st, ?fp, (J.nolimit.push ob).extBut ext statP, ?wr, ?quiet, ?done⟩
  case st =>
    refine (wk X.A hr.hd).frame _ _ _ st0 fun b hb u e => ext b u (fun e2 => ?_) e
    exact Nat.ne_of_lt ltP (e2.symm.trans (List.mem_singleton.mp hb))
  case fp =>
    intro b hb
    rw [List.mem_singleton.mp hb]
    exact big
  case wr =>
    intro e
    exact Nat.ne_of_lt stat.lt (List.mem_singleton.mp e)
  case quiet =>
    intro href sub
    refine ⟨?_, ?_⟩
    · intro A' E' i v s2 m2 _ _ _ _ _
      rw [List.forIn_nil]
      exact wpAny_pure ⟨rfl, keeps_refl _⟩
    · intro A' E' i v s2 m2 _ hv _ hn hm hk
      obtain ⟨cc, u, hcc, rfl⟩ := hv
      have glob2 : s2.heap.Ns mainGlobals X.mg := by
        obtain ⟨o1, es, ep, g1, g2⟩ := glob
        refine ⟨o1, es, ep, hk mainGlobals (List.mem_range.mpr (Heap.lt_size g1)) (fun e => ?_) _ (sub _ _ g1), g2⟩
        exact Nat.ne_of_lt (J.mod.glob.keeps J.bk).lt (List.mem_singleton.mp e)
      exact wpAny_mono (el _ A' E' cc u s2 m2 rfl J.ok.glob glob2 hn hm) (fun y s3 r => ⟨⟨cc, hcc, r.1⟩, r.2⟩) fun _ _ e => e
  case done =>
    intro g h5 tk5 gs bare lt5 sz5 keep5 W at0
    rw [GxR.passing_true, List.length_range] at W
    obtain ⟨more, rfl⟩ := more
    refine q z H1 g _ hR ⟨_, _, _, _, _, W.in4_1, at0, ?_, fun sz mv => ?_⟩
    · rintro j y sj Qj Ej ⟨i, hij, cc, hcc, rfl⟩ hQj
      obtain ⟨hj, ei⟩ := List.getElem?_eq_some_iff.mp hij
      rw [List.getElem_range] at ei
      subst ei
      have e9 : z.cps.toList[j]? = some cc := by
        rw [Array.getElem?_toList]
        exact hcc
      have hQ2 : Qj (trF pb z.cps.toList j) sj := hQj
      rw [trF_some e9] at hQ2
      exact wpAny_truthy_bool hQ2
    · have old : ∀ b u, sa.heap.get? b = some u → b ∉ hp.objs.size :: [sa.heap.objs.size] := fun b u e m => by
        have lb : b < sa.heap.objs.size := Heap.lt_size e
        rcases List.mem_cons.mp m with m | m
        · exact Nat.lt_asymm big (m ▸ lb)
        · exact Nat.ne_of_lt lb (List.mem_singleton.mp m)
      have J2 := inv_tab (more := more) (h' := sz.heap) (g' := sz.gens) (d' := sz.drawn) (t' := sz.toks) J hT (fun b u n e => mv.heap b u (old b u e) (keep5 b u (keep b u n e)))
        (mv.heap P _ (old P _ atP) (keep5 P _ atP')) (AllBare.movedS (J.bare.push bare) mv)
      rw [sh_eta sa sz mv.os] at J2
      exact ⟨upd H1 P (.tbl (tab ++ more)), ⟨⟨tab ++ more, upd_same, tri'⟩, fun b n => upd_ne n⟩, J2⟩
/-- all(test for x in e), e a text, the test reading the module's names -/
theorem pe_allG {c P : Addr} {elt iter : Expr} {x : Str} {px p pos gpos : Pos} {scope : Scope} {pb : Nat → Bool} {te : TE} {k : Nat}
    (hr : Room k X.A) (hg : Gl X "all") (hm : X.mg "all" = none) (hb : bootBuiltins "all" = some (.builtin "all")) (TB : TabB X.base X.mg c P) (hcode : X.env.code = .ref c) (S : GenS X.env scope x) (hi : PE X iter te) (el : EltG X.prog X.w X.mg scope x elt pb)
    (hs : ∀ v, genFold iter X.env v = pure v)
    (he : starEach [.GeneratorExp elt [⟨.Name x px, iter, [], 0⟩] scope gpos] X.env = (false, eval (.GeneratorExp elt [⟨.Name x px, iter, [], 0⟩] scope gpos) X.env) :: starEach [] X.env := by rfl) :
    PE X (.Call (.Name "all" p) [.GeneratorExp elt [⟨.Name x px, iter, [], 0⟩] scope gpos] [] pos) (tAllS P pb te) := by
  constructor
  intro pins s σ H Q I h
  refine wpAny_Call_Name_kw (ld_blt I hg hm hb (PyProof.Rows.callWith_builtin1 ?_ he (by rfl)))
  rw [he]
  refine Calls.spliced_cons (gen_signs (R := fun z H1 => ∀ H2, Tabbed P H1 H2 → Q (.bl (z.cps.toList.all pb)) H2) hr TB hcode S hi el hs I h fun z H1 g sg hR ready => ?_)
  obtain ⟨fp, wr, G, F, St, W, st0, tr, back⟩ := ready
  refine Calls.spliced_nil (call_all_walkS (W.self 0 _ _ _ st0 ⟨g, fp, wr, G, _, F, St, _, rfl, W, st0, tr, fun sz mv => ?_⟩))
  obtain ⟨H2, tb, J⟩ := back sz mv
  exact ⟨.bl _, H2, J, rfl, by rw [all_signs z pb]; exact hR H2 tb⟩
end
/-- x in NAME, NAME a text of the module -/
theorem elt_in {prog : Program} {w : World} {mg : Str → Option Value} {scope : Scope} {x g : Str} {k : Str} {t : Tok} {p1 p2 p3 : Pos} (hk : scope.kind = .function) (hl : scope.names.lookup x = some .local) (hg : scope.names.lookup g = some .globalImplicit) (hm : mg g = some (.str k t))
    (hd : (x == ("__debug__" : Str)) = false := by decide) (hd2 : (g == ("__debug__" : Str)) = false := by decide) :
    EltG prog w mg scope x (.Compare (.Name x p1) [.In] [.Name g p2] p3) (fun c => decide (c ∈ k.cps.toList)) := by
  intro ce A E c t s m hs hglob hns hn hx
  refine wpAny_Compare1 ?_
  refine wpAny_Name (wpAny_loadName_local (by rw [hs]; exact hk) (show ce.scope.names.lookup x = some .local by rw [hs]; exact hl) hn hx ?_) hd
  refine Calls.Name_function_global (by rw [hs]; exact hk) ?_ (Calls.loadGlobal_global (by rw [hglob]; exact hns) hm ?_) hd2
  · show ce.scope.names.lookup g = _
    rw [hs]
    exact hg
  · refine PyProof.Rows.in_str ⟨?_, keeps_tok _ _⟩
    rw [PySem.StrLaws.found_one k c]
end Kg
namespace Kf
open PySem L2
def top (i : Nat) : Stmt := PySem.Challenge.pw_kindfill_k02_is_kind.main.body.getD i (.Pass ⟨0, 0, 0, 0⟩)
abbrev sPool : Stmt := top 12
abbrev sTake : Stmt := top 13
/-- a pool at p: what is left of the cell, and a number -/
def PoolAt (H : Hp) (p : Addr) : Prop := ∃ c n : Int, H p = some (.lst [.int c, .int n]) ∧ 0 ≤ n ∧ n < 2147483647
def spTake : Sp := fun vs H Q _ => ∃ (p : Addr) (m : Int), vs = [.ref p, .int m] ∧ PoolAt H p ∧ 0 < m ∧ m < 1073741824 ∧
  ∀ (r : Int) (H' : Hp), 0 ≤ r → r < m → PoolAt H' p → (∀ b, b ≠ p → H' b = H b) → Q (.int r) H'
def spPool (K : PySem.W.Frag) : Sp := fun vs H Q _ => ∃ (a : Addr) (ns : List Int) (k : Nat), vs = [.ref a, .int (k : Int)] ∧ SqL K H a (ns.map V.int) ∧ ns.length ≤ 63 ∧ k ≤ 63 ∧
  ∀ (p : Addr) (H' : Hp), H p = none → PoolAt H' p → (∀ b, b ≠ p → H' b = H b) → Q (.ref p) H'
theorem nm_nat {x m : Int} (hm : 0 < m) : 0 ≤ x.fmod m ∧ x.fmod m < m := ⟨Int.fmod_nonneg_of_pos x hm, Int.fmod_lt_of_pos x hm⟩
section
variable {P : Program} {w : World} {K : PySem.W.Frag} {mg : Str → Option Value} {base : Heap}
theorem scTake : FnScope ["_law_pool_here", "_law_many", "_law_found"] ["_law_pool_here", "_law_many"] (defScope sTake) := ⟨rfl, rfl, rfl, by decide +kernel, rfl, by decide +kernel, by decide +kernel⟩
theorem ok_take {f : Addr} {fd : FuncData} (F : Fun K "_law_take" "_law_take" sTake f fd) : FnOk P w K mg base CX0 1 f fd ["_law_pool_here", "_law_many"] spTake := by
  refine F.ok scTake (fun vs H Q E h => ?_) (fun cdv A outer s H vs Q E hr h => ?_)
  · obtain ⟨p, m, rfl, _⟩ := h
    rfl
  · obtain ⟨p, m, rfl, ⟨c, n, hp, hn0, hn1⟩, hm0, hm1, k⟩ := h
    refine ⟨_, pss_cons (ps_if (pt_cmpR op_gt (pe_ix ix_list (pv 0) pe_int (fun _ _ => rfl)) pe_int (nomark _))
        (pss_cons (ps_set (i := 2) scTake.nd rfl (Or.inl rfl) (pe_op op_modN (pe_ix ix_list (pv 0) pe_int (fun _ _ => rfl)) (pv 1)))
        (pss_cons (ps_asg (pe_op op_fdivN (pe_ix ix_list (pv 0) pe_int (fun _ _ => rfl)) (pv 1)) (pg_sub (pv 0) pe_int set_list))
        (pss_one (ps_ret (pv 2))))) pss_nil)
      (pss_cons (ps_asg (pe_op op_modN (pe_op op_add (pe_op op_mul (pe_ix ix_list (pv 0) pe_int (fun _ _ => rfl)) pe_int) pe_int) pe_int) (pg_sub (pv 0) pe_int set_list))
      (pss_one (ps_ret (pe_op op_modN (pe_op op_fdivN (pe_op op_modN (pe_op op_mul (pe_ix ix_list (pv 0) pe_int (fun _ _ => rfl)) (pe_ix ix_list (pv 0) pe_int (fun _ _ => rfl))) pe_int) pe_int) (pv 1))))), ?_⟩
    refine ⟨_, rfl, p, _, _, _, rfl, rfl, SqL.of hp, atI_nat (j := 0) rfl, _, _, rfl, rfl, _, rfl, ?_⟩
    have M := nm_nat (x := c) hm0
    refine ite2 (fun _ => ?_) (fun _ => ?_)
    · refine ⟨_, rfl, p, _, _, _, rfl, rfl, SqL.of hp, atI_nat (j := 0) rfl, _, rfl, _, _, rfl, rfl, by omega, ?_⟩
      refine ⟨_, rfl, p, _, _, _, rfl, rfl, SqL.of hp, atI_nat (j := 0) rfl, _, rfl, _, _, rfl, rfl, ⟨by omega, by omega⟩, ?_⟩
      refine ⟨_, rfl, p, _, _, 0, rfl, rfl, hp, rfl, ?_⟩
      refine ⟨_, rfl, ?_⟩
      exact k _ _ M.1 M.2 ⟨_, _, upd_same, hn0, hn1⟩ fun b hb => upd_ne hb
    · have N0 := nm_nat (x := n * 48271 + 11) (m := 2147483647) (by decide)
      refine ⟨_, rfl, p, _, _, _, rfl, rfl, SqL.of hp, atI_nat (j := 1) rfl, _, _, rfl, rfl, .inl ⟨by omega, by omega⟩, _, _, rfl, rfl, _, _, rfl, rfl, (by show (2147483647 : Int) ≠ 0; decide), ?_⟩
      refine ⟨_, rfl, p, _, _, 1, rfl, rfl, hp, rfl, ?_⟩
      have N1 := nm_nat (x := (n * 48271 + 11).fmod 2147483647 * (n * 48271 + 11).fmod 2147483647) (m := 2147483629) (by decide)
      refine ⟨_, rfl, p, _, _, _, rfl, rfl, SqL.of upd_same, atI_nat (j := 1) rfl, _, rfl, p, _, _, _, rfl, rfl, SqL.of upd_same, atI_nat (j := 1) rfl, _, _, rfl, rfl, .inl ⟨by omega, by omega⟩, ?_⟩
      refine ⟨_, _, rfl, rfl, (by show (2147483629 : Int) ≠ 0; decide), _, _, rfl, rfl, ⟨by decide, by decide⟩, _, rfl, _, _, rfl, rfl, by omega, ?_⟩
      exact k _ _ (nm_nat hm0).1 (nm_nat hm0).2 ⟨_, _, upd_same, N0.1, N0.2⟩ fun b hb => upd_ne hb
theorem scPool : FnScope ["_law_script", "_law_k", "_law_cell", "_law_number"] ["_law_script", "_law_k"] (defScope sPool) := ⟨rfl, rfl, rfl, by decide +kernel, rfl, by decide +kernel, by decide +kernel⟩
theorem ok_pool {f : Addr} {fd : FuncData} (F : Fun K "_law_pool" "_law_pool" sPool f fd) (mLen : mg "len" = none) : FnOk P w K mg base CX0 1 f fd ["_law_script", "_law_k"] (spPool K) := by
  refine F.ok scPool (fun vs H Q E h => ?_) (fun cdv A outer s H vs Q E hr h => ?_)
  · obtain ⟨a, ns, j, rfl, _⟩ := h
    rfl
  · obtain ⟨a, ns, j, rfl, hS, hl, hj, k⟩ := h
    refine ⟨_, pss_cons (ps_set (i := 2) scPool.nd rfl (Or.inl rfl) pe_int)
      (pss_cons (ps_if (pt_cmpR op_lt (pv 1) (pe_callB call_len_seq (by rfl) mLen PySem.boot_len (pa_cons (pv 0) pa_nil)) (nomark _))
        (pss_one (ps_set (i := 2) scPool.nd rfl (Or.inl rfl) (pe_ix ix_list (pv 0) (pv 1) (fun _ _ => rfl)))) pss_nil)
      (pss_cons (ps_set (i := 3) scPool.nd rfl (Or.inl rfl) (pe_op op_modN (pe_op op_pow (pe_op op_add (pe_op op_add (pe_op op_modN (pv 2) pe_int) (pe_op op_mul (pe_op op_mul pe_int (pv 1)) (pv 1))) pe_int) pe_int) pe_int))
      (pss_cons (ps_if (pt_cmpR op_lt (pv 2) (pe_op op_pow pe_int pe_int) (nomark _))
        (pss_one (ps_set (i := 2) scPool.nd rfl (Or.inl rfl) pe_int)) pss_nil)
      (pss_one (ps_ret (pe_lst (pa_cons (pv 2) (pa_cons (pv 3) pa_nil)))))))), ?_⟩
    have B : ∀ c : Int, 0 ≤ (c.fmod 2147483629 + 104729 * (j : Int) * (j : Int) + 11) ∧ (c.fmod 2147483629 + 104729 * (j : Int) * (j : Int) + 11) < 2 ^ 33 := fun c => by
      have M := nm_nat (x := c) (m := 2147483629) (by decide)
      have hj2 : (j : Int) * (j : Int) ≤ 63 * 63 := Int.mul_le_mul (by omega) (by omega) (by omega) (by omega)
      have hj0 : 0 ≤ (j : Int) * (j : Int) := Int.mul_nonneg (by omega) (by omega)
      have e : 104729 * (j : Int) * (j : Int) = 104729 * ((j : Int) * (j : Int)) := Int.mul_assoc _ _ _
      omega
    refine ⟨_, rfl, _, rfl, a, _, rfl, .inl hS, _, _, rfl, rfl, _, rfl, ?_⟩
    refine ite2 (fun hlt => ?_) (fun _ => ?_)
    · have hj' : j < ns.length := by simpa using hlt
      refine ⟨_, rfl, _, rfl, a, _, _, _, rfl, rfl, hS, atI_nat (j := j) (v := .int ns[j]) (by simp [hj']), ?_⟩
      generalize ns[j] = c
      have N := nm_nat (x := (c.fmod 2147483629 + 104729 * (j : Int) * (j : Int) + 11) ^ 3) (m := 2147483647) (by decide)
      have Bc := B c
      refine ⟨_, rfl, _, _, rfl, rfl, (by show (2147483629 : Int) ≠ 0; decide), _, rfl, _, _, rfl, rfl, .inl ⟨by decide, by decide⟩, _, rfl, _, _, rfl, rfl, .inl ⟨by omega, by omega⟩, ?_⟩
      refine ⟨_, _, rfl, rfl, _, _, rfl, rfl, _, _, rfl, rfl, ⟨by decide, by decide, by omega⟩, _, _, rfl, rfl, (by show (2147483647 : Int) ≠ 0; decide), ?_⟩
      refine ⟨_, rfl, _, _, rfl, rfl, ⟨by decide, by decide, by decide⟩, _, _, rfl, rfl, _, rfl, ?_⟩
      refine ite2 (fun _ => ?_) (fun _ => ?_)
      · exact ⟨_, rfl, _, rfl, (by show 2 ≤ sizeLine; decide), fun p hp => k _ _ hp ⟨_, _, upd_same, N.1, N.2⟩ fun b hb => upd_ne hb⟩
      · exact ⟨_, rfl, _, rfl, (by show 2 ≤ sizeLine; decide), fun p hp => k _ _ hp ⟨_, _, upd_same, N.1, N.2⟩ fun b hb => upd_ne hb⟩
    · have N := nm_nat (x := ((0 : Int).fmod 2147483629 + 104729 * (j : Int) * (j : Int) + 11) ^ 3) (m := 2147483647) (by decide)
      have Bc := B 0
      refine ⟨_, rfl, _, _, rfl, rfl, (by show (2147483629 : Int) ≠ 0; decide), _, rfl, _, _, rfl, rfl, .inl ⟨by decide, by decide⟩, _, rfl, _, _, rfl, rfl, .inl ⟨by omega, by omega⟩, ?_⟩
      refine ⟨_, _, rfl, rfl, _, _, rfl, rfl, _, _, rfl, rfl, ⟨by decide, by decide, by omega⟩, _, _, rfl, rfl, (by show (2147483647 : Int) ≠ 0; decide), ?_⟩
      refine ⟨_, rfl, _, _, rfl, rfl, ⟨by decide, by decide, by decide⟩, _, _, rfl, rfl, _, rfl, ?_⟩
      refine ite2 (fun _ => ?_) (fun _ => ?_)
      · exact ⟨_, rfl, _, rfl, (by show 2 ≤ sizeLine; decide), fun p hp => k _ _ hp ⟨_, _, upd_same, N.1, N.2⟩ fun b hb => upd_ne hb⟩
      · exact ⟨_, rfl, _, rfl, (by show 2 ≤ sizeLine; decide), fun p hp => k _ _ hp ⟨_, _, upd_same, N.1, N.2⟩ fun b hb => upd_ne hb⟩
end
theorem at_any {α : Type} {xs : List α} {r : Int} (h0 : 0 ≤ r) (h1 : r < xs.length) : ∃ v, atI xs r = some v ∧ v ∈ xs := by
  obtain ⟨n, rfl⟩ : ∃ n : Nat, r = n := ⟨r.toNat, by omega⟩
  have hn : n < xs.length := by omega
  exact ⟨xs[n], atI_nat (by simp [hn]), by simp⟩
theorem PoolAt.upd {H : Hp} {p l : Addr} {o : HO} (h : PoolAt H p) (hl : H l = none) : PoolAt (upd H l o) p := by
  obtain ⟨c, n, e, h0, h1⟩ := h
  exact ⟨c, n, by rw [upd_ne (ne_of_none e hl)]; exact e, h0, h1⟩
theorem PoolAt.ne {H : Hp} {p l : Addr} (h : PoolAt H p) (hl : H l = none) : l ≠ p := by
  obtain ⟨c, n, e, h0, h1⟩ := h
  exact (ne_of_none e hl).symm
theorem kept_upd {H H1 : Hp} {p l : Addr} {o : HO} (k : ∀ b u, b ≠ p → H b = some u → H1 b = some u) (hl : H1 l = none) : ∀ b u, b ≠ p → H b = some u → (upd H1 l o) b = some u := fun b u hb e => by
  rw [upd_ne (ne_of_none (k b u hb e) hl)]
  exact k b u hb e
theorem kept_eq {H H1 H2 : Hp} {p : Addr} (k : ∀ b u, b ≠ p → H b = some u → H1 b = some u) (e2 : ∀ b, b ≠ p → H2 b = H1 b) : ∀ b u, b ≠ p → H b = some u → H2 b = some u := fun b u hb e => (e2 b hb).trans (k b u hb e)
theorem one_sign (c : Nat) : (⟨#[c]⟩ : Str).length = 1 := rfl
theorem small40 {n : Nat} (h : n ≤ 1000) : n ≤ sizeLine := Nat.le_trans h (by decide)
/-- a def with its code object told -/
structure FunC (K : PySem.W.Frag) (x qual : Str) (st : Stmt) (f : Addr) (fd : FuncData) (c : Addr) : Prop where
  ex : ∃ (oc : Value) (od : Option Addr) (kV doc pm : Value) (an : Option Addr) (ct : Value) (osl : Array (Option Value)),
    fd = PySem.W.fnOf x qual (defArgs st) (defBody st) (defScope st) .none kV doc pm an (.ref c) ct ∧ K.lookup f = some ⟨oc, od, .func fd, osl⟩ ∧ PySem.W.codeIn K (.ref c) qual = true
  kp : PySem.W.keepIn K (.ref f) = true
theorem FunC.fun {K : PySem.W.Frag} {x qual : Str} {st : Stmt} {f : Addr} {fd : FuncData} {c : Addr} (F : FunC K x qual st f fd c) : Fun K x qual st f fd := by
  obtain ⟨oc, od, kV, doc, pm, an, ct, osl, h1, h2, h3⟩ := F.ex
  exact ⟨⟨oc, od, kV, doc, pm, an, _, ct, osl, h1, h2, h3⟩, F.kp⟩
theorem FunC.ok {P : Program} {w : World} {K : PySem.W.Frag} {mg : Str → Option Value} {base : Heap} {x qual : Str} {st : Stmt} {f : Addr} {fd : FuncData} {c : Addr} {N ps : List Str} {k : Nat} {sp : Sp} (F : FunC K x qual st f fd c) (S : FnScope N ps (defScope st))
    (len : ∀ vs H Q E, sp vs H Q E → vs.length = ps.length)
    (body : ∀ (A : Around) (outer : List Env) (s : Shared) (H : Hp) (vs : List V) (Q : VK) (E : XK), Room k (A.deeper (PyProof.Rows.envOfC qual (defScope st) s.heap.objs.size f (.ref c))) → sp vs H Q E →
      ∃ t, PSs (cxOf CX0 P w K mg base N qual (defScope st) f (.ref c) A outer s H E).nox (defBody st) t ∧ t { nx := fun _ H' => Q .non H', rt := Q } (start N vs) H) : FnOk P w K mg base CX0 (k + 1) f fd ps sp := by
  obtain ⟨oc, od, kV, doc, pm, an, ct, osl, rfl, lk, hcd⟩ := F.ex
  refine fn_of lk hcd S len fun A outer s H vs Q E hr hsp => ?_
  obtain ⟨t, h, q⟩ := body A outer s H vs Q E hr hsp
  exact ⟨t, h.nox, q⟩
/-! tables of code objects -/
/-- the top's record of a def: its code object and its empty table -/
def Told (q : Program) (mg : Str → Option Value) (h : Heap) : Prop :=
  ∀ d ∈ PyProof.Rows.recsOf q, ∃ (f : Addr) (o : Obj) (fd : FuncData) (c P : Addr), mg d.name = some (.ref f) ∧ h.get? f = some o ∧ o.data = .func fd ∧ fd.code = .ref c ∧ h.IsCode c P #[] ∧ h.TableAt c P #[]
theorem Told.tab {q : Program} {mg : Str → Option Value} {h : Heap} (T : Told q mg h) {K : PySem.W.Frag} (X : K.In h) {x : Str} (hx : ((PyProof.Rows.recsOf q).any fun e => e.name == x) = true) {f c P : Addr} (hm : mg x = some (.ref f))
    {oc : Value} {od : Option Addr} {fd : FuncData} {osl : Array (Option Value)} (l : K.lookup f = some ⟨oc, od, .func fd, osl⟩) (hc : fd.code = .ref c)
    {e : Value} {dd : Option Addr} {vs : Array Value} {sl : Array (Option Value)} (lc : K.lookup c = some ⟨e, dd, .fields vs, sl⟩) (h11 : vs[11]? = some (.ref P)) :
    PySem.W.CodeHd h c P ∧ h.get? P = some { cls := .none, data := .fields #[] } := by
  obtain ⟨d, hd, he⟩ := List.any_eq_true.mp hx
  have hn : d.name = x := beq_iff_eq.mp he
  obtain ⟨f1, o1, fd1, c1, P1, g1, g2, g3, g4, g5, g6⟩ := T d hd
  rw [hn, hm] at g1
  obtain rfl : f = f1 := by injection (Option.some.inj g1)
  rw [X _ _ l] at g2
  obtain rfl := Option.some.inj g2
  obtain rfl : fd = fd1 := by injection g3
  rw [hc] at g4
  obtain rfl : c = c1 := by injection g4
  have hd' := PySem.W.CodeHd.of g5 g6
  obtain ⟨⟨o2, v2, e1, _, e3, e4⟩, hP⟩ := g6
  rw [X _ _ lc] at e1
  obtain rfl := Option.some.inj e1
  obtain rfl : vs = v2 := by injection e3
  rw [h11] at e4
  obtain rfl : P = P1 := by injection (Option.some.inj e4)
  exact ⟨hd', hP⟩
open PySem.Spec PyProof.Rows in
theorem walk_tabs {l : PySem.W.OpenLaw} {n k : Nat} {q : Program} {loose : List Str} {XP : (Str → Option Value) → Heap → Prop} {YP : World → Heap → Prop} {d : DefRec} {K : Params → PySem.W.Frag} {CX : World → CXT} {x : Str}
    (hn : l.most = some n) (hn2 : n ≤ sizeLine) (hdf : d.params.defaults = []) (hr : Room k callerA) (hY : ∀ (w : World) (h : Heap), YP w h → (K w.params).In h)
    (F : ∀ (w : World) (mg : Str → Option Value) (fa : Addr) (h : Heap), (K w.params).In h → h.Ns mainGlobals mg → mg d.name = some (.ref fa) → Told q mg h → LamX.LawAtS l w (K w.params) (CX w) k n x mg fa h)
    (hCX : ∀ (w : World) (H : Hp) (s : Shared) (e : Value) (s' : Shared), CX w [] H s (fun _ _ _ => False) e s' → False) :
    PySem.W.WalkO q loose XP YP l.row.toRowW d [] (fun f vs => PySem.call f vs) := by
  refine Att.attach_callB hn hdf ?_
  intro w s0 s1 mg mb fa o pm cd doc a vs ns G Y ho hd hcd hmg hobj hints hlen hbits hg
  have KX := hY w _ Y
  obtain ⟨fd, cs, sp, t1, t2, t3, hb, hsp, hF⟩ := F w mg fa _ KX G.T.g hmg G.T.tab
  exact LamX.law_callTs KX G.T.g G.T.b G.T.builtins G.T.nolimit hg t1 t2 t3 G.T.bmain hobj hints (Nat.le_trans hlen hn2) hr hF hb (fun H hH hS => hsp H a ns hlen hbits hH hS) fun H e s' => hCX w H s1 e s'
theorem tb_conv {base : Heap} {mg : Str → Option Value} {c P : Addr} (h : LamX.TabB base mg c P) : GxR.TabB base mg c P := ⟨h.code, h.bm, h.gP⟩
/-- side by side -/
def All2 {α : Type} (R : α → V → Prop) : List α → List V → Prop
  | [], [] => True
  | k :: ks, v :: vs => R k v ∧ All2 R ks vs
  | _, _ => False
section
variable {α : Type} {R S : α → V → Prop}
theorem All2.mono (f : ∀ k v, R k v → S k v) : ∀ {ks : List α} {vs : List V}, All2 R ks vs → All2 S ks vs
  | [], [], _ => trivial
  | _ :: _, _ :: _, ⟨h, t⟩ => ⟨f _ _ h, All2.mono f t⟩
  | [], _ :: _, h => h.elim
  | _ :: _, [], h => h.elim
theorem All2.app : ∀ {ks : List α} {vs : List V} {ls : List α} {us : List V}, All2 R ks vs → All2 R ls us → All2 R (ks ++ ls) (vs ++ us)
  | [], [], _, _, _, g => g
  | _ :: _, _ :: _, _, _, ⟨h, t⟩, g => ⟨h, All2.app t g⟩
  | [], _ :: _, _, _, h, _ => h.elim
  | _ :: _, [], _, _, h, _ => h.elim
theorem All2.len : ∀ {ks : List α} {vs : List V}, All2 R ks vs → ks.length = vs.length
  | [], [], _ => rfl
  | _ :: _, _ :: _, ⟨_, t⟩ => congrArg (· + 1) (All2.len t)
  | [], _ :: _, h => h.elim
  | _ :: _, [], h => h.elim
/-- the last one -/
theorem All2.last : ∀ {ks : List α} {vs : List V}, All2 R ks vs → vs ≠ [] → ∃ ls k v, ks = ls ++ [k] ∧ vs = vs.dropLast ++ [v] ∧ All2 R ls vs.dropLast ∧ R k v ∧ vs[vs.length - 1]? = some v
  | [], [], _, h => absurd rfl h
  | [k], [v], ⟨h, _⟩, _ => ⟨[], k, v, rfl, rfl, trivial, h, rfl⟩
  | k :: k2 :: ks, v :: v2 :: vs, ⟨h, t⟩, _ => by
    obtain ⟨ls, k', v', e1, e2, a, r, q⟩ := All2.last t (by simp)
    refine ⟨k :: ls, k', v', by rw [e1]; rfl, ?_, ⟨h, a⟩, r, ?_⟩
    · show v :: v2 :: vs = v :: ((v2 :: vs).dropLast ++ [v'])
      rw [← e2]
    · exact q
  | [], _ :: _, h, _ => h.elim
  | _ :: _, [], h, _ => h.elim
  | [_], _ :: _ :: _, h, _ => h.2.elim
  | _ :: _ :: _, [_], h, _ => h.2.elim
end
def Kept (p : Addr) (H H' : Hp) : Prop := ∀ b o, b ≠ p → H b = some o → H' b = some o
theorem Kept.trans {p : Addr} {H H1 H2 : Hp} (a : Kept p H H1) (b : Kept p H1 H2) : Kept p H H2 := fun c o n e => b c o n (a c o n e)
theorem kept_same {p : Addr} {H H1 : Hp} (s : Same H H1) : Kept p H H1 := fun b o _ e => s b o e
theorem kept_take {p : Addr} {H H1 : Hp} (e : ∀ b, b ≠ p → H1 b = H b) : Kept p H H1 := fun b _ n h => (e b n).trans h
theorem same_new {H : Hp} {p : Addr} {o : HO} (h : H p = none) : Same H (upd H p o) := fun b u e => by
  rw [upd_ne (ne_of_none e h)]
  exact e
theorem same_over {H H3 : Hp} {T : Addr} {o : HO} (S : Same H H3) (h : H T = none) : Same H (upd H3 T o) := fun b u e => by
  rw [upd_ne (ne_of_none e h)]
  exact S b u e
theorem PoolAt.same {H H1 : Hp} {p : Addr} (hp : PoolAt H p) (s : Same H H1) : PoolAt H1 p := by
  obtain ⟨c, n, e, h⟩ := hp
  exact ⟨c, n, s _ _ e, h⟩
theorem All2.get {α : Type} {R : α → V → Prop} : ∀ {ks : List α} {vs : List V} {i : Nat} {v : V}, All2 R ks vs → vs[i]? = some v → ∃ k, ks[i]? = some k ∧ R k v
  | [], [], _, _, _, e => by simp at e
  | k :: _, v :: _, 0, _, ⟨h, _⟩, e => ⟨k, rfl, by simp at e; exact e ▸ h⟩
  | _ :: _, _ :: _, i + 1, _, ⟨_, t⟩, e => All2.get (i := i) t e
  | [], _ :: _, _, _, h, _ => h.elim
  | _ :: _, [], _, _, h, _ => h.elim

/-! d.get of a dict of the module -/
section
variable {X : Cx} {d : Addr} {es : Array DictEntry} {n : Nat}
/-- get: what stands at the key, or None -/
def tKGet (K : PySem.W.Frag) (d : Addr) (td ty : TE) : TE := fun σ H Q => td σ H fun x H1 => x = .ref d ∧ ty σ H1 fun y H2 => ∃ (z : Str) (r : Option Value) (v : V), y = .str z ∧ PySem.W.nsIn K d z = some r ∧ RelV v (r.getD .none) ∧ Q v H2
open PySem.Spec PyProof.Rows in
theorem pe_kget {o e : Expr} {apos cpos : Pos} {td ty : TE} (D : KDict X.K X.w d es n) (ho : PE X o td) (he : PE X e ty) (m : M1 X o "get" apos e cpos) : PE X (.Call (.Attribute o "get" apos) [e] [] cpos) (tKGet X.K d td ty) := by
  constructor
  intro pins s σ H Q I h
  refine wpAny_Call_method m.base m.few m.line PySem.F.plainAttrs_dict PySem.F.slot_dict_get PySem.F.type_dict_get (thn (ho.run pins s σ H _ I h) ?_)
  rintro u s1 ⟨x, H1, I1, rx, rfl, q1⟩
  obtain rfl : u = Value.ref d := rx
  refine ⟨kd_type D I1, fun b hb => ?_, ?_⟩
  · cases hb
    exact ⟨_, I1.kIn _ _ D.at_, rfl⟩
  · rw [m.trees]
    refine Calls.callWith_builtin rfl (Calls.evalArgs_plain (Calls.spliced_cons (thn (he.run pins s1 σ H1 _ I1 q1) ?_)))
    rintro iv s2 ⟨y, H2, I2, ry, z, r, v, rfl, er, rv, q2⟩
    obtain ⟨t, rfl⟩ := ry
    refine Calls.spliced_nil ?_
    have M := PySem.W.mapOf_K (prog := X.prog) (w := X.w) I2.kIn D.at_ D.lit
    refine call_meetsIn PySem.F.slot_dict_get M.typeIs PySem.F.entry_dict_get (PySem.F.args_dict_get_2 _ _) (meets_dict_get _ d (PySem.strKind_is X.prog X.w z t) D.low) ⟨_, M, ?_⟩
    rw [PySem.W.find_K D.at_ er]
    exact ⟨v, H2, I2.tok _, rv, q2⟩
end
open GxR
abbrev sMark : Stmt := top 3
abbrev sKin : Stmt := top 8
abbrev sForm : Stmt := top 9
abbrev sIsK : Stmt := top 10
def SOk (z : Str) : Prop := ∀ c ∈ z.cps.toList, c < 1114112
def low : List Nat := ((("abcdefghijklmnopqrstuvwxyz" : Str)).cps.toList)
def isMark (z : Str) : Bool := decide (1 ≤ z.length ∧ z.length ≤ 6) && z.cps.toList.all fun c => decide (c ∈ low)
theorem isi_at {X : Cx} {K : PySem.W.Frag} (e : X.K = K) : CallR X (.builtin "isinstance") (rIsi K) := by
  rw [← e]
  exact call_isi
theorem boot_isi : bootBuiltins "isinstance" = some (.builtin "isinstance") := by decide +kernel
theorem boot_strT : bootBuiltins "str" = some (.type "str") := by decide +kernel
theorem boot_tupleT : bootBuiltins "tuple" = some (.type "tuple") := by decide +kernel
theorem boot_listT : bootBuiltins "list" = some (.type "list") := by decide +kernel
theorem boot_allB : bootBuiltins "all" = some (.builtin "all") := by decide +kernel
theorem boot_boolT : bootBuiltins "bool" = some (.type "bool") := by decide +kernel
theorem genS_mk {env : Env} {scope : Scope} {x : Str} (h1 : scope.kind = .function) (h2 : scope.isCoroutine = false) (h3 : ∀ y ∈ scope.names, y.2 ≠ .cell ∧ y.2 ≠ .free) (h4 : scope.names.lookup (".0" : Str) = some NameKind.local) (h5 : scope.names.lookup x = some .local) : GenS env scope x :=
  ⟨h1, h2, fun y hy => (h3 y hy).1, h4, h5, fun y hy e => absurd e (h3 y hy).2⟩
theorem Tabbed.rfl' {P : Addr} {H : Hp} (h : TabG H P) : Tabbed P H H := ⟨h, fun _ _ => rfl⟩

/-! things -/
inductive Hd where
  | s (x : Str)
  | non
  | l (x : Str)
  | m (x y : Str)
def HdAt0 (H : Hp) : Hd → V → Prop
  | .s x, v => v = .str x
  | .non, v => v = .non
  | .l x, v => ∃ a, v = .ref a ∧ H a = some (.lst [.str x])
  | .m x y, v => ∃ a, v = .ref a ∧ H a = some (.tup [.str x, .str y])
def HOk : Hd → Prop
  | .s x => SOk x
  | .non => True
  | .l x => SOk x
  | .m x y => SOk x ∧ SOk y
def HdAt (H : Hp) (h : Hd) (v : V) : Prop := HdAt0 H h v ∧ HOk h
theorem so_one : SOk "one" := by unfold SOk; decide +kernel
theorem so_mark : SOk "mark" := by unfold SOk; decide +kernel
theorem so_to : SOk "to" := by unfold SOk; decide +kernel
theorem so_both : SOk "both" := by unfold SOk; decide +kernel
inductive Th where
  | atom (u : V)
  | lst
  | dct
  | t0
  | t1 (h : Hd)
  | t2 (h : Hd) (b : Th)
  | t3 (h : Hd) (b c : Th)
  | t4 (h : Hd)
def ThAt (H : Hp) : Th → V → Prop
  | .atom u, v => v = u ∧ flatV u = true ∧ ∀ z, u = .str z → z.length ≤ 1000 ∧ SOk z
  | .lst, v => ∃ a xs, v = .ref a ∧ H a = some (.lst xs)
  | .dct, v => ∃ a, v = .ref a ∧ H a = some (.dK [])
  | .t0, v => ∃ a, v = .ref a ∧ H a = some (.tup [])
  | .t1 h, v => ∃ a x, v = .ref a ∧ H a = some (.tup [x]) ∧ HdAt H h x
  | .t2 h b, v => ∃ a x y, v = .ref a ∧ H a = some (.tup [x, y]) ∧ HdAt H h x ∧ ThAt H b y
  | .t3 h b c, v => ∃ a x y z, v = .ref a ∧ H a = some (.tup [x, y, z]) ∧ HdAt H h x ∧ ThAt H b y ∧ ThAt H c z
  | .t4 h, v => ∃ a x y z u, v = .ref a ∧ H a = some (.tup [x, y, z, u]) ∧ HdAt H h x
/-- what stood, but tables of code objects, stands -/
def Ev (P1 : Addr) (H H' : Hp) : Prop := TabG H' P1 ∧ ∀ b o, (∀ ps, o ≠ .tbl ps) → H b = some o → H' b = some o
theorem Ev.trans {P1 : Addr} {H H1 H2 : Hp} (a : Ev P1 H H1) (b : Ev P1 H1 H2) : Ev P1 H H2 := ⟨b.1, fun c o n e => b.2 c o n (a.2 c o n e)⟩
theorem tab_non {H : Hp} {P b : Addr} {o : HO} (h : TabG H P) (n : ∀ ps, o ≠ .tbl ps) (e : H b = some o) : b ≠ P := fun z => by
  obtain ⟨ps, q, _⟩ := h
  rw [z, q] at e
  exact n ps (Option.some.inj e).symm
theorem tab_same {H H' : Hp} {P : Addr} (h : TabG H P) (s : Same H H') : TabG H' P := by
  obtain ⟨ps, e, t⟩ := h
  exact ⟨ps, s _ _ e, t⟩
theorem ev_same {P1 : Addr} {H H' : Hp} (h : TabG H P1) (s : Same H H') : Ev P1 H H' := ⟨tab_same h s, fun b o _ e => s b o e⟩
theorem ev_tab {P1 : Addr} {H H' : Hp} (h : TabG H P1) (t : Tabbed P1 H H') : Ev P1 H H' := ⟨t.1, fun b o n e => (t.2 b (tab_non h n e)).trans e⟩
theorem ev_over {P1 T : Addr} {H H2 : Hp} {o : HO} (e : Ev P1 H H2) (h : H T = none) (hl : ∃ u, H2 T = some u ∧ ∀ ps, u ≠ .tbl ps) : Ev P1 H (upd H2 T o) := by
  obtain ⟨u, hu, nu⟩ := hl
  refine ⟨?_, fun b q n eq => ?_⟩
  · obtain ⟨ps, q, t⟩ := e.1
    refine ⟨ps, ?_, t⟩
    rw [upd_ne (fun z => by rw [z, hu] at q; exact nu ps (Option.some.inj q))]
    exact q
  · rw [upd_ne (ne_of_none eq h)]
    exact e.2 b q n eq
theorem HdAt.ev {P1 : Addr} {H H' : Hp} (e : Ev P1 H H') : ∀ (h : Hd) (v : V), HdAt H h v → HdAt H' h v
  | .s _, _, q => q
  | .non, _, q => q
  | .l _, _, ⟨⟨a, q1, q2⟩, o⟩ => ⟨⟨a, q1, e.2 _ _ (fun _ z => by cases z) q2⟩, o⟩
  | .m _ _, _, ⟨⟨a, q1, q2⟩, o⟩ => ⟨⟨a, q1, e.2 _ _ (fun _ z => by cases z) q2⟩, o⟩
theorem ThAt.ev {P1 : Addr} {H H' : Hp} (e : Ev P1 H H') : ∀ (t : Th) (v : V), ThAt H t v → ThAt H' t v
  | .atom _, _, q => q
  | .lst, _, ⟨a, xs, q1, q2⟩ => ⟨a, xs, q1, e.2 _ _ (fun _ z => by cases z) q2⟩
  | .dct, _, ⟨a, q1, q2⟩ => ⟨a, q1, e.2 _ _ (fun _ z => by cases z) q2⟩
  | .t0, _, ⟨a, q1, q2⟩ => ⟨a, q1, e.2 _ _ (fun _ z => by cases z) q2⟩
  | .t1 h, _, ⟨a, x, q1, q2, q3⟩ => ⟨a, x, q1, e.2 _ _ (fun _ z => by cases z) q2, q3.ev e⟩
  | .t2 h b, _, ⟨a, x, y, q1, q2, q3, q4⟩ => ⟨a, x, y, q1, e.2 _ _ (fun _ z => by cases z) q2, q3.ev e, ThAt.ev e b y q4⟩
  | .t3 h b c, _, ⟨a, x, y, z, q1, q2, q3, q4, q5⟩ => ⟨a, x, y, z, q1, e.2 _ _ (fun _ z => by cases z) q2, q3.ev e, ThAt.ev e b y q4, ThAt.ev e c z q5⟩
  | .t4 h, _, ⟨a, x, y, z, u, q1, q2, q3⟩ => ⟨a, x, y, z, u, q1, e.2 _ _ (fun _ z => by cases z) q2, q3.ev e⟩
namespace Th
def isT : Th → Bool
  | t0 | t1 _ | t2 _ _ | t3 _ _ _ | t4 _ => true
  | _ => false
def isS : Th → Bool
  | atom (.str _) => true
  | _ => false
def markT : Th → Bool
  | atom (.str z) => isMark z
  | _ => false
def form : Th → Bool
  | t1 (.s x) => decide (x = "one")
  | t2 (.s x) b => decide (x = "mark") && b.markT
  | t3 (.s x) _ _ => decide (x = "to") || decide (x = "both")
  | _ => false
def kids : Th → List Th
  | t3 _ b c => [b, c]
  | _ => []
def gd : Th → Nat → Bool
  | _, 0 => false
  | t3 h b c, r + 1 => (t3 h b c).form && (gd b r && gd c r)
  | t, _ + 1 => t.form
def lv : Th → Nat
  | t3 _ b c => b.lv + c.lv
  | _ => 1
def sz : Th → Nat
  | t3 _ b c => b.sz + c.sz + 1
  | _ => 1
def isK (t : Th) : Bool := t.gd 13 && decide (t.lv ≤ 24)
theorem lv_pos : ∀ t : Th, 0 < t.lv
  | t3 _ b c => by
    have := lv_pos b
    show 0 < b.lv + c.lv
    omega
  | atom _ | lst | dct | t0 | t1 _ | t2 _ _ | t4 _ => Nat.one_pos
theorem sz_pos : ∀ t : Th, 0 < t.sz
  | t3 _ b c => Nat.succ_pos _
  | atom _ | lst | dct | t0 | t1 _ | t2 _ _ | t4 _ => Nat.one_pos
end Th
theorem th_tup {K : PySem.W.Frag} {H : Hp} : ∀ (t : Th) (v : V), ThAt H t v → ∃ ty : String, TyX K H v (.type ty) ∧ PySem.W.kitOne K (.type ty) (.type "tuple") = some t.isT ∧ PySem.W.kitOne K (.type ty) (.type "str") = some t.isS
  | .atom u, _, ⟨e, f, _⟩ => by
    rw [e]
    clear e
    cases u with
    | non => exact ⟨"NoneType", .base .non, kit_ty (r := false) (by decide +kernel), kit_ty (r := false) (by decide +kernel)⟩
    | bl b => exact ⟨"bool", .base (.bl b), kit_ty (r := false) (by decide +kernel), kit_ty (r := false) (by decide +kernel)⟩
    | int i => exact ⟨"int", .base (.int i), kit_ty (r := false) (by decide +kernel), kit_ty (r := false) (by decide +kernel)⟩
    | str z => exact ⟨"str", .base (.str z), kit_ty (r := false) (by decide +kernel), kit_ty (r := true) (by decide +kernel)⟩
    | _ => cases f
  | .lst, _, ⟨a, xs, e, q⟩ => ⟨"list", e ▸ .base (.lst q), kit_ty (r := false) (by decide +kernel), kit_ty (r := false) (by decide +kernel)⟩
  | .dct, _, ⟨a, e, q⟩ => ⟨"dict", e ▸ .base (.dK q), kit_ty (r := false) (by decide +kernel), kit_ty (r := false) (by decide +kernel)⟩
  | .t0, _, ⟨a, e, q⟩ => ⟨"tuple", e ▸ .base (.tup q), kit_ty (r := true) (by decide +kernel), kit_ty (r := false) (by decide +kernel)⟩
  | .t1 _, _, ⟨a, x, e, q, _⟩ => ⟨"tuple", e ▸ .base (.tup q), kit_ty (r := true) (by decide +kernel), kit_ty (r := false) (by decide +kernel)⟩
  | .t2 _ _, _, ⟨a, x, y, e, q, _⟩ => ⟨"tuple", e ▸ .base (.tup q), kit_ty (r := true) (by decide +kernel), kit_ty (r := false) (by decide +kernel)⟩
  | .t3 _ _ _, _, ⟨a, x, y, z, e, q, _⟩ => ⟨"tuple", e ▸ .base (.tup q), kit_ty (r := true) (by decide +kernel), kit_ty (r := false) (by decide +kernel)⟩
  | .t4 _, _, ⟨a, x, y, z, u, e, q, _⟩ => ⟨"tuple", e ▸ .base (.tup q), kit_ty (r := true) (by decide +kernel), kit_ty (r := false) (by decide +kernel)⟩
def Hd.isS : Hd → Bool
  | .s _ => true
  | _ => false
theorem hd_str {K : PySem.W.Frag} {H : Hp} : ∀ (h : Hd) (v : V), HdAt H h v → ∃ ty : String, TyX K H v (.type ty) ∧ PySem.W.kitOne K (.type ty) (.type "str") = some h.isS
  | .s x, _, ⟨e, _⟩ => ⟨"str", e ▸ .base (.str x), kit_ty (r := true) (by decide +kernel)⟩
  | .non, _, ⟨e, _⟩ => ⟨"NoneType", e ▸ .base .non, kit_ty (r := false) (by decide +kernel)⟩
  | .l x, _, ⟨⟨a, e, q⟩, _⟩ => ⟨"list", e ▸ .base (.lst q), kit_ty (r := false) (by decide +kernel)⟩
  | .m x y, _, ⟨⟨a, e, q⟩, _⟩ => ⟨"tuple", e ▸ .base (.tup q), kit_ty (r := false) (by decide +kernel)⟩
def spMark (P1 : Addr) : Sp := fun vs H Q _ => ∃ (v : V) (t : Th), vs = [v] ∧ ThAt H t v ∧ TabG H P1 ∧ ∀ H', Ev P1 H H' → Q (.bl t.markT) H'
section
variable {P : Program} {w : World} {K : PySem.W.Frag} {mg : Str → Option Value} {base : Heap}
theorem scMark : FnScope ["text"] ["text"] (defScope sMark) := ⟨rfl, rfl, rfl, by decide +kernel, rfl, by decide +kernel, by decide +kernel⟩
theorem ok_mark {f c P1 : Addr} {fd : FuncData} {t1 t2 : Tok} (F : FunC K "is_mark" "is_mark" sMark f fd c) (TB : TabB base mg c P1) (mIs : mg "isinstance" = none) (mStr : mg "str" = none) (mLen : mg "len" = none) (mAll : mg "all" = none)
    (gL : mg "LETTERS" = some (.str "abcdefghijklmnopqrstuvwxyz" t1)) (gN : mg "LONGEST" = some (.int 6 t2)) : FnOk P w K mg base CX0 1 f fd ["text"] (spMark P1) := by
  refine F.ok scMark (fun vs H Q E h => ?_) (fun A outer s H vs Q E hr h => ?_)
  · obtain ⟨v, t, rfl, _⟩ := h
    rfl
  · obtain ⟨v, t, rfl, hv, ht, k⟩ := h
    refine ⟨_, pss_cons (ps_if (PW.pt (pw_or (pt_not (pt_val (pe_callB (isi_at (K := K) rfl) (by rfl) mIs boot_isi (pa_cons (pv 0) (pa_cons (pe_bltn (v := .ty "str") (by rfl) mStr boot_strT rfl) pa_nil)))))
          (pw_or1 (pt_not (pt_chain op_le op_le pe_int (pe_callB call_len_str (by rfl) mLen PySem.boot_len (pa_cons (pv 0) pa_nil)) (pe_glob (v := .int 6) (by rfl) gN ⟨_, rfl⟩)))))) (pss_one (ps_ret pe_bl)) pss_nil)
      (pss_one (ps_ret (Kg.pe_allG hr (by rfl) mAll boot_allB TB rfl (genS_mk rfl rfl (by decide +kernel) rfl rfl) (pv 0) (Kg.elt_in rfl rfl rfl gL) (fun _ => rfl)))), ?_⟩
    obtain ⟨ty, h1, _, h3⟩ := th_tup (K := K) t v hv
    refine ⟨_, rfl, _, _, _, _, t.isS, rfl, .ty "str", h1, h3, t.isS, rfl, ?_⟩
    have self : Ev P1 H H := ev_same ht (Same.refl H)
    have out : t.isS = false → t.markT = false := fun e => by
      cases t with
      | atom u => cases u <;> first | rfl | cases e
      | _ => rfl
    cases hS : t.isS with
    | false =>
      refine iteT ?_
      have q := k H self
      rw [out hS] at q
      exact q
    | true =>
      obtain ⟨z, rfl⟩ : ∃ z, t = .atom (.str z) := by
        cases t with
        | atom u => cases u <;> first | exact ⟨_, rfl⟩ | cases hS
        | _ => cases hS
      obtain ⟨rfl, _, hz⟩ := hv
      obtain ⟨hz, _⟩ := hz z rfl
      refine iteF ?_
      refine ⟨_, rfl, z, rfl, small40 hz, _, _, rfl, rfl, ?_⟩
      refine ⟨_, rfl, ?_⟩
      by_cases h1 : (1 : Int) ≤ (z.length : Int)
      · rw [decide_eq_true h1]
        refine iteT ?_
        refine ⟨_, _, rfl, rfl, _, rfl, ?_⟩
        by_cases h2 : (z.length : Int) ≤ 6
        · rw [decide_eq_true h2]
          refine iteF ?_
          refine ⟨_, rfl, z, rfl, ht, fun H2 hT => ?_⟩
          have e : isMark z = z.cps.toList.all fun c => decide (c ∈ low) := by
            unfold isMark
            rw [decide_eq_true (by omega), Bool.true_and]
          have q : Q (.bl (isMark z)) H2 := k H2 (ev_tab ht hT)
          rw [e] at q
          exact q
        · rw [decide_eq_false h2]
          refine iteT ?_
          have e : isMark z = false := by
            unfold isMark
            rw [decide_eq_false (by omega), Bool.false_and]
          have q : Q (.bl (isMark z)) H := k H self
          rw [e] at q
          exact q
      · rw [decide_eq_false h1]
        refine iteF ?_
        refine ⟨_, rfl, ?_⟩
        refine iteT ?_
        have e : isMark z = false := by
          unfold isMark
          rw [decide_eq_false (by omega), Bool.false_and]
        have q : Q (.bl (isMark z)) H := k H self
        rw [e] at q
        exact q
end
def lenN (z : Str) : Option Nat := if z = "mark" then some 2 else if z = "one" then some 1 else if z = "to" then some 3 else if z = "both" then some 3 else none
def lenV (z : Str) : V := match lenN z with
  | some n => .int (n : Int)
  | none => .non
def lenD (z : Str) : PyData := match lenN z with
  | some n => .int (n : Int)
  | none => .none
theorem lenV_dp {K : PySem.W.Frag} {H : Hp} (z : Str) : Dp K H (lenV z) (lenD z) := by
  unfold lenV lenD
  cases lenN z with
  | some n => exact .int _
  | none => exact .non
theorem lenD_shaped (z : Str) : SeqAt.shaped (lenD z) = true := by
  unfold lenD
  cases lenN z with
  | some n => rfl
  | none => rfl
theorem lenD_eqv (z : Str) (n : Nat) : PyData.eqv (lenD z) (.int (n : Int)) = decide (lenN z = some n) := by
  unfold lenD
  cases lenN z with
  | some m =>
    simp only [PyData.eqv]
    rw [Bool.eq_iff_iff]
    simp
    omega
  | none =>
    simp only [PyData.eqv]
    rw [decide_eq_false (by simp)]
theorem lenN_no (z : Str) (n : Nat) (h : n = 0 ∨ 4 ≤ n) : lenN z ≠ some n := by
  unfold lenN
  intro e
  split at e
  · injection e with e
    omega
  · split at e
    · injection e with e
      omega
    · split at e
      · injection e with e
        omega
      · split at e
        · injection e with e
          omega
        · cases e
theorem lenN_one {z : Str} (h : lenN z = some 1) : z = "one" := by
  unfold lenN at h
  split at h
  · cases h
  · split at h
    · assumption
    · split at h
      · cases h
      · split at h <;> cases h
theorem lenN_two {z : Str} (h : lenN z = some 2) : z = "mark" := by
  unfold lenN at h
  split at h
  · assumption
  · split at h
    · cases h
    · split at h
      · cases h
      · split at h <;> cases h
theorem lenN_three {z : Str} (h : lenN z = some 3) : z ≠ "mark" ∧ (decide (z = "to") || decide (z = "both")) = true := by
  unfold lenN at h
  split at h
  · cases h
  · rename_i h1
    refine ⟨h1, ?_⟩
    split at h
    · cases h
    · split at h
      · rename_i h3
        rw [decide_eq_true h3]
        rfl
      · split at h
        · rename_i h4
          rw [decide_eq_true h4, Bool.or_true]
        · cases h
def spForm (P1 : Addr) : Sp := fun vs H Q _ => ∃ (v : V) (t : Th), vs = [v] ∧ ThAt H t v ∧ TabG H P1 ∧ ∀ H', Ev P1 H H' → Q (.bl t.form) H'
def spKin (P1 : Addr) : Sp := fun vs H Q _ => ∃ (v : V) (t : Th) (H0 : Hp), vs = [v] ∧ ThAt H0 t v ∧ Ev P1 H0 H ∧ t.form = true ∧
  ∀ (D : Addr) (xs : List V) (H' : Hp), H D = none → H' D = some (.lst xs) → Same H H' → All2 (ThAt H0) t.kids xs → Q (.ref D) H'
section
variable {P : Program} {w : World} {K : PySem.W.Frag} {mg : Str → Option Value} {base : Heap}
theorem scForm : FnScope ["thing", "word"] ["thing"] (defScope sForm) := ⟨rfl, rfl, rfl, by decide +kernel, rfl, by decide +kernel, by decide +kernel⟩
theorem ok_form {f fM P1 L : Addr} {fd fdM : FuncData} {es : Array DictEntry} {nn : Nat} (F : Fun K "has_form" "has_form" sForm f fd) (GM : FnOk P w K mg base CX0 1 fM fdM ["text"] (spMark P1)) (kM : PySem.W.keepIn K (.ref fM) = true) (bM : Binds K fdM ["text"] []) (gM : mg "is_mark" = some (.ref fM))
    (D : KDict K w L es nn) (gD : mg "LENGTHS" = some (.ref L)) (hLen : ∀ z : Str, ∃ r, PySem.W.nsIn K L z = some r ∧ RelV (lenV z) (r.getD .none))
    (mIs : mg "isinstance" = none) (mStr : mg "str" = none) (mLen : mg "len" = none) (mTuple : mg "tuple" = none) : FnOk P w K mg base CX0 2 f fd ["thing"] (spForm P1) := by
  refine F.ok scForm (fun vs H Q E h => ?_) (fun cdv A outer s H vs Q E hr h => ?_)
  · obtain ⟨v, t, rfl, _⟩ := h
    rfl
  · obtain ⟨v, t, rfl, hv, ht, k⟩ := h
    refine ⟨_, pss_cons (ps_if (PW.pt (pw_or (pt_not (pt_val (pe_callB (isi_at (K := K) rfl) (by rfl) mIs boot_isi (pa_cons (pv 0) (pa_cons (pe_bltn (v := .ty "tuple") (by rfl) mTuple boot_tupleT rfl) pa_nil)))))
          (pw_or1 (pt_cmpR op_eq (pe_callB call_len_seq (by rfl) mLen PySem.boot_len (pa_cons (pv 0) pa_nil)) pe_int (nomark _))))) (pss_one (ps_ret pe_bl)) pss_nil)
      (pss_cons (ps_set (i := 1) scForm.nd rfl (Or.inl rfl) (pe_ix ix_tup (pv 0) pe_int (fun _ _ => rfl)))
      (pss_cons (ps_if (PW.pt (pw_or (pt_not (pt_val (pe_callB (isi_at (K := K) rfl) (by rfl) mIs boot_isi (pa_cons (pv 1) (pa_cons (pe_bltn (v := .ty "str") (by rfl) mStr boot_strT rfl) pa_nil)))))
          (pw_or1 (pt_cmpR (op_neD hr.units) (pe_kget D (pe_glob (v := .ref L) (by rfl) gD rfl) (pv 1) ⟨by rfl, by rfl, by rfl, by rfl⟩) (pe_callB call_len_seq (by rfl) mLen PySem.boot_len (pa_cons (pv 0) pa_nil)) (nomark _))))) (pss_one (ps_ret pe_bl)) pss_nil)
      (pss_one (ps_ret (pe_or (pe_cmpR op_ne (pv 1) pe_str (nomark _)) (pe_one (pe_call GM hr (by rfl) gM kM bM .nil pass0 (pa_cons (pe_ix ix_tup (pv 0) pe_int (fun _ _ => rfl)) pa_nil)))))))), ?_⟩
    have self : Ev P1 H H := ev_same ht (Same.refl H)
    cases t with
    | atom u =>
      obtain ⟨ty, h1, h2, _⟩ := th_tup (K := K) _ v hv
      refine ⟨_, rfl, _, _, _, _, false, rfl, .ty "tuple", h1, h2, false, rfl, ?_⟩
      refine iteT ?_
      exact k H self
    | lst =>
      obtain ⟨ty, h1, h2, _⟩ := th_tup (K := K) _ v hv
      refine ⟨_, rfl, _, _, _, _, false, rfl, .ty "tuple", h1, h2, false, rfl, ?_⟩
      refine iteT ?_
      exact k H self
    | dct =>
      obtain ⟨ty, h1, h2, _⟩ := th_tup (K := K) _ v hv
      refine ⟨_, rfl, _, _, _, _, false, rfl, .ty "tuple", h1, h2, false, rfl, ?_⟩
      refine iteT ?_
      exact k H self
    | t0 =>
      obtain ⟨a, rfl, ha⟩ := hv
      refine ⟨_, rfl, _, _, _, _, true, rfl, .ty "tuple", .base (.tup ha), kit_ty (r := true) (by decide +kernel), true, rfl, ?_⟩
      refine iteF ?_
      refine ⟨_, rfl, a, _, rfl, .inr (SqT.of ha), rfl, _, rfl, ?_⟩
      refine ite2 (fun _ => k H self) (fun y => absurd (by show decide (V.int ((0 : Nat) : Int) = V.int 0) = true; decide +kernel) y)
    | t1 h =>
      obtain ⟨a, x, rfl, ha, hx⟩ := hv
      refine ⟨_, rfl, _, _, _, _, true, rfl, .ty "tuple", .base (.tup ha), kit_ty (r := true) (by decide +kernel), true, rfl, ?_⟩
      refine iteF ?_
      refine ⟨_, rfl, a, _, rfl, .inr (SqT.of ha), rfl, _, rfl, ?_⟩
      refine ite2 (fun y => by cases y) (fun _ => ?_)
      refine ⟨_, rfl, a, _, _, _, rfl, rfl, SqT.of ha, atI_nat (j := 0) rfl, ?_⟩
      obtain ⟨ty, g1, g2⟩ := hd_str (K := K) h x hx
      refine ⟨_, rfl, _, _, _, _, h.isS, rfl, .ty "str", g1, g2, h.isS, rfl, ?_⟩
      cases h with
      | s w0 =>
        obtain rfl : x = V.str w0 := hx.1
        refine iteF ?_
        obtain ⟨r, er, rr⟩ := hLen w0
        refine ⟨rfl, _, rfl, w0, r, lenV w0, rfl, er, rr, ?_⟩
        refine ⟨_, rfl, a, _, rfl, .inr (SqT.of ha), lenD w0, .int 1, lenV_dp w0, .int _, lenD_shaped w0, by decide +kernel, _, rfl, ?_⟩
        have ev : PyData.eqv (lenD w0) (.int 1) = decide (lenN w0 = some 1) := lenD_eqv w0 1
        rw [ev]
        by_cases hl : lenN w0 = some 1
        · rw [decide_eq_true hl]
          refine iteF ?_
          have e1 := lenN_one hl
          subst e1
          refine ⟨_, rfl, rfl, true, rfl, ?_⟩
          refine iteT ?_
          exact k H self
        · rw [decide_eq_false hl]
          refine iteT ?_
          have q := k H self
          have e : (Th.t1 (.s w0)).form = false := decide_eq_false (fun z => hl (by rw [z]; decide +kernel))
          rw [e] at q
          exact q
      | non =>
        refine iteT ?_
        exact k H self
      | l w0 =>
        refine iteT ?_
        exact k H self
      | m w0 w1 =>
        refine iteT ?_
        exact k H self
    | t2 h b =>
      obtain ⟨a, x, y, rfl, ha, hx, hb⟩ := hv
      refine ⟨_, rfl, _, _, _, _, true, rfl, .ty "tuple", .base (.tup ha), kit_ty (r := true) (by decide +kernel), true, rfl, ?_⟩
      refine iteF ?_
      refine ⟨_, rfl, a, _, rfl, .inr (SqT.of ha), rfl, _, rfl, ?_⟩
      refine ite2 (fun y => by cases y) (fun _ => ?_)
      refine ⟨_, rfl, a, _, _, _, rfl, rfl, SqT.of ha, atI_nat (j := 0) rfl, ?_⟩
      obtain ⟨ty, g1, g2⟩ := hd_str (K := K) h x hx
      refine ⟨_, rfl, _, _, _, _, h.isS, rfl, .ty "str", g1, g2, h.isS, rfl, ?_⟩
      cases h with
      | s w0 =>
        obtain rfl : x = V.str w0 := hx.1
        refine iteF ?_
        obtain ⟨r, er, rr⟩ := hLen w0
        refine ⟨rfl, _, rfl, w0, r, lenV w0, rfl, er, rr, ?_⟩
        refine ⟨_, rfl, a, _, rfl, .inr (SqT.of ha), lenD w0, .int 2, lenV_dp w0, .int _, lenD_shaped w0, by decide +kernel, _, rfl, ?_⟩
        have ev : PyData.eqv (lenD w0) (.int 2) = decide (lenN w0 = some 2) := lenD_eqv w0 2
        rw [ev]
        by_cases hl : lenN w0 = some 2
        · rw [decide_eq_true hl]
          refine iteF ?_
          have e1 := lenN_two hl
          subst e1
          refine ⟨_, rfl, rfl, false, rfl, ?_⟩
          refine iteF ?_
          refine ⟨_, rfl, a, _, _, _, rfl, rfl, SqT.of ha, atI_nat (j := 1) rfl, y, b, rfl, hb, ht, fun H' e => ?_⟩
          have q := k H' e
          have e2 : (Th.t2 (.s "mark") b).form = b.markT := by
            show (decide ((("mark" : Str)) = "mark") && b.markT) = _
            rw [decide_eq_true rfl, Bool.true_and]
          rw [e2] at q
          exact q
        · rw [decide_eq_false hl]
          refine iteT ?_
          have q := k H self
          have e : (Th.t2 (.s w0) b).form = false := by
            show (decide (w0 = "mark") && b.markT) = _
            rw [decide_eq_false (fun z => hl (by rw [z]; decide +kernel)), Bool.false_and]
          rw [e] at q
          exact q
      | non =>
        refine iteT ?_
        exact k H self
      | l w0 =>
        refine iteT ?_
        exact k H self
      | m w0 w1 =>
        refine iteT ?_
        exact k H self
    | t3 h b c0 =>
      obtain ⟨a, x, y, z, rfl, ha, hx, hb, hc⟩ := hv
      refine ⟨_, rfl, _, _, _, _, true, rfl, .ty "tuple", .base (.tup ha), kit_ty (r := true) (by decide +kernel), true, rfl, ?_⟩
      refine iteF ?_
      refine ⟨_, rfl, a, _, rfl, .inr (SqT.of ha), rfl, _, rfl, ?_⟩
      refine ite2 (fun y => by cases y) (fun _ => ?_)
      refine ⟨_, rfl, a, _, _, _, rfl, rfl, SqT.of ha, atI_nat (j := 0) rfl, ?_⟩
      obtain ⟨ty, g1, g2⟩ := hd_str (K := K) h x hx
      refine ⟨_, rfl, _, _, _, _, h.isS, rfl, .ty "str", g1, g2, h.isS, rfl, ?_⟩
      cases h with
      | s w0 =>
        obtain rfl : x = V.str w0 := hx.1
        refine iteF ?_
        obtain ⟨r, er, rr⟩ := hLen w0
        refine ⟨rfl, _, rfl, w0, r, lenV w0, rfl, er, rr, ?_⟩
        refine ⟨_, rfl, a, _, rfl, .inr (SqT.of ha), lenD w0, .int 3, lenV_dp w0, .int _, lenD_shaped w0, by decide +kernel, _, rfl, ?_⟩
        have ev : PyData.eqv (lenD w0) (.int 3) = decide (lenN w0 = some 3) := lenD_eqv w0 3
        rw [ev]
        by_cases hl : lenN w0 = some 3
        · rw [decide_eq_true hl]
          refine iteF ?_
          obtain ⟨n1, n2⟩ := lenN_three hl
          refine ⟨_, rfl, rfl, true, ?_, ?_⟩
          · rw [decide_eq_false (fun z => n1 (by injection z))]
            rfl
          refine iteT ?_
          have q := k H self
          have e : (Th.t3 (.s w0) b c0).form = true := n2
          rw [e] at q
          exact q
        · rw [decide_eq_false hl]
          refine iteT ?_
          have q := k H self
          have e : (Th.t3 (.s w0) b c0).form = false := by
            show (decide (w0 = "to") || decide (w0 = "both")) = _
            rw [decide_eq_false (fun z => hl (by rw [z]; decide +kernel)), decide_eq_false (fun z => hl (by rw [z]; decide +kernel))]
            rfl
          rw [e] at q
          exact q
      | non =>
        refine iteT ?_
        exact k H self
      | l w0 =>
        refine iteT ?_
        exact k H self
      | m w0 w1 =>
        refine iteT ?_
        exact k H self
    | t4 h =>
      obtain ⟨a, x, y, z, u, rfl, ha, hx⟩ := hv
      refine ⟨_, rfl, _, _, _, _, true, rfl, .ty "tuple", .base (.tup ha), kit_ty (r := true) (by decide +kernel), true, rfl, ?_⟩
      refine iteF ?_
      refine ⟨_, rfl, a, _, rfl, .inr (SqT.of ha), rfl, _, rfl, ?_⟩
      refine ite2 (fun y => by cases y) (fun _ => ?_)
      refine ⟨_, rfl, a, _, _, _, rfl, rfl, SqT.of ha, atI_nat (j := 0) rfl, ?_⟩
      obtain ⟨ty, g1, g2⟩ := hd_str (K := K) h x hx
      refine ⟨_, rfl, _, _, _, _, h.isS, rfl, .ty "str", g1, g2, h.isS, rfl, ?_⟩
      cases h with
      | s w0 =>
        obtain rfl : x = V.str w0 := hx.1
        refine iteF ?_
        obtain ⟨r, er, rr⟩ := hLen w0
        refine ⟨rfl, _, rfl, w0, r, lenV w0, rfl, er, rr, ?_⟩
        refine ⟨_, rfl, a, _, rfl, .inr (SqT.of ha), lenD w0, .int 4, lenV_dp w0, .int _, lenD_shaped w0, by decide +kernel, _, rfl, ?_⟩
        have ev : PyData.eqv (lenD w0) (.int 4) = decide (lenN w0 = some 4) := lenD_eqv w0 4
        rw [ev]
        by_cases hl : lenN w0 = some 4
        · exact absurd hl (lenN_no w0 4 (by decide))
        · rw [decide_eq_false hl]
          refine iteT ?_
          exact k H self
      | non =>
        refine iteT ?_
        exact k H self
      | l w0 =>
        refine iteT ?_
        exact k H self
      | m w0 w1 =>
        refine iteT ?_
        exact k H self
end
theorem form_t1 {h : Hd} (e : (Th.t1 h).form = true) : h = .s "one" := by
  cases h with
  | s x => rw [of_decide_eq_true (show decide (x = "one") = true from e)]
  | _ => cases e
theorem form_t2 {h : Hd} {b : Th} (e : (Th.t2 h b).form = true) : h = .s "mark" := by
  cases h with
  | s x =>
    have e' : (decide (x = "mark") && b.markT) = true := e
    rw [of_decide_eq_true (Bool.and_eq_true_iff.mp e').1]
  | _ => cases e
theorem form_t3 {h : Hd} {b c : Th} (e : (Th.t3 h b c).form = true) : ∃ x, h = .s x ∧ decide (V.str x = V.str "mark") = false := by
  cases h with
  | s x =>
    refine ⟨x, rfl, ?_⟩
    have e' : (decide (x = "to") || decide (x = "both")) = true := e
    rcases Bool.or_eq_true_iff.mp e' with z | z
    · rw [of_decide_eq_true z]
      decide +kernel
    · rw [of_decide_eq_true z]
      decide +kernel
  | _ => cases e
/-! the stack -/
def QAt (H0 H : Hp) (q : Th × Nat) (v : V) : Prop := ∃ t x, v = .ref t ∧ H t = some (.tup [x, .int (q.2 : Int)]) ∧ ThAt H0 q.1 x
theorem QAt.same {H0 H H' : Hp} (s : Same H H') (q : Th × Nat) (v : V) : QAt H0 H q v → QAt H0 H' q v := fun ⟨t, x, e, h, k⟩ => ⟨t, x, e, s _ _ h, k⟩
def gS (ks : List (Th × Nat)) : Bool := ks.all fun q => q.1.gd (13 - q.2)
def lS : List (Th × Nat) → Nat
  | [] => 0
  | q :: r => q.1.lv + lS r
def zS : List (Th × Nat) → Nat
  | [] => 0
  | q :: r => q.1.sz + zS r
theorem gS_app (a b : List (Th × Nat)) : gS (a ++ b) = (gS a && gS b) := List.all_append
theorem lS_app : ∀ a b : List (Th × Nat), lS (a ++ b) = lS a + lS b
  | [], b => (Nat.zero_add _).symm
  | q :: a, b => by
    show q.1.lv + lS (a ++ b) = q.1.lv + lS a + lS b
    rw [lS_app a b]
    omega
theorem zS_app : ∀ a b : List (Th × Nat), zS (a ++ b) = zS a + zS b
  | [], b => (Nat.zero_add _).symm
  | q :: a, b => by
    show q.1.sz + zS (a ++ b) = q.1.sz + zS a + zS b
    rw [zS_app a b]
    omega
theorem zS_len : ∀ a : List (Th × Nat), a.length ≤ zS a
  | [] => Nat.le_refl _
  | q :: a => by
    have h := zS_len a
    have p := q.1.sz_pos
    show a.length + 1 ≤ q.1.sz + zS a
    omega
theorem gd_small : ∀ (t : Th) (r : Nat), t.form = false → t.gd r = false
  | _, 0, _ => by unfold Th.gd; rfl
  | .t3 h b c, r + 1, e => by unfold Th.gd; rw [e]; rfl
  | .atom _, r + 1, e => by unfold Th.gd; exact e
  | .lst, r + 1, e => by unfold Th.gd; exact e
  | .dct, r + 1, e => by unfold Th.gd; exact e
  | .t0, r + 1, e => by unfold Th.gd; exact e
  | .t1 _, r + 1, e => by unfold Th.gd; exact e
  | .t2 _ _, r + 1, e => by unfold Th.gd; exact e
  | .t4 _, r + 1, e => by unfold Th.gd; exact e
theorem gd_step : ∀ (t : Th) (r : Nat), t.form = true → t.gd (r + 1) = gS (t.kids.map fun k => (k, 13 - r)) ∨ 13 < r
  | .t3 h b c, r, e => by
    rcases Nat.lt_or_ge 13 r with z | z
    · exact .inr z
    · refine .inl ?_
      have e2 : 13 - (13 - r) = r := by omega
      unfold Th.gd
      rw [e, Bool.true_and]
      show _ = (b.gd (13 - (13 - r)) && (c.gd (13 - (13 - r)) && true))
      rw [e2, Bool.and_true]
  | .atom _, _, e => by cases e
  | .lst, _, e => by cases e
  | .dct, _, e => by cases e
  | .t0, _, e => by cases e
  | .t1 _, r, e => .inl (by unfold Th.gd; rw [e]; rfl)
  | .t2 _ _, r, e => .inl (by unfold Th.gd; rw [e]; rfl)
  | .t4 _, _, e => by
    rename_i h
    cases h <;> cases e
theorem kids_empty {t : Th} (h : t.kids = []) : t.lv = 1 ∧ t.sz = 1 := by
  cases t with
  | t3 _ _ _ => cases h
  | _ => exact ⟨rfl, rfl⟩
theorem kids_full {t : Th} (h : t.kids ≠ []) : ∃ b c, t.kids = [b, c] ∧ t.lv = b.lv + c.lv ∧ t.sz = b.sz + c.sz + 1 := by
  cases t with
  | t3 _ b c => exact ⟨b, c, rfl, rfl, rfl⟩
  | _ => exact absurd rfl h
def spIsK (P1 : Addr) : Sp := fun vs H Q _ => ∃ (v : V) (t : Th), vs = [v] ∧ ThAt H t v ∧ t.sz ≤ 500 ∧ TabG H P1 ∧ ∀ H', Ev P1 H H' → Q (.bl t.isK) H'
section
variable {P : Program} {w : World} {K : PySem.W.Frag} {mg : Str → Option Value} {base : Heap}
theorem scKin : FnScope ["kind"] ["kind"] (defScope sKin) := ⟨rfl, rfl, rfl, by decide +kernel, rfl, by decide +kernel, by decide +kernel⟩
theorem ok_kin {f P1 : Addr} {fd : FuncData} (F : Fun K "kinds_in" "kinds_in" sKin f fd) (mList : mg "list" = none) : FnOk P w K mg base CX0 1 f fd ["kind"] (spKin P1) := by
  refine F.ok scKin (fun vs H Q E h => ?_) (fun cdv A outer s H vs Q E hr h => ?_)
  · obtain ⟨v, k, _, rfl, _⟩ := h
    rfl
  · obtain ⟨v, t, H0, rfl, hv, hev, hf, k⟩ := h
    have up : ∀ (b : Addr) (xs : List V), H0 b = some (.tup xs) → H b = some (.tup xs) := fun b xs e => hev.2 _ _ (fun _ z => by cases z) e
    refine ⟨_, pss_cons (ps_if (pt_cmpR op_eq (pe_ix ix_tup (pv 0) pe_int (fun _ _ => rfl)) pe_str (nomark _)) (pss_one (ps_ret (pe_lst pa_nil))) pss_nil)
      (pss_one (ps_ret (pe_callTy call_list_of (by rfl) mList (by decide +kernel) (pa_cons (pe_slice sl_tup (pv 0) (po_some pe_int) po_none) pa_nil)))), ?_⟩
    cases t with
    | t1 h =>
      obtain rfl := form_t1 hf
      obtain ⟨a, x, rfl, ha, hx⟩ := hv
      replace ha := up _ _ ha
      obtain rfl : x = V.str "one" := hx.1
      refine ⟨_, rfl, a, _, _, _, rfl, rfl, SqT.of ha, atI_nat (j := 0) rfl, rfl, _, rfl, ?_⟩
      refine ite2 (fun h => absurd h (by decide +kernel)) (fun _ => ?_)
      refine ⟨_, rfl, _, rfl, a, _, rfl, SqT.of ha, by decide, fun p hp => ?_⟩
      refine ⟨p, _, rfl, .inr (SqT.of upd_same), fun l hl => ?_⟩
      exact k l [] _ ((same_new hp).free hl) upd_same (Same.trans (same_new hp) (same_new hl)) trivial
    | t2 h b =>
      obtain rfl := form_t2 hf
      obtain ⟨a, x, y, rfl, ha, hx, hb⟩ := hv
      replace ha := up _ _ ha
      obtain rfl : x = V.str "mark" := hx.1
      refine ⟨_, rfl, a, _, _, _, rfl, rfl, SqT.of ha, atI_nat (j := 0) rfl, rfl, _, rfl, ?_⟩
      refine ite2 (fun _ => ?_) (fun h => absurd (by decide +kernel) h)
      exact ⟨by show 0 ≤ sizeLine; decide, fun l hl => k l [] _ hl upd_same (same_new hl) trivial⟩
    | t3 h b c =>
      obtain ⟨w0, rfl, hw⟩ := form_t3 hf
      obtain ⟨a, x, y, z, rfl, ha, hx, hb, hc⟩ := hv
      replace ha := up _ _ ha
      obtain rfl : x = V.str w0 := hx.1
      refine ⟨_, rfl, a, _, _, _, rfl, rfl, SqT.of ha, atI_nat (j := 0) rfl, rfl, _, rfl, ?_⟩
      rw [hw]
      refine iteF ?_
      refine ⟨_, rfl, _, rfl, a, _, rfl, SqT.of ha, by show ¬ (HT.sIx 3 0 (some 1) = 0 ∧ HT.sIx 3 3 none = 3); decide, fun p hp => ?_⟩
      refine ⟨p, _, rfl, .inr (SqT.of upd_same), fun l hl => ?_⟩
      exact k l [y, z] _ ((same_new hp).free hl) upd_same (Same.trans (same_new hp) (same_new hl)) ⟨hb, hc, trivial⟩
    | t4 h => cases h <;> cases hf
    | _ => cases hf
theorem scIsK : FnScope ["thing", "leaves", "todo", "part", "depth", "inner", "kind"] ["thing"] (defScope sIsK) := ⟨rfl, rfl, rfl, by decide +kernel, rfl, by decide +kernel, by decide +kernel⟩
theorem ok_isK {f fF fK P1 : Addr} {fd fdF fdK : FuncData} {u1 u2 : Tok} (F : Fun K "is_kind" "is_kind" sIsK f fd)
    (GF : FnOk P w K mg base CX0 2 fF fdF ["thing"] (spForm P1)) (kF : PySem.W.keepIn K (.ref fF) = true) (bF : Binds K fdF ["thing"] []) (gF : mg "has_form" = some (.ref fF))
    (GK : FnOk P w K mg base CX0 1 fK fdK ["kind"] (spKin P1)) (kK : PySem.W.keepIn K (.ref fK) = true) (bK : Binds K fdK ["kind"] []) (gK : mg "kinds_in" = some (.ref fK))
    (gD : mg "DEEPEST" = some (.int 12 u1)) (gL : mg "MOST_LEAVES" = some (.int 24 u2)) : FnOk P w K mg base CX0 3 f fd ["thing"] (spIsK P1) := by
  refine F.ok scIsK (fun vs H Q E h => ?_) (fun cdv A outer s H vs Q E hr h => ?_)
  · obtain ⟨v, t, rfl, _⟩ := h
    rfl
  · obtain ⟨v, t, rfl, hv, hz, ht, k⟩ := h
    have hr1 : Room 1 _ := hr.mono (by omega)
    refine ⟨_, pss_cons (ps_set (i := 1) scIsK.nd rfl (Or.inl rfl) pe_int)
      (pss_cons (ps_set (i := 2) scIsK.nd rfl (Or.inl rfl) (pe_lst (pa_cons (pe_tup (pa_cons (pv 0) (pa_cons pe_int pa_nil))) pa_nil)))
      (pss_cons (ps_while PassesOwn.never (pt_truth (pv 2) (by intro _; rfl))
        (pss_cons (ps_asg (pe_bm0 PySem.F.plainAttrs_list PySem.F.slot_list_pop PySem.F.type_list_pop mt_pop (pv 2)) (pg_tup (by rfl) (pgs_cons (pg_name (i := 3) scIsK.nd rfl (Or.inl rfl)) (pgs_cons (pg_name (i := 4) scIsK.nd rfl (Or.inl rfl)) pgs_nil))))
        (pss_cons (ps_if (PW.pt (pw_or (pt_cmpR op_gt (pv 4) (pe_glob (v := .int 12) (by rfl) gD ⟨_, rfl⟩) (nomark _)) (pw_or1 (pt_not (pt_val (pe_call GF hr (by rfl) gF kF bF .nil pass0 (pa_cons (pv 3) pa_nil))))))) (pss_one (ps_ret pe_bl)) pss_nil)
        (pss_cons (ps_set (i := 5) scIsK.nd rfl (Or.inl rfl) (pe_call GK hr1 (by rfl) gK kK bK .nil pass0 (pa_cons (pv 3) pa_nil)))
        (pss_cons (ps_if (pt_not (pt_truth (pv 5) (by intro _; rfl))) (pss_one (ps_aug (i := 1) scIsK.nd rfl (Or.inl rfl) pe_int ip_add)) pss_nil)
        (pss_cons (ps_if (pt_cmpR op_gt (pv 1) (pe_glob (v := .int 24) (by rfl) gL ⟨_, rfl⟩) (nomark _)) (pss_one (ps_ret pe_bl)) pss_nil)
        (pss_one (ps_for PassesOwn.never rfl (pi_list (pv 5)) (pg_name (i := 6) scIsK.nd rfl (Or.inl rfl))
          (pss_one (ps_expr (pe_bm PySem.F.plainAttrs_list PySem.F.slot_list_append PySem.F.type_list_append mt_append (pv 2) (pa_cons (pe_tup (pa_cons (pv 6) (pa_cons (pe_op op_add (pv 4) pe_int) pa_nil))) pa_nil))))))))))))
      (pss_one (ps_ret pe_bl)))), ?_⟩
    refine ⟨_, rfl, by show 2 ≤ sizeLine; decide, fun t0 ht0 => ⟨by show 1 ≤ sizeLine; decide, fun T hT1 => ?_⟩⟩
    have hT : H T = none := (same_new ht0).free hT1
    have S0 : Same H (upd (upd H t0 (.tup [v, .int 0])) T (.lst [.ref t0])) := Same.trans (same_new ht0) (same_new hT1)
    have n0 : t0 ≠ T := fun z => by rw [← z, upd_same] at hT1; cases hT1
    refine ⟨fun m σ H2 => ∃ (ks : List (Th × Nat)) (vs : List V) (i3 i4 i5 i6 : Option V) (n : Nat), σ = [some v, some (.int (n : Int)), some (.ref T), i3, i4, i5, i6] ∧ H2 T = some (.lst vs) ∧ All2 (QAt H H2) ks vs ∧ Ev P1 H H2 ∧
        (gS ks && decide (n + lS ks ≤ 24)) = t.isK ∧ m = zS ks ∧ zS ks ≤ 500 ∧ n ≤ 24,
      ⟨t.sz, [(t, 0)], [.ref t0], none, none, none, none, 0, rfl, upd_same, ⟨⟨t0, v, rfl, ?_, hv⟩, trivial⟩, ev_same ht S0, ?_, ?_, ?_, by omega⟩, ?_⟩
    · rw [upd_ne n0, upd_same]
      rfl
    · show ((t.gd 13 && true) && decide (0 + (t.lv + 0) ≤ 24)) = _
      rw [Bool.and_true, Nat.zero_add, Nat.add_zero]
      rfl
    · show t.sz = t.sz + 0
      omega
    · show t.sz + 0 ≤ 500
      omega
    rintro m σ H2 ⟨ks, vs, i3, i4, i5, i6, n, rfl, hvs, hA, hE, hI, hm, hq, hn⟩
    refine ⟨_, rfl, _, .inl ⟨_, SqL.of hvs, rfl⟩, ?_⟩
    by_cases he : vs = []
    · subst he
      refine iteF ?_
      obtain rfl : ks = [] := List.eq_nil_of_length_eq_zero hA.len
      have e : t.isK = true := by
        rw [← hI]
        show (true && decide (n + 0 ≤ 24)) = true
        rw [decide_eq_true (by omega)]
        rfl
      have q := k H2 hE
      rw [e] at q
      exact q
    · obtain ⟨ls, ⟨tx, d⟩, y, rfl, ev, hl2, hr2, hy⟩ := hA.last he
      have e1 : (!vs.isEmpty) = true := by cases vs with | nil => exact absurd rfl he | cons a r => rfl
      rw [if_pos e1]
      obtain ⟨tt, x, rfl, htt, hx⟩ := hr2
      have kT : ∀ b o, b ≠ T → H2 b = some o → (upd H2 T (.lst vs.dropLast)) b = some o := fun b o nb e => by rw [upd_ne nb]; exact e
      have nt : ∀ (q : Th × Nat) (u : V), QAt H H2 q u → QAt H (upd H2 T (.lst vs.dropLast)) q u := fun q u ⟨a, b, h1, h2, h3⟩ => ⟨a, b, h1, kT a _ (ne_of h2 hvs (by intro z; cases z)) h2, h3⟩
      have hls := hl2.mono nt
      have hE1 : Ev P1 H (upd H2 T (.lst vs.dropLast)) := ev_over hE hT ⟨_, hvs, fun ps z => by cases z⟩
      have hT3 : (upd H2 T (.lst vs.dropLast)) T = some (.lst vs.dropLast) := upd_same
      have htt3 := kT tt _ (ne_of htt hvs (by intro z; cases z)) htt
      rw [gS_app, lS_app] at hI
      rw [zS_app] at hm hq
      change m = zS ls + (tx.sz + 0) at hm
      change zS ls + (tx.sz + 0) ≤ 500 at hq
      change ((gS ls && (tx.gd (13 - d) && true)) && decide (n + (lS ls + (tx.lv + 0)) ≤ 24)) = _ at hI
      rw [Bool.and_true, Nat.add_zero] at hI
      have zp := tx.sz_pos
      have lp := tx.lv_pos
      have zl := zS_len ls
      have zv := hl2.len
      refine ⟨_, fun _ _ z => z, ?_⟩
      refine ⟨_, rfl, .inl ⟨rfl, _, .inl (.inl hvs)⟩, T, vs, _, rfl, rfl, hvs, hy, ?_⟩
      generalize upd H2 T (.lst vs.dropLast) = H3 at *
      refine ⟨tt, _, rfl, SqT.of htt3, rfl, ?_⟩
      refine ⟨_, _, rfl, _, _, rfl, rfl, ?_⟩
      refine ⟨_, rfl, _, _, rfl, rfl, _, rfl, ?_⟩
      by_cases hd : (12 : Int) < (d : Int)
      · refine ite2 (fun _ => ?_) (fun y => absurd (decide_eq_true hd) y)
        refine iteT ?_
        have e : t.isK = false := by
          rw [← hI]
          have e2 : 13 - d = 0 := by omega
          rw [e2]
          unfold Th.gd
          rw [Bool.and_false, Bool.false_and]
        have q := k H3 hE1
        rw [e] at q
        exact q
      · refine ite2 (fun y => absurd (of_decide_eq_true y) hd) (fun _ => ?_)
        refine ⟨_, rfl, x, tx, rfl, hx.ev hE1, hE1.1, fun H4 e34 => ⟨tx.form, rfl, ?_⟩⟩
        have hE4 := hE1.trans e34
        cases hf : tx.form with
        | false =>
          refine iteT ?_
          have e : t.isK = false := by
            rw [← hI, gd_small tx _ hf, Bool.and_false, Bool.false_and]
          have q := k H4 hE4
          rw [e] at q
          exact q
        | true =>
          refine iteF ?_
          refine ⟨_, rfl, x, tx, H, rfl, hx, hE4, hf, fun D xs H5 hD hDx s5 hkids => ?_⟩
          have hE5 := hE4.trans (ev_same hE4.1 s5)
          have e35 := e34.trans (ev_same hE4.1 s5)
          have hT4 := e34.2 _ _ (fun ps z => by cases z) hT3
          have hT5 := s5 _ _ hT4
          have nDT : D ≠ T := fun z => by rw [z, hT4] at hD; cases hD
          have hls5 : All2 (QAt H H5) ls vs.dropLast := hls.mono fun q u ⟨a, b, h1, h2, h3⟩ => ⟨a, b, h1, e35.2 _ _ (fun ps z => by cases z) h2, h3⟩
          have zk := hkids.len
          have gstep : tx.gd (13 - d) = gS (tx.kids.map fun k => (k, d + 1)) := by
            have e2 : 13 - d = (12 - d) + 1 := by omega
            have e3 : 13 - (12 - d) = d + 1 := by omega
            rcases gd_step tx (12 - d) hf with z | z
            · rw [e2, z, e3]
            · omega
          by_cases hkd : tx.kids = []
          · obtain ⟨lv1, sz1⟩ := kids_empty hkd
            rw [hkd] at zk
            have hx0 : xs = [] := List.eq_nil_of_length_eq_zero zk.symm
            have e3 : (!(!xs.isEmpty)) = true := by rw [hx0]; rfl
            refine ⟨_, rfl, _, .inl ⟨_, SqL.of hDx, rfl⟩, ?_⟩
            refine ite2 (fun _ => ?_) (fun z => absurd e3 z)
            refine ⟨_, rfl, _, _, rfl, rfl, ?_⟩
            refine ⟨_, rfl, _, _, rfl, rfl, _, rfl, ?_⟩
            by_cases hc : (24 : Int) < (n : Int) + 1
            · refine ite2 (fun _ => ?_) (fun y => absurd (decide_eq_true hc) y)
              have e : t.isK = false := by
                rw [← hI, decide_eq_false (by omega), Bool.and_false]
              have q := k H5 hE5
              rw [e] at q
              exact q
            · refine ite2 (fun y => absurd (of_decide_eq_true y) hc) (fun _ => ?_)
              rw [← hkd] at zk
              have lk : lS (tx.kids.map fun k => (k, d + 1)) = 0 := by rw [hkd]; rfl
              have zk2 : zS (tx.kids.map fun k => (k, d + 1)) = 0 := by rw [hkd]; rfl
              have kl : tx.kids.length = 0 := by rw [hkd]; rfl
              refine ⟨_, rfl, D, rfl, ⟨_, SqL.of hDx⟩, for_list (K := K) (a := D) (xs := xs) (fun i σ H6 => ∃ (us : List V) (i6 : Option V), σ = [some v, some (.int ((n + 1 : Nat) : Int)), some (.ref T), some x, some (.int (d : Int)), some (.ref D), i6] ∧ H6 T = some (.lst us) ∧
                All2 (QAt H H6) (ls ++ (tx.kids.take i).map fun q => (q, d + 1)) us ∧ Ev P1 H H6 ∧ H6 D = some (.lst xs))
                ⟨vs.dropLast, i6, rfl, hT5, by rw [List.take_zero, List.map_nil, List.append_nil]; exact hls5, hE5, hDx⟩ (fun i σ H6 _ ⟨_, _, _, _, _, _, g⟩ => SqL.of g) ?_ ?_⟩
              · rintro i y H6s H6 hi ⟨us, j6, rfl, hu, hA6, hE6, hD6⟩
                obtain ⟨q, hq1, hq2⟩ := hkids.get hi
                have hil : i < xs.length := (List.getElem?_eq_some_iff.mp hi).1
                have zl6 := hA6.len
                rw [List.length_append, List.length_map, List.length_take] at zl6
                refine ⟨_, rfl, .inl ⟨rfl, _, .inl (.inl hu)⟩, _, rfl, _, rfl, _, _, rfl, rfl, (by show 2 ≤ sizeLine; decide), fun tn htn => ?_⟩
                have st : Same H6 (upd H6 tn (.tup [y, .int ((d : Int) + 1)])) := same_new htn
                have fn : (upd H6 tn (.tup [y, .int ((d : Int) + 1)])) tn = some (.tup [y, .int ((d : Int) + 1)]) := upd_same
                have hE7 := hE6.trans (ev_same hE6.1 st)
                have ntT : tn ≠ T := fun z => by rw [z, hu] at htn; cases htn
                generalize upd H6 tn (.tup [y, .int ((d : Int) + 1)]) = H7 at *
                refine ⟨T, us, _, rfl, rfl, st _ _ hu, small1000 (by omega), ?_⟩
                have kT7 : ∀ b o, b ≠ T → H7 b = some o → (upd H7 T (.lst (us ++ [.ref tn]))) b = some o := fun b o nb e => by rw [upd_ne nb]; exact e
                refine ⟨us ++ [.ref tn], some y, rfl, upd_same, ?_, ev_over hE7 hT ⟨_, st _ _ hu, fun ps z => by cases z⟩, kT7 _ _ nDT (st _ _ hD6)⟩
                rw [List.take_add_one, hq1, List.map_append, ← List.append_assoc]
                refine (hA6.mono fun q u ⟨a, b, h1, h2, h3⟩ => ⟨a, b, h1, kT7 a _ (ne_of (st _ _ h2) (st _ _ hu) (by intro z; cases z)) (st _ _ h2), h3⟩).app (ls := [(q, d + 1)]) (us := [V.ref tn]) ⟨⟨tn, y, rfl, kT7 _ _ ntT fn, hq2⟩, trivial⟩
              · rintro H6s H6 ⟨us, j6, rfl, hu, hA6, hE6, hD6⟩
                rw [← zk, List.take_length] at hA6
                refine ⟨zS ls, by omega, _, us, _, _, _, _, (n + 1 : Nat), rfl, hu, hA6, hE6, ?_, ?_, ?_, by omega⟩
                · rw [gS_app, lS_app, ← gstep]
                  rw [← hI]
                  rw [lk, lv1, show n + 1 + (lS ls + 0) = n + (lS ls + 1) by omega]
                · rw [zS_app, zk2] <;> omega
                · rw [zS_app, zk2] <;> omega
          · obtain ⟨b, c, hbc, lv2, sz2⟩ := kids_full hkd
            rw [hbc] at zk
            change 2 = _ at zk
            have e2 : (!(!xs.isEmpty)) = false := by cases xs with | nil => cases zk | cons a r => rfl
            refine ⟨_, rfl, _, .inl ⟨_, SqL.of hDx, rfl⟩, ?_⟩
            refine ite2 (fun z => by rw [e2] at z; cases z) (fun _ => ?_)
            refine ⟨_, rfl, _, _, rfl, rfl, _, rfl, ?_⟩
            refine ite2 (fun y => absurd (of_decide_eq_true y) (by omega)) (fun _ => ?_)
            have kl : tx.kids.length = 2 := by rw [hbc]; rfl
            have zk : tx.kids.length = xs.length := by rw [kl]; exact zk
            have lk : lS (tx.kids.map fun k => (k, d + 1)) = b.lv + c.lv := by
              rw [hbc]
              show b.lv + (c.lv + 0) = _
              omega
            have zk2 : zS (tx.kids.map fun k => (k, d + 1)) = b.sz + c.sz := by
              rw [hbc]
              show b.sz + (c.sz + 0) = _
              omega
            refine ⟨_, rfl, D, rfl, ⟨_, SqL.of hDx⟩, for_list (K := K) (a := D) (xs := xs) (fun i σ H6 => ∃ (us : List V) (i6 : Option V), σ = [some v, some (.int (n : Int)), some (.ref T), some x, some (.int (d : Int)), some (.ref D), i6] ∧ H6 T = some (.lst us) ∧
              All2 (QAt H H6) (ls ++ (tx.kids.take i).map fun q => (q, d + 1)) us ∧ Ev P1 H H6 ∧ H6 D = some (.lst xs))
              ⟨vs.dropLast, i6, rfl, hT5, by rw [List.take_zero, List.map_nil, List.append_nil]; exact hls5, hE5, hDx⟩ (fun i σ H6 _ ⟨_, _, _, _, _, _, g⟩ => SqL.of g) ?_ ?_⟩
            · rintro i y H6s H6 hi ⟨us, j6, rfl, hu, hA6, hE6, hD6⟩
              obtain ⟨q, hq1, hq2⟩ := hkids.get hi
              have hil : i < xs.length := (List.getElem?_eq_some_iff.mp hi).1
              have zl6 := hA6.len
              rw [List.length_append, List.length_map, List.length_take] at zl6
              refine ⟨_, rfl, .inl ⟨rfl, _, .inl (.inl hu)⟩, _, rfl, _, rfl, _, _, rfl, rfl, (by show 2 ≤ sizeLine; decide), fun tn htn => ?_⟩
              have st : Same H6 (upd H6 tn (.tup [y, .int ((d : Int) + 1)])) := same_new htn
              have fn : (upd H6 tn (.tup [y, .int ((d : Int) + 1)])) tn = some (.tup [y, .int ((d : Int) + 1)]) := upd_same
              have hE7 := hE6.trans (ev_same hE6.1 st)
              have ntT : tn ≠ T := fun z => by rw [z, hu] at htn; cases htn
              generalize upd H6 tn (.tup [y, .int ((d : Int) + 1)]) = H7 at *
              refine ⟨T, us, _, rfl, rfl, st _ _ hu, small1000 (by omega), ?_⟩
              have kT7 : ∀ b o, b ≠ T → H7 b = some o → (upd H7 T (.lst (us ++ [.ref tn]))) b = some o := fun b o nb e => by rw [upd_ne nb]; exact e
              refine ⟨us ++ [.ref tn], some y, rfl, upd_same, ?_, ev_over hE7 hT ⟨_, st _ _ hu, fun ps z => by cases z⟩, kT7 _ _ nDT (st _ _ hD6)⟩
              rw [List.take_add_one, hq1, List.map_append, ← List.append_assoc]
              refine (hA6.mono fun q u ⟨a, b, h1, h2, h3⟩ => ⟨a, b, h1, kT7 a _ (ne_of (st _ _ h2) (st _ _ hu) (by intro z; cases z)) (st _ _ h2), h3⟩).app (ls := [(q, d + 1)]) (us := [V.ref tn]) ⟨⟨tn, y, rfl, kT7 _ _ ntT fn, hq2⟩, trivial⟩
            · rintro H6s H6 ⟨us, j6, rfl, hu, hA6, hE6, hD6⟩
              rw [← zk, List.take_length] at hA6
              refine ⟨zS ls + (b.sz + c.sz), by omega, _, us, _, _, _, _, n, rfl, hu, hA6, hE6, ?_, ?_, ?_, by omega⟩
              · rw [gS_app, lS_app, ← gstep]
                rw [← hI]
                rw [lk, lv2]
              · rw [zS_app, zk2] <;> omega
              · rw [zS_app, zk2] <;> omega
end
abbrev sEven : Stmt := top 14
abbrev sChain : Stmt := top 15
def word (b : Bool) : Str := if b then "to" else "both"
theorem so_word : ∀ b : Bool, SOk (word b)
  | true => so_to
  | false => so_both
theorem pool_marks {H : Hp} {p M : Addr} {ms : List Str} (hp : PoolAt H p) (hM : H M = some (.lst (ms.map V.str))) : M ≠ p := fun z => by
  obtain ⟨c, n, e, _⟩ := hp
  rw [z, e] at hM
  cases ms with
  | nil => cases hM
  | cons a r => cases hM
theorem HdAt.kept {H H' : Hp} {p : Addr} (k : Kept p H H') (hp : PoolAt H p) : ∀ (h : Hd) (v : V), HdAt H h v → HdAt H' h v
  | .s _, _, q => q
  | .non, _, q => q
  | .l x, _, ⟨⟨a, q1, q2⟩, o⟩ => ⟨⟨a, q1, k _ _ (fun z => by
      obtain ⟨c, n, e, _⟩ := hp
      rw [z, e] at q2
      cases q2) q2⟩, o⟩
  | .m _ _, _, ⟨⟨a, q1, q2⟩, o⟩ => ⟨⟨a, q1, k _ _ (fun z => by
      obtain ⟨c, n, e, _⟩ := hp
      rw [z, e] at q2
      cases q2) q2⟩, o⟩
theorem tup_kept {H H' : Hp} {p : Addr} (k : Kept p H H') (hp : PoolAt H p) {a : Addr} {xs : List V} (e : H a = some (.tup xs)) : H' a = some (.tup xs) := k _ _ (fun z => by
  obtain ⟨c, n, q, _⟩ := hp
  rw [z, q] at e
  cases e) e
theorem ThAt.kept {H H' : Hp} {p : Addr} (k : Kept p H H') (hp : PoolAt H p) (hp' : PoolAt H' p) : ∀ {t : Th} {v : V}, ThAt H t v → ThAt H' t v
  | .atom _, _, q => q
  | .lst, _, ⟨a, xs, q1, q2⟩ => by
    by_cases z : a = p
    · obtain ⟨c, n, e, _⟩ := hp'
      exact ⟨a, _, q1, z ▸ e⟩
    · exact ⟨a, xs, q1, k _ _ z q2⟩
  | .dct, _, ⟨a, q1, q2⟩ => ⟨a, q1, k _ _ (fun z => by
      obtain ⟨c, n, e, _⟩ := hp
      rw [z, e] at q2
      cases q2) q2⟩
  | .t0, _, ⟨a, q1, q2⟩ => ⟨a, q1, tup_kept k hp q2⟩
  | .t1 h, _, ⟨a, x, q1, q2, q3⟩ => ⟨a, x, q1, tup_kept k hp q2, q3.kept k hp⟩
  | .t2 h b, _, ⟨a, x, y, q1, q2, q3, q4⟩ => ⟨a, x, y, q1, tup_kept k hp q2, q3.kept k hp, ThAt.kept k hp hp' q4⟩
  | .t3 h b c, _, ⟨a, x, y, z, q1, q2, q3, q4, q5⟩ => ⟨a, x, y, z, q1, tup_kept k hp q2, q3.kept k hp, ThAt.kept k hp hp' q4, ThAt.kept k hp hp' q5⟩
  | .t4 h, _, ⟨a, x, y, z, u, q1, q2, q3⟩ => ⟨a, x, y, z, u, q1, tup_kept k hp q2, q3.kept k hp⟩
theorem ThAt.same {H H' : Hp} {p : Addr} {t : Th} {v : V} (h : ThAt H t v) (hp : PoolAt H p) (s : Same H H') : ThAt H' t v := h.kept (kept_same s) hp (hp.same s)
/-- what the drawn kinds are built of -/
def Kl : Th → Prop
  | .t1 _ => True
  | .t2 _ _ => True
  | .t3 (.s _) b c => Kl b ∧ Kl c
  | _ => False
def spEven (n : Nat) : Sp := fun vs H Q _ => ∃ (p M : Addr) (L : Nat) (ms : List Str), vs = [.ref p, .int (L : Int), .ref M] ∧ PoolAt H p ∧ 1 ≤ L ∧ L ≤ n ∧ L ≤ 1000 ∧ H M = some (.lst (ms.map V.str)) ∧ 1 ≤ ms.length ∧ ms.length ≤ 1000 ∧
  (∀ m ∈ ms, m.length ≤ 1000 ∧ SOk m) ∧ ∀ (v : V) (t : Th) (H' : Hp), ThAt H' t v → t.sz + 1 ≤ 2 * L → Kl t → PoolAt H' p → Kept p H H' → Q v H'
section
variable {P : Program} {w : World} {K : PySem.W.Frag} {mg : Str → Option Value} {base : Heap}
theorem scEven : FnScope ["_law_pool_here", "_law_leaves_here", "_law_marks", "_law_one", "_law_word"] ["_law_pool_here", "_law_leaves_here", "_law_marks"] (defScope sEven) := ⟨rfl, rfl, rfl, by decide +kernel, rfl, by decide +kernel, by decide +kernel⟩
theorem ok_even {f fT : Addr} {fd fdT : FuncData} (F : Fun K "_law_even" "_law_even" sEven f fd) (bF : Binds K fd ["_law_pool_here", "_law_leaves_here", "_law_marks"] []) (gF : mg "_law_even" = some (.ref f))
    (FT : Fun K "_law_take" "_law_take" sTake fT fdT) (bT : Binds K fdT ["_law_pool_here", "_law_many"] []) (gT : mg "_law_take" = some (.ref fT)) (mLen : mg "len" = none) :
    ∀ n : Nat, FnOk P w K mg base CX0 (n + 2) f fd ["_law_pool_here", "_law_leaves_here", "_law_marks"] (spEven n) := by
  have GT : FnOk P w K mg base CX0 1 fT fdT ["_law_pool_here", "_law_many"] spTake := ok_take FT
  intro n
  induction n with
  | zero =>
    refine F.ok scEven (fun vs H Q E h => ?_) (fun cdv A outer s H vs Q E hr h => ?_)
    · obtain ⟨p, M, L, ms, rfl, _⟩ := h
      rfl
    · obtain ⟨p, M, L, ms, _, _, h1, h2, _⟩ := h
      omega
  | succ n GK =>
    refine F.ok scEven (fun vs H Q E h => ?_) (fun cdv A outer s H vs Q E hr h => ?_)
    · obtain ⟨p, M, L, ms, rfl, _⟩ := h
      rfl
    · obtain ⟨p, M, L, ms, rfl, hp, l1, l2, l3, hM, m1, m2, hms, k⟩ := h
      have hr1 : Room 1 _ := hr.mono (by omega)
      refine ⟨_, pss_cons (ps_if (pt_cmpR op_eq (pv 1) pe_int (nomark _))
          (pss_cons (ps_if (pt_cmpR op_eq (pe_call GT hr1 (by rfl) gT FT.kp bT .nil pass0 (pa_cons (pv 0) (pa_cons pe_int pa_nil))) pe_int (nomark _)) (pss_one (ps_ret (pe_tup (pa_cons pe_str pa_nil)))) pss_nil)
          (pss_one (ps_ret (pe_tup (pa_cons pe_str (pa_cons (pe_ix ix_list (pv 2) (pe_call GT hr1 (by rfl) gT FT.kp bT .nil pass0 (pa_cons (pv 0) (pa_cons (pe_callB call_len_seq (by rfl) mLen PySem.boot_len (pa_cons (pv 2) pa_nil)) pa_nil))) (fun _ _ => rfl)) pa_nil)))))) pss_nil)
        (pss_cons (ps_set (i := 3) scEven.nd rfl (Or.inl rfl) (pe_op op_fdivN (pv 1) pe_int))
        (pss_cons (ps_set (i := 4) scEven.nd rfl (Or.inl rfl) (pe_ix ix_list (pe_lst (pa_cons pe_str (pa_cons pe_str (pa_cons pe_str pa_nil)))) (pe_call GT hr1 (by rfl) gT FT.kp bT .nil pass0 (pa_cons (pv 0) (pa_cons pe_int pa_nil))) (fun _ _ => rfl)))
        (pss_one (ps_ret (pe_tup (pa_cons (pv 4) (pa_cons (pe_call GK hr (by rfl) gF F.kp bF .nil pass0 (pa_cons (pv 0) (pa_cons (pv 3) (pa_cons (pv 2) pa_nil))))
          (pa_cons (pe_call GK hr (by rfl) gF F.kp bF .nil pass0 (pa_cons (pv 0) (pa_cons (pe_op op_sub (pv 1) (pv 3)) (pa_cons (pv 2) pa_nil)))) pa_nil)))))))), ?_⟩
      refine ⟨_, rfl, rfl, _, rfl, ?_⟩
      refine ite2 (fun hc => ?_) (fun hc => ?_)
      · have hL : L = 1 := by
          have z := of_decide_eq_true hc
          injection z with z
          omega
        subst hL
        refine ⟨_, rfl, p, 9, rfl, hp, by decide, by decide, fun r H1 r0 r1 hp1 e1 => ?_⟩
        refine ⟨rfl, _, rfl, ?_⟩
        refine ite2 (fun _ => ?_) (fun _ => ?_)
        · refine ⟨by show 1 ≤ sizeLine; decide, fun t ht => ?_⟩
          exact k (.ref t) (.t1 (.s "one")) _ ⟨t, _, rfl, upd_same, rfl, so_one⟩ (by show 1 + 1 ≤ 2 * 1; omega) trivial (hp1.same (same_new ht)) ((kept_take e1).trans (kept_same (same_new ht)))
        · have k1 := kept_take e1
          have hM1 := k1 _ _ (pool_marks hp hM) hM
          refine ⟨_, rfl, _, rfl, _, rfl, M, _, rfl, .inl (SqL.of hM1), p, _, rfl, hp1, by rw [List.length_map]; omega, by rw [List.length_map]; omega, fun q H2 q0 q1 hp2 e2 => ?_⟩
          have hM2 := kept_take e2 _ _ (pool_marks hp1 hM1) hM1
          obtain ⟨u, hu, hm⟩ := at_any (xs := ms.map V.str) q0 q1
          obtain ⟨mk, hmk, rfl⟩ := List.mem_map.mp hm
          refine ⟨M, _, _, _, rfl, rfl, SqL.of hM2, hu, by show 2 ≤ sizeLine; decide, fun t ht => ?_⟩
          exact k (.ref t) (.t2 (.s "mark") (.atom (.str mk))) _ ⟨t, _, _, rfl, upd_same, ⟨rfl, so_mark⟩, rfl, rfl, fun z e => by injection e with e; exact e ▸ hms mk hmk⟩ (by show 1 + 1 ≤ 2 * 1; omega) trivial (hp2.same (same_new ht)) ((k1.trans (kept_take e2)).trans (kept_same (same_new ht)))
      · have hL : 2 ≤ L := by
          rcases Nat.lt_or_ge L 2 with z | z
          · exact absurd (decide_eq_true (by rw [show L = 1 by omega]; rfl)) hc
          · exact z
        have eh : (L : Int).fdiv 2 = ((L / 2 : Nat) : Int) := by
          rw [Int.fdiv_eq_ediv_of_nonneg _ (by decide)]
          omega
        have hh1 : 1 ≤ L / 2 := by omega
        have hh2 : L / 2 < L := by omega
        generalize L / 2 = rn at *
        refine ⟨_, rfl, _, _, rfl, rfl, ⟨by decide, by decide⟩, ?_⟩
        show gName 3 (V.int ((L : Int).fdiv 2)) _ _ _
        rw [eh]
        refine ⟨by show 3 ≤ sizeLine; decide, fun l hl => ?_⟩
        have nl := hp.ne hl
        refine ⟨_, rfl, p, 3, rfl, hp.upd hl, by decide, by decide, fun q H2 q0 q1 hp2 e2 => ?_⟩
        have k2 : Kept p H H2 := (kept_same (same_new hl)).trans (kept_take e2)
        obtain ⟨u, hu, hm⟩ := at_any (xs := [V.str "to", V.str "to", V.str "both"]) q0 q1
        obtain ⟨b, rfl⟩ : ∃ b, u = V.str (word b) := by
          simp only [List.mem_cons, List.not_mem_nil, or_false] at hm
          rcases hm with rfl | rfl | rfl
          · exact ⟨true, rfl⟩
          · exact ⟨true, rfl⟩
          · exact ⟨false, rfl⟩
        refine ⟨l, _, _, _, rfl, rfl, SqL.of ((e2 l nl).trans upd_same), hu, ?_⟩
        have hM2 := k2 _ _ (pool_marks hp hM) hM
        refine ⟨_, rfl, _, rfl, _, rfl, _, rfl, p, M, rn, ms, rfl, hp2, by omega, by omega, by omega, hM2, m1, m2, hms, fun v1 kd1 H3 h1 hl1 ho1 hp3 k3 => ?_⟩
        have hM3 := k3 _ _ (pool_marks hp2 hM2) hM2
        have e3 : ((L : Int) - (rn : Int)) = ((L - rn : Nat) : Int) := by omega
        refine ⟨_, rfl, _, rfl, _, rfl, _, _, rfl, rfl, _, rfl, p, M, L - rn, ms, ?_, hp3, by omega, by omega, by omega, hM3, m1, m2, hms, fun v2 kd2 H4 h2 hl2 ho2 hp4 k4 => ?_⟩
        · rw [← e3]
          rfl
        refine ⟨by show 3 ≤ sizeLine; decide, fun t ht => ?_⟩
        have st : Same H4 (upd H4 t (.tup [.str (word b), v1, v2])) := same_new ht
        refine k (.ref t) (.t3 (.s (word b)) kd1 kd2) _ ⟨t, _, v1, v2, rfl, upd_same, ⟨rfl, so_word b⟩, (h1.kept k4 hp3 hp4).same hp4 st, h2.same hp4 st⟩ ?_ ⟨ho1, ho2⟩ (hp4.same st) (((k2.trans k3).trans k4).trans (kept_same st))
        show kd1.sz + kd2.sz + 1 + 1 ≤ 2 * L
        omega
theorem scChain : FnScope ["_law_pool_here", "_law_leaves_here", "_law_far", "_law_marks", "_law_found", "_law_k", "_law_one", "_law_word"] ["_law_pool_here", "_law_leaves_here", "_law_far", "_law_marks"] (defScope sChain) := ⟨rfl, rfl, rfl, by decide +kernel, rfl, by decide +kernel, by decide +kernel⟩
end
def spChain : Sp := fun vs H Q _ => ∃ (p M : Addr) (L F : Nat) (ms : List Str), vs = [.ref p, .int (L : Int), .int (F : Int), .ref M] ∧ PoolAt H p ∧ F + 1 ≤ L ∧ L ≤ 26 ∧ H M = some (.lst (ms.map V.str)) ∧ 1 ≤ ms.length ∧ ms.length ≤ 1000 ∧
  (∀ m ∈ ms, m.length ≤ 1000 ∧ SOk m) ∧ ∀ (v : V) (t : Th) (H' : Hp), ThAt H' t v → t.sz + 1 ≤ 2 * L → Kl t → PoolAt H' p → Kept p H H' → Q v H'
section
variable {P : Program} {w : World} {K : PySem.W.Frag} {mg : Str → Option Value} {base : Heap}
theorem ok_chain {f fE fT : Addr} {fd fdE fdT : FuncData} (F : Fun K "_law_chain" "_law_chain" sChain f fd) (FE : Fun K "_law_even" "_law_even" sEven fE fdE) (bE : Binds K fdE ["_law_pool_here", "_law_leaves_here", "_law_marks"] []) (gE : mg "_law_even" = some (.ref fE))
    (FT : Fun K "_law_take" "_law_take" sTake fT fdT) (bT : Binds K fdT ["_law_pool_here", "_law_many"] []) (gT : mg "_law_take" = some (.ref fT)) (mLen : mg "len" = none) (mRange : mg "range" = none) :
    FnOk P w K mg base CX0 29 f fd ["_law_pool_here", "_law_leaves_here", "_law_far", "_law_marks"] spChain := by
  have GT : FnOk P w K mg base CX0 1 fT fdT ["_law_pool_here", "_law_many"] spTake := ok_take FT
  have GE : FnOk P w K mg base CX0 28 fE fdE ["_law_pool_here", "_law_leaves_here", "_law_marks"] (spEven 26) := ok_even FE bE gE FT bT gT mLen 26
  refine F.ok scChain (fun vs H Q E h => ?_) (fun cdv A outer s H vs Q E hr h => ?_)
  · obtain ⟨p, M, L, F, ms, rfl, _⟩ := h
    rfl
  · obtain ⟨p, M, L, F, ms, rfl, hp, hF, hL, hM, m1, m2, hms, k⟩ := h
    have hr1 : Room 1 _ := hr.mono (by omega)
    refine ⟨_, pss_cons (ps_set (i := 4) scChain.nd rfl (Or.inl rfl) (pe_call GE hr (by rfl) gE FE.kp bE .nil pass0 (pa_cons (pv 0) (pa_cons (pe_op op_sub (pv 1) (pv 2)) (pa_cons (pv 3) pa_nil)))))
      (pss_cons (ps_for PassesOwn.never rfl (pi_range1 (by rfl) mRange (pa_cons (pv 2) pa_nil)) (pg_name (i := 5) scChain.nd rfl (Or.inl rfl))
        (pss_cons (ps_set (i := 6) scChain.nd rfl (Or.inl rfl) (pe_call GE hr (by rfl) gE FE.kp bE .nil pass0 (pa_cons (pv 0) (pa_cons pe_int (pa_cons (pv 3) pa_nil)))))
        (pss_cons (ps_set (i := 7) scChain.nd rfl (Or.inl rfl) (pe_ix ix_list (pe_lst (pa_cons pe_str (pa_cons pe_str pa_nil))) (pe_call GT hr1 (by rfl) gT FT.kp bT .nil pass0 (pa_cons (pv 0) (pa_cons pe_int pa_nil))) (fun _ _ => rfl)))
        (pss_one (ps_set (i := 4) scChain.nd rfl (Or.inl rfl) (pe_ix ix_list (pe_lst (pa_cons (pe_tup (pa_cons (pv 7) (pa_cons (pv 6) (pa_cons (pv 4) pa_nil)))) (pa_cons (pe_tup (pa_cons (pv 7) (pa_cons (pv 4) (pa_cons (pv 6) pa_nil)))) pa_nil))) (pe_call GT hr1 (by rfl) gT FT.kp bT .nil pass0 (pa_cons (pv 0) (pa_cons pe_int pa_nil))) (fun _ _ => rfl)))))))
      (pss_one (ps_ret (pv 4)))), ?_⟩
    have e0 : ((L : Int) - (F : Int)) = ((L - F : Nat) : Int) := by omega
    refine ⟨_, rfl, _, rfl, _, rfl, _, _, rfl, rfl, _, rfl, p, M, L - F, ms, ?_, hp, by omega, by omega, by omega, hM, m1, m2, hms, fun v0 t0 H0 h0 z0 kl0 hp0 k0 => ?_⟩
    · rw [← e0]
      rfl
    refine ⟨_, rfl, (F : Int), rfl, by omega, by omega, for_range (lo := 0) (n := (F : Int).toNat) (fun i σ H2 => ∃ (v : V) (t : Th) (i5 i6 i7 : Option V), σ = [some (.ref p), some (.int (L : Int)), some (.int (F : Int)), some (.ref M), some v, i5, i6, i7] ∧ ThAt H2 t v ∧ t.sz + 1 ≤ 2 * (L - F) + 2 * i ∧ Kl t ∧ PoolAt H2 p ∧ Kept p H H2)
      ⟨v0, t0, none, none, none, rfl, h0, by omega, kl0, hp0, k0⟩ ?_ ?_⟩
    · rintro i σ H2 hi ⟨v, t, i5, i6, i7, rfl, hv, hz, hk, hp2, k2⟩
      have hM2 := k2 _ _ (pool_marks hp hM) hM
      refine ⟨_, rfl, _, rfl, p, M, 1, ms, rfl, hp2, by omega, by omega, by omega, hM2, m1, m2, hms, fun v1 t1 H3 h1 z1 kl1 hp3 k3 => ?_⟩
      have hv3 := hv.kept k3 hp2 hp3
      refine ⟨by show 2 ≤ sizeLine; decide, fun l hl => ?_⟩
      have nl := hp3.ne hl
      refine ⟨_, rfl, p, 2, rfl, hp3.upd hl, by decide, by decide, fun q H4 q0 q1 hp4 e4 => ?_⟩
      have s3 := same_new (o := .lst [V.str "to", V.str "both"]) hl
      have k34 : Kept p H3 H4 := (kept_same s3).trans (kept_take e4)
      obtain ⟨u, hu, hm⟩ := at_any (xs := [V.str "to", V.str "both"]) q0 q1
      obtain ⟨b, rfl⟩ : ∃ b, u = V.str (word b) := by
        simp only [List.mem_cons, List.not_mem_nil, or_false] at hm
        rcases hm with rfl | rfl
        · exact ⟨true, rfl⟩
        · exact ⟨false, rfl⟩
      refine ⟨l, _, _, _, rfl, rfl, SqL.of ((e4 l nl).trans upd_same), hu, ?_⟩
      have hv4 := hv3.kept k34 hp3 hp4
      have h14 := h1.kept k34 hp3 hp4
      refine ⟨_, rfl, _, rfl, _, rfl, by show 3 ≤ sizeLine; decide, fun ta hta => ?_⟩
      have s5 := same_new (o := .tup [.str (word b), v1, v]) hta
      have f5 : (upd H4 ta (.tup [.str (word b), v1, v])) ta = some (.tup [.str (word b), v1, v]) := upd_same
      have hp5 := hp4.same s5
      generalize upd H4 ta (.tup [.str (word b), v1, v]) = H5 at *
      refine ⟨_, rfl, _, rfl, _, rfl, by show 3 ≤ sizeLine; decide, fun tb htb => ?_⟩
      have s6 := same_new (o := .tup [.str (word b), v, v1]) htb
      have f6 : (upd H5 tb (.tup [.str (word b), v, v1])) tb = some (.tup [.str (word b), v, v1]) := upd_same
      have hp6 := hp5.same s6
      generalize upd H5 tb (.tup [.str (word b), v, v1]) = H6 at *
      refine ⟨by show 2 ≤ sizeLine; decide, fun l2 hl2 => ?_⟩
      have n2 := hp6.ne hl2
      have s7 := same_new (o := .lst [.ref ta, .ref tb]) hl2
      refine ⟨_, rfl, p, 2, rfl, hp6.upd hl2, by decide, by decide, fun r H8 r0 r1 hp8 e8 => ?_⟩
      have s46 := Same.trans s5 s6
      have k68 : Kept p H6 H8 := (kept_same s7).trans (kept_take e8)
      have k48 : Kept p H4 H8 := (kept_same s46).trans k68
      have hv8 := hv4.kept k48 hp4 hp8
      have h18 := h14.kept k48 hp4 hp8
      obtain ⟨u2, hu2, hm2⟩ := at_any (xs := [V.ref ta, V.ref tb]) r0 r1
      refine ⟨l2, _, _, u2, rfl, rfl, SqL.of ((e8 l2 n2).trans upd_same), hu2, ?_⟩
      have kk : Kept p H H8 := (k2.trans k3).trans (k34.trans k48)
      simp only [List.mem_cons, List.not_mem_nil, or_false] at hm2
      rcases hm2 with rfl | rfl
      · refine ⟨.ref ta, .t3 (.s (word b)) t1 t, _, _, _, rfl, ⟨ta, _, _, _, rfl, tup_kept k68 hp6 (s6 _ _ f5), ⟨rfl, so_word b⟩, h18, hv8⟩, ?_, ⟨kl1, hk⟩, hp8, kk⟩
        show t1.sz + t.sz + 1 + 1 ≤ _
        omega
      · refine ⟨.ref tb, .t3 (.s (word b)) t t1, _, _, _, rfl, ⟨tb, _, _, _, rfl, tup_kept k68 hp6 f6, ⟨rfl, so_word b⟩, hv8, h18⟩, ?_, ⟨hk, kl1⟩, hp8, kk⟩
        show t.sz + t1.sz + 1 + 1 ≤ _
        omega
    · rintro σ H2 ⟨v, t, i5, i6, i7, rfl, hv, hz, hk, hp2, k2⟩
      exact ⟨_, rfl, k v t H2 hv (by omega) hk hp2 k2⟩
end
abbrev sOdd : Stmt := top 16
def ThS (H : Hp) (xs : List V) : Prop := ∀ v ∈ xs, ∃ t, ThAt H t v ∧ t.sz ≤ 3
theorem ths_same {H H' : Hp} {p : Addr} {xs : List V} (hp : PoolAt H p) (s : Same H H') (h : ThS H xs) : ThS H' xs := fun v hv => by
  obtain ⟨t, a, b⟩ := h v hv
  exact ⟨t, a.same hp s, b⟩
theorem ThS.app {H : Hp} {xs ys : List V} (h : ThS H xs) (g : ThS H ys) : ThS H (xs ++ ys) := fun v hv => (List.mem_append.mp hv).elim (h v) (g v)
def spOdd : Sp := fun vs H Q _ => ∃ (p M : Addr) (ms : List Str), vs = [.ref p, .ref M] ∧ PoolAt H p ∧ H M = some (.lst (ms.map V.str)) ∧ 1 ≤ ms.length ∧ (∀ m ∈ ms, m.length ≤ 1000 ∧ SOk m) ∧
  ∀ (v : V) (t : Th) (H' : Hp), ThAt H' t v → t.sz ≤ 3 → PoolAt H' p → Kept p H H' → Q v H'
section
variable {P : Program} {w : World} {K : PySem.W.Frag} {mg : Str → Option Value} {base : Heap}
theorem scOdd : FnScope ["_law_pool_here", "_law_marks", "_law_mark", "_law_some"] ["_law_pool_here", "_law_marks"] (defScope sOdd) := ⟨rfl, rfl, rfl, by decide +kernel, rfl, by decide +kernel, by decide +kernel⟩
theorem ok_odd {f fT : Addr} {fd fdT : FuncData} (F : Fun K "_law_odd" "_law_odd" sOdd f fd)
    (FT : Fun K "_law_take" "_law_take" sTake fT fdT) (bT : Binds K fdT ["_law_pool_here", "_law_many"] []) (gT : mg "_law_take" = some (.ref fT)) (mLen : mg "len" = none) :
    FnOk P w K mg base CX0 2 f fd ["_law_pool_here", "_law_marks"] spOdd := by
  have GT : FnOk P w K mg base CX0 1 fT fdT ["_law_pool_here", "_law_many"] spTake := ok_take FT
  refine F.ok scOdd (fun vs H Q E h => ?_) (fun cdv A outer s H vs Q E hr h => ?_)
  · obtain ⟨p, M, ms, rfl, _⟩ := h
    rfl
  · obtain ⟨p, M, ms, rfl, hp, hM, m1, hms, k⟩ := h
    refine ⟨_, pss_cons (ps_set (i := 2) scOdd.nd rfl (Or.inl rfl) (pe_tup (pa_cons pe_str (pa_cons (pe_ix ix_list (pv 1) pe_int (fun _ _ => rfl)) pa_nil))))
      (pss_cons (ps_set (i := 3) scOdd.nd rfl (Or.inl rfl) (pe_lst (pa_cons pe_non (pa_cons pe_int (pa_cons pe_str (pa_cons pe_bl (pa_cons (pe_tup pa_nil) (pa_cons (pe_tup (pa_cons pe_str pa_nil)) (pa_cons (pe_tup (pa_cons pe_str (pa_cons pe_str pa_nil))) (pa_cons (pe_tup (pa_cons pe_str (pa_cons pe_str pa_nil))) (pa_cons (pe_tup (pa_cons pe_str (pa_cons pe_int pa_nil))) (pa_cons (pe_tup (pa_cons pe_str (pa_cons pe_str pa_nil))) pa_nil))))))))))))
      (pss_cons (ps_set (i := 3) scOdd.nd rfl (Or.inl rfl) (pe_op op_cat (pv 3) (pe_lst (pa_cons (pe_tup (pa_cons pe_str (pa_cons pe_str pa_nil))) (pa_cons (pe_tup (pa_cons pe_str (pa_cons (pv 2) pa_nil))) (pa_cons (pe_tup (pa_cons pe_str (pa_cons (pv 2) (pa_cons (pv 2) (pa_cons (pv 2) pa_nil))))) (pa_cons (pe_tup (pa_cons pe_str (pa_cons (pv 2) (pa_cons (pv 2) pa_nil)))) pa_nil)))))))
      (pss_cons (ps_set (i := 3) scOdd.nd rfl (Or.inl rfl) (pe_op op_cat (pv 3) (pe_lst (pa_cons (pe_lst (pa_cons pe_str (pa_cons pe_str pa_nil))) (pa_cons (pe_tup (pa_cons (pv 2) pa_nil)) (pa_cons (pe_tup (pa_cons pe_str pa_nil)) pa_nil))))))
      (pss_cons (ps_set (i := 3) scOdd.nd rfl (Or.inl rfl) (pe_op op_cat (pv 3) (pe_lst (pa_cons (pe_tup (pa_cons pe_str (pa_cons (pe_tup (pa_cons pe_str (pa_cons pe_str pa_nil))) pa_nil))) (pa_cons (pe_tup (pa_cons pe_str (pa_cons (pv 2) (pa_cons (pv 2) pa_nil)))) (pa_cons (pe_tup (pa_cons pe_str (pa_cons pe_str (pa_cons pe_str pa_nil)))) (pa_cons (pv 2) (pa_cons (pe_tup (pa_cons pe_str pa_nil)) (pa_cons (pe_tup (pa_cons pe_str (pa_cons (pv 2) (pa_cons (pv 2) pa_nil)))) pa_nil)))))))))
      (pss_cons (ps_set (i := 3) scOdd.nd rfl (Or.inl rfl) (pe_op op_cat (pv 3) (pe_lst (pa_cons (pe_lst (pa_cons (pe_tup (pa_cons pe_str pa_nil)) pa_nil)) (pa_cons (pe_lst (pa_cons pe_str (pa_cons (pv 2) (pa_cons (pv 2) pa_nil)))) (pa_cons (pe_tup (pa_cons (pe_lst (pa_cons pe_str pa_nil)) (pa_cons (pv 2) (pa_cons (pv 2) pa_nil)))) (pa_cons (pe_tup (pa_cons pe_non (pa_cons (pv 2) (pa_cons (pv 2) pa_nil)))) (pa_cons pe_dnewK pa_nil))))))))
      (pss_one (ps_ret (pe_ix ix_list (pv 3) (pe_call GT hr (by rfl) gT FT.kp bT .nil pass0 (pa_cons (pv 0) (pa_cons (pe_callB call_len_seq (by rfl) mLen PySem.boot_len (pa_cons (pv 3) pa_nil)) pa_nil))) (fun _ _ => rfl))))))))), ?_⟩
    obtain ⟨m0, mem0, hm0⟩ : ∃ m0, (ms.map V.str)[0]? = some (V.str m0) ∧ (m0.length ≤ 1000 ∧ SOk m0) := by
      cases ms with
      | nil => simp at m1
      | cons a r => exact ⟨a, rfl, hms a List.mem_cons_self⟩
    refine ⟨_, rfl, M, _, _, _, rfl, rfl, SqL.of hM, atI_nat (j := 0) mem0, by show 2 ≤ sizeLine; decide, fun am ham => ?_⟩
    have s0 := same_new (o := .tup [.str "mark", .str m0]) ham
    have fm : (upd H am (.tup [.str "mark", .str m0])) am = some (.tup [.str "mark", .str m0]) := upd_same
    have hp0 := hp.same s0
    have k0 := kept_same (p := p) s0
    generalize upd H am (.tup [.str "mark", .str m0]) = J0 at *
    refine ⟨(by show 0 ≤ sizeLine; decide), fun b1 hb1 => ?_⟩
    have sb1 := same_new (o := .tup []) hb1
    have fb1 : (upd J0 b1 (.tup [])) b1 = some (.tup []) := upd_same
    have hp1 := hp0.same sb1
    have k1 := k0.trans (kept_same (p := p) sb1)
    generalize upd J0 b1 (.tup []) = J1 at *
    have fm := sb1 _ _ fm
    refine ⟨(by show 1 ≤ sizeLine; decide), fun b2 hb2 => ?_⟩
    have sb2 := same_new (o := .tup [V.str "mark"]) hb2
    have fb2 : (upd J1 b2 (.tup [V.str "mark"])) b2 = some (.tup [V.str "mark"]) := upd_same
    have hp2 := hp1.same sb2
    have k2 := k1.trans (kept_same (p := p) sb2)
    generalize upd J1 b2 (.tup [V.str "mark"]) = J2 at *
    have fm := sb2 _ _ fm
    have fb1 := sb2 _ _ fb1
    refine ⟨(by show 2 ≤ sizeLine; decide), fun b3 hb3 => ?_⟩
    have sb3 := same_new (o := .tup [V.str "mark", V.str "A"]) hb3
    have fb3 : (upd J2 b3 (.tup [V.str "mark", V.str "A"])) b3 = some (.tup [V.str "mark", V.str "A"]) := upd_same
    have hp3 := hp2.same sb3
    have k3 := k2.trans (kept_same (p := p) sb3)
    generalize upd J2 b3 (.tup [V.str "mark", V.str "A"]) = J3 at *
    have fm := sb3 _ _ fm
    have fb1 := sb3 _ _ fb1
    have fb2 := sb3 _ _ fb2
    refine ⟨(by show 2 ≤ sizeLine; decide), fun b4 hb4 => ?_⟩
    have sb4 := same_new (o := .tup [V.str "mark", V.str ""]) hb4
    have fb4 : (upd J3 b4 (.tup [V.str "mark", V.str ""])) b4 = some (.tup [V.str "mark", V.str ""]) := upd_same
    have hp4 := hp3.same sb4
    have k4 := k3.trans (kept_same (p := p) sb4)
    generalize upd J3 b4 (.tup [V.str "mark", V.str ""]) = J4 at *
    have fm := sb4 _ _ fm
    have fb1 := sb4 _ _ fb1
    have fb2 := sb4 _ _ fb2
    have fb3 := sb4 _ _ fb3
    refine ⟨(by show 2 ≤ sizeLine; decide), fun b5 hb5 => ?_⟩
    have sb5 := same_new (o := .tup [V.str "mark", V.int 3]) hb5
    have fb5 : (upd J4 b5 (.tup [V.str "mark", V.int 3])) b5 = some (.tup [V.str "mark", V.int 3]) := upd_same
    have hp5 := hp4.same sb5
    have k5 := k4.trans (kept_same (p := p) sb5)
    generalize upd J4 b5 (.tup [V.str "mark", V.int 3]) = J5 at *
    have fm := sb5 _ _ fm
    have fb1 := sb5 _ _ fb1
    have fb2 := sb5 _ _ fb2
    have fb3 := sb5 _ _ fb3
    have fb4 := sb5 _ _ fb4
    refine ⟨(by show 2 ≤ sizeLine; decide), fun b6 hb6 => ?_⟩
    have sb6 := same_new (o := .tup [V.str "mark", V.str "abcdefg"]) hb6
    have fb6 : (upd J5 b6 (.tup [V.str "mark", V.str "abcdefg"])) b6 = some (.tup [V.str "mark", V.str "abcdefg"]) := upd_same
    have hp6 := hp5.same sb6
    have k6 := k5.trans (kept_same (p := p) sb6)
    generalize upd J5 b6 (.tup [V.str "mark", V.str "abcdefg"]) = J6 at *
    have fm := sb6 _ _ fm
    have fb1 := sb6 _ _ fb1
    have fb2 := sb6 _ _ fb2
    have fb3 := sb6 _ _ fb3
    have fb4 := sb6 _ _ fb4
    have fb5 := sb6 _ _ fb5
    refine ⟨(by show 10 ≤ sizeLine; decide), fun b7 hb7 => ?_⟩
    have q1 : ThS J6 [V.non, V.int 7, V.str "a", V.bl true, V.ref b1, V.ref b2, V.ref b3, V.ref b4, V.ref b5, V.ref b6] := by
      intro v hv
      simp only [List.mem_cons, List.not_mem_nil, or_false] at hv
      rcases hv with rfl | rfl | rfl | rfl | rfl | rfl | rfl | rfl | rfl | rfl
      · exact ⟨(.atom .non), ⟨rfl, rfl, fun z e => (by first | (injection e with e; subst e; exact ⟨by decide +kernel, by unfold SOk; decide +kernel⟩) | cases e)⟩, by first | exact (show (1 : Nat) ≤ 3 by decide) | exact (show (3 : Nat) ≤ 3 by decide)⟩
      · exact ⟨(.atom (.int 7)), ⟨rfl, rfl, fun z e => (by first | (injection e with e; subst e; exact ⟨by decide +kernel, by unfold SOk; decide +kernel⟩) | cases e)⟩, by first | exact (show (1 : Nat) ≤ 3 by decide) | exact (show (3 : Nat) ≤ 3 by decide)⟩
      · exact ⟨(.atom (.str "a")), ⟨rfl, rfl, fun z e => (by first | (injection e with e; subst e; exact ⟨by decide +kernel, by unfold SOk; decide +kernel⟩) | cases e)⟩, by first | exact (show (1 : Nat) ≤ 3 by decide) | exact (show (3 : Nat) ≤ 3 by decide)⟩
      · exact ⟨(.atom (.bl true)), ⟨rfl, rfl, fun z e => (by first | (injection e with e; subst e; exact ⟨by decide +kernel, by unfold SOk; decide +kernel⟩) | cases e)⟩, by first | exact (show (1 : Nat) ≤ 3 by decide) | exact (show (3 : Nat) ≤ 3 by decide)⟩
      · exact ⟨.t0, ⟨b1, rfl, fb1⟩, by first | exact (show (1 : Nat) ≤ 3 by decide) | exact (show (3 : Nat) ≤ 3 by decide)⟩
      · exact ⟨(.t1 (.s "mark")), ⟨b2, _, rfl, fb2, ⟨rfl, (by unfold HOk SOk; decide +kernel)⟩⟩, by first | exact (show (1 : Nat) ≤ 3 by decide) | exact (show (3 : Nat) ≤ 3 by decide)⟩
      · exact ⟨(.t2 (.s "mark") (.atom (.str "A"))), ⟨b3, _, _, rfl, fb3, ⟨rfl, (by unfold HOk SOk; decide +kernel)⟩, ⟨rfl, rfl, fun z e => (by first | (injection e with e; subst e; exact ⟨by decide +kernel, by unfold SOk; decide +kernel⟩) | cases e)⟩⟩, by first | exact (show (1 : Nat) ≤ 3 by decide) | exact (show (3 : Nat) ≤ 3 by decide)⟩
      · exact ⟨(.t2 (.s "mark") (.atom (.str ""))), ⟨b4, _, _, rfl, fb4, ⟨rfl, (by unfold HOk SOk; decide +kernel)⟩, ⟨rfl, rfl, fun z e => (by first | (injection e with e; subst e; exact ⟨by decide +kernel, by unfold SOk; decide +kernel⟩) | cases e)⟩⟩, by first | exact (show (1 : Nat) ≤ 3 by decide) | exact (show (3 : Nat) ≤ 3 by decide)⟩
      · exact ⟨(.t2 (.s "mark") (.atom (.int 3))), ⟨b5, _, _, rfl, fb5, ⟨rfl, (by unfold HOk SOk; decide +kernel)⟩, ⟨rfl, rfl, fun z e => (by first | (injection e with e; subst e; exact ⟨by decide +kernel, by unfold SOk; decide +kernel⟩) | cases e)⟩⟩, by first | exact (show (1 : Nat) ≤ 3 by decide) | exact (show (3 : Nat) ≤ 3 by decide)⟩
      · exact ⟨(.t2 (.s "mark") (.atom (.str "abcdefg"))), ⟨b6, _, _, rfl, fb6, ⟨rfl, (by unfold HOk SOk; decide +kernel)⟩, ⟨rfl, rfl, fun z e => (by first | (injection e with e; subst e; exact ⟨by decide +kernel, by unfold SOk; decide +kernel⟩) | cases e)⟩⟩, by first | exact (show (1 : Nat) ≤ 3 by decide) | exact (show (3 : Nat) ≤ 3 by decide)⟩
    have sb7 := same_new (o := .lst [V.non, V.int 7, V.str "a", V.bl true, V.ref b1, V.ref b2, V.ref b3, V.ref b4, V.ref b5, V.ref b6]) hb7
    have fb7 : (upd J6 b7 (.lst [V.non, V.int 7, V.str "a", V.bl true, V.ref b1, V.ref b2, V.ref b3, V.ref b4, V.ref b5, V.ref b6])) b7 = some (.lst [V.non, V.int 7, V.str "a", V.bl true, V.ref b1, V.ref b2, V.ref b3, V.ref b4, V.ref b5, V.ref b6]) := upd_same
    have hp7 := hp6.same sb7
    have k7 := k6.trans (kept_same (p := p) sb7)
    generalize upd J6 b7 (.lst [V.non, V.int 7, V.str "a", V.bl true, V.ref b1, V.ref b2, V.ref b3, V.ref b4, V.ref b5, V.ref b6]) = J7 at *
    have fm := sb7 _ _ fm
    have q1 := ths_same hp6 sb7 q1
    have e1 := fb7
    have eL := e1
    have qL := q1
    refine ⟨_, rfl, (by show 2 ≤ sizeLine; decide), fun b8 hb8 => ?_⟩
    have sb8 := same_new (o := .tup [V.str "one", V.str "one"]) hb8
    have fb8 : (upd J7 b8 (.tup [V.str "one", V.str "one"])) b8 = some (.tup [V.str "one", V.str "one"]) := upd_same
    have hp8 := hp7.same sb8
    have k8 := k7.trans (kept_same (p := p) sb8)
    generalize upd J7 b8 (.tup [V.str "one", V.str "one"]) = J8 at *
    have fm := sb8 _ _ fm
    have qL := ths_same hp7 sb8 qL
    have eL := sb8 _ _ eL
    refine ⟨_, rfl, (by show 2 ≤ sizeLine; decide), fun b9 hb9 => ?_⟩
    have sb9 := same_new (o := .tup [V.str "to", V.ref am]) hb9
    have fb9 : (upd J8 b9 (.tup [V.str "to", V.ref am])) b9 = some (.tup [V.str "to", V.ref am]) := upd_same
    have hp9 := hp8.same sb9
    have k9 := k8.trans (kept_same (p := p) sb9)
    generalize upd J8 b9 (.tup [V.str "to", V.ref am]) = J9 at *
    have fm := sb9 _ _ fm
    have fb8 := sb9 _ _ fb8
    have qL := ths_same hp8 sb9 qL
    have eL := sb9 _ _ eL
    refine ⟨_, rfl, _, rfl, _, rfl, (by show 4 ≤ sizeLine; decide), fun b10 hb10 => ?_⟩
    have sb10 := same_new (o := .tup [V.str "both", V.ref am, V.ref am, V.ref am]) hb10
    have fb10 : (upd J9 b10 (.tup [V.str "both", V.ref am, V.ref am, V.ref am])) b10 = some (.tup [V.str "both", V.ref am, V.ref am, V.ref am]) := upd_same
    have hp10 := hp9.same sb10
    have k10 := k9.trans (kept_same (p := p) sb10)
    generalize upd J9 b10 (.tup [V.str "both", V.ref am, V.ref am, V.ref am]) = J10 at *
    have fm := sb10 _ _ fm
    have fb8 := sb10 _ _ fb8
    have fb9 := sb10 _ _ fb9
    have qL := ths_same hp9 sb10 qL
    have eL := sb10 _ _ eL
    refine ⟨_, rfl, _, rfl, (by show 3 ≤ sizeLine; decide), fun b11 hb11 => ?_⟩
    have sb11 := same_new (o := .tup [V.str "To", V.ref am, V.ref am]) hb11
    have fb11 : (upd J10 b11 (.tup [V.str "To", V.ref am, V.ref am])) b11 = some (.tup [V.str "To", V.ref am, V.ref am]) := upd_same
    have hp11 := hp10.same sb11
    have k11 := k10.trans (kept_same (p := p) sb11)
    generalize upd J10 b11 (.tup [V.str "To", V.ref am, V.ref am]) = J11 at *
    have fm := sb11 _ _ fm
    have fb8 := sb11 _ _ fb8
    have fb9 := sb11 _ _ fb9
    have fb10 := sb11 _ _ fb10
    have qL := ths_same hp10 sb11 qL
    have eL := sb11 _ _ eL
    refine ⟨(by show 4 ≤ sizeLine; decide), fun b12 hb12 => ?_⟩
    have q2 : ThS J11 [V.ref b8, V.ref b9, V.ref b10, V.ref b11] := by
      intro v hv
      simp only [List.mem_cons, List.not_mem_nil, or_false] at hv
      rcases hv with rfl | rfl | rfl | rfl
      · exact ⟨(.t2 (.s "one") (.atom (.str "one"))), ⟨b8, _, _, rfl, fb8, ⟨rfl, (by unfold HOk SOk; decide +kernel)⟩, ⟨rfl, rfl, fun z e => (by first | (injection e with e; subst e; exact ⟨by decide +kernel, by unfold SOk; decide +kernel⟩) | cases e)⟩⟩, by first | exact (show (1 : Nat) ≤ 3 by decide) | exact (show (3 : Nat) ≤ 3 by decide)⟩
      · exact ⟨(.t2 (.s "to") (.t2 (.s "mark") (.atom (.str m0)))), ⟨b9, _, _, rfl, fb9, ⟨rfl, (by unfold HOk SOk; decide +kernel)⟩, ⟨am, _, _, rfl, fm, ⟨rfl, so_mark⟩, rfl, rfl, fun z e => (by injection e with e; exact e ▸ hm0)⟩⟩, by first | exact (show (1 : Nat) ≤ 3 by decide) | exact (show (3 : Nat) ≤ 3 by decide)⟩
      · exact ⟨(.t4 (.s "both")), ⟨b10, _, _, _, _, rfl, fb10, ⟨rfl, (by unfold HOk SOk; decide +kernel)⟩⟩, by first | exact (show (1 : Nat) ≤ 3 by decide) | exact (show (3 : Nat) ≤ 3 by decide)⟩
      · exact ⟨(.t3 (.s "To") (.t2 (.s "mark") (.atom (.str m0))) (.t2 (.s "mark") (.atom (.str m0)))), ⟨b11, _, _, _, rfl, fb11, ⟨rfl, (by unfold HOk SOk; decide +kernel)⟩, ⟨am, _, _, rfl, fm, ⟨rfl, so_mark⟩, rfl, rfl, fun z e => (by injection e with e; exact e ▸ hm0)⟩, ⟨am, _, _, rfl, fm, ⟨rfl, so_mark⟩, rfl, rfl, fun z e => (by injection e with e; exact e ▸ hm0)⟩⟩, by first | exact (show (1 : Nat) ≤ 3 by decide) | exact (show (3 : Nat) ≤ 3 by decide)⟩
    have sb12 := same_new (o := .lst [V.ref b8, V.ref b9, V.ref b10, V.ref b11]) hb12
    have fb12 : (upd J11 b12 (.lst [V.ref b8, V.ref b9, V.ref b10, V.ref b11])) b12 = some (.lst [V.ref b8, V.ref b9, V.ref b10, V.ref b11]) := upd_same
    have hp12 := hp11.same sb12
    have k12 := k11.trans (kept_same (p := p) sb12)
    generalize upd J11 b12 (.lst [V.ref b8, V.ref b9, V.ref b10, V.ref b11]) = J12 at *
    have fm := sb12 _ _ fm
    have qL := ths_same hp11 sb12 qL
    have q2 := ths_same hp11 sb12 q2
    have eL := sb12 _ _ eL
    have e2 := fb12
    refine ⟨b7, b12, _, _, rfl, rfl, eL, e2, (by first | decide | (simp; decide)), fun b13 hb13 => ?_⟩
    have qL := qL.app q2
    have sb13 := same_new (o := .lst ([V.non, V.int 7, V.str "a", V.bl true, V.ref b1, V.ref b2, V.ref b3, V.ref b4, V.ref b5, V.ref b6] ++ [V.ref b8, V.ref b9, V.ref b10, V.ref b11])) hb13
    have fb13 : (upd J12 b13 (.lst ([V.non, V.int 7, V.str "a", V.bl true, V.ref b1, V.ref b2, V.ref b3, V.ref b4, V.ref b5, V.ref b6] ++ [V.ref b8, V.ref b9, V.ref b10, V.ref b11]))) b13 = some (.lst ([V.non, V.int 7, V.str "a", V.bl true, V.ref b1, V.ref b2, V.ref b3, V.ref b4, V.ref b5, V.ref b6] ++ [V.ref b8, V.ref b9, V.ref b10, V.ref b11])) := upd_same
    have hp13 := hp12.same sb13
    have k13 := k12.trans (kept_same (p := p) sb13)
    generalize upd J12 b13 (.lst ([V.non, V.int 7, V.str "a", V.bl true, V.ref b1, V.ref b2, V.ref b3, V.ref b4, V.ref b5, V.ref b6] ++ [V.ref b8, V.ref b9, V.ref b10, V.ref b11])) = J13 at *
    have fm := sb13 _ _ fm
    have qL := ths_same hp12 sb13 qL
    have eL := fb13
    refine ⟨_, rfl, (by show 2 ≤ sizeLine; decide), fun b14 hb14 => ?_⟩
    have sb14 := same_new (o := .lst [V.str "mark", V.str "a"]) hb14
    have fb14 : (upd J13 b14 (.lst [V.str "mark", V.str "a"])) b14 = some (.lst [V.str "mark", V.str "a"]) := upd_same
    have hp14 := hp13.same sb14
    have k14 := k13.trans (kept_same (p := p) sb14)
    generalize upd J13 b14 (.lst [V.str "mark", V.str "a"]) = J14 at *
    have fm := sb14 _ _ fm
    have qL := ths_same hp13 sb14 qL
    have eL := sb14 _ _ eL
    refine ⟨_, rfl, (by show 1 ≤ sizeLine; decide), fun b15 hb15 => ?_⟩
    have sb15 := same_new (o := .tup [V.ref am]) hb15
    have fb15 : (upd J14 b15 (.tup [V.ref am])) b15 = some (.tup [V.ref am]) := upd_same
    have hp15 := hp14.same sb15
    have k15 := k14.trans (kept_same (p := p) sb15)
    generalize upd J14 b15 (.tup [V.ref am]) = J15 at *
    have fm := sb15 _ _ fm
    have fb14 := sb15 _ _ fb14
    have qL := ths_same hp14 sb15 qL
    have eL := sb15 _ _ eL
    refine ⟨(by show 1 ≤ sizeLine; decide), fun b16 hb16 => ?_⟩
    have sb16 := same_new (o := .tup [V.str "ones"]) hb16
    have fb16 : (upd J15 b16 (.tup [V.str "ones"])) b16 = some (.tup [V.str "ones"]) := upd_same
    have hp16 := hp15.same sb16
    have k16 := k15.trans (kept_same (p := p) sb16)
    generalize upd J15 b16 (.tup [V.str "ones"]) = J16 at *
    have fm := sb16 _ _ fm
    have fb14 := sb16 _ _ fb14
    have fb15 := sb16 _ _ fb15
    have qL := ths_same hp15 sb16 qL
    have eL := sb16 _ _ eL
    refine ⟨(by show 3 ≤ sizeLine; decide), fun b17 hb17 => ?_⟩
    have q3 : ThS J16 [V.ref b14, V.ref b15, V.ref b16] := by
      intro v hv
      simp only [List.mem_cons, List.not_mem_nil, or_false] at hv
      rcases hv with rfl | rfl | rfl
      · exact ⟨.lst, ⟨b14, _, rfl, fb14⟩, by first | exact (show (1 : Nat) ≤ 3 by decide) | exact (show (3 : Nat) ≤ 3 by decide)⟩
      · exact ⟨(.t1 (.m "mark" m0)), ⟨b15, _, rfl, fb15, ⟨⟨am, rfl, fm⟩, so_mark, hm0.2⟩⟩, by first | exact (show (1 : Nat) ≤ 3 by decide) | exact (show (3 : Nat) ≤ 3 by decide)⟩
      · exact ⟨(.t1 (.s "ones")), ⟨b16, _, rfl, fb16, ⟨rfl, (by unfold HOk SOk; decide +kernel)⟩⟩, by first | exact (show (1 : Nat) ≤ 3 by decide) | exact (show (3 : Nat) ≤ 3 by decide)⟩
    have sb17 := same_new (o := .lst [V.ref b14, V.ref b15, V.ref b16]) hb17
    have fb17 : (upd J16 b17 (.lst [V.ref b14, V.ref b15, V.ref b16])) b17 = some (.lst [V.ref b14, V.ref b15, V.ref b16]) := upd_same
    have hp17 := hp16.same sb17
    have k17 := k16.trans (kept_same (p := p) sb17)
    generalize upd J16 b17 (.lst [V.ref b14, V.ref b15, V.ref b16]) = J17 at *
    have fm := sb17 _ _ fm
    have qL := ths_same hp16 sb17 qL
    have q3 := ths_same hp16 sb17 q3
    have eL := sb17 _ _ eL
    have e3 := fb17
    refine ⟨b13, b17, _, _, rfl, rfl, eL, e3, (by first | decide | (simp; decide)), fun b18 hb18 => ?_⟩
    have qL := qL.app q3
    have sb18 := same_new (o := .lst (([V.non, V.int 7, V.str "a", V.bl true, V.ref b1, V.ref b2, V.ref b3, V.ref b4, V.ref b5, V.ref b6] ++ [V.ref b8, V.ref b9, V.ref b10, V.ref b11]) ++ [V.ref b14, V.ref b15, V.ref b16])) hb18
    have fb18 : (upd J17 b18 (.lst (([V.non, V.int 7, V.str "a", V.bl true, V.ref b1, V.ref b2, V.ref b3, V.ref b4, V.ref b5, V.ref b6] ++ [V.ref b8, V.ref b9, V.ref b10, V.ref b11]) ++ [V.ref b14, V.ref b15, V.ref b16]))) b18 = some (.lst (([V.non, V.int 7, V.str "a", V.bl true, V.ref b1, V.ref b2, V.ref b3, V.ref b4, V.ref b5, V.ref b6] ++ [V.ref b8, V.ref b9, V.ref b10, V.ref b11]) ++ [V.ref b14, V.ref b15, V.ref b16])) := upd_same
    have hp18 := hp17.same sb18
    have k18 := k17.trans (kept_same (p := p) sb18)
    generalize upd J17 b18 (.lst (([V.non, V.int 7, V.str "a", V.bl true, V.ref b1, V.ref b2, V.ref b3, V.ref b4, V.ref b5, V.ref b6] ++ [V.ref b8, V.ref b9, V.ref b10, V.ref b11]) ++ [V.ref b14, V.ref b15, V.ref b16])) = J18 at *
    have fm := sb18 _ _ fm
    have qL := ths_same hp17 sb18 qL
    have eL := fb18
    refine ⟨_, rfl, (by show 2 ≤ sizeLine; decide), fun b19 hb19 => ?_⟩
    have sb19 := same_new (o := .tup [V.str "mark", V.str "a"]) hb19
    have fb19 : (upd J18 b19 (.tup [V.str "mark", V.str "a"])) b19 = some (.tup [V.str "mark", V.str "a"]) := upd_same
    have hp19 := hp18.same sb19
    have k19 := k18.trans (kept_same (p := p) sb19)
    generalize upd J18 b19 (.tup [V.str "mark", V.str "a"]) = J19 at *
    have fm := sb19 _ _ fm
    have qL := ths_same hp18 sb19 qL
    have eL := sb19 _ _ eL
    refine ⟨(by show 2 ≤ sizeLine; decide), fun b20 hb20 => ?_⟩
    have sb20 := same_new (o := .tup [V.str "mark", V.ref b19]) hb20
    have fb20 : (upd J19 b20 (.tup [V.str "mark", V.ref b19])) b20 = some (.tup [V.str "mark", V.ref b19]) := upd_same
    have hp20 := hp19.same sb20
    have k20 := k19.trans (kept_same (p := p) sb20)
    generalize upd J19 b20 (.tup [V.str "mark", V.ref b19]) = J20 at *
    have fm := sb20 _ _ fm
    have fb19 := sb20 _ _ fb19
    have qL := ths_same hp19 sb20 qL
    have eL := sb20 _ _ eL
    refine ⟨_, rfl, _, rfl, (by show 3 ≤ sizeLine; decide), fun b21 hb21 => ?_⟩
    have sb21 := same_new (o := .tup [V.str "one", V.ref am, V.ref am]) hb21
    have fb21 : (upd J20 b21 (.tup [V.str "one", V.ref am, V.ref am])) b21 = some (.tup [V.str "one", V.ref am, V.ref am]) := upd_same
    have hp21 := hp20.same sb21
    have k21 := k20.trans (kept_same (p := p) sb21)
    generalize upd J20 b21 (.tup [V.str "one", V.ref am, V.ref am]) = J21 at *
    have fm := sb21 _ _ fm
    have fb19 := sb21 _ _ fb19
    have fb20 := sb21 _ _ fb20
    have qL := ths_same hp20 sb21 qL
    have eL := sb21 _ _ eL
    refine ⟨(by show 3 ≤ sizeLine; decide), fun b22 hb22 => ?_⟩
    have sb22 := same_new (o := .tup [V.str "mark", V.str "a", V.str "b"]) hb22
    have fb22 : (upd J21 b22 (.tup [V.str "mark", V.str "a", V.str "b"])) b22 = some (.tup [V.str "mark", V.str "a", V.str "b"]) := upd_same
    have hp22 := hp21.same sb22
    have k22 := k21.trans (kept_same (p := p) sb22)
    generalize upd J21 b22 (.tup [V.str "mark", V.str "a", V.str "b"]) = J22 at *
    have fm := sb22 _ _ fm
    have fb19 := sb22 _ _ fb19
    have fb20 := sb22 _ _ fb20
    have fb21 := sb22 _ _ fb21
    have qL := ths_same hp21 sb22 qL
    have eL := sb22 _ _ eL
    refine ⟨_, rfl, (by show 1 ≤ sizeLine; decide), fun b23 hb23 => ?_⟩
    have sb23 := same_new (o := .tup [V.str "one"]) hb23
    have fb23 : (upd J22 b23 (.tup [V.str "one"])) b23 = some (.tup [V.str "one"]) := upd_same
    have hp23 := hp22.same sb23
    have k23 := k22.trans (kept_same (p := p) sb23)
    generalize upd J22 b23 (.tup [V.str "one"]) = J23 at *
    have fm := sb23 _ _ fm
    have fb19 := sb23 _ _ fb19
    have fb20 := sb23 _ _ fb20
    have fb21 := sb23 _ _ fb21
    have fb22 := sb23 _ _ fb22
    have qL := ths_same hp22 sb23 qL
    have eL := sb23 _ _ eL
    refine ⟨_, rfl, _, rfl, (by show 3 ≤ sizeLine; decide), fun b24 hb24 => ?_⟩
    have sb24 := same_new (o := .tup [V.str "to", V.ref am, V.ref am]) hb24
    have fb24 : (upd J23 b24 (.tup [V.str "to", V.ref am, V.ref am])) b24 = some (.tup [V.str "to", V.ref am, V.ref am]) := upd_same
    have hp24 := hp23.same sb24
    have k24 := k23.trans (kept_same (p := p) sb24)
    generalize upd J23 b24 (.tup [V.str "to", V.ref am, V.ref am]) = J24 at *
    have fm := sb24 _ _ fm
    have fb19 := sb24 _ _ fb19
    have fb20 := sb24 _ _ fb20
    have fb21 := sb24 _ _ fb21
    have fb22 := sb24 _ _ fb22
    have fb23 := sb24 _ _ fb23
    have qL := ths_same hp23 sb24 qL
    have eL := sb24 _ _ eL
    refine ⟨(by show 6 ≤ sizeLine; decide), fun b25 hb25 => ?_⟩
    have q4 : ThS J24 [V.ref b20, V.ref b21, V.ref b22, V.ref am, V.ref b23, V.ref b24] := by
      intro v hv
      simp only [List.mem_cons, List.not_mem_nil, or_false] at hv
      rcases hv with rfl | rfl | rfl | rfl | rfl | rfl
      · exact ⟨(.t2 (.s "mark") (.t2 (.s "mark") (.atom (.str "a")))), ⟨b20, _, _, rfl, fb20, ⟨rfl, (by unfold HOk SOk; decide +kernel)⟩, ⟨b19, _, _, rfl, fb19, ⟨rfl, (by unfold HOk SOk; decide +kernel)⟩, ⟨rfl, rfl, fun z e => (by first | (injection e with e; subst e; exact ⟨by decide +kernel, by unfold SOk; decide +kernel⟩) | cases e)⟩⟩⟩, by first | exact (show (1 : Nat) ≤ 3 by decide) | exact (show (3 : Nat) ≤ 3 by decide)⟩
      · exact ⟨(.t3 (.s "one") (.t2 (.s "mark") (.atom (.str m0))) (.t2 (.s "mark") (.atom (.str m0)))), ⟨b21, _, _, _, rfl, fb21, ⟨rfl, (by unfold HOk SOk; decide +kernel)⟩, ⟨am, _, _, rfl, fm, ⟨rfl, so_mark⟩, rfl, rfl, fun z e => (by injection e with e; exact e ▸ hm0)⟩, ⟨am, _, _, rfl, fm, ⟨rfl, so_mark⟩, rfl, rfl, fun z e => (by injection e with e; exact e ▸ hm0)⟩⟩, by first | exact (show (1 : Nat) ≤ 3 by decide) | exact (show (3 : Nat) ≤ 3 by decide)⟩
      · exact ⟨(.t3 (.s "mark") (.atom (.str "a")) (.atom (.str "b"))), ⟨b22, _, _, _, rfl, fb22, ⟨rfl, (by unfold HOk SOk; decide +kernel)⟩, ⟨rfl, rfl, fun z e => (by first | (injection e with e; subst e; exact ⟨by decide +kernel, by unfold SOk; decide +kernel⟩) | cases e)⟩, ⟨rfl, rfl, fun z e => (by first | (injection e with e; subst e; exact ⟨by decide +kernel, by unfold SOk; decide +kernel⟩) | cases e)⟩⟩, by first | exact (show (1 : Nat) ≤ 3 by decide) | exact (show (3 : Nat) ≤ 3 by decide)⟩
      · exact ⟨(.t2 (.s "mark") (.atom (.str m0))), ⟨am, _, _, rfl, fm, ⟨rfl, so_mark⟩, rfl, rfl, fun z e => (by injection e with e; exact e ▸ hm0)⟩, by first | exact (show (1 : Nat) ≤ 3 by decide) | exact (show (3 : Nat) ≤ 3 by decide)⟩
      · exact ⟨(.t1 (.s "one")), ⟨b23, _, rfl, fb23, ⟨rfl, (by unfold HOk SOk; decide +kernel)⟩⟩, by first | exact (show (1 : Nat) ≤ 3 by decide) | exact (show (3 : Nat) ≤ 3 by decide)⟩
      · exact ⟨(.t3 (.s "to") (.t2 (.s "mark") (.atom (.str m0))) (.t2 (.s "mark") (.atom (.str m0)))), ⟨b24, _, _, _, rfl, fb24, ⟨rfl, (by unfold HOk SOk; decide +kernel)⟩, ⟨am, _, _, rfl, fm, ⟨rfl, so_mark⟩, rfl, rfl, fun z e => (by injection e with e; exact e ▸ hm0)⟩, ⟨am, _, _, rfl, fm, ⟨rfl, so_mark⟩, rfl, rfl, fun z e => (by injection e with e; exact e ▸ hm0)⟩⟩, by first | exact (show (1 : Nat) ≤ 3 by decide) | exact (show (3 : Nat) ≤ 3 by decide)⟩
    have sb25 := same_new (o := .lst [V.ref b20, V.ref b21, V.ref b22, V.ref am, V.ref b23, V.ref b24]) hb25
    have fb25 : (upd J24 b25 (.lst [V.ref b20, V.ref b21, V.ref b22, V.ref am, V.ref b23, V.ref b24])) b25 = some (.lst [V.ref b20, V.ref b21, V.ref b22, V.ref am, V.ref b23, V.ref b24]) := upd_same
    have hp25 := hp24.same sb25
    have k25 := k24.trans (kept_same (p := p) sb25)
    generalize upd J24 b25 (.lst [V.ref b20, V.ref b21, V.ref b22, V.ref am, V.ref b23, V.ref b24]) = J25 at *
    have fm := sb25 _ _ fm
    have qL := ths_same hp24 sb25 qL
    have q4 := ths_same hp24 sb25 q4
    have eL := sb25 _ _ eL
    have e4 := fb25
    refine ⟨b18, b25, _, _, rfl, rfl, eL, e4, (by first | decide | (simp; decide)), fun b26 hb26 => ?_⟩
    have qL := qL.app q4
    have sb26 := same_new (o := .lst ((([V.non, V.int 7, V.str "a", V.bl true, V.ref b1, V.ref b2, V.ref b3, V.ref b4, V.ref b5, V.ref b6] ++ [V.ref b8, V.ref b9, V.ref b10, V.ref b11]) ++ [V.ref b14, V.ref b15, V.ref b16]) ++ [V.ref b20, V.ref b21, V.ref b22, V.ref am, V.ref b23, V.ref b24])) hb26
    have fb26 : (upd J25 b26 (.lst ((([V.non, V.int 7, V.str "a", V.bl true, V.ref b1, V.ref b2, V.ref b3, V.ref b4, V.ref b5, V.ref b6] ++ [V.ref b8, V.ref b9, V.ref b10, V.ref b11]) ++ [V.ref b14, V.ref b15, V.ref b16]) ++ [V.ref b20, V.ref b21, V.ref b22, V.ref am, V.ref b23, V.ref b24]))) b26 = some (.lst ((([V.non, V.int 7, V.str "a", V.bl true, V.ref b1, V.ref b2, V.ref b3, V.ref b4, V.ref b5, V.ref b6] ++ [V.ref b8, V.ref b9, V.ref b10, V.ref b11]) ++ [V.ref b14, V.ref b15, V.ref b16]) ++ [V.ref b20, V.ref b21, V.ref b22, V.ref am, V.ref b23, V.ref b24])) := upd_same
    have hp26 := hp25.same sb26
    have k26 := k25.trans (kept_same (p := p) sb26)
    generalize upd J25 b26 (.lst ((([V.non, V.int 7, V.str "a", V.bl true, V.ref b1, V.ref b2, V.ref b3, V.ref b4, V.ref b5, V.ref b6] ++ [V.ref b8, V.ref b9, V.ref b10, V.ref b11]) ++ [V.ref b14, V.ref b15, V.ref b16]) ++ [V.ref b20, V.ref b21, V.ref b22, V.ref am, V.ref b23, V.ref b24])) = J26 at *
    have fm := sb26 _ _ fm
    have qL := ths_same hp25 sb26 qL
    have eL := fb26
    refine ⟨_, rfl, (by show 1 ≤ sizeLine; decide), fun b27 hb27 => ?_⟩
    have sb27 := same_new (o := .tup [V.str "one"]) hb27
    have fb27 : (upd J26 b27 (.tup [V.str "one"])) b27 = some (.tup [V.str "one"]) := upd_same
    have hp27 := hp26.same sb27
    have k27 := k26.trans (kept_same (p := p) sb27)
    generalize upd J26 b27 (.tup [V.str "one"]) = J27 at *
    have fm := sb27 _ _ fm
    have qL := ths_same hp26 sb27 qL
    have eL := sb27 _ _ eL
    refine ⟨(by show 1 ≤ sizeLine; decide), fun b28 hb28 => ?_⟩
    have sb28 := same_new (o := .lst [V.ref b27]) hb28
    have fb28 : (upd J27 b28 (.lst [V.ref b27])) b28 = some (.lst [V.ref b27]) := upd_same
    have hp28 := hp27.same sb28
    have k28 := k27.trans (kept_same (p := p) sb28)
    generalize upd J27 b28 (.lst [V.ref b27]) = J28 at *
    have fm := sb28 _ _ fm
    have fb27 := sb28 _ _ fb27
    have qL := ths_same hp27 sb28 qL
    have eL := sb28 _ _ eL
    refine ⟨_, rfl, _, rfl, (by show 3 ≤ sizeLine; decide), fun b29 hb29 => ?_⟩
    have sb29 := same_new (o := .lst [V.str "to", V.ref am, V.ref am]) hb29
    have fb29 : (upd J28 b29 (.lst [V.str "to", V.ref am, V.ref am])) b29 = some (.lst [V.str "to", V.ref am, V.ref am]) := upd_same
    have hp29 := hp28.same sb29
    have k29 := k28.trans (kept_same (p := p) sb29)
    generalize upd J28 b29 (.lst [V.str "to", V.ref am, V.ref am]) = J29 at *
    have fm := sb29 _ _ fm
    have fb27 := sb29 _ _ fb27
    have fb28 := sb29 _ _ fb28
    have qL := ths_same hp28 sb29 qL
    have eL := sb29 _ _ eL
    refine ⟨(by show 1 ≤ sizeLine; decide), fun b30 hb30 => ?_⟩
    have sb30 := same_new (o := .lst [V.str "to"]) hb30
    have fb30 : (upd J29 b30 (.lst [V.str "to"])) b30 = some (.lst [V.str "to"]) := upd_same
    have hp30 := hp29.same sb30
    have k30 := k29.trans (kept_same (p := p) sb30)
    generalize upd J29 b30 (.lst [V.str "to"]) = J30 at *
    have fm := sb30 _ _ fm
    have fb27 := sb30 _ _ fb27
    have fb28 := sb30 _ _ fb28
    have fb29 := sb30 _ _ fb29
    have qL := ths_same hp29 sb30 qL
    have eL := sb30 _ _ eL
    refine ⟨_, rfl, _, rfl, (by show 3 ≤ sizeLine; decide), fun b31 hb31 => ?_⟩
    have sb31 := same_new (o := .tup [V.ref b30, V.ref am, V.ref am]) hb31
    have fb31 : (upd J30 b31 (.tup [V.ref b30, V.ref am, V.ref am])) b31 = some (.tup [V.ref b30, V.ref am, V.ref am]) := upd_same
    have hp31 := hp30.same sb31
    have k31 := k30.trans (kept_same (p := p) sb31)
    generalize upd J30 b31 (.tup [V.ref b30, V.ref am, V.ref am]) = J31 at *
    have fm := sb31 _ _ fm
    have fb27 := sb31 _ _ fb27
    have fb28 := sb31 _ _ fb28
    have fb29 := sb31 _ _ fb29
    have fb30 := sb31 _ _ fb30
    have qL := ths_same hp30 sb31 qL
    have eL := sb31 _ _ eL
    refine ⟨_, rfl, _, rfl, (by show 3 ≤ sizeLine; decide), fun b32 hb32 => ?_⟩
    have sb32 := same_new (o := .tup [V.non, V.ref am, V.ref am]) hb32
    have fb32 : (upd J31 b32 (.tup [V.non, V.ref am, V.ref am])) b32 = some (.tup [V.non, V.ref am, V.ref am]) := upd_same
    have hp32 := hp31.same sb32
    have k32 := k31.trans (kept_same (p := p) sb32)
    generalize upd J31 b32 (.tup [V.non, V.ref am, V.ref am]) = J32 at *
    have fm := sb32 _ _ fm
    have fb27 := sb32 _ _ fb27
    have fb28 := sb32 _ _ fb28
    have fb29 := sb32 _ _ fb29
    have fb30 := sb32 _ _ fb30
    have fb31 := sb32 _ _ fb31
    have qL := ths_same hp31 sb32 qL
    have eL := sb32 _ _ eL
    intro b33 hb33
    have sb33 := same_new (o := .dK []) hb33
    have fb33 : (upd J32 b33 (.dK [])) b33 = some (.dK []) := upd_same
    have hp33 := hp32.same sb33
    have k33 := k32.trans (kept_same (p := p) sb33)
    generalize upd J32 b33 (.dK []) = J33 at *
    have fm := sb33 _ _ fm
    have fb27 := sb33 _ _ fb27
    have fb28 := sb33 _ _ fb28
    have fb29 := sb33 _ _ fb29
    have fb30 := sb33 _ _ fb30
    have fb31 := sb33 _ _ fb31
    have fb32 := sb33 _ _ fb32
    have qL := ths_same hp32 sb33 qL
    have eL := sb33 _ _ eL
    refine ⟨(by show 5 ≤ sizeLine; decide), fun b34 hb34 => ?_⟩
    have q5 : ThS J33 [V.ref b28, V.ref b29, V.ref b31, V.ref b32, V.ref b33] := by
      intro v hv
      simp only [List.mem_cons, List.not_mem_nil, or_false] at hv
      rcases hv with rfl | rfl | rfl | rfl | rfl
      · exact ⟨.lst, ⟨b28, _, rfl, fb28⟩, by first | exact (show (1 : Nat) ≤ 3 by decide) | exact (show (3 : Nat) ≤ 3 by decide)⟩
      · exact ⟨.lst, ⟨b29, _, rfl, fb29⟩, by first | exact (show (1 : Nat) ≤ 3 by decide) | exact (show (3 : Nat) ≤ 3 by decide)⟩
      · exact ⟨(.t3 (.l "to") (.t2 (.s "mark") (.atom (.str m0))) (.t2 (.s "mark") (.atom (.str m0)))), ⟨b31, _, _, _, rfl, fb31, ⟨⟨b30, rfl, fb30⟩, (by first | (unfold HOk SOk; decide +kernel) | (unfold SOk; decide +kernel))⟩, ⟨am, _, _, rfl, fm, ⟨rfl, so_mark⟩, rfl, rfl, fun z e => (by injection e with e; exact e ▸ hm0)⟩, ⟨am, _, _, rfl, fm, ⟨rfl, so_mark⟩, rfl, rfl, fun z e => (by injection e with e; exact e ▸ hm0)⟩⟩, by first | exact (show (1 : Nat) ≤ 3 by decide) | exact (show (3 : Nat) ≤ 3 by decide)⟩
      · exact ⟨(.t3 .non (.t2 (.s "mark") (.atom (.str m0))) (.t2 (.s "mark") (.atom (.str m0)))), ⟨b32, _, _, _, rfl, fb32, ⟨rfl, trivial⟩, ⟨am, _, _, rfl, fm, ⟨rfl, so_mark⟩, rfl, rfl, fun z e => (by injection e with e; exact e ▸ hm0)⟩, ⟨am, _, _, rfl, fm, ⟨rfl, so_mark⟩, rfl, rfl, fun z e => (by injection e with e; exact e ▸ hm0)⟩⟩, by first | exact (show (1 : Nat) ≤ 3 by decide) | exact (show (3 : Nat) ≤ 3 by decide)⟩
      · exact ⟨.dct, ⟨b33, rfl, fb33⟩, by first | exact (show (1 : Nat) ≤ 3 by decide) | exact (show (3 : Nat) ≤ 3 by decide)⟩
    have sb34 := same_new (o := .lst [V.ref b28, V.ref b29, V.ref b31, V.ref b32, V.ref b33]) hb34
    have fb34 : (upd J33 b34 (.lst [V.ref b28, V.ref b29, V.ref b31, V.ref b32, V.ref b33])) b34 = some (.lst [V.ref b28, V.ref b29, V.ref b31, V.ref b32, V.ref b33]) := upd_same
    have hp34 := hp33.same sb34
    have k34 := k33.trans (kept_same (p := p) sb34)
    generalize upd J33 b34 (.lst [V.ref b28, V.ref b29, V.ref b31, V.ref b32, V.ref b33]) = J34 at *
    have fm := sb34 _ _ fm
    have qL := ths_same hp33 sb34 qL
    have q5 := ths_same hp33 sb34 q5
    have eL := sb34 _ _ eL
    have e5 := fb34
    refine ⟨b26, b34, _, _, rfl, rfl, eL, e5, (by first | decide | (simp; decide)), fun b35 hb35 => ?_⟩
    have qL := qL.app q5
    have sb35 := same_new (o := .lst (((([V.non, V.int 7, V.str "a", V.bl true, V.ref b1, V.ref b2, V.ref b3, V.ref b4, V.ref b5, V.ref b6] ++ [V.ref b8, V.ref b9, V.ref b10, V.ref b11]) ++ [V.ref b14, V.ref b15, V.ref b16]) ++ [V.ref b20, V.ref b21, V.ref b22, V.ref am, V.ref b23, V.ref b24]) ++ [V.ref b28, V.ref b29, V.ref b31, V.ref b32, V.ref b33])) hb35
    have fb35 : (upd J34 b35 (.lst (((([V.non, V.int 7, V.str "a", V.bl true, V.ref b1, V.ref b2, V.ref b3, V.ref b4, V.ref b5, V.ref b6] ++ [V.ref b8, V.ref b9, V.ref b10, V.ref b11]) ++ [V.ref b14, V.ref b15, V.ref b16]) ++ [V.ref b20, V.ref b21, V.ref b22, V.ref am, V.ref b23, V.ref b24]) ++ [V.ref b28, V.ref b29, V.ref b31, V.ref b32, V.ref b33]))) b35 = some (.lst (((([V.non, V.int 7, V.str "a", V.bl true, V.ref b1, V.ref b2, V.ref b3, V.ref b4, V.ref b5, V.ref b6] ++ [V.ref b8, V.ref b9, V.ref b10, V.ref b11]) ++ [V.ref b14, V.ref b15, V.ref b16]) ++ [V.ref b20, V.ref b21, V.ref b22, V.ref am, V.ref b23, V.ref b24]) ++ [V.ref b28, V.ref b29, V.ref b31, V.ref b32, V.ref b33])) := upd_same
    have hp35 := hp34.same sb35
    have k35 := k34.trans (kept_same (p := p) sb35)
    generalize upd J34 b35 (.lst (((([V.non, V.int 7, V.str "a", V.bl true, V.ref b1, V.ref b2, V.ref b3, V.ref b4, V.ref b5, V.ref b6] ++ [V.ref b8, V.ref b9, V.ref b10, V.ref b11]) ++ [V.ref b14, V.ref b15, V.ref b16]) ++ [V.ref b20, V.ref b21, V.ref b22, V.ref am, V.ref b23, V.ref b24]) ++ [V.ref b28, V.ref b29, V.ref b31, V.ref b32, V.ref b33])) = J35 at *
    have fm := sb35 _ _ fm
    have qL := ths_same hp34 sb35 qL
    have eL := fb35
    refine ⟨_, rfl, _, rfl, _, rfl, b35, _, rfl, .inl (SqL.of eL), p, _, rfl, hp35, (by simp), (by simp), fun r H9 r0 r1 hp9 e9 => ?_⟩
    obtain ⟨u, hu, hmem⟩ := at_any r0 r1
    have kk := kept_take e9
    have nn : b35 ≠ p := fun z => by
      obtain ⟨c, n, q, _⟩ := hp35
      rw [z, q] at eL
      cases eL
    refine ⟨b35, _, _, u, rfl, rfl, SqL.of (kk _ _ nn eL), hu, ?_⟩
    obtain ⟨t, h1, h2⟩ := qL u hmem
    exact k u t H9 (h1.kept kk hp35 hp9) h2 hp9 (k35.trans kk)
end
abbrev sPut : Stmt := top 17
abbrev sLis : Stmt := top 18
def sgn (c : Nat) : V := .str ⟨#[c]⟩
theorem sgn_dp {K : PySem.W.Frag} {H : Hp} : ∀ l : List Nat, DpAll K H (l.map sgn) (l.map fun c => PyData.str ⟨#[c]⟩)
  | [] => .nil
  | c :: r => .cons (.str _) (sgn_dp r)
theorem sgn_ok : ∀ l : List Nat, (∀ c ∈ l, c < 1114112) → PyData.canLayAll0 (l.map fun c => PyData.str ⟨#[c]⟩) = true ∧ PyData.depthAll (l.map fun c => PyData.str ⟨#[c]⟩) = 0
  | [], _ => ⟨by simp only [List.map_nil, PyData.canLayAll0], by simp only [List.map_nil, PyData.depthAll]⟩
  | c :: r, h => by
    obtain ⟨a, b⟩ := sgn_ok r fun d hd => h d (List.mem_cons_of_mem _ hd)
    have hc : PyData.canLay0 (.str ⟨#[c]⟩) = true := by
      simp only [PyData.canLay0]
      show (#[c]).all (fun x => decide (x < 0x110000)) = true
      have := h c List.mem_cons_self
      simp
      omega
    constructor
    · simp only [List.map_cons, PyData.canLayAll0, hc, a]
      rfl
    · simp only [List.map_cons, PyData.depthAll, PyData.depth, b]
      rfl
theorem eqv_nil (ds : List PyData) : PyData.eqv (.list ds) (.list []) = ds.isEmpty := by
  cases ds with
  | nil => simp only [PyData.eqv, PyData.eqvAll]; rfl
  | cons a r => simp only [PyData.eqv, PyData.eqvAll]; rfl
theorem mark_due (z : Str) (h : 0 < z.length ∧ z.length < 7) : ((z.cps.toList.filter fun c => !decide (c ∈ low)).map fun c => PyData.str ⟨#[c]⟩).isEmpty = isMark z := by
  unfold isMark
  rw [decide_eq_true (by omega), Bool.true_and, List.isEmpty_map, Bool.eq_iff_iff, List.isEmpty_iff, List.filter_eq_nil_iff, List.all_eq_true]
  constructor
  · intro q c hc
    have := q c hc
    simpa using this
  · intro q c hc
    have := q c hc
    simpa using this

def spPut (n : Nat) : Sp := fun vs H Q _ => ∃ (p : Addr) (v1 v2 : V) (t1 t2 : Th), vs = [.ref p, v1, v2] ∧ PoolAt H p ∧ ThAt H t1 v1 ∧ Kl t1 ∧ ThAt H t2 v2 ∧ t1.sz < n ∧
  ∀ (v : V) (t : Th) (H' : Hp), ThAt H' t v → t.sz ≤ t1.sz + t2.sz → PoolAt H' p → Kept p H H' → Q v H'
section
variable {P : Program} {w : World} {K : PySem.W.Frag} {mg : Str → Option Value} {base : Heap}
theorem scPut : FnScope ["_law_pool_here", "_law_kind", "_law_thing"] ["_law_pool_here", "_law_kind", "_law_thing"] (defScope sPut) := ⟨rfl, rfl, rfl, by decide +kernel, rfl, by decide +kernel, by decide +kernel⟩
theorem ok_put {f fT : Addr} {fd fdT : FuncData} (F : Fun K "_law_put" "_law_put" sPut f fd) (bF : Binds K fd ["_law_pool_here", "_law_kind", "_law_thing"] []) (gF : mg "_law_put" = some (.ref f))
    (FT : Fun K "_law_take" "_law_take" sTake fT fdT) (bT : Binds K fdT ["_law_pool_here", "_law_many"] []) (gT : mg "_law_take" = some (.ref fT)) (mLen : mg "len" = none) :
    ∀ n : Nat, FnOk P w K mg base CX0 (n + 2) f fd ["_law_pool_here", "_law_kind", "_law_thing"] (spPut n) := by
  have GT : FnOk P w K mg base CX0 1 fT fdT ["_law_pool_here", "_law_many"] spTake := ok_take FT
  intro n
  induction n with
  | zero =>
    refine F.ok scPut (fun vs H Q E h => ?_) (fun cdv A outer s H vs Q E hr h => ?_)
    · obtain ⟨p, v1, v2, t1, t2, rfl, _⟩ := h
      rfl
    · obtain ⟨p, v1, v2, t1, t2, _, _, _, _, _, h1, _⟩ := h
      omega
  | succ n GK =>
    refine F.ok scPut (fun vs H Q E h => ?_) (fun cdv A outer s H vs Q E hr h => ?_)
    · obtain ⟨p, v1, v2, t1, t2, rfl, _⟩ := h
      rfl
    · obtain ⟨p, v1, v2, t1, t2, rfl, hp, h1, hk, h2, hn, k⟩ := h
      have hr1 : Room 1 _ := hr.mono (by omega)
      refine ⟨_, pss_cons (ps_if (PW.pt (pw_or (pt_cmpR op_lt (pe_callB call_len_seq (by rfl) mLen PySem.boot_len (pa_cons (pv 1) pa_nil)) pe_int (nomark _)) (pw_or1 (pt_cmpR op_eq (pe_call GT hr1 (by rfl) gT FT.kp bT .nil pass0 (pa_cons (pv 0) (pa_cons pe_int pa_nil))) pe_int (nomark _))))) (pss_one (ps_ret (pv 2))) pss_nil)
        (pss_cons (ps_if (pt_cmpR op_eq (pe_call GT hr1 (by rfl) gT FT.kp bT .nil pass0 (pa_cons (pv 0) (pa_cons pe_int pa_nil))) pe_int (nomark _))
          (pss_one (ps_ret (pe_tup (pa_cons (pe_ix ix_tup (pv 1) pe_int (fun _ _ => rfl)) (pa_cons (pe_call GK hr (by rfl) gF F.kp bF .nil pass0 (pa_cons (pv 0) (pa_cons (pe_ix ix_tup (pv 1) pe_int (fun _ _ => rfl)) (pa_cons (pv 2) pa_nil)))) (pa_cons (pe_ix ix_tup (pv 1) pe_int (fun _ _ => rfl)) pa_nil)))))) pss_nil)
        (pss_one (ps_ret (pe_tup (pa_cons (pe_ix ix_tup (pv 1) pe_int (fun _ _ => rfl)) (pa_cons (pe_ix ix_tup (pv 1) pe_int (fun _ _ => rfl)) (pa_cons (pe_call GK hr (by rfl) gF F.kp bF .nil pass0 (pa_cons (pv 0) (pa_cons (pe_ix ix_tup (pv 1) pe_int (fun _ _ => rfl)) (pa_cons (pv 2) pa_nil)))) pa_nil))))))), ?_⟩
      cases t1 with
      | t1 h =>
        obtain ⟨a, x, rfl, ha, hx⟩ := h1
        refine ⟨_, rfl, a, _, rfl, .inr (SqT.of ha), _, _, rfl, rfl, _, rfl, ?_⟩
        refine iteT ?_
        exact ⟨_, rfl, k v2 t2 H h2 (by omega) hp (fun b o _ e => e)⟩
      | t2 h b =>
        obtain ⟨a, x, y, rfl, ha, hx, hb⟩ := h1
        refine ⟨_, rfl, a, _, rfl, .inr (SqT.of ha), _, _, rfl, rfl, _, rfl, ?_⟩
        refine iteT ?_
        exact ⟨_, rfl, k v2 t2 H h2 (by omega) hp (fun b o _ e => e)⟩
      | t3 h b c =>
        cases h with
        | s w0 =>
          obtain ⟨kb, kc⟩ := hk
          obtain ⟨a, x, y, z, rfl, ha, hx, hb, hc⟩ := h1
          have hn' : b.sz + c.sz + 1 < n + 1 := hn
          refine ⟨_, rfl, a, _, rfl, .inr (SqT.of ha), _, _, rfl, rfl, _, rfl, ?_⟩
          refine iteF ?_
          refine ⟨_, rfl, p, 3, rfl, hp, by decide, by decide, fun r H1 r0 r1 hp1 e1 => ⟨rfl, _, rfl, ?_⟩⟩
          have k1 := kept_take e1
          have h21 := h2.kept k1 hp hp1
          refine ite2 (fun _ => ⟨_, rfl, k v2 t2 H1 h21 (by omega) hp1 k1⟩) (fun _ => ?_)
          refine ⟨_, rfl, p, 2, rfl, hp1, by decide, by decide, fun r H2 r0 r1 hp2 e2 => ⟨rfl, _, rfl, ?_⟩⟩
          have k2 := k1.trans (kept_take e2)
          have ha2 := tup_kept k2 hp ha
          have hb2 := hb.kept k2 hp hp2
          have hc2 := hc.kept k2 hp hp2
          have h22 := h2.kept k2 hp hp2
          have hx2 := hx.kept k2 hp
          refine ite2 (fun _ => ?_) (fun _ => ?_)
          · refine ⟨_, rfl, a, _, _, _, rfl, rfl, SqT.of ha2, atI_nat (j := 0) rfl, _, rfl, _, rfl, a, _, _, _, rfl, rfl, SqT.of ha2, atI_nat (j := 1) rfl, _, rfl, p, y, v2, b, t2, rfl, hp2, hb2, kb, h22, by omega, fun u tu H3 hu zu hp3 k3 => ?_⟩
            have ha3 := tup_kept k3 hp2 ha2
            refine ⟨_, rfl, a, _, _, _, rfl, rfl, SqT.of ha3, atI_nat (j := 2) rfl, by show 3 ≤ sizeLine; decide, fun ta hta => ?_⟩
            have st := same_new (o := .tup [x, u, z]) hta
            refine k (.ref ta) (.t3 (.s w0) tu c) _ ⟨ta, _, _, _, rfl, upd_same, (hx2.kept k3 hp2).kept (kept_same st) hp3, hu.same hp3 st, (hc2.kept k3 hp2 hp3).same hp3 st⟩ ?_ (hp3.same st) ((k2.trans k3).trans (kept_same st))
            show tu.sz + c.sz + 1 ≤ b.sz + c.sz + 1 + t2.sz
            omega
          · refine ⟨_, rfl, a, _, _, _, rfl, rfl, SqT.of ha2, atI_nat (j := 0) rfl, _, rfl, a, _, _, _, rfl, rfl, SqT.of ha2, atI_nat (j := 1) rfl, _, rfl, _, rfl, a, _, _, _, rfl, rfl, SqT.of ha2, atI_nat (j := 2) rfl, _, rfl, p, z, v2, c, t2, rfl, hp2, hc2, kc, h22, by omega, fun u tu H3 hu zu hp3 k3 => ?_⟩
            refine ⟨by show 3 ≤ sizeLine; decide, fun ta hta => ?_⟩
            have st := same_new (o := .tup [x, y, u]) hta
            refine k (.ref ta) (.t3 (.s w0) b tu) _ ⟨ta, _, _, _, rfl, upd_same, (hx2.kept k3 hp2).kept (kept_same st) hp3, (hb2.kept k3 hp2 hp3).same hp3 st, hu.same hp3 st⟩ ?_ (hp3.same st) ((k2.trans k3).trans (kept_same st))
            show b.sz + tu.sz + 1 ≤ b.sz + c.sz + 1 + t2.sz
            omega
        | _ => exact hk.elim
      | _ => exact hk.elim
end
/-! comparisons of heads -/
def hdat : Hd → PyData
  | .s x => .str x
  | .non => .none
  | .l x => .list [.str x]
  | .m x y => .tuple [.str x, .str y]
theorem sok_lay {x : Str} (h : SOk x) : PyData.canLay0 (.str x) = true := by
  simp only [PyData.canLay0]
  show x.cps.all (fun c => decide (c < 0x110000)) = true
  rw [Array.all_eq_true']
  intro c hc
  exact decide_eq_true (h c (Array.mem_toList_iff.mpr hc))
theorem hd_dp {K : PySem.W.Frag} {H : Hp} : ∀ (h : Hd) (v : V), HdAt H h v → Dp K H v (hdat h) ∧ (hdat h).canLay0 = true ∧ (hdat h).depth ≤ 1
  | .s x, _, ⟨e, o⟩ => ⟨by rw [e]; exact .str x, sok_lay o, by simp only [hdat, PyData.depth]; omega⟩
  | .non, _, ⟨e, o⟩ => ⟨by rw [e]; exact .non, by simp only [hdat, PyData.canLay0], by simp only [hdat, PyData.depth]; omega⟩
  | .l x, _, ⟨⟨a, e, q⟩, o⟩ => ⟨by rw [e]; exact .lst (SqL.of q) (.cons (.str _) .nil), by
      have := sok_lay o
      simp only [hdat, PyData.canLay0, PyData.canLayAll0] at this ⊢
      rw [this]; rfl, by simp only [hdat, PyData.depth, PyData.depthAll]; omega⟩
  | .m x y, _, ⟨⟨a, e, q⟩, o1, o2⟩ => ⟨by rw [e]; exact .tup (SqT.of q) (.cons (.str _) (.cons (.str _) .nil)), by
      have a1 := sok_lay o1
      have a2 := sok_lay o2
      simp only [hdat, PyData.canLay0, PyData.canLayAll0] at a1 a2 ⊢
      rw [a1, a2]; rfl, by simp only [hdat, PyData.depth, PyData.depthAll]; omega⟩
theorem shaped_of {d : PyData} (h : d.canLay0 = true) (g : d.depth ≤ 60) : SeqAt.shaped d = true := by
  unfold SeqAt.shaped
  rw [h, Bool.true_and]
  exact decide_eq_true (by omega)
def Hd.isW (h : Hd) (x : Str) : Bool := match h with
  | .s y => decide (y = x)
  | _ => false
theorem hd_eqv (h : Hd) (x : Str) : PyData.eqv (hdat h) (.str x) = h.isW x := by
  cases h with
  | s y =>
    simp only [hdat, PyData.eqv, Hd.isW]
    rw [Bool.eq_iff_iff, decide_eq_true_iff, beq_iff_eq]
  | _ => simp only [hdat, PyData.eqv, Hd.isW]
theorem hd_one (h : Hd) : PyData.eqv (.tuple [hdat h]) (.tuple [.str "one"]) = (Th.t1 h).form := by
  simp only [PyData.eqv, PyData.eqvAll, hd_eqv, Bool.and_true]
  cases h <;> rfl
def spLis (n : Nat) : Sp := fun vs H Q _ => ∃ (v : V) (t : Th) (rm : Nat), vs = [v, .int ((rm : Int) - 1)] ∧ ThAt H t v ∧ rm < n ∧ ∀ H', Same H H' → Q (.bl (t.gd rm)) H'
theorem th_same {H H' : Hp} (s : Same H H') : ∀ {t : Th} {v : V}, ThAt H t v → ThAt H' t v
  | .atom _, _, q => q
  | .lst, _, ⟨a, xs, q1, q2⟩ => ⟨a, xs, q1, s _ _ q2⟩
  | .dct, _, ⟨a, q1, q2⟩ => ⟨a, q1, s _ _ q2⟩
  | .t0, _, ⟨a, q1, q2⟩ => ⟨a, q1, s _ _ q2⟩
  | .t1 h, _, ⟨a, x, q1, q2, q3⟩ => ⟨a, x, q1, s _ _ q2, hd_same s h x q3⟩
  | .t2 h b, _, ⟨a, x, y, q1, q2, q3, q4⟩ => ⟨a, x, y, q1, s _ _ q2, hd_same s h x q3, th_same s q4⟩
  | .t3 h b c, _, ⟨a, x, y, z, q1, q2, q3, q4, q5⟩ => ⟨a, x, y, z, q1, s _ _ q2, hd_same s h x q3, th_same s q4, th_same s q5⟩
  | .t4 h, _, ⟨a, x, y, z, u, q1, q2, q3⟩ => ⟨a, x, y, z, u, q1, s _ _ q2, hd_same s h x q3⟩
where hd_same {H H' : Hp} (s : Same H H') : ∀ (h : Hd) (v : V), HdAt H h v → HdAt H' h v
  | .s _, _, q => q
  | .non, _, q => q
  | .l _, _, ⟨⟨a, q1, q2⟩, o⟩ => ⟨⟨a, q1, s _ _ q2⟩, o⟩
  | .m _ _, _, ⟨⟨a, q1, q2⟩, o⟩ => ⟨⟨a, q1, s _ _ q2⟩, o⟩
theorem form_w2 (h : Hd) (b : Th) : (Th.t2 h b).form = (h.isW "mark" && b.markT) := by cases h <;> rfl
theorem form_w3 (h : Hd) (b c : Th) : (Th.t3 h b c).form = (h.isW "to" || h.isW "both") := by cases h <;> rfl
section
variable {P : Program} {w : World} {K : PySem.W.Frag} {mg : Str → Option Value} {base : Heap}
theorem scLis : FnScope ["_law_thing", "_law_room", "_law_sign"] ["_law_thing", "_law_room"] (defScope sLis) := ⟨rfl, rfl, rfl, by decide +kernel, rfl, by decide +kernel, by decide +kernel⟩
theorem ok_lis {f : Addr} {fd : FuncData} (F : Fun K "_law_is" "_law_is" sLis f fd) (bF : Binds K fd ["_law_thing", "_law_room"] []) (gF : mg "_law_is" = some (.ref f))
    (mLen : mg "len" = none) (mIs : mg "isinstance" = none) (mStr : mg "str" = none) (mTuple : mg "tuple" = none) :
    ∀ n : Nat, FnOk P w K mg base CX0 (n + 1) f fd ["_law_thing", "_law_room"] (spLis n) := by
  intro n
  induction n with
  | zero =>
    refine F.ok scLis (fun vs H Q E h => ?_) (fun cdv A outer s H vs Q E hr h => ?_)
    · obtain ⟨v, t, rm, rfl, _⟩ := h
      rfl
    · obtain ⟨v, t, rm, _, _, h1, _⟩ := h
      omega
  | succ n GK =>
    refine F.ok scLis (fun vs H Q E h => ?_) (fun cdv A outer s H vs Q E hr h => ?_)
    · obtain ⟨v, t, rm, rfl, _⟩ := h
      rfl
    · obtain ⟨v, t, rm, rfl, hv, hn, k⟩ := h
      refine ⟨_, pss_cons (ps_if (PW.pt (pw_or (pt_not (pt_val (pe_callB (isi_at (K := K) rfl) (by rfl) mIs boot_isi (pa_cons (pv 0) (pa_cons (pe_bltn (v := .ty "tuple") (by rfl) mTuple boot_tupleT rfl) pa_nil)))))
            (pw_or (pt_cmpR op_lt (pv 1) pe_int (nomark _)) (pw_or (pt_cmpR op_eq (pe_callB call_len_seq (by rfl) mLen PySem.boot_len (pa_cons (pv 0) pa_nil)) pe_int (nomark _)) (pw_or1 (pt_cmpR op_gt (pe_callB call_len_seq (by rfl) mLen PySem.boot_len (pa_cons (pv 0) pa_nil)) pe_int (nomark _))))))) (pss_one (ps_ret pe_bl)) pss_nil)
        (pss_cons (ps_if (pt_cmpR op_eq (pe_callB call_len_seq (by rfl) mLen PySem.boot_len (pa_cons (pv 0) pa_nil)) pe_int (nomark _)) (pss_one (ps_ret (pe_cmpR (op_eqD hr.units) (pv 0) (pe_tup (pa_cons pe_str pa_nil)) (nomark _)))) pss_nil)
        (pss_cons (ps_if (pt_cmpR op_eq (pe_callB call_len_seq (by rfl) mLen PySem.boot_len (pa_cons (pv 0) pa_nil)) pe_int (nomark _))
          (pss_cons (ps_if (PW.pt (pw_or (pt_cmpR (op_neD hr.units) (pe_ix ix_tup (pv 0) pe_int (fun _ _ => rfl)) pe_str (nomark _)) (pw_or (pt_not (pt_val (pe_callB (isi_at (K := K) rfl) (by rfl) mIs boot_isi (pa_cons (pe_ix ix_tup (pv 0) pe_int (fun _ _ => rfl)) (pa_cons (pe_bltn (v := .ty "str") (by rfl) mStr boot_strT rfl) pa_nil)))))
              (pw_or1 (pt_not (pt_chain op_lt op_lt pe_int (pe_callB call_len_str (by rfl) mLen PySem.boot_len (pa_cons (pe_ix ix_tup (pv 0) pe_int (fun _ _ => rfl)) pa_nil)) pe_int)))))) (pss_one (ps_ret pe_bl)) pss_nil)
          (pss_one (ps_ret (pe_cmpR (op_eqD hr.units) (pe_lc (own := [("_law_sign", 2)]) (g := gName 2) (by rfl) scLis.nd (pi_str (pe_ix ix_tup (pv 0) pe_int (fun _ _ => rfl)))
            (blkOk_by (N := ["_law_thing", "_law_room", "_law_sign"]) (sc := defScope sLis) (by decide +kernel)) (fun _ _ _ _ _ => pg_name (i := 2) scLis.nd rfl (Or.inl rfl)) (fun _ _ _ _ _ => pts_one (pt_cmpR op_notIn_sign (pv 2) pe_str (by rfl))) (fun _ _ _ _ _ => pv 2)) (pe_lst pa_nil) (nomark _))))) pss_nil)
        (pss_cons (ps_if (PW.pt (pw_and (pt_cmpR (op_neD hr.units) (pe_ix ix_tup (pv 0) pe_int (fun _ _ => rfl)) pe_str (nomark _)) (pw_and1 (pt_cmpR (op_neD hr.units) (pe_ix ix_tup (pv 0) pe_int (fun _ _ => rfl)) pe_str (nomark _))))) (pss_one (ps_ret pe_bl)) pss_nil)
        (pss_one (ps_ret (pe_and (pe_call GK hr (by rfl) gF F.kp bF .nil pass0 (pa_cons (pe_ix ix_tup (pv 0) pe_int (fun _ _ => rfl)) (pa_cons (pe_op op_sub (pv 1) pe_int) pa_nil)))
          (pe_one (pe_call GK hr (by rfl) gF F.kp bF .nil pass0 (pa_cons (pe_ix ix_tup (pv 0) pe_int (fun _ _ => rfl)) (pa_cons (pe_op op_sub (pv 1) pe_int) pa_nil)))))))))), ?_⟩
      obtain ⟨ty, g1, g2, g3⟩ := th_tup (K := K) t v hv
      have no : t.form = false → Q (.bl false) H := fun e => by
        have q := k H (Same.refl H)
        rw [gd_small t rm e] at q
        exact q
      cases hT : t.isT with
      | false =>
        rw [hT] at g2
        refine ⟨_, rfl, _, _, _, _, false, rfl, .ty "tuple", g1, g2, false, rfl, ?_⟩
        refine iteT ?_
        exact no (by cases t <;> first | rfl | cases hT)
      | true =>
        rw [hT] at g2
        cases rm with
        | zero =>
          refine ⟨_, rfl, _, _, _, _, true, rfl, .ty "tuple", g1, g2, true, rfl, ?_⟩
          refine iteF ?_
          refine ⟨_, rfl, _, _, rfl, rfl, _, rfl, ?_⟩
          refine ite2 (fun _ => ?_) (fun y => absurd (by decide) y)
          have q := k H (Same.refl H)
          have e : t.gd 0 = false := by unfold Th.gd; rfl
          rw [e] at q
          exact q
        | succ r =>
          have er : (((r + 1 : Nat) : Int) - 1 - 1) = ((r : Nat) : Int) - 1 := by omega
          cases t with
          | t0 =>
            obtain ⟨a, rfl, ha⟩ := hv
            refine ⟨_, rfl, _, _, _, _, true, rfl, .ty "tuple", g1, g2, true, rfl, ?_⟩
            refine iteF ?_
            refine ⟨_, rfl, _, _, rfl, rfl, _, rfl, ?_⟩
            refine ite2 (fun y => absurd (of_decide_eq_true y) (by omega)) (fun _ => ?_)
            refine ⟨_, rfl, a, _, rfl, .inr (SqT.of ha), rfl, _, rfl, ?_⟩
            refine ite2 (fun _ => no rfl) (fun y => absurd (by show decide (V.int ((0 : Nat) : Int) = V.int 0) = true; decide +kernel) y)
          | t4 h =>
            obtain ⟨a, x, y, z, u, rfl, ha, hx⟩ := hv
            refine ⟨_, rfl, _, _, _, _, true, rfl, .ty "tuple", g1, g2, true, rfl, ?_⟩
            refine iteF ?_
            refine ⟨_, rfl, _, _, rfl, rfl, _, rfl, ?_⟩
            refine ite2 (fun y => absurd (of_decide_eq_true y) (by omega)) (fun _ => ?_)
            refine ⟨_, rfl, a, _, rfl, .inr (SqT.of ha), rfl, _, rfl, ?_⟩
            refine ite2 (fun y => by cases y) (fun _ => ?_)
            refine ⟨_, rfl, a, _, rfl, .inr (SqT.of ha), _, _, rfl, rfl, _, rfl, ?_⟩
            refine iteT ?_
            exact no (by cases h <;> rfl)
          | t1 h =>
            obtain ⟨a, x, rfl, ha, hx⟩ := hv
            refine ⟨_, rfl, _, _, _, _, true, rfl, .ty "tuple", .base (.tup ha), kit_ty (r := true) (by decide +kernel), true, rfl, ?_⟩
            refine iteF ?_
            refine ⟨_, rfl, _, _, rfl, rfl, _, rfl, ?_⟩
            refine ite2 (fun y => absurd (of_decide_eq_true y) (by omega)) (fun _ => ?_)
            refine ⟨_, rfl, a, _, rfl, .inr (SqT.of ha), rfl, _, rfl, ?_⟩
            refine ite2 (fun y => by cases y) (fun _ => ?_)
            refine ⟨_, rfl, a, _, rfl, .inr (SqT.of ha), _, _, rfl, rfl, _, rfl, ?_⟩
            refine iteF ?_
            refine ⟨_, rfl, a, _, rfl, .inr (SqT.of ha), rfl, _, rfl, ?_⟩
            refine ite2 (fun _ => ?_) (fun y => absurd (by show decide (V.int ((1 : Nat) : Int) = V.int 1) = true; decide +kernel) y)
            refine ⟨_, rfl, by show 1 ≤ sizeLine; decide, fun b hb => ?_⟩
            have s1 := same_new (o := .tup [.str "one"]) hb
            obtain ⟨d1, d2, d3⟩ := hd_dp (K := K) h x (hx.1 |> fun q => th_same.hd_same s1 h x ⟨q, hx.2⟩)
            refine ⟨.tuple [hdat h], .tuple [.str "one"], .tup (SqT.of (s1 _ _ ha)) (.cons d1 .nil), .tup (SqT.of upd_same) (.cons (.str _) .nil), shaped_of ?_ ?_, by decide +kernel, ?_⟩
            · simp only [PyData.canLay0, PyData.canLayAll0, d2]
              rfl
            · simp only [PyData.depth, PyData.depthAll]
              omega
            · rw [hd_one]
              have q := k _ s1
              have e : (Th.t1 h).gd (r + 1) = (Th.t1 h).form := by unfold Th.gd; rfl
              rw [e] at q
              exact q
          | t2 h b =>
            obtain ⟨a, x, y, rfl, ha, hx, hb⟩ := hv
            have eg : (Th.t2 h b).gd (r + 1) = (h.isW "mark" && b.markT) := by unfold Th.gd; exact form_w2 h b
            refine ⟨_, rfl, _, _, _, _, true, rfl, .ty "tuple", .base (.tup ha), kit_ty (r := true) (by decide +kernel), true, rfl, ?_⟩
            refine iteF ?_
            refine ⟨_, rfl, _, _, rfl, rfl, _, rfl, ?_⟩
            refine ite2 (fun y => absurd (of_decide_eq_true y) (by omega)) (fun _ => ?_)
            refine ⟨_, rfl, a, _, rfl, .inr (SqT.of ha), rfl, _, rfl, ?_⟩
            refine ite2 (fun y => by cases y) (fun _ => ?_)
            refine ⟨_, rfl, a, _, rfl, .inr (SqT.of ha), _, _, rfl, rfl, _, rfl, ?_⟩
            refine iteF ?_
            refine ⟨_, rfl, a, _, rfl, .inr (SqT.of ha), rfl, _, rfl, ?_⟩
            refine ite2 (fun y => by cases y) (fun _ => ?_)
            refine ⟨_, rfl, a, _, rfl, .inr (SqT.of ha), rfl, _, rfl, ?_⟩
            refine ite2 (fun _ => ?_) (fun y => absurd (by show decide (V.int ((2 : Nat) : Int) = V.int 2) = true; decide +kernel) y)
            obtain ⟨d1, d2, d3⟩ := hd_dp (K := K) h x hx
            refine ⟨_, rfl, a, _, _, _, rfl, rfl, SqT.of ha, atI_nat (j := 0) rfl, hdat h, .str "mark", d1, .str _, shaped_of d2 (by omega), by decide +kernel, _, rfl, ?_⟩
            rw [hd_eqv]
            cases hw : h.isW "mark" with
            | false =>
              refine iteT ?_
              exact no (by rw [form_w2, hw]; rfl)
            | true =>
              rw [hw, Bool.true_and] at eg
              refine iteF ?_
              obtain ⟨ty2, b1, _, b3⟩ := th_tup (K := K) b y hb
              refine ⟨_, rfl, a, _, _, _, rfl, rfl, SqT.of ha, atI_nat (j := 1) rfl, _, _, _, _, b.isS, rfl, .ty "str", b1, b3, b.isS, rfl, ?_⟩
              cases hS : b.isS with
              | false =>
                refine iteT ?_
                have q := k H (Same.refl H)
                have e : b.markT = false := by
                  cases b with
                  | atom u => cases u <;> first | rfl | cases hS
                  | _ => rfl
                rw [eg, e] at q
                exact q
              | true =>
                obtain ⟨z, rfl⟩ : ∃ z, b = .atom (.str z) := by
                  cases b with
                  | atom u => cases u <;> first | exact ⟨_, rfl⟩ | cases hS
                  | _ => cases hS
                obtain ⟨rfl, _, hz⟩ := hb
                obtain ⟨hz, kz⟩ := hz z rfl
                have zl : z.cps.toList.length = z.length := Array.length_toList
                refine iteF ?_
                refine ⟨_, rfl, a, _, _, _, rfl, rfl, SqT.of ha, atI_nat (j := 1) rfl, z, rfl, small40 hz, _, _, rfl, rfl, _, rfl, ?_⟩
                have bad : ¬ (0 < z.length ∧ z.length < 7) → Q (.bl false) H := fun n => by
                  have q := k H (Same.refl H)
                  have e : (Th.atom (V.str z)).markT = false := by
                    show isMark z = false
                    unfold isMark
                    rw [decide_eq_false (by omega), Bool.false_and]
                  rw [eg, e] at q
                  exact q
                by_cases h0 : (0 : Int) < (z.length : Int)
                · rw [decide_eq_true h0]
                  refine iteT ?_
                  refine ⟨_, _, rfl, rfl, _, rfl, ?_⟩
                  by_cases h7 : (z.length : Int) < 7
                  · rw [decide_eq_true h7]
                    refine iteF ?_
                    refine ⟨_, rfl, a, _, _, _, rfl, rfl, SqT.of ha, atI_nat (j := 1) rfl, z, rfl, fun D hD => lc_it (walk_str (z := z)) (fun i H' => H' D = some (.lst (((z.cps.toList.take i).filter fun c => !decide (c ∈ low)).map sgn)) ∧ Same H H') ⟨upd_same, same_new hD⟩ (fun _ _ _ _ => trivial) ?_ ?_⟩
                    · rintro i x H6 H7 hi ⟨q1, q2⟩ ⟨rfl, c, hc, rfl⟩
                      have hc' : z.cps.toList[i]? = some c := by rw [Array.getElem?_toList]; exact hc
                      have il : i < z.length := hi
                      refine ⟨rfl, ?_⟩
                      refine ⟨_, rfl, c, _, rfl, rfl, _, rfl, ?_⟩
                      have step : (((z.cps.toList.take (i + 1)).filter fun c => !decide (c ∈ low)).map sgn) = (((z.cps.toList.take i).filter fun c => !decide (c ∈ low)).map sgn) ++ (([c].filter fun c => !decide (c ∈ low)).map sgn) := by
                        rw [List.take_add_one, hc', List.filter_append, List.map_append]
                        rfl
                      by_cases hcl : c ∈ low
                      · have e1 : (!decide (c ∈ (("abcdefghijklmnopqrstuvwxyz" : Str)).cps.toList)) = false := by
                          rw [decide_eq_true (show c ∈ (("abcdefghijklmnopqrstuvwxyz" : Str)).cps.toList from hcl)]
                          rfl
                        refine ite2 (fun y => by rw [e1] at y; cases y) fun _ => ⟨?_, q2⟩
                        rw [step, List.filter_cons_of_neg (by simp [hcl]), List.filter_nil, List.map_nil, List.append_nil]
                        exact q1
                      · have e1 : (!decide (c ∈ (("abcdefghijklmnopqrstuvwxyz" : Str)).cps.toList)) = true := by
                          rw [decide_eq_false (show ¬ c ∈ (("abcdefghijklmnopqrstuvwxyz" : Str)).cps.toList from hcl)]
                          rfl
                        rw [e1]
                        refine iteT ?_
                        refine ⟨_, rfl, _, q1, small1000 ?_, ?_, ?_⟩
                        · rw [List.length_map]
                          have := List.length_filter_le (fun c => !decide (c ∈ low)) (z.cps.toList.take i)
                          rw [List.length_take] at this
                          omega
                        · rw [upd_same, step, List.filter_cons_of_pos (by simp [hcl]), List.filter_nil]
                          rfl
                        · intro b o e
                          rw [upd_ne (ne_of_none e hD)]
                          exact q2 b o e
                    · rintro H6 ⟨q1, q2⟩
                      refine ⟨by show 0 ≤ sizeLine; decide, fun l hl8 => ?_⟩
                      have s8 := same_new (o := .lst []) hl8
                      have fl : z.cps.toList.take z.cps.size = z.cps.toList := List.take_of_length_le (by rw [zl]; exact Nat.le_refl _)
                      rw [fl] at q1
                      obtain ⟨ok1, ok2⟩ := sgn_ok (z.cps.toList.filter fun c => !decide (c ∈ low)) fun c hc => kz c (List.mem_filter.mp hc).1
                      refine ⟨.list ((z.cps.toList.filter fun c => !decide (c ∈ low)).map fun c => PyData.str ⟨#[c]⟩), .list [], .lst (SqL.of (s8 _ _ q1)) (sgn_dp _), .lst (SqL.of upd_same) .nil, ?_, by decide +kernel, ?_⟩
                      · unfold SeqAt.shaped
                        simp only [PyData.canLay0, PyData.depth, ok1, ok2]
                        rfl
                      rw [eqv_nil, mark_due z ⟨by omega, by omega⟩]
                      have q := k _ (Same.trans q2 s8)
                      rw [eg] at q
                      exact q
                  · rw [decide_eq_false h7]
                    refine iteT ?_
                    exact bad (by omega)
                · rw [decide_eq_false h0]
                  refine iteF ?_
                  refine ⟨_, rfl, ?_⟩
                  refine iteT ?_
                  exact bad (by omega)
          | t3 h b c =>
            obtain ⟨a, x, y, z, rfl, ha, hx, hb, hc⟩ := hv
            have eg : (Th.t3 h b c).gd (r + 1) = ((h.isW "to" || h.isW "both") && (b.gd r && c.gd r)) := by
              rw [← form_w3 h b c]
              show ((Th.t3 h b c).form && (b.gd r && c.gd r)) = _
              rfl
            refine ⟨_, rfl, _, _, _, _, true, rfl, .ty "tuple", .base (.tup ha), kit_ty (r := true) (by decide +kernel), true, rfl, ?_⟩
            refine iteF ?_
            refine ⟨_, rfl, _, _, rfl, rfl, _, rfl, ?_⟩
            refine ite2 (fun y => absurd (of_decide_eq_true y) (by omega)) (fun _ => ?_)
            refine ⟨_, rfl, a, _, rfl, .inr (SqT.of ha), rfl, _, rfl, ?_⟩
            refine ite2 (fun y => by cases y) (fun _ => ?_)
            refine ⟨_, rfl, a, _, rfl, .inr (SqT.of ha), _, _, rfl, rfl, _, rfl, ?_⟩
            refine iteF ?_
            refine ⟨_, rfl, a, _, rfl, .inr (SqT.of ha), rfl, _, rfl, ?_⟩
            refine ite2 (fun y => by cases y) (fun _ => ?_)
            refine ⟨_, rfl, a, _, rfl, .inr (SqT.of ha), rfl, _, rfl, ?_⟩
            refine ite2 (fun y => by cases y) (fun _ => ?_)
            obtain ⟨d1, d2, d3⟩ := hd_dp (K := K) h x hx
            refine ⟨_, rfl, a, _, _, _, rfl, rfl, SqT.of ha, atI_nat (j := 0) rfl, hdat h, .str "to", d1, .str _, shaped_of d2 (by omega), by decide +kernel, _, rfl, ?_⟩
            rw [hd_eqv]
            have go : (h.isW "to" || h.isW "both") = true → tRet (tAndV (tCall (spLis n) [] E0 (tCons (tOp (rIxT K) (tVar 0) (tC (V.int 1))) (tCons (tOp (rI0 fun i j => V.int (i - j)) (tVar 1) (tC (V.int 1))) tNil))) (tCall (spLis n) [] E0 (tCons (tOp (rIxT K) (tVar 0) (tC (V.int 2))) (tCons (tOp (rI0 fun i j => V.int (i - j)) (tVar 1) (tC (V.int 1))) tNil)))) { nx := fun _ H' => Q .non H', rt := Q } (start ["_law_thing", "_law_room", "_law_sign"] [V.ref a, V.int (((r + 1 : Nat) : Int) - 1)]) H := fun hw => by
              rw [hw, Bool.true_and] at eg
              refine ⟨_, rfl, a, _, _, _, rfl, rfl, SqT.of ha, atI_nat (j := 1) rfl, _, rfl, _, _, rfl, rfl, y, b, r, ?_, hb, by omega, fun H1 s1 => ⟨b.gd r, rfl, ?_⟩⟩
              · rw [← er]
                rfl
              cases hg : b.gd r with
              | false =>
                refine iteF ?_
                have q := k H1 s1
                rw [eg, hg] at q
                exact q
              | true =>
                refine iteT ?_
                refine ⟨_, rfl, a, _, _, _, rfl, rfl, SqT.of (s1 _ _ ha), atI_nat (j := 2) rfl, _, rfl, _, _, rfl, rfl, z, c, r, ?_, th_same s1 hc, by omega, fun H2 s2 => ?_⟩
                · rw [← er]
                  rfl
                have q := k H2 (Same.trans s1 s2)
                rw [eg, hg, Bool.true_and] at q
                exact q
            cases hw : h.isW "to" with
            | true =>
              refine iteF ?_
              exact go (by rw [hw]; rfl)
            | false =>
              refine iteT ?_
              refine ⟨_, rfl, a, _, _, _, rfl, rfl, SqT.of ha, atI_nat (j := 0) rfl, hdat h, .str "both", d1, .str _, shaped_of d2 (by omega), by decide +kernel, _, rfl, ?_⟩
              rw [hd_eqv]
              cases hw2 : h.isW "both" with
              | true =>
                refine iteF ?_
                exact go (by rw [hw2, Bool.or_true])
              | false =>
                refine iteT ?_
                exact no (by rw [form_w3, hw, hw2]; rfl)
          | _ => cases hT
end
abbrev sLlv : Stmt := top 19
def tdat : Th → PyData
  | .t1 h => .tuple [hdat h]
  | .t2 h (.atom (.str z)) => .tuple [hdat h, .str z]
  | .t3 h b c => .tuple [hdat h, tdat b, tdat c]
  | _ => .none
theorem td_dp {K : PySem.W.Frag} {H : Hp} : ∀ (t : Th) (r : Nat) (v : V), ThAt H t v → t.gd r = true → Dp K H v (tdat t) ∧ (tdat t).canLay0 = true ∧ (tdat t).depth ≤ r + 2
  | t, 0, _, _, e => by
    have e' : t.gd 0 = false := by unfold Th.gd; rfl
    rw [e'] at e
    cases e
  | .t1 h, r + 1, _, ⟨a, x, e1, ha, hx⟩, _ => by
    obtain ⟨d1, d2, d3⟩ := hd_dp (K := K) h x hx
    refine ⟨by rw [e1]; exact .tup (SqT.of ha) (.cons d1 .nil), ?_, ?_⟩
    · simp only [tdat, PyData.canLay0, PyData.canLayAll0, d2]
      rfl
    · simp only [tdat, PyData.depth, PyData.depthAll]
      omega
  | .t2 h b, r + 1, _, ⟨a, x, y, e1, ha, hx, hb⟩, e => by
    obtain ⟨d1, d2, d3⟩ := hd_dp (K := K) h x hx
    have eg : (Th.t2 h b).gd (r + 1) = (h.isW "mark" && b.markT) := by unfold Th.gd; exact form_w2 h b
    rw [eg] at e
    have hm := (Bool.and_eq_true_iff.mp e).2
    obtain ⟨z, rfl⟩ : ∃ z, b = .atom (.str z) := by
      cases b with
      | atom u => cases u <;> first | exact ⟨_, rfl⟩ | cases hm
      | _ => cases hm
    obtain ⟨rfl, _, hz⟩ := hb
    have kz := sok_lay (hz z rfl).2
    refine ⟨by rw [e1]; exact .tup (SqT.of ha) (.cons d1 (.cons (.str _) .nil)), ?_, ?_⟩
    · simp only [PyData.canLay0] at kz
      simp only [tdat, PyData.canLay0, PyData.canLayAll0, d2, kz]
      rfl
    · simp only [tdat, PyData.depth, PyData.depthAll]
      omega
  | .t3 h b c, r + 1, _, ⟨a, x, y, z, e1, ha, hx, hb, hc⟩, e => by
    obtain ⟨d1, d2, d3⟩ := hd_dp (K := K) h x hx
    have e' : ((Th.t3 h b c).form && (b.gd r && c.gd r)) = true := e
    obtain ⟨gb, gc⟩ := Bool.and_eq_true_iff.mp (Bool.and_eq_true_iff.mp e').2
    obtain ⟨b1, b2, b3⟩ := td_dp b r y hb gb
    obtain ⟨c1, c2, c3⟩ := td_dp c r z hc gc
    refine ⟨by rw [e1]; exact .tup (SqT.of ha) (.cons d1 (.cons b1 (.cons c1 .nil))), ?_, ?_⟩
    · simp only [tdat, PyData.canLay0, PyData.canLayAll0, d2, b2, c2]
      rfl
    · simp only [tdat, PyData.depth, PyData.depthAll]
      omega
  | .atom _, r + 1, _, _, e => by unfold Th.gd at e; cases e
  | .lst, r + 1, _, _, e => by unfold Th.gd at e; cases e
  | .dct, r + 1, _, _, e => by unfold Th.gd at e; cases e
  | .t0, r + 1, _, _, e => by unfold Th.gd at e; cases e
  | .t4 h, r + 1, _, _, e => by unfold Th.gd at e; cases h <;> cases e
/-- good within 13 -/
def Good (t : Th) : Prop := ∃ r, r ≤ 13 ∧ t.gd r = true
theorem tds {K : PySem.W.Frag} {H : Hp} : ∀ {ks : List Th} {vs : List V}, All2 (ThAt H) ks vs → (∀ t ∈ ks, Good t) → DpAll K H vs (ks.map tdat) ∧ PyData.canLayAll0 (ks.map tdat) = true ∧ PyData.depthAll (ks.map tdat) ≤ 15
  | [], [], _, _ => ⟨.nil, by simp only [List.map_nil, PyData.canLayAll0], by simp only [List.map_nil, PyData.depthAll]; omega⟩
  | t :: r, _ :: _, ⟨h, q⟩, g => by
    obtain ⟨i1, i2, i3⟩ := tds (K := K) q fun u hu => g u (List.mem_cons_of_mem _ hu)
    obtain ⟨n, hn, hg⟩ := g t List.mem_cons_self
    obtain ⟨d1, d2, d3⟩ := td_dp (K := K) t n _ h hg
    refine ⟨.cons d1 i1, ?_, ?_⟩
    · simp only [List.map_cons, PyData.canLayAll0, d2, i2]
      rfl
    · simp only [List.map_cons, PyData.depthAll]
      omega
  | [], _ :: _, h, _ => h.elim
  | _ :: _, [], h, _ => h.elim
def lT : List Th → Nat
  | [] => 0
  | t :: r => t.lv + lT r
def zT : List Th → Nat
  | [] => 0
  | t :: r => t.sz + zT r
theorem lT_app : ∀ a b : List Th, lT (a ++ b) = lT a + lT b
  | [], b => (Nat.zero_add _).symm
  | t :: a, b => by
    show t.lv + lT (a ++ b) = t.lv + lT a + lT b
    rw [lT_app a b]
    omega
theorem zT_app : ∀ a b : List Th, zT (a ++ b) = zT a + zT b
  | [], b => (Nat.zero_add _).symm
  | t :: a, b => by
    show t.sz + zT (a ++ b) = t.sz + zT a + zT b
    rw [zT_app a b]
    omega
theorem zT_len : ∀ a : List Th, a.length ≤ zT a
  | [] => Nat.le_refl _
  | t :: a => by
    have h := zT_len a
    have p := t.sz_pos
    show a.length + 1 ≤ t.sz + zT a
    omega
def spLlv : Sp := fun vs H Q _ => ∃ (v : V) (t : Th), vs = [v] ∧ ThAt H t v ∧ Good t ∧ t.sz ≤ 500 ∧ ∀ H', Same H H' → Q (.int (t.lv : Int)) H'
section
variable {P : Program} {w : World} {K : PySem.W.Frag} {mg : Str → Option Value} {base : Heap}
theorem scLlv : FnScope ["_law_kind", "_law_row", "_law_many", "_law_one"] ["_law_kind"] (defScope sLlv) := ⟨rfl, rfl, rfl, by decide +kernel, rfl, by decide +kernel, by decide +kernel⟩
theorem ok_llv {f : Addr} {fd : FuncData} (F : Fun K "_law_leaves" "_law_leaves" sLlv f fd) (mLen : mg "len" = none) : FnOk P w K mg base CX0 1 f fd ["_law_kind"] spLlv := by
  refine F.ok scLlv (fun vs H Q E h => ?_) (fun cdv A outer s H vs Q E hr h => ?_)
  · obtain ⟨v, t, rfl, _⟩ := h
    rfl
  · obtain ⟨v, t, rfl, hv, hg, hz, k⟩ := h
    refine ⟨_, pss_cons (ps_set (i := 1) scLlv.nd rfl (Or.inl rfl) (pe_lst (pa_cons (pv 0) pa_nil)))
      (pss_cons (ps_set (i := 2) scLlv.nd rfl (Or.inl rfl) pe_int)
      (pss_cons (ps_while PassesOwn.never (pt_cmpR (op_neD hr.units) (pv 1) (pe_lst pa_nil) (nomark _))
        (pss_cons (ps_set (i := 3) scLlv.nd rfl (Or.inl rfl) (pe_bm0 PySem.F.plainAttrs_list PySem.F.slot_list_pop PySem.F.type_list_pop mt_pop (pv 1)))
        (pss_one (ps_if (pt_cmpR op_eq (pe_callB call_len_seq (by rfl) mLen PySem.boot_len (pa_cons (pv 3) pa_nil)) pe_int (nomark _))
          (pss_one (ps_expr (pe_bm PySem.F.plainAttrs_list PySem.F.slot_list_extend PySem.F.type_list_extend mt_extend (pv 1) (pa_cons (pe_lst (pa_cons (pe_ix ix_tup (pv 3) pe_int (fun _ _ => rfl)) (pa_cons (pe_ix ix_tup (pv 3) pe_int (fun _ _ => rfl)) pa_nil))) pa_nil))))
          (pss_one (ps_set (i := 2) scLlv.nd rfl (Or.inl rfl) (pe_op op_add (pv 2) pe_int)))))))
      (pss_one (ps_ret (pv 2))))), ?_⟩
    refine ⟨_, rfl, by show 1 ≤ sizeLine; decide, fun T hT => ?_⟩
    refine ⟨fun m σ H2 => ∃ (ks : List Th) (vs : List V) (i3 : Option V) (n : Nat), σ = [some v, some (.ref T), some (.int (n : Int)), i3] ∧ H2 T = some (.lst vs) ∧ All2 (ThAt H) ks vs ∧ Same H H2 ∧ (∀ t ∈ ks, Good t) ∧ n + lT ks = t.lv ∧ m = zT ks ∧ zT ks ≤ 500,
      ⟨t.sz, [t], [v], none, 0, rfl, upd_same, ⟨hv, trivial⟩, same_new hT, fun u hu => (by rw [List.mem_singleton.mp hu]; exact hg), by show 0 + (t.lv + 0) = _; omega, by show t.sz = t.sz + 0; omega, by show t.sz + 0 ≤ _; omega⟩, ?_⟩
    rintro m σ H2 ⟨ks, vs, i3, n, rfl, hvs, hA, hS, hG, hn, hm, hq⟩
    refine ⟨_, rfl, by show 0 ≤ sizeLine; decide, fun l hl => ?_⟩
    have s1 := same_new (o := .lst []) hl
    have hS3 := Same.trans hS s1
    have fl : (upd H2 l (.lst [])) l = some (.lst []) := upd_same
    have hv3 := s1 _ _ hvs
    generalize upd H2 l (.lst []) = H3 at *
    obtain ⟨d1, d2, d3⟩ := tds (K := K) (hA.mono fun t v h => th_same hS3 h) hG
    refine ⟨.list (ks.map tdat), .list [], .lst (SqL.of hv3) d1, .lst (SqL.of fl) .nil, shaped_of (by simp only [PyData.canLay0, d2]) (by simp only [PyData.depth]; omega), by decide +kernel, _, rfl, ?_⟩
    rw [eqv_nil, List.isEmpty_map]
    by_cases he : vs = []
    · subst he
      obtain rfl : ks = [] := List.eq_nil_of_length_eq_zero hA.len
      refine iteF ?_
      have hn' : n + 0 = t.lv := hn
      obtain rfl : n = t.lv := by omega
      exact ⟨_, rfl, k H3 hS3⟩
    · obtain ⟨ls, tx, y, rfl, ev, hl2, hr2, hy⟩ := hA.last he
      have e1 : (!(ls ++ [tx]).isEmpty) = true := by cases ls <;> rfl
      rw [e1]
      refine iteT ?_
      rw [lT_app] at hn
      rw [zT_app] at hm hq
      change n + (lT ls + (tx.lv + 0)) = _ at hn
      change m = zT ls + (tx.sz + 0) at hm
      change zT ls + (tx.sz + 0) ≤ 500 at hq
      have zp := tx.sz_pos
      have zl := zT_len ls
      have zv := hl2.len
      have hGx := hG tx (by simp)
      have hGl : ∀ u ∈ ls, Good u := fun u hu => hG u (List.mem_append_left _ hu)
      refine ⟨_, fun _ _ z => z, ?_⟩
      refine ⟨_, rfl, .inl ⟨rfl, _, .inl (.inl hv3)⟩, T, vs, y, rfl, rfl, hv3, hy, ?_⟩
      have hT4 : (upd H3 T (.lst vs.dropLast)) T = some (.lst vs.dropLast) := upd_same
      have hS4 : Same H (upd H3 T (.lst vs.dropLast)) := same_over hS3 hT
      generalize upd H3 T (.lst vs.dropLast) = H4 at *
      cases tx with
      | t3 h b c =>
        obtain ⟨a, x, y1, y2, rfl, ha, hx, hb, hc⟩ := hr2
        have ha4 := hS4 _ _ ha
        refine ⟨_, rfl, a, _, rfl, .inr (SqT.of ha4), rfl, _, rfl, ?_⟩
        refine ite2 (fun _ => ?_) (fun y => absurd (by show decide (V.int ((3 : Nat) : Int) = V.int 3) = true; decide +kernel) y)
        refine ⟨_, rfl, .inl ⟨rfl, _, .inl (.inl hT4)⟩, _, rfl, a, _, _, _, rfl, rfl, SqT.of ha4, atI_nat (j := 1) rfl, _, rfl, a, _, _, _, rfl, rfl, SqT.of ha4, atI_nat (j := 2) rfl, by show 2 ≤ sizeLine; decide, fun lb hlb => ?_⟩
        have s5 := same_new (o := .lst [y1, y2]) hlb
        have f5 : (upd H4 lb (.lst [y1, y2])) lb = some (.lst [y1, y2]) := upd_same
        have zz : (Th.t3 h b c).sz = b.sz + c.sz + 1 := rfl
        have ll : (Th.t3 h b c).lv = b.lv + c.lv := rfl
        refine ⟨T, lb, _, _, rfl, rfl, s5 _ _ hT4, f5, by show _ + 2 ≤ sizeLine; exact small40 (by omega), ?_⟩
        have good : Good b ∧ Good c := by
          obtain ⟨r, hr, hgr⟩ := hGx
          cases r with
          | zero =>
            have e' : (Th.t3 h b c).gd 0 = false := by unfold Th.gd; rfl
            rw [e'] at hgr
            cases hgr
          | succ r =>
            have e' : ((Th.t3 h b c).form && (b.gd r && c.gd r)) = true := hgr
            obtain ⟨gb, gc⟩ := Bool.and_eq_true_iff.mp (Bool.and_eq_true_iff.mp e').2
            exact ⟨⟨r, by omega, gb⟩, ⟨r, by omega, gc⟩⟩
        refine ⟨m - 1, by omega, ls ++ [b, c], _, _, n, rfl, upd_same, hl2.app ⟨hb, hc, trivial⟩, same_over (Same.trans hS4 s5) hT, ?_, ?_, ?_, ?_⟩
        · intro u hu
          rcases List.mem_append.mp hu with hu | hu
          · exact hGl u hu
          · simp only [List.mem_cons, List.not_mem_nil, or_false] at hu
            rcases hu with rfl | rfl
            · exact good.1
            · exact good.2
        · rw [lT_app]
          show n + (lT ls + (b.lv + (c.lv + 0))) = _
          omega
        · rw [zT_app]
          show m - 1 = zT ls + (b.sz + (c.sz + 0))
          omega
        · rw [zT_app]
          show zT ls + (b.sz + (c.sz + 0)) ≤ _
          omega
      | t1 h =>
        obtain ⟨a, x, rfl, ha, hx⟩ := hr2
        refine ⟨_, rfl, a, _, rfl, .inr (SqT.of (hS4 _ _ ha)), rfl, _, rfl, ?_⟩
        refine ite2 (fun y => by cases y) (fun _ => ?_)
        refine ⟨_, rfl, _, _, rfl, rfl, ?_⟩
        change n + (lT ls + (1 + 0)) = _ at hn
        change m = zT ls + (1 + 0) at hm
        exact ⟨m - 1, by omega, ls, _, _, n + 1, rfl, hT4, hl2, hS4, hGl, by omega, by omega, by omega⟩
      | t2 h b =>
        obtain ⟨a, x, y1, rfl, ha, hx, hb⟩ := hr2
        refine ⟨_, rfl, a, _, rfl, .inr (SqT.of (hS4 _ _ ha)), rfl, _, rfl, ?_⟩
        refine ite2 (fun y => by cases y) (fun _ => ?_)
        refine ⟨_, rfl, _, _, rfl, rfl, ?_⟩
        change n + (lT ls + (1 + 0)) = _ at hn
        change m = zT ls + (1 + 0) at hm
        exact ⟨m - 1, by omega, ls, _, _, n + 1, rfl, hT4, hl2, hS4, hGl, by omega, by omega, by omega⟩
      | t4 h =>
        obtain ⟨r, _, hgr⟩ := hGx
        rw [gd_small _ r (by cases h <;> rfl)] at hgr
        cases hgr
      | _ =>
        obtain ⟨r, _, hgr⟩ := hGx
        rw [gd_small _ r rfl] at hgr
        cases hgr
end
abbrev sLaw : Stmt := top 20
def spLaw (K : PySem.W.Frag) (P1 : Addr) : Sp := fun vs H Q _ => ∃ (a : Addr) (ns : List Int), vs = [.ref a] ∧ SqL K H a (ns.map V.int) ∧ ns.length ≤ 63 ∧ TabG H P1 ∧ ∀ H', Q (.bl true) H'
theorem seq_ev {K : PySem.W.Frag} {P1 a : Addr} {xs : List V} {H H' : Hp} (e : Ev P1 H H') (h : SqL K H a xs) : SqL K H' a xs := by
  rcases h with (h | ⟨o, h⟩) | h
  · exact .inl (.inl (e.2 _ _ (fun _ z => by cases z) h))
  · exact .inl (.inr ⟨o, e.2 _ _ (fun _ z => by cases z) h⟩)
  · exact .inr h
theorem pair_at {α : Type} {x y : α} {r : Int} (h0 : 0 ≤ r) (h1 : r < 2) : ∃ v, atI [x, y] r = some v ∧ (v = x ∨ v = y) := by
  obtain ⟨v, hv, hm⟩ := at_any (xs := [x, y]) h0 h1
  exact ⟨v, hv, by simpa using hm⟩
section
variable {P : Program} {w : World} {K : PySem.W.Frag} {mg : Str → Option Value} {base : Heap}
theorem scLaw : FnScope ["_law_script", "_law_k", "_law_pool_here", "_law_marks", "_law_leaves_here", "_law_thing", "_law_due", "_law_found"] ["_law_script"] (defScope sLaw) := ⟨rfl, rfl, rfl, by decide +kernel, rfl, by decide +kernel, by decide +kernel⟩
theorem ok_law {f f1 f2 f3 f4 f5 f6 f7 f8 f9 f10 f11 f12 c12 L P1 : Addr} {fd fd1 fd2 fd3 fd4 fd5 fd6 fd7 fd8 fd9 fd10 fd11 fd12 : FuncData} {u1 u2 u3 u4 : Tok} {es : Array DictEntry} {nn : Nat} (F : Fun K "law" "law" sLaw f fd)
    (FP : Fun K "_law_pool" "_law_pool" sPool f1 fd1) (bP : Binds K fd1 ["_law_script", "_law_k"] []) (gP : mg "_law_pool" = some (.ref f1))
    (FT : Fun K "_law_take" "_law_take" sTake f2 fd2) (bT : Binds K fd2 ["_law_pool_here", "_law_many"] []) (gT : mg "_law_take" = some (.ref f2))
    (FE : Fun K "_law_even" "_law_even" sEven f3 fd3) (bE : Binds K fd3 ["_law_pool_here", "_law_leaves_here", "_law_marks"] []) (gE : mg "_law_even" = some (.ref f3))
    (FC : Fun K "_law_chain" "_law_chain" sChain f4 fd4) (bC : Binds K fd4 ["_law_pool_here", "_law_leaves_here", "_law_far", "_law_marks"] []) (gC : mg "_law_chain" = some (.ref f4))
    (FO : Fun K "_law_odd" "_law_odd" sOdd f5 fd5) (bO : Binds K fd5 ["_law_pool_here", "_law_marks"] []) (gO : mg "_law_odd" = some (.ref f5))
    (FU : Fun K "_law_put" "_law_put" sPut f6 fd6) (bU : Binds K fd6 ["_law_pool_here", "_law_kind", "_law_thing"] []) (gU : mg "_law_put" = some (.ref f6))
    (FL : Fun K "_law_is" "_law_is" sLis f7 fd7) (bL : Binds K fd7 ["_law_thing", "_law_room"] []) (gL : mg "_law_is" = some (.ref f7))
    (FV : Fun K "_law_leaves" "_law_leaves" sLlv f8 fd8) (bV : Binds K fd8 ["_law_kind"] []) (gV : mg "_law_leaves" = some (.ref f8))
    (FK : Fun K "is_kind" "is_kind" sIsK f9 fd9) (bK : Binds K fd9 ["thing"] []) (gK : mg "is_kind" = some (.ref f9))
    (FF : Fun K "has_form" "has_form" sForm f10 fd10) (bF : Binds K fd10 ["thing"] []) (gF : mg "has_form" = some (.ref f10))
    (FI : Fun K "kinds_in" "kinds_in" sKin f11 fd11) (bI : Binds K fd11 ["kind"] []) (gI : mg "kinds_in" = some (.ref f11))
    (FM : FunC K "is_mark" "is_mark" sMark f12 fd12 c12) (bM : Binds K fd12 ["text"] []) (gM : mg "is_mark" = some (.ref f12)) (TB : TabB base mg c12 P1)
    (D : KDict K w L es nn) (gD : mg "LENGTHS" = some (.ref L)) (hLen : ∀ z : Str, ∃ r, PySem.W.nsIn K L z = some r ∧ RelV (lenV z) (r.getD .none))
    (y0 : mg "LETTERS" = some (.str "abcdefghijklmnopqrstuvwxyz" u1)) (y1 : mg "LONGEST" = some (.int 6 u2)) (y2 : mg "MOST_LEAVES" = some (.int 24 u3)) (y3 : mg "DEEPEST" = some (.int 12 u4))
    (mLen : mg "len" = none) (mMax : mg "max" = none) (mMin : mg "min" = none) (mRange : mg "range" = none) (mList : mg "list" = none) (mIs : mg "isinstance" = none) (mBool : mg "bool" = none) (mTuple : mg "tuple" = none) (mStr : mg "str" = none) (mAll : mg "all" = none) :
    FnOk P w K mg base CX0 64 f fd ["_law_script"] (spLaw K P1) := by
  have GP : FnOk P w K mg base CX0 1 f1 fd1 ["_law_script", "_law_k"] (spPool K) := ok_pool FP mLen
  have GT : FnOk P w K mg base CX0 1 f2 fd2 ["_law_pool_here", "_law_many"] spTake := ok_take FT
  have GC : FnOk P w K mg base CX0 29 f4 fd4 ["_law_pool_here", "_law_leaves_here", "_law_far", "_law_marks"] spChain := ok_chain FC FE bE gE FT bT gT mLen mRange
  have GO : FnOk P w K mg base CX0 2 f5 fd5 ["_law_pool_here", "_law_marks"] spOdd := ok_odd FO FT bT gT mLen
  have GU : FnOk P w K mg base CX0 62 f6 fd6 ["_law_pool_here", "_law_kind", "_law_thing"] (spPut 60) := ok_put FU bU gU FT bT gT mLen 60
  have GL : FnOk P w K mg base CX0 15 f7 fd7 ["_law_thing", "_law_room"] (spLis 14) := ok_lis FL bL gL mLen mIs mStr mTuple 14
  have GV : FnOk P w K mg base CX0 1 f8 fd8 ["_law_kind"] spLlv := ok_llv FV mLen
  have GM : FnOk P w K mg base CX0 1 f12 fd12 ["text"] (spMark P1) := ok_mark FM TB mIs mStr mLen mAll y0 y1
  have GF : FnOk P w K mg base CX0 2 f10 fd10 ["thing"] (spForm P1) := ok_form FF GM FM.kp bM gM D gD hLen mIs mStr mLen mTuple
  have GI : FnOk P w K mg base CX0 1 f11 fd11 ["kind"] (spKin P1) := ok_kin FI mList
  have GK : FnOk P w K mg base CX0 3 f9 fd9 ["thing"] (spIsK P1) := ok_isK FK GF FF.kp bF gF GI FI.kp bI gI y3 y2
  refine F.ok scLaw (fun vs H Q E h => ?_) (fun cdv A outer s H vs Q E hr h => ?_)
  · obtain ⟨a, ns, rfl, _⟩ := h
    rfl
  · obtain ⟨a, ns, rfl, hS, hl, ht, k⟩ := h
    have hr1 : Room 1 _ := hr.mono (by omega)
    have hr2 : Room 2 _ := hr.mono (by omega)
    have hr3 : Room 3 _ := hr.mono (by omega)
    have hr15 : Room 15 _ := hr.mono (by omega)
    have hr29 : Room 29 _ := hr.mono (by omega)
    have hr62 : Room 62 _ := hr.mono (by omega)
    refine ⟨_, pss_cons (ps_for PassesOwn.never rfl (pi_range1 (by rfl) mRange (pa_cons (pe_callB (call_max2 (by rfl)) (by rfl) mMax (by decide +kernel) (pa_cons pe_int (pa_cons (pe_callB (call_min2 (by rfl)) (by rfl) mMin (by decide +kernel) (pa_cons (pe_callB call_len_seq (by rfl) mLen PySem.boot_len (pa_cons (pv 0) pa_nil)) (pa_cons pe_int pa_nil))) pa_nil))) pa_nil)) (pg_name (i := 1) scLaw.nd rfl (Or.inl rfl))
        (pss_cons (ps_set (i := 2) scLaw.nd rfl (Or.inl rfl) (pe_call GP hr1 (by rfl) gP FP.kp bP .nil pass0 (pa_cons (pv 0) (pa_cons (pv 1) pa_nil))))
        (pss_cons (ps_set (i := 3) scLaw.nd rfl (Or.inl rfl) (pe_ix ix_list (pe_lst (pa_cons (pe_lst (pa_cons pe_str (pa_cons pe_str (pa_cons pe_str (pa_cons pe_str pa_nil))))) (pa_cons (pe_lst (pa_cons pe_str (pa_cons pe_str pa_nil))) (pa_cons (pe_lst (pa_cons pe_str (pa_cons pe_str pa_nil))) pa_nil))))
            (pe_ix ix_list (pe_lst (pa_cons pe_int (pa_cons pe_int (pa_cons pe_int (pa_cons pe_int (pa_cons pe_int pa_nil)))))) (pe_call GT hr1 (by rfl) gT FT.kp bT .nil pass0 (pa_cons (pv 2) (pa_cons pe_int pa_nil))) (fun _ _ => rfl)) (fun _ _ => rfl)))
        (pss_cons (ps_set (i := 4) scLaw.nd rfl (Or.inl rfl) (pe_ix ix_list (pe_lst (pa_cons (pe_op op_add pe_int (pe_call GT hr1 (by rfl) gT FT.kp bT .nil pass0 (pa_cons (pv 2) (pa_cons pe_int pa_nil)))) (pa_cons (pe_op op_add pe_int (pe_call GT hr1 (by rfl) gT FT.kp bT .nil pass0 (pa_cons (pv 2) (pa_cons pe_int pa_nil)))) pa_nil)))
            (pe_call GT hr1 (by rfl) gT FT.kp bT .nil pass0 (pa_cons (pv 2) (pa_cons pe_int pa_nil))) (fun _ _ => rfl)))
        (pss_cons (ps_set (i := 5) scLaw.nd rfl (Or.inl rfl) (pe_call GC hr29 (by rfl) gC FC.kp bC .nil pass0 (pa_cons (pv 2) (pa_cons (pv 4) (pa_cons (pe_callB (call_min2 (by rfl)) (by rfl) mMin (by decide +kernel) (pa_cons (pe_op op_sub (pv 4) pe_int) (pa_cons (pe_call GT hr1 (by rfl) gT FT.kp bT .nil pass0 (pa_cons (pv 2) (pa_cons pe_int pa_nil))) pa_nil))) (pa_cons (pv 3) pa_nil))))))
        (pss_cons (ps_if (pt_cmpR op_gt (pe_call GT hr1 (by rfl) gT FT.kp bT .nil pass0 (pa_cons (pv 2) (pa_cons pe_int pa_nil))) pe_int (nomark _))
          (pss_one (ps_set (i := 5) scLaw.nd rfl (Or.inl rfl) (pe_call GU hr62 (by rfl) gU FU.kp bU .nil pass0 (pa_cons (pv 2) (pa_cons (pv 5) (pa_cons (pe_call GO hr2 (by rfl) gO FO.kp bO .nil pass0 (pa_cons (pv 2) (pa_cons (pv 3) pa_nil))) pa_nil)))))) pss_nil)
        (pss_cons (ps_set (i := 6) scLaw.nd rfl (Or.inl rfl) (pe_call GL hr15 (by rfl) gL FL.kp bL .nil pass0 (pa_cons (pv 5) (pa_cons pe_int pa_nil))))
        (pss_cons (ps_if (pt_val (pv 6)) (pss_one (ps_set (i := 6) scLaw.nd rfl (Or.inl rfl) (pe_cmpR op_le (pe_call GV hr1 (by rfl) gV FV.kp bV .nil pass0 (pa_cons (pv 5) pa_nil)) pe_int (nomark _)))) pss_nil)
        (pss_cons (ps_set (i := 7) scLaw.nd rfl (Or.inl rfl) (pe_call GK hr3 (by rfl) gK FK.kp bK .nil pass0 (pa_cons (pv 5) pa_nil)))
        (pss_one (ps_if (PW.pt (pw_or (pt_not (pt_val (pe_callB (isi_at (K := K) rfl) (by rfl) mIs boot_isi (pa_cons (pv 7) (pa_cons (pe_bltn (v := .ty "bool") (by rfl) mBool boot_boolT rfl) pa_nil))))) (pw_or1 (pt_cmpR op_ne (pv 7) (pv 6) (nomark _))))) (pss_one (ps_ret pe_bl)) pss_nil)))))))))))
      (pss_one (ps_ret pe_bl)), ?_⟩
    refine ⟨_, rfl, a, _, rfl, .inl hS, _, _, rfl, _, _, rfl, ?_⟩
    rw [List.length_map]
    obtain ⟨j, hj, hj1, hj2⟩ : ∃ j : Int, (if (if (20 : Int) < (ns.length : Int) then 20 else (ns.length : Int)) > 1 then (if (20 : Int) < (ns.length : Int) then 20 else (ns.length : Int)) else 1) = j ∧ 1 ≤ j ∧ j ≤ 20 := ⟨_, rfl, by split <;> (try split) <;> omega, by split <;> (try split) <;> omega⟩
    rw [hj]
    refine ⟨j, rfl, by omega, by omega, for_range (lo := 0) (n := j.toNat) (fun i σ H2 => ∃ (i1 i2 i3 i4 i5 i6 i7 : Option V), σ = [some (.ref a), i1, i2, i3, i4, i5, i6, i7] ∧ SqL K H2 a (ns.map V.int) ∧ TabG H2 P1) ⟨none, none, none, none, none, none, none, rfl, hS, ht⟩ ?_ ?_⟩
    · rintro i σ H2 hi ⟨i1, i2, i3, i4, i5, i6, i7, rfl, hS2, ht2⟩
      refine ⟨_, rfl, _, rfl, a, ns, i, by rw [Int.zero_add]; rfl, hS2, hl, by omega, fun p H3 hp0 hp e3 => ?_⟩
      have s3 : Same H2 H3 := fun b o e => (e3 b (ne_of_none e hp0)).trans e
      -- the marks
      refine ⟨by show 4 ≤ sizeLine; decide, fun m1 hm1 => ?_⟩
      have sm1 := same_new (o := .lst [V.str "a", V.str "one", V.str "to", V.str "dddddd"]) hm1
      have g1 : (upd H3 m1 (.lst [V.str "a", V.str "one", V.str "to", V.str "dddddd"])) m1 = some (.lst [V.str "a", V.str "one", V.str "to", V.str "dddddd"]) := upd_same
      have hp1 := hp.same sm1
      generalize upd H3 m1 (.lst [V.str "a", V.str "one", V.str "to", V.str "dddddd"]) = J1 at *
      refine ⟨by show 2 ≤ sizeLine; decide, fun m2 hm2 => ?_⟩
      have sm2 := same_new (o := .lst [V.str "mark", V.str "zzzzzzz"]) hm2
      have g2 : (upd J1 m2 (.lst [V.str "mark", V.str "zzzzzzz"])) m2 = some (.lst [V.str "mark", V.str "zzzzzzz"]) := upd_same
      have hp2 := hp1.same sm2
      generalize upd J1 m2 (.lst [V.str "mark", V.str "zzzzzzz"]) = J2 at *
      refine ⟨by show 2 ≤ sizeLine; decide, fun m3 hm3 => ?_⟩
      have sm3 := same_new (o := .lst [V.str "both", V.str "a0"]) hm3
      have g3 : (upd J2 m3 (.lst [V.str "both", V.str "a0"])) m3 = some (.lst [V.str "both", V.str "a0"]) := upd_same
      have hp3 := hp2.same sm3
      generalize upd J2 m3 (.lst [V.str "both", V.str "a0"]) = J3 at *
      refine ⟨by show 3 ≤ sizeLine; decide, fun ml hml => ?_⟩
      have sml := same_new (o := .lst [V.ref m1, V.ref m2, V.ref m3]) hml
      have gl : (upd J3 ml (.lst [V.ref m1, V.ref m2, V.ref m3])) ml = some (.lst [V.ref m1, V.ref m2, V.ref m3]) := upd_same
      have hp4 := hp3.same sml
      generalize upd J3 ml (.lst [V.ref m1, V.ref m2, V.ref m3]) = J4 at *
      refine ⟨by show 5 ≤ sizeLine; decide, fun il hil => ?_⟩
      have nil := hp4.ne hil
      have sil := same_new (o := .lst [V.int 0, V.int 0, V.int 0, V.int 1, V.int 2]) hil
      have s34 := Same.trans sm1 (Same.trans sm2 (Same.trans sm3 sml))
      refine ⟨_, rfl, p, 5, rfl, hp4.upd hil, by decide, by decide, fun r J5 r0 r1 hp5 e5 => ?_⟩
      obtain ⟨iv, hiv, miv⟩ := at_any (xs := [V.int 0, V.int 0, V.int 0, V.int 1, V.int 2]) r0 r1
      obtain ⟨q, rfl, q0, q3⟩ : ∃ q : Int, iv = V.int q ∧ 0 ≤ q ∧ q < 3 := by
        simp only [List.mem_cons, List.not_mem_nil, or_false] at miv
        rcases miv with rfl | rfl | rfl | rfl | rfl
        · exact ⟨_, rfl, by decide, by decide⟩
        · exact ⟨_, rfl, by decide, by decide⟩
        · exact ⟨_, rfl, by decide, by decide⟩
        · exact ⟨_, rfl, by decide, by decide⟩
        · exact ⟨_, rfl, by decide, by decide⟩
      have k45 : Kept p J4 J5 := (kept_same sil).trans (kept_take e5)
      have nml : ml ≠ p := fun z => by
        obtain ⟨c, n, e, _⟩ := hp4
        rw [z, e] at gl
        cases gl
      refine ⟨il, _, _, _, rfl, rfl, SqL.of ((e5 il nil).trans upd_same), hiv, ?_⟩
      obtain ⟨mv, hmv, mmv⟩ := at_any (xs := [V.ref m1, V.ref m2, V.ref m3]) q0 q3
      refine ⟨ml, _, _, mv, rfl, rfl, SqL.of (k45 _ _ nml gl), hmv, ?_⟩
      obtain ⟨M, ms, rfl, hM, l1, l2, hms⟩ : ∃ (M : Addr) (ms : List Str), mv = .ref M ∧ J5 M = some (.lst (ms.map V.str)) ∧ 1 ≤ ms.length ∧ ms.length ≤ 1000 ∧ ∀ m ∈ ms, m.length ≤ 1000 ∧ SOk m := by
        simp only [List.mem_cons, List.not_mem_nil, or_false] at mmv
        have ne : ∀ (b : Addr) (x : Str) (r : List V), J4 b = some (.lst (.str x :: r)) → b ≠ p := fun b x r e z => by
          obtain ⟨c, n, e2, _⟩ := hp4
          rw [z, e2] at e
          cases e
        rcases mmv with rfl | rfl | rfl
        · have g := (Same.trans sm2 (Same.trans sm3 sml)) _ _ g1
          exact ⟨m1, ["a", "one", "to", "dddddd"], rfl, k45 _ _ (ne _ _ _ g) g, by decide, by decide, by unfold SOk; decide +kernel⟩
        · have g := (Same.trans sm3 sml) _ _ g2
          exact ⟨m2, ["mark", "zzzzzzz"], rfl, k45 _ _ (ne _ _ _ g) g, by decide, by decide, by unfold SOk; decide +kernel⟩
        · have g := sml _ _ g3
          exact ⟨m3, ["both", "a0"], rfl, k45 _ _ (ne _ _ _ g) g, by decide, by decide, by unfold SOk; decide +kernel⟩
      -- how many leaves
      refine ⟨_, rfl, p, 6, rfl, hp5, by decide, by decide, fun x1 J6 x10 x11 hp6 e6 => ?_⟩
      refine ⟨_, _, rfl, rfl, _, rfl, p, 4, rfl, hp6, by decide, by decide, fun x2 J7 x20 x21 hp7 e7 => ?_⟩
      refine ⟨_, _, rfl, rfl, by show 2 ≤ sizeLine; decide, fun ll hll => ?_⟩
      have nll := hp7.ne hll
      have sll := same_new (o := .lst [V.int (1 + x1), V.int (23 + x2)]) hll
      refine ⟨_, rfl, p, 2, rfl, hp7.upd hll, by decide, by decide, fun x3 J8 x30 x31 hp8 e8 => ?_⟩
      obtain ⟨lv0, hlv, mlv⟩ := pair_at (x := V.int (1 + x1)) (y := V.int (23 + x2)) x30 x31
      obtain ⟨Lv, rfl, L1, L2⟩ : ∃ Lv : Nat, lv0 = V.int (Lv : Int) ∧ 1 ≤ Lv ∧ Lv ≤ 26 := by
        rcases mlv with rfl | rfl
        · exact ⟨(1 + x1).toNat, by rw [Int.toNat_of_nonneg (by omega)], by omega, by omega⟩
        · exact ⟨(23 + x2).toNat, by rw [Int.toNat_of_nonneg (by omega)], by omega, by omega⟩
      refine ⟨ll, _, _, _, rfl, rfl, SqL.of ((e8 ll nll).trans upd_same), hlv, ?_⟩
      have k58 : Kept p J5 J8 := ((kept_take e6).trans (kept_take e7)).trans ((kept_same sll).trans (kept_take e8))
      have nM : M ≠ p := pool_marks hp5 hM
      have hM8 := k58 _ _ nM hM
      -- the thing
      refine ⟨_, rfl, _, rfl, _, rfl, _, _, rfl, rfl, _, rfl, p, 14, rfl, hp8, by decide, by decide, fun x4 J9 x40 x41 hp9 e9 => ?_⟩
      refine ⟨_, _, rfl, ?_⟩
      obtain ⟨Fr, hF, F1⟩ : ∃ Fr : Nat, (if x4 < (Lv : Int) - 1 then x4 else (Lv : Int) - 1) = (Fr : Int) ∧ Fr + 1 ≤ Lv := by
        split
        · exact ⟨x4.toNat, by rw [Int.toNat_of_nonneg x40], by omega⟩
        · exact ⟨Lv - 1, by omega, by omega⟩
      rw [hF]
      have k89 := kept_take e9
      have hM9 := k89 _ _ nM hM8
      refine ⟨_, rfl, p, M, Lv, Fr, ms, rfl, hp9, F1, L2, hM9, l1, l2, hms, fun v0 t0 J10 h0 z0 kl0 hp10 k10 => ?_⟩
      have hM10 := k10 _ _ nM hM9
      refine ⟨_, rfl, p, 4, rfl, hp10, by decide, by decide, fun x5 J11 x50 x51 hp11 e11 => ?_⟩
      have k11 := kept_take e11
      have h11 := h0.kept k11 hp10 hp11
      have hM11 := k11 _ _ nM hM10
      refine ⟨_, _, rfl, rfl, _, rfl, ?_⟩
      have kAll : Kept p H2 J11 := ((((kept_same (Same.trans s3 s34)).trans k45).trans k58).trans (k89.trans k10)).trans k11
      refine ite2 (fun _ => ?_) (fun _ => ?_)
      · refine ⟨_, rfl, _, rfl, _, rfl, _, rfl, p, M, ms, rfl, hp11, hM11, l1, hms, fun vo to J12 ho zo hp12 k12 => ?_⟩
        refine ⟨p, v0, vo, t0, to, rfl, hp12, h11.kept k12 hp11 hp12, kl0, ho, by omega, fun v t JJ hv hz hp13 k13 => ?_⟩
        have kJ : Kept p H2 JJ := (kAll.trans k12).trans k13
        have tz : t.sz ≤ 500 := by omega
        have sJ : Same H2 JJ := fun b o e => kJ b o (ne_of_none e hp0) e
        have tJ : TabG JJ P1 := tab_same ht2 sJ
        have qJ := sJ.seq hS2
        refine ⟨_, rfl, v, t, 13, rfl, hv, by omega, fun JA sA => ?_⟩
        have finish : ∀ (JB : Hp) (d : Bool), Same JA JB → d = t.isK → tSeq (tAsg (tCall (spIsK P1) [] E0 (tCons (tVar 5) tNil)) (gName 7)) (tIfS (tOr (tNot (tB (tCB (rIsi K) (tCons (tVar 7) (tCons (tC (V.ty "bool")) tNil))))) (tTest (tOp rNe (tVar 7) (tVar 6)))) (tRet (tC (V.bl false))) tNext)
            { nx := fun σ H2 => ∃ (i1 i2 i3 i4 i5 i6 i7 : Option V), σ = [some (.ref a), i1, i2, i3, i4, i5, i6, i7] ∧ SqL K H2 a (ns.map V.int) ∧ TabG H2 P1, rt := Q } [some (.ref a), some (.int (0 + (i : Nat))), some (.ref p), some (.ref M), some (.int (Lv : Int)), some v, some (.bl d), i7] JB := fun JB d sB hd => by
          refine ⟨_, rfl, v, t, rfl, th_same (Same.trans sA sB) hv, by omega, tab_same (tab_same tJ sA) sB, fun JC eC => ?_⟩
          refine ⟨_, rfl, _, _, _, _, true, rfl, .ty "bool", .base (.bl _), kit_ty (by decide +kernel), true, rfl, ?_⟩
          refine iteF ?_
          refine ⟨_, rfl, _, rfl, rfl, _, rfl, ?_⟩
          refine iteNS (by rw [hd]) ?_
          exact ⟨_, _, _, _, _, _, _, rfl, seq_ev eC (sB.seq (sA.seq qJ)), eC.1⟩
        refine ⟨_, rfl, t.gd 13, rfl, ?_⟩
        cases hg : t.gd 13 with
        | true =>
          refine iteT ?_
          refine ⟨_, rfl, v, t, rfl, th_same sA hv, ⟨13, by omega, hg⟩, by omega, fun JB sB => ?_⟩
          refine ⟨_, _, rfl, rfl, ?_⟩
          refine finish JB _ sB ?_
          show decide ((t.lv : Int) ≤ 24) = (t.gd 13 && decide (t.lv ≤ 24))
          rw [hg, Bool.true_and, Bool.eq_iff_iff, decide_eq_true_iff, decide_eq_true_iff]
          omega
        | false =>
          refine iteF ?_
          refine finish JA _ (Same.refl JA) ?_
          show false = (t.gd 13 && decide (t.lv ≤ 24))
          rw [hg, Bool.false_and]
      · have kJ := kAll
        have tz : t0.sz ≤ 500 := by omega
        have hv := h11
        have sJ : Same H2 J11 := fun b o e => kJ b o (ne_of_none e hp0) e
        have tJ : TabG J11 P1 := tab_same ht2 sJ
        have qJ := sJ.seq hS2
        refine ⟨_, rfl, v0, t0, 13, rfl, hv, by omega, fun JA sA => ?_⟩
        have finish : ∀ (JB : Hp) (d : Bool), Same JA JB → d = t0.isK → tSeq (tAsg (tCall (spIsK P1) [] E0 (tCons (tVar 5) tNil)) (gName 7)) (tIfS (tOr (tNot (tB (tCB (rIsi K) (tCons (tVar 7) (tCons (tC (V.ty "bool")) tNil))))) (tTest (tOp rNe (tVar 7) (tVar 6)))) (tRet (tC (V.bl false))) tNext)
            { nx := fun σ H2 => ∃ (i1 i2 i3 i4 i5 i6 i7 : Option V), σ = [some (.ref a), i1, i2, i3, i4, i5, i6, i7] ∧ SqL K H2 a (ns.map V.int) ∧ TabG H2 P1, rt := Q } [some (.ref a), some (.int (0 + (i : Nat))), some (.ref p), some (.ref M), some (.int (Lv : Int)), some v0, some (.bl d), i7] JB := fun JB d sB hd => by
          refine ⟨_, rfl, v0, t0, rfl, th_same (Same.trans sA sB) hv, by omega, tab_same (tab_same tJ sA) sB, fun JC eC => ?_⟩
          refine ⟨_, rfl, _, _, _, _, true, rfl, .ty "bool", .base (.bl _), kit_ty (by decide +kernel), true, rfl, ?_⟩
          refine iteF ?_
          refine ⟨_, rfl, _, rfl, rfl, _, rfl, ?_⟩
          refine iteNS (by rw [hd]) ?_
          exact ⟨_, _, _, _, _, _, _, rfl, seq_ev eC (sB.seq (sA.seq qJ)), eC.1⟩
        refine ⟨_, rfl, t0.gd 13, rfl, ?_⟩
        cases hg : t0.gd 13 with
        | true =>
          refine iteT ?_
          refine ⟨_, rfl, v0, t0, rfl, th_same sA hv, ⟨13, by omega, hg⟩, by omega, fun JB sB => ?_⟩
          refine ⟨_, _, rfl, rfl, ?_⟩
          refine finish JB _ sB ?_
          show decide ((t0.lv : Int) ≤ 24) = (t0.gd 13 && decide (t0.lv ≤ 24))
          rw [hg, Bool.true_and, Bool.eq_iff_iff, decide_eq_true_iff, decide_eq_true_iff]
          omega
        | false =>
          refine iteF ?_
          refine finish JA _ (Same.refl JA) ?_
          show false = (t0.gd 13 && decide (t0.lv ≤ 24))
          rw [hg, Bool.false_and]
    · rintro σ H2 ⟨i1, i2, i3, i4, i5, i6, i7, rfl, _⟩
      exact k H2
end
theorem len_mk {K : PySem.W.Frag} {L : Addr} {h1 h2 h3 h4 : Int} {t1 t2 t3 t4 u1 u2 u3 u4 : Tok} {nn : Nat}
    (lL : K.lookup L = some ⟨.type "dict", none, .dict #[⟨h1, .str "mark" t1, .int 2 u1⟩, ⟨h2, .str "one" t2, .int 1 u2⟩, ⟨h3, .str "to" t3, .int 3 u3⟩, ⟨h4, .str "both" t4, .int 3 u4⟩] nn, #[]⟩) (z : Str) :
    ∃ r, PySem.W.nsIn K L z = some r ∧ RelV (lenV z) (r.getD .none) := by
  unfold PySem.W.nsIn
  rw [lL]
  simp only [List.find?_cons, List.find?_nil, PySem.W.isStr_of, Value.isStrOf]
  unfold lenV lenN
  by_cases e1 : z = "mark"
  · subst e1
    exact ⟨_, rfl, _, rfl⟩
  by_cases e2 : z = "one"
  · subst e2
    exact ⟨_, rfl, _, rfl⟩
  by_cases e3 : z = "to"
  · subst e3
    exact ⟨_, rfl, _, rfl⟩
  by_cases e4 : z = "both"
  · subst e4
    exact ⟨_, rfl, _, rfl⟩
  have n1 : ("mark" == z) = false := by simpa using fun e => e1 e.symm
  have n2 : ("one" == z) = false := by simpa using fun e => e2 e.symm
  have n3 : ("to" == z) = false := by simpa using fun e => e3 e.symm
  have n4 : ("both" == z) = false := by simpa using fun e => e4 e.symm
  refine ⟨none, ?_, ?_⟩
  · simp [e1, e2, e3, e4, n1, n2, n3, n4, DictEntry.refKey]
  · rw [if_neg e1, if_neg e2, if_neg e3, if_neg e4]
    rfl
/-! the end -/
theorem all_mk {l : PySem.W.OpenLaw} {q : Program} {w : World} {K : PySem.W.Frag} {h : Heap} {mg : Str → Option Value} {fa f0 f1 f2 f3 f4 f5 f6 f7 f8 f9 f10 f11 f12 : Addr} (X : K.In h) (G : h.Ns mainGlobals mg) (hfa : mg "law" = some (.ref fa)) (T : Told q mg h)
    {od0 an0 od1 an1 od2 an2 od3 an3 od4 an4 od5 an5 od6 an6 od7 an7 od8 an8 od9 an9 od10 an10 od11 an11 od12 an12 : Option Addr}
    {sl0 sl1 sl2 sl3 sl4 sl5 sl6 sl7 sl8 sl9 sl10 sl11 sl12 : Array (Option Value)} {oc0 kV0 dc0 pm0 ct0 oc1 kV1 dc1 pm1 ct1 oc2 kV2 dc2 pm2 ct2 oc3 kV3 dc3 pm3 ct3 oc4 kV4 dc4 pm4 ct4 oc5 kV5 dc5 pm5 ct5 oc6 kV6 dc6 pm6 ct6 oc7 kV7 dc7 pm7 ct7 oc8 kV8 dc8 pm8 ct8 oc9 kV9 dc9 pm9 ct9 oc10 kV10 dc10 pm10 ct10 oc11 kV11 dc11 pm11 ct11 oc12 kV12 dc12 pm12 ct12 : Value}
    {cd0 cd1 cd2 cd3 cd4 cd5 cd6 cd7 cd8 cd9 cd10 cd11 : Value} {c12 P12 : Addr} {dd12 : Option Addr} {e12 : Value} {v12 : Array Value} {sx12 : Array (Option Value)}
    {u0 u1 u2 u3 : Tok}
    (a0 : PySem.W.nsIn K mainGlobals "law" = some (some (.ref f0)))
    (l0 : K.lookup f0 = some ⟨oc0, od0, .func (PySem.W.fnOf "law" "law" (defArgs sLaw) (defBody sLaw) (defScope sLaw) .none kV0 dc0 pm0 an0 cd0 ct0), sl0⟩)
    (i0 : PySem.W.codeIn K cd0 "law" = true) (k0 : PySem.W.keepIn K (.ref f0) = true)
    (a1 : PySem.W.nsIn K mainGlobals "_law_pool" = some (some (.ref f1)))
    (l1 : K.lookup f1 = some ⟨oc1, od1, .func (PySem.W.fnOf "_law_pool" "_law_pool" (defArgs sPool) (defBody sPool) (defScope sPool) .none kV1 dc1 pm1 an1 cd1 ct1), sl1⟩)
    (i1 : PySem.W.codeIn K cd1 "_law_pool" = true) (k1 : PySem.W.keepIn K (.ref f1) = true)
    (a2 : PySem.W.nsIn K mainGlobals "_law_take" = some (some (.ref f2)))
    (l2 : K.lookup f2 = some ⟨oc2, od2, .func (PySem.W.fnOf "_law_take" "_law_take" (defArgs sTake) (defBody sTake) (defScope sTake) .none kV2 dc2 pm2 an2 cd2 ct2), sl2⟩)
    (i2 : PySem.W.codeIn K cd2 "_law_take" = true) (k2 : PySem.W.keepIn K (.ref f2) = true)
    (a3 : PySem.W.nsIn K mainGlobals "_law_even" = some (some (.ref f3)))
    (l3 : K.lookup f3 = some ⟨oc3, od3, .func (PySem.W.fnOf "_law_even" "_law_even" (defArgs sEven) (defBody sEven) (defScope sEven) .none kV3 dc3 pm3 an3 cd3 ct3), sl3⟩)
    (i3 : PySem.W.codeIn K cd3 "_law_even" = true) (k3 : PySem.W.keepIn K (.ref f3) = true)
    (a4 : PySem.W.nsIn K mainGlobals "_law_chain" = some (some (.ref f4)))
    (l4 : K.lookup f4 = some ⟨oc4, od4, .func (PySem.W.fnOf "_law_chain" "_law_chain" (defArgs sChain) (defBody sChain) (defScope sChain) .none kV4 dc4 pm4 an4 cd4 ct4), sl4⟩)
    (i4 : PySem.W.codeIn K cd4 "_law_chain" = true) (k4 : PySem.W.keepIn K (.ref f4) = true)
    (a5 : PySem.W.nsIn K mainGlobals "_law_odd" = some (some (.ref f5)))
    (l5 : K.lookup f5 = some ⟨oc5, od5, .func (PySem.W.fnOf "_law_odd" "_law_odd" (defArgs sOdd) (defBody sOdd) (defScope sOdd) .none kV5 dc5 pm5 an5 cd5 ct5), sl5⟩)
    (i5 : PySem.W.codeIn K cd5 "_law_odd" = true) (k5 : PySem.W.keepIn K (.ref f5) = true)
    (a6 : PySem.W.nsIn K mainGlobals "_law_put" = some (some (.ref f6)))
    (l6 : K.lookup f6 = some ⟨oc6, od6, .func (PySem.W.fnOf "_law_put" "_law_put" (defArgs sPut) (defBody sPut) (defScope sPut) .none kV6 dc6 pm6 an6 cd6 ct6), sl6⟩)
    (i6 : PySem.W.codeIn K cd6 "_law_put" = true) (k6 : PySem.W.keepIn K (.ref f6) = true)
    (a7 : PySem.W.nsIn K mainGlobals "_law_is" = some (some (.ref f7)))
    (l7 : K.lookup f7 = some ⟨oc7, od7, .func (PySem.W.fnOf "_law_is" "_law_is" (defArgs sLis) (defBody sLis) (defScope sLis) .none kV7 dc7 pm7 an7 cd7 ct7), sl7⟩)
    (i7 : PySem.W.codeIn K cd7 "_law_is" = true) (k7 : PySem.W.keepIn K (.ref f7) = true)
    (a8 : PySem.W.nsIn K mainGlobals "_law_leaves" = some (some (.ref f8)))
    (l8 : K.lookup f8 = some ⟨oc8, od8, .func (PySem.W.fnOf "_law_leaves" "_law_leaves" (defArgs sLlv) (defBody sLlv) (defScope sLlv) .none kV8 dc8 pm8 an8 cd8 ct8), sl8⟩)
    (i8 : PySem.W.codeIn K cd8 "_law_leaves" = true) (k8 : PySem.W.keepIn K (.ref f8) = true)
    (a9 : PySem.W.nsIn K mainGlobals "is_kind" = some (some (.ref f9)))
    (l9 : K.lookup f9 = some ⟨oc9, od9, .func (PySem.W.fnOf "is_kind" "is_kind" (defArgs sIsK) (defBody sIsK) (defScope sIsK) .none kV9 dc9 pm9 an9 cd9 ct9), sl9⟩)
    (i9 : PySem.W.codeIn K cd9 "is_kind" = true) (k9 : PySem.W.keepIn K (.ref f9) = true)
    (a10 : PySem.W.nsIn K mainGlobals "has_form" = some (some (.ref f10)))
    (l10 : K.lookup f10 = some ⟨oc10, od10, .func (PySem.W.fnOf "has_form" "has_form" (defArgs sForm) (defBody sForm) (defScope sForm) .none kV10 dc10 pm10 an10 cd10 ct10), sl10⟩)
    (i10 : PySem.W.codeIn K cd10 "has_form" = true) (k10 : PySem.W.keepIn K (.ref f10) = true)
    (a11 : PySem.W.nsIn K mainGlobals "kinds_in" = some (some (.ref f11)))
    (l11 : K.lookup f11 = some ⟨oc11, od11, .func (PySem.W.fnOf "kinds_in" "kinds_in" (defArgs sKin) (defBody sKin) (defScope sKin) .none kV11 dc11 pm11 an11 cd11 ct11), sl11⟩)
    (i11 : PySem.W.codeIn K cd11 "kinds_in" = true) (k11 : PySem.W.keepIn K (.ref f11) = true)
    (a12 : PySem.W.nsIn K mainGlobals "is_mark" = some (some (.ref f12)))
    (l12 : K.lookup f12 = some ⟨oc12, od12, .func (PySem.W.fnOf "is_mark" "is_mark" (defArgs sMark) (defBody sMark) (defScope sMark) .none kV12 dc12 pm12 an12 (.ref c12) ct12), sl12⟩)
    (i12 : PySem.W.codeIn K (.ref c12) "is_mark" = true) (k12 : PySem.W.keepIn K (.ref f12) = true)
    (r12 : ((PyProof.Rows.recsOf q).any fun e => e.name == ("is_mark" : Str)) = true) (d12 : K.lookup c12 = some ⟨e12, dd12, .fields v12, sx12⟩) (j12 : v12[11]? = some (.ref P12)) (n12 : K.lookup P12 = none)
    (y0 : PySem.W.nsIn K mainGlobals "LETTERS" = some (some (.str "abcdefghijklmnopqrstuvwxyz" u0)))
    (y1 : PySem.W.nsIn K mainGlobals "LONGEST" = some (some (.int 6 u1)))
    (y2 : PySem.W.nsIn K mainGlobals "MOST_LEAVES" = some (some (.int 24 u2)))
    (y3 : PySem.W.nsIn K mainGlobals "DEEPEST" = some (some (.int 12 u3)))
    (z0 : PySem.W.nsIn K mainGlobals "len" = some none)
    (z1 : PySem.W.nsIn K mainGlobals "max" = some none)
    (z2 : PySem.W.nsIn K mainGlobals "min" = some none)
    (z3 : PySem.W.nsIn K mainGlobals "range" = some none)
    (z4 : PySem.W.nsIn K mainGlobals "list" = some none)
    (z5 : PySem.W.nsIn K mainGlobals "isinstance" = some none)
    (z6 : PySem.W.nsIn K mainGlobals "bool" = some none)
    (z7 : PySem.W.nsIn K mainGlobals "tuple" = some none)
    (z8 : PySem.W.nsIn K mainGlobals "str" = some none)
    (z9 : PySem.W.nsIn K mainGlobals "all" = some none)
    {L : Addr} {h1 h2 h3 h4 : Int} {t1 t2 t3 t4 v1 v2 v3 v4 : Tok} {nn : Nat} (aL : PySem.W.nsIn K mainGlobals "LENGTHS" = some (some (.ref L)))
    (lL : K.lookup L = some ⟨.type "dict", none, .dict #[⟨h1, .str "mark" t1, .int 2 v1⟩, ⟨h2, .str "one" t2, .int 1 v2⟩, ⟨h3, .str "to" t3, .int 3 v3⟩, ⟨h4, .str "both" t4, .int 3 v4⟩] nn, #[]⟩) (kL : PySem.W.KeysLit w.params [⟨h1, .str "mark" t1, .int 2 v1⟩, ⟨h2, .str "one" t2, .int 1 v2⟩, ⟨h3, .str "to" t3, .int 3 v3⟩, ⟨h4, .str "both" t4, .int 3 v4⟩]) (sL : (L == sysModules) = false) :
    LamX.LawAtS l w K CX0 64 63 "_law_script" mg fa h := by
  have e := hfa.symm.trans (PySem.W.mg_of X G a0)
  cases e
  have F0 := fun_mk (st := sLaw) l0 i0 k0
  have F1 := fun_mk (st := sPool) l1 i1 k1
  have g1 := PySem.W.mg_of X G a1
  have b1 := (F1).binds (ps := ["_law_script", "_law_k"]) fun _ _ _ _ _ _ us hl => match us, hl with | [_, _], _ => rfl
  have F2 := fun_mk (st := sTake) l2 i2 k2
  have g2 := PySem.W.mg_of X G a2
  have b2 := (F2).binds (ps := ["_law_pool_here", "_law_many"]) fun _ _ _ _ _ _ us hl => match us, hl with | [_, _], _ => rfl
  have F3 := fun_mk (st := sEven) l3 i3 k3
  have g3 := PySem.W.mg_of X G a3
  have b3 := (F3).binds (ps := ["_law_pool_here", "_law_leaves_here", "_law_marks"]) fun _ _ _ _ _ _ us hl => match us, hl with | [_, _, _], _ => rfl
  have F4 := fun_mk (st := sChain) l4 i4 k4
  have g4 := PySem.W.mg_of X G a4
  have b4 := (F4).binds (ps := ["_law_pool_here", "_law_leaves_here", "_law_far", "_law_marks"]) fun _ _ _ _ _ _ us hl => match us, hl with | [_, _, _, _], _ => rfl
  have F5 := fun_mk (st := sOdd) l5 i5 k5
  have g5 := PySem.W.mg_of X G a5
  have b5 := (F5).binds (ps := ["_law_pool_here", "_law_marks"]) fun _ _ _ _ _ _ us hl => match us, hl with | [_, _], _ => rfl
  have F6 := fun_mk (st := sPut) l6 i6 k6
  have g6 := PySem.W.mg_of X G a6
  have b6 := (F6).binds (ps := ["_law_pool_here", "_law_kind", "_law_thing"]) fun _ _ _ _ _ _ us hl => match us, hl with | [_, _, _], _ => rfl
  have F7 := fun_mk (st := sLis) l7 i7 k7
  have g7 := PySem.W.mg_of X G a7
  have b7 := (F7).binds (ps := ["_law_thing", "_law_room"]) fun _ _ _ _ _ _ us hl => match us, hl with | [_, _], _ => rfl
  have F8 := fun_mk (st := sLlv) l8 i8 k8
  have g8 := PySem.W.mg_of X G a8
  have b8 := (F8).binds (ps := ["_law_kind"]) fun _ _ _ _ _ _ us hl => match us, hl with | [_], _ => rfl
  have F9 := fun_mk (st := sIsK) l9 i9 k9
  have g9 := PySem.W.mg_of X G a9
  have b9 := (F9).binds (ps := ["thing"]) fun _ _ _ _ _ _ us hl => match us, hl with | [_], _ => rfl
  have F10 := fun_mk (st := sForm) l10 i10 k10
  have g10 := PySem.W.mg_of X G a10
  have b10 := (F10).binds (ps := ["thing"]) fun _ _ _ _ _ _ us hl => match us, hl with | [_], _ => rfl
  have F11 := fun_mk (st := sKin) l11 i11 k11
  have g11 := PySem.W.mg_of X G a11
  have b11 := (F11).binds (ps := ["kind"]) fun _ _ _ _ _ _ us hl => match us, hl with | [_], _ => rfl
  have F12 : FunC K "is_mark" "is_mark" sMark f12 _ c12 := ⟨⟨_, _, _, _, _, _, _, _, rfl, l12, i12⟩, k12⟩
  have g12 := PySem.W.mg_of X G a12
  have T12 := T.tab X r12 g12 l12 rfl d12 j12
  have b12 := (F12.fun).binds (ps := ["text"]) fun _ _ _ _ _ _ us hl => match us, hl with | [_], _ => rfl
  have x0 := PySem.W.mg_of X G y0
  have x1 := PySem.W.mg_of X G y1
  have x2 := PySem.W.mg_of X G y2
  have x3 := PySem.W.mg_of X G y3
  have m0 := PySem.W.mg_none_of X G z0
  have m1 := PySem.W.mg_none_of X G z1
  have m2 := PySem.W.mg_none_of X G z2
  have m3 := PySem.W.mg_none_of X G z3
  have m4 := PySem.W.mg_none_of X G z4
  have m5 := PySem.W.mg_none_of X G z5
  have m6 := PySem.W.mg_none_of X G z6
  have m7 := PySem.W.mg_none_of X G z7
  have m8 := PySem.W.mg_none_of X G z8
  have m9 := PySem.W.mg_none_of X G z9
  have xL := PySem.W.mg_of X G aL
  refine ⟨PySem.W.fnOf "law" "law" (defArgs sLaw) (defBody sLaw) (defScope sLaw) .none kV0 dc0 pm0 an0 cd0 ct0, [(c12, P12)], spLaw K P12, ?_, ?_, ?_, fun s v => .of_eq rfl, fun H a ns hl _ hT hS => ⟨a, ns, rfl, hS, hl, ⟨#[], hT (c12, P12) (by simp), by trivial⟩, fun _ => rfl⟩, fun base _ _ hB => ok_law F0 F1 b1 g1 F2 b2 g2 F3 b3 g3 F4 b4 g4 F5 b5 g5 F6 b6 g6 F7 b7 g7 F8 b8 g8 F9 b9 g9 F10 b10 g10 F11 b11 g11 F12 b12 g12 (tb_conv (hB (c12, P12) (by simp))) ⟨lL, kL, sL⟩ xL (len_mk lL) x0 x1 x2 x3 m0 m1 m2 m3 m4 m5 m6 m7 m8 m9⟩
  · exact fun p hp => by
      obtain rfl := List.mem_singleton.mp hp
      exact T12.2
  · exact fun p hp => by
      obtain rfl := List.mem_singleton.mp hp
      exact n12
  · exact fun p hp => by
      obtain rfl := List.mem_singleton.mp hp
      exact T12.1
end Kf
open PySem PySem.W PyProof.Rows
set_option maxRecDepth 100000 in
set_option maxHeartbeats 0 in
theorem PySem.Challenge.cw_kindfill_k02_is_kind_holds : PySem.Challenge.rw_kindfill_k02_is_kind.Holds := by
  w_on; o_law; k_head; (case hw => w_witness2)
  k_fill
  refine Kf.walk_tabs (l := PySem.Challenge.rw_kindfill_k02_is_kind) (n := 63) (k := 64) (CX := fun _ => L2.CX0) (x := "_law_script") rfl (by decide) rfl ⟨rfl, by decide, by decide⟩ (fun w h Y => PySem.W.kIn_of Y) ?F (fun _ _ _ _ _ z => z)
  case F =>
    intro w mg fa h KX G hmg T
    refine' Kf.all_mk KX G hmg T ?a0 ?l0 ?i0 ?k0 ?a1 ?l1 ?i1 ?k1 ?a2 ?l2 ?i2 ?k2 ?a3 ?l3 ?i3 ?k3 ?a4 ?l4 ?i4 ?k4 ?a5 ?l5 ?i5 ?k5 ?a6 ?l6 ?i6 ?k6 ?a7 ?l7 ?i7 ?k7 ?a8 ?l8 ?i8 ?k8 ?a9 ?l9 ?i9 ?k9 ?a10 ?l10 ?i10 ?k10 ?a11 ?l11 ?i11 ?k11 ?a12 ?l12 ?i12 ?k12 ?r12 ?d12 ?j12 ?n12 ?y0 ?y1 ?y2 ?y3 ?z0 ?z1 ?z2 ?z3 ?z4 ?z5 ?z6 ?z7 ?z8 ?z9 ?aL ?lL ?kL ?sL
    (case a0 => k_is)
    (case l0 => k_is)
    (case i0 => k_is)
    (case k0 => k_is)
    (case a1 => k_is)
    (case l1 => k_is)
    (case i1 => k_is)
    (case k1 => k_is)
    (case a2 => k_is)
    (case l2 => k_is)
    (case i2 => k_is)
    (case k2 => k_is)
    (case a3 => k_is)
    (case l3 => k_is)
    (case i3 => k_is)
    (case k3 => k_is)
    (case a4 => k_is)
    (case l4 => k_is)
    (case i4 => k_is)
    (case k4 => k_is)
    (case a5 => k_is)
    (case l5 => k_is)
    (case i5 => k_is)
    (case k5 => k_is)
    (case a6 => k_is)
    (case l6 => k_is)
    (case i6 => k_is)
    (case k6 => k_is)
    (case a7 => k_is)
    (case l7 => k_is)
    (case i7 => k_is)
    (case k7 => k_is)
    (case a8 => k_is)
    (case l8 => k_is)
    (case i8 => k_is)
    (case k8 => k_is)
    (case a9 => k_is)
    (case l9 => k_is)
    (case i9 => k_is)
    (case k9 => k_is)
    (case a10 => k_is)
    (case l10 => k_is)
    (case i10 => k_is)
    (case k10 => k_is)
    (case a11 => k_is)
    (case l11 => k_is)
    (case i11 => k_is)
    (case k11 => k_is)
    (case a12 => k_is)
    (case l12 => k_is)
    (case i12 => k_is)
    (case k12 => k_is)
    (case r12 => first | decide +kernel | kernel_rfl)
    (case d12 => k_is)
    (case j12 => exact rfl)
    (case n12 => first | exact rfl | kernel_rfl | decide +kernel)
    (case y0 => k_is)
    (case y1 => k_is)
    (case y2 => k_is)
    (case y3 => k_is)
    (case z0 => k_is)
    (case z1 => k_is)
    (case z2 => k_is)
    (case z3 => k_is)
    (case z4 => k_is)
    (case z5 => k_is)
    (case z6 => k_is)
    (case z7 => k_is)
    (case z8 => k_is)
    (case z9 => k_is)
    (case aL => k_is)
    (case lL => k_is)
    (case kL => exact ⟨⟨_, _, rfl, rfl⟩, ⟨_, _, rfl, rfl⟩, ⟨_, _, rfl, rfl⟩, ⟨_, _, rfl, rfl⟩, trivial⟩)
    (case sL => first | rfl | decide)
