import PyProof.Rows.All
import Wide.All
import OpenK.AllK
import Wide.FinOn
import HandS.ForMost
import HandS.IsInst
import HandS.AnyAll
import HandS.EndTab
import HandS.Walk
import PySem.Challenge.RW_kindfill_k01_words
set_option Elab.async false
set_option maxRecDepth 100000
namespace Kg
open PySem PySem.Spec PyProof.Rows L2 GxR
section
variable {M : Model} {A : Around} {E : Value → Shared → Prop} {s : Shared}
/-- the code object of a generator expression, found in the def's table or put there -/
theorem code_any {env : Env} {c P : Addr} {tab : Array Value} {pos : Pos} {qn : Str} {scope : Scope} {Q : Value → Shared → Prop} (hc : env.code = .ref c) (cd : PySem.W.CodeHd s.heap c P)
    (hP : s.heap.get? P = some { cls := .none, data := .fields tab }) (ht : TriplesOk tab.toList)
    (k : ∀ (code : Value) (hp : Heap) (tk : Nat) (tab' : Array Value), Heap.ExtBut P s.heap hp → s.heap.objs.size ≤ hp.objs.size → hp.get? P = some { cls := .none, data := .fields tab' } → (∃ more, tab' = tab ++ more) → TriplesOk tab'.toList →
      Q code { s with heap := hp, toks := tk }) : wpAny M A (genexprCode env pos qn scope) Q E s := by
  cases hf : codeAmong pos tab.toList with
  | some cv => exact wpAny_genexprCode_hit hc (cd.code hP ht) hf (k cv s.heap s.toks tab (Heap.ExtBut.refl _ _) (Nat.le_refl _) hP ⟨#[], by simp⟩ ht)
  | none =>
    refine wpAny_genexprCodeX hc (cd.code hP ht) (cd.tab hP) hf fun c' hp tk ext lo hi isC _ isT _ => ?_
    obtain ⟨_, _, _, _, _, _, _, _, _, _, _, _, _, _, _, _, _, _, _, tri, _⟩ := isC
    exact k _ hp tk _ ext (Nat.le_of_lt (Nat.lt_of_le_of_lt lo hi)) isT.2 ⟨_, rfl⟩ tri
end
/-- a test of the sign c that may read the module's names -/
def EltG (prog : Program) (w : World) (mg : Str → Option Value) (scope : Scope) (x : Str) (elt : Expr) (pb : Nat → Bool) : Prop :=
  ∀ (ce : Env) (A : Around) (E : Value → Shared → Prop) (c : Nat) (t : Tok) (s : Shared) (m : Str → Option Value), ce.scope = scope → ce.globals = mainGlobals → s.heap.Ns mainGlobals mg → s.heap.Ns ce.locals m → m x = some (.str ⟨#[c]⟩ t) →
    wpAny (model prog w) A (eval elt ce) (fun y s' => y = .bool (pb c) ∧ Keeps s s') E s
section
variable {X : Cx} {pins : List (Addr × Obj)} {σ : L2.St} {H : Hp} {s : Shared}
theorem gen_signs {c P : Addr} {elt iter : Expr} {x : Str} {px gpos : Pos} {scope : Scope} {pb : Nat → Bool} {te : TE} {k : Nat} {Qg : Value → Shared → Prop} {R : Str → Hp → Prop}
    (hr : Room k X.A) (TB : TabB X.base X.mg c P) (hcode : X.env.code = .ref c) (S : GenS X.env scope x) (hi : PE X iter te) (el : EltG X.prog X.w X.mg scope x elt pb)
    (hs : ∀ v, genFold iter X.env v = pure v) (I : Inv X pins σ H s) (h : te σ H fun v H1 => ∃ z : Str, v = .str z ∧ TabG H1 P ∧ R z H1)
    (q : ∀ z H1 g sg, R z H1 → Ready X pins σ H1 P z pb g sg → Qg (.ref g) sg) :
    wpAny (model X.prog X.w) X.A (eval (.GeneratorExp elt [⟨.Name x px, iter, [], 0⟩] scope gpos) X.env) Qg X.xe s := by
  refine wpAny_GeneratorExp_walksQ hr.hd S.co (closure_ok S.free) S.cell S.dot S.loc S.kind ?room ?main hs
  case room =>
    have := hr.dp
    omega
  refine thn (hi.run pins s σ H _ I h) ?_
  rintro xv sa ⟨v, H1, J, rv, z, rfl, ⟨tab, hT, tri⟩, hR⟩
  obtain ⟨tok, rfl⟩ : ∃ tok, xv = Value.str z tok := rv
  refine wpAny_pyIter_str fun ob St wk st0 => ⟨J.nolimit.push ob, ?_⟩
  have atP := J.hok P _ hT
  have ltP : P < sa.heap.objs.size := Heap.lt_size atP
  have up : ∀ b u, sa.heap.get? b = some u → (sa.heap.push ob).get? b = some u := fun b u e => Heap.get?_push_of_some _ e
  refine code_any (s := { sa with heap := sa.heap.push ob }) hcode (TB.code.keeps fun b u e => up _ _ (J.bk b u e)) (up _ _ atP) tri fun code hp tk tab' ext grown atP' more tri' => ?_
  have size1 : (sa.heap.push ob).objs.size = sa.heap.objs.size + 1 := Heap.size_push ..
  have big : sa.heap.objs.size < hp.objs.size := by
    have e : (sa.heap.push ob).objs.size ≤ hp.objs.size := grown
    omega
  have keep : ∀ b u, b ≠ P → sa.heap.get? b = some u → hp.get? b = some u := fun b u n e => ext b u n (up b u e)
  have glob : hp.Ns mainGlobals X.mg := ((J.mod.glob.keeps J.bk).push ob).extBut ext TB.gP
  obtain ⟨_, stat, _⟩ := J.nolimit
  have statP : cStatics ≠ P := fun e => by
    obtain ⟨_, _, _, g1, g2, _⟩ := stat
    rw [e, atP] at g1
    cases g1
    cases g2
  obtain ⟨bm, bo, b1, b2, b3, b4, b5, b6, b7, b8⟩ := TB.bm
  refine wpAny_builtinsFor (m := X.mg) (by rw [J.ok.glob]; exact glob) b1 b2 (keep _ _ b4 (J.bk _ _ b5)) b6 b7 b8 ?_
  refine ⟨sa.heap.objs.size, [sa.heap.objs.size], [sa.heap.objs.size], z.cps.size, SignAt z, St, fun _ => true, fun i y => ∃ cc, z.cps[i]? = some cc ∧ y = .bool (pb cc), rfl, wk, ?st, ?fp, (J.nolimit.push ob).extBut ext statP, ?wr, ?quiet, ?done⟩
  case st =>
    refine (wk X.A hr.hd).frame _ _ _ st0 fun b hb u e => ext b u (fun e2 => ?_) e
    exact Nat.ne_of_lt ltP (e2.symm.trans (List.mem_singleton.mp hb))
  case fp =>
    intro b hb
    rw [List.mem_singleton.mp hb]
    exact big
  case wr =>
    intro e
    exact Nat.ne_of_lt stat.lt (List.mem_singleton.mp e)
  case quiet =>
    intro href sub
    refine ⟨?_, ?_⟩
    · intro A' E' i v s2 m2 _ _ _ _ _
      rw [List.forIn_nil]
      exact wpAny_pure ⟨rfl, keeps_refl _⟩
    · intro A' E' i v s2 m2 _ hv _ hn hm hk
      obtain ⟨cc, u, hcc, rfl⟩ := hv
      have glob2 : s2.heap.Ns mainGlobals X.mg := by
        obtain ⟨o1, es, ep, g1, g2⟩ := glob
        refine ⟨o1, es, ep, hk mainGlobals (List.mem_range.mpr (Heap.lt_size g1)) (fun e => ?_) _ (sub _ _ g1), g2⟩
        exact Nat.ne_of_lt (J.mod.glob.keeps J.bk).lt (List.mem_singleton.mp e)
      exact wpAny_mono (el _ A' E' cc u s2 m2 rfl J.ok.glob glob2 hn hm) (fun y s3 r => ⟨⟨cc, hcc, r.1⟩, r.2⟩) fun _ _ e => e
  case done =>
    intro g h5 tk5 gs bare lt5 sz5 keep5 W at0
    rw [GxR.passing_true, List.length_range] at W
    obtain ⟨more, rfl⟩ := more
    refine q z H1 g _ hR ⟨_, _, _, _, _, W.in4_1, at0, ?_, fun sz mv => ?_⟩
    · rintro j y sj Qj Ej ⟨i, hij, cc, hcc, rfl⟩ hQj
      obtain ⟨hj, ei⟩ := List.getElem?_eq_some_iff.mp hij
      rw [List.getElem_range] at ei
      subst ei
      have e9 : z.cps.toList[j]? = some cc := by
        rw [Array.getElem?_toList]
        exact hcc
      have hQ2 : Qj (trF pb z.cps.toList j) sj := hQj
      rw [trF_some e9] at hQ2
      exact wpAny_truthy_bool hQ2
    · have old : ∀ b u, sa.heap.get? b = some u → b ∉ hp.objs.size :: [sa.heap.objs.size] := fun b u e m => by
        have lb : b < sa.heap.objs.size := Heap.lt_size e
        rcases List.mem_cons.mp m with m | m
        · exact Nat.lt_asymm big (m ▸ lb)
        · exact Nat.ne_of_lt lb (List.mem_singleton.mp m)
      have J2 := inv_tab (more := more) (h' := sz.heap) (g' := sz.gens) (d' := sz.drawn) (t' := sz.toks) J hT (fun b u n e => mv.heap b u (old b u e) (keep5 b u (keep b u n e)))
        (mv.heap P _ (old P _ atP) (keep5 P _ atP')) (AllBare.movedS (J.bare.push bare) mv)
      rw [sh_eta sa sz mv.os] at J2
      exact ⟨upd H1 P (.tbl (tab ++ more)), ⟨⟨tab ++ more, upd_same, tri'⟩, fun b n => upd_ne n⟩, J2⟩
/-- all(test for x in e), e a text, the test reading the module's names -/
theorem pe_allG {c P : Addr} {elt iter : Expr} {x : Str} {px p pos gpos : Pos} {scope : Scope} {pb : Nat → Bool} {te : TE} {k : Nat}
    (hr : Room k X.A) (hg : Gl X "all") (hm : X.mg "all" = none) (hb : bootBuiltins "all" = some (.builtin "all")) (TB : TabB X.base X.mg c P) (hcode : X.env.code = .ref c) (S : GenS X.env scope x) (hi : PE X iter te) (el : EltG X.prog X.w X.mg scope x elt pb)
    (hs : ∀ v, genFold iter X.env v = pure v)
    (he : starEach [.GeneratorExp elt [⟨.Name x px, iter, [], 0⟩] scope gpos] X.env = (false, eval (.GeneratorExp elt [⟨.Name x px, iter, [], 0⟩] scope gpos) X.env) :: starEach [] X.env := by rfl) :
    PE X (.Call (.Name "all" p) [.GeneratorExp elt [⟨.Name x px, iter, [], 0⟩] scope gpos] [] pos) (tAllS P pb te) := by
  constructor
  intro pins s σ H Q I h
  refine wpAny_Call_Name_kw (ld_blt I hg hm hb (PyProof.Rows.callWith_builtin1 ?_ he (by rfl)))
  rw [he]
  refine Calls.spliced_cons (gen_signs (R := fun z H1 => ∀ H2, Tabbed P H1 H2 → Q (.bl (z.cps.toList.all pb)) H2) hr TB hcode S hi el hs I h fun z H1 g sg hR ready => ?_)
  obtain ⟨fp, wr, G, F, St, W, st0, tr, back⟩ := ready
  refine Calls.spliced_nil (call_all_walkS (W.self 0 _ _ _ st0 ⟨g, fp, wr, G, _, F, St, _, rfl, W, st0, tr, fun sz mv => ?_⟩))
  obtain ⟨H2, tb, J⟩ := back sz mv
  exact ⟨.bl _, H2, J, rfl, by rw [all_signs z pb]; exact hR H2 tb⟩
end
/-- x in NAME, NAME a text of the module -/
theorem elt_in {prog : Program} {w : World} {mg : Str → Option Value} {scope : Scope} {x g : Str} {k : Str} {t : Tok} {p1 p2 p3 : Pos} (hk : scope.kind = .function) (hl : scope.names.lookup x = some .local) (hg : scope.names.lookup g = some .globalImplicit) (hm : mg g = some (.str k t))
    (hd : (x == ("__debug__" : Str)) = false := by decide) (hd2 : (g == ("__debug__" : Str)) = false := by decide) :
    EltG prog w mg scope x (.Compare (.Name x p1) [.In] [.Name g p2] p3) (fun c => decide (c ∈ k.cps.toList)) := by
  intro ce A E c t s m hs hglob hns hn hx
  refine wpAny_Compare1 ?_
  refine wpAny_Name (wpAny_loadName_local (by rw [hs]; exact hk) (show ce.scope.names.lookup x = some .local by rw [hs]; exact hl) hn hx ?_) hd
  refine Calls.Name_function_global (by rw [hs]; exact hk) ?_ (Calls.loadGlobal_global (by rw [hglob]; exact hns) hm ?_) hd2
  · show ce.scope.names.lookup g = _
    rw [hs]
    exact hg
  · refine PyProof.Rows.in_str ⟨?_, keeps_tok _ _⟩
    rw [PySem.StrLaws.found_one k c]
end Kg
namespace Kf
open PySem L2
def top (i : Nat) : Stmt := PySem.Challenge.pw_kindfill_k01_words.main.body.getD i (.Pass ⟨0, 0, 0, 0⟩)
abbrev sPool : Stmt := top 8
abbrev sTake : Stmt := top 9
/-- a pool at p: what is left of the cell, and a number -/
def PoolAt (H : Hp) (p : Addr) : Prop := ∃ c n : Int, H p = some (.lst [.int c, .int n]) ∧ 0 ≤ n ∧ n < 2147483647
def spTake : Sp := fun vs H Q _ => ∃ (p : Addr) (m : Int), vs = [.ref p, .int m] ∧ PoolAt H p ∧ 0 < m ∧ m < 1073741824 ∧
  ∀ (r : Int) (H' : Hp), 0 ≤ r → r < m → PoolAt H' p → (∀ b, b ≠ p → H' b = H b) → Q (.int r) H'
def spPool (K : PySem.W.Frag) : Sp := fun vs H Q _ => ∃ (a : Addr) (ns : List Int) (k : Nat), vs = [.ref a, .int (k : Int)] ∧ SqL K H a (ns.map V.int) ∧ ns.length ≤ 63 ∧ k ≤ 63 ∧
  ∀ (p : Addr) (H' : Hp), H p = none → PoolAt H' p → (∀ b, b ≠ p → H' b = H b) → Q (.ref p) H'
theorem nm_nat {x m : Int} (hm : 0 < m) : 0 ≤ x.fmod m ∧ x.fmod m < m := ⟨Int.fmod_nonneg_of_pos x hm, Int.fmod_lt_of_pos x hm⟩
section
variable {P : Program} {w : World} {K : PySem.W.Frag} {mg : Str → Option Value} {base : Heap}
theorem scTake : FnScope ["_law_pool_here", "_law_many", "_law_found"] ["_law_pool_here", "_law_many"] (defScope sTake) := ⟨rfl, rfl, rfl, by decide +kernel, rfl, by decide +kernel, by decide +kernel⟩
theorem ok_take {f : Addr} {fd : FuncData} (F : Fun K "_law_take" "_law_take" sTake f fd) : FnOk P w K mg base CX0 1 f fd ["_law_pool_here", "_law_many"] spTake := by
  refine F.ok scTake (fun vs H Q E h => ?_) (fun cdv A outer s H vs Q E hr h => ?_)
  · obtain ⟨p, m, rfl, _⟩ := h
    rfl
  · obtain ⟨p, m, rfl, ⟨c, n, hp, hn0, hn1⟩, hm0, hm1, k⟩ := h
    refine ⟨_, pss_cons (ps_if (pt_cmpR op_gt (pe_ix ix_list (pv 0) pe_int (fun _ _ => rfl)) pe_int (nomark _))
        (pss_cons (ps_set (i := 2) scTake.nd rfl (Or.inl rfl) (pe_op op_modN (pe_ix ix_list (pv 0) pe_int (fun _ _ => rfl)) (pv 1)))
        (pss_cons (ps_asg (pe_op op_fdivN (pe_ix ix_list (pv 0) pe_int (fun _ _ => rfl)) (pv 1)) (pg_sub (pv 0) pe_int set_list))
        (pss_one (ps_ret (pv 2))))) pss_nil)
      (pss_cons (ps_asg (pe_op op_modN (pe_op op_add (pe_op op_mul (pe_ix ix_list (pv 0) pe_int (fun _ _ => rfl)) pe_int) pe_int) pe_int) (pg_sub (pv 0) pe_int set_list))
      (pss_one (ps_ret (pe_op op_modN (pe_op op_fdivN (pe_op op_modN (pe_op op_mul (pe_ix ix_list (pv 0) pe_int (fun _ _ => rfl)) (pe_ix ix_list (pv 0) pe_int (fun _ _ => rfl))) pe_int) pe_int) (pv 1))))), ?_⟩
    refine ⟨_, rfl, p, _, _, _, rfl, rfl, SqL.of hp, atI_nat (j := 0) rfl, _, _, rfl, rfl, _, rfl, ?_⟩
    have M := nm_nat (x := c) hm0
    refine ite2 (fun _ => ?_) (fun _ => ?_)
    · refine ⟨_, rfl, p, _, _, _, rfl, rfl, SqL.of hp, atI_nat (j := 0) rfl, _, rfl, _, _, rfl, rfl, by omega, ?_⟩
      refine ⟨_, rfl, p, _, _, _, rfl, rfl, SqL.of hp, atI_nat (j := 0) rfl, _, rfl, _, _, rfl, rfl, ⟨by omega, by omega⟩, ?_⟩
      refine ⟨_, rfl, p, _, _, 0, rfl, rfl, hp, rfl, ?_⟩
      refine ⟨_, rfl, ?_⟩
      exact k _ _ M.1 M.2 ⟨_, _, upd_same, hn0, hn1⟩ fun b hb => upd_ne hb
    · have N0 := nm_nat (x := n * 48271 + 11) (m := 2147483647) (by decide)
      refine ⟨_, rfl, p, _, _, _, rfl, rfl, SqL.of hp, atI_nat (j := 1) rfl, _, _, rfl, rfl, .inl ⟨by omega, by omega⟩, _, _, rfl, rfl, _, _, rfl, rfl, (by show (2147483647 : Int) ≠ 0; decide), ?_⟩
      refine ⟨_, rfl, p, _, _, 1, rfl, rfl, hp, rfl, ?_⟩
      have N1 := nm_nat (x := (n * 48271 + 11).fmod 2147483647 * (n * 48271 + 11).fmod 2147483647) (m := 2147483629) (by decide)
      refine ⟨_, rfl, p, _, _, _, rfl, rfl, SqL.of upd_same, atI_nat (j := 1) rfl, _, rfl, p, _, _, _, rfl, rfl, SqL.of upd_same, atI_nat (j := 1) rfl, _, _, rfl, rfl, .inl ⟨by omega, by omega⟩, ?_⟩
      refine ⟨_, _, rfl, rfl, (by show (2147483629 : Int) ≠ 0; decide), _, _, rfl, rfl, ⟨by decide, by decide⟩, _, rfl, _, _, rfl, rfl, by omega, ?_⟩
      exact k _ _ (nm_nat hm0).1 (nm_nat hm0).2 ⟨_, _, upd_same, N0.1, N0.2⟩ fun b hb => upd_ne hb
theorem scPool : FnScope ["_law_script", "_law_k", "_law_cell", "_law_number"] ["_law_script", "_law_k"] (defScope sPool) := ⟨rfl, rfl, rfl, by decide +kernel, rfl, by decide +kernel, by decide +kernel⟩
theorem ok_pool {f : Addr} {fd : FuncData} (F : Fun K "_law_pool" "_law_pool" sPool f fd) (mLen : mg "len" = none) : FnOk P w K mg base CX0 1 f fd ["_law_script", "_law_k"] (spPool K) := by
  refine F.ok scPool (fun vs H Q E h => ?_) (fun cdv A outer s H vs Q E hr h => ?_)
  · obtain ⟨a, ns, j, rfl, _⟩ := h
    rfl
  · obtain ⟨a, ns, j, rfl, hS, hl, hj, k⟩ := h
    refine ⟨_, pss_cons (ps_set (i := 2) scPool.nd rfl (Or.inl rfl) pe_int)
      (pss_cons (ps_if (pt_cmpR op_lt (pv 1) (pe_callB call_len_seq (by rfl) mLen PySem.boot_len (pa_cons (pv 0) pa_nil)) (nomark _))
        (pss_one (ps_set (i := 2) scPool.nd rfl (Or.inl rfl) (pe_ix ix_list (pv 0) (pv 1) (fun _ _ => rfl)))) pss_nil)
      (pss_cons (ps_set (i := 3) scPool.nd rfl (Or.inl rfl) (pe_op op_modN (pe_op op_pow (pe_op op_add (pe_op op_add (pe_op op_modN (pv 2) pe_int) (pe_op op_mul (pe_op op_mul pe_int (pv 1)) (pv 1))) pe_int) pe_int) pe_int))
      (pss_cons (ps_if (pt_cmpR op_lt (pv 2) (pe_op op_pow pe_int pe_int) (nomark _))
        (pss_one (ps_set (i := 2) scPool.nd rfl (Or.inl rfl) pe_int)) pss_nil)
      (pss_one (ps_ret (pe_lst (pa_cons (pv 2) (pa_cons (pv 3) pa_nil)))))))), ?_⟩
    have B : ∀ c : Int, 0 ≤ (c.fmod 2147483629 + 104729 * (j : Int) * (j : Int) + 11) ∧ (c.fmod 2147483629 + 104729 * (j : Int) * (j : Int) + 11) < 2 ^ 33 := fun c => by
      have M := nm_nat (x := c) (m := 2147483629) (by decide)
      have hj2 : (j : Int) * (j : Int) ≤ 63 * 63 := Int.mul_le_mul (by omega) (by omega) (by omega) (by omega)
      have hj0 : 0 ≤ (j : Int) * (j : Int) := Int.mul_nonneg (by omega) (by omega)
      have e : 104729 * (j : Int) * (j : Int) = 104729 * ((j : Int) * (j : Int)) := Int.mul_assoc _ _ _
      omega
    refine ⟨_, rfl, _, rfl, a, _, rfl, .inl hS, _, _, rfl, rfl, _, rfl, ?_⟩
    refine ite2 (fun hlt => ?_) (fun _ => ?_)
    · have hj' : j < ns.length := by simpa using hlt
      refine ⟨_, rfl, _, rfl, a, _, _, _, rfl, rfl, hS, atI_nat (j := j) (v := .int ns[j]) (by simp [hj']), ?_⟩
      generalize ns[j] = c
      have N := nm_nat (x := (c.fmod 2147483629 + 104729 * (j : Int) * (j : Int) + 11) ^ 3) (m := 2147483647) (by decide)
      have Bc := B c
      refine ⟨_, rfl, _, _, rfl, rfl, (by show (2147483629 : Int) ≠ 0; decide), _, rfl, _, _, rfl, rfl, .inl ⟨by decide, by decide⟩, _, rfl, _, _, rfl, rfl, .inl ⟨by omega, by omega⟩, ?_⟩
      refine ⟨_, _, rfl, rfl, _, _, rfl, rfl, _, _, rfl, rfl, ⟨by decide, by decide, by omega⟩, _, _, rfl, rfl, (by show (2147483647 : Int) ≠ 0; decide), ?_⟩
      refine ⟨_, rfl, _, _, rfl, rfl, ⟨by decide, by decide, by decide⟩, _, _, rfl, rfl, _, rfl, ?_⟩
      refine ite2 (fun _ => ?_) (fun _ => ?_)
      · exact ⟨_, rfl, _, rfl, (by show 2 ≤ sizeLine; decide), fun p hp => k _ _ hp ⟨_, _, upd_same, N.1, N.2⟩ fun b hb => upd_ne hb⟩
      · exact ⟨_, rfl, _, rfl, (by show 2 ≤ sizeLine; decide), fun p hp => k _ _ hp ⟨_, _, upd_same, N.1, N.2⟩ fun b hb => upd_ne hb⟩
    · have N := nm_nat (x := ((0 : Int).fmod 2147483629 + 104729 * (j : Int) * (j : Int) + 11) ^ 3) (m := 2147483647) (by decide)
      have Bc := B 0
      refine ⟨_, rfl, _, _, rfl, rfl, (by show (2147483629 : Int) ≠ 0; decide), _, rfl, _, _, rfl, rfl, .inl ⟨by decide, by decide⟩, _, rfl, _, _, rfl, rfl, .inl ⟨by omega, by omega⟩, ?_⟩
      refine ⟨_, _, rfl, rfl, _, _, rfl, rfl, _, _, rfl, rfl, ⟨by decide, by decide, by omega⟩, _, _, rfl, rfl, (by show (2147483647 : Int) ≠ 0; decide), ?_⟩
      refine ⟨_, rfl, _, _, rfl, rfl, ⟨by decide, by decide, by decide⟩, _, _, rfl, rfl, _, rfl, ?_⟩
      refine ite2 (fun _ => ?_) (fun _ => ?_)
      · exact ⟨_, rfl, _, rfl, (by show 2 ≤ sizeLine; decide), fun p hp => k _ _ hp ⟨_, _, upd_same, N.1, N.2⟩ fun b hb => upd_ne hb⟩
      · exact ⟨_, rfl, _, rfl, (by show 2 ≤ sizeLine; decide), fun p hp => k _ _ hp ⟨_, _, upd_same, N.1, N.2⟩ fun b hb => upd_ne hb⟩
end
abbrev sDrawn : Stmt := top 10
theorem at_any {α : Type} {xs : List α} {r : Int} (h0 : 0 ≤ r) (h1 : r < xs.length) : ∃ v, atI xs r = some v ∧ v ∈ xs := by
  obtain ⟨n, rfl⟩ : ∃ n : Nat, r = n := ⟨r.toNat, by omega⟩
  have hn : n < xs.length := by omega
  exact ⟨xs[n], atI_nat (by simp [hn]), by simp⟩
theorem str_small : ∀ n : Nat, n < 121 → (PySem.Str.ofString (toString (n : Int))).length ≤ 3 ∧ (n : Int).natAbs.log2 < 1920 := by decide +kernel
theorem PoolAt.upd {H : Hp} {p l : Addr} {o : HO} (h : PoolAt H p) (hl : H l = none) : PoolAt (upd H l o) p := by
  obtain ⟨c, n, e, h0, h1⟩ := h
  exact ⟨c, n, by rw [upd_ne (ne_of_none e hl)]; exact e, h0, h1⟩
theorem PoolAt.ne {H : Hp} {p l : Addr} (h : PoolAt H p) (hl : H l = none) : l ≠ p := by
  obtain ⟨c, n, e, h0, h1⟩ := h
  exact (ne_of_none e hl).symm
theorem kept_upd {H H1 : Hp} {p l : Addr} {o : HO} (k : ∀ b u, b ≠ p → H b = some u → H1 b = some u) (hl : H1 l = none) : ∀ b u, b ≠ p → H b = some u → (upd H1 l o) b = some u := fun b u hb e => by
  rw [upd_ne (ne_of_none (k b u hb e) hl)]
  exact k b u hb e
theorem kept_eq {H H1 H2 : Hp} {p : Addr} (k : ∀ b u, b ≠ p → H b = some u → H1 b = some u) (e2 : ∀ b, b ≠ p → H2 b = H1 b) : ∀ b u, b ≠ p → H b = some u → H2 b = some u := fun b u hb e => (e2 b hb).trans (k b u hb e)
theorem len_app (a b : Str) : (a ++ b).length = a.length + b.length := PySem.Str.length_append a b
def SOk (z : Str) : Prop := ∀ c ∈ z.cps.toList, c < 1114112
theorem SOk.app {a b : Str} (h : SOk a) (g : SOk b) : SOk (a ++ b) := fun c m => by
  have e : (a ++ b).cps.toList = a.cps.toList ++ b.cps.toList := by rw [PySem.Str.cps_append, Array.toList_append]
  rw [e] at m
  exact (List.mem_append.mp m).elim (h c) (g c)
theorem SOk.cut {a : Str} (h : SOk a) (lo hi : Option Int) : SOk (cutS a lo hi) := fun c m => by
  have m' : c ∈ (a.cps.toList.drop (HT.sIx a.length 0 lo)).take (HT.sIx a.length a.length hi - HT.sIx a.length 0 lo) := by
    have e : (cutS a lo hi).cps.toList = (a.cps.toList.drop (HT.sIx a.length 0 lo)).take (HT.sIx a.length a.length hi - HT.sIx a.length 0 lo) := by
      unfold cutS
      exact List.toList_toArray
    rw [← e]
    exact m
  exact h c (List.mem_of_mem_drop (List.mem_of_mem_take m'))
theorem SOk.one {c : Nat} {z : Str} (h : SOk z) (m : c ∈ z.cps.toList) : SOk ⟨#[c]⟩ := fun d hd => by
  have e : d = c := by simpa using hd
  rw [e]
  exact h c m
theorem empty_sok : SOk "" := by
  show ∀ c ∈ (("" : Str)).cps.toList, c < 1114112
  decide +kernel
theorem x_sok : SOk "x" := by
  show ∀ c ∈ (("x" : Str)).cps.toList, c < 1114112
  decide +kernel
theorem zero_sok : SOk "0" := by
  show ∀ c ∈ (("0" : Str)).cps.toList, c < 1114112
  decide +kernel
theorem letters_sok : SOk "abcdefghijklmnopqrstuvwxyz" := by
  show ∀ c ∈ (("abcdefghijklmnopqrstuvwxyz" : Str)).cps.toList, c < 1114112
  decide +kernel
theorem signs_sok : SOk " !#$&'()*+,-./0123456789:;<=>?@ABCDEFGHIJKLMNOPQRSTUVWXYZ[]^_`abcdefghijklmnopqrstuvwxyz{|}~" := by
  show ∀ c ∈ ((" !#$&'()*+,-./0123456789:;<=>?@ABCDEFGHIJKLMNOPQRSTUVWXYZ[]^_`abcdefghijklmnopqrstuvwxyz{|}~" : Str)).cps.toList, c < 1114112
  decide +kernel
theorem join_sok : ∀ ys : List Str, (∀ y ∈ ys, SOk y) → SOk (Str.join "" ys)
  | [], _ => by
    show SOk Str.empty
    intro c m
    cases m
  | [x], h => h x (by simp)
  | x :: z :: r, h => by
    show SOk (x ++ "" ++ Str.join "" (z :: r))
    exact ((h x (by simp)).app empty_sok).app (join_sok (z :: r) fun y hy => h y (List.mem_cons_of_mem _ hy))
theorem num_sok : ∀ n : Nat, n < 121 → ∀ c ∈ (PySem.Str.ofString (toString (n : Int))).cps.toList, c < 1114112 := by decide +kernel
theorem join_short : ∀ ys : List Str, (∀ y ∈ ys, y.length ≤ 1) → (Str.join "" ys).length ≤ ys.length
  | [], _ => Nat.le_refl _
  | [x], h => by
    show x.length ≤ 1
    exact h x (by simp)
  | x :: z :: r, h => by
    show (x ++ "" ++ Str.join "" (z :: r)).length ≤ _
    have i := join_short (z :: r) fun y hy => h y (List.mem_cons_of_mem _ hy)
    have a := h x (by simp)
    have e : (("" : Str)).length = 0 := by decide
    rw [len_app, len_app, e, List.length_cons]
    omega
theorem sum_short : ∀ ys : List Str, (∀ y ∈ ys, y.length ≤ 1) → (ys.map (·.length)).sum ≤ ys.length
  | [], _ => Nat.le_refl _
  | x :: r, h => by
    have i := sum_short r fun y hy => h y (List.mem_cons_of_mem _ hy)
    have a := h x (by simp)
    rw [List.map_cons, List.sum_cons, List.length_cons]
    omega
theorem letters26 : (("abcdefghijklmnopqrstuvwxyz" : Str)).cps.toList.length = 26 := by decide +kernel
theorem one_sign (c : Nat) : (⟨#[c]⟩ : Str).length = 1 := rfl
theorem small40 {n : Nat} (h : n ≤ 1000) : n ≤ sizeLine := Nat.le_trans h (by decide)
def spDrawn : Sp := fun vs H Q _ => ∃ (p : Addr), vs = [.ref p] ∧ PoolAt H p ∧
  ∀ (z : Str) (H' : Hp), z.length ≤ 40 → SOk z → (∀ b o, b ≠ p → H b = some o → H' b = some o) → Q (.str z) H'
section
variable {P : Program} {w : World} {K : PySem.W.Frag} {mg : Str → Option Value} {base : Heap}
theorem scDrawn : FnScope ["_law_pool_here", "_law_letters", "_law_signs", "_law_way", "_law_text", "_law_at", "_law_k"] ["_law_pool_here"] (defScope sDrawn) := ⟨rfl, rfl, rfl, by decide +kernel, rfl, by decide +kernel, by decide +kernel⟩
theorem ok_drawn {f fT : Addr} {fd fdT : FuncData} (F : Fun K "_law_drawn" "_law_drawn" sDrawn f fd) (FT : Fun K "_law_take" "_law_take" sTake fT fdT) (bT : Binds K fdT ["_law_pool_here", "_law_many"] [])
    (gT : mg "_law_take" = some (.ref fT)) (mLen : mg "len" = none) (mRange : mg "range" = none) (mStr : mg "str" = none) : FnOk P w K mg base CX0 2 f fd ["_law_pool_here"] spDrawn := by
  have GT : FnOk P w K mg base CX0 1 fT fdT ["_law_pool_here", "_law_many"] spTake := ok_take FT
  refine F.ok scDrawn (fun vs H Q E h => ?_) (fun cdv A outer s H vs Q E hr h => ?_)
  · obtain ⟨p, rfl, _⟩ := h
    rfl
  · obtain ⟨p, rfl, hp, k⟩ := h
    refine ⟨_, pss_cons (ps_set (i := 1) scDrawn.nd rfl (Or.inr rfl) pe_str)
      (pss_cons (ps_set (i := 2) scDrawn.nd rfl (Or.inl rfl) pe_str)
      (pss_cons (ps_set (i := 3) scDrawn.nd rfl (Or.inl rfl) (pe_call GT hr (by rfl) gT FT.kp bT .nil pass0 (pa_cons (pv 0) (pa_cons pe_int pa_nil))))
      (pss_cons (ps_if (pt_cmpR op_eq (pv 3) pe_int (nomark _))
        (pss_one (ps_ret (pe_op op_add_str (pe_op op_add_str pe_str (pe_ix ix_list (pe_lst (pa_cons pe_str (pa_cons pe_str pa_nil))) (pe_call GT hr (by rfl) gT FT.kp bT .nil pass0 (pa_cons (pv 0) (pa_cons pe_int pa_nil))) (fun _ _ => rfl)))
          (pe_callTy call_str_int (by rfl) mStr (by decide +kernel) (pa_cons (pe_call GT hr (by rfl) gT FT.kp bT .nil pass0 (pa_cons (pv 0) (pa_cons pe_int pa_nil))) pa_nil))))) pss_nil)
      (pss_cons (ps_if (pt_cmpR op_eq (pv 3) pe_int (nomark _))
        (pss_one (ps_ret (pe_op op_add_str pe_str (pe_callTy call_str_int (by rfl) mStr (by decide +kernel) (pa_cons (pe_call GT hr (by rfl) gT FT.kp bT .nil pass0 (pa_cons (pv 0) (pa_cons pe_int pa_nil))) pa_nil))))) pss_nil)
      (pss_cons (ps_set (i := 4) scDrawn.nd rfl (Or.inl rfl) (pe_join pe_str (pe_lc (own := [("_law_k", 6)]) (g := gName 6) (by rfl) scDrawn.nd (pi_range1 (by rfl) mRange (pa_cons (pe_call GT hr (by rfl) gT FT.kp bT .nil pass0 (pa_cons (pv 0) (pa_cons pe_int pa_nil))) pa_nil))
          (blkOk_by (N := ["_law_pool_here", "_law_letters", "_law_signs", "_law_way", "_law_text", "_law_at", "_law_k"]) (sc := defScope sDrawn) (by decide +kernel)) (fun _ _ _ _ _ => pg_name (i := 6) scDrawn.nd rfl (Or.inl rfl)) (fun _ _ _ _ _ => pts_nil)
          (fun _ _ _ _ _ => pe_ix ix_str (pv 1) (pe_call GT hr (by rfl) gT FT.kp bT .nil pass0 (pa_cons (pv 0) (pa_cons pe_int pa_nil))) (fun _ _ => rfl)))))
      (pss_cons (ps_set (i := 5) scDrawn.nd rfl (Or.inl rfl) (pe_call GT hr (by rfl) gT FT.kp bT .nil pass0 (pa_cons (pv 0) (pa_cons (pe_op op_add (pe_callB call_len_str (by rfl) mLen PySem.boot_len (pa_cons (pv 4) pa_nil)) pe_int) pa_nil))))
      (pss_cons (ps_if (pt_cmpR op_eq (pv 3) pe_int (nomark _))
        (pss_one (ps_ret (pe_op op_add_str (pe_op op_add_str (pe_slice sl_str (pv 4) po_none (po_some (pv 5)))
          (pe_ix ix_str (pv 2) (pe_call GT hr (by rfl) gT FT.kp bT .nil pass0 (pa_cons (pv 0) (pa_cons (pe_callB call_len_str (by rfl) mLen PySem.boot_len (pa_cons (pv 2) pa_nil)) pa_nil))) (fun _ _ => rfl)))
          (pe_slice sl_str (pv 4) (po_some (pv 5)) po_none)))) pss_nil)
      (pss_cons (ps_if (pt_cmpR op_eq (pv 3) pe_int (nomark _))
        (pss_one (ps_ret (pe_op op_add_str (pe_op op_add_str (pe_slice sl_str (pv 4) po_none (po_some (pv 5)))
          (pe_ix ix_str (pv 2) (pe_call GT hr (by rfl) gT FT.kp bT .nil pass0 (pa_cons (pv 0) (pa_cons (pe_callB call_len_str (by rfl) mLen PySem.boot_len (pa_cons (pv 2) pa_nil)) pa_nil))) (fun _ _ => rfl)))
          (pe_slice sl_str (pv 4) (po_some (pe_op op_add (pv 5) pe_int)) po_none)))) pss_nil)
      (pss_one (ps_ret (pv 4))))))))))), ?_⟩
    refine ⟨_, rfl, p, 6, rfl, hp, by decide, by decide, fun way H1 w0 w1 hp1 e1 => ?_⟩
    have k1 : ∀ b u, b ≠ p → H b = some u → H1 b = some u := fun b u hb e => (e1 b hb).trans e
    refine ⟨_, rfl, rfl, _, rfl, ?_⟩
    refine ite2 (fun _ => ?_) (fun _ => ?_)
    · refine ⟨(by show 2 ≤ sizeLine; decide), fun l hl => ?_⟩
      have nl := hp1.ne hl
      refine ⟨_, rfl, p, 2, rfl, hp1.upd hl, by decide, by decide, fun r H2 r0 r1 hp2 e2 => ?_⟩
      have k2 := kept_eq (kept_upd (o := .lst [V.str "", V.str "0"]) k1 hl) e2
      obtain ⟨v, hv, hm⟩ := at_any (xs := [V.str "", V.str "0"]) r0 r1
      refine ⟨l, _, _, v, rfl, rfl, SqL.of ((e2 l nl).trans upd_same), hv, ?_⟩
      obtain ⟨z, rfl, hz, kz⟩ : ∃ z : Str, v = .str z ∧ z.length ≤ 1 ∧ SOk z := by
        simp only [List.mem_cons, List.not_mem_nil, or_false] at hm
        rcases hm with rfl | rfl
        · exact ⟨_, rfl, by decide, empty_sok⟩
        · exact ⟨_, rfl, by decide, zero_sok⟩
      refine ⟨_, _, rfl, rfl, ?_, ?_⟩
      · have lx : (("x" : Str)).length = 1 := by decide
        exact small40 (by omega)
      · refine ⟨_, rfl, p, 121, rfl, hp2, by decide, by decide, fun q H3 q0 q1 hp3 e3 => ?_⟩
        obtain ⟨n, rfl⟩ : ∃ n : Nat, q = n := ⟨q.toNat, by omega⟩
        have sm := str_small n (by omega)
        have lx : (("x" : Str)).length = 1 := by decide
        refine ⟨_, rfl, sm.2, _, _, rfl, rfl, ?_, k _ _ ?_ ((x_sok.app kz).app (num_sok n (by omega))) (kept_eq k2 e3)⟩
        · rw [len_app]
          exact small40 (by omega)
        · rw [len_app, len_app]
          omega
    · refine ⟨_, rfl, rfl, _, rfl, ?_⟩
      refine ite2 (fun _ => ?_) (fun _ => ?_)
      · refine ⟨_, rfl, p, 12, rfl, hp1, by decide, by decide, fun q H3 q0 q1 hp3 e3 => ?_⟩
        obtain ⟨n, rfl⟩ : ∃ n : Nat, q = n := ⟨q.toNat, by omega⟩
        have sm := str_small n (by omega)
        have lx : (("x" : Str)).length = 1 := by decide
        refine ⟨_, rfl, sm.2, _, _, rfl, rfl, small40 (by omega), k _ _ ?_ (x_sok.app (num_sok n (by omega))) (kept_eq k1 e3)⟩
        rw [len_app]
        omega
      · refine ⟨⟨_, rfl⟩, _, rfl, p, 9, rfl, hp1, by decide, by decide, fun n9 H2 r0 r1 hp2 e2 => ?_⟩
        refine ⟨n9, rfl, by omega, by omega, fun D hD => lc_range (lo := 0) (n := n9.toNat) (fun i H' => ∃ ys : List Str, H' D = some (.lst (ys.map V.str)) ∧ ys.length = i ∧ (∀ y ∈ ys, y.length ≤ 1 ∧ SOk y) ∧ PoolAt H' p ∧ (∀ b u, b ≠ p → H b = some u → H' b = some u))
          ⟨[], upd_same, rfl, by simp, hp2.upd hD, kept_upd (kept_eq k1 e2) hD⟩ ?_ ?_⟩
        · have nD := hp2.ne hD
          rintro i H' hi ⟨ys, hy, hl, hz, hq, kk⟩
          refine ⟨rfl, ?_⟩
          unfold tYes
          dsimp only
          rw [if_pos rfl]
          refine ⟨_, rfl, _, rfl, p, 26, rfl, hq, by decide, by decide, fun r H5 r0 r1 hp5 e5 => ?_⟩
          obtain ⟨c, hc, mc⟩ := at_any (xs := (("abcdefghijklmnopqrstuvwxyz" : Str)).cps.toList) r0 (by rw [letters26]; exact r1)
          refine ⟨_, _, c, rfl, rfl, (by decide +kernel), hc, _, (e5 D nD).trans hy, small1000 (by rw [List.length_map]; omega), ys ++ [⟨#[c]⟩], ?_, by rw [List.length_append, hl]; rfl, ?_, ?_, ?_⟩
          · rw [upd_same, List.map_append] <;> rfl
          · intro y m
            rcases List.mem_append.mp m with m | m
            · exact hz y m
            · rw [List.mem_singleton.mp m]; exact ⟨Nat.le_refl _, letters_sok.one mc⟩
          · obtain ⟨c1, n1, z1, z2, z3⟩ := hp5
            exact ⟨c1, n1, by rw [upd_ne nD.symm]; exact z1, z2, z3⟩
          · intro b u hb e
            have q := kept_eq kk e5 b u hb e
            rw [upd_ne ?_]
            · exact q
            · intro z
              subst z
              rw [e2 _ hb, e1 _ hb, e] at hD
              cases hD
        · rintro H' ⟨ys, hy, hl, hz, hq, kk⟩
          have hs := sum_short ys fun y hy => (hz y hy).1
          have hj := join_short ys fun y hy => (hz y hy).1
          have kj := join_sok ys fun y hy => (hz y hy).2
          refine ⟨_, D, ys, rfl, rfl, .inl (SqL.of hy), ?_, ?_⟩
          · have e : (("" : Str)).length = 0 := by decide
            rw [e]
            omega
          · rw [TL.join_eq]
            generalize Str.join "" ys = t at hj kj
            have ht : t.length ≤ 9 := by omega
            have lt := small40 (n := t.length) (by omega)
            refine ⟨_, rfl, _, rfl, _, rfl, lt, _, _, rfl, rfl, p, _, rfl, hq, by omega, by omega, fun ca H5 a0 a1 hp5 e5 => ?_⟩
            have k5 := kept_eq kk e5
            refine ⟨_, rfl, rfl, _, rfl, ?_⟩
            refine ite2 (fun _ => ?_) (fun _ => ?_)
            · refine ⟨_, rfl, _, rfl, _, rfl, t, rfl, lt, ?_⟩
              refine ⟨_, rfl, _, rfl, _, rfl, _, rfl, (by decide +kernel), p, _, rfl, hp5, (by decide +kernel), (by decide +kernel), fun r H6 r0 r1 hp6 e6 => ?_⟩
              obtain ⟨c, hc, mc⟩ := at_any (xs := ((" !#$&'()*+,-./0123456789:;<=>?@ABCDEFGHIJKLMNOPQRSTUVWXYZ[]^_`abcdefghijklmnopqrstuvwxyz{|}~" : Str)).cps.toList) r0 (by rw [Array.length_toList]; exact r1)
              have c1 := cutS_length t none (some ca)
              have o1 := one_sign c
              refine ⟨_, _, c, rfl, rfl, (by decide +kernel), hc, _, _, rfl, rfl, small40 (by omega), ?_⟩
              refine ⟨_, rfl, _, rfl, _, rfl, t, rfl, lt, ?_⟩
              have c2 := cutS_length t (some ca) none
              refine ⟨_, _, rfl, rfl, ?_, k _ _ ?_ (((kj.cut _ _).app (signs_sok.one mc)).app (kj.cut _ _)) (kept_eq k5 e6)⟩
              · rw [len_app]
                exact small40 (by omega)
              · rw [len_app, len_app]
                omega
            · refine ⟨_, rfl, rfl, _, rfl, ?_⟩
              refine ite2 (fun _ => ?_) (fun _ => ?_)
              · refine ⟨_, rfl, _, rfl, _, rfl, t, rfl, lt, ?_⟩
                refine ⟨_, rfl, _, rfl, _, rfl, _, rfl, (by decide +kernel), p, _, rfl, hp5, (by decide +kernel), (by decide +kernel), fun r H6 r0 r1 hp6 e6 => ?_⟩
                obtain ⟨c, hc, mc⟩ := at_any (xs := ((" !#$&'()*+,-./0123456789:;<=>?@ABCDEFGHIJKLMNOPQRSTUVWXYZ[]^_`abcdefghijklmnopqrstuvwxyz{|}~" : Str)).cps.toList) r0 (by rw [Array.length_toList]; exact r1)
                have c1 := cutS_length t none (some ca)
                have o1 := one_sign c
                refine ⟨_, _, c, rfl, rfl, (by decide +kernel), hc, _, _, rfl, rfl, small40 (by omega), ?_⟩
                refine ⟨_, rfl, _, rfl, _, _, rfl, rfl, _, rfl, t, rfl, lt, ?_⟩
                have c2 := cutS_length t (some (ca + 1)) none
                refine ⟨_, _, rfl, rfl, ?_, k _ _ ?_ (((kj.cut _ _).app (signs_sok.one mc)).app (kj.cut _ _)) (kept_eq k5 e6)⟩
                · rw [len_app]
                  exact small40 (by omega)
                · rw [len_app, len_app]
                  omega
              · exact ⟨_, rfl, k _ _ (by omega) kj k5⟩
end
/-- a def with its code object told -/
structure FunC (K : PySem.W.Frag) (x qual : Str) (st : Stmt) (f : Addr) (fd : FuncData) (c : Addr) : Prop where
  ex : ∃ (oc : Value) (od : Option Addr) (kV doc pm : Value) (an : Option Addr) (ct : Value) (osl : Array (Option Value)),
    fd = PySem.W.fnOf x qual (defArgs st) (defBody st) (defScope st) .none kV doc pm an (.ref c) ct ∧ K.lookup f = some ⟨oc, od, .func fd, osl⟩ ∧ PySem.W.codeIn K (.ref c) qual = true
  kp : PySem.W.keepIn K (.ref f) = true
theorem FunC.fun {K : PySem.W.Frag} {x qual : Str} {st : Stmt} {f : Addr} {fd : FuncData} {c : Addr} (F : FunC K x qual st f fd c) : Fun K x qual st f fd := by
  obtain ⟨oc, od, kV, doc, pm, an, ct, osl, h1, h2, h3⟩ := F.ex
  exact ⟨⟨oc, od, kV, doc, pm, an, _, ct, osl, h1, h2, h3⟩, F.kp⟩
theorem FunC.ok {P : Program} {w : World} {K : PySem.W.Frag} {mg : Str → Option Value} {base : Heap} {x qual : Str} {st : Stmt} {f : Addr} {fd : FuncData} {c : Addr} {N ps : List Str} {k : Nat} {sp : Sp} (F : FunC K x qual st f fd c) (S : FnScope N ps (defScope st))
    (len : ∀ vs H Q E, sp vs H Q E → vs.length = ps.length)
    (body : ∀ (A : Around) (outer : List Env) (s : Shared) (H : Hp) (vs : List V) (Q : VK) (E : XK), Room k (A.deeper (PyProof.Rows.envOfC qual (defScope st) s.heap.objs.size f (.ref c))) → sp vs H Q E →
      ∃ t, PSs (cxOf CX0 P w K mg base N qual (defScope st) f (.ref c) A outer s H E).nox (defBody st) t ∧ t { nx := fun _ H' => Q .non H', rt := Q } (start N vs) H) : FnOk P w K mg base CX0 (k + 1) f fd ps sp := by
  obtain ⟨oc, od, kV, doc, pm, an, ct, osl, rfl, lk, hcd⟩ := F.ex
  refine fn_of lk hcd S len fun A outer s H vs Q E hr hsp => ?_
  obtain ⟨t, h, q⟩ := body A outer s H vs Q E hr hsp
  exact ⟨t, h.nox, q⟩
/-! tables of code objects -/
/-- the top's record of a def: its code object and its empty table -/
def Told (q : Program) (mg : Str → Option Value) (h : Heap) : Prop :=
  ∀ d ∈ PyProof.Rows.recsOf q, ∃ (f : Addr) (o : Obj) (fd : FuncData) (c P : Addr), mg d.name = some (.ref f) ∧ h.get? f = some o ∧ o.data = .func fd ∧ fd.code = .ref c ∧ h.IsCode c P #[] ∧ h.TableAt c P #[]
theorem Told.tab {q : Program} {mg : Str → Option Value} {h : Heap} (T : Told q mg h) {K : PySem.W.Frag} (X : K.In h) {x : Str} (hx : ((PyProof.Rows.recsOf q).any fun e => e.name == x) = true) {f c P : Addr} (hm : mg x = some (.ref f))
    {oc : Value} {od : Option Addr} {fd : FuncData} {osl : Array (Option Value)} (l : K.lookup f = some ⟨oc, od, .func fd, osl⟩) (hc : fd.code = .ref c)
    {e : Value} {dd : Option Addr} {vs : Array Value} {sl : Array (Option Value)} (lc : K.lookup c = some ⟨e, dd, .fields vs, sl⟩) (h11 : vs[11]? = some (.ref P)) :
    PySem.W.CodeHd h c P ∧ h.get? P = some { cls := .none, data := .fields #[] } := by
  obtain ⟨d, hd, he⟩ := List.any_eq_true.mp hx
  have hn : d.name = x := beq_iff_eq.mp he
  obtain ⟨f1, o1, fd1, c1, P1, g1, g2, g3, g4, g5, g6⟩ := T d hd
  rw [hn, hm] at g1
  obtain rfl : f = f1 := by injection (Option.some.inj g1)
  rw [X _ _ l] at g2
  obtain rfl := Option.some.inj g2
  obtain rfl : fd = fd1 := by injection g3
  rw [hc] at g4
  obtain rfl : c = c1 := by injection g4
  have hd' := PySem.W.CodeHd.of g5 g6
  obtain ⟨⟨o2, v2, e1, _, e3, e4⟩, hP⟩ := g6
  rw [X _ _ lc] at e1
  obtain rfl := Option.some.inj e1
  obtain rfl : vs = v2 := by injection e3
  rw [h11] at e4
  obtain rfl : P = P1 := by injection (Option.some.inj e4)
  exact ⟨hd', hP⟩
open PySem.Spec PyProof.Rows in
theorem walk_tabs {l : PySem.W.OpenLaw} {n k : Nat} {q : Program} {loose : List Str} {XP : (Str → Option Value) → Heap → Prop} {YP : World → Heap → Prop} {d : DefRec} {K : Params → PySem.W.Frag} {CX : World → CXT} {x : Str}
    (hn : l.most = some n) (hn2 : n ≤ sizeLine) (hdf : d.params.defaults = []) (hr : Room k callerA) (hY : ∀ (w : World) (h : Heap), YP w h → (K w.params).In h)
    (F : ∀ (w : World) (mg : Str → Option Value) (fa : Addr) (h : Heap), (K w.params).In h → h.Ns mainGlobals mg → mg d.name = some (.ref fa) → Told q mg h → LamX.LawAtS l w (K w.params) (CX w) k n x mg fa h)
    (hCX : ∀ (w : World) (H : Hp) (s : Shared) (e : Value) (s' : Shared), CX w [] H s (fun _ _ _ => False) e s' → False) :
    PySem.W.WalkO q loose XP YP l.row.toRowW d [] (fun f vs => PySem.call f vs) := by
  refine Att.attach_callB hn hdf ?_
  intro w s0 s1 mg mb fa o pm cd doc a vs ns G Y ho hd hcd hmg hobj hints hlen hbits hg
  have KX := hY w _ Y
  obtain ⟨fd, cs, sp, t1, t2, t3, hb, hsp, hF⟩ := F w mg fa _ KX G.T.g hmg G.T.tab
  exact LamX.law_callTs KX G.T.g G.T.b G.T.builtins G.T.nolimit hg t1 t2 t3 G.T.bmain hobj hints (Nat.le_trans hlen hn2) hr hF hb (fun H hH hS => hsp H a ns hlen hbits hH hS) fun H e s' => hCX w H s1 e s'
theorem tb_conv {base : Heap} {mg : Str → Option Value} {c P : Addr} (h : LamX.TabB base mg c P) : GxR.TabB base mg c P := ⟨h.code, h.bm, h.gP⟩
open GxR
abbrev sMark : Stmt := top 4
abbrev sName : Stmt := top 5
abbrev sNumb : Stmt := top 6
def low : List Nat := ((("abcdefghijklmnopqrstuvwxyz" : Str)).cps.toList)
def figs : List Nat := ((("0123456789" : Str)).cps.toList)
def isMark (z : Str) : Bool := decide (1 ≤ z.length ∧ z.length ≤ 6) && z.cps.toList.all fun c => decide (c ∈ low)
theorem isi_at {X : Cx} {K : PySem.W.Frag} (e : X.K = K) : CallR X (.builtin "isinstance") (rIsi K) := by
  rw [← e]
  exact call_isi
theorem boot_isi : bootBuiltins "isinstance" = some (.builtin "isinstance") := by decide +kernel
theorem boot_strT : bootBuiltins "str" = some (.type "str") := by decide +kernel
theorem boot_allB : bootBuiltins "all" = some (.builtin "all") := by decide +kernel
theorem boot_boolT : bootBuiltins "bool" = some (.type "bool") := by decide +kernel
theorem genS_mk {env : Env} {scope : Scope} {x : Str} (h1 : scope.kind = .function) (h2 : scope.isCoroutine = false) (h3 : ∀ y ∈ scope.names, y.2 ≠ .cell ∧ y.2 ≠ .free) (h4 : scope.names.lookup (".0" : Str) = some NameKind.local) (h5 : scope.names.lookup x = some .local) : GenS env scope x :=
  ⟨h1, h2, fun y hy => (h3 y hy).1, h4, h5, fun y hy e => absurd e (h3 y hy).2⟩
theorem Tabbed.rfl' {P : Addr} {H : Hp} (h : TabG H P) : Tabbed P H H := ⟨h, fun _ _ => rfl⟩
def TbN (P1 P2 : Addr) (H H' : Hp) : Prop := (TabG H P1 → TabG H' P1) ∧ (TabG H P2 → TabG H' P2) ∧ ∀ b o, b ≠ P1 → b ≠ P2 → H b = some o → H' b = some o
def spMark (P1 : Addr) : Sp := fun vs H Q _ => ∃ z : Str, vs = [.str z] ∧ z.length ≤ 1000 ∧ TabG H P1 ∧ ∀ H', Tabbed P1 H H' → Q (.bl (isMark z)) H'
section
variable {P : Program} {w : World} {K : PySem.W.Frag} {mg : Str → Option Value} {base : Heap}
theorem scMark : FnScope ["text"] ["text"] (defScope sMark) := ⟨rfl, rfl, rfl, by decide +kernel, rfl, by decide +kernel, by decide +kernel⟩
theorem ok_mark {f c P1 : Addr} {fd : FuncData} {t1 t2 : Tok} (F : FunC K "is_mark" "is_mark" sMark f fd c) (TB : TabB base mg c P1) (mIs : mg "isinstance" = none) (mStr : mg "str" = none) (mLen : mg "len" = none) (mAll : mg "all" = none)
    (gL : mg "LETTERS" = some (.str "abcdefghijklmnopqrstuvwxyz" t1)) (gN : mg "LONGEST" = some (.int 6 t2)) : FnOk P w K mg base CX0 1 f fd ["text"] (spMark P1) := by
  refine F.ok scMark (fun vs H Q E h => ?_) (fun A outer s H vs Q E hr h => ?_)
  · obtain ⟨z, rfl, _⟩ := h
    rfl
  · obtain ⟨z, rfl, hz, ht, k⟩ := h
    refine ⟨_, pss_cons (ps_if (PW.pt (pw_or (pt_not (pt_val (pe_callB (isi_at (K := K) rfl) (by rfl) mIs boot_isi (pa_cons (pv 0) (pa_cons (pe_bltn (v := .ty "str") (by rfl) mStr boot_strT rfl) pa_nil)))))
          (pw_or1 (pt_not (pt_chain op_le op_le pe_int (pe_callB call_len_str (by rfl) mLen PySem.boot_len (pa_cons (pv 0) pa_nil)) (pe_glob (v := .int 6) (by rfl) gN ⟨_, rfl⟩)))))) (pss_one (ps_ret pe_bl)) pss_nil)
      (pss_one (ps_ret (Kg.pe_allG hr (by rfl) mAll boot_allB TB rfl (genS_mk rfl rfl (by decide +kernel) rfl rfl) (pv 0) (Kg.elt_in rfl rfl rfl gL) (fun _ => rfl)))), ?_⟩
    refine ⟨_, rfl, _, _, _, _, true, rfl, .ty "str", .base (.str z), kit_ty (by decide +kernel), true, rfl, ?_⟩
    refine iteF ?_
    refine ⟨_, rfl, z, rfl, small40 hz, _, _, rfl, rfl, ?_⟩
    refine ⟨_, rfl, ?_⟩
    by_cases h1 : (1 : Int) ≤ (z.length : Int)
    · rw [decide_eq_true h1]
      refine iteT ?_
      refine ⟨_, _, rfl, rfl, _, rfl, ?_⟩
      by_cases h2 : (z.length : Int) ≤ 6
      · rw [decide_eq_true h2]
        refine iteF ?_
        refine ⟨_, rfl, z, rfl, ht, fun H2 hT => ?_⟩
        have e : isMark z = z.cps.toList.all fun c => decide (c ∈ low) := by
          unfold isMark
          rw [decide_eq_true (by omega), Bool.true_and]
        have q := k H2 hT
        rw [e] at q
        exact q
      · rw [decide_eq_false h2]
        refine iteT ?_
        have e : isMark z = false := by
          unfold isMark
          rw [decide_eq_false (by omega), Bool.false_and]
        have q := k H (Tabbed.rfl' ht)
        rw [e] at q
        exact q
    · rw [decide_eq_false h1]
      refine iteF ?_
      refine ⟨_, rfl, ?_⟩
      refine iteT ?_
      have e : isMark z = false := by
        unfold isMark
        rw [decide_eq_false (by omega), Bool.false_and]
      have q := k H (Tabbed.rfl' ht)
      rw [e] at q
      exact q
end
def isNumb (z : Str) : Bool := decide (z.length = 2 ∨ z.length = 3) && (z.cps.toList[0]? == some 120) && !(z.cps.toList[1]? == some 48 && decide (z.length = 3)) && (z.cps.toList.drop 1).all fun c => decide (c ∈ figs)
theorem same_new {H : Hp} {p : Addr} {o : HO} (h : H p = none) : Same H (upd H p o) := fun b u e => by
  rw [upd_ne (ne_of_none e h)]
  exact e
theorem in23 (n : Nat) : inV (.int (n : Int)) [.int 2, .int 3] = decide (n = 2 ∨ n = 3) := by
  show ((2 : Int) == (n : Int) || ((3 : Int) == (n : Int) || false)) = _
  by_cases h2 : n = 2
  · subst h2; rfl
  · by_cases h3 : n = 3
    · subst h3; rfl
    · rw [decide_eq_false (by omega), beq_false_of_ne (by omega), beq_false_of_ne (by omega)]
      rfl
theorem x_sign : ("x" : Str) = ⟨#[120]⟩ := by decide +kernel
theorem o_sign : ("0" : Str) = ⟨#[48]⟩ := by decide +kernel
def spNumb (P2 : Addr) : Sp := fun vs H Q _ => ∃ z : Str, vs = [.str z] ∧ z.length ≤ 1000 ∧ TabG H P2 ∧ ∀ H', TabG H' P2 → (∀ b o, b ≠ P2 → H b = some o → H' b = some o) → Q (.bl (isNumb z)) H'
theorem sign_eq (c : Nat) (k : Nat) : decide (V.str ⟨#[c]⟩ = V.str ⟨#[k]⟩) = (c == k) := by
  by_cases h : c = k
  · subst h
    rw [decide_eq_true rfl, beq_self_eq_true]
  · rw [decide_eq_false (by intro z; injection z with z; injection z with z; simp at z; exact h z), beq_false_of_ne h]
section
variable {P : Program} {w : World} {K : PySem.W.Frag} {mg : Str → Option Value} {base : Heap}
theorem scNumb : FnScope ["text"] ["text"] (defScope sNumb) := ⟨rfl, rfl, rfl, by decide +kernel, rfl, by decide +kernel, by decide +kernel⟩
theorem ok_numb {f c P2 : Addr} {fd : FuncData} {t1 : Tok} (F : FunC K "is_numbered" "is_numbered" sNumb f fd c) (TB : TabB base mg c P2) (mIs : mg "isinstance" = none) (mStr : mg "str" = none) (mLen : mg "len" = none) (mAll : mg "all" = none)
    (gL : mg "FIGURES" = some (.str "0123456789" t1)) : FnOk P w K mg base CX0 1 f fd ["text"] (spNumb P2) := by
  refine F.ok scNumb (fun vs H Q E h => ?_) (fun A outer s H vs Q E hr h => ?_)
  · obtain ⟨z, rfl, _⟩ := h
    rfl
  · obtain ⟨z, rfl, hz, ht, k⟩ := h
    refine ⟨_, pss_cons (ps_if (PW.pt (pw_or (pt_not (pt_val (pe_callB (isi_at (K := K) rfl) (by rfl) mIs boot_isi (pa_cons (pv 0) (pa_cons (pe_bltn (v := .ty "str") (by rfl) mStr boot_strT rfl) pa_nil)))))
          (pw_or (pt_cmpR op_notIn_seq (pe_callB call_len_str (by rfl) mLen PySem.boot_len (pa_cons (pv 0) pa_nil)) (pe_tup (pa_cons pe_int (pa_cons pe_int pa_nil))) (by rfl))
          (pw_or1 (pt_cmpR op_ne (pe_ix ix_str (pv 0) pe_int (fun _ _ => rfl)) pe_str (nomark _)))))) (pss_one (ps_ret pe_bl)) pss_nil)
      (pss_cons (ps_if (PW.pt (pw_and (pt_cmpR op_eq (pe_ix ix_str (pv 0) pe_int (fun _ _ => rfl)) pe_str (nomark _)) (pw_and1 (pt_cmpR op_eq (pe_callB call_len_str (by rfl) mLen PySem.boot_len (pa_cons (pv 0) pa_nil)) pe_int (nomark _))))) (pss_one (ps_ret pe_bl)) pss_nil)
      (pss_one (ps_ret (Kg.pe_allG hr (by rfl) mAll boot_allB TB rfl (genS_mk rfl rfl (by decide +kernel) rfl rfl) (pe_slice sl_str (pv 0) (po_some pe_int) po_none) (Kg.elt_in rfl rfl rfl gL) (fun _ => rfl))))), ?_⟩
    have lz : z.cps.toList.length = z.length := Array.length_toList
    refine ⟨_, rfl, _, _, _, _, true, rfl, .ty "str", .base (.str z), kit_ty (by decide +kernel), true, rfl, ?_⟩
    refine iteF ?_
    refine ⟨_, rfl, z, rfl, small40 hz, by show 2 ≤ sizeLine; decide, fun t hT => ?_⟩
    have s1 := same_new (o := .tup [.int 2, .int 3]) hT
    have f1 : (upd H t (.tup [.int 2, .int 3])) t = some (.tup [.int 2, .int 3]) := upd_same
    have ht1 : TabG (upd H t (.tup [.int 2, .int 3])) P2 := by
      obtain ⟨ps, e, tr⟩ := ht
      exact ⟨ps, s1 _ _ e, tr⟩
    generalize upd H t (.tup [.int 2, .int 3]) = H1 at *
    refine ⟨t, _, rfl, .inr (SqT.of f1), rfl, rfl, _, rfl, ?_⟩
    show ite ((!inV (.int (z.length : Int)) [.int 2, .int 3]) = true) _ _
    rw [in23]
    by_cases h23 : z.length = 2 ∨ z.length = 3
    · rw [decide_eq_true h23]
      refine iteF ?_
      obtain ⟨c0, c1, e0, e1⟩ : ∃ c0 c1, z.cps.toList[0]? = some c0 ∧ z.cps.toList[1]? = some c1 := by
        have l2 : 2 ≤ z.cps.toList.length := by omega
        exact ⟨_, _, List.getElem?_eq_getElem (by omega), List.getElem?_eq_getElem (by omega)⟩
      refine ⟨_, rfl, _, _, c0, rfl, rfl, small40 hz, atI_nat (j := 0) e0, rfl, _, rfl, ?_⟩
      rw [x_sign, sign_eq]
      by_cases h0 : c0 = 120
      · subst h0
        refine iteF ?_
        refine ⟨_, rfl, _, _, c1, rfl, rfl, small40 hz, atI_nat (j := 1) e1, rfl, _, rfl, ?_⟩
        rw [o_sign, sign_eq]
        have fin : (¬ (c1 = 48 ∧ z.length = 3)) → isNumb z = (z.cps.toList.drop 1).all fun c => decide (c ∈ figs) := fun n => by
          unfold isNumb
          rw [decide_eq_true h23, e0, e1]
          have e : (some c1 == some 48 && decide (z.length = 3)) = false := by
            by_cases hc : c1 = 48
            · rw [decide_eq_false (fun z3 => n ⟨hc, z3⟩), Bool.and_false]
            · have : (some c1 == some 48) = false := by simp [hc]
              rw [this, Bool.false_and]
          rw [e]
          simp
        have run : (¬ (c1 = 48 ∧ z.length = 3)) → tRet (tAllS P2 (fun c => decide (c ∈ (("0123456789" : Str)).cps.toList)) (tSl rSlS (tVar 0) (tPart (tC (V.int 1))) tNoPart)) { nx := fun _ H' => Q .non H', rt := Q } (start ["text"] [V.str z]) H1 := fun n => by
          refine ⟨_, rfl, _, rfl, z, rfl, small40 hz, _, rfl, ht1, fun H2 hT2 => ?_⟩
          have q := k H2 hT2.1 fun b o nb e => (hT2.2 b nb).trans (s1 _ _ e)
          rw [fin n] at q
          have ed : (cutS z (some 1) none).cps.toList = z.cps.toList.drop 1 := by
            unfold cutS
            rw [show ((1 : Int)) = ((1 : Nat) : Int) from rfl, HT.sIx_nat, HT.sIx_none]
            rw [Nat.min_eq_left (by omega)]
            show ((z.cps.toList.drop 1).take (z.length - 1)).toArray.toList = _
            rw [List.toList_toArray]
            exact List.take_of_length_le (by rw [List.length_drop, lz]; exact Nat.le_refl _)
          rw [ed]
          exact q
        by_cases hc : c1 = 48
        · subst hc
          refine iteT ?_
          refine ⟨_, rfl, z, rfl, small40 hz, rfl, _, rfl, ?_⟩
          by_cases h3 : z.length = 3
          · refine ite2 (fun _ => ?_) (fun n => absurd (decide_eq_true (by rw [h3]; rfl)) n)
            have e : isNumb z = false := by
              unfold isNumb
              rw [e1, decide_eq_true h3]
              simp
            have q := k H1 ht1 fun b o nb e => s1 _ _ e
            rw [e] at q
            exact q
          · refine ite2 (fun y => ?_) (fun _ => run fun n => h3 n.2)
            have y' := of_decide_eq_true y
            injection y' with y'
            omega
        · rw [beq_false_of_ne hc]
          exact iteF (run fun n => hc n.1)
      · rw [beq_false_of_ne h0]
        refine iteT ?_
        have e : isNumb z = false := by
          unfold isNumb
          rw [e0]
          simp [h0]
        have q := k H1 ht1 fun b o nb e => s1 _ _ e
        rw [e] at q
        exact q
    · rw [decide_eq_false h23]
      refine iteT ?_
      have e : isNumb z = false := by
        unfold isNumb
        rw [decide_eq_false h23]
        rfl
      have q := k H1 ht1 fun b o nb e => s1 _ _ e
      rw [e] at q
      exact q
end
abbrev sLaw : Stmt := top 11
def nameV (k : Nat) : V := .str ("x" ++ PySem.Str.ofString (toString (k : Int)))
def namesV : List V := (List.range 100).map nameV
/-! the numbered names are those of the list -/
theorem numb_all : ∀ k : Nat, k < 100 → isNumb ("x" ++ PySem.Str.ofString (toString (k : Int))) = true := by decide +kernel
theorem numb_two : ∀ d : Nat, d < 10 → inV (.str ⟨#[120, 48 + d]⟩) namesV = true := by decide +kernel
theorem numb_three : ∀ d : Nat, d < 10 → ∀ e : Nat, e < 10 → d ≠ 0 → inV (.str ⟨#[120, 48 + d, 48 + e]⟩) namesV = true := by decide +kernel
theorem fig_of {c : Nat} (h : c ∈ figs) : ∃ d, d < 10 ∧ c = 48 + d := by
  have e : figs = [48, 49, 50, 51, 52, 53, 54, 55, 56, 57] := by decide +kernel
  rw [e] at h
  refine ⟨c - 48, ?_, ?_⟩ <;> (simp only [List.mem_cons, List.not_mem_nil, or_false] at h; omega)
theorem names_numb (z : Str) : inV (.str z) namesV = isNumb z := by
  rw [Bool.eq_iff_iff]
  constructor
  · intro h
    obtain ⟨v, hv, he⟩ := List.any_eq_true.mp h
    obtain ⟨k, hk, rfl⟩ := List.mem_map.mp hv
    have he' : ((("x" : Str) ++ PySem.Str.ofString (toString (k : Int))) == z) = true := he
    have e := eq_of_beq he'
    rw [← e]
    exact numb_all k (List.mem_range.mp hk)
  · intro h
    obtain ⟨⟨l⟩⟩ := z
    unfold isNumb at h
    simp only [Bool.and_eq_true, decide_eq_true_eq, beq_iff_eq, List.all_eq_true] at h
    obtain ⟨⟨⟨h1, h2⟩, h3⟩, h4⟩ := h
    have hl : (⟨⟨l⟩⟩ : Str).length = l.length := rfl
    rw [hl] at h1 h3
    change l[0]? = some 120 at h2
    match l, h1, h2, h3, h4 with
    | [c0, c1], _, h2, _, h4 =>
      obtain rfl : c0 = 120 := by simpa using h2
      obtain ⟨d, hd, rfl⟩ := fig_of (h4 c1 (by simp))
      exact numb_two d hd
    | [c0, c1, c2], _, h2, h3, h4 =>
      obtain rfl : c0 = 120 := by simpa using h2
      obtain ⟨d, hd, rfl⟩ := fig_of (h4 c1 (by simp))
      obtain ⟨e, he, rfl⟩ := fig_of (h4 c2 (by simp))
      refine numb_three d hd e he fun z => ?_
      subst z
      simp at h3
    | [], h1, _, _, _ => simp at h1
    | [_], h1, _, _, _ => simp at h1
    | _ :: _ :: _ :: _ :: _, h1, _, _, _ =>
      simp only [List.length_cons] at h1
      omega
def spName (P1 P2 : Addr) : Sp := fun vs H Q _ => ∃ z : Str, vs = [.str z] ∧ z.length ≤ 1000 ∧ TabG H P1 ∧ TabG H P2 ∧
  ∀ H', TabG H' P1 → TabG H' P2 → (∀ b o, (∀ ps, o ≠ .tbl ps) → H b = some o → H' b = some o) → Q (.bl (isMark z || isNumb z)) H'
theorem tab_non {H : Hp} {P b : Addr} {o : HO} (h : TabG H P) (n : ∀ ps, o ≠ .tbl ps) (e : H b = some o) : b ≠ P := fun z => by
  obtain ⟨ps, q, _⟩ := h
  rw [z, q] at e
  exact n ps (Option.some.inj e).symm
/-- what the law keeps -/
structure IN (K : PySem.W.Frag) (a Nm P1 P2 : Addr) (ns : List Int) (H : Hp) : Prop where
  t1 : TabG H P1
  t2 : TabG H P2
  nm : H Nm = some (.lst namesV)
  sc : SqL K H a (ns.map V.int)
theorem IN.step {K : PySem.W.Frag} {a Nm P1 P2 : Addr} {ns : List Int} {H H' : Hp} (i : IN K a Nm P1 P2 ns H) (g1 : TabG H' P1) (g2 : TabG H' P2) (f : ∀ b o, (∀ ps, o ≠ .tbl ps) → H b = some o → H' b = some o) : IN K a Nm P1 P2 ns H' := by
  refine ⟨g1, g2, f _ _ (fun _ z => by cases z) i.nm, ?_⟩
  rcases i.sc with (h | ⟨o, h⟩) | h
  · exact .inl (.inl (f _ _ (fun _ z => by cases z) h))
  · exact .inl (.inr ⟨o, f _ _ (fun _ z => by cases z) h⟩)
  · exact .inr h
theorem tab_same {H H' : Hp} {P : Addr} (h : TabG H P) (s : Same H H') : TabG H' P := by
  obtain ⟨ps, e, t⟩ := h
  exact ⟨ps, s _ _ e, t⟩
theorem IN.same {K : PySem.W.Frag} {a Nm P1 P2 : Addr} {ns : List Int} {H H' : Hp} (i : IN K a Nm P1 P2 ns H) (s : Same H H') : IN K a Nm P1 P2 ns H' := i.step (tab_same i.t1 s) (tab_same i.t2 s) fun b o _ e => s b o e
def spLaw (K : PySem.W.Frag) (P1 P2 : Addr) : Sp := fun vs H Q _ => ∃ (a : Addr) (ns : List Int), vs = [.ref a] ∧ SqL K H a (ns.map V.int) ∧ ns.length ≤ 63 ∧ TabG H P1 ∧ TabG H P2 ∧ ∀ H', Q (.bl true) H'
def sgn (c : Nat) : V := .str ⟨#[c]⟩
theorem sgn_dp {K : PySem.W.Frag} {H : Hp} : ∀ l : List Nat, DpAll K H (l.map sgn) (l.map fun c => PyData.str ⟨#[c]⟩)
  | [] => .nil
  | c :: r => .cons (.str _) (sgn_dp r)
theorem sgn_ok : ∀ l : List Nat, (∀ c ∈ l, c < 1114112) → PyData.canLayAll0 (l.map fun c => PyData.str ⟨#[c]⟩) = true ∧ PyData.depthAll (l.map fun c => PyData.str ⟨#[c]⟩) = 0
  | [], _ => ⟨by simp only [List.map_nil, PyData.canLayAll0], by simp only [List.map_nil, PyData.depthAll]⟩
  | c :: r, h => by
    obtain ⟨a, b⟩ := sgn_ok r fun d hd => h d (List.mem_cons_of_mem _ hd)
    have hc : PyData.canLay0 (.str ⟨#[c]⟩) = true := by
      simp only [PyData.canLay0]
      show (#[c]).all (fun x => decide (x < 0x110000)) = true
      have := h c List.mem_cons_self
      simp
      omega
    constructor
    · simp only [List.map_cons, PyData.canLayAll0, hc, a]
      rfl
    · simp only [List.map_cons, PyData.depthAll, PyData.depth, b]
      rfl
theorem eqv_nil (ds : List PyData) : PyData.eqv (.list ds) (.list []) = ds.isEmpty := by
  cases ds with
  | nil => simp only [PyData.eqv, PyData.eqvAll]; rfl
  | cons a r => simp only [PyData.eqv, PyData.eqvAll]; rfl
theorem two_bl (a b : Bool) : SeqAt.shaped (.list [.bool a, .bool b]) = true ∧ PyData.eqv (.list [.bool a, .bool b]) (.list [.bool a, .bool b]) = true := by
  cases a <;> cases b <;> decide +kernel
theorem mark_due (z : Str) (h : 0 < z.length ∧ z.length < 7) : ((z.cps.toList.filter fun c => !decide (c ∈ low)).map fun c => PyData.str ⟨#[c]⟩).isEmpty = isMark z := by
  unfold isMark
  rw [decide_eq_true (by omega), Bool.true_and, List.isEmpty_map, Bool.eq_iff_iff, List.isEmpty_iff, List.filter_eq_nil_iff, List.all_eq_true]
  constructor
  · intro q c hc
    have := q c hc
    simpa using this
  · intro q c hc
    have := q c hc
    simpa using this
section
variable {P : Program} {w : World} {K : PySem.W.Frag} {mg : Str → Option Value} {base : Heap}
theorem scName : FnScope ["text"] ["text"] (defScope sName) := ⟨rfl, rfl, rfl, by decide +kernel, rfl, by decide +kernel, by decide +kernel⟩
theorem ok_name {f f1 f2 P1 P2 : Addr} {fd fd1 fd2 : FuncData} (F : Fun K "is_name" "is_name" sName f fd)
    (G1 : FnOk P w K mg base CX0 1 f1 fd1 ["text"] (spMark P1)) (k1 : PySem.W.keepIn K (.ref f1) = true) (b1 : Binds K fd1 ["text"] []) (g1 : mg "is_mark" = some (.ref f1))
    (G2 : FnOk P w K mg base CX0 1 f2 fd2 ["text"] (spNumb P2)) (k2 : PySem.W.keepIn K (.ref f2) = true) (b2 : Binds K fd2 ["text"] []) (g2 : mg "is_numbered" = some (.ref f2)) (ne : P1 ≠ P2) :
    FnOk P w K mg base CX0 2 f fd ["text"] (spName P1 P2) := by
  refine F.ok scName (fun vs H Q E h => ?_) (fun cdv A outer s H vs Q E hr h => ?_)
  · obtain ⟨z, rfl, _⟩ := h
    rfl
  · obtain ⟨z, rfl, hz, t1, t2, k⟩ := h
    refine ⟨_, pss_one (ps_ret (pe_or (pe_call G1 hr (by rfl) g1 k1 b1 .nil pass0 (pa_cons (pv 0) pa_nil)) (pe_one (pe_call G2 hr (by rfl) g2 k2 b2 .nil pass0 (pa_cons (pv 0) pa_nil))))), ?_⟩
    refine ⟨_, rfl, z, rfl, hz, t1, fun H1 hT => ⟨isMark z, rfl, ?_⟩⟩
    have t2' : TabG H1 P2 := by
      obtain ⟨ps, e, tr⟩ := t2
      exact ⟨ps, (hT.2 P2 ne.symm).trans e, tr⟩
    have f1 : ∀ b o, (∀ ps, o ≠ .tbl ps) → H b = some o → H1 b = some o := fun b o n e => (hT.2 b (tab_non t1 n e)).trans e
    by_cases hm : isMark z = true
    · rw [hm]
      refine iteT ?_
      have q := k H1 hT.1 t2' f1
      rw [hm, Bool.true_or] at q
      exact q
    · have hm' : isMark z = false := by simpa using hm
      rw [hm']
      refine iteF ?_
      refine ⟨_, rfl, z, rfl, hz, t2', fun H2 g2 kp => ?_⟩
      have t1' : TabG H2 P1 := by
        obtain ⟨ps, e, tr⟩ := hT.1
        exact ⟨ps, kp _ _ ne e, tr⟩
      have q := k H2 t1' g2 fun b o n e => kp b o (tab_non t2 n e) (f1 b o n e)
      rw [hm', Bool.false_or] at q
      exact q
theorem scLaw : FnScope ["_law_script", "_law_k", "_law_names", "_law_text", "_law_due", "_law_found", "_law_sign"] ["_law_script"] (defScope sLaw) := ⟨rfl, rfl, rfl, by decide +kernel, rfl, by decide +kernel, by decide +kernel⟩
theorem ok_law {f f1 f2 f3 f4 f5 f6 c1 c2 P1 P2 : Addr} {fd fd1 fd2 fd3 fd4 fd5 fd6 : FuncData} {u1 u2 u3 : Tok} (F : Fun K "law" "law" sLaw f fd)
    (FP : Fun K "_law_pool" "_law_pool" sPool f1 fd1) (bP : Binds K fd1 ["_law_script", "_law_k"] []) (gP : mg "_law_pool" = some (.ref f1))
    (FT : Fun K "_law_take" "_law_take" sTake f2 fd2) (bT : Binds K fd2 ["_law_pool_here", "_law_many"] []) (gT : mg "_law_take" = some (.ref f2))
    (FD : Fun K "_law_drawn" "_law_drawn" sDrawn f3 fd3) (bD : Binds K fd3 ["_law_pool_here"] []) (gD : mg "_law_drawn" = some (.ref f3))
    (FN : Fun K "is_name" "is_name" sName f4 fd4) (bN : Binds K fd4 ["text"] []) (gN : mg "is_name" = some (.ref f4))
    (FM : FunC K "is_mark" "is_mark" sMark f5 fd5 c1) (bM : Binds K fd5 ["text"] []) (gM : mg "is_mark" = some (.ref f5))
    (FU : FunC K "is_numbered" "is_numbered" sNumb f6 fd6 c2) (bU : Binds K fd6 ["text"] []) (gU : mg "is_numbered" = some (.ref f6)) (ne : P1 ≠ P2) (TB1 : TabB base mg c1 P1) (TB2 : TabB base mg c2 P2)
    (gL : mg "LETTERS" = some (.str "abcdefghijklmnopqrstuvwxyz" u1)) (gF : mg "FIGURES" = some (.str "0123456789" u2)) (gX : mg "LONGEST" = some (.int 6 u3))
    (mLen : mg "len" = none) (mMax : mg "max" = none) (mMin : mg "min" = none) (mRange : mg "range" = none) (mStr : mg "str" = none) (mIs : mg "isinstance" = none) (mBool : mg "bool" = none) (mAll : mg "all" = none) :
    FnOk P w K mg base CX0 4 f fd ["_law_script"] (spLaw K P1 P2) := by
  have GP : FnOk P w K mg base CX0 1 f1 fd1 ["_law_script", "_law_k"] (spPool K) := ok_pool FP mLen
  have GD : FnOk P w K mg base CX0 2 f3 fd3 ["_law_pool_here"] spDrawn := ok_drawn FD FT bT gT mLen mRange mStr
  have GM : FnOk P w K mg base CX0 1 f5 fd5 ["text"] (spMark P1) := ok_mark FM TB1 mIs mStr mLen mAll gL gX
  have GU : FnOk P w K mg base CX0 1 f6 fd6 ["text"] (spNumb P2) := ok_numb FU TB2 mIs mStr mLen mAll gF
  have GN : FnOk P w K mg base CX0 2 f4 fd4 ["text"] (spName P1 P2) := ok_name FN GM FM.kp bM gM GU FU.kp bU gU ne
  refine F.ok scLaw (fun vs H Q E h => ?_) (fun cdv A outer s H vs Q E hr h => ?_)
  · obtain ⟨a, ns, rfl, _⟩ := h
    rfl
  · obtain ⟨a, ns, rfl, hS, hl, ht1, ht2, k⟩ := h
    have hr1 : Room 1 _ := hr.mono (by omega)
    have hr2 : Room 2 _ := hr.mono (by omega)
    refine ⟨_, pss_cons (ps_setLc (i := 2) (own := [("_law_k", 1)]) (g := gName 1) (by rfl) scLaw.nd rfl rfl (sw_true rfl rfl rfl (by decide +kernel)) (pi_range1 (by rfl) mRange (pa_cons pe_int pa_nil))
        (blkOk_by (N := ["_law_script", "_law_k", "_law_names", "_law_text", "_law_due", "_law_found", "_law_sign"]) (sc := defScope sLaw) (by decide +kernel)) (fun _ _ _ _ _ => pg_name (i := 1) scLaw.nd rfl (Or.inl rfl)) (fun _ _ _ _ _ => pts_nil)
        (fun _ _ _ _ _ => pe_op op_add_str pe_str (pe_callTy call_str_int (by rfl) mStr boot_strT (pa_cons (pv 1) pa_nil))))
      (pss_cons (ps_for PassesOwn.never rfl (pi_range1 (by rfl) mRange (pa_cons (pe_callB (call_max2 (by rfl)) (by rfl) mMax (by decide +kernel) (pa_cons pe_int (pa_cons (pe_callB (call_min2 (by rfl)) (by rfl) mMin (by decide +kernel) (pa_cons (pe_callB call_len_seq (by rfl) mLen PySem.boot_len (pa_cons (pv 0) pa_nil)) (pa_cons pe_int pa_nil))) pa_nil))) pa_nil)) (pg_name (i := 1) scLaw.nd rfl (Or.inl rfl))
        (pss_cons (ps_set (i := 3) scLaw.nd rfl (Or.inl rfl) (pe_call GD hr2 (by rfl) gD FD.kp bD .nil pass0 (pa_cons (pe_call GP hr1 (by rfl) gP FP.kp bP .nil pass0 (pa_cons (pv 0) (pa_cons (pv 1) pa_nil))) pa_nil)))
        (pss_cons (ps_set (i := 4) scLaw.nd rfl (Or.inl rfl) (pe_and (pe_chain op_lt op_lt pe_int (pe_callB call_len_str (by rfl) mLen PySem.boot_len (pa_cons (pv 3) pa_nil)) pe_int) (pe_one (pe_cmpR (op_eqD hr.units) (pe_lc (own := [("_law_sign", 6)]) (g := gName 6) (by rfl) scLaw.nd (pi_str (pv 3))
            (blkOk_by (N := ["_law_script", "_law_k", "_law_names", "_law_text", "_law_due", "_law_found", "_law_sign"]) (sc := defScope sLaw) (by decide +kernel)) (fun _ _ _ _ _ => pg_name (i := 6) scLaw.nd rfl (Or.inl rfl)) (fun _ _ _ _ _ => pts_one (pt_cmpR op_notIn_sign (pv 6) pe_str (by rfl))) (fun _ _ _ _ _ => pv 6)) (pe_lst pa_nil) (nomark _)))))
        (pss_cons (ps_set (i := 5) scLaw.nd rfl (Or.inl rfl) (pe_lst (pa_cons (pe_call GM hr1 (by rfl) gM FM.kp bM .nil pass0 (pa_cons (pv 3) pa_nil)) (pa_cons (pe_call GN hr2 (by rfl) gN FN.kp bN .nil pass0 (pa_cons (pv 3) pa_nil)) pa_nil))))
        (pss_cons (ps_if (PW.pt (pw_or (pt_not (pt_val (pe_callB (isi_at (K := K) rfl) (by rfl) mIs boot_isi (pa_cons (pe_ix ix_list (pv 5) pe_int (fun _ _ => rfl)) (pa_cons (pe_bltn (v := .ty "bool") (by rfl) mBool boot_boolT rfl) pa_nil)))))
            (pw_or1 (pt_not (pt_val (pe_callB (isi_at (K := K) rfl) (by rfl) mIs boot_isi (pa_cons (pe_ix ix_list (pv 5) pe_int (fun _ _ => rfl)) (pa_cons (pe_bltn (v := .ty "bool") (by rfl) mBool boot_boolT rfl) pa_nil)))))))) (pss_one (ps_ret pe_bl)) pss_nil)
        (pss_one (ps_if (pt_cmpR (op_neD hr.units) (pv 5) (pe_lst (pa_cons (pv 4) (pa_cons (pe_or (pv 4) (pe_one (pe_cmpR op_in_seq (pv 3) (pv 2) (by rfl)))) pa_nil))) (nomark _)) (pss_one (ps_ret pe_bl)) pss_nil)))))))
      (pss_one (ps_ret pe_bl))), ?_⟩
    refine ⟨100, rfl, by decide, by decide, fun Nm hNm => lc_range (lo := 0) (n := 100) (fun i H' => H' Nm = some (.lst ((List.range i).map nameV)) ∧ Same H H') ⟨upd_same, same_new hNm⟩ ?_ ?_⟩
    · rintro i H' hi ⟨q1, q2⟩
      refine ⟨rfl, ?_⟩
      unfold tYes
      dsimp only
      rw [if_pos rfl]
      have sm := str_small i (by omega)
      have lx : (("x" : Str)).length = 1 := by decide
      refine ⟨_, rfl, _, rfl, ?_, ?_⟩
      · rw [Int.zero_add]
        exact sm.2
      rw [Int.zero_add]
      refine ⟨_, _, rfl, rfl, small40 (by omega), _, q1, small1000 (by rw [List.length_map, List.length_range]; omega), ?_, ?_⟩
      · rw [upd_same, List.range_succ, List.map_append]
        rfl
      · intro b o e
        rw [upd_ne (ne_of_none e hNm)]
        exact q2 b o e
    · rintro H0 ⟨hN0, s0⟩
      have I0 : IN K a Nm P1 P2 ns H0 := ⟨tab_same ht1 s0, tab_same ht2 s0, hN0, by
        rcases hS with (h | ⟨o, h⟩) | h
        · exact .inl (.inl (s0 _ _ h))
        · exact .inl (.inr ⟨o, s0 _ _ h⟩)
        · exact .inr h⟩
      refine ⟨_, rfl, a, _, rfl, .inl I0.sc, _, _, rfl, _, _, rfl, ?_⟩
      rw [List.length_map]
      obtain ⟨j, hj, hj1, hj2⟩ : ∃ j : Int, (if (if (30 : Int) < (ns.length : Int) then 30 else (ns.length : Int)) > 1 then (if (30 : Int) < (ns.length : Int) then 30 else (ns.length : Int)) else 1) = j ∧ 1 ≤ j ∧ j ≤ 30 := ⟨_, rfl, by split <;> (try split) <;> omega, by split <;> (try split) <;> omega⟩
      rw [hj]
      refine ⟨j, rfl, by omega, by omega, for_range (lo := 0) (n := j.toNat) (fun i σ H2 => ∃ (i1 i3 i4 i5 i6 : Option V), σ = [some (.ref a), i1, some (.ref Nm), i3, i4, i5, i6] ∧ IN K a Nm P1 P2 ns H2) ⟨none, none, none, none, none, rfl, I0⟩ ?_ ?_⟩
      · rintro i σ H2 hi ⟨i1, i3, i4, i5, i6, rfl, I2⟩
        refine ⟨_, rfl, _, rfl, a, ns, i, by rw [Int.zero_add]; rfl, I2.sc, hl, by omega, fun p H3 hp0 hp e3 => ?_⟩
        refine ⟨p, rfl, hp, fun z H5 hz kz k5 => ?_⟩
        have s25 : Same H2 H5 := fun b o e => k5 b o (ne_of_none e hp0) ((e3 b (ne_of_none e hp0)).trans e)
        have I5 := I2.same s25
        have sLen := small40 (n := z.length) (by omega)
        -- what is due
        refine ⟨_, rfl, z, rfl, sLen, _, _, rfl, rfl, _, rfl, ?_⟩
        by_cases h0 : (0 : Int) < (z.length : Int)
        · rw [decide_eq_true h0]
          refine iteT ?_
          refine ⟨_, _, rfl, rfl, _, rfl, ?_⟩
          by_cases h7 : (z.length : Int) < 7
          · rw [decide_eq_true h7]
            refine iteT ?_
            have zl : z.cps.toList.length = z.length := Array.length_toList
            refine ⟨_, rfl, z, rfl, fun D hD => lc_it (walk_str (z := z)) (fun i H' => H' D = some (.lst (((z.cps.toList.take i).filter fun c => !decide (c ∈ low)).map sgn)) ∧ Same H5 H') ⟨upd_same, same_new hD⟩ (fun _ _ _ _ => trivial) ?_ ?_⟩
            · rintro i x H6 H7 hi ⟨q1, q2⟩ ⟨rfl, c, hc, rfl⟩
              have hc' : z.cps.toList[i]? = some c := by rw [Array.getElem?_toList]; exact hc
              have il : i < z.length := hi
              refine ⟨rfl, ?_⟩
              refine ⟨_, rfl, c, _, rfl, rfl, _, rfl, ?_⟩
              have step : (((z.cps.toList.take (i + 1)).filter fun c => !decide (c ∈ low)).map sgn) = (((z.cps.toList.take i).filter fun c => !decide (c ∈ low)).map sgn) ++ (([c].filter fun c => !decide (c ∈ low)).map sgn) := by
                rw [List.take_add_one, hc', List.filter_append, List.map_append]
                rfl
              by_cases hcl : c ∈ low
              · have e1 : (!decide (c ∈ (("abcdefghijklmnopqrstuvwxyz" : Str)).cps.toList)) = false := by
                  rw [decide_eq_true (show c ∈ (("abcdefghijklmnopqrstuvwxyz" : Str)).cps.toList from hcl)]
                  rfl
                refine ite2 (fun y => by rw [e1] at y; cases y) fun _ => ⟨?_, q2⟩
                rw [step, List.filter_cons_of_neg (by simp [hcl]), List.filter_nil, List.map_nil, List.append_nil]
                exact q1
              · have e1 : (!decide (c ∈ (("abcdefghijklmnopqrstuvwxyz" : Str)).cps.toList)) = true := by
                  rw [decide_eq_false (show ¬ c ∈ (("abcdefghijklmnopqrstuvwxyz" : Str)).cps.toList from hcl)]
                  rfl
                rw [e1]
                refine iteT ?_
                refine ⟨_, rfl, _, q1, small1000 ?_, ?_, ?_⟩
                · rw [List.length_map]
                  have := List.length_filter_le (fun c => !decide (c ∈ low)) (z.cps.toList.take i)
                  rw [List.length_take] at this
                  omega
                · rw [upd_same, step, List.filter_cons_of_pos (by simp [hcl]), List.filter_nil]
                  rfl
                · intro b o e
                  rw [upd_ne (ne_of_none e hD)]
                  exact q2 b o e
            · rintro H6 ⟨q1, q2⟩
              refine ⟨by show 0 ≤ sizeLine; decide, fun l hl8 => ?_⟩
              have s8 := same_new (o := .lst []) hl8
              have fl : z.cps.toList.take z.cps.size = z.cps.toList := List.take_of_length_le (by rw [zl]; exact Nat.le_refl _)
              rw [fl] at q1
              obtain ⟨ok1, ok2⟩ := sgn_ok (z.cps.toList.filter fun c => !decide (c ∈ low)) fun c hc => kz c (List.mem_filter.mp hc).1
              refine ⟨.list ((z.cps.toList.filter fun c => !decide (c ∈ low)).map fun c => PyData.str ⟨#[c]⟩), .list [], .lst (SqL.of (s8 _ _ q1)) (sgn_dp _), .lst (SqL.of upd_same) .nil, ?_, by decide +kernel, ?_⟩
              · unfold SeqAt.shaped
                simp only [PyData.canLay0, PyData.depth, ok1, ok2]
                rfl
              rw [eqv_nil, mark_due z ⟨by omega, by omega⟩]
              have I9 : IN K a Nm P1 P2 ns (upd H6 l (.lst [])) := I5.same (Same.trans q2 s8)
              generalize upd H6 l (.lst []) = H9 at *
              refine ⟨_, rfl, z, rfl, by omega, I9.t1, fun HA tA => ?_⟩
              have IA : IN K a Nm P1 P2 ns HA := I9.step tA.1 (by
                obtain ⟨ps, e, tr⟩ := I9.t2
                exact ⟨ps, (tA.2 P2 ne.symm).trans e, tr⟩) fun b o n e => (tA.2 b (tab_non I9.t1 n e)).trans e
              refine ⟨_, rfl, z, rfl, by omega, IA.t1, IA.t2, fun HB b1 b2 fB => ?_⟩
              have IB := IA.step b1 b2 fB
              refine ⟨by show 2 ≤ sizeLine; decide, fun fo hfo => ?_⟩
              have s8 := same_new (o := .lst [.bl (isMark z), .bl (isMark z || isNumb z)]) hfo
              have f8 : (upd HB fo (.lst [.bl (isMark z), .bl (isMark z || isNumb z)])) fo = some (.lst [.bl (isMark z), .bl (isMark z || isNumb z)]) := upd_same
              have IC := IB.same s8
              generalize upd HB fo (.lst [.bl (isMark z), .bl (isMark z || isNumb z)]) = HC at *
              refine ⟨_, rfl, fo, _, _, _, rfl, rfl, SqL.of f8, atI_nat (j := 0) rfl, _, _, _, _, true, rfl, .ty "bool", .base (.bl _), kit_ty (by decide +kernel), true, rfl, ?_⟩
              refine iteF ?_
              refine ⟨_, rfl, fo, _, _, _, rfl, rfl, SqL.of f8, atI_nat (j := 1) rfl, _, _, _, _, true, rfl, .ty "bool", .base (.bl _), kit_ty (by decide +kernel), true, rfl, ?_⟩
              refine iteF ?_
              refine ⟨_, rfl, _, rfl, _, rfl, _, rfl, ?_⟩
              have two := two_bl (isMark z) (isMark z || isNumb z)
              cases hm : isMark z with
              | true =>
                rw [hm] at f8 two
                refine iteT ?_
                refine ⟨by show 2 ≤ sizeLine; decide, fun l hl9 => ?_⟩
                have s9 := same_new (o := .lst [.bl true, .bl true]) hl9
                refine ⟨.list [.bool true, .bool true], .list [.bool true, .bool true], .lst (SqL.of (s9 _ _ f8)) (.cons (.bl _) (.cons (.bl _) .nil)), .lst (SqL.of upd_same) (.cons (.bl _) (.cons (.bl _) .nil)), two.1, two.1, _, rfl, ?_⟩
                exact ite2 (fun y => absurd y (by decide +kernel)) fun _ => ⟨_, _, _, _, _, rfl, IC.same s9⟩
              | false =>
                rw [hm] at f8 two
                refine iteF ?_
                refine ⟨_, rfl, _, rfl, Nm, _, rfl, .inl (SqL.of IC.nm), rfl, by decide +kernel, ?_⟩
                refine ⟨by show 2 ≤ sizeLine; decide, fun l hl9 => ?_⟩
                have s9 := same_new (o := .lst [.bl false, .bl (inV (.str z) namesV)]) hl9
                have u9 : (upd HC l (.lst [.bl false, .bl (inV (.str z) namesV)])) l = some (.lst [.bl false, .bl (inV (.str z) namesV)]) := upd_same
                refine ⟨.list [.bool false, .bool (isNumb z)], .list [.bool false, .bool (isNumb z)], .lst (SqL.of (s9 _ _ f8)) (.cons (.bl _) (.cons (.bl _) .nil)), .lst (SqL.of u9) (.cons (.bl _) (.cons (by rw [names_numb]; exact .bl _) .nil)), two.1, two.1, _, rfl, ?_⟩
                have e2 : PyData.eqv (.list [.bool false, .bool (isNumb z)]) (.list [.bool false, .bool (isNumb z)]) = true := two.2
                rw [e2]
                exact iteF ⟨_, _, _, _, _, rfl, IC.same s9⟩
          · rw [decide_eq_false h7]
            refine iteF ?_
            have em : isMark z = false := by
              unfold isMark
              rw [decide_eq_false (by omega), Bool.false_and]
            rw [← em]
            have I9 := I5
            refine ⟨_, rfl, z, rfl, by omega, I9.t1, fun HA tA => ?_⟩
            have IA : IN K a Nm P1 P2 ns HA := I9.step tA.1 (by
              obtain ⟨ps, e, tr⟩ := I9.t2
              exact ⟨ps, (tA.2 P2 ne.symm).trans e, tr⟩) fun b o n e => (tA.2 b (tab_non I9.t1 n e)).trans e
            refine ⟨_, rfl, z, rfl, by omega, IA.t1, IA.t2, fun HB b1 b2 fB => ?_⟩
            have IB := IA.step b1 b2 fB
            refine ⟨by show 2 ≤ sizeLine; decide, fun fo hfo => ?_⟩
            have s8 := same_new (o := .lst [.bl (isMark z), .bl (isMark z || isNumb z)]) hfo
            have f8 : (upd HB fo (.lst [.bl (isMark z), .bl (isMark z || isNumb z)])) fo = some (.lst [.bl (isMark z), .bl (isMark z || isNumb z)]) := upd_same
            have IC := IB.same s8
            generalize upd HB fo (.lst [.bl (isMark z), .bl (isMark z || isNumb z)]) = HC at *
            refine ⟨_, rfl, fo, _, _, _, rfl, rfl, SqL.of f8, atI_nat (j := 0) rfl, _, _, _, _, true, rfl, .ty "bool", .base (.bl _), kit_ty (by decide +kernel), true, rfl, ?_⟩
            refine iteF ?_
            refine ⟨_, rfl, fo, _, _, _, rfl, rfl, SqL.of f8, atI_nat (j := 1) rfl, _, _, _, _, true, rfl, .ty "bool", .base (.bl _), kit_ty (by decide +kernel), true, rfl, ?_⟩
            refine iteF ?_
            refine ⟨_, rfl, _, rfl, _, rfl, _, rfl, ?_⟩
            have two := two_bl (isMark z) (isMark z || isNumb z)
            cases hm : isMark z with
            | true =>
              rw [hm] at f8 two
              refine iteT ?_
              refine ⟨by show 2 ≤ sizeLine; decide, fun l hl9 => ?_⟩
              have s9 := same_new (o := .lst [.bl true, .bl true]) hl9
              refine ⟨.list [.bool true, .bool true], .list [.bool true, .bool true], .lst (SqL.of (s9 _ _ f8)) (.cons (.bl _) (.cons (.bl _) .nil)), .lst (SqL.of upd_same) (.cons (.bl _) (.cons (.bl _) .nil)), two.1, two.1, _, rfl, ?_⟩
              exact ite2 (fun y => absurd y (by decide +kernel)) fun _ => ⟨_, _, _, _, _, rfl, IC.same s9⟩
            | false =>
              rw [hm] at f8 two
              refine iteF ?_
              refine ⟨_, rfl, _, rfl, Nm, _, rfl, .inl (SqL.of IC.nm), rfl, by decide +kernel, ?_⟩
              refine ⟨by show 2 ≤ sizeLine; decide, fun l hl9 => ?_⟩
              have s9 := same_new (o := .lst [.bl false, .bl (inV (.str z) namesV)]) hl9
              have u9 : (upd HC l (.lst [.bl false, .bl (inV (.str z) namesV)])) l = some (.lst [.bl false, .bl (inV (.str z) namesV)]) := upd_same
              refine ⟨.list [.bool false, .bool (isNumb z)], .list [.bool false, .bool (isNumb z)], .lst (SqL.of (s9 _ _ f8)) (.cons (.bl _) (.cons (.bl _) .nil)), .lst (SqL.of u9) (.cons (.bl _) (.cons (by rw [names_numb]; exact .bl _) .nil)), two.1, two.1, _, rfl, ?_⟩
              have e2 : PyData.eqv (.list [.bool false, .bool (isNumb z)]) (.list [.bool false, .bool (isNumb z)]) = true := two.2
              rw [e2]
              exact iteF ⟨_, _, _, _, _, rfl, IC.same s9⟩
        · rw [decide_eq_false h0]
          refine iteF ?_
          refine ⟨_, rfl, ?_⟩
          refine iteF ?_
          have em : isMark z = false := by
            unfold isMark
            rw [decide_eq_false (by omega), Bool.false_and]
          rw [← em]
          have I9 := I5
          refine ⟨_, rfl, z, rfl, by omega, I9.t1, fun HA tA => ?_⟩
          have IA : IN K a Nm P1 P2 ns HA := I9.step tA.1 (by
            obtain ⟨ps, e, tr⟩ := I9.t2
            exact ⟨ps, (tA.2 P2 ne.symm).trans e, tr⟩) fun b o n e => (tA.2 b (tab_non I9.t1 n e)).trans e
          refine ⟨_, rfl, z, rfl, by omega, IA.t1, IA.t2, fun HB b1 b2 fB => ?_⟩
          have IB := IA.step b1 b2 fB
          refine ⟨by show 2 ≤ sizeLine; decide, fun fo hfo => ?_⟩
          have s8 := same_new (o := .lst [.bl (isMark z), .bl (isMark z || isNumb z)]) hfo
          have f8 : (upd HB fo (.lst [.bl (isMark z), .bl (isMark z || isNumb z)])) fo = some (.lst [.bl (isMark z), .bl (isMark z || isNumb z)]) := upd_same
          have IC := IB.same s8
          generalize upd HB fo (.lst [.bl (isMark z), .bl (isMark z || isNumb z)]) = HC at *
          refine ⟨_, rfl, fo, _, _, _, rfl, rfl, SqL.of f8, atI_nat (j := 0) rfl, _, _, _, _, true, rfl, .ty "bool", .base (.bl _), kit_ty (by decide +kernel), true, rfl, ?_⟩
          refine iteF ?_
          refine ⟨_, rfl, fo, _, _, _, rfl, rfl, SqL.of f8, atI_nat (j := 1) rfl, _, _, _, _, true, rfl, .ty "bool", .base (.bl _), kit_ty (by decide +kernel), true, rfl, ?_⟩
          refine iteF ?_
          refine ⟨_, rfl, _, rfl, _, rfl, _, rfl, ?_⟩
          have two := two_bl (isMark z) (isMark z || isNumb z)
          cases hm : isMark z with
          | true =>
            rw [hm] at f8 two
            refine iteT ?_
            refine ⟨by show 2 ≤ sizeLine; decide, fun l hl9 => ?_⟩
            have s9 := same_new (o := .lst [.bl true, .bl true]) hl9
            refine ⟨.list [.bool true, .bool true], .list [.bool true, .bool true], .lst (SqL.of (s9 _ _ f8)) (.cons (.bl _) (.cons (.bl _) .nil)), .lst (SqL.of upd_same) (.cons (.bl _) (.cons (.bl _) .nil)), two.1, two.1, _, rfl, ?_⟩
            exact ite2 (fun y => absurd y (by decide +kernel)) fun _ => ⟨_, _, _, _, _, rfl, IC.same s9⟩
          | false =>
            rw [hm] at f8 two
            refine iteF ?_
            refine ⟨_, rfl, _, rfl, Nm, _, rfl, .inl (SqL.of IC.nm), rfl, by decide +kernel, ?_⟩
            refine ⟨by show 2 ≤ sizeLine; decide, fun l hl9 => ?_⟩
            have s9 := same_new (o := .lst [.bl false, .bl (inV (.str z) namesV)]) hl9
            have u9 : (upd HC l (.lst [.bl false, .bl (inV (.str z) namesV)])) l = some (.lst [.bl false, .bl (inV (.str z) namesV)]) := upd_same
            refine ⟨.list [.bool false, .bool (isNumb z)], .list [.bool false, .bool (isNumb z)], .lst (SqL.of (s9 _ _ f8)) (.cons (.bl _) (.cons (.bl _) .nil)), .lst (SqL.of u9) (.cons (.bl _) (.cons (by rw [names_numb]; exact .bl _) .nil)), two.1, two.1, _, rfl, ?_⟩
            have e2 : PyData.eqv (.list [.bool false, .bool (isNumb z)]) (.list [.bool false, .bool (isNumb z)]) = true := two.2
            rw [e2]
            exact iteF ⟨_, _, _, _, _, rfl, IC.same s9⟩
      · rintro σ H2 ⟨i1, i3, i4, i5, i6, rfl, _⟩
        exact k H2
end
/-! the end -/
theorem all_mk {l : PySem.W.OpenLaw} {q : Program} {w : World} {K : PySem.W.Frag} {h : Heap} {mg : Str → Option Value} {fa f0 f1 f2 f3 f4 f5 f6 : Addr} (X : K.In h) (G : h.Ns mainGlobals mg) (hfa : mg "law" = some (.ref fa)) (T : Told q mg h)
    {od0 an0 od1 an1 od2 an2 od3 an3 od4 an4 od5 an5 od6 an6 : Option Addr}
    {sl0 sl1 sl2 sl3 sl4 sl5 sl6 : Array (Option Value)} {oc0 kV0 dc0 pm0 ct0 oc1 kV1 dc1 pm1 ct1 oc2 kV2 dc2 pm2 ct2 oc3 kV3 dc3 pm3 ct3 oc4 kV4 dc4 pm4 ct4 oc5 kV5 dc5 pm5 ct5 oc6 kV6 dc6 pm6 ct6 : Value}
    {cd0 cd1 cd2 cd3 cd4 : Value} {c5 P5 c6 P6 : Addr} {dd5 dd6 : Option Addr} {e5 e6 : Value} {v5 v6 : Array Value} {sx5 sx6 : Array (Option Value)}
    {u0 u1 u2 : Tok}
    (a0 : PySem.W.nsIn K mainGlobals "law" = some (some (.ref f0)))
    (l0 : K.lookup f0 = some ⟨oc0, od0, .func (PySem.W.fnOf "law" "law" (defArgs sLaw) (defBody sLaw) (defScope sLaw) .none kV0 dc0 pm0 an0 cd0 ct0), sl0⟩)
    (i0 : PySem.W.codeIn K cd0 "law" = true) (k0 : PySem.W.keepIn K (.ref f0) = true)
    (a1 : PySem.W.nsIn K mainGlobals "_law_pool" = some (some (.ref f1)))
    (l1 : K.lookup f1 = some ⟨oc1, od1, .func (PySem.W.fnOf "_law_pool" "_law_pool" (defArgs sPool) (defBody sPool) (defScope sPool) .none kV1 dc1 pm1 an1 cd1 ct1), sl1⟩)
    (i1 : PySem.W.codeIn K cd1 "_law_pool" = true) (k1 : PySem.W.keepIn K (.ref f1) = true)
    (a2 : PySem.W.nsIn K mainGlobals "_law_take" = some (some (.ref f2)))
    (l2 : K.lookup f2 = some ⟨oc2, od2, .func (PySem.W.fnOf "_law_take" "_law_take" (defArgs sTake) (defBody sTake) (defScope sTake) .none kV2 dc2 pm2 an2 cd2 ct2), sl2⟩)
    (i2 : PySem.W.codeIn K cd2 "_law_take" = true) (k2 : PySem.W.keepIn K (.ref f2) = true)
    (a3 : PySem.W.nsIn K mainGlobals "_law_drawn" = some (some (.ref f3)))
    (l3 : K.lookup f3 = some ⟨oc3, od3, .func (PySem.W.fnOf "_law_drawn" "_law_drawn" (defArgs sDrawn) (defBody sDrawn) (defScope sDrawn) .none kV3 dc3 pm3 an3 cd3 ct3), sl3⟩)
    (i3 : PySem.W.codeIn K cd3 "_law_drawn" = true) (k3 : PySem.W.keepIn K (.ref f3) = true)
    (a4 : PySem.W.nsIn K mainGlobals "is_name" = some (some (.ref f4)))
    (l4 : K.lookup f4 = some ⟨oc4, od4, .func (PySem.W.fnOf "is_name" "is_name" (defArgs sName) (defBody sName) (defScope sName) .none kV4 dc4 pm4 an4 cd4 ct4), sl4⟩)
    (i4 : PySem.W.codeIn K cd4 "is_name" = true) (k4 : PySem.W.keepIn K (.ref f4) = true)
    (a5 : PySem.W.nsIn K mainGlobals "is_mark" = some (some (.ref f5)))
    (l5 : K.lookup f5 = some ⟨oc5, od5, .func (PySem.W.fnOf "is_mark" "is_mark" (defArgs sMark) (defBody sMark) (defScope sMark) .none kV5 dc5 pm5 an5 (.ref c5) ct5), sl5⟩)
    (i5 : PySem.W.codeIn K (.ref c5) "is_mark" = true) (k5 : PySem.W.keepIn K (.ref f5) = true)
    (r5 : ((PyProof.Rows.recsOf q).any fun e => e.name == ("is_mark" : Str)) = true) (d5 : K.lookup c5 = some ⟨e5, dd5, .fields v5, sx5⟩) (j5 : v5[11]? = some (.ref P5)) (n5 : K.lookup P5 = none)
    (a6 : PySem.W.nsIn K mainGlobals "is_numbered" = some (some (.ref f6)))
    (l6 : K.lookup f6 = some ⟨oc6, od6, .func (PySem.W.fnOf "is_numbered" "is_numbered" (defArgs sNumb) (defBody sNumb) (defScope sNumb) .none kV6 dc6 pm6 an6 (.ref c6) ct6), sl6⟩)
    (i6 : PySem.W.codeIn K (.ref c6) "is_numbered" = true) (k6 : PySem.W.keepIn K (.ref f6) = true)
    (r6 : ((PyProof.Rows.recsOf q).any fun e => e.name == ("is_numbered" : Str)) = true) (d6 : K.lookup c6 = some ⟨e6, dd6, .fields v6, sx6⟩) (j6 : v6[11]? = some (.ref P6)) (n6 : K.lookup P6 = none)
    (ne5_6 : P5 ≠ P6)
    (y0 : PySem.W.nsIn K mainGlobals "LETTERS" = some (some (.str "abcdefghijklmnopqrstuvwxyz" u0)))
    (y1 : PySem.W.nsIn K mainGlobals "FIGURES" = some (some (.str "0123456789" u1)))
    (y2 : PySem.W.nsIn K mainGlobals "LONGEST" = some (some (.int 6 u2)))
    (z0 : PySem.W.nsIn K mainGlobals "len" = some none)
    (z1 : PySem.W.nsIn K mainGlobals "max" = some none)
    (z2 : PySem.W.nsIn K mainGlobals "min" = some none)
    (z3 : PySem.W.nsIn K mainGlobals "range" = some none)
    (z4 : PySem.W.nsIn K mainGlobals "str" = some none)
    (z5 : PySem.W.nsIn K mainGlobals "isinstance" = some none)
    (z6 : PySem.W.nsIn K mainGlobals "bool" = some none)
    (z7 : PySem.W.nsIn K mainGlobals "all" = some none) :
    LamX.LawAtS l w K CX0 4 63 "_law_script" mg fa h := by
  have e := hfa.symm.trans (PySem.W.mg_of X G a0)
  cases e
  have F0 := fun_mk (st := sLaw) l0 i0 k0
  have F1 := fun_mk (st := sPool) l1 i1 k1
  have g1 := PySem.W.mg_of X G a1
  have b1 := (F1).binds (ps := ["_law_script", "_law_k"]) fun _ _ _ _ _ _ us hl => match us, hl with | [_, _], _ => rfl
  have F2 := fun_mk (st := sTake) l2 i2 k2
  have g2 := PySem.W.mg_of X G a2
  have b2 := (F2).binds (ps := ["_law_pool_here", "_law_many"]) fun _ _ _ _ _ _ us hl => match us, hl with | [_, _], _ => rfl
  have F3 := fun_mk (st := sDrawn) l3 i3 k3
  have g3 := PySem.W.mg_of X G a3
  have b3 := (F3).binds (ps := ["_law_pool_here"]) fun _ _ _ _ _ _ us hl => match us, hl with | [_], _ => rfl
  have F4 := fun_mk (st := sName) l4 i4 k4
  have g4 := PySem.W.mg_of X G a4
  have b4 := (F4).binds (ps := ["text"]) fun _ _ _ _ _ _ us hl => match us, hl with | [_], _ => rfl
  have F5 : FunC K "is_mark" "is_mark" sMark f5 _ c5 := ⟨⟨_, _, _, _, _, _, _, _, rfl, l5, i5⟩, k5⟩
  have g5 := PySem.W.mg_of X G a5
  have T5 := T.tab X r5 g5 l5 rfl d5 j5
  have b5 := (F5.fun).binds (ps := ["text"]) fun _ _ _ _ _ _ us hl => match us, hl with | [_], _ => rfl
  have F6 : FunC K "is_numbered" "is_numbered" sNumb f6 _ c6 := ⟨⟨_, _, _, _, _, _, _, _, rfl, l6, i6⟩, k6⟩
  have g6 := PySem.W.mg_of X G a6
  have T6 := T.tab X r6 g6 l6 rfl d6 j6
  have b6 := (F6.fun).binds (ps := ["text"]) fun _ _ _ _ _ _ us hl => match us, hl with | [_], _ => rfl
  have x0 := PySem.W.mg_of X G y0
  have x1 := PySem.W.mg_of X G y1
  have x2 := PySem.W.mg_of X G y2
  have m0 := PySem.W.mg_none_of X G z0
  have m1 := PySem.W.mg_none_of X G z1
  have m2 := PySem.W.mg_none_of X G z2
  have m3 := PySem.W.mg_none_of X G z3
  have m4 := PySem.W.mg_none_of X G z4
  have m5 := PySem.W.mg_none_of X G z5
  have m6 := PySem.W.mg_none_of X G z6
  have m7 := PySem.W.mg_none_of X G z7
  refine ⟨PySem.W.fnOf "law" "law" (defArgs sLaw) (defBody sLaw) (defScope sLaw) .none kV0 dc0 pm0 an0 cd0 ct0, [(c5, P5), (c6, P6)], spLaw K P5 P6, ?_, ?_, ?_, fun s v => .of_eq rfl, fun H a ns hl _ hT hS => ⟨a, ns, rfl, hS, hl, ⟨#[], hT (c5, P5) (by simp), by trivial⟩, ⟨#[], hT (c6, P6) (by simp), by trivial⟩, fun _ => rfl⟩, fun base _ _ hB => ok_law F0 F1 b1 g1 F2 b2 g2 F3 b3 g3 F4 b4 g4 F5 b5 g5 F6 b6 g6 ne5_6 (tb_conv (hB (c5, P5) (by simp))) (tb_conv (hB (c6, P6) (by simp))) x0 x1 x2 m0 m1 m2 m3 m4 m5 m6 m7⟩
  · exact fun p hp => by
      simp only [List.mem_cons, List.not_mem_nil, or_false] at hp
      rcases hp with rfl | rfl
      · exact T5.2
      · exact T6.2
  · exact fun p hp => by
      simp only [List.mem_cons, List.not_mem_nil, or_false] at hp
      rcases hp with rfl | rfl
      · exact n5
      · exact n6
  · exact fun p hp => by
      simp only [List.mem_cons, List.not_mem_nil, or_false] at hp
      rcases hp with rfl | rfl
      · exact T5.1
      · exact T6.1
end Kf
open PySem PySem.W PyProof.Rows
set_option maxRecDepth 100000 in
set_option maxHeartbeats 0 in
theorem PySem.Challenge.cw_kindfill_k01_words_holds : PySem.Challenge.rw_kindfill_k01_words.Holds := by
  w_on; o_law; k_head; (case hw => w_witness2)
  k_fill
  refine Kf.walk_tabs (l := PySem.Challenge.rw_kindfill_k01_words) (n := 63) (k := 4) (CX := fun _ => L2.CX0) (x := "_law_script") rfl (by decide) rfl ⟨rfl, by decide, by decide⟩ (fun w h Y => PySem.W.kIn_of Y) ?F (fun _ _ _ _ _ z => z)
  case F =>
    intro w mg fa h KX G hmg T
    refine' Kf.all_mk KX G hmg T ?a0 ?l0 ?i0 ?k0 ?a1 ?l1 ?i1 ?k1 ?a2 ?l2 ?i2 ?k2 ?a3 ?l3 ?i3 ?k3 ?a4 ?l4 ?i4 ?k4 ?a5 ?l5 ?i5 ?k5 ?r5 ?d5 ?j5 ?n5 ?a6 ?l6 ?i6 ?k6 ?r6 ?d6 ?j6 ?n6 ?ne5_6 ?y0 ?y1 ?y2 ?z0 ?z1 ?z2 ?z3 ?z4 ?z5 ?z6 ?z7
    (case a0 => k_is)
    (case l0 => k_is)
    (case i0 => k_is)
    (case k0 => k_is)
    (case a1 => k_is)
    (case l1 => k_is)
    (case i1 => k_is)
    (case k1 => k_is)
    (case a2 => k_is)
    (case l2 => k_is)
    (case i2 => k_is)
    (case k2 => k_is)
    (case a3 => k_is)
    (case l3 => k_is)
    (case i3 => k_is)
    (case k3 => k_is)
    (case a4 => k_is)
    (case l4 => k_is)
    (case i4 => k_is)
    (case k4 => k_is)
    (case a5 => k_is)
    (case l5 => k_is)
    (case i5 => k_is)
    (case k5 => k_is)
    (case r5 => first | decide +kernel | kernel_rfl)
    (case d5 => k_is)
    (case j5 => exact rfl)
    (case n5 => first | exact rfl | kernel_rfl | decide +kernel)
    (case a6 => k_is)
    (case l6 => k_is)
    (case i6 => k_is)
    (case k6 => k_is)
    (case r6 => first | decide +kernel | kernel_rfl)
    (case d6 => k_is)
    (case j6 => exact rfl)
    (case n6 => first | exact rfl | kernel_rfl | decide +kernel)
    (case ne5_6 => decide)
    (case y0 => k_is)
    (case y1 => k_is)
    (case y2 => k_is)
    (case z0 => k_is)
    (case z1 => k_is)
    (case z2 => k_is)
    (case z3 => k_is)
    (case z4 => k_is)
    (case z5 => k_is)
    (case z6 => k_is)
    (case z7 => k_is)
