import PyProof.Rows.All
import Wide.All
import OpenK.AllK
import Wide.FinOn
import HandS.SetTxt0
import HandS.SetFor
import HandS.Strs
import KE.SortData
import HandS.ForMost
import HandS.IsInst
import HandS.Flow
import HandS.Style
import HandS.Text
import HandS.AnyAll
import HandS.EndTab
import HandS.More
import HandS.Walk
import HandS.Codes
import HandS.NoneIn
import HandS.ForExc
import HandS.Zip
import HandS.Iter
import HandS.RevRange
import HandS.WideBits
import HandS.Star
import PyProof.NoPylong
import Flt.Len
import HandS.TupAny
import HandS.Deep
import HandS.ExcIs
import HandS.TryOnly
import KE.LtData
import KE.DataCmp
import KE.KDictLaws
import KE.KDictList
import HandS.DictComp
import HandS.FStr
import HandS.Small
import HandS.Rev
import PyProof.Rows.IntBool
import HandS.CallSlots
import HandS.Defaults
import HandS.CallLocal
import HandS.HotCalls
import PyProof.InstEq
import KE.KEqDict
import HandS.Finally
import HandS.GenList
import HandS.Nested
import PyProof.GenQ
import HandS.Conv
import HandS.Sort
import HandS.ListItems
import HandS.ExcInit
import HandS.ExcField
import KE.GoesMore
import PyProof.Draws
import PyProof.EnumMake
import KE.KExcIs
import HandS.ExcValue
import PyProof.EqKinds
import PyProof.NeKinds
import HandS.DictEq
import PySem.Challenge.RW_kindfill_k34_trees_or_none
set_option Elab.async false
set_option maxRecDepth 100000
set_option linter.all false
set_option autoImplicit false
namespace Vl
open PySem L2 PySem.Spec PyProof.Rows PySem.Froz
/-- texts strictly rising -/
def ltS (a b : Str) : Prop := a.cps.toList < b.cps.toList
theorem ltS_trans {a b c : Str} (h : ltS a b) (g : ltS b c) : ltS a c := List.lt_trans h g
theorem ltS_irr (a : Str) : ¬ ltS a a := List.lt_irrefl _
theorem str_cps : ∀ {a b : Str}, a.cps.toList = b.cps.toList → a = b
  | ⟨x⟩, ⟨y⟩, h => by
    have e : x = y := Array.toList_inj.mp h
    rw [e]
theorem ltS_of {a b : Str} (h : ¬ ltS b a) (n : a ≠ b) : ltS a b := by
  have le : a.cps.toList ≤ b.cps.toList := List.not_lt.mp h
  rcases Decidable.em (a.cps.toList < b.cps.toList) with q | q
  · exact q
  · exact absurd (str_cps (List.le_antisymm le (List.not_lt.mp q))) n
def insU (x : Str) : List Str → List Str
  | [] => [x]
  | y :: r => if y = x then y :: r else if ltCps y.cps.toList x.cps.toList = true then y :: insU x r else x :: y :: r
/-- each text once, in order -/
def sset : List Str → List Str
  | [] => []
  | x :: r => insU x (sset r)
theorem mem_insU (x z : Str) : ∀ l, z ∈ insU x l ↔ z = x ∨ z ∈ l
  | [] => by simp [insU]
  | y :: r => by
    unfold insU
    split
    · rename_i q
      subst q
      constructor
      · exact .inr
      · rintro (q | q)
        · rw [q]
          exact List.mem_cons_self
        · exact q
    · split
      · rw [List.mem_cons, mem_insU x z r, List.mem_cons]
        constructor
        · rintro (q | q | q)
          · exact .inr (.inl q)
          · exact .inl q
          · exact .inr (.inr q)
        · rintro (q | q | q)
          · exact .inr (.inl q)
          · exact .inl q
          · exact .inr (.inr q)
      · rw [List.mem_cons]
theorem mem_sset (z : Str) : ∀ l, z ∈ sset l ↔ z ∈ l
  | [] => Iff.rfl
  | x :: r => by
    show z ∈ insU x (sset r) ↔ _
    rw [mem_insU, mem_sset z r, List.mem_cons]
theorem insU_pw (x : Str) : ∀ l : List Str, l.Pairwise ltS → (insU x l).Pairwise ltS
  | [], _ => .cons (fun y h => (by cases h)) .nil
  | y :: r, h => by
    unfold insU
    split
    · exact h
    · rename_i n
      split
      · rename_i q
        rw [ltCps_eq] at q
        have yx : ltS y x := by simpa [ltS] using q
        refine .cons (fun z hz => ?_) (insU_pw x r (List.pairwise_cons.mp h).2)
        rcases (mem_insU x z r).mp hz with e | e
        · rw [e]
          exact yx
        · exact List.rel_of_pairwise_cons h e
      · rename_i q
        rw [ltCps_eq] at q
        have xy : ltS x y := ltS_of (fun c => q (by simpa [ltS] using c)) (fun e => n e.symm)
        refine .cons (fun z hz => ?_) h
        rcases List.mem_cons.mp hz with e | e
        · rw [e]
          exact xy
        · exact ltS_trans xy (List.rel_of_pairwise_cons h e)
theorem sset_pw : ∀ l, (sset l).Pairwise ltS
  | [] => .nil
  | x :: r => insU_pw x _ (sset_pw r)
/-- there is one such row -/
theorem ltS_one : ∀ {a b : List Str}, a.Pairwise ltS → b.Pairwise ltS → (∀ z, z ∈ a ↔ z ∈ b) → a = b
  | [], [], _, _, _ => rfl
  | [], y :: b, _, _, m => absurd ((m y).mpr List.mem_cons_self) (by simp)
  | x :: a, [], _, _, m => absurd ((m x).mp List.mem_cons_self) (by simp)
  | x :: a, y :: b, ha, hb, m => by
    have e : x = y := by
      rcases List.mem_cons.mp ((m x).mp List.mem_cons_self) with e | hx
      · exact e
      · rcases List.mem_cons.mp ((m y).mpr List.mem_cons_self) with e | hy
        · exact e.symm
        · exact absurd (ltS_trans (List.rel_of_pairwise_cons ha hy) (List.rel_of_pairwise_cons hb hx)) (ltS_irr x)
    subst e
    rw [ltS_one (List.pairwise_cons.mp ha).2 (List.pairwise_cons.mp hb).2 fun z => ?_]
    constructor
    · intro hz
      rcases List.mem_cons.mp ((m z).mp (List.mem_cons_of_mem _ hz)) with e | q
      · exact absurd (List.rel_of_pairwise_cons ha hz) (e ▸ ltS_irr x)
      · exact q
    · intro hz
      rcases List.mem_cons.mp ((m z).mpr (List.mem_cons_of_mem _ hz)) with e | q
      · exact absurd (List.rel_of_pairwise_cons hb hz) (e ▸ ltS_irr x)
      · exact q
theorem sset_of {a b : List Str} (h : a.Pairwise ltS) (m : ∀ z, z ∈ a ↔ z ∈ b) : a = sset b := ltS_one h (sset_pw b) fun z => (m z).trans (mem_sset z b).symm
theorem sset_eq {a b : List Str} (m : ∀ z, z ∈ a ↔ z ∈ b) : sset a = sset b := sset_of (sset_pw a) fun z => (mem_sset z a).trans (m z)
theorem insU_len (x : Str) : ∀ l, (insU x l).length ≤ l.length + 1
  | [] => Nat.le_refl _
  | y :: r => by
    unfold insU
    split
    · exact Nat.le_succ _
    · split
      · have := insU_len x r
        simp only [List.length_cons]
        omega
      · exact Nat.le_refl _
theorem sset_len : ∀ l, (sset l).length ≤ l.length
  | [] => Nat.le_refl _
  | x :: r => by
    have h1 := insU_len x (sset r)
    have h2 := sset_len r
    show (insU x (sset r)).length ≤ r.length + 1
    omega
def kyS (e : Int × Value) : Str := match e.2 with
  | .str x _ => x
  | _ => Str.empty
section
variable (ep : Nat) (es1 : Array (Int × Value)) (t2 : SetTable) (wd : Bool)
theorem pair_tail : (tailTx ep es1 t2 wd).1.toList.Perm es1.toList := by
  unfold tailTx
  split
  · exact relayAll_perm _ _ _
  · exact List.Perm.refl _
theorem ris_tail (r : Ris t2.place.toList) : Ris (tailTx ep es1 t2 wd).2.2.place.toList := by
  unfold tailTx
  split
  · exact relayAll_ris _ _ _
  · exact r
theorem led_tail : (tailTx ep es1 t2 wd).2.2.led = t2.led := by
  unfold tailTx
  split
  · exact relayAll_led _ _ _
  · rfl
end
theorem pair_addTx (h : Int) (v : Value) (D : SD) : (addTx h v D).1.toList.Perm ((h, v) :: D.1.toList) := by
  have p1 := layNew_perm D.2.2 D.1 h v
  rw [Array.toList_push] at p1
  exact (pair_tail _ _ _ _).trans (p1.trans (List.perm_append_singleton _ _))
theorem ris_addTx (h : Int) (v : Value) (D : SD) (r : Ris D.2.2.place.toList) : Ris (addTx h v D).2.2.place.toList := by
  have r1 := layNew_ris D.2.2 D.1 h v r
  refine ris_tail _ _ _ _ ?_
  split
  · exact r1
  · exact r1
theorem led_addTx (h : Int) (v : Value) (D : SD) : (addTx h v D).2.2.led = D.2.2.led := by
  have l1 := layNew_led D.2.2 D.1 h v
  refine (led_tail _ _ _ _).trans ?_
  split
  · exact l1
  · exact l1
/-- at a stands a set of the texts l, each once -/
structure TxR (P : Program) (w : World) (h : Heap) (a : Addr) (l : List Str) : Prop where
  at' : ∃ D : SD, h.get? a = some (sObj "set" D) ∧ TxOk P w D l ∧ (D.1.toList.map kyS).Perm l ∧ (∀ e ∈ D.1.toList, ∃ x t, e.2 = Value.str x t) ∧ Ris D.2.2.place.toList ∧ (w.params.followText "set-order" = true ∨ D.2.2.led = true)
  nd : l.Nodup
section
variable {P : Program} {w : World} {A : Around} {E : Value → Shared → Prop} {s : Shared} {a : Addr} {l : List Str}
theorem TxR.keep {h h' : Heap} (R : TxR P w h a l) (k : ∀ o, h.get? a = some o → h'.get? a = some o) : TxR P w h' a l := by
  obtain ⟨⟨D, h1, h2⟩, n⟩ := R
  exact ⟨⟨D, k _ h1, h2⟩, n⟩
theorem TxR.same {h : Heap} {l' : List Str} (R : TxR P w h a l) (e : l' = l) : TxR P w h a l' := e ▸ R
/-- the text is there already -/
theorem add_old {T : String} {D : SD} {k : Str} {u : Tok} {Q : Bool → Shared → Prop} (ho : s.heap.get? a = some (sObj T D)) (F : TxOk P w D l) (hk : k ∈ l) (hb : l.length < scanBound) (h : Q false s) :
    wpAny (model P w) A (setAddHashed a (.str k u) (hashStr w k)) Q E s := by
  obtain ⟨es, ep, t⟩ := D
  have dat : (sObj T (es, ep, t)).data = .set es ep t := rfl
  have fit : t.fits es.size = true := F.fit
  have els : ElemsOf (strKind P w) es.toList := F.el
  have siz : es.size = l.length := F.sz
  have is0 : (strKind P w).is k (.str k u) = true := is_str k u
  unfold setAddHashed setAddHashedIn
  refine wpAny_holding (wpAny_bind (wpAny_setState_of ho dat fit ?_))
  dsimp only
  rw [byScan_of rfl (by omega) els]
  simp only [↓reduceIte]
  unfold setAddByScan
  refine wpAny_bind (wpAny_bind (wpAny_rule (wpAny_bind (wpAny_setScan_of (knd := strKind P w) (k := k) is0 ho dat fit els ?_))))
  obtain ⟨e, he, q⟩ := (F.mem k).mp hk
  cases fi : List.findIdx? (fun e => (strKind P w).is k e.2) es.toList with
  | some j =>
    dsimp only
    exact wpAny_pure (wpAny_pure h)
  | none =>
    have c := List.findIdx?_eq_none_iff.mp fi e he
    rw [q] at c
    cases c
theorem TxR.add {k : Str} {u : Tok} {Q : Bool → Shared → Prop} (R : TxR P w s.heap a l) (hb : l.length + 1 < scanBound)
    (h : ∀ b h', Heap.SameBut a s.heap h' → TxR P w h' a (if k ∈ l then l else k :: l) → Q b { s with heap := h' }) : wpAny (model P w) A (setAddHashed a (.str k u) (hashStr w k)) Q E s := by
  obtain ⟨⟨D, ho, F, pm, al, rs, ld⟩, nd⟩ := R
  by_cases hk : k ∈ l
  · refine add_old ho F hk (by omega) (h false s.heap (Heap.SameBut.refl a s.heap) ?_)
    rw [if_pos hk]
    exact ⟨⟨D, ho, F, pm, al, rs, ld⟩, nd⟩
  · refine add_x ho F hk hb (h true _ (Heap.SameBut.update s.heap a _) ?_)
    rw [if_neg hk]
    have p2 := pair_addTx (hashStr w k) (.str k u) D
    refine ⟨⟨_, get_upd _ ho rfl, add_ok u F, (p2.map kyS).trans (pm.cons k), fun e he => ?_, ris_addTx _ _ _ rs, ld.imp id fun z => (led_addTx _ _ _).trans z⟩, List.nodup_cons.mpr ⟨hk, nd⟩⟩
    rcases List.mem_cons.mp (p2.mem_iff.mp he) with z | z
    · exact ⟨k, u, by rw [z]⟩
    · exact al e z
end
section
variable {P : Program} {w : World} {A : Around} {R : Result → Shared → Prop} {I : Addr} {fp wr : List Addr} {G : Array GenState → Array GenState → Prop} {n : Nat} {Pv : Nat → Value → Prop} {St : Nat → Shared → Prop}
theorem txtsAt : ∀ {vs : List Value} {xs : List Str}, StrsAre vs xs → ∀ (i : Nat) (v : Value), vs[i]? = some v → ∃ z t, xs[i]? = some z ∧ v = .str z t
  | _, _, .nil, i, v, h => by simp at h
  | _, _, .cons x t r, 0, v, h => by
    simp at h
    exact ⟨x, t, rfl, h.symm⟩
  | _, _, .cons x t r, i + 1, v, h => by
    simp only [List.getElem?_cons_succ] at h ⊢
    exact txtsAt r i v h
/-- all texts that are walked are put in -/
theorem upd_texts (W : WalksS P w A.in1 I fp wr G n Pv St) (S : Addr) (out : S ∉ fp) (xs : List Str) (hn : n = xs.length) (hb : xs.length + 1 < scanBound) (each : ∀ i v, Pv i v → ∃ z t, xs[i]? = some z ∧ v = .str z t) :
    ∀ (k i : Nat) (s : Shared), n - i = k → i ≤ n → St i s → (∃ l, TxR P w s.heap S l ∧ l.length ≤ i ∧ ∀ z, z ∈ l ↔ z ∈ xs.take i) →
      (∀ s' l, Moved (S :: wr) G s s' → TxR P w s'.heap S l → l.length ≤ n → (∀ z, z ∈ l ↔ z ∈ xs) → R (.ok (.ret .none)) s') →
      codeAny (model P w) A (.builtin "set.update.loop" ⟨[.ref S, .ref I], []⟩) R s := by
  have nwr : S ∉ wr := fun h => out (W.sub _ h)
  have wider : ∀ b ∈ wr, b ∈ S :: wr := fun b hb => List.mem_cons_of_mem _ hb
  intro k
  induction k with
  | zero =>
    intro i s hk0 hi st ⟨l, T, hl, hm⟩ fin
    obtain rfl : i = n := by omega
    refine codeAny_builtin PyProof.Rows.F.entry_set_update_loop ?_
    rw [Around.under_plainId PyProof.Rows.F.plain_set_update_loop _]
    refine wpAny_bind (m := pyNext (.ref I)) (W.done s _ _ st fun s' mv => ?_)
    rw [List.take_of_length_le (by omega)] at hm
    exact wpAny_pure (fin s' l (mv.mono wider) (T.keep fun o e => mv.heap S o nwr e) hl hm)
  | succ k ih =>
    intro i s hk0 hi st ⟨l, T, hl, hm⟩ fin
    have lt : i < n := by omega
    refine codeAny_builtin PyProof.Rows.F.entry_set_update_loop ?_
    rw [Around.under_plainId PyProof.Rows.F.plain_set_update_loop _]
    refine wpAny_bind (m := pyNext (.ref I)) (W.item i s _ _ lt st fun v s' pv st' mv => ?_)
    obtain ⟨z, t, hz, rfl⟩ := each i v pv
    show wpAny _ A.in1 (holding [Value.str z t] (setAdd S (.str z t)) >>= _) _ _ s'
    unfold setAdd
    refine wpAny_bind (wpAny_holding (wpAny_holding (wpAny_bind ((PySem.strKind P w).pyHash (k := z) (is_str _ _) ?_))))
    refine TxR.add (s := { s' with toks := s'.toks + 1 }) (T.keep fun o e => mv.heap S o nwr e) (by omega) fun b h' sb T2 => ?_
    refine wpAny_pure ⟨plainId_quiet PyProof.Rows.F.plain_set_update_loop _, ih (i + 1) _ (by omega) lt (W.frame _ s' _ _ st' (Nat.le_succ _) fun b hb o e => ?_) ⟨_, T2, ?_, fun y => ?_⟩ fun s2 l2 mv2 T3 hl2 hm2 => ?_⟩
    · rw [sb.2 b (fun h : b = S => out (h ▸ hb))]
      exact e
    · split
      · omega
      · simp only [List.length_cons]
        omega
    · rw [List.take_add_one, hz, List.mem_append]
      split
      · rename_i q
        rw [hm y]
        constructor
        · exact .inl
        · rintro (c | c)
          · exact c
          · simp at c
            rw [c]
            exact (hm z).mp q
      · rw [List.mem_cons, hm y]
        simp [Or.comm]
    · refine fin s2 l2 (Moved.trans W.gtrans ((mv.mono wider).then_heap (Nat.le_succ _) fun b o hb e => ?_) mv2) T3 hl2 hm2
      rw [sb.2 b (fun h : b = S => hb (by rw [h]; exact List.mem_cons_self))]
      exact e
end
section
variable {P : Program} {w : World} {A : Around} {E : Value → Shared → Prop} {s : Shared}
abbrev set0 (w : World) : Obj := { cls := .type "set", dict := none, data := .set #[] 0 (.fresh 0 0 (!w.params.followText "set-order")) }
theorem txR_new {h : Heap} {a : Addr} (ho : h.get? a = some (set0 w)) : TxR P w h a [] :=
  ⟨⟨(#[], 0, .fresh 0 0 (!w.params.followText "set-order")), ho, TxOk.nil rfl, List.Perm.refl _, fun e he => by simp at he, List.Pairwise.nil, by
    show _ ∨ (!w.params.followText "set-order") = true
    cases w.params.followText "set-order" with
    | true => exact .inl rfl
    | false => exact .inr rfl⟩, .nil⟩
set_option maxHeartbeats 3200000 in
/-- set(xs) of a list of texts -/
theorem call_set_texts {l : Addr} {its : Array Value} (xs : List Str) {Q : Value → Shared → Prop} (hh : A.handled = none) (hl : s.heap.IsList l its) (are : StrsAre its.toList xs) (hb : xs.length + 1 < scanBound)
    (fin : ∀ (h' : Heap) (tk : Nat) (ks : List Str), TxR P w h' s.heap.objs.size ks → ks.length ≤ xs.length → (∀ z, z ∈ ks ↔ z ∈ xs) → (∀ b o, s.heap.get? b = some o → h'.get? b = some o) → Q (.ref s.heap.objs.size) { s with heap := h', toks := tk }) :
    wpAny (model P w) A (call (.type "set") [.ref l]) Q E s := by
  have siz : its.size = xs.length := by
    have q := StrsAre.length are
    rw [Array.length_toList] at q
    exact q
  obtain ⟨c, tl, hmro⟩ := PySem.F.called_set.mro
  have hmade := PySem.F.called_set.made
  have hsub := PySem.F.called_set.sub
  refine wpAny_call (codeAny_of_tree (wpAny_pure (a := _) ⟨Code.quiet_builtin _ (by decide +kernel), codeAny_builtin PySem.F.entry_type_call ?_⟩))
  rw [Around.under_plain (weight_type_call_type "set" [.ref l] []) rfl]
  have h1 := PySem.F.called_set.notType
  have h2 := PySem.F.called_set.canCreate
  have hct := PySem.F.typeCall_set_1 (.ref l)
  repeat (any_goals (first | assumption | wp_step))
  refine codeAny_mono (code_set_led1 (.ref l) (E := E) (Q₁ := fun v s₁ => v = .ref s.heap.objs.size ∧ s₁ = { s with heap := s.heap.push (set0 w) }) ⟨rfl, rfl⟩) fun r s₁ hr => ?_
  cases r with
  | error e => exact hr
  | ok fl =>
    cases fl with
    | ret v =>
      obtain ⟨rfl, rfl⟩ := hr
      have hS : (s.heap.push (set0 w)).get? s.heap.objs.size = some (set0 w) := Heap.get?_push_size _ rfl
      have hT : Shared.TypeIs { s with heap := s.heap.push (set0 w) } (.ref s.heap.objs.size) "set" := ⟨_, hS, rfl⟩
      have hli := PySem.F.called_set.init.lookup
      have hbi := PySem.F.called_set.init.bind (.ref s.heap.objs.size)
      repeat (any_goals (first | assumption | wp_step))
      refine codeAny_mono (codeAny_call_builtin (R := wants (fun r s₂ => r = .none ∧ ∃ h' tk ks, s₂ = { s with heap := h', toks := tk } ∧ TxR P w h' s.heap.objs.size ks ∧ ks.length ≤ xs.length ∧ (∀ z, z ∈ ks ↔ z ∈ xs) ∧
          (∀ b o, s.heap.get? b = some o → h'.get? b = some o)) E) PySem.F.called_set.init.plain PySem.F.entry_set_init (check_set_init_1 hT ?_)) fun r₂ s₂ hr₂ => ?_
      · obtain ⟨⟨ocls, odict, odata, oslots⟩, hol, hcl, nl, hdl⟩ := hl
        simp only at hcl hdl
        subst hcl; subst hdl
        have hol' : (s.heap.push (set0 w)).get? l = some { cls := .type "list", dict := odict, data := .seq its nl, slots := oslots } := Heap.get?_push_of_some _ hol
        have hsls := PySem.F.sub_list_set
        have hslf := PySem.F.sub_list_frozenset
        have hne : (Value.type "list" == Value.type "dict") = false := by decide
        have hl1 : (s.heap.push (set0 w)).IsList l its := ⟨_, hol', rfl, nl, rfl⟩
        unfold Builtin.«set.__init__» noKeywords Builtin.Frozenset.updateFrom
        generalize hPI : pyIter = PI
        wp_walk
        subst hPI
        refine wpAny_pyIter_list hl1 (wpAny_bind (wpAny_runValue ?_))
        have ahead : l < s.heap.objs.size := Heap.lt_size hol
        have hh3 : A.in1.in1.in1.handled = none := by simp [hh]
        have sz : (s.heap.push (set0 w)).objs.size = s.heap.objs.size + 1 := Heap.size_push ..
        have nI : l ≠ (s.heap.push (set0 w)).objs.size := by
          rw [sz]
          exact Nat.ne_of_lt (Nat.lt_succ_of_lt ahead)
        have out : s.heap.objs.size ∉ [(s.heap.push (set0 w)).objs.size, l] := by
          rw [sz]
          simp only [List.mem_cons, List.not_mem_nil, or_false, not_or]
          exact ⟨Nat.ne_of_lt (Nat.lt_succ_self _), Nat.ne_of_gt ahead⟩
        refine upd_texts ((Walks.list hh3 _ l nI its).toS) s.heap.objs.size out xs siz hb (fun i v hv => ?_) (its.size - 0) 0 _ (by omega) (Nat.zero_le _)
          ⟨⟨_, Heap.get?_push_size _ rfl, rfl, rfl⟩, (hl1.push _)⟩ ⟨[], txR_new (Heap.get?_push_of_some _ hS), Nat.le_refl _, fun z => by simp⟩ fun s' ks mv T hk hm => ?_
        · obtain ⟨z, t, q1, q2⟩ := txtsAt are i v (by rw [Array.getElem?_toList]; exact hv)
          exact ⟨z, t, q1, q2⟩
        · obtain ⟨h', g2, d2, tk2, o2⟩ := s'
          obtain rfl : g2 = s.gens := mv.gens
          obtain rfl : d2 = s.drawn := mv.drawn
          obtain rfl : o2 = s.os := mv.os
          show wpAny _ _ _ _ _ _
          refine wpAny_pure ?_
          show wpAny _ _ (ret Value.none) _ _ _
          refine wpAny_pure ⟨rfl, h', tk2, ks, rfl, T, by omega, hm, fun b o e => ?_⟩
          have hb0 : b < s.heap.objs.size := Heap.lt_size e
          refine mv.heap b o ?_ (Heap.get?_push_of_some _ (Heap.get?_push_of_some _ e))
          rw [sz]
          simp only [List.mem_cons, List.not_mem_nil, or_false, not_or]
          exact ⟨Nat.ne_of_lt hb0, Nat.ne_of_lt (Nat.lt_succ_of_lt hb0)⟩
      · cases r₂ with
        | error e => exact hr₂
        | ok fl₂ =>
          cases fl₂ with
          | ret r =>
            obtain ⟨rfl, h', tk, ks, rfl, T, hk, hm, kp⟩ := hr₂
            repeat (any_goals (first | assumption | wp_step))
            exact fin _ _ _ T hk hm kp
          | _ => exact hr₂.elim
    | _ => exact hr.elim
theorem txt_each : ∀ {vs : List Value} {es : List (Int × Value)}, vs = es.map (·.2) → (∀ e ∈ es, ∃ x t, e.2 = Value.str x t) → PySem.W.EachIs (fun v x => ∃ t, v = Value.str x t) vs (es.map kyS)
  | _, [], rfl, _ => .nil
  | _, e :: es, rfl, al => by
    obtain ⟨x, t, q⟩ := al e List.mem_cons_self
    refine .cons ⟨t, ?_⟩ (txt_each rfl fun u hu => al u (List.mem_cons_of_mem _ hu))
    show e.2 = Value.str (kyS e) t
    unfold kyS
    rw [q]
theorem txt_perm {vs ws : List Value} (p : vs.Perm ws) : ∀ {xs : List Str}, PySem.W.EachIs (fun v x => ∃ t, v = Value.str x t) ws xs → ∃ ys, ys.Perm xs ∧ PySem.W.EachIs (fun v x => ∃ t, v = Value.str x t) vs ys := by
  induction p with
  | nil =>
    intro xs h
    exact ⟨xs, List.Perm.refl _, h⟩
  | cons v _ ih =>
    intro xs h
    cases h with
    | cons h1 h2 =>
      obtain ⟨ys, p1, h3⟩ := ih h2
      exact ⟨_ :: ys, p1.cons _, .cons h1 h3⟩
  | swap u v l =>
    intro xs h
    cases h with
    | cons h1 h2 =>
      cases h2 with
      | cons h3 h4 => exact ⟨_ :: _ :: _, List.Perm.swap _ _ _, .cons h3 (.cons h1 h4)⟩
  | trans _ _ ih1 ih2 =>
    intro xs h
    obtain ⟨ys, p1, h1⟩ := ih2 h
    obtain ⟨zs, p2, h2⟩ := ih1 h1
    exact ⟨zs, p2.trans p1, h2⟩
theorem txt_back : ∀ {vs : List Value} {xs : List Str}, PySem.W.EachIs (fun v x => ∃ t, v = Value.str x t) vs xs → Vals (xs.map V.str) vs
  | _, _, .nil => .nil
  | _, _, .cons ⟨t, e⟩ r => .cons ⟨t, e⟩ (txt_back r)
theorem txt_er {h : Heap} : ∀ {vs : List Value} {xs : List Str} {D : Addr}, PySem.W.EachIs (fun v x => ∃ t, v = Value.str x t) vs xs → PySem.W.EachIs (fun v x => ∃ as, PySem.Reads h v (PyData.str x) as ∧ D ∉ as) vs xs
  | _, _, _, .nil => .nil
  | _, _, _, .cons ⟨t, e⟩ r => .cons ⟨[], by rw [e]; exact .str _ _, by simp⟩ (txt_er r)
theorem le_pw_lt {l : List Str} (h : l.Pairwise fun a b => decide (a.cps.toList ≤ b.cps.toList) = true) (n : l.Nodup) : l.Pairwise ltS := by
  induction l with
  | nil => exact .nil
  | cons x r ih =>
    obtain ⟨h1, h2⟩ := List.pairwise_cons.mp h
    obtain ⟨n1, n2⟩ := List.nodup_cons.mp n
    refine .cons (fun y hy => ltS_of (List.not_lt.mpr (of_decide_eq_true (h1 y hy))) fun e => n1 (e ▸ hy)) (ih h2 n2)
/-- sorted(set) -/
theorem call_sorted_set {a : Addr} {ks : List Str} {Q : Value → Shared → Prop} (hh : A.handled = none) (hu : A.units + 190 < cLine) (T : TxR P w s.heap a ks) (hb : ks.length < 4095)
    (fin : ∀ s' p (out : List Value) (c : Nat), (∀ b o, s.heap.get? b = some o → s'.heap.get? b = some o) → s'.gens = s.gens → s'.os = s.os → s.heap.objs.size ≤ p → s'.heap.get? p = some (seqObj "list" out.toArray c) → Vals ((sset ks).map V.str) out → Q (.ref p) s') :
    wpAny (model P w) A (call (.builtin "sorted") [.ref a]) Q E s := by
  obtain ⟨⟨⟨es, ep, t⟩, ho, F, pm, al, rs, ld⟩, nd⟩ := T
  have siz : es.size = ks.length := F.sz
  have fit : t.fits es.size = true := F.fit
  refine Calls.call_function_entry kind_sorted plain_sorted entry_sorted (args_sorted1 _) ?_
  unfold Builtin.«sorted»
  refine wpAny_bind (m := checkCount "sorted" 1 1 _) (wpAny_pure (wpAny_bind (collect_set (A := A.in1) (es := es) (ep := ep) (t := t) hh ⟨_, ho, rfl, rfl⟩ fit (by rw [siz]; unfold scanBound; omega) rs ld fun s1 vs k1 hz g1 o1 pv => ?_)))
  obtain ⟨ys, p1, ey⟩ := txt_perm pv (txt_each (es := es.toList) rfl al)
  have pk : ys.Perm ks := p1.trans pm
  have lv : vs.length = ys.length := ey.length
  have ly : ys.length < 4095 := by
    rw [pk.length_eq]
    exact hb
  refine wpAny_bind (wpAny_newList ?_ (by rw [lv, sizeLine_eq]; omega))
  have hoL : (s1.heap.push (seqObj "list" vs.toArray 0)).get? s1.heap.objs.size = some (seqObj "list" vs.toArray 0) := Heap.get?_push_size _ rfl
  refine wpAny_bind (wpAny_holding (PySem.W.list_sort_data (enc := PyData.str) (bs := ys) hoL ey (txt_er ey) (PySem.W.AllAlike.of fun b b' => rfl) (PySem.W.Sortable.others fun b => ⟨fun e => (by cases e), fun xs e => (by cases e)⟩) (by rw [sizeLine_eq]; omega) (fun b hb => ?_) fun out lo eo => ?_))
  · show A.units + 1 + 1 + 0 < cLine
    omega
  · have le : PySem.W.dataLe false PyData.str = fun a b : Str => decide (a.cps.toList ≤ b.cps.toList) := PySem.W.dataLe_str (fun b => b)
    rw [le] at eo
    have ps := List.mergeSort_perm ys fun a b : Str => decide (a.cps.toList ≤ b.cps.toList)
    have pw := List.pairwise_mergeSort (le := fun a b : Str => decide (a.cps.toList ≤ b.cps.toList)) (fun a b c h g => decide_eq_true (List.le_trans (of_decide_eq_true h) (of_decide_eq_true g))) (fun a b => by
      rcases List.le_total a.cps.toList b.cps.toList with q | q
      · simp [q]
      · simp [q]) ys
    have nd2 : (ys.mergeSort fun a b : Str => decide (a.cps.toList ≤ b.cps.toList)).Nodup := ps.nodup_iff.mpr (pk.nodup_iff.mpr nd)
    rw [sset_of (b := ks) (le_pw_lt pw nd2) fun z => (ps.mem_iff).trans pk.mem_iff] at eo
    obtain ⟨c, hc⟩ := sortedHeap_at (vs := vs) (out := out.toArray) hoL
    refine wpAny_pure ⟨_, rfl, fin _ s1.heap.objs.size out c (fun b u e => ?_) g1 o1 hz hc (txt_back eo)⟩
    have q := k1 b u e
    have lt := Heap.lt_size q
    show (sortedHeap (s1.heap.push (seqObj "list" vs.toArray 0)) s1.heap.objs.size vs out.toArray).get? b = some u
    rw [sortedHeap_old (Nat.ne_of_lt lt) (by rw [size_push']; exact Nat.lt_succ_of_lt lt)]
    exact Heap.get?_push_of_some _ q
end
end Vl
namespace Vl
open PySem L2
abbrev D := PyData
/-- what a name holds: data; the j-th list of the store; a list that is only read -/
inductive Sl where
  | val (d : D)
  | obj (j : Nat)
  | kn (ds : List D)
  | exc (a : Addr)
/-- what stands in the store: a list; a dict of data; a dict whose values are lists of the store; a dict while it is walked; a list or a tuple of things -/
inductive Ob where
  | l (ds : List D)
  | m (kvs : List (L2.Key × D))
  | mo (kvs : List (L2.Key × Nat))
  | lk (od : Obj) (vs : List (L2.Key × V)) (kvs : List (L2.Key × D))
  | sq (t : Bool) (ss : List Sl)
/-- names and the store (none: given away) -/
structure En where
  sl : List (Option Sl)
  st : List (Option Ob)
mutual
inductive At (K : PySem.W.Frag) (F : Hp) : D → V → Prop
  | non : At K F .none .non
  | bl (b : Bool) : At K F (.bool b) (.bl b)
  | int (i : Int) : At K F (.int i) (.int i)
  | str (x : Str) : At K F (.str x) (.str x)
  | lst {a : Addr} {xs : List V} {ds : List D} : F a = some (.lst xs) → AtL K F ds xs → At K F (.list ds) (.ref a)
  | tup {a : Addr} {xs : List V} {ds : List D} : SqT K F a xs → AtL K F ds xs → At K F (.tuple ds) (.ref a)
  | dct {a : Addr} : F a = some (.dK []) → At K F (.dict []) (.ref a)
  | rcd {a dx C : Addr} {nm : Str} {fs : List (Str × V)} {kvs : List (D × D)} : PySem.W.nsIn K mainGlobals nm = some (some (.ref C)) → F a = some (.ins C dx fs) → F dx = some (.own a) → kvs.map (·.1) = fs.map (fun p => PyData.str p.1) → AtL K F (kvs.map (·.2)) (fs.map (·.2)) → At K F (.dict ((.str nm, .none) :: kvs)) (.ref a)
inductive AtL (K : PySem.W.Frag) (F : Hp) : List D → List V → Prop
  | nil : AtL K F [] []
  | cons {d : D} {ds : List D} {v : V} {vs : List V} : At K F d v → AtL K F ds vs → AtL K F (d :: ds) (v :: vs)
end
/-- what stood stands -/
def Le (F G : Hp) : Prop := ∀ b o, F b = some o → G b = some o
theorem Le.refl (F : Hp) : Le F F := fun _ _ e => e
theorem Le.trans {F G H : Hp} (a : Le F G) (b : Le G H) : Le F H := fun c o e => b c o (a c o e)
theorem Le.new {F : Hp} {p : Addr} {o : HO} (h : F p = none) : Le F (upd F p o) := fun b u e => by
  rw [upd_ne (ne_of_none e h)]
  exact e
theorem Le.free {F G : Hp} {p : Addr} (s : Le F G) (h : G p = none) : F p = none := by
  cases e : F p with
  | none => rfl
  | some o =>
    rw [s p o e] at h
    cases h
section
variable {K : PySem.W.Frag} {F G : Hp}
theorem sqT_le (s : Le F G) {a : Addr} {xs : List V} (h : SqT K F a xs) : SqT K G a xs := by
  rcases h with (h | ⟨o, h⟩) | h
  · exact .inl (.inl (s _ _ h))
  · exact .inl (.inr ⟨o, s _ _ h⟩)
  · exact .inr h
theorem sqL_le (s : Le F G) {a : Addr} {xs : List V} (h : SqL K F a xs) : SqL K G a xs := by
  rcases h with (h | ⟨o, h⟩) | h
  · exact .inl (.inl (s _ _ h))
  · exact .inl (.inr ⟨o, s _ _ h⟩)
  · exact .inr h
mutual
theorem At.le' (s : Le F G) : ∀ {d : D} {v : V}, At K F d v → At K G d v
  | _, _, .non => .non
  | _, _, .bl b => .bl b
  | _, _, .int i => .int i
  | _, _, .str x => .str x
  | _, _, .lst h1 h2 => .lst (s _ _ h1) (AtL.le' s h2)
  | _, _, .tup h1 h2 => .tup (sqT_le s h1) (AtL.le' s h2)
  | _, _, .dct h1 => .dct (s _ _ h1)
  | _, _, .rcd h0 h1 h2 h3 h4 => .rcd h0 (s _ _ h1) (s _ _ h2) h3 (AtL.le' s h4)
theorem AtL.le' (s : Le F G) : ∀ {ds : List D} {vs : List V}, AtL K F ds vs → AtL K G ds vs
  | _, _, .nil => .nil
  | _, _, .cons h1 h2 => .cons (At.le' s h1) (AtL.le' s h2)
end
theorem At.le (s : Le F G) (d : D) (v : V) (h : At K F d v) : At K G d v := At.le' s h
theorem AtL.le (s : Le F G) (ds : List D) (vs : List V) (h : AtL K F ds vs) : AtL K G ds vs := AtL.le' s h
theorem can_all1 {x : D} {xs : List D} (h : PyData.canLayAll0 (x :: xs) = true) : PyData.canLay0 x = true ∧ PyData.canLayAll0 xs = true := by
  rw [PyData.canLayAll0, Bool.and_eq_true] at h
  exact h
mutual
theorem At.dp (s : Le F G) : ∀ (d : D) (v : V), PyData.canLay0 d = true → At K F d v → Dp K G v d
  | .none, _, _, h => by
    cases h
    exact .non
  | .bool b, _, _, h => by
    cases h
    exact .bl b
  | .int i, _, _, h => by
    cases h
    exact .int i
  | .str x, _, _, h => by
    cases h
    exact .str x
  | .list ds, _, c, h => by
    cases h with
    | lst h1 h2 => exact .lst (SqL.of (s _ _ h1)) (AtL.dp s ds _ (by rw [PyData.canLay0] at c; exact c) h2)
  | .tuple ds, _, c, h => by
    cases h with
    | tup h1 h2 => exact .tup (sqT_le s h1) (AtL.dp s ds _ (by rw [PyData.canLay0] at c; exact c) h2)
  | .dict _, _, c, h => by
    rw [PyData.canLay0] at c
    cases c
theorem AtL.dp (s : Le F G) : ∀ (ds : List D) (vs : List V), PyData.canLayAll0 ds = true → AtL K F ds vs → DpAll K G vs ds
  | [], _, _, h => by
    cases h
    exact .nil
  | d :: ds, _, c, h => by
    cases h with
    | cons h1 h2 => exact .cons (At.dp s d _ (can_all1 c).1 h1) (AtL.dp s ds _ (can_all1 c).2 h2)
end
theorem AtL.len {ds : List D} {vs : List V} (h : AtL K F ds vs) : vs.length = ds.length := by
  induction ds generalizing vs with
  | nil =>
    cases h
    rfl
  | cons d ds ih =>
    cases h with
    | cons h1 h2 => simp [ih h2]
theorem AtL.app {ds es : List D} {vs us : List V} (h : AtL K F ds vs) (g : AtL K F es us) : AtL K F (ds ++ es) (vs ++ us) := by
  induction ds generalizing vs with
  | nil =>
    cases h
    exact g
  | cons d ds ih =>
    cases h with
    | cons h1 h2 => exact .cons h1 (ih h2)
theorem AtL.one {d : D} {v : V} (h : At K F d v) : AtL K F [d] [v] := .cons h .nil
theorem AtL.get {ds : List D} {vs : List V} {i : Nat} {d : D} (h : AtL K F ds vs) (e : ds[i]? = some d) : ∃ v, vs[i]? = some v ∧ At K F d v := by
  induction ds generalizing vs i with
  | nil => simp at e
  | cons c ds ih =>
    cases h with
    | cons h1 h2 =>
      cases i with
      | zero =>
        simp at e
        exact ⟨_, rfl, e ▸ h1⟩
      | succ i => exact ih (i := i) h2 (by simpa using e)
theorem AtL.set {ds : List D} {vs : List V} {d : D} {v : V} (g : At K F d v) (j : Nat) (h : AtL K F ds vs) : AtL K F (ds.set j d) (vs.set j v) := by
  induction ds generalizing vs j with
  | nil =>
    cases h
    exact .nil
  | cons c ds ih =>
    cases h with
    | cons h1 h2 =>
      cases j with
      | zero => exact .cons g h2
      | succ j => exact .cons h1 (ih j h2)
theorem AtL.take {ds : List D} {vs : List V} (n : Nat) (h : AtL K F ds vs) : AtL K F (ds.take n) (vs.take n) := by
  induction ds generalizing vs n with
  | nil =>
    cases h
    simp
    exact .nil
  | cons c ds ih =>
    cases h with
    | cons h1 h2 =>
      cases n with
      | zero => exact .nil
      | succ n => exact .cons h1 (ih n h2)
theorem AtL.drop {ds : List D} {vs : List V} (n : Nat) (h : AtL K F ds vs) : AtL K F (ds.drop n) (vs.drop n) := by
  induction ds generalizing vs n with
  | nil =>
    cases h
    simp
    exact .nil
  | cons c ds ih =>
    cases h with
    | cons h1 h2 =>
      cases n with
      | zero => exact .cons h1 h2
      | succ n => exact ih n h2
theorem AtL.dropLast {ds : List D} {vs : List V} (h : AtL K F ds vs) : AtL K F ds.dropLast vs.dropLast := by
  rw [List.dropLast_eq_take, List.dropLast_eq_take, h.len]
  exact h.take _
end
/-- a name's value -/
def SlAt (K : PySem.W.Frag) (F : Hp) (A : List Addr) (v : V) : Sl → Prop
  | .val d => At K F d v
  | .obj j => ∃ a, A[j]? = some a ∧ v = .ref a
  | .kn ds => ∃ a xs, v = .ref a ∧ SqL K F a xs ∧ AtL K F ds xs
  | .exc a => v = .ref a
theorem SlAt.le {K : PySem.W.Frag} {F G : Hp} {A B : List Addr} (s : Le F G) (p : A <+: B) {v : V} : ∀ {x : Sl}, SlAt K F A v x → SlAt K G B v x
  | .val d, h => At.le s d v h
  | .obj j, ⟨a, e, h⟩ => ⟨a, by
      obtain ⟨t, rfl⟩ := p
      have hj := (List.getElem?_eq_some_iff.mp e).1
      rw [List.getElem?_append_left hj]
      exact e, h⟩
  | .kn ds, ⟨a, xs, e, h1, h2⟩ => ⟨a, xs, e, sqL_le s h1, AtL.le s ds xs h2⟩
  | .exc _, h => h
inductive SlAts (K : PySem.W.Frag) (F : Hp) (A : List Addr) : List V → List Sl → Prop
  | nil : SlAts K F A [] []
  | cons {v : V} {vs : List V} {s : Sl} {ss : List Sl} : SlAt K F A v s → SlAts K F A vs ss → SlAts K F A (v :: vs) (s :: ss)
theorem SlAts.le {K : PySem.W.Frag} {F G : Hp} {A B : List Addr} (s : Le F G) (p : A <+: B) {vs : List V} {ss : List Sl} (h : SlAts K F A vs ss) : SlAts K G B vs ss := by
  induction h with
  | nil => exact .nil
  | cons h _ ih => exact .cons (h.le s p) ih
theorem SlAts.len {K : PySem.W.Frag} {F : Hp} {A : List Addr} {vs : List V} {ss : List Sl} (h : SlAts K F A vs ss) : vs.length = ss.length := by
  induction h with
  | nil => rfl
  | cons h _ ih => simp [ih]
/-- a dict's pairs -/
inductive KvAt (K : PySem.W.Frag) (F : Hp) : List (L2.Key × D) → List (L2.Key × V) → Prop
  | nil : KvAt K F [] []
  | cons {k : L2.Key} {d : D} {v : V} {kvs : List (L2.Key × D)} {vs : List (L2.Key × V)} : At K F d v → KvAt K F kvs vs → KvAt K F ((k, d) :: kvs) ((k, v) :: vs)
theorem KvAt.le {K : PySem.W.Frag} {F G : Hp} (s : Le F G) {kvs : List (L2.Key × D)} {vs : List (L2.Key × V)} (h : KvAt K F kvs vs) : KvAt K G kvs vs := by
  induction h with
  | nil => exact .nil
  | cons h _ ih => exact .cons (At.le s _ _ h) ih
inductive MoAt (A : List Addr) : List (L2.Key × Nat) → List (L2.Key × V) → Prop
  | nil : MoAt A [] []
  | cons {k : L2.Key} {j : Nat} {a : Addr} {kvs : List (L2.Key × Nat)} {vs : List (L2.Key × V)} : A[j]? = some a → MoAt A kvs vs → MoAt A ((k, j) :: kvs) ((k, .ref a) :: vs)
theorem pfx_get {A B : List Addr} (p : A <+: B) {j : Nat} {a : Addr} (e : A[j]? = some a) : B[j]? = some a := by
  obtain ⟨t, rfl⟩ := p
  have hj := (List.getElem?_eq_some_iff.mp e).1
  rw [List.getElem?_append_left hj]
  exact e
theorem MoAt.le {A B : List Addr} (p : A <+: B) {kvs : List (L2.Key × Nat)} {vs : List (L2.Key × V)} (h : MoAt A kvs vs) : MoAt B kvs vs := by
  induction h with
  | nil => exact .nil
  | cons h _ ih => exact .cons (pfx_get p h) ih
/-- a thing of the store, by what stands at its address -/
def ObAt (K : PySem.W.Frag) (F : Hp) (A : List Addr) (h : Option HO) : Ob → Prop
  | .l ds => ∃ xs, h = some (.lst xs) ∧ AtL K F ds xs
  | .m kvs => ∃ vs, h = some (.dK vs) ∧ KvAt K F kvs vs
  | .mo kvs => ∃ vs, h = some (.dK vs) ∧ MoAt A kvs vs
  | .lk od vs kvs => h = some (.frz od (.dK vs)) ∧ KvAt K F kvs vs
  | .sq t ss => ∃ vs, h = some (if t = true then .tup vs else .lst vs) ∧ SlAts K F A vs ss
theorem ObAt.le {K : PySem.W.Frag} {F G : Hp} {A B : List Addr} {h h' : Option HO} (s : Le F G) (p : A <+: B) (k : ∀ o, h = some o → h' = some o) : ∀ {ob : Ob}, ObAt K F A h ob → ObAt K G B h' ob
  | .l ds, ⟨xs, e, a⟩ => ⟨xs, k _ e, AtL.le s _ _ a⟩
  | .m kvs, ⟨vs, e, a⟩ => ⟨vs, k _ e, a.le s⟩
  | .mo kvs, ⟨vs, e, a⟩ => ⟨vs, k _ e, a.le p⟩
  | .lk od vs kvs, ⟨e, a⟩ => ⟨k _ e, a.le s⟩
  | .sq t ss, ⟨vs, e, a⟩ => ⟨vs, k _ e, a.le s p⟩
theorem ObAt.some {K : PySem.W.Frag} {F : Hp} {A : List Addr} {h : Option HO} : ∀ {ob : Ob}, ObAt K F A h ob → ∃ o, h = Option.some o
  | .l ds, ⟨xs, e, a⟩ => ⟨_, e⟩
  | .m kvs, ⟨vs, e, a⟩ => ⟨_, e⟩
  | .mo kvs, ⟨vs, e, a⟩ => ⟨_, e⟩
  | .lk od vs kvs, ⟨e, a⟩ => ⟨_, e⟩
  | .sq t ss, ⟨vs, e, a⟩ => ⟨_, e⟩
def genNames : List Str := ["is_mark", "is_numbered", "read_spot", "is_tree", "has_form", "which_live", "row_lives", "bars_by", "room_above", "sum_with", "is_place", "is_formed", "stand_once", "drop_name", "read_row", "is_number"]
/-- such a def's code object and its table -/
def TbAt (K : PySem.W.Frag) (nm : Str) (c P : Addr) : Prop := ∃ (f : Addr) (oc : Value) (od : Option Addr) (fd : FuncData) (sl : Array (Option Value)) (e : Value) (dd : Option Addr) (vs : Array Value) (sx : Array (Option Value)),
  PySem.W.nsIn K mainGlobals nm = some (some (.ref f)) ∧ K.lookup f = some ⟨oc, od, .func fd, sl⟩ ∧ fd.code = .ref c ∧ K.lookup c = some ⟨e, dd, .fields vs, sx⟩ ∧ vs[11]? = some (.ref P)
/-- a name under which two defs stand counts where the second one does -/
def GenAt (K : PySem.W.Frag) (nm : Str) : Prop := nm = "has_form" → ∃ v, PySem.W.nsIn K mainGlobals "is_tree" = some (some v)
def TbK (K : PySem.W.Frag) (P : Addr) : Prop := ∃ nm ∈ genNames, GenAt K nm ∧ ∃ c, TbAt K nm c P
/-- the tables stand apart from all else -/
structure Tbs (K : PySem.W.Frag) (R F H : Hp) (A : List Addr) : Prop where
  of : ∀ P, TbK K P → GxR.TabG H P ∧ F P = none ∧ R P = none ∧ P ∉ A
theorem Tbs.mk' {K : PySem.W.Frag} {R F H R' F' H' : Hp} {A A' : List Addr} (t : Tbs K R F H A) (h : ∀ P ps, H P = some (.tbl ps) → F P = none → R P = none → P ∉ A → H' P = H P ∧ F' P = none ∧ R' P = none ∧ P ∉ A') : Tbs K R' F' H' A' := ⟨fun P hP => by
  obtain ⟨⟨ps, h1, h2⟩, h3, h4, h5⟩ := t.of P hP
  obtain ⟨g1, g2, g3, g4⟩ := h P ps h1 h3 h4 h5
  exact ⟨⟨ps, g1.trans h1, h2⟩, g2, g3, g4⟩⟩
theorem tbl_ne {H : Hp} {P p : Addr} {ps : Array Value} (h : H P = some (.tbl ps)) (hp : H p = none) : P ≠ p := fun e => by
  rw [e, hp] at h
  cases h
section
variable {K : PySem.W.Frag} {R F H : Hp} {A : List Addr} {p a : Addr} {o o' : HO}
theorem Tbs.fresh (t : Tbs K R F H A) (hp : H p = none) : Tbs K R (upd F p o) (upd H p o) A := t.mk' fun P ps h f r n => ⟨upd_ne (tbl_ne h hp), (upd_ne (tbl_ne h hp)).trans f, r, n⟩
theorem Tbs.alloc (t : Tbs K R F H A) (hp : H p = none) : Tbs K R F (upd H p o) (A ++ [p]) := t.mk' fun P ps h f r n => ⟨upd_ne (tbl_ne h hp), f, r, fun z => by
  rcases List.mem_append.mp z with z | z
  · exact n z
  · exact tbl_ne h hp (List.mem_singleton.mp z)⟩
theorem Tbs.write (t : Tbs K R F H A) (ha : a ∈ A) : Tbs K R F (upd H a o) A := t.mk' fun P ps h f r n => ⟨upd_ne fun z : P = a => n (by rw [z]; exact ha), f, r, n⟩
theorem Tbs.freeze (t : Tbs K R F H A) (ha : a ∈ A) : Tbs K R (upd F a o) H A := t.mk' fun P ps h f r n => ⟨rfl, (upd_ne fun z : P = a => n (by rw [z]; exact ha)).trans f, r, n⟩
theorem Tbs.sub {A' : List Addr} (t : Tbs K R F H A) (h : ∀ a ∈ A', a ∈ A) : Tbs K R F H A' := t.mk' fun P ps g f r n => ⟨rfl, f, r, fun z => n (h P z)⟩
theorem Tbs.hold (t : Tbs K R F H A) (hp : H p = none) : Tbs K (upd R p o) F (upd H p o) A := t.mk' fun P ps h f r n => ⟨upd_ne (tbl_ne h hp), f, (upd_ne (tbl_ne h hp)).trans r, n⟩
theorem upd_none {p P : Addr} {o : HO} (h : upd R p o P = none) : P ≠ p := fun e => by
  rw [e, upd_same] at h
  cases h
theorem Tbs.rehold (t : Tbs K (upd R p o) F H A) : Tbs K (upd R p o') F (upd H p o') A := t.mk' fun P ps h f r n => by
  have ne := upd_none r
  rw [upd_ne ne] at r
  exact ⟨upd_ne ne, f, (upd_ne ne).trans r, n⟩
theorem Tbs.give (t : Tbs K (upd R p o) F H A) : Tbs K R (upd F p o) H A := t.mk' fun P ps h f r n => by
  have ne := upd_none r
  rw [upd_ne ne] at r
  exact ⟨rfl, (upd_ne ne).trans f, r, n⟩
theorem Tbs.giveOb (t : Tbs K (upd R p o) F H A) : Tbs K R F H (A ++ [p]) := t.mk' fun P ps h f r n => by
  have ne := upd_none r
  rw [upd_ne ne] at r
  exact ⟨rfl, f, r, fun z => by
    rcases List.mem_append.mp z with z | z
    · exact n z
    · exact ne (List.mem_singleton.mp z)⟩
theorem Tbs.adopt (t : Tbs K R F H A) (h : H p = some o) (no : ∀ ps, o ≠ .tbl ps) : Tbs K (upd R p o) F H A := t.mk' fun P ps g f r n => by
  have ne : P ≠ p := fun e => by
    rw [e, h] at g
    exact no ps (Option.some.inj g)
  exact ⟨rfl, f, (upd_ne ne).trans r, n⟩
end
/-- how names, store and heap stand: F what stands still, R what the callers keep, A where the store's lists lie -/
structure Rep (K : PySem.W.Frag) (R F : Hp) (A : List Addr) (σ : List (Option V)) (H : Hp) (e : En) : Prop where
  sub : Le F H
  keep : Le R H
  apart : ∀ a o, R a = some o → F a = none ∧ a ∉ A
  len : e.sl.length = σ.length
  lenA : e.st.length = A.length
  nodup : A.Nodup
  live : ∀ a ∈ A, ∃ o, H a = some o
  slot : ∀ (i : Nat) (s : Sl), e.sl[i]? = some (some s) → ∃ v, σ[i]? = some (some v) ∧ SlAt K F A v s
  store : ∀ (j : Nat) (ob : Ob), e.st[j]? = some (some ob) → ∃ a, A[j]? = some a ∧ F a = none ∧ ObAt K F A (H a) ob
  tabs : Tbs K R F H A
section
variable {K : PySem.W.Frag} {R F : Hp} {A : List Addr} {σ : L2.St} {H : Hp} {e : En}
theorem Rep.lst (r : Rep K R F A σ H e) {j : Nat} {ds : List D} (h : e.st[j]? = some (some (.l ds))) : ∃ a xs, A[j]? = some a ∧ F a = none ∧ H a = some (.lst xs) ∧ AtL K F ds xs := by
  obtain ⟨a, h1, h2, xs, h3, h4⟩ := r.store j _ h
  exact ⟨a, xs, h1, h2, h3, h4⟩
theorem pfx_refl (A : List Addr) : A <+: A := List.prefix_refl A
theorem nodup_at {A : List Addr} (h : A.Nodup) {i j : Nat} {a : Addr} (e : A[i]? = some a) (f : A[j]? = some a) : i = j := by
  obtain ⟨hi, ei⟩ := List.getElem?_eq_some_iff.mp e
  obtain ⟨hj, ej⟩ := List.getElem?_eq_some_iff.mp f
  exact (List.getElem_inj h).mp (ei.trans ej.symm)
/-- a new thing that stands still -/
theorem Rep.fresh (r : Rep K R F A σ H e) {p : Addr} (hp : H p = none) (o : HO) : Rep K R (upd F p o) A σ (upd H p o) e ∧ Le F (upd F p o) := by
  have hF : F p = none := r.sub.free hp
  have hR : R p = none := r.keep.free hp
  have hA : p ∉ A := fun hm => by
    obtain ⟨o, ho⟩ := r.live p hm
    rw [ho] at hp
    cases hp
  have l := Le.new (o := o) hF
  have l2 := Le.new (o := o) hp
  refine ⟨⟨fun b u z => ?_, Le.trans r.keep l2, fun a u z => ⟨?_, (r.apart a u z).2⟩, r.len, r.lenA, r.nodup, fun a ha => ?_, fun i s z => ?_, fun j ds z => ?_, r.tabs.fresh hp⟩, l⟩
  · by_cases hb : b = p
    · subst hb
      rw [upd_same] at z ⊢
      exact z
    · rw [upd_ne hb] at z ⊢
      exact r.sub _ _ z
  · rw [upd_ne (fun q => by rw [q, hR] at z; cases z)]
    exact (r.apart a u z).1
  · obtain ⟨u, hu⟩ := r.live a ha
    exact ⟨u, l2 _ _ hu⟩
  · obtain ⟨v, h1, h2⟩ := r.slot i s z
    exact ⟨v, h1, h2.le l (pfx_refl A)⟩
  · obtain ⟨a, h1, h2, h3⟩ := r.store j ds z
    refine ⟨a, h1, ?_, h3.le l (pfx_refl A) fun u e => l2 _ _ e⟩
    have n : a ≠ p := fun q => hA (by rw [← q]; exact List.mem_of_getElem? h1)
    rw [upd_ne n]
    exact h2
/-- a new thing of the store -/
theorem Rep.allocO (r : Rep K R F A σ H e) {p : Addr} (hp : H p = none) {o : HO} {ob : Ob} (hx : ObAt K F (A ++ [p]) (some o) ob) : Rep K R F (A ++ [p]) σ (upd H p o) ⟨e.sl, e.st ++ [some ob]⟩ ∧ A <+: A ++ [p] := by
  have hF : F p = none := r.sub.free hp
  have hR : R p = none := r.keep.free hp
  have hA : p ∉ A := fun hm => by
    obtain ⟨o, ho⟩ := r.live p hm
    rw [ho] at hp
    cases hp
  have l2 := Le.new (o := o) hp
  have pf : A <+: A ++ [p] := ⟨[p], rfl⟩
  refine ⟨⟨Le.trans r.sub l2, Le.trans r.keep l2, fun a u z => ⟨(r.apart a u z).1, fun hm => ?_⟩, r.len, ?_, ?_, fun a ha => ?_, fun i s z => ?_, fun j cs z => ?_, r.tabs.alloc hp⟩, pf⟩
  · rcases List.mem_append.mp hm with hm | hm
    · exact (r.apart a u z).2 hm
    · rw [List.mem_singleton.mp hm, hR] at z
      cases z
  · simp [r.lenA]
  · rw [List.nodup_append]
    exact ⟨r.nodup, by simp, fun a ha b hb q => hA (by rw [List.mem_singleton.mp hb] at q; exact q ▸ ha)⟩
  · rcases List.mem_append.mp ha with ha | ha
    · obtain ⟨u, hu⟩ := r.live a ha
      exact ⟨u, l2 _ _ hu⟩
    · rw [List.mem_singleton.mp ha]
      exact ⟨_, upd_same⟩
  · obtain ⟨v, h1, h2⟩ := r.slot i s z
    exact ⟨v, h1, h2.le (Le.refl F) pf⟩
  · have z' : (e.st ++ [some ob])[j]? = some (some cs) := z
    by_cases hj : j < e.st.length
    · rw [List.getElem?_append_left hj] at z'
      obtain ⟨a, h1, h2, h3⟩ := r.store j cs z'
      exact ⟨a, pfx_get pf h1, h2, h3.le (Le.refl F) pf fun u e => l2 _ _ e⟩
    · rw [List.getElem?_append_right (by omega)] at z'
      have hj0 : j - e.st.length = 0 := by
        rcases Nat.eq_zero_or_pos (j - e.st.length) with q | q
        · exact q
        · rw [List.getElem?_eq_none (by simp; omega)] at z'
          cases z'
      rw [hj0] at z'
      simp at z'
      subst z'
      refine ⟨p, ?_, hF, ?_⟩
      · rw [List.getElem?_append_right (by rw [← r.lenA]; omega), ← r.lenA, hj0] <;> rfl
      · rw [upd_same]
        exact hx
theorem Rep.alloc (r : Rep K R F A σ H e) {p : Addr} (hp : H p = none) {xs : List V} {ds : List D} (hx : AtL K F ds xs) : Rep K R F (A ++ [p]) σ (upd H p (.lst xs)) ⟨e.sl, e.st ++ [some (.l ds)]⟩ ∧ A <+: A ++ [p] := r.allocO hp (o := .lst xs) (ob := .l ds) ⟨xs, rfl, hx⟩
/-- the j-th thing of the store is changed -/
theorem Rep.writeO (r : Rep K R F A σ H e) {j : Nat} {a : Addr} {ob : Ob} (hj : A[j]? = some a) (hl : e.st[j]? = some (some ob)) {o : HO} {ob' : Ob} (hx : ObAt K F A (some o) ob') :
    Rep K R F A σ (upd H a o) ⟨e.sl, e.st.set j (some ob')⟩ := by
  obtain ⟨a', e1, hF, hH⟩ := r.store j ob hl
  rw [hj] at e1
  cases e1
  have hjl : j < e.st.length := (List.getElem?_eq_some_iff.mp hl).1
  have hm : a ∈ A := List.mem_of_getElem? hj
  refine ⟨fun b u z => ?_, fun b u z => ?_, r.apart, r.len, by simp [r.lenA], r.nodup, fun b hb => ?_, r.slot, fun i cs z => ?_, r.tabs.write hm⟩
  · rw [upd_ne (fun q => by rw [q, hF] at z; cases z)]
    exact r.sub _ _ z
  · have n : b ≠ a := fun q => (r.apart b u z).2 (by rw [q]; exact hm)
    rw [upd_ne n]
    exact r.keep _ _ z
  · by_cases q : b = a
    · subst q
      exact ⟨_, upd_same⟩
    · rw [upd_ne q]
      exact r.live b hb
  · have z' : (e.st.set j (some ob'))[i]? = some (some cs) := z
    by_cases q : i = j
    · subst q
      rw [List.getElem?_set_self hjl] at z'
      cases z'
      exact ⟨a, hj, hF, by rw [upd_same]; exact hx⟩
    · rw [List.getElem?_set_ne (Ne.symm q)] at z'
      obtain ⟨b, h1, h2, h3⟩ := r.store i cs z'
      have n : b ≠ a := fun w => q (nodup_at r.nodup (by rw [← w]; exact h1) hj)
      exact ⟨b, h1, h2, by rw [upd_ne n]; exact h3⟩
theorem Rep.write (r : Rep K R F A σ H e) {j : Nat} {a : Addr} {ds : List D} (hj : A[j]? = some a) (hl : e.st[j]? = some (some (.l ds))) {xs' : List V} {ds' : List D} (hx : AtL K F ds' xs') :
    Rep K R F A σ (upd H a (.lst xs')) ⟨e.sl, e.st.set j (some (.l ds'))⟩ := r.writeO hj hl (o := .lst xs') (ob' := .l ds') ⟨xs', rfl, hx⟩
/-- a name is given a value -/
theorem Rep.put (r : Rep K R F A σ H e) {i : Nat} {v : V} {s : Sl} (h : SlAt K F A v s) : Rep K R F A (σ.set i (some v)) H ⟨e.sl.set i (some s), e.st⟩ := by
  refine ⟨r.sub, r.keep, r.apart, by simp [r.len], r.lenA, r.nodup, r.live, fun k t z => ?_, r.store, r.tabs⟩
  have z' : (e.sl.set i (some s))[k]? = some (some t) := z
  by_cases q : k = i
  · subst q
    have hk : k < e.sl.length := by
      have := (List.getElem?_eq_some_iff.mp z').1
      simpa using this
    rw [List.getElem?_set_self hk] at z'
    cases z'
    exact ⟨v, by rw [List.getElem?_set_self (by rw [← r.len]; exact hk)], h⟩
  · rw [List.getElem?_set_ne (Ne.symm q)] at z'
    obtain ⟨u, h1, h2⟩ := r.slot k t z'
    exact ⟨u, by rw [List.getElem?_set_ne (Ne.symm q)]; exact h1, h2⟩
/-- the names that hold the j-th list hold data from now on -/
def thaw (j : Nat) (ds : List D) : Option Sl → Option Sl
  | some (.obj i) => if i = j then some (.val (.list ds)) else some (.obj i)
  | s => s
def En.kill (e : En) (j : Nat) (ds : List D) : En := ⟨e.sl.map (thaw j ds), e.st.set j none⟩
theorem Rep.freeze (r : Rep K R F A σ H e) {j : Nat} {ds : List D} (hl : e.st[j]? = some (some (.l ds))) :
    ∃ a xs, A[j]? = some a ∧ Rep K R (upd F a (.lst xs)) A σ H (e.kill j ds) ∧ Le F (upd F a (.lst xs)) ∧ At K (upd F a (.lst xs)) (.list ds) (.ref a) := by
  obtain ⟨a, xs, hj, hF, hH, hx⟩ := r.lst hl
  have hm : a ∈ A := List.mem_of_getElem? hj
  have l := Le.new (o := .lst xs) hF
  have hat : At K (upd F a (.lst xs)) (.list ds) (.ref a) := .lst upd_same (AtL.le l _ _ hx)
  refine ⟨a, xs, hj, ⟨fun b u z => ?_, r.keep, fun b u z => ⟨?_, (r.apart b u z).2⟩, by simp [En.kill, r.len], by simp [En.kill, r.lenA], r.nodup, r.live, fun i s z => ?_, fun i cs z => ?_, r.tabs.freeze hm⟩, l, hat⟩
  · by_cases hb : b = a
    · subst hb
      rw [upd_same] at z
      cases z
      exact hH
    · rw [upd_ne hb] at z
      exact r.sub _ _ z
  · have n : b ≠ a := fun q => (r.apart b u z).2 (by rw [q]; exact hm)
    rw [upd_ne n]
    exact (r.apart b u z).1
  · have z' : (e.sl.map (thaw j ds))[i]? = some (some s) := z
    rw [List.getElem?_map] at z'
    obtain ⟨t, ht, hs⟩ := Option.map_eq_some_iff.mp z'
    cases t with
    | none => cases hs
    | some t =>
      cases t with
      | val d =>
        cases hs
        obtain ⟨v, h1, h2⟩ := r.slot i _ ht
        exact ⟨v, h1, h2.le l (pfx_refl A)⟩
      | kn d =>
        cases hs
        obtain ⟨v, h1, h2⟩ := r.slot i _ ht
        exact ⟨v, h1, SlAt.le (x := .kn d) l (pfx_refl A) h2⟩
      | exc d =>
        cases hs
        obtain ⟨v, h1, h2⟩ := r.slot i _ ht
        exact ⟨v, h1, h2⟩
      | obj k =>
        obtain ⟨v, h1, b, hb, hv⟩ := r.slot i _ ht
        have hs' : (if k = j then some (Sl.val (.list ds)) else some (Sl.obj k)) = some s := hs
        split at hs'
        · rename_i q
          cases hs'
          subst q
          rw [hj] at hb
          cases hb
          exact ⟨v, h1, by rw [hv]; exact hat⟩
        · cases hs'
          exact ⟨v, h1, b, hb, hv⟩
  · have z' : (e.st.set j none)[i]? = some (some cs) := z
    have hjl : j < e.st.length := (List.getElem?_eq_some_iff.mp hl).1
    by_cases q : i = j
    · subst q
      rw [List.getElem?_set_self hjl] at z'
      cases z'
    · rw [List.getElem?_set_ne (Ne.symm q)] at z'
      obtain ⟨b, h1, h2, h3⟩ := r.store i cs z'
      refine ⟨b, h1, ?_, h3.le l (pfx_refl A) fun _ e => e⟩
      have n : b ≠ a := fun w => q (nodup_at r.nodup (by rw [← w]; exact h1) hj)
      rw [upd_ne n]
      exact h2
/-- a name's value is forgotten -/
theorem Rep.weak (r : Rep K R F A σ H e) {σ' : L2.St} {sl : List (Option Sl)} (hl : sl.length = σ'.length) (h : ∀ (i : Nat) (s : Sl), sl[i]? = some (some s) → ∃ v, σ'[i]? = some (some v) ∧ SlAt K F A v s) : Rep K R F A σ' H ⟨sl, e.st⟩ :=
  ⟨r.sub, r.keep, r.apart, hl, r.lenA, r.nodup, r.live, h, r.store, r.tabs⟩
end
end Vl
namespace Vl
open PySem L2
abbrev KE := Sl → En → Prop
abbrev VTE := En → KE → Prop
abbrev VTT := En → (Bool → En → Prop) → Prop
abbrev VTA := En → (List Sl → En → Prop) → Prop
def Fin (K : PySem.W.Frag) (R F : Hp) (A : List Addr) (σ : L2.St) (Kp : KE) (Q : VK) : Prop := ∀ s e' v F' A' H', Kp s e' → Le F F' → A <+: A' → Rep K R F' A' σ H' e' → SlAt K F' A' v s → Q v H'
def liftE (K : PySem.W.Frag) (t : VTE) : TE := fun σ H Q => ∃ R F A e Kp, Rep K R F A σ H e ∧ t e Kp ∧ Fin K R F A σ Kp Q
def FinT (K : PySem.W.Frag) (R F : Hp) (A : List Addr) (σ : L2.St) (Kp : Bool → En → Prop) (Q : Bool → Hp → Prop) : Prop := ∀ b e' F' A' H', Kp b e' → Le F F' → A <+: A' → Rep K R F' A' σ H' e' → Q b H'
def liftT (K : PySem.W.Frag) (t : VTT) : TT := fun σ H Q => ∃ R F A e Kp, Rep K R F A σ H e ∧ t e Kp ∧ FinT K R F A σ Kp Q
def FinA (K : PySem.W.Frag) (R F : Hp) (A : List Addr) (σ : L2.St) (Kp : List Sl → En → Prop) (Q : List V → Hp → Prop) : Prop := ∀ ss e' vs F' A' H', Kp ss e' → Le F F' → A <+: A' → Rep K R F' A' σ H' e' → SlAts K F' A' vs ss → Q vs H'
def liftA (K : PySem.W.Frag) (t : VTA) : TA := fun σ H Q => ∃ R F A e Kp, Rep K R F A σ H e ∧ t e Kp ∧ FinA K R F A σ Kp Q
/-- the judgements -/
def VE (X : Cx) (ex : Expr) (t : VTE) : Prop := PE X ex (liftE X.K t)
def VT (X : Cx) (ex : Expr) (t : VTT) : Prop := PT X ex (liftT X.K t)
def VW (X : Cx) (ex : Expr) (t : VTT) : Prop := PW X ex (liftT X.K t)
def VA (X : Cx) (es : List Expr) (t : VTA) : Prop := PA X es (liftA X.K t)
theorem PE.imp {X : Cx} {ex : Expr} {t t' : TE} (h : PE X ex t) (f : ∀ σ H Q, t' σ H Q → t σ H Q) : PE X ex t' := ⟨fun pins s σ H Q I q => h.run pins s σ H Q I (f σ H Q q)⟩
theorem PT.imp {X : Cx} {ex : Expr} {t t' : TT} (h : PT X ex t) (f : ∀ σ H Q, t' σ H Q → t σ H Q) : PT X ex t' := ⟨fun pins s σ H Q I q => h.run pins s σ H Q I (f σ H Q q)⟩
theorem PW.imp {X : Cx} {ex : Expr} {t t' : TT} (h : PW X ex t) (f : ∀ σ H Q, t' σ H Q → t σ H Q) : PW X ex t' := ⟨fun wh pins s σ H Q I q => h.run wh pins s σ H Q I (f σ H Q q)⟩
theorem PA.imp {X : Cx} {ex : List Expr} {t t' : TA} (h : PA X ex t) (f : ∀ σ H Q, t' σ H Q → t σ H Q) : PA X ex t' := ⟨fun pos pins s σ H Q I q => h.run pos pins s σ H Q I (f σ H Q q)⟩
theorem PS.imp {X : Cx} {ex : Stmt} {t t' : TS} (h : PS X ex t) (f : ∀ D σ H, t' D σ H → t D σ H) : PS X ex t' := ⟨fun pins s σ H D I q => h.run pins s σ H D I (f D σ H q)⟩
theorem PSs.imp {X : Cx} {ex : List Stmt} {t t' : TS} (h : PSs X ex t) (f : ∀ D σ H, t' D σ H → t D σ H) : PSs X ex t' := ⟨fun pins s σ H D I q => h.run pins s σ H D I (f D σ H q)⟩
section
variable {K : PySem.W.Frag} {R F : Hp} {A : List Addr} {σ : L2.St} {H : Hp} {e : En} {Kp : KE} {Q : VK}
theorem Fin.tr {F1 : Hp} {A1 : List Addr} (f : Fin K R F A σ Kp Q) (a : Le F F1) (b : A <+: A1) : Fin K R F1 A1 σ Kp Q := fun s e' v F' A' H' k h1 h2 => f s e' v F' A' H' k (a.trans h1) (b.trans h2)
theorem FinT.tr {Kp : Bool → En → Prop} {Q : Bool → Hp → Prop} {F1 : Hp} {A1 : List Addr} (f : FinT K R F A σ Kp Q) (a : Le F F1) (b : A <+: A1) : FinT K R F1 A1 σ Kp Q := fun s e' F' A' H' k h1 h2 => f s e' F' A' H' k (a.trans h1) (b.trans h2)
theorem FinA.tr {Kp : List Sl → En → Prop} {Q : List V → Hp → Prop} {F1 : Hp} {A1 : List Addr} (f : FinA K R F A σ Kp Q) (a : Le F F1) (b : A <+: A1) : FinA K R F1 A1 σ Kp Q := fun s e' v F' A' H' k h1 h2 => f s e' v F' A' H' k (a.trans h1) (b.trans h2)
/-- an answer is ready -/
theorem Fin.done (f : Fin K R F A σ Kp Q) (r : Rep K R F A σ H e) {s : Sl} {v : V} (k : Kp s e) (h : SlAt K F A v s) : Q v H := f s e v F A H k (Le.refl F) (pfx_refl A) r h
theorem Fin.val (f : Fin K R F A σ Kp Q) (r : Rep K R F A σ H e) {d : D} {v : V} (k : Kp (.val d) e) (h : At K F d v) : Q v H := f.done r (s := .val d) k h
theorem Fin.newT (f : Fin K R F A σ Kp Q) (r : Rep K R F A σ H e) {ds : List D} {xs : List V} {p : Addr} (hp : H p = none) (k : Kp (.val (.tuple ds)) e) (h : AtL K F ds xs) : Q (.ref p) (upd H p (.tup xs)) := by
  obtain ⟨r2, l⟩ := r.fresh hp (.tup xs)
  exact f (.val (.tuple ds)) e (.ref p) _ A _ k l (pfx_refl A) r2 (.tup (SqT.of upd_same) (AtL.le l _ _ h))
theorem Fin.newL (f : Fin K R F A σ Kp Q) (r : Rep K R F A σ H e) {ds : List D} {xs : List V} {p : Addr} (hp : H p = none) (k : Kp (.val (.list ds)) e) (h : AtL K F ds xs) : Q (.ref p) (upd H p (.lst xs)) := by
  obtain ⟨r2, l⟩ := r.fresh hp (.lst xs)
  exact f (.val (.list ds)) e (.ref p) _ A _ k l (pfx_refl A) r2 (.lst upd_same (AtL.le l _ _ h))
theorem Fin.newO (f : Fin K R F A σ Kp Q) (r : Rep K R F A σ H e) {ds : List D} {xs : List V} {p : Addr} (hp : H p = none) (k : Kp (.obj e.st.length) ⟨e.sl, e.st ++ [some (.l ds)]⟩) (h : AtL K F ds xs) : Q (.ref p) (upd H p (.lst xs)) := by
  obtain ⟨r2, l⟩ := r.alloc hp h
  refine f (.obj e.st.length) _ (.ref p) F _ _ k (Le.refl F) l r2 ⟨p, ?_, rfl⟩
  rw [r.lenA, List.getElem?_append_right (Nat.le_refl _), Nat.sub_self] <;> rfl
end
/-- what stands there now -/
def pk (s : Sl) (e : En) : Option D := match s with
  | .val d => some d
  | .kn ds => some (.list ds)
  | .exc _ => none
  | .obj j => match e.st[j]? with
    | some (some (.l ds)) => some (.list ds)
    | _ => none
/-- the same, of what may be put together -/
def pkm (s : Sl) (e : En) : Option D := match s with
  | .val d => some d
  | .kn _ => none
  | .exc _ => none
  | .obj j => match e.st[j]? with
    | some (some (.l ds)) => some (.list ds)
    | _ => none
def Pk (K : PySem.W.Frag) (F H : Hp) (v : V) : D → Prop
  | .list ds => ∃ a xs, v = .ref a ∧ SqL K H a xs ∧ AtL K F ds xs
  | d => At K F d v
def Pkm (K : PySem.W.Frag) (F H : Hp) (v : V) : D → Prop
  | .list ds => ∃ a xs, v = .ref a ∧ H a = some (.lst xs) ∧ AtL K F ds xs
  | d => At K F d v
section
variable {K : PySem.W.Frag} {R F : Hp} {A : List Addr} {σ : L2.St} {H : Hp} {e : En}
theorem Pk.of_at (s : Le F H) {v : V} : ∀ {d : D}, At K F d v → Pk K F H v d
  | .list ds, h => by
    cases h with
    | lst h1 h2 => exact ⟨_, _, rfl, SqL.of (s _ _ h1), h2⟩
  | .none, h => h
  | .bool _, h => h
  | .int _, h => h
  | .str _, h => h
  | .tuple _, h => h
  | .dict _, h => h
theorem Pkm.of_at (s : Le F H) {v : V} : ∀ {d : D}, At K F d v → Pkm K F H v d
  | .list ds, h => by
    cases h with
    | lst h1 h2 => exact ⟨_, _, rfl, s _ _ h1, h2⟩
  | .none, h => h
  | .bool _, h => h
  | .int _, h => h
  | .str _, h => h
  | .tuple _, h => h
  | .dict _, h => h
theorem Rep.pk (r : Rep K R F A σ H e) {v : V} {s : Sl} (h : SlAt K F A v s) {d : D} (q : pk s e = some d) : Pk K F H v d := by
  cases s with
  | val c =>
    cases q
    exact Pk.of_at r.sub h
  | kn ds =>
    cases q
    obtain ⟨a, xs, e1, h1, h2⟩ := h
    exact ⟨a, xs, e1, sqL_le r.sub h1, h2⟩
  | exc d => cases q
  | obj j =>
    obtain ⟨a, e1, e2⟩ := h
    replace q : (match e.st[j]? with | some (some (.l ds)) => some (PyData.list ds) | _ => none) = some d := q
    split at q
    · rename_i ds hd
      cases q
      obtain ⟨b, xs, h1, h2, h3, h4⟩ := r.lst hd
      rw [e1] at h1
      cases h1
      exact ⟨a, xs, e2, SqL.of h3, h4⟩
    · cases q
theorem Rep.pkm (r : Rep K R F A σ H e) {v : V} {s : Sl} (h : SlAt K F A v s) {d : D} (q : pkm s e = some d) : Pkm K F H v d := by
  cases s with
  | val c =>
    cases q
    exact Pkm.of_at r.sub h
  | kn ds => cases q
  | exc d => cases q
  | obj j =>
    obtain ⟨a, e1, e2⟩ := h
    replace q : (match e.st[j]? with | some (some (.l ds)) => some (PyData.list ds) | _ => none) = some d := q
    split at q
    · rename_i ds hd
      cases q
      obtain ⟨b, xs, h1, h2, h3, h4⟩ := r.lst hd
      rw [e1] at h1
      cases h1
      exact ⟨a, xs, e2, h3, h4⟩
    · cases q
theorem Pk.int {v : V} {i : Int} (h : Pk K F H v (.int i)) : v = .int i := by
  cases (show At K F (.int i) v from h)
  rfl
theorem Pk.str {v : V} {i : Str} (h : Pk K F H v (.str i)) : v = .str i := by
  cases (show At K F (.str i) v from h)
  rfl
theorem Pk.bool {v : V} {i : Bool} (h : Pk K F H v (.bool i)) : v = .bl i := by
  cases (show At K F (.bool i) v from h)
  rfl
theorem Pk.none {v : V} (h : Pk K F H v .none) : v = .non := by
  cases (show At K F .none v from h)
  rfl
theorem Pk.tup {v : V} {ds : List D} (h : Pk K F H v (.tuple ds)) : ∃ a xs, v = .ref a ∧ SqT K F a xs ∧ AtL K F ds xs := by
  cases (show At K F (.tuple ds) v from h) with
  | tup h1 h2 => exact ⟨_, _, rfl, h1, h2⟩
theorem Pkm.int {v : V} {i : Int} (h : Pkm K F H v (.int i)) : v = .int i := by
  cases (show At K F (.int i) v from h)
  rfl
theorem Pkm.str {v : V} {i : Str} (h : Pkm K F H v (.str i)) : v = .str i := by
  cases (show At K F (.str i) v from h)
  rfl
theorem Pkm.tup {v : V} {ds : List D} (h : Pkm K F H v (.tuple ds)) : ∃ a xs, v = .ref a ∧ SqT K F a xs ∧ AtL K F ds xs := by
  cases (show At K F (.tuple ds) v from h) with
  | tup h1 h2 => exact ⟨_, _, rfl, h1, h2⟩
theorem Pk.dp (s : Le F H) {v : V} : ∀ {d : D}, PyData.canLay0 d = true → Pk K F H v d → Dp K H v d
  | .list ds, c, ⟨a, xs, e, h1, h2⟩ => by
    subst e
    exact .lst h1 (AtL.dp s _ _ (by rw [PyData.canLay0] at c; exact c) h2)
  | .none, c, h => At.dp s _ _ c h
  | .bool _, c, h => At.dp s _ _ c h
  | .int _, c, h => At.dp s _ _ c h
  | .str _, c, h => At.dp s _ _ c h
  | .tuple _, c, h => At.dp s _ _ c h
  | .dict _, c, h => At.dp s _ _ c h
end
def asD (s : Sl) (e : En) (Kd : D → En → Prop) : Prop := match s with
  | .val d => Kd d e
  | .kn _ => False
  | .exc _ => False
  | .obj j => match e.st[j]? with
    | some (some (.l ds)) => Kd (.list ds) (e.kill j ds)
    | _ => False
def asDs : List Sl → En → (List D → En → Prop) → Prop
  | [], e, Kd => Kd [] e
  | s :: ss, e, Kd => asD s e fun d e1 => asDs ss e1 fun ds e2 => Kd (d :: ds) e2
section
variable {K : PySem.W.Frag} {R F : Hp} {A : List Addr} {σ : L2.St} {H : Hp} {e : En}
theorem Rep.asD (r : Rep K R F A σ H e) {v : V} {s : Sl} (h : SlAt K F A v s) {Kd : D → En → Prop} (q : asD s e Kd) : ∃ d e' F', Kd d e' ∧ Rep K R F' A σ H e' ∧ Le F F' ∧ At K F' d v := by
  cases s with
  | val d => exact ⟨d, e, F, q, r, Le.refl F, h⟩
  | kn ds => exact q.elim
  | exc d => exact q.elim
  | obj j =>
    obtain ⟨a, e1, e2⟩ := h
    replace q : (match e.st[j]? with | some (some (.l ds)) => Kd (.list ds) (e.kill j ds) | _ => False) := q
    split at q
    · rename_i ds hd
      obtain ⟨b, xs, h1, h2, h3, h4⟩ := r.freeze hd
      rw [e1] at h1
      cases h1
      exact ⟨_, _, _, q, h2, h3, by rw [e2]; exact h4⟩
    · exact q.elim
theorem Rep.asDs {vs : List V} {ss : List Sl} : ∀ {F : Hp} {e : En}, Rep K R F A σ H e → SlAts K F A vs ss → ∀ {Kd : List D → En → Prop}, asDs ss e Kd → ∃ ds e' F', Kd ds e' ∧ Rep K R F' A σ H e' ∧ Le F F' ∧ AtL K F' ds vs := by
  induction ss generalizing vs with
  | nil =>
    intro F e r h Kd q
    cases h
    exact ⟨[], e, F, q, r, Le.refl F, .nil⟩
  | cons s ss ih =>
    intro F e r h Kd q
    cases h with
    | cons h1 h2 =>
      obtain ⟨d, e1, F1, q1, r1, l1, a1⟩ := r.asD h1 q
      obtain ⟨ds, e2, F2, q2, r2, l2, a2⟩ := ih r1 (h2.le l1 (pfx_refl A)) q1
      exact ⟨d :: ds, e2, F2, q2, r2, l1.trans l2, .cons (At.le l2 _ _ a1) a2⟩
end
def v2 (op : Sl → Sl → En → KE → Prop) (ta tb : VTE) : VTE := fun e Kp => ta e fun s1 e1 => tb e1 fun s2 e2 => op s1 s2 e2 Kp
def v1 (op : Sl → En → KE → Prop) (ta : VTE) : VTE := fun e Kp => ta e fun s1 e1 => op s1 e1 Kp
def Prim2 (K : PySem.W.Frag) (r : R2) (op : Sl → Sl → En → KE → Prop) : Prop := ∀ {R F : Hp} {A : List Addr} {σ : L2.St} {H : Hp} {e : En} {x y : V} {s1 s2 : Sl} {Kp : KE} {Q : VK}, Rep K R F A σ H e → SlAt K F A x s1 → SlAt K F A y s2 → op s1 s2 e Kp → Fin K R F A σ Kp Q → r x y H Q
def Prim1 (K : PySem.W.Frag) (r : V → Hp → VK → Prop) (op : Sl → En → KE → Prop) : Prop := ∀ {R F : Hp} {A : List Addr} {σ : L2.St} {H : Hp} {e : En} {x : V} {s1 : Sl} {Kp : KE} {Q : VK}, Rep K R F A σ H e → SlAt K F A x s1 → op s1 e Kp → Fin K R F A σ Kp Q → r x H Q
def PrimN (K : PySem.W.Frag) (r : List V → Hp → VK → Prop) (op : List Sl → En → KE → Prop) : Prop := ∀ {R F : Hp} {A : List Addr} {σ : L2.St} {H : Hp} {e : En} {xs : List V} {ss : List Sl} {Kp : KE} {Q : VK}, Rep K R F A σ H e → SlAts K F A xs ss → op ss e Kp → Fin K R F A σ Kp Q → r xs H Q
section
variable {X : Cx} {a b : Expr} {ta tb : VTE} {pos : Pos}
theorem lift2 {r : R2} {op : Sl → Sl → En → KE → Prop} (p : Prim2 X.K r op) (σ : L2.St) (H : Hp) (Q : VK) (h : liftE X.K (v2 op ta tb) σ H Q) : tOp r (liftE X.K ta) (liftE X.K tb) σ H Q := by
  obtain ⟨R, F, A, e, Kp, rep, ht, fin⟩ := h
  exact ⟨R, F, A, e, _, rep, ht, fun s1 e1 x F1 A1 H1 k1 f1 p1 rep1 at1 => ⟨R, F1, A1, e1, _, rep1, k1, fun s2 e2 y F2 A2 H2 k2 f2 p2 rep2 at2 => p rep2 (at1.le f2 p2) at2 k2 (fin.tr (f1.trans f2) (p1.trans p2))⟩⟩
theorem lift1 {r : V → Hp → VK → Prop} {op : Sl → En → KE → Prop} (p : Prim1 X.K r op) (σ : L2.St) (H : Hp) (Q : VK) (h : liftE X.K (v1 op ta) σ H Q) : liftE X.K ta σ H fun x H1 => r x H1 Q := by
  obtain ⟨R, F, A, e, Kp, rep, ht, fin⟩ := h
  exact ⟨R, F, A, e, _, rep, ht, fun s1 e1 x F1 A1 H1 k1 f1 p1 rep1 at1 => p rep1 at1 k1 (fin.tr f1 p1)⟩
def vN (op : List Sl → En → KE → Prop) (t : VTA) : VTE := fun e Kp => t e fun ss e1 => op ss e1 Kp
theorem liftN {r : List V → Hp → VK → Prop} {op : List Sl → En → KE → Prop} {t : VTA} (p : PrimN X.K r op) (σ : L2.St) (H : Hp) (Q : VK) (h : liftE X.K (vN op t) σ H Q) : liftA X.K t σ H fun xs H1 => r xs H1 Q := by
  obtain ⟨R, F, A, e, Kp, rep, ht, fin⟩ := h
  exact ⟨R, F, A, e, _, rep, ht, fun s1 e1 x F1 A1 H1 k1 f1 p1 rep1 at1 => p rep1 at1 k1 (fin.tr f1 p1)⟩
theorem ve_op {op : Operator} {r : R2} {o : Sl → Sl → En → KE → Prop} (p : Prim2 X.K r o) (ho : OpR X (binaryOp op) r) (ha : VE X a ta) (hb : VE X b tb) : VE X (.BinOp a op b pos) (v2 o ta tb) := PE.imp (pe_op ho ha hb) (lift2 p)
theorem ve_cmp {op : CmpOp} {r : R2} {o : Sl → Sl → En → KE → Prop} (p : Prim2 X.K r o) (ho : OpR X (compareOp op) r) (ha : VE X a ta) (hb : VE X b tb) (hm : behindInMarks op b = false) : VE X (.Compare a [op] [b] pos) (v2 o ta tb) := PE.imp (pe_cmpR ho ha hb hm) (lift2 p)
theorem ve_ixR {r : R2} {o : Sl → Sl → En → KE → Prop} (p : Prim2 X.K r o) (hr : IxR X r) (ha : VE X a ta) (hb : VE X b tb) (hs : PlainIx b) : VE X (.Subscript a b pos) (v2 o ta tb) := PE.imp (pe_ix hr ha hb hs) (lift2 p)
theorem ve_unR {op : UnaryOp} {r : V → Hp → VK → Prop} {o : Sl → En → KE → Prop} (p : Prim1 X.K r o) (ho : UnR X (unaryOp op) r) (ha : VE X a ta) : VE X (.UnaryOp op a pos) (v1 o ta) := PE.imp (pe_un ho ha) (lift1 p)
def vTest (t : VTE) : VTT := fun e Kp => t e fun s e1 => match pk s e1 with
  | some (.bool b) => Kp b e1
  | _ => False
theorem lift_test {t : VTE} (σ : L2.St) (H : Hp) (Q : Bool → Hp → Prop) (h : liftT X.K (vTest t) σ H Q) : liftE X.K t σ H fun x H' => ∃ k, x = .bl k ∧ Q k H' := by
  obtain ⟨R, F, A, e, Kp, rep, ht, fin⟩ := h
  refine ⟨R, F, A, e, _, rep, ht, fun s1 e1 x F1 A1 H1 k1 f1 p1 rep1 at1 => ?_⟩
  split at k1
  · rename_i b hb
    exact ⟨b, (rep1.pk at1 hb).bool, fin b e1 F1 A1 H1 k1 f1 p1 rep1⟩
  · exact k1.elim
theorem vt_cmp {op : CmpOp} {r : R2} {o : Sl → Sl → En → KE → Prop} (p : Prim2 X.K r o) (ho : OpR X (compareOp op) r) (ha : VE X a ta) (hb : VE X b tb) (hm : behindInMarks op b = false) : VT X (.Compare a [op] [b] pos) (vTest (v2 o ta tb)) :=
  PT.imp (pt_cmpR ho ha hb hm) fun σ H Q h => lift2 p σ H _ (by
    obtain ⟨R, F, A, e, Kp, rep, ht, fin⟩ := h
    refine ⟨R, F, A, e, _, rep, ht, fun s1 e1 x F1 A1 H1 k1 f1 p1 rep1 at1 => ?_⟩
    split at k1
    · rename_i b hb
      exact ⟨b, (rep1.pk at1 hb).bool, fin b e1 F1 A1 H1 k1 f1 p1 rep1⟩
    · exact k1.elim)
/-- an expression that gives a truth -/
theorem vt_val {ex : Expr} {t : VTE} (h : VE X ex t) (he : ∀ whole, isTrue ex X.env whole = (do let v ← whole; standAt ex.pos; holding [v] (truthy v)) := by intro _; rfl) : VT X ex (vTest t) := PT.imp (pt_val h he) fun σ H Q q => lift_test σ H Q q
/-- any value's truth -/
def truth : D → Option Bool
  | .none => some false
  | .bool b => some b
  | .int i => some (i != 0)
  | .str s => some ((s.length : Int) != 0)
  | .list ds => some (!ds.isEmpty)
  | .tuple ds => some (!ds.isEmpty)
  | .dict _ => none
def vTruth (t : VTE) : VTT := fun e Kp => t e fun s e1 => match pk s e1 with
  | some (.str x) => x.length ≤ sizeLine ∧ Kp ((x.length : Int) != 0) e1
  | some d => (match truth d with
    | some b => Kp b e1
    | none => False)
  | none => False
theorem empty_at {F : Hp} {ds : List D} {xs : List V} (h : AtL X.K F ds xs) : (!ds.isEmpty) = !xs.isEmpty := by
  cases h <;> rfl
theorem vt_truth {ex : Expr} {t : VTE} (h : VE X ex t) (he : ∀ whole, isTrue ex X.env whole = (do let v ← whole; standAt ex.pos; holding [v] (truthy v)) := by intro _; rfl) : VT X ex (vTruth t) := PT.imp (pt_truth h he) fun σ H Q q => by
  obtain ⟨R, F, A, e, Kp, rep, ht, fin⟩ := q
  refine ⟨R, F, A, e, _, rep, ht, fun s1 e1 x F1 A1 H1 k1 f1 p1 rep1 at1 => ?_⟩
  cases hp : pk s1 e1 with
  | none => rw [hp] at k1; exact k1.elim
  | some d =>
    rw [hp] at k1
    have pk1 := rep1.pk at1 hp
    cases d with
    | none => exact ⟨false, by rw [pk1.none]; rfl, fin _ e1 F1 A1 H1 k1 f1 p1 rep1⟩
    | bool b => exact ⟨b, by rw [pk1.bool]; rfl, fin _ e1 F1 A1 H1 k1 f1 p1 rep1⟩
    | int i => exact ⟨_, by rw [pk1.int]; rfl, fin _ e1 F1 A1 H1 k1 f1 p1 rep1⟩
    | str z => exact ⟨_, by rw [pk1.str]; exact ⟨k1.1, rfl⟩, fin _ e1 F1 A1 H1 k1.2 f1 p1 rep1⟩
    | list ds =>
      obtain ⟨a, xs, rfl, h1, h2⟩ := pk1
      exact ⟨_, .inl ⟨xs, h1, rfl⟩, by rw [← empty_at h2]; exact fin _ e1 F1 A1 H1 k1 f1 p1 rep1⟩
    | tuple ds =>
      obtain ⟨a, xs, rfl, h1, h2⟩ := pk1.tup
      exact ⟨_, .inr (.inl ⟨xs, sqT_le rep1.sub h1, rfl⟩), by rw [← empty_at h2]; exact fin _ e1 F1 A1 H1 k1 f1 p1 rep1⟩
    | dict _ => exact k1.elim
def vNotT (t : VTT) : VTT := fun e Kp => t e fun b e1 => Kp (!b) e1
theorem vt_not {t : VTT} (h : VT X a t) : VT X (.UnaryOp .Not a pos) (vNotT t) := PT.imp (pt_not h) fun σ H Q q => by
  obtain ⟨R, F, A, e, Kp, rep, ht, fin⟩ := q
  exact ⟨R, F, A, e, _, rep, ht, fun b e1 F1 A1 H1 k1 f1 p1 rep1 => fin _ e1 F1 A1 H1 k1 f1 p1 rep1⟩
def vAndT (t u : VTT) : VTT := fun e Kp => t e fun b e1 => if b = true then u e1 Kp else Kp false e1
def vOrT (t u : VTT) : VTT := fun e Kp => t e fun b e1 => if b = true then Kp true e1 else u e1 Kp
theorem vw_and1 {t : VTT} (h : VT X a t) : VW X (.BoolOp .And [a] pos) t := pw_and1 h
theorem vw_or1 {t : VTT} (h : VT X a t) : VW X (.BoolOp .Or [a] pos) t := pw_or1 h
theorem vw_and {t u : VTT} {rest : List Expr} (h : VT X a t) (g : VW X (.BoolOp .And (b :: rest) pos) u) : VW X (.BoolOp .And (a :: b :: rest) pos) (vAndT t u) := PW.imp (pw_and h g) fun σ H Q q => by
  obtain ⟨R, F, A, e, Kp, rep, ht, fin⟩ := q
  refine ⟨R, F, A, e, _, rep, ht, fun b e1 F1 A1 H1 k1 f1 p1 rep1 => ?_⟩
  cases b with
  | true => exact ⟨R, F1, A1, e1, Kp, rep1, k1, fin.tr f1 p1⟩
  | false => exact fin _ e1 F1 A1 H1 k1 f1 p1 rep1
theorem vw_or {t u : VTT} {rest : List Expr} (h : VT X a t) (g : VW X (.BoolOp .Or (b :: rest) pos) u) : VW X (.BoolOp .Or (a :: b :: rest) pos) (vOrT t u) := PW.imp (pw_or h g) fun σ H Q q => by
  obtain ⟨R, F, A, e, Kp, rep, ht, fin⟩ := q
  refine ⟨R, F, A, e, _, rep, ht, fun b e1 F1 A1 H1 k1 f1 p1 rep1 => ?_⟩
  cases b with
  | true => exact fin _ e1 F1 A1 H1 k1 f1 p1 rep1
  | false => exact ⟨R, F1, A1, e1, Kp, rep1, k1, fin.tr f1 p1⟩
theorem VW.vt {ex : Expr} {t : VTT} (h : VW X ex t) : VT X ex t := PW.pt h
def vAndV (ta tb : VTE) : VTE := fun e Kp => ta e fun s e1 => match pk s e1 with
  | some (.bool c) => if c = true then tb e1 Kp else Kp (.val (.bool false)) e1
  | _ => False
def vOrV (ta tb : VTE) : VTE := fun e Kp => ta e fun s e1 => match pk s e1 with
  | some (.bool c) => if c = true then Kp (.val (.bool true)) e1 else tb e1 Kp
  | _ => False
def opNot (s : Sl) (e : En) (Kp : KE) : Prop := match pk s e with
  | some (.bool c) => Kp (.val (.bool (!c))) e
  | _ => False
theorem ve_one {op} (h : VE X a ta) : VE X (.BoolOp op [a] pos) ta := pe_one h
theorem ve_and {rest : List Expr} (ha : VE X a ta) (hb : VE X (.BoolOp .And (b :: rest) pos) tb) : VE X (.BoolOp .And (a :: b :: rest) pos) (vAndV ta tb) := PE.imp (pe_and ha hb) fun σ H Q q => by
  obtain ⟨R, F, A, e, Kp, rep, ht, fin⟩ := q
  refine ⟨R, F, A, e, _, rep, ht, fun s1 e1 x F1 A1 H1 k1 f1 p1 rep1 at1 => ?_⟩
  split at k1
  · rename_i c hc
    refine ⟨c, (rep1.pk at1 hc).bool, ?_⟩
    cases c with
    | true => exact ⟨R, F1, A1, e1, Kp, rep1, k1, fin.tr f1 p1⟩
    | false => exact (fin.tr f1 p1).val rep1 k1 (.bl false)
  · exact k1.elim
def vIfE (t : VTT) (ta tb : VTE) : VTE := fun e Kp => t e fun b e1 => if b = true then ta e1 Kp else tb e1 Kp
def vVar (i : Nat) : VTE := fun e Kp => match e.sl[i]? with
  | some (some s) => Kp s e
  | _ => False
def vC (d : D) : VTE := fun e Kp => Kp (.val d) e
theorem vp (i : Nat) {x : Str} {pos : Pos} (hN : X.N[i]? = some x := by rfl) (hv : Vis X.env.scope x := by first | exact Or.inl rfl | exact Or.inr (Or.inl rfl) | exact Or.inr (Or.inr rfl)) (hd : (x == ("__debug__" : Str)) = false := by decide)
    (hcd : (x == ("__classdict__" : Str)) = false := by decide) : VE X (.Name x pos) (vVar i) := PE.imp (pe_var hN hv hd hcd) fun σ H Q q => by
  obtain ⟨R, F, A, e, Kp, rep, ht, fin⟩ := q
  have ht' : (match e.sl[i]? with | some (some s) => Kp s e | _ => False) := ht
  split at ht'
  · rename_i s hs
    obtain ⟨v, h1, h2⟩ := rep.slot i s hs
    exact ⟨v, h1, fin.done rep ht' h2⟩
  · exact ht'.elim
theorem ve_c {ex : Expr} {v : V} {d : D} (h : PE X ex (tC v)) (hd : ∀ F, At X.K F d v) : VE X ex (vC d) := PE.imp h fun σ H Q q => by
  obtain ⟨R, F, A, e, Kp, rep, ht, fin⟩ := q
  exact fin.val rep ht (hd F)
theorem ve_int {i j pos} : VE X (.Constant (.int i) j pos) (vC (.int i)) := ve_c pe_int fun _ => .int i
theorem ve_bl {b j pos} : VE X (.Constant (.bool b) j pos) (vC (.bool b)) := ve_c pe_bl fun _ => .bl b
theorem ve_non {j pos} : VE X (.Constant .none j pos) (vC .none) := ve_c pe_non fun _ => .non
theorem ve_str {x j pos} : VE X (.Constant (.str x) j pos) (vC (.str x)) := ve_c pe_str fun _ => .str x
theorem ve_glob {x : Str} {v : V} {d : D} {u : Value} {pos : Pos} (hg : Gl X x) (hm : X.mg x = some u) (r : RelV v u) (hd : ∀ F, At X.K F d v) (hdb : (x == ("__debug__" : Str)) = false := by decide) : VE X (.Name x pos) (vC d) := ve_c (pe_glob hg hm r hdb) hd
def vNil : VTA := fun e Kp => Kp [] e
def vCons (ta : VTE) (tr : VTA) : VTA := fun e Kp => ta e fun s e1 => tr e1 fun ss e2 => Kp (s :: ss) e2
theorem va_nil : VA X [] vNil := PA.imp pa_nil fun σ H Q q => by
  obtain ⟨R, F, A, e, Kp, rep, ht, fin⟩ := q
  exact fin [] e [] F A H ht (Le.refl F) (pfx_refl A) rep .nil
theorem va_cons {es : List Expr} {t : VTA} (ha : VE X a ta) (hr : VA X es t) (hs : starEach (a :: es) X.env = (false, eval a X.env) :: starEach es X.env := by rfl) : VA X (a :: es) (vCons ta t) := PA.imp (pa_cons ha hr hs) fun σ H Q q => by
  obtain ⟨R, F, A, e, Kp, rep, ht, fin⟩ := q
  exact ⟨R, F, A, e, _, rep, ht, fun s1 e1 x F1 A1 H1 k1 f1 p1 rep1 at1 => ⟨R, F1, A1, e1, _, rep1, k1, fun ss e2 xs F2 A2 H2 k2 f2 p2 rep2 at2 => fin _ e2 _ F2 A2 H2 k2 (f1.trans f2) (p1.trans p2) rep2 (.cons (at1.le f2 p2) at2)⟩⟩
def opTup (ss : List Sl) (e : En) (Kp : KE) : Prop := asDs ss e fun ds e1 => ds.length ≤ sizeLine ∧ Kp (.val (.tuple ds)) e1
def opLst (ss : List Sl) (e : En) (Kp : KE) : Prop := asDs ss e fun ds e1 => ds.length ≤ sizeLine ∧ Kp (.val (.list ds)) e1
def opLstO (ss : List Sl) (e : En) (Kp : KE) : Prop := asDs ss e fun ds e1 => ds.length ≤ sizeLine ∧ Kp (.obj e1.st.length) ⟨e1.sl, e1.st ++ [some (.l ds)]⟩
theorem ve_tup {es : List Expr} {t : VTA} {x1} (h : VA X es t) : VE X (.Tuple es x1 pos) (vN opTup t) := PE.imp (pe_tup h) (liftN fun {R F A σ H e xs ss Kp Q} rep ha ho fin => by
  obtain ⟨ds, e1, F1, ⟨hl, k⟩, rep1, l1, a1⟩ := rep.asDs ha ho
  exact ⟨by rw [a1.len]; exact hl, fun p hp => (fin.tr l1 (pfx_refl A)).newT rep1 hp k a1⟩)
theorem ve_lst {es : List Expr} {t : VTA} (h : VA X es t) : VE X (.List es pos) (vN opLst t) := PE.imp (pe_lst h) (liftN fun {R F A σ H e xs ss Kp Q} rep ha ho fin => by
  obtain ⟨ds, e1, F1, ⟨hl, k⟩, rep1, l1, a1⟩ := rep.asDs ha ho
  exact ⟨by rw [a1.len]; exact hl, fun p hp => (fin.tr l1 (pfx_refl A)).newL rep1 hp k a1⟩)
theorem ve_lstO {es : List Expr} {t : VTA} (h : VA X es t) : VE X (.List es pos) (vN opLstO t) := PE.imp (pe_lst h) (liftN fun {R F A σ H e xs ss Kp Q} rep ha ho fin => by
  obtain ⟨ds, e1, F1, ⟨hl, k⟩, rep1, l1, a1⟩ := rep.asDs ha ho
  exact ⟨by rw [a1.len]; exact hl, fun p hp => (fin.tr l1 (pfx_refl A)).newO rep1 hp k a1⟩)
end
end Vl
namespace Vl
open PySem L2
theorem u190 {k : Nat} {A : Around} (r : Room k A) : A.units + 190 < cLine := by
  have := r.un
  omega
/-- data that == may go into -/
def shp (d : D) : Bool := d.canLay0 && decide (d.depth ≤ 190)
theorem shp_can {d : D} (h : shp d = true) : PyData.canLay0 d = true := (Bool.and_eq_true_iff.mp h).1
def rEqW (K : PySem.W.Frag) (neg : Bool) : R2 := fun x y H Q => ∃ d e, Dp K H x d ∧ Dp K H y e ∧ shp d = true ∧ shp e = true ∧ Q (.bl (if neg then !PyData.eqv d e else PyData.eqv d e)) H
section
variable {X : Cx}
theorem op_eqW (hu : X.A.units + 190 < cLine) : OpR X (compareOp .Eq) (rEqW X.K false) := by
  intro pins s σ H x y v u Q I rx ry h
  obtain ⟨d, e, hd, he, sd, se, q⟩ := h
  obtain ⟨as, r1⟩ := Dp.reads I d x v hd rx
  obtain ⟨bs, r2⟩ := Dp.reads I e y u he ry
  obtain ⟨l1, l2⟩ := Bool.and_eq_true_iff.mp sd
  obtain ⟨l3, l4⟩ := Bool.and_eq_true_iff.mp se
  have := of_decide_eq_true l2
  exact SeqAt.compareEq_reads r1 r2 l1 l3 (by omega) ⟨.bl _, H, I, rfl, q⟩
theorem op_neW (hu : X.A.units + 190 < cLine) : OpR X (compareOp .NotEq) (rEqW X.K true) := by
  intro pins s σ H x y v u Q I rx ry h
  obtain ⟨d, e, hd, he, sd, se, q⟩ := h
  obtain ⟨as, r1⟩ := Dp.reads I d x v hd rx
  obtain ⟨bs, r2⟩ := Dp.reads I e y u he ry
  obtain ⟨l1, l2⟩ := Bool.and_eq_true_iff.mp sd
  obtain ⟨l3, l4⟩ := Bool.and_eq_true_iff.mp se
  have := of_decide_eq_true l2
  exact SeqAt.compareNe_reads r1 r2 l1 l3 (by omega) ⟨.bl _, H, I, rfl, q⟩
end
def opAdd (s1 s2 : Sl) (e : En) (Kp : KE) : Prop := match pkm s1 e, pkm s2 e with
  | some (.int i), some (.int j) => Kp (.val (.int (i + j))) e
  | some (.str i), some (.str j) => i.length + j.length ≤ sizeLine ∧ Kp (.val (.str (i ++ j))) e
  | some (.list ds), some (.list es) => ds.length + es.length ≤ sizeLine ∧ Kp (.val (.list (ds ++ es))) e
  | some (.tuple ds), some (.tuple es) => ds.length + es.length ≤ sizeLine ∧ Kp (.val (.tuple (ds ++ es))) e
  | _, _ => False
def rAdd4 (K : PySem.W.Frag) : R2 := fun x y H Q => (rI0 (fun i j => .int (i + j)) x y H Q ∨ ∃ i j, x = .str i ∧ y = .str j ∧ i.length + j.length ≤ sizeLine ∧ Q (.str (i ++ j)) H) ∨ (rCat x y H Q ∨ rCatA K x y H Q)
theorem op_add4 {X : Cx} : OpR X (binaryOp .Add) (rAdd4 X.K) := (op_add.or op_add_str).or (op_cat.or op_catA)
theorem AtL.nil_iff {K : PySem.W.Frag} {F : Hp} {ds : List D} {xs : List V} (h : AtL K F ds xs) : ds = [] ↔ xs = [] := by
  cases h <;> simp
section
variable {K : PySem.W.Frag}
theorem p_add : Prim2 K (rAdd4 K) opAdd := by
  intro R F A σ H e x y s1 s2 Kp Q rep a1 a2 ho fin
  unfold opAdd at ho
  split at ho
  · rename_i i j h1 h2
    exact .inl (.inl ⟨i, j, (rep.pkm a1 h1).int, (rep.pkm a2 h2).int, fin.val rep ho (.int _)⟩)
  · rename_i i j h1 h2
    exact .inl (.inr ⟨i, j, (rep.pkm a1 h1).str, (rep.pkm a2 h2).str, ho.1, fin.val rep ho.2 (.str _)⟩)
  · rename_i ds es h1 h2
    obtain ⟨a, xs, rfl, q1, q2⟩ := rep.pkm a1 h1
    obtain ⟨b, ys, rfl, q3, q4⟩ := rep.pkm a2 h2
    exact .inr (.inl ⟨a, b, xs, ys, rfl, rfl, q1, q3, by rw [q2.len, q4.len]; exact ho.1, fun p hp => fin.newL rep hp ho.2 (q2.app q4)⟩)
  · rename_i ds es h1 h2
    obtain ⟨a, xs, rfl, q1, q2⟩ := (rep.pkm a1 h1).tup
    obtain ⟨b, ys, rfl, q3, q4⟩ := (rep.pkm a2 h2).tup
    refine .inr (.inr ⟨a, b, xs, ys, rfl, rfl, sqT_le rep.sub q1, sqT_le rep.sub q3, by rw [q2.len, q4.len]; exact ho.1, fun z => ?_, fun _ z => ?_, fun _ _ p hp => fin.newT rep hp ho.2 (q2.app q4)⟩)
    · have z' := q2.nil_iff.mpr z
      subst z'
      exact fin.val rep ho.2 (.tup q3 q4)
    · have z' := q4.nil_iff.mpr z
      subst z'
      have k := ho.2
      rw [List.append_nil] at k
      exact fin.val rep k (.tup q1 q2)
  · exact ho.elim
/-- the sum of two lists is a list of the store -/
def opAddO (s1 s2 : Sl) (e : En) (Kp : KE) : Prop := match pkm s1 e, pkm s2 e with
  | some (.list ds), some (.list es) => ds.length + es.length ≤ sizeLine ∧ Kp (.obj e.st.length) ⟨e.sl, e.st ++ [some (.l (ds ++ es))]⟩
  | _, _ => False
/-- two whole numbers -/
def opI (C : Int → Int → Prop) (g : Int → Int → D) (s1 s2 : Sl) (e : En) (Kp : KE) : Prop := match pk s1 e, pk s2 e with
  | some (.int i), some (.int j) => C i j ∧ Kp (.val (g i j)) e
  | _, _ => False
def opI0 (g : Int → Int → D) (s1 s2 : Sl) (e : En) (Kp : KE) : Prop := match pk s1 e, pk s2 e with
  | some (.int i), some (.int j) => Kp (.val (g i j)) e
  | _, _ => False
def sV : D → V
  | .none => .non
  | .bool b => .bl b
  | .int i => .int i
  | .str x => .str x
  | _ => .non
theorem p_i {C : Int → Int → Prop} {g : Int → Int → D} (hg : ∀ i j F, At K F (g i j) (sV (g i j))) : Prim2 K (rI C fun i j => sV (g i j)) (opI C g) := by
  intro R F A σ H e x y s1 s2 Kp Q rep a1 a2 ho fin
  unfold opI at ho
  split at ho
  · rename_i i j h1 h2
    exact ⟨i, j, (rep.pk a1 h1).int, (rep.pk a2 h2).int, ho.1, fin.val rep ho.2 (hg i j F)⟩
  · exact ho.elim
theorem p_i0 {g : Int → Int → D} (hg : ∀ i j F, At K F (g i j) (sV (g i j))) : Prim2 K (rI0 fun i j => sV (g i j)) (opI0 g) := by
  intro R F A σ H e x y s1 s2 Kp Q rep a1 a2 ho fin
  unfold opI0 at ho
  split at ho
  · rename_i i j h1 h2
    exact ⟨i, j, (rep.pk a1 h1).int, (rep.pk a2 h2).int, fin.val rep ho (hg i j F)⟩
  · exact ho.elim
end
section
variable {X : Cx} {a b : Expr} {ta tb : VTE} {pos : Pos}
theorem ve_add (ha : VE X a ta) (hb : VE X b tb) : VE X (.BinOp a .Add b pos) (v2 opAdd ta tb) := ve_op p_add op_add4 ha hb
def gSubI (i j : Int) : D := .int (i - j)
def gMulI (i j : Int) : D := .int (i * j)
def gModI (i j : Int) : D := .int (i.fmod j)
def gDivI (i j : Int) : D := .int (i.fdiv j)
def gPowI (i j : Int) : D := .int (i ^ j.toNat)
abbrev opSub := opI0 gSubI
abbrev opMod := opI (fun _ j => j ≠ 0) gModI
def CDiv6 (_ j : Int) : Prop := 0 < j ∧ j < 2 ^ 120
abbrev opDiv := opI CDiv6 gDivI
abbrev opPow := opI CPow gPowI
theorem ve_sub (ha : VE X a ta) (hb : VE X b tb) : VE X (.BinOp a .Sub b pos) (v2 opSub ta tb) := ve_op (p_i0 (g := gSubI) fun _ _ _ => .int _) op_sub ha hb
theorem ve_mod (ha : VE X a ta) (hb : VE X b tb) : VE X (.BinOp a .Mod b pos) (v2 opMod ta tb) := ve_op (p_i (g := gModI) fun _ _ _ => .int _) op_modN ha hb
theorem CDiv6.log {i j : Int} (h : CDiv6 i j) : j.natAbs.log2 < 9000 := Nat.lt_of_lt_of_le (PySem.Flt.log2_lt_of (k := 120) (by decide) (by
  have h1 := h.1
  have h2 := h.2
  omega)) (by decide)
theorem op_fdiv6 : OpR X (binaryOp .FloorDiv) (rI CDiv6 fun i j => .int (i.fdiv j)) := L2.opI fun i j _ _ _ _ _ hc q => PyProof.Rows.floordiv_int (by have := hc.1; omega) q (.inl (PyProof.noPylong_of_log2 hc.log))
theorem ve_div (ha : VE X a ta) (hb : VE X b tb) : VE X (.BinOp a .FloorDiv b pos) (v2 opDiv ta tb) := ve_op (p_i (g := gDivI) fun _ _ _ => .int _) op_fdiv6 ha hb
theorem ve_pow (ha : VE X a ta) (hb : VE X b tb) : VE X (.BinOp a .Pow b pos) (v2 opPow ta tb) := ve_op (p_i (g := gPowI) fun _ _ _ => .int _) op_pow ha hb
def gLt (i j : Int) : D := .bool (decide (i < j))
def gLe (i j : Int) : D := .bool (decide (i ≤ j))
def gGt (i j : Int) : D := .bool (decide (j < i))
def gGe (i j : Int) : D := .bool (decide (j ≤ i))
abbrev opLe := opI0 gLe
abbrev opGt := opI0 gGt
abbrev opGe := opI0 gGe
def opLt (s1 s2 : Sl) (e : En) (Kp : KE) : Prop := match pk s1 e, pk s2 e with
  | some (.int i), some (.int j) => Kp (.val (gLt i j)) e
  | some (.str i), some (.str j) => Kp (.val (.bool (decide (i.cps.toList < j.cps.toList)))) e
  | _, _ => False
def rLt2 : R2 := fun x y H Q => rI0 (fun i j => .bl (decide (i < j))) x y H Q ∨ ∃ i j, x = .str i ∧ y = .str j ∧ Q (.bl (decide (i.cps.toList < j.cps.toList))) H
theorem p_lt {K : PySem.W.Frag} : Prim2 K rLt2 opLt := by
  intro R F A σ H e x y s1 s2 Kp Q rep a1 a2 ho fin
  unfold opLt at ho
  split at ho
  · rename_i i j h1 h2
    exact .inl ⟨i, j, (rep.pk a1 h1).int, (rep.pk a2 h2).int, fin.val rep ho (.bl _)⟩
  · rename_i i j h1 h2
    exact .inr ⟨i, j, (rep.pk a1 h1).str, (rep.pk a2 h2).str, fin.val rep ho (.bl _)⟩
  · exact ho.elim
/-- == -/
def opEq (neg : Bool) (s1 s2 : Sl) (e : En) (Kp : KE) : Prop := match pk s1 e, pk s2 e with
  | some (.int i), some (.int j) => Kp (.val (.bool (if neg then !decide (i = j) else decide (i = j)))) e
  | some (.str i), some (.str j) => Kp (.val (.bool (if neg then !decide (i = j) else decide (i = j)))) e
  | some d, some c => shp d = true ∧ shp c = true ∧ Kp (.val (.bool (if neg then !PyData.eqv d c else PyData.eqv d c))) e
  | _, _ => False
def rEq2 (K : PySem.W.Frag) (neg : Bool) : R2 := fun x y H Q => (scal x y = true ∧ Q (.bl (if neg then !decide (x = y) else decide (x = y))) H) ∨ rEqW K neg x y H Q
theorem p_eq {K : PySem.W.Frag} {neg : Bool} : Prim2 K (rEq2 K neg) (opEq neg) := by
  intro R F A σ H e x y s1 s2 Kp Q rep a1 a2 ho fin
  unfold opEq at ho
  split at ho
  · rename_i i j h1 h2
    have e1 := (rep.pk a1 h1).int
    have e2 := (rep.pk a2 h2).int
    subst e1 e2
    refine .inl ⟨rfl, ?_⟩
    have z : decide (V.int i = V.int j) = decide (i = j) := by
      by_cases q : i = j <;> simp [q]
    rw [z]
    exact fin.val rep ho (.bl _)
  · rename_i i j h1 h2
    have e1 := (rep.pk a1 h1).str
    have e2 := (rep.pk a2 h2).str
    subst e1 e2
    refine .inl ⟨rfl, ?_⟩
    have z : decide (V.str i = V.str j) = decide (i = j) := by
      by_cases q : i = j <;> simp [q]
    rw [z]
    exact fin.val rep ho (.bl _)
  · rename_i d c _ _ h1 h2
    exact .inr ⟨d, c, (rep.pk a1 h1).dp rep.sub (shp_can ho.1), (rep.pk a2 h2).dp rep.sub (shp_can ho.2.1), ho.1, ho.2.1, fin.val rep ho.2.2 (.bl _)⟩
  · exact ho.elim
theorem op_eq2 (hu : X.A.units + 190 < cLine) : OpR X (compareOp .Eq) (rEq2 X.K false) := op_eq.or (op_eqW hu)
theorem op_ne2 (hu : X.A.units + 190 < cLine) : OpR X (compareOp .NotEq) (rEq2 X.K true) := op_ne.or (op_neW hu)
/-- in -/
def opIn (neg : Bool) (s1 s2 : Sl) (e : En) (Kp : KE) : Prop := match pk s1 e, pk s2 e with
  | some (.str i), some (.str j) => Kp (.val (.bool (if neg then !(!(Builtin.Str.occurrences j i 0 j.length 1).isEmpty) else !(Builtin.Str.occurrences j i 0 j.length 1).isEmpty))) e
  | some d, some (.list ds) => SeqAt.shaped d = true ∧ SeqAt.shaped (.list ds) = true ∧ Kp (.val (.bool (if neg then !ds.any (fun z => PyData.eqv z d) else ds.any fun z => PyData.eqv z d))) e
  | _, _ => False
def rIn2 (K : PySem.W.Frag) : R2 := fun x y H Q => (∃ i j, x = .str i ∧ y = .str j ∧ Q (.bl (!(Builtin.Str.occurrences j i 0 j.length 1).isEmpty)) H) ∨ rInD K x y H Q
def rNotIn2 (K : PySem.W.Frag) : R2 := fun x y H Q => (∃ i j, x = .str i ∧ y = .str j ∧ Q (.bl (!(!(Builtin.Str.occurrences j i 0 j.length 1).isEmpty))) H) ∨ rNotInD K x y H Q
theorem p_in {K : PySem.W.Frag} : Prim2 K (rIn2 K) (opIn false) := by
  intro R F A σ H e x y s1 s2 Kp Q rep a1 a2 ho fin
  unfold opIn at ho
  split at ho
  · rename_i i j h1 h2
    exact .inl ⟨i, j, (rep.pk a1 h1).str, (rep.pk a2 h2).str, fin.val rep ho (.bl _)⟩
  · rename_i d ds h1 h2
    exact .inr ⟨d, ds, (rep.pk a1 h1).dp rep.sub (SeqAt.canLay_of_shaped ho.1), (rep.pk a2 h2).dp rep.sub (SeqAt.canLay_of_shaped ho.2.1), ho.1, ho.2.1, fin.val rep ho.2.2 (.bl _)⟩
  · exact ho.elim
theorem p_notIn {K : PySem.W.Frag} : Prim2 K (rNotIn2 K) (opIn true) := by
  intro R F A σ H e x y s1 s2 Kp Q rep a1 a2 ho fin
  unfold opIn at ho
  split at ho
  · rename_i i j h1 h2
    exact .inl ⟨i, j, (rep.pk a1 h1).str, (rep.pk a2 h2).str, fin.val rep ho (.bl _)⟩
  · rename_i d ds h1 h2
    exact .inr ⟨d, ds, (rep.pk a1 h1).dp rep.sub (SeqAt.canLay_of_shaped ho.1), (rep.pk a2 h2).dp rep.sub (SeqAt.canLay_of_shaped ho.2.1), ho.1, ho.2.1, fin.val rep ho.2.2 (.bl _)⟩
  · exact ho.elim
theorem op_in2 (hu : X.A.units + 190 < cLine) : OpR X (compareOp .In) (rIn2 X.K) := op_in_str.or (op_inD (by omega))
theorem op_notIn2 (hu : X.A.units + 190 < cLine) : OpR X (compareOp .NotIn) (rNotIn2 X.K) := op_notIn_str.or (op_notInD (by omega))
theorem ve_gt (ha : VE X a ta) (hb : VE X b tb) (hm : behindInMarks .Gt b = false := by exact nomark _) : VE X (.Compare a [.Gt] [b] pos) (v2 opGt ta tb) := ve_cmp (p_i0 (g := gGt) fun _ _ _ => .bl _) op_gt ha hb hm
def opNeg (s : Sl) (e : En) (Kp : KE) : Prop := match pk s e with
  | some (.int i) => Kp (.val (.int (-i))) e
  | _ => False
theorem p_neg {K : PySem.W.Frag} : Prim1 K (rU fun i => .int (-i)) opNeg := by
  intro R F A σ H e x s1 Kp Q rep a1 ho fin
  unfold opNeg at ho
  split at ho
  · rename_i i h1
    exact ⟨i, (rep.pk a1 h1).int, fin.val rep ho (.int _)⟩
  · exact ho.elim
theorem ve_neg (ha : VE X a ta) : VE X (.UnaryOp .USub a pos) (v1 opNeg ta) := ve_unR p_neg un_neg ha
def opIx (s1 s2 : Sl) (e : En) (Kp : KE) : Prop := match pk s1 e, pk s2 e with
  | some (.tuple ds), some (.int i) => ∃ d, atI ds i = some d ∧ Kp (.val d) e
  | some (.list ds), some (.int i) => ∃ d, atI ds i = some d ∧ Kp (.val d) e
  | some (.str z), some (.int i) => ∃ c, z.length ≤ sizeLine ∧ atI z.cps.toList i = some c ∧ Kp (.val (.str ⟨#[c]⟩)) e
  | _, _ => False
theorem AtL.atI {K : PySem.W.Frag} {F : Hp} {ds : List D} {xs : List V} (h : AtL K F ds xs) {i : Int} {d : D} (e : atI ds i = some d) : ∃ v, L2.atI xs i = some v ∧ At K F d v := by
  unfold L2.atI at e ⊢
  rw [h.len]
  cases q : ixN ds.length i with
  | none =>
    rw [q] at e
    cases e
  | some j =>
    rw [q] at e
    exact h.get e
theorem p_ix {K : PySem.W.Frag} : Prim2 K (rIx K) opIx := by
  intro R F A σ H e x y s1 s2 Kp Q rep a1 a2 ho fin
  unfold opIx at ho
  split at ho
  · rename_i ds i h1 h2
    obtain ⟨d, hd, k⟩ := ho
    obtain ⟨a, xs, rfl, q1, q2⟩ := (rep.pk a1 h1).tup
    obtain ⟨v, hv, av⟩ := q2.atI hd
    exact .inr (.inl ⟨a, xs, i, v, rfl, (rep.pk a2 h2).int, sqT_le rep.sub q1, hv, fin.val rep k av⟩)
  · rename_i ds i h1 h2
    obtain ⟨d, hd, k⟩ := ho
    obtain ⟨a, xs, rfl, q1, q2⟩ := rep.pk a1 h1
    obtain ⟨v, hv, av⟩ := q2.atI hd
    exact .inl ⟨a, xs, i, v, rfl, (rep.pk a2 h2).int, q1, hv, fin.val rep k av⟩
  · rename_i z i h1 h2
    obtain ⟨c, hz, hc, k⟩ := ho
    exact .inr (.inr ⟨z, i, c, (rep.pk a1 h1).str, (rep.pk a2 h2).int, hz, hc, fin.val rep k (.str _)⟩)
  · exact ho.elim
end
end Vl
namespace Vl
open PySem L2
abbrev VTO := En → (Option Int → En → Prop) → Prop
def liftO (K : PySem.W.Frag) (t : VTO) : TO := fun σ H Q => ∃ R F A e Kp, Rep K R F A σ H e ∧ t e Kp ∧ ∀ i e' F' A' H', Kp i e' → Le F F' → A <+: A' → Rep K R F' A' σ H' e' → Q i H'
def VO (X : Cx) (ex : Option Expr) (t : VTO) : Prop := PO X ex (liftO X.K t)
def vNoPart : VTO := fun e Kp => Kp none e
def vPart (t : VTE) : VTO := fun e Kp => t e fun s e1 => match pk s e1 with
  | some (.int i) => Kp (some i) e1
  | _ => False
theorem PO.imp {X : Cx} {ex : Option Expr} {t t' : TO} (h : PO X ex t) (f : ∀ σ H Q, t' σ H Q → t σ H Q) : PO X ex t' := by
  obtain ⟨run⟩ := h
  constructor
  intros
  apply run <;> first | assumption | (apply f; assumption)
section
variable {X : Cx} {a b : Expr} {ta tb : VTE} {pos : Pos}
theorem vo_none : VO X none vNoPart := PO.imp po_none fun σ H Q h => by
  obtain ⟨R, F, A, e, Kp, rep, ht, fin⟩ := h
  exact fin none e F A H ht (Le.refl F) (pfx_refl A) rep
theorem vo_some (h : VE X a ta) : VO X (some a) (vPart ta) := PO.imp (po_some h) fun σ H Q h => by
  obtain ⟨R, F, A, e, Kp, rep, ht, fin⟩ := h
  refine ⟨R, F, A, e, _, rep, ht, fun s1 e1 x F1 A1 H1 k1 f1 p1 rep1 at1 => ?_⟩
  split at k1
  · rename_i i hi
    exact ⟨i, (rep1.pk at1 hi).int, fin _ e1 F1 A1 H1 k1 f1 p1 rep1⟩
  · exact k1.elim
def cut (ds : List D) (lo hi : Option Int) : List D := (ds.drop (HT.sIx ds.length 0 lo)).take (HT.sIx ds.length ds.length hi - HT.sIx ds.length 0 lo)
theorem AtL.cut {K : PySem.W.Frag} {F : Hp} {ds : List D} {xs : List V} (h : AtL K F ds xs) (lo hi : Option Int) : AtL K F (Vl.cut ds lo hi) (cutV xs lo hi) := by
  unfold Vl.cut cutV
  rw [h.len]
  exact (h.drop _).take _
def opSl (s : Sl) (lo hi : Option Int) (e : En) (Kp : KE) : Prop := match pk s e with
  | some (.list ds) => Kp (.val (.list (cut ds lo hi))) e
  | some (.tuple ds) => Kp (.val (.tuple (cut ds lo hi))) e
  | some (.str z) => z.length ≤ sizeLine ∧ Kp (.val (.str (cutS z lo hi))) e
  | _ => False
def opSlO (s : Sl) (lo hi : Option Int) (e : En) (Kp : KE) : Prop := match pk s e with
  | some (.list ds) => Kp (.obj e.st.length) ⟨e.sl, e.st ++ [some (.l (cut ds lo hi))]⟩
  | _ => False
def vSl (op : Sl → Option Int → Option Int → En → KE → Prop) (ta : VTE) (tl th : VTO) : VTE := fun e Kp => ta e fun s e1 => tl e1 fun l e2 => th e2 fun u e3 => op s l u e3 Kp
def rSl3 (K : PySem.W.Frag) : V → Option Int → Option Int → Hp → VK → Prop := fun x lo hi H Q => rSlL K x lo hi H Q ∨ rSlA K x lo hi H Q ∨ rSlS x lo hi H Q
theorem cut_whole {K : PySem.W.Frag} {F : Hp} {ds : List D} {xs : List V} (h : AtL K F ds xs) {lo hi : Option Int} (z : HT.sIx xs.length 0 lo = 0 ∧ HT.sIx xs.length xs.length hi = xs.length) : Vl.cut ds lo hi = ds := by
  unfold Vl.cut
  rw [← h.len, z.1, z.2, List.drop_zero, Nat.sub_zero, h.len, List.take_length]
theorem liftSl {r : V → Option Int → Option Int → Hp → VK → Prop} {op : Sl → Option Int → Option Int → En → KE → Prop} {tl th : VTO}
    (p : ∀ {R F : Hp} {A : List Addr} {σ : L2.St} {H : Hp} {e : En} {x : V} {s : Sl} {lo hi : Option Int} {Kp : KE} {Q : VK}, Rep X.K R F A σ H e → SlAt X.K F A x s → op s lo hi e Kp → Fin X.K R F A σ Kp Q → r x lo hi H Q)
    (σ : L2.St) (H : Hp) (Q : VK) (h : liftE X.K (vSl op ta tl th) σ H Q) : tSl r (liftE X.K ta) (liftO X.K tl) (liftO X.K th) σ H Q := by
  obtain ⟨R, F, A, e, Kp, rep, ht, fin⟩ := h
  exact ⟨R, F, A, e, _, rep, ht, fun s1 e1 x F1 A1 H1 k1 f1 p1 rep1 at1 => ⟨R, F1, A1, e1, _, rep1, k1, fun l e2 F2 A2 H2 k2 f2 p2 rep2 => ⟨R, F2, A2, e2, _, rep2, k2, fun u e3 F3 A3 H3 k3 f3 p3 rep3 =>
    p rep3 (at1.le (f2.trans f3) (p2.trans p3)) k3 (fin.tr (f1.trans (f2.trans f3)) (p1.trans (p2.trans p3)))⟩⟩⟩
theorem ve_slice {lo hi : Option Expr} {tl th : VTO} {p2 : Pos} (ha : VE X a ta) (hl : VO X lo tl) (hu : VO X hi th) : VE X (.Subscript a (.Slice lo hi none p2) pos) (vSl opSl ta tl th) :=
  PE.imp (pe_slice (r := rSl3 X.K) (sl_list.or (sl_tupA.or sl_str)) ha hl hu) (liftSl fun {R F A σ H e x s lo hi Kp Q} rep a1 ho fin => by
    unfold opSl at ho
    split at ho
    · rename_i ds h1
      obtain ⟨a, xs, rfl, q1, q2⟩ := rep.pk a1 h1
      exact .inl ⟨a, xs, rfl, q1, fun p hp => fin.newL rep hp ho (q2.cut lo hi)⟩
    · rename_i ds h1
      obtain ⟨a, xs, rfl, q1, q2⟩ := (rep.pk a1 h1).tup
      refine .inr (.inl ⟨a, xs, rfl, sqT_le rep.sub q1, fun z => ?_, fun _ p hp => fin.newT rep hp ho (q2.cut lo hi)⟩)
      rw [cut_whole q2 z] at ho
      exact fin.val rep ho (.tup q1 q2)
    · rename_i z h1
      exact .inr (.inr ⟨z, (rep.pk a1 h1).str, ho.1, fin.val rep ho.2 (.str _)⟩)
    · exact ho.elim)
theorem ve_blt {id : String} {r : List V → Hp → VK → Prop} {op : List Sl → En → KE → Prop} {x : Str} {p : Pos} {es : List Expr} {t : VTA} (pr : PrimN X.K r op) (hc : CallR X (.builtin id) r) (hg : Gl X x) (hm : X.mg x = none) (hv : bootBuiltins x = some (.builtin id)) (ha : VA X (a :: es) t)
    (hn : x ≠ "__name__" := by decide) (hdb : (x == ("__debug__" : Str)) = false := by decide) (he : starEach (a :: es) X.env = (false, eval a X.env) :: starEach es X.env := by rfl) (hpl : (backTo pos (starEach es X.env)).any (·.1) = false := by rfl) :
    VE X (.Call (.Name x p) (a :: es) [] pos) (vN op t) := PE.imp (pe_callB hc hg hm hv ha hn hdb he hpl) (liftN pr)
theorem ve_typ {T : String} {r : List V → Hp → VK → Prop} {op : List Sl → En → KE → Prop} {x : Str} {p : Pos} {es : List Expr} {t : VTA} (pr : PrimN X.K r op) (hc : CallR X (.type T) r) (hg : Gl X x) (hm : X.mg x = none) (hv : bootBuiltins x = some (.type T)) (ha : VA X (a :: es) t)
    (hn : x ≠ "__name__" := by decide) (hdb : (x == ("__debug__" : Str)) = false := by decide) (he : starEach (a :: es) X.env = (false, eval a X.env) :: starEach es X.env := by rfl) (hpl : (backTo pos (starEach es X.env)).any (·.1) = false := by rfl) :
    VE X (.Call (.Name x p) (a :: es) [] pos) (vN op t) := PE.imp (pe_callTy hc hg hm hv ha hn hdb he hpl) (liftN pr)
def opLen (ss : List Sl) (e : En) (Kp : KE) : Prop := match ss with
  | [s] => (match pk s e with
    | some (.list ds) => Kp (.val (.int (ds.length : Nat))) e
    | some (.tuple ds) => Kp (.val (.int (ds.length : Nat))) e
    | some (.str z) => z.length ≤ sizeLine ∧ Kp (.val (.int (z.length : Nat))) e
    | _ => False)
  | _ => False
theorem SlAts.one {K : PySem.W.Frag} {F : Hp} {A : List Addr} {xs : List V} {s : Sl} (h : SlAts K F A xs [s]) : ∃ x, xs = [x] ∧ SlAt K F A x s := by
  cases h with
  | cons h1 h2 =>
    cases h2
    exact ⟨_, rfl, h1⟩
theorem SlAts.two {K : PySem.W.Frag} {F : Hp} {A : List Addr} {xs : List V} {s t : Sl} (h : SlAts K F A xs [s, t]) : ∃ x y, xs = [x, y] ∧ SlAt K F A x s ∧ SlAt K F A y t := by
  cases h with
  | cons h1 h2 =>
    obtain ⟨y, rfl, h3⟩ := h2.one
    exact ⟨_, _, rfl, h1, h3⟩
theorem p_len {K : PySem.W.Frag} : PrimN K (fun xs H Q => ∃ x n, xs = [x] ∧ LenV K x H n ∧ Q (.int n) H) opLen := by
  intro R F A σ H e xs ss Kp Q rep a1 ho fin
  unfold opLen at ho
  split at ho
  · rename_i s
    obtain ⟨x, rfl, a2⟩ := a1.one
    split at ho
    · rename_i ds h1
      obtain ⟨a, ys, rfl, q1, q2⟩ := rep.pk a2 h1
      exact ⟨_, ds.length, rfl, .inl ⟨ys, q1, q2.len.symm⟩, fin.val rep ho (.int _)⟩
    · rename_i ds h1
      obtain ⟨a, ys, rfl, q1, q2⟩ := (rep.pk a2 h1).tup
      exact ⟨_, ds.length, rfl, .inr ⟨ys, sqT_le rep.sub q1, q2.len.symm⟩, fin.val rep ho (.int _)⟩
    · rename_i z h1
      have e1 := (rep.pk a2 h1).str
      subst e1
      exact ⟨_, z.length, rfl, ⟨ho.1, rfl⟩, fin.val rep ho.2 (.int _)⟩
    · exact ho.elim
  · exact ho.elim
theorem ve_len {p : Pos} {t : VTA} (hg : Gl X "len") (hm : X.mg "len" = none) (ha : VA X [a] t) (he : starEach [a] X.env = (false, eval a X.env) :: starEach [] X.env := by rfl) : VE X (.Call (.Name "len" p) [a] [] pos) (vN opLen t) :=
  ve_blt p_len call_len hg hm PySem.boot_len ha (by decide) (by decide) he
def opII (g : Int → Int → Int) (ss : List Sl) (e : En) (Kp : KE) : Prop := match ss with
  | [s, t] => (match pk s e, pk t e with
    | some (.int i), some (.int j) => Kp (.val (.int (g i j))) e
    | _, _ => False)
  | _ => False
theorem p_ii {K : PySem.W.Frag} {g : Int → Int → Int} : PrimN K (fun xs H Q => ∃ i j, xs = [.int i, .int j] ∧ Q (.int (g i j)) H) (opII g) := by
  intro R F A σ H e xs ss Kp Q rep a1 ho fin
  unfold opII at ho
  split at ho
  · rename_i s t
    obtain ⟨x, y, rfl, a2, a3⟩ := a1.two
    split at ho
    · rename_i i j h1 h2
      exact ⟨i, j, by rw [(rep.pk a2 h1).int, (rep.pk a3 h2).int], fin.val rep ho (.int _)⟩
    · exact ho.elim
  · exact ho.elim
def gMax (i j : Int) : Int := if j > i then j else i
def gMin (i j : Int) : Int := if j < i then j else i
theorem ve_max {p : Pos} {t : VTA} (hc : X.calm = true) (hg : Gl X "max") (hm : X.mg "max" = none) (ha : VA X [a, b] t) (he : starEach [a, b] X.env = (false, eval a X.env) :: starEach [b] X.env := by rfl) (hpl : (backTo pos (starEach [b] X.env)).any (·.1) = false := by rfl) : VE X (.Call (.Name "max" p) [a, b] [] pos) (vN (opII gMax) t) := ve_blt (p_ii (g := gMax)) (call_max2 hc) hg hm (by decide +kernel) ha (by decide) (by decide) he hpl
theorem ve_min {p : Pos} {t : VTA} (hc : X.calm = true) (hg : Gl X "min") (hm : X.mg "min" = none) (ha : VA X [a, b] t) (he : starEach [a, b] X.env = (false, eval a X.env) :: starEach [b] X.env := by rfl) (hpl : (backTo pos (starEach [b] X.env)).any (·.1) = false := by rfl) : VE X (.Call (.Name "min" p) [a, b] [] pos) (vN (opII gMin) t) := ve_blt (p_ii (g := gMin)) (call_min2 hc) hg hm (by decide +kernel) ha (by decide) (by decide) he hpl
/-- int(x) of a number or a truth -/
def opInt (ss : List Sl) (e : En) (Kp : KE) : Prop := match ss with
  | [s] => (match pk s e with
    | some (.int i) => Kp (.val (.int i)) e
    | some (.bool b) => Kp (.val (.int (if b then 1 else 0))) e
    | _ => False)
  | _ => False
theorem ve_intB {p : Pos} {t : VTA} (hg : Gl X "int") (hm : X.mg "int" = none) (ha : VA X [a] t) (he : starEach [a] X.env = (false, eval a X.env) :: starEach [] X.env := by rfl) : VE X (.Call (.Name "int" p) [a] [] pos) (vN opInt t) := ve_typ (fun {R F A σ H e xs ss Kp Q} rep a1 ho fin => by
  unfold opInt at ho
  split at ho
  · rename_i s
    obtain ⟨x, rfl, a2⟩ := a1.one
    split at ho
    · rename_i i h1
      exact .inl ⟨i, by rw [(rep.pk a2 h1).int], fin.val rep ho (.int _)⟩
    · rename_i b h1
      exact .inr ⟨b, by rw [(rep.pk a2 h1).bool], fin.val rep ho (.int _)⟩
    · exact ho.elim
  · exact ho.elim) call_int1 hg hm (by decide +kernel) ha (by decide) (by decide) he
/-- list(xs), tuple(xs) -/
def opList (ss : List Sl) (e : En) (Kp : KE) : Prop := match ss with
  | [s] => (match pk s e with
    | some (.list ds) => Kp (.val (.list ds)) e
    | some (.tuple ds) => Kp (.val (.list ds)) e
    | _ => False)
  | _ => False
def opListO (ss : List Sl) (e : En) (Kp : KE) : Prop := match ss with
  | [s] => (match pk s e with
    | some (.list ds) => Kp (.obj e.st.length) ⟨e.sl, e.st ++ [some (.l ds)]⟩
    | some (.tuple ds) => Kp (.obj e.st.length) ⟨e.sl, e.st ++ [some (.l ds)]⟩
    | _ => False)
  | _ => False
def opTuple (ss : List Sl) (e : En) (Kp : KE) : Prop := match ss with
  | [s] => (match pk s e with
    | some (.list ds) => Kp (.val (.tuple ds)) e
    | some (.tuple ds) => Kp (.val (.tuple ds)) e
    | _ => False)
  | _ => False
theorem ve_list {p : Pos} {t : VTA} (hg : Gl X "list") (hm : X.mg "list" = none) (ha : VA X [a] t) (he : starEach [a] X.env = (false, eval a X.env) :: starEach [] X.env := by rfl) : VE X (.Call (.Name "list" p) [a] [] pos) (vN opList t) := ve_typ (fun {R F A σ H e xs ss Kp Q} rep a1 ho fin => by
  unfold opList at ho
  split at ho
  · rename_i s
    obtain ⟨x, rfl, a2⟩ := a1.one
    split at ho
    · rename_i ds h1
      obtain ⟨a, ys, rfl, q1, q2⟩ := rep.pk a2 h1
      exact ⟨a, ys, rfl, .inl q1, fun l hl => fin.newL rep hl ho q2⟩
    · rename_i ds h1
      obtain ⟨a, ys, rfl, q1, q2⟩ := (rep.pk a2 h1).tup
      exact ⟨a, ys, rfl, .inr (sqT_le rep.sub q1), fun l hl => fin.newL rep hl ho q2⟩
    · exact ho.elim
  · exact ho.elim) call_list_of hg hm (by decide +kernel) ha (by decide) (by decide) he
theorem ve_tuple {p : Pos} {t : VTA} (hg : Gl X "tuple") (hm : X.mg "tuple" = none) (ha : VA X [a] t) (he : starEach [a] X.env = (false, eval a X.env) :: starEach [] X.env := by rfl) : VE X (.Call (.Name "tuple" p) [a] [] pos) (vN opTuple t) := ve_typ (fun {R F A σ H e xs ss Kp Q} rep a1 ho fin => by
  unfold opTuple at ho
  split at ho
  · rename_i s
    obtain ⟨x, rfl, a2⟩ := a1.one
    split at ho
    · rename_i ds h1
      obtain ⟨a, ys, rfl, q1, q2⟩ := rep.pk a2 h1
      exact ⟨a, ys, rfl, .inl ⟨q1, fun l hl => fin.newT rep hl ho q2⟩⟩
    · rename_i ds h1
      obtain ⟨a, ys, rfl, q1, q2⟩ := (rep.pk a2 h1).tup
      exact ⟨a, ys, rfl, .inr ⟨sqT_le rep.sub q1, fin.val rep ho (.tup q1 q2)⟩⟩
    · exact ho.elim
  · exact ho.elim) call_tuple_of hg hm (by decide +kernel) ha (by decide) (by decide) he
def PrimM (K : PySem.W.Frag) (T : String) (r : V → List V → Hp → VK → Prop) (op : Sl → List Sl → En → KE → Prop) : Prop := ∀ {R F : Hp} {A : List Addr} {σ : L2.St} {H : Hp} {e : En} {x : V} {s : Sl} {xs : List V} {ss : List Sl} {Kp : KE} {Q : VK}, Rep K R F A σ H e → SlAt K F A x s → SlAts K F A xs ss → op s ss e Kp → Fin K R F A σ Kp Q → r x xs H Q
/-- the receiver is of the type, when its name is read -/
def isT (T : String) (s : Sl) (e : En) : Prop := match pk s e with
  | some (.str _) => T = "str"
  | some (.list _) => T = "list"
  | _ => False
theorem isT_ty {K : PySem.W.Frag} {R F : Hp} {A : List Addr} {σ : L2.St} {H : Hp} {e : En} {T : String} {x : V} {s : Sl} (rep : Rep K R F A σ H e) (a : SlAt K F A x s) (h : isT T s e) : tyV K T x H := by
  unfold isT at h
  split at h
  · rename_i z hz
    rw [(rep.pk a hz).str]
    exact h
  · rename_i ds hz
    obtain ⟨p, xs, rfl, q1, q2⟩ := rep.pk a hz
    exact .inl ⟨h, xs, q1⟩
  · exact h.elim
def vM (T : String) (op : Sl → List Sl → En → KE → Prop) (ta : VTE) (t : VTA) : VTE := fun e Kp => ta e fun s e1 => isT T s e1 ∧ t e1 fun ss e2 => op s ss e2 Kp
def vM0 (T : String) (op : Sl → List Sl → En → KE → Prop) (ta : VTE) : VTE := fun e Kp => ta e fun s e1 => isT T s e1 ∧ op s [] e1 Kp
variable {o : Expr} {to : VTE}
theorem ve_m {T id : String} {name : Str} {apos cpos : Pos} {r : V → List V → Hp → VK → Prop} {op : Sl → List Sl → En → KE → Prop} {es : List Expr} {t : VTA} (pr : PrimM X.K T r op) (pa : PlainAttrs T) (slot : Slot T name id) (hty : typeOf (.builtin id) = pure (.type "method_descriptor")) (hm : MtR X id r) (ho : VE X o to) (ha : VA X (a :: es) t)
    (hbase : attributeBase o name X.env (eval o X.env) = eval o X.env := by rfl)
    (hfew : ((backTo cpos (starEach (a :: es) X.env)).all (fun x => !x.1) && (backToKw cpos (keywordEach [] X.env)).all (fun x => x.1.isSome)
      && decide ((a :: es).length + ([] : List Keyword).length + (if ([] : List Keyword).isEmpty then 0 else 1) < 30)) = true := by rfl)
    (hline : (apos.endLine == cpos.line) = true := by rfl) (hs : starEach (a :: es) X.env = (false, eval a X.env) :: starEach es X.env := by rfl) (hplain : (backTo cpos (starEach es X.env)).any (·.1) = false := by rfl) :
    VE X (.Call (.Attribute o name apos) (a :: es) [] cpos) (vM T op to t) := PE.imp (pe_bm pa slot hty hm ho ha hbase hfew hline hs hplain) fun σ H Q h => by
  obtain ⟨R, F, A, e, Kp, rep, ht, fin⟩ := h
  exact ⟨R, F, A, e, _, rep, ht, fun s1 e1 x F1 A1 H1 k1 f1 p1 rep1 at1 => ⟨isT_ty rep1 at1 k1.1, R, F1, A1, e1, _, rep1, k1.2, fun ss e2 xs F2 A2 H2 k2 f2 p2 rep2 at2 => pr rep2 (at1.le f2 p2) at2 k2 (fin.tr (f1.trans f2) (p1.trans p2))⟩⟩
/-- xs.append(x) -/
def opAppend (s : Sl) (ss : List Sl) (e : En) (Kp : KE) : Prop := match ss with
  | [t] => asD t e fun d e1 => match s with
    | .obj j => (match e1.st[j]? with
      | some (some (.l ds)) => ds.length < sizeLine ∧ Kp (.val .none) ⟨e1.sl, e1.st.set j (some (.l (ds ++ [d])))⟩
      | _ => False)
    | _ => False
  | _ => False
theorem Fin.chg {K : PySem.W.Frag} {R F : Hp} {A : List Addr} {σ : L2.St} {H : Hp} {e : En} {Kp : KE} {Q : VK} (f : Fin K R F A σ Kp Q) (r : Rep K R F A σ H e) {j : Nat} {a : Addr} {ds : List D} (hj : A[j]? = some a) (hl : e.st[j]? = some (some (.l ds))) {xs' : List V} {ds' : List D} (hx : AtL K F ds' xs') {v : V} {d : D} (hv : At K F d v)
    (k : Kp (.val d) ⟨e.sl, e.st.set j (some (.l ds'))⟩) : Q v (upd H a (.lst xs')) := f (.val d) _ v F A _ k (Le.refl F) (pfx_refl A) (r.write hj hl hx) hv
theorem p_append {K : PySem.W.Frag} : PrimM K "list" rAppend opAppend := by
  intro R F A σ H e x s xs ss Kp Q rep a0 a1 ho fin
  unfold opAppend at ho
  split at ho
  · rename_i t
    obtain ⟨y, rfl, a2⟩ := a1.one
    obtain ⟨d, e1, F1, ho, rep1, l1, at1⟩ := rep.asD a2 ho
    cases s with
    | val _ => exact False.elim ho
    | kn _ => exact False.elim ho
    | exc _ => exact False.elim ho
    | obj j =>
      replace ho : (match e1.st[j]? with | some (some (.l ds)) => ds.length < sizeLine ∧ Kp (.val .none) ⟨e1.sl, e1.st.set j (some (.l (ds ++ [d])))⟩ | _ => False) := ho
      split at ho
      · rename_i ds hd
        obtain ⟨a, ea, rfl⟩ := a0
        obtain ⟨b, ys, q1, q2, q3, q4⟩ := rep1.lst hd
        rw [ea] at q1
        cases q1
        exact ⟨a, ys, y, rfl, rfl, q3, by rw [q4.len]; exact ho.1, (fin.tr l1 (pfx_refl A)).chg rep1 ea hd (q4.app (AtL.one at1)) .non ho.2⟩
      · exact ho.elim
  · exact ho.elim
/-- xs.extend(ys) -/
def opExtend (s : Sl) (ss : List Sl) (e : En) (Kp : KE) : Prop := match s, ss with
  | .obj j, [t] => (match e.st[j]?, pkm t e with
    | some (some (.l ds)), some (.list es) => ds.length + es.length ≤ sizeLine ∧ Kp (.val .none) ⟨e.sl, e.st.set j (some (.l (ds ++ es)))⟩
    | _, _ => False)
  | _, _ => False
/-- xs.pop() -/
def opPop (s : Sl) (ss : List Sl) (e : En) (Kp : KE) : Prop := match s with
  | .obj j => (match e.st[j]? with
    | some (some (.l ds)) => ∃ d, ds.getLast? = some d ∧ Kp (.val d) ⟨e.sl, e.st.set j (some (.l ds.dropLast))⟩
    | _ => False)
  | _ => False
theorem p_pop {K : PySem.W.Frag} : PrimM K "list" (fun x vs H Q => vs = [] → rPop x vs H Q) opPop := by
  intro R F A σ H e x s xs ss Kp Q rep a0 a1 ho fin hv
  subst hv
  unfold opPop at ho
  split at ho
  · rename_i j
    split at ho
    · rename_i ds hd
      obtain ⟨d, hl, k⟩ := ho
      obtain ⟨a, ea, rfl⟩ := a0
      obtain ⟨b, ys, q1, q2, q3, q4⟩ := rep.lst hd
      rw [ea] at q1
      cases q1
      rw [List.getLast?_eq_getElem?] at hl
      obtain ⟨v, hv, av⟩ := q4.get hl
      refine ⟨a, ys, v, rfl, rfl, q3, by rw [q4.len]; exact hv, fin.chg rep ea hd q4.dropLast av k⟩
    · exact ho.elim
  · exact ho.elim
theorem ve_append {apos cpos : Pos} {t : VTA} (ho : VE X o to) (ha : VA X [a] t) (hbase : attributeBase o "append" X.env (eval o X.env) = eval o X.env := by rfl) (hline : (apos.endLine == cpos.line) = true := by rfl) (hfew : ((backTo cpos (starEach [a] X.env)).all (fun x => !x.1) && (backToKw cpos (keywordEach [] X.env)).all (fun x => x.1.isSome)
      && decide ([a].length + ([] : List Keyword).length + (if ([] : List Keyword).isEmpty then 0 else 1) < 30)) = true := by rfl) (hs : starEach [a] X.env = (false, eval a X.env) :: starEach [] X.env := by rfl) :
    VE X (.Call (.Attribute o "append" apos) [a] [] cpos) (vM "list" opAppend to t) := ve_m p_append PySem.F.plainAttrs_list PySem.F.slot_list_append PySem.F.type_list_append mt_append ho ha hbase hfew hline hs
end
end Vl
namespace Vl
open PySem L2
/-- an exception: its class's name, its fields -/
structure Xv where
  C : Str
  fs : List (Str × D) := []
structure VEnds where
  nx : En → Prop
  rt : Sl → En → Prop
  bk : En → Prop := fun _ => False
  ct : En → Prop := fun _ => False
  ex : Xv → En → Prop := fun _ _ => False
def XAt (K : PySem.W.Frag) (mg : Str → Option Value) (F H : Hp) (x : Xv) (cls : Value) (d : Option Addr) : Prop :=
  mg x.C = some cls ∧ ((x.fs = [] ∧ d = none) ∨ x.fs ≠ [] ∧ ∃ dx vs, d = some dx ∧ H dx = some (.xd ((x.fs.map (·.1)).zip vs)) ∧ AtL K F (x.fs.map (·.2)) vs)
/-- what is wanted of an exception that leaves here -/
def FinX (X : Cx) (R F : Hp) (A : List Addr) (P : Xv → En → Prop) : Prop := ∃ W : WX, Takes X W ∧ ∀ x e' cls d σ' F' A' H', P x e' → Le F F' → A <+: A' → Rep X.K R F' A' σ' H' e' → XAt X.K X.mg F' H' x cls d → W cls d σ' H'
theorem FinX.tr {X : Cx} {R F F1 : Hp} {A A1 : List Addr} {P : Xv → En → Prop} (f : FinX X R F A P) (a : Le F F1) (b : A <+: A1) : FinX X R F1 A1 P := by
  obtain ⟨W, t, h⟩ := f
  exact ⟨W, t, fun x e' cls d σ' F' A' H' p h1 h2 => h x e' cls d σ' F' A' H' p (a.trans h1) (b.trans h2)⟩
theorem FinX.no {X : Cx} {R F : Hp} {A : List Addr} : FinX X R F A fun _ _ => False :=
  ⟨fun _ _ _ _ => False, fun u s' ⟨a, B, sI, pins, σ, H, cls, d, e, I, nb, up, sky, na, os, ag, w⟩ => w.elim, fun _ _ _ _ _ _ _ _ p => p.elim⟩
abbrev VTS := VEnds → En → Prop
structure FinS (X : Cx) (R F : Hp) (A : List Addr) (DV : VEnds) (D : Ends) : Prop where
  nx : ∀ e' σ' F' A' H', DV.nx e' → Le F F' → A <+: A' → Rep X.K R F' A' σ' H' e' → D.nx σ' H'
  bk : ∀ e' σ' F' A' H', DV.bk e' → Le F F' → A <+: A' → Rep X.K R F' A' σ' H' e' → D.bk σ' H'
  ct : ∀ e' σ' F' A' H', DV.ct e' → Le F F' → A <+: A' → Rep X.K R F' A' σ' H' e' → D.ct σ' H'
  rt : ∀ s e' v σ' F' A' H', DV.rt s e' → Le F F' → A <+: A' → Rep X.K R F' A' σ' H' e' → SlAt X.K F' A' v s → D.rt v H'
  ex : FinX X R F A DV.ex
theorem FinS.tr {X : Cx} {R F F1 : Hp} {A A1 : List Addr} {DV : VEnds} {D : Ends} (f : FinS X R F A DV D) (a : Le F F1) (b : A <+: A1) : FinS X R F1 A1 DV D :=
  ⟨fun e' σ' F' A' H' k h1 h2 => f.nx e' σ' F' A' H' k (a.trans h1) (b.trans h2), fun e' σ' F' A' H' k h1 h2 => f.bk e' σ' F' A' H' k (a.trans h1) (b.trans h2), fun e' σ' F' A' H' k h1 h2 => f.ct e' σ' F' A' H' k (a.trans h1) (b.trans h2),
    fun s e' v σ' F' A' H' k h1 h2 => f.rt s e' v σ' F' A' H' k (a.trans h1) (b.trans h2), f.ex.tr a b⟩
def liftS (X : Cx) (t : VTS) : TS := fun D σ H => ∃ R F A e DV, Rep X.K R F A σ H e ∧ t DV e ∧ FinS X R F A DV D
def VS (X : Cx) (st : Stmt) (t : VTS) : Prop := PS X st (liftS X t)
def VSs (X : Cx) (st : List Stmt) (t : VTS) : Prop := PSs X st (liftS X t)
def vNext : VTS := fun D e => D.nx e
def vSeq (t u : VTS) : VTS := fun D e => t { D with nx := u D } e
/-- the names outside ws are as they were -/
def Off (ws : List Nat) (σ σ' : L2.St) : Prop := σ'.length = σ.length ∧ ∀ i : Nat, i ∉ ws → σ'[i]? = σ[i]?
theorem Off.refl (ws : List Nat) (σ : L2.St) : Off ws σ σ := ⟨rfl, fun _ _ => rfl⟩
theorem Off.app {ws us : List Nat} {σ σ1 σ2 : L2.St} (a : Off ws σ σ1) (b : Off us σ1 σ2) : Off (ws ++ us) σ σ2 :=
  ⟨b.1.trans a.1, fun i h => (b.2 i fun z => h (List.mem_append_right _ z)).trans (a.2 i fun z => h (List.mem_append_left _ z))⟩
abbrev VTG := Sl → En → (En → Prop) → Prop
abbrev VTGs := List D → En → (En → Prop) → Prop
def FinG (K : PySem.W.Frag) (R F : Hp) (A : List Addr) (ws : List Nat) (σ : L2.St) (Kp : En → Prop) (Q : L2.St → Hp → Prop) : Prop := ∀ e' σ' F' A' H', Kp e' → Le F F' → A <+: A' → Off ws σ σ' → Rep K R F' A' σ' H' e' → Q σ' H'
def liftG (K : PySem.W.Frag) (ws : List Nat) (g : VTG) : TG := fun v σ H Q => ∃ R F A e s Kp, Rep K R F A σ H e ∧ SlAt K F A v s ∧ g s e Kp ∧ FinG K R F A ws σ Kp Q
def liftGs (K : PySem.W.Frag) (ws : List Nat) (g : VTGs) : TGs := fun vs σ H Q => ∃ R F A e ds Kp, Rep K R F A σ H e ∧ AtL K F ds vs ∧ g ds e Kp ∧ FinG K R F A ws σ Kp Q
def VG (X : Cx) (ex : Expr) (ws : List Nat) (g : VTG) : Prop := PG X ex (liftG X.K ws g)
def VGs (X : Cx) (ex : List Expr) (ws : List Nat) (g : VTGs) : Prop := PGs X ex (liftGs X.K ws g)
theorem PG.imp {X : Cx} {ex : Expr} {t t' : TG} (h : PG X ex t) (f : ∀ v σ H Q, t' v σ H Q → t v σ H Q) : PG X ex t' := by
  obtain ⟨run⟩ := h
  constructor
  intros
  apply run <;> first | assumption | (apply f; assumption)
theorem PGs.imp {X : Cx} {ex : List Expr} {t t' : TGs} (h : PGs X ex t) (f : ∀ v σ H Q, t' v σ H Q → t v σ H Q) : PGs X ex t' := by
  obtain ⟨run⟩ := h
  constructor
  intros
  apply run <;> first | assumption | (apply f; assumption)
theorem PI.imp {X : Cx} {tg ex : Expr} {t t' : TI} (h : PI X tg ex t) (f : ∀ σ H Q, t' σ H Q → t σ H Q) : PI X tg ex t' := by
  obtain ⟨run⟩ := h
  constructor
  intros
  apply run <;> first | assumption | (apply f; assumption)
def vgName (i : Nat) : VTG := fun s e Kp => Kp ⟨e.sl.set i (some s), e.st⟩
def vgNil : VTGs := fun ds e Kp => match ds with
  | [] => Kp e
  | _ => False
def vgCons (g : VTG) (u : VTGs) : VTGs := fun ds e Kp => match ds with
  | d :: r => g (.val d) e fun e1 => u r e1 Kp
  | [] => False
def vgTup (n : Nat) (u : VTGs) : VTG := fun s e Kp => match pk s e with
  | some (.tuple ds) => ds.length = n ∧ u ds e Kp
  | _ => False
def vgSub (to ti : VTE) : VTG := fun s e Kp => to e fun so e1 => ti e1 fun si e2 => asD s e2 fun d e3 => match so with
  | .obj j => (match pk si e3 with
    | some (.int k) => (match e3.st[j]? with
      | some (some (.l ds)) => ∃ n, ixN ds.length k = some n ∧ Kp ⟨e3.sl, e3.st.set j (some (.l (ds.set n d)))⟩
      | _ => False)
    | _ => False)
  | _ => False
section
variable {X : Cx} {pos : Pos}
theorem off_set (i : Nat) (v : Option V) (σ : L2.St) : Off [i] σ (σ.set i v) := ⟨List.length_set, fun k h => List.getElem?_set_ne (fun z => h (by simp [z]))⟩
theorem vg_name {i : Nat} {x : Str} (hN : X.N.Nodup) (hi : X.N[i]? = some x) (hx : Loc X.env.scope x) (hf : X.fn x = true ∨ X.env.scope.names.lookup x = some .local := by first | exact .inl rfl | exact .inr rfl | assumption) : VG X (.Name x pos) [i] (vgName i) :=
  PG.imp (pg_name hN hi hx hf) fun v σ H Q h => by
    obtain ⟨R, F, A, e, s, Kp, rep, a, k, fin⟩ := h
    exact fin _ _ F A H k (Le.refl F) (pfx_refl A) (off_set i _ σ) (rep.put a)
theorem vgs_nil : VGs X [] [] vgNil := PGs.imp pgs_nil fun vs σ H Q h => by
  obtain ⟨R, F, A, e, ds, Kp, rep, a, k, fin⟩ := h
  unfold vgNil at k
  split at k
  · cases a
    exact ⟨rfl, fin _ _ F A H k (Le.refl F) (pfx_refl A) (Off.refl _ _) rep⟩
  · exact k.elim
theorem vgs_cons {ex : Expr} {es : List Expr} {ws us : List Nat} {g : VTG} {u : VTGs} (h1 : VG X ex ws g) (h2 : VGs X es us u) (hs : (assignEach (ex :: es) X.env).map (·.2) = assign ex X.env :: (assignEach es X.env).map (·.2) := by rfl) : VGs X (ex :: es) (ws ++ us) (vgCons g u) := PGs.imp (pgs_cons h1 h2 hs) fun vs σ H Q h => by
  obtain ⟨R, F, A, e, ds, Kp, rep, a, k, fin⟩ := h
  unfold vgCons at k
  split at k
  · rename_i d r
    cases a with
    | cons a1 a2 => exact ⟨_, _, rfl, R, F, A, e, .val d, _, rep, a1, k, fun e1 σ1 F1 A1 H1 k1 l1 p1 o1 rep1 => ⟨R, F1, A1, e1, r, Kp, rep1, AtL.le l1 _ _ a2, k1, fun e2 σ2 F2 A2 H2 k2 l2 p2 o2 rep2 => fin _ _ _ _ _ k2 (l1.trans l2) (p1.trans p2) (o1.app o2) rep2⟩⟩
  · exact k.elim
theorem vg_tup {es : List Expr} {k : Nat} {t : VTGs} {n : Nat} {ws : List Nat} (hc : X.calm = true) (h : VGs X es ws t) (hn : (assignEach es X.env).length = n := by rfl) (hst : (assignEach es X.env).findIdx? (·.1) = none := by rfl) : VG X (.Tuple es k pos) ws (vgTup n t) := PG.imp (pg_tup hc h hn hst) fun v σ H Q h => by
  obtain ⟨R, F, A, e, s, Kp, rep, a, k, fin⟩ := h
  unfold vgTup at k
  split at k
  · rename_i ds hd
    obtain ⟨p, xs, rfl, q1, q2⟩ := (rep.pk a hd).tup
    exact ⟨p, xs, rfl, sqT_le rep.sub q1, by rw [q2.len]; exact k.1, R, F, A, e, ds, Kp, rep, q2, k.2, fin⟩
  · exact k.elim
theorem vg_sub {o i : Expr} {to ti : VTE} (ho : VE X o to) (hi : VE X i ti) (hp : ∀ {u w : TE}, PE X o u → PE X i w → PG X (.Subscript o i pos) (gSub u w rSetL)) : VG X (.Subscript o i pos) [] (vgSub to ti) := PG.imp (hp ho hi) fun v σ H Q h => by
  obtain ⟨R, F, A, e, s, Kp, rep, a, k, fin⟩ := h
  refine ⟨R, F, A, e, _, rep, k, fun so e1 x F1 A1 H1 k1 l1 p1 rep1 a1 => ⟨R, F1, A1, e1, _, rep1, k1, fun si e2 y F2 A2 H2 k2 l2 p2 rep2 a2 => ?_⟩⟩
  obtain ⟨d, e3, F3, k3, rep3, l3, a3⟩ := rep2.asD (a.le (l1.trans l2) (p1.trans p2)) k2
  have a2' := a2.le l3 (pfx_refl A2)
  have a1' := a1.le (l2.trans l3) p2
  have lz := (l1.trans l2).trans l3
  have pz := p1.trans p2
  cases so with
  | val _ => exact False.elim k3
  | kn _ => exact False.elim k3
  | exc _ => exact False.elim k3
  | obj j =>
    replace k3 : (match pk si e3 with | some (.int k) => (match e3.st[j]? with | some (some (.l ds)) => ∃ n, ixN ds.length k = some n ∧ Kp ⟨e3.sl, e3.st.set j (some (.l (ds.set n d)))⟩ | _ => False) | _ => False) := k3
    split at k3
    · rename_i k hk
      split at k3
      · rename_i ds hd
        obtain ⟨n, hn, k4⟩ := k3
        obtain ⟨b, eb, rfl⟩ := a1'
        obtain ⟨b', xs, q1, q2, q3, q4⟩ := rep3.lst hd
        rw [eb] at q1
        cases q1
        refine ⟨b, xs, k, n, rfl, (rep3.pk a2' hk).int, q3, by rw [q4.len]; exact hn, fin _ _ _ _ _ k4 lz pz (Off.refl _ _) (rep3.write eb hd (q4.set a3 n))⟩
      · exact k3.elim
    · exact k3.elim
theorem vss_nil : VSs X [] vNext := PSs.imp pss_nil fun D σ H h => by
  obtain ⟨R, F, A, e, DV, rep, k, fin⟩ := h
  exact fin.nx e σ F A H k (Le.refl F) (pfx_refl A) rep
theorem vss_one {st : Stmt} {t : VTS} (h : VS X st t) : VSs X [st] t := pss_one h
theorem vss_cons {st : Stmt} {rest : List Stmt} {t u : VTS} (h1 : VS X st t) (h2 : VSs X rest u) : VSs X (st :: rest) (vSeq t u) := PSs.imp (pss_cons h1 h2) fun D σ H h => by
  obtain ⟨R, F, A, e, DV, rep, k, fin⟩ := h
  exact ⟨R, F, A, e, _, rep, k, fun e1 σ1 F1 A1 H1 k1 l1 p1 rep1 => ⟨R, F1, A1, e1, DV, rep1, k1, fin.tr l1 p1⟩, fin.bk, fin.ct, fin.rt, fin.ex⟩
def vBreak : VTS := fun D e => D.bk e
def vCont : VTS := fun D e => D.ct e
def vDrop (t : VTE) : VTS := fun D e => t e fun _ e1 => D.nx e1
theorem vs_expr {ex : Expr} {t : VTE} (he : VE X ex t) (hs : swapsWith ex none pos.line X.env = pure false := by rfl) : VS X (.Expr ex pos) (vDrop t) := PS.imp (ps_expr he hs) fun D σ H h => by
  obtain ⟨R, F, A, e, DV, rep, k, fin⟩ := h
  exact ⟨R, F, A, e, _, rep, k, fun s e1 v F1 A1 H1 k1 l1 p1 rep1 a1 => fin.nx _ _ _ _ _ k1 l1 p1 rep1⟩
def vRet (t : VTE) : VTS := fun D e => t e D.rt
theorem vs_ret {ex : Expr} {t : VTE} (he : VE X ex t) : VS X (.Return (some ex) pos) (vRet t) := PS.imp (ps_ret he) fun D σ H h => by
  obtain ⟨R, F, A, e, DV, rep, k, fin⟩ := h
  exact ⟨R, F, A, e, _, rep, k, fun s e1 v F1 A1 H1 k1 l1 p1 rep1 a1 => fin.rt _ _ _ _ _ _ _ k1 l1 p1 rep1 a1⟩
def vRetN : VTS := fun D e => D.rt (.val .none) e
def vIfS (c : VTT) (t u : VTS) : VTS := fun D e => c e fun b e1 => if b = true then t D e1 else u D e1
theorem vs_if {c : Expr} {a b : List Stmt} {tc : VTT} {t u : VTS} (hc : VT X c tc) (ha : VSs X a t) (hb : VSs X b u) : VS X (.If c a b pos) (vIfS tc t u) := PS.imp (ps_if hc ha hb) fun D σ H h => by
  obtain ⟨R, F, A, e, DV, rep, k, fin⟩ := h
  refine ⟨R, F, A, e, _, rep, k, fun b e1 F1 A1 H1 k1 l1 p1 rep1 => ?_⟩
  cases b with
  | true => exact ⟨R, F1, A1, e1, DV, rep1, k1, fin.tr l1 p1⟩
  | false => exact ⟨R, F1, A1, e1, DV, rep1, k1, fin.tr l1 p1⟩
def vSet (i : Nat) (t : VTE) : VTS := fun D e => t e fun s e1 => D.nx ⟨e1.sl.set i (some s), e1.st⟩
theorem lift_set {i : Nat} {t : VTE} {te : TE} (D : Ends) (σ : L2.St) (H : Hp) (hte : ∀ Q, liftE X.K t σ H Q → te σ H Q) (h : liftS X (vSet i t) D σ H) : tAsg te (gName i) D σ H := by
  obtain ⟨R, F, A, e, DV, rep, k, fin⟩ := h
  exact hte _ ⟨R, F, A, e, _, rep, k, fun s e1 v F1 A1 H1 k1 l1 p1 rep1 a1 => fin.nx _ _ _ _ _ k1 l1 p1 (rep1.put a1)⟩
theorem vs_set {i : Nat} {x : Str} {ex : Expr} {t : VTE} {pos' : Pos} (hN : X.N.Nodup) (hi : X.N[i]? = some x) (hx : Loc X.env.scope x) (he : VE X ex t) (hs : swapsWith ex (some (.Name x pos')) pos.line X.env = pure false := by rfl) (hf : X.fn x = true ∨ X.env.scope.names.lookup x = some .local := by first | exact .inl rfl | exact .inr rfl | assumption) :
    VS X (.Assign [.Name x pos'] ex pos) (vSet i t) := PS.imp (ps_set hN hi hx he hs hf) fun D σ H h => lift_set D σ H (fun _ q => q) h
def vAsg (t : VTE) (g : VTG) : VTS := fun D e => t e fun s e1 => g s e1 D.nx
theorem vs_asg {tg ex : Expr} {t : VTE} {g : VTG} {ws : List Nat} (he : VE X ex t) (hg : VG X tg ws g) (hs : swapsWithSole [tg] ex pos.line X.env = pure false := by rfl) (hw : swappedStores [tg] ex X.env = pure none := by rfl) (h1 : (assignEach [tg] X.env).map (·.2) = [assign tg X.env] := by rfl) : VS X (.Assign [tg] ex pos) (vAsg t g) := PS.imp (ps_asg he hg hs hw h1) fun D σ H h => by
  obtain ⟨R, F, A, e, DV, rep, k, fin⟩ := h
  exact ⟨R, F, A, e, _, rep, k, fun s e1 v F1 A1 H1 k1 l1 p1 rep1 a1 => ⟨R, F1, A1, e1, s, DV.nx, rep1, a1, k1, fun e2 σ2 F2 A2 H2 k2 l2 p2 o2 rep2 => fin.nx _ _ _ _ _ k2 (l1.trans l2) (p1.trans p2) rep2⟩⟩
end
def dropNone {α : Type} : List (Option α) → List (Option α)
  | [] => []
  | x :: xs => match x, dropNone xs with
    | none, [] => []
    | x, r => x :: r
theorem dropNone_pre {α : Type} : ∀ l : List (Option α), dropNone l <+: l
  | [] => List.prefix_refl _
  | x :: xs => by
    have ih := dropNone_pre xs
    unfold dropNone
    split
    · exact List.nil_prefix
    · exact (List.prefix_cons_inj _).mpr ih
def clr (m : Nat) : Option Sl → Option Sl
  | some (.obj j) => if j < m then some (.obj j) else none
  | s => s
theorem clr_n (m : Nat) : clr m none = none := rfl
theorem clr_v (m : Nat) (d : D) : clr m (some (.val d)) = some (.val d) := rfl
theorem clr_k (m : Nat) (d : List D) : clr m (some (.kn d)) = some (.kn d) := rfl
theorem clr_o (m j : Nat) : clr m (some (.obj j)) = if j < m then some (.obj j) else none := rfl
def isMo : Option Ob → Bool
  | some (.mo _) => true
  | some (.sq _ _) => true
  | _ => false
def trimS (n : Nat) (st : List (Option Ob)) : List (Option Ob) := st.take n ++ dropNone (st.drop n)
def En.trim (n : Nat) (e : En) : En := if e.st.any isMo = true then e else ⟨e.sl.map (clr (trimS n e.st).length), trimS n e.st⟩
theorem trimS_pre (n : Nat) (st : List (Option Ob)) : trimS n st <+: st := by
  obtain ⟨t, ht⟩ := dropNone_pre (st.drop n)
  refine ⟨t, ?_⟩
  show st.take n ++ dropNone (st.drop n) ++ t = st
  rw [List.append_assoc, ht, List.take_append_drop]
theorem ObAt.noMo {K : PySem.W.Frag} {F : Hp} {A B : List Addr} {h : Option HO} : ∀ {ob : Ob}, isMo (Option.some ob) = false → ObAt K F A h ob → ObAt K F B h ob
  | .l _, _, x => x
  | .m _, _, x => x
  | .mo _, n, _ => by cases n
  | .lk _ _ _, _, x => x
  | .sq _ _, n, _ => by cases n
theorem Rep.trim {K : PySem.W.Frag} {R F : Hp} {A A1 : List Addr} {σ : L2.St} {H : Hp} {e : En} (r : Rep K R F A σ H e) {n : Nat} (p : A1 <+: A) (hn : A1.length = n) : ∃ A', A1 <+: A' ∧ Rep K R F A' σ H (e.trim n) := by
  by_cases hmo : e.st.any isMo = true
  · refine ⟨A, p, ?_⟩
    unfold En.trim
    rw [if_pos hmo]
    exact r
  have et : e.trim n = ⟨e.sl.map (clr (trimS n e.st).length), trimS n e.st⟩ := by
    unfold En.trim
    rw [if_neg hmo]
  rw [et]
  have pre := trimS_pre n e.st
  have hm : (trimS n e.st).length ≤ e.st.length := pre.length_le
  have pa : A.take (trimS n e.st).length <+: A := List.take_prefix _ _
  refine ⟨A.take (trimS n e.st).length, ?_, r.sub, r.keep, fun a o z => ⟨(r.apart a o z).1, fun hm => (r.apart a o z).2 (List.mem_of_mem_take hm)⟩, by simp [r.len], ?_, ?_, fun a ha => r.live a (List.mem_of_mem_take ha), fun i s z => ?_, fun j ob z => ?_, r.tabs.sub fun a ha => List.mem_of_mem_take ha⟩
  · have h1 : A1.length ≤ A.length := p.length_le
    have h2 : n ≤ (trimS n e.st).length := by
      show n ≤ (e.st.take n ++ dropNone (e.st.drop n)).length
      rw [List.length_append, List.length_take, r.lenA]
      omega
    exact List.prefix_of_prefix_length_le p pa (by rw [List.length_take, ← r.lenA]; have := r.lenA; omega)
  · show (trimS n e.st).length = _
    rw [List.length_take, ← r.lenA]
    omega
  · exact (List.take_sublist _ _).nodup r.nodup
  · have z' : (e.sl.map (clr (trimS n e.st).length))[i]? = some (some s) := z
    rw [List.getElem?_map] at z'
    obtain ⟨t, ht, hs⟩ := Option.map_eq_some_iff.mp z'
    cases t with
    | none => cases hs
    | some t =>
      obtain ⟨v, h1, h2⟩ := r.slot i t ht
      cases t with
      | val d =>
        cases hs
        exact ⟨v, h1, h2⟩
      | kn d =>
        cases hs
        exact ⟨v, h1, h2⟩
      | exc d =>
        cases hs
        exact ⟨v, h1, h2⟩
      | obj j =>
        replace hs : (if j < (trimS n e.st).length then some (Sl.obj j) else none) = some s := hs
        split at hs
        · rename_i hj
          cases hs
          obtain ⟨a, e1, e2⟩ := h2
          exact ⟨v, h1, a, by rw [List.getElem?_take_of_lt hj]; exact e1, e2⟩
        · cases hs
  · have z' : (trimS n e.st)[j]? = some (some ob) := z
    have hj := (List.getElem?_eq_some_iff.mp z').1
    have z2 : e.st[j]? = some (some ob) := by
      obtain ⟨t, ht⟩ := pre
      rw [← ht, List.getElem?_append_left hj]
      exact z'
    obtain ⟨a, h1, h2, h3⟩ := r.store j ob z2
    refine ⟨a, by rw [List.getElem?_take_of_lt hj]; exact h1, h2, h3.noMo ?_⟩
    cases q : isMo (some ob) with
    | false => rfl
    | true => exact absurd (List.any_eq_true.mpr ⟨_, List.mem_of_getElem? z2, q⟩) hmo
def wl (c : VTT) (tb : VTS) (n : Nat) : Nat → VEnds → En → Prop
  | 0, _, _ => False
  | m + 1, D, e => c e fun b e1 => if b = true then tb { D with nx := fun e' => wl c tb n m D (e'.trim n), ct := fun e' => wl c tb n m D (e'.trim n), bk := D.nx } e1 else D.nx e1
def okc (c : Option (En → Prop)) (e : En) : Prop := match c with
  | none => True
  | some c => c e
def wth (c : Option (En → Prop)) (e : En) (p : Prop) : Prop := match c with
  | none => p
  | some c => c e ∧ p
theorem wth_ok {c : Option (En → Prop)} {e : En} {p : Prop} (h : wth c e p) : okc c e ∧ p := by
  cases c with
  | none => exact ⟨trivial, h⟩
  | some c => exact h
structure ItOk (K : PySem.W.Frag) (F : Hp) (A : List Addr) (chk : Option (En → Prop)) (ds : List D) (J : It) : Prop where
  go : ∀ {R F' : Hp} {A' : List Addr} {σ' : L2.St} {H' : Hp} {e' : En} (i : Nat) (d : D), ds[i]? = some d → Le F F' → A <+: A' → Rep K R F' A' σ' H' e' → okc chk e' → J.go i H' ∧ ∀ x H3, J.yld i H' x H3 → ∃ F3, Le F' F3 ∧ Rep K R F3 A' σ' H3 e' ∧ At K F3 d x
  stop : ∀ {R F' : Hp} {A' : List Addr} {σ' : L2.St} {H' : Hp} {e' : En}, Le F F' → A <+: A' → Rep K R F' A' σ' H' e' → okc chk e' → J.stop ds.length H'
abbrev VTI := En → (List D → Option (En → Prop) → En → Prop) → Prop
def liftI (K : PySem.W.Frag) (w : VTI) : TI := fun σ H Q => ∃ R F A e Kp, Rep K R F A σ H e ∧ w e Kp ∧ ∀ ds chk e' F' A' H' J, Kp ds chk e' → Le F F' → A <+: A' → Rep K R F' A' σ H' e' → ItOk K F' A' chk ds J → Q J H'
def VI (X : Cx) (tg it : Expr) (w : VTI) : Prop := PI X tg it (liftI X.K w)
def fl (g : VTG) (tb : VTS) (chk : Option (En → Prop)) (n : Nat) : List D → VEnds → En → Prop
  | [], D, e => wth chk e (D.nx e)
  | d :: ds, D, e => wth chk e (g (.val d) e fun e1 => tb { D with nx := fun e' => fl g tb chk n ds D (e'.trim n), ct := fun e' => fl g tb chk n ds D (e'.trim n), bk := D.nx } e1)
def vFor (w : VTI) (g : VTG) (tb : VTS) : VTS := fun D e => w e fun ds chk e1 => fl g tb chk e1.st.length ds D e1
def chkOf (s : Sl) (ds : List D) : Option (En → Prop) := match s with
  | .obj j => some fun e => e.st[j]? = some (some (.l ds))
  | _ => none
def vSeqI (t : VTE) : VTI := fun e Kp => t e fun s e1 => match pk s e1 with
  | some (.list ds) => Kp ds (chkOf s ds) e1
  | _ => False
def vTupI (t : VTE) : VTI := fun e Kp => t e fun s e1 => match pk s e1 with
  | some (.tuple ds) => Kp ds none e1
  | _ => False
section
variable {X : Cx} {tg a b : Expr} {ta : VTE} {pos : Pos}
/-- a list that is walked stands as it did -/
theorem seq_at {K : PySem.W.Frag} {R R' F F' : Hp} {A A' : List Addr} {σ σ' : L2.St} {H H' : Hp} {e e' : En} {s : Sl} {v : V} {ds : List D} (rep : Rep K R F A σ H e) (a : SlAt K F A v s) (h : pk s e = some (.list ds)) (l : Le F F') (p : A <+: A') (rep' : Rep K R' F' A' σ' H' e') (c : okc (chkOf s ds) e') :
    ∃ q xs, v = .ref q ∧ SqL K H' q xs ∧ AtL K F' ds xs := by
  cases s with
  | val d =>
    cases h
    exact rep'.pk (s := .val (.list ds)) (d := .list ds) (a.le l p) rfl
  | kn d =>
    cases h
    exact rep'.pk (s := .kn ds) (d := .list ds) (SlAt.le (x := .kn ds) l p a) rfl
  | exc d => cases h
  | obj j =>
    have c' : e'.st[j]? = some (some (.l ds)) := c
    refine rep'.pk (s := .obj j) (d := .list ds) (SlAt.le (x := .obj j) l p a) ?_
    show (match e'.st[j]? with | some (some (.l ds)) => some (PyData.list ds) | _ => none) = _
    rw [c']
theorem vi_list (ha : VE X a ta) : VI X tg a (vSeqI ta) := PI.imp (pi_list ha) fun σ H Q h => by
  obtain ⟨R, F, A, e, Kp, rep, k, fin⟩ := h
  refine ⟨R, F, A, e, _, rep, k, fun s e1 v F1 A1 H1 k1 l1 p1 rep1 a1 => ?_⟩
  split at k1
  · rename_i ds hd
    obtain ⟨q, xs, rfl, q1, q2⟩ := rep1.pk a1 hd
    refine ⟨q, rfl, ⟨xs, q1⟩, fin _ _ _ _ _ _ _ k1 l1 p1 rep1 ⟨fun {R' F' A' σ' H' e'} i d hi l p rep' c => ?_, fun {R' F' A' σ' H' e'} l p rep' c => ?_⟩⟩
    · obtain ⟨q', ys, ev, r1, r2⟩ := seq_at rep1 a1 hd l p rep' c
      cases ev
      obtain ⟨u, hu, au⟩ := r2.get hi
      refine ⟨⟨ys, u, r1, hu⟩, fun x H3 y => ?_⟩
      obtain ⟨rfl, y⟩ := y
      have := y ys r1
      rw [hu] at this
      cases this
      exact ⟨F', Le.refl _, rep', au⟩
    · obtain ⟨q', ys, ev, r1, r2⟩ := seq_at rep1 a1 hd l p rep' c
      cases ev
      exact ⟨ys, r1, by rw [r2.len]; exact Nat.le_refl _⟩
  · exact k1.elim
theorem vi_tup (ha : VE X a ta) : VI X tg a (vTupI ta) := PI.imp (pi_tup ha) fun σ H Q h => by
  obtain ⟨R, F, A, e, Kp, rep, k, fin⟩ := h
  refine ⟨R, F, A, e, _, rep, k, fun s e1 v F1 A1 H1 k1 l1 p1 rep1 a1 => ?_⟩
  split at k1
  · rename_i ds hd
    obtain ⟨q, xs, rfl, q1, q2⟩ := (rep1.pk a1 hd).tup
    refine ⟨q, rfl, ⟨xs, sqT_le rep1.sub q1⟩, fin _ _ _ _ _ _ _ k1 l1 p1 rep1 ⟨fun {R' F' A' σ' H' e'} i d hi l p rep' c => ?_, fun {R' F' A' σ' H' e'} l p rep' c => ?_⟩⟩
    · obtain ⟨u, hu, au⟩ := q2.get hi
      have sq := sqT_le rep'.sub (sqT_le l q1)
      refine ⟨⟨xs, u, sq, hu⟩, fun x H3 y => ?_⟩
      obtain ⟨rfl, y⟩ := y
      have := y xs sq
      rw [hu] at this
      cases this
      exact ⟨F', Le.refl _, rep', At.le l _ _ au⟩
    · exact ⟨xs, sqT_le rep'.sub (sqT_le l q1), by rw [q2.len]; exact Nat.le_refl _⟩
  · exact k1.elim
def rng (lo : Int) (n : Nat) : List D := (List.range n).map fun i => PyData.int (lo + (i : Nat))
theorem rng_len (lo : Int) (n : Nat) : (rng lo n).length = n := by simp [rng]
theorem rng_get {lo : Int} {n i : Nat} {d : D} (h : (rng lo n)[i]? = some d) : i < n ∧ d = .int (lo + (i : Nat)) := by
  have hi := (List.getElem?_eq_some_iff.mp h).1
  rw [rng_len] at hi
  refine ⟨hi, ?_⟩
  unfold rng at h
  rw [List.getElem?_map, List.getElem?_range hi] at h
  simp at h
  exact h.symm
theorem it_rng {K : PySem.W.Frag} {F : Hp} {A : List Addr} {lo : Int} {n : Nat} : ItOk K F A none (rng lo n) (Itr lo n) :=
  ⟨fun {R' F' A' σ' H' e'} i d hi l p rep' c => by
    obtain ⟨h1, rfl⟩ := rng_get hi
    refine ⟨h1, fun x H3 y => ?_⟩
    obtain ⟨rfl, rfl⟩ := y
    exact ⟨F', Le.refl _, rep', .int _⟩,
   fun {R' F' A' σ' H' e'} l p rep' c => by
    show n ≤ (rng lo n).length
    rw [rng_len]
    exact Nat.le_refl _⟩
def vRng1 (t : VTA) : VTI := fun e Kp => t e fun ss e1 => match ss with
  | [s] => (match pk s e1 with
    | some (.int j) => -(2 ^ 62) ≤ j ∧ j < 2 ^ 62 ∧ Kp (rng 0 j.toNat) none e1
    | _ => False)
  | _ => False
def vRng2 (t : VTA) : VTI := fun e Kp => t e fun ss e1 => match ss with
  | [s, u] => (match pk s e1, pk u e1 with
    | some (.int i), some (.int j) => (-(2 ^ 62) ≤ i ∧ i < 2 ^ 62 ∧ -(2 ^ 62) ≤ j ∧ j < 2 ^ 62) ∧ Kp (rng i (j - i).toNat) none e1
    | _, _ => False)
  | _ => False
theorem vi_range1 {t : VTA} {p pos : Pos} (hg : Gl X "range") (hm : X.mg "range" = none) (ha : VA X [a] t) (hs : starEach [a] X.env = [(false, eval a X.env)] := by rfl) : VI X tg (.Call (.Name "range" p) [a] [] pos) (vRng1 t) := PI.imp (pi_range1 hg hm ha hs) fun σ H Q h => by
  obtain ⟨R, F, A, e, Kp, rep, k, fin⟩ := h
  refine ⟨R, F, A, e, _, rep, k, fun ss e1 vs F1 A1 H1 k1 l1 p1 rep1 a1 => ?_⟩
  split at k1
  · obtain ⟨x, rfl, a2⟩ := a1.one
    split at k1
    · rename_i j hj
      exact ⟨j, by rw [(rep1.pk a2 hj).int], k1.1, k1.2.1, fin _ _ _ _ _ _ _ k1.2.2 l1 p1 rep1 it_rng⟩
    · exact k1.elim
  · exact k1.elim
/-- pairs: a place and a thing; two things -/
def enumD : Nat → List D → List D
  | _, [] => []
  | k, d :: ds => .tuple [.int (k : Nat), d] :: enumD (k + 1) ds
def zipD : List D → List D → List D
  | d :: ds, c :: cs => .tuple [d, c] :: zipD ds cs
  | _, _ => []
def vEnum (t : VTA) : VTI := fun e Kp => t e fun ss e1 => match ss with
  | [s] => (match pk s e1 with
    | some (.list ds) => Kp (enumD 0 ds) (chkOf s ds) e1
    | _ => False)
  | _ => False
def both (c d : Option (En → Prop)) : Option (En → Prop) := match c, d with
  | none, x => x
  | x, none => x
  | some c, some d => some fun e => c e ∧ d e
def vZip (t : VTA) : VTI := fun e Kp => t e fun ss e1 => match ss with
  | [s, u] => (match pk s e1, pk u e1 with
    | some (.list ds), some (.list cs) => Kp (zipD ds cs) (both (chkOf s ds) (chkOf u cs)) e1
    | _, _ => False)
  | _ => False
end
end Vl
namespace Vl
open PySem L2
theorem wipe_not {σ : L2.St} {i : Nat} : ∀ {vs : List Nat}, i ∉ vs → (wipe σ vs)[i]? = σ[i]?
  | [], _ => rfl
  | v :: vs, h => by
    have h1 : v ≠ i := fun z => h (by simp [z])
    show ((wipe σ vs).set v none)[i]? = _
    rw [List.getElem?_set_ne h1]
    exact wipe_not fun z => h (List.mem_cons_of_mem _ z)
theorem wipe_is {σ : L2.St} {i : Nat} : ∀ {vs : List Nat}, i ∈ vs → i < σ.length → (wipe σ vs)[i]? = some none
  | [], h, _ => by cases h
  | v :: vs, h, hl => by
    show ((wipe σ vs).set v none)[i]? = _
    by_cases q : v = i
    · subst q
      rw [List.getElem?_set_self (by rw [wipe_length]; exact hl)]
    · rw [List.getElem?_set_ne q]
      refine wipe_is ?_ hl
      rcases List.mem_cons.mp h with z | z
      · exact absurd z.symm q
      · exact z
theorem wipe_off {ws vs : List Nat} {σ σ2 : L2.St} (o : Off ws (wipe σ vs) σ2) (hw : ∀ i ∈ ws, i ∈ vs) : wipe σ2 vs = wipe σ vs := by
  have hl : σ2.length = σ.length := by rw [o.1, wipe_length]
  refine List.ext_getElem? fun i => ?_
  by_cases q : i ∈ vs
  · rcases Nat.lt_or_ge i σ.length with h | h
    · rw [wipe_is q h, wipe_is q (by omega)]
    · rw [List.getElem?_eq_none (by rw [wipe_length]; omega), List.getElem?_eq_none (by rw [wipe_length]; omega)]
  · rw [wipe_not q]
    exact o.2 i fun z => q (hw i z)
def wipeE (sl : List (Option Sl)) : List Nat → List (Option Sl)
  | [] => sl
  | v :: vs => (wipeE sl vs).set v none
def En.wipe (e : En) (vs : List Nat) : En := ⟨wipeE e.sl vs, e.st⟩
theorem wipeE_len (sl : List (Option Sl)) : ∀ vs, (wipeE sl vs).length = sl.length
  | [] => rfl
  | v :: vs => by
    show ((wipeE sl vs).set v none).length = _
    rw [List.length_set, wipeE_len sl vs]
theorem wipeE_at {sl : List (Option Sl)} {i : Nat} {s : Sl} : ∀ {vs : List Nat}, (wipeE sl vs)[i]? = some (some s) → i ∉ vs ∧ sl[i]? = some (some s)
  | [], h => ⟨by simp, h⟩
  | v :: vs, h => by
    have h' : ((wipeE sl vs).set v none)[i]? = some (some s) := h
    by_cases q : v = i
    · subst q
      have hl : v < (wipeE sl vs).length := by
        have := (List.getElem?_eq_some_iff.mp h').1
        simpa using this
      rw [List.getElem?_set_self hl] at h'
      cases h'
    · rw [List.getElem?_set_ne q] at h'
      obtain ⟨h1, h2⟩ := wipeE_at h'
      exact ⟨fun z => by
        rcases List.mem_cons.mp z with z | z
        · exact q z.symm
        · exact h1 z, h2⟩
/-- no name of vs has a value -/
def Bare (vs : List Nat) (e : En) : Prop := ∀ (i : Nat) (s : Sl), e.sl[i]? = some (some s) → i ∉ vs
theorem bare_wipe (vs : List Nat) (e : En) : Bare vs (e.wipe vs) := fun i s h => (wipeE_at h).1
theorem bare_trim {vs : List Nat} {e : En} (b : Bare vs e) (n : Nat) : Bare vs (e.trim n) := fun i s h => by
  by_cases hmo : e.st.any isMo = true
  · unfold En.trim at h
    rw [if_pos hmo] at h
    exact b i s h
  have h' : (e.sl.map (clr (trimS n e.st).length))[i]? = some (some s) := by
    unfold En.trim at h
    rw [if_neg hmo] at h
    exact h
  rw [List.getElem?_map] at h'
  obtain ⟨t, ht, hs⟩ := Option.map_eq_some_iff.mp h'
  cases t with
  | none => cases hs
  | some t => exact b i t ht
section
variable {K : PySem.W.Frag} {R F : Hp} {A : List Addr} {σ : L2.St} {H : Hp} {e : En}
theorem Rep.wiped (r : Rep K R F A σ H e) (vs : List Nat) : Rep K R F A (wipe σ vs) H (e.wipe vs) := by
  refine r.weak (by rw [wipeE_len, wipe_length]; exact r.len) fun i s h => ?_
  obtain ⟨h1, h2⟩ := wipeE_at h
  obtain ⟨v, h3, h4⟩ := r.slot i s h2
  exact ⟨v, by rw [wipe_not h1]; exact h3, h4⟩
theorem Rep.wiped2 {ws vs : List Nat} {σ2 : L2.St} (r : Rep K R F A σ2 H e) (o : Off ws (wipe σ vs) σ2) (hw : ∀ i ∈ ws, i ∈ vs) : Rep K R F A (wipe σ vs) H (e.wipe vs) := by
  refine r.weak (by rw [wipeE_len, r.len, o.1]) fun i s h => ?_
  obtain ⟨h1, h2⟩ := wipeE_at h
  obtain ⟨v, h3, h4⟩ := r.slot i s h2
  exact ⟨v, by rw [← o.2 i fun z => h1 (hw i z)]; exact h3, h4⟩
theorem Rep.unwipe {vs : List Nat} (r : Rep K R F A (wipe σ vs) H e) (b : Bare vs e) : Rep K R F A σ H e := by
  refine r.weak (by rw [r.len, wipe_length]) fun i s h => ?_
  obtain ⟨v, h3, h4⟩ := r.slot i s h
  exact ⟨v, by rw [← wipe_not (b i s h)]; exact h3, h4⟩
/-- a new list that is kept -/
theorem Rep.hold (r : Rep K R F A σ H e) {p : Addr} (hp : H p = none) (o : HO) : Rep K (upd R p o) F A σ (upd H p o) e := by
  have hF : F p = none := r.sub.free hp
  have hA : p ∉ A := fun hm => by
    obtain ⟨u, hu⟩ := r.live p hm
    rw [hu] at hp
    cases hp
  have l2 := Le.new (o := o) hp
  refine ⟨r.sub.trans l2, fun b u z => ?_, fun a u z => ?_, r.len, r.lenA, r.nodup, fun a ha => ?_, r.slot, fun j ds z => ?_, r.tabs.hold hp⟩
  · by_cases q : b = p
    · subst q
      rw [upd_same] at z ⊢
      exact z
    · rw [upd_ne q] at z ⊢
      exact r.keep _ _ z
  · by_cases q : a = p
    · subst q
      exact ⟨hF, hA⟩
    · rw [upd_ne q] at z
      exact r.apart a u z
  · obtain ⟨u, hu⟩ := r.live a ha
    exact ⟨u, l2 _ _ hu⟩
  · obtain ⟨a, h1, h2, h3⟩ := r.store j ds z
    exact ⟨a, h1, h2, h3.le (Le.refl F) (pfx_refl A) fun u e => l2 _ _ e⟩
/-- what is kept is changed by its keeper -/
theorem Rep.rehold {p : Addr} {o o' : HO} (r : Rep K (upd R p o) F A σ H e) : Rep K (upd R p o') F A σ (upd H p o') e := by
  obtain ⟨hF, hA⟩ := r.apart p o upd_same
  refine ⟨fun b u z => ?_, fun b u z => ?_, fun a u z => ?_, r.len, r.lenA, r.nodup, fun a ha => ?_, r.slot, fun j ds z => ?_, r.tabs.rehold⟩
  · have q : b ≠ p := fun q => by
      rw [q, hF] at z
      cases z
    rw [upd_ne q]
    exact r.sub _ _ z
  · by_cases q : b = p
    · subst q
      rw [upd_same] at z ⊢
      exact z
    · rw [upd_ne q] at z ⊢
      exact r.keep b u (by rw [upd_ne q]; exact z)
  · by_cases q : a = p
    · subst q
      exact ⟨hF, hA⟩
    · rw [upd_ne q] at z
      exact r.apart a u (by rw [upd_ne q]; exact z)
  · have q : a ≠ p := fun q => hA (q ▸ ha)
    obtain ⟨u, hu⟩ := r.live a ha
    exact ⟨u, by rw [upd_ne q]; exact hu⟩
  · obtain ⟨a, h1, h2, h3⟩ := r.store j ds z
    have q : a ≠ p := fun q => hA (by rw [← q]; exact List.mem_of_getElem? h1)
    exact ⟨a, h1, h2, by rw [upd_ne q]; exact h3⟩
/-- what is kept stands still from now on -/
theorem Rep.give {p : Addr} {o : HO} (r : Rep K (upd R p o) F A σ H e) (hR : R p = none) : Rep K R (upd F p o) A σ H e ∧ Le F (upd F p o) := by
  obtain ⟨hF, hA⟩ := r.apart p o upd_same
  have l := Le.new (o := o) hF
  have kR : Le R (upd R p o) := Le.new hR
  refine ⟨⟨fun b u z => ?_, kR.trans r.keep, fun a u z => ?_, r.len, r.lenA, r.nodup, r.live, fun i s z => ?_, fun j ds z => ?_, r.tabs.give⟩, l⟩
  · by_cases q : b = p
    · subst q
      rw [upd_same] at z
      cases z
      exact r.keep _ _ upd_same
    · rw [upd_ne q] at z
      exact r.sub _ _ z
  · have q : a ≠ p := fun q => by
      rw [q, hR] at z
      cases z
    obtain ⟨h1, h2⟩ := r.apart a u (kR _ _ z)
    exact ⟨by rw [upd_ne q]; exact h1, h2⟩
  · obtain ⟨v, h1, h2⟩ := r.slot i s z
    exact ⟨v, h1, h2.le l (pfx_refl A)⟩
  · obtain ⟨a, h1, h2, h3⟩ := r.store j ds z
    have q : a ≠ p := fun q => hA (by rw [← q]; exact List.mem_of_getElem? h1)
    exact ⟨a, h1, by rw [upd_ne q]; exact h2, h3.le l (pfx_refl A) fun _ e => e⟩
/-- what is kept goes into the store -/
theorem Rep.giveOb {p : Addr} {o : HO} {ob : Ob} (r : Rep K (upd R p o) F A σ H e) (hR : R p = none) (hx : ObAt K F (A ++ [p]) (some o) ob) : Rep K R F (A ++ [p]) σ H ⟨e.sl, e.st ++ [some ob]⟩ ∧ A <+: A ++ [p] := by
  obtain ⟨hF, hA⟩ := r.apart p _ upd_same
  have hH : H p = some o := r.keep _ _ upd_same
  have kR : Le R (upd R p o) := Le.new hR
  have pf : A <+: A ++ [p] := ⟨[p], rfl⟩
  refine ⟨⟨r.sub, kR.trans r.keep, fun a u z => ⟨(r.apart a u (kR _ _ z)).1, fun hm => ?_⟩, r.len, ?_, ?_, fun a ha => ?_, fun i s z => ?_, fun j cs z => ?_, r.tabs.giveOb⟩, pf⟩
  · rcases List.mem_append.mp hm with hm | hm
    · exact (r.apart a u (kR _ _ z)).2 hm
    · rw [List.mem_singleton.mp hm, hR] at z
      cases z
  · simp [r.lenA]
  · rw [List.nodup_append]
    exact ⟨r.nodup, by simp, fun a ha b hb q => hA (by rw [List.mem_singleton.mp hb] at q; exact q ▸ ha)⟩
  · rcases List.mem_append.mp ha with ha | ha
    · exact r.live a ha
    · rw [List.mem_singleton.mp ha]
      exact ⟨_, hH⟩
  · obtain ⟨v, h1, h2⟩ := r.slot i s z
    exact ⟨v, h1, h2.le (Le.refl F) pf⟩
  · have z' : (e.st ++ [some ob])[j]? = some (some cs) := z
    by_cases hj : j < e.st.length
    · rw [List.getElem?_append_left hj] at z'
      obtain ⟨a, h1, h2, h3⟩ := r.store j cs z'
      exact ⟨a, pfx_get pf h1, h2, h3.le (Le.refl F) pf fun _ e => e⟩
    · rw [List.getElem?_append_right (by omega)] at z'
      have hj0 : j - e.st.length = 0 := by
        rcases Nat.eq_zero_or_pos (j - e.st.length) with q | q
        · exact q
        · rw [List.getElem?_eq_none (by simp; omega)] at z'
          cases z'
      rw [hj0] at z'
      simp at z'
      subst z'
      refine ⟨p, ?_, hF, by rw [hH]; exact hx⟩
      rw [List.getElem?_append_right (by rw [← r.lenA]; omega), ← r.lenA, hj0] <;> rfl
end
/-- the turns of a comprehension: what is left, what is made -/
def cl (g : VTG) (tt : VTT) (te : VTE) (chk : Option (En → Prop)) (vs : List Nat) (n : Nat) : List D → List D → En → (List D → En → Prop) → Prop
  | [], acc, e, Kp => wth chk e (Kp acc e)
  | d :: ds, acc, e, Kp => wth chk e (g (.val d) e fun e1 => tt e1 fun b e2 => if b = true then te e2 fun s e3 => asD s e3 fun y e4 => acc.length < sizeLine ∧ cl g tt te chk vs n ds (acc ++ [y]) ((e4.wipe vs).trim n) Kp
      else cl g tt te chk vs n ds acc ((e2.wipe vs).trim n) Kp)
def vLcK (w : VTI) (g : VTG) (tt : VTT) (te : VTE) (vs : List Nat) (fin : List D → En → KE → Prop) : VTE := fun e Kp => w e fun ds chk e1 => cl g tt te chk vs e1.st.length ds [] (e1.wipe vs) fun acc e2 => fin acc e2 Kp
def finD (acc : List D) (e : En) (Kp : KE) : Prop := Kp (.val (.list acc)) e
def finO (acc : List D) (e : En) (Kp : KE) : Prop := Kp (.obj e.st.length) ⟨e.sl, e.st ++ [some (.l acc)]⟩
def VTs (X : Cx) (ifs : List Expr) (t : VTT) : Prop := PTs X ifs (liftT X.K t)
def vYes : VTT := fun e Kp => Kp true e
theorem PTs.imp {X : Cx} {ex : List Expr} {t t' : TT} (h : PTs X ex t) (f : ∀ σ H Q, t' σ H Q → t σ H Q) : PTs X ex t' := ⟨fun pins s σ H Q I q => h.run pins s σ H Q I (f σ H Q q)⟩
theorem vts_nil {X : Cx} : VTs X [] vYes := PTs.imp pts_nil fun σ H Q h => by
  obtain ⟨R, F, A, e, Kp, rep, k, fin⟩ := h
  exact fin true e F A H k (Le.refl F) (pfx_refl A) rep
theorem vts_one {X : Cx} {c : Expr} {t : VTT} (h : VT X c t) : VTs X [c] t := pts_one h
def FinL (K : PySem.W.Frag) (f : List D → En → KE → Prop) : Prop := ∀ {R F : Hp} {A : List Addr} {σ : L2.St} {H : Hp} {e : En} {p : Addr} {xs : List V} {acc : List D} {Kp : KE} {Q : VK}, Rep K (upd R p (.lst xs)) F A σ H e → R p = none → AtL K F acc xs → f acc e Kp → Fin K R F A σ Kp Q → Q (.ref p) H
theorem finD_ok {K : PySem.W.Frag} : FinL K finD := by
  intro R F A σ H e p xs acc Kp Q rep hR hx k fin
  obtain ⟨r2, l⟩ := rep.give hR
  exact (fin.tr l (pfx_refl A)).val r2 k (.lst upd_same (AtL.le l _ _ hx))
theorem lift_lc {K : PySem.W.Frag} {w : VTI} {g : VTG} {ws : List Nat} {tt : VTT} {te : VTE} {vs : List Nat} {f : List D → En → KE → Prop} (hf : FinL K f) (hw : ∀ i ∈ ws, i ∈ vs) (σ : L2.St) (H : Hp) (Q : VK) (h : liftE K (vLcK w g tt te vs f) σ H Q) :
    tLc (liftI K w) (liftG K ws g) (liftT K tt) (liftE K te) vs σ H Q := by
  obtain ⟨R, F, A, e, Kp, rep, k, fin⟩ := h
  refine ⟨R, F, A, e, _, rep, k, fun ds chk e1 F1 A1 H1 J k1 l1 p1 rep1 it => fun Dd hD => ?_⟩
  have hR : R Dd = none := rep1.keep.free hD
  refine ⟨fun i m H' => ∃ F' A' e' acc accV, m = ds.length - i ∧ i ≤ ds.length ∧ Le F1 F' ∧ A1 <+: A' ∧ Rep K (upd R Dd (.lst accV)) F' A' (wipe σ vs) H' e' ∧ Bare vs e' ∧ AtL K F' acc accV ∧ cl g tt te chk vs e1.st.length (ds.drop i) acc e' (fun acc e2 => f acc e2 Kp),
    ⟨_, F1, A1, e1.wipe vs, [], [], rfl, Nat.zero_le _, Le.refl _, pfx_refl _, (rep1.wiped vs).hold hD _, bare_wipe vs e1, .nil, k1⟩, ?_⟩
  rintro i m H' ⟨F', A', e', acc, accV, rfl, hi, l, p, rep', bare, hx, k⟩
  rcases Nat.lt_or_ge i ds.length with hlt | hge
  · right
    obtain ⟨d, hd⟩ : ∃ d, ds[i]? = some d := ⟨ds[i], by simp [hlt]⟩
    have hdr : ds.drop i = d :: ds.drop (i + 1) := by
      rw [List.drop_eq_getElem_cons hlt]
      rw [List.getElem?_eq_getElem hlt] at hd
      cases hd
      rfl
    rw [hdr] at k
    obtain ⟨kc, k⟩ := wth_ok k
    obtain ⟨g1, g2⟩ := it.go i d hd l p rep' kc
    refine ⟨g1, fun H2 => ∃ F' A' e' acc accV, ds.length - (i + 1) = ds.length - (i + 1) ∧ i + 1 ≤ ds.length ∧ Le F1 F' ∧ A1 <+: A' ∧ Rep K (upd R Dd (.lst accV)) F' A' (wipe σ vs) H2 e' ∧ Bare vs e' ∧ AtL K F' acc accV ∧ cl g tt te chk vs e1.st.length (ds.drop (i + 1)) acc e' (fun acc e2 => f acc e2 Kp),
      fun H2 q => ⟨ds.length - (i + 1), by omega, q⟩, fun x H3 y => ?_⟩
    obtain ⟨F3, l3, rep3, a3⟩ := g2 x H3 y
    refine ⟨_, F3, A', e', .val d, _, rep3, a3, k, fun e2 σ2 F2 A2 H2 k2 l2 p2 o2 rep2 => ⟨wipe_off o2 hw, _, F2, A2, e2, _, rep2, k2, fun b e3 F4 A4 H4 k4 l4 p4 rep4 => ?_⟩⟩
    have lf := ((l.trans l3).trans l2).trans l4
    have pf := (p.trans p2).trans p4
    cases b with
    | false =>
      have k4' : cl g tt te chk vs e1.st.length (ds.drop (i + 1)) acc ((e3.wipe vs).trim e1.st.length) (fun acc e2 => f acc e2 Kp) := k4
      obtain ⟨A5, p5, rep5⟩ := (rep4.wiped2 o2 hw).trim (A1 := A1) (n := e1.st.length) pf rep1.lenA.symm
      exact ⟨F4, A5, _, acc, accV, rfl, hlt, lf, p5, rep5, bare_trim (bare_wipe vs e3) _, AtL.le ((l3.trans l2).trans l4) _ _ hx, k4'⟩
    | true =>
      refine ⟨_, F4, A4, e3, _, rep4, k4, fun s e5 y5 F5 A5 H5 k5 l5 p5 rep5 a5 => ?_⟩
      obtain ⟨d', e6, F6, ⟨hl, k6⟩, rep6, l6, a6⟩ := rep5.asD a5 k5
      have lx := (((l3.trans l2).trans l4).trans l5).trans l6
      refine ⟨accV, rep6.keep _ _ upd_same, by rw [hx.len]; exact hl, ?_⟩
      obtain ⟨A7, p7, rep7⟩ := (rep6.wiped2 o2 hw).trim (A1 := A1) (n := e1.st.length) (pf.trans p5) rep1.lenA.symm
      exact ⟨F6, A7, _, acc ++ [d'], accV ++ [y5], rfl, hlt, l.trans lx, p7, rep7.rehold, bare_trim (bare_wipe vs e6) _, (AtL.le lx _ _ hx).app (AtL.one a6), k6⟩
  · left
    have e0 : i = ds.length := by omega
    subst e0
    rw [List.drop_length] at k
    obtain ⟨kc, k⟩ := wth_ok k
    refine ⟨it.stop l p rep' kc, ?_⟩
    exact hf (rep'.unwipe bare) hR hx k (fin.tr (l1.trans l) (p1.trans p))
section
variable {X : Cx} {elt tg iter : Expr} {ifs : List Expr} {scope : Scope} {own : List (Str × Nat)} {pos : Pos} {w : VTI} {g : VTG} {ws : List Nat} {tt : VTT} {te : VTE} {f : List D → En → KE → Prop}
theorem ve_lcK (hf : FinL X.K f) (hc : X.calm = true) (hN : X.N.Nodup) (hi : VI X tg iter w) (ok : BlkOk X.N X.env.scope scope own) (hw : ∀ i ∈ ws, i ∈ own.map (·.2))
    (hg : ∀ (s : Shared) (H : Hp) (C : Addr) (cl : List (Str × Addr)) (fp : List Addr), VG (X.blk s H scope (compEnvC scope cl C X.env) fp) tg ws g) (ht : ∀ (s : Shared) (H : Hp) (C : Addr) (cl : List (Str × Addr)) (fp : List Addr), VTs (X.blk s H scope (compEnvC scope cl C X.env) fp) ifs tt)
    (he : ∀ (s : Shared) (H : Hp) (C : Addr) (cl : List (Str × Addr)) (fp : List Addr), VE (X.blk s H scope (compEnvC scope cl C X.env) fp) elt te) (hs : ∀ x, foldedSetIterable iter X.env x = pure x := by intro _; rfl) :
    VE X (.ListComp elt [⟨tg, iter, ifs, 0⟩] scope pos) (vLcK w g tt te (own.map (·.2)) f) := PE.imp (pe_lc (g := liftG X.K ws g) (tt := liftT X.K tt) (te := liftE X.K te) hc hN hi ok hg ht he hs) fun σ H Q h => lift_lc hf hw σ H Q h
theorem vs_setLcK {i : Nat} {y : Str} {py spos : Pos} (hf : FinL X.K f) (hc : X.calm = true) (hN : X.N.Nodup) (hy : X.N[i]? = some y) (hyl : X.env.scope.names.lookup y = some .local)
    (hsw : swapsWith (.ListComp elt [⟨tg, iter, ifs, 0⟩] scope pos) (some (.Name y py)) spos.line X.env = pure true) (hi : VI X tg iter w) (ok : BlkOk X.N X.env.scope scope own) (hw : ∀ i ∈ ws, i ∈ own.map (·.2))
    (hg : ∀ (s : Shared) (H : Hp) (C : Addr) (cl : List (Str × Addr)) (fp : List Addr), VG (X.blk s H scope (compEnvC scope cl C X.env) fp) tg ws g) (ht : ∀ (s : Shared) (H : Hp) (C : Addr) (cl : List (Str × Addr)) (fp : List Addr), VTs (X.blk s H scope (compEnvC scope cl C X.env) fp) ifs tt)
    (he : ∀ (s : Shared) (H : Hp) (C : Addr) (cl : List (Str × Addr)) (fp : List Addr), VE (X.blk s H scope (compEnvC scope cl C X.env) fp) elt te) (hs : ∀ x, foldedSetIterable iter X.env x = pure x := by intro _; rfl) :
    VS X (.Assign [.Name y py] (.ListComp elt [⟨tg, iter, ifs, 0⟩] scope pos) spos) (vSet i (vLcK w g tt te (own.map (·.2)) f)) := PS.imp (ps_setLc (g := liftG X.K ws g) (tt := liftT X.K tt) (te := liftE X.K te) hc hN hy hyl hsw hi ok hg ht he hs) fun D σ H h => lift_set D σ H (fun Q q => lift_lc hf hw σ H Q q) h
end
end Vl
namespace Vl
open PySem L2 PySem.Spec PyProof.Rows
abbrev VSp := List Sl → List Ob → (Sl → List Ob → Prop) → Prop
def spV (K : PySem.W.Frag) (p : VSp) : Sp := fun vs H Q _ => ∃ R F A ss st Kp, Rep K R F A (vs.map some) H ⟨ss.map some, st.map some⟩ ∧ p ss st Kp ∧
  ∀ s st' v F' A' H', Kp s st' → Le F F' → A <+: A' → Rep K R F' A' [some v] H' ⟨[some s], st'.map some⟩ → Q v H'
def mob : Ob → Bool
  | .mo _ => true
  | .lk _ _ _ => true
  | .sq _ _ => true
  | _ => false
def takeS : Nat → List (Option Ob) → Option (List Ob)
  | 0, _ => some []
  | n + 1, some ob :: r => if mob ob = true then none else (takeS n r).map (ob :: ·)
  | _ + 1, _ => none
def ret (n : Nat) (s : Sl) (e : En) (Kp : Sl → List Ob → Prop) : Prop := match takeS n e.st with
  | none => False
  | some st' => match s with
    | .val d => Kp (.val d) st'
    | .kn ds => Kp (.kn ds) st'
    | .exc _ => False
    | .obj j => if j < n then False else match e.st[j]? with
      | some (some ob) => if mob ob = true then False else Kp (.obj n) (st' ++ [ob])
      | _ => False
theorem takeS_step {n : Nat} {ob : Ob} {r : List (Option Ob)} {cs : List Ob} (h : takeS (n + 1) (some ob :: r) = some cs) : mob ob = false ∧ ∃ c, takeS n r = some c ∧ cs = ob :: c := by
  have h' : (if mob ob = true then none else (takeS n r).map (ob :: ·)) = some cs := h
  split at h'
  · cases h'
  · rename_i q
    obtain ⟨c, hc, rfl⟩ := Option.map_eq_some_iff.mp h'
    exact ⟨by simpa using q, c, hc, rfl⟩
theorem takeS_len : ∀ {n : Nat} {st : List (Option Ob)} {cs : List Ob}, takeS n st = some cs → cs.length = n
  | 0, _, _, h => by
    cases h
    rfl
  | n + 1, some ds :: r, cs, h => by
    obtain ⟨_, c, hc, rfl⟩ := takeS_step h
    rw [List.length_cons, takeS_len hc]
  | _ + 1, [], _, h => by cases h
  | _ + 1, none :: _, _, h => by cases h
theorem takeS_at : ∀ {n : Nat} {st : List (Option Ob)} {cs : List Ob} {j : Nat} {ds : Ob}, takeS n st = some cs → cs[j]? = some ds → st[j]? = some (some ds) ∧ mob ds = false
  | 0, _, _, _, _, h, g => by
    cases h
    simp at g
  | n + 1, some c :: r, cs, j, ds, h, g => by
    obtain ⟨q, b, hb, rfl⟩ := takeS_step h
    cases j with
    | zero =>
      simp at g
      subst g
      exact ⟨rfl, q⟩
    | succ j => exact takeS_at (j := j) hb (by simpa using g)
  | _ + 1, [], _, _, _, h, _ => by cases h
  | _ + 1, none :: _, _, _, _, h, _ => by cases h
theorem ObAt.noM {K : PySem.W.Frag} {F : Hp} {A B : List Addr} {h : Option HO} : ∀ {ob : Ob}, mob ob = false → ObAt K F A h ob → ObAt K F B h ob
  | .l _, _, x => x
  | .m _, _, x => x
  | .mo _, n, _ => by cases n
  | .lk _ _ _, n, _ => by cases n
  | .sq _ _, n, _ => by cases n
section
variable {K : PySem.W.Frag} {R F : Hp} {A : List Addr} {σ : L2.St} {H : Hp} {e : En}
/-- a def ends: what it gives back, and the lists that were handed in -/
theorem ret_ok {F0 : Hp} {A0 : List Addr} {n : Nat} {s : Sl} {v : V} {Kp : Sl → List Ob → Prop} {Q : VK} (rep : Rep K R F A σ H e) (a : SlAt K F A v s) (hn : A0.length = n) (l : Le F0 F) (p : A0 <+: A) (k : ret n s e Kp)
    (fin : ∀ s st' v F' A' H', Kp s st' → Le F0 F' → A0 <+: A' → Rep K R F' A' [some v] H' ⟨[some s], st'.map some⟩ → Q v H') : Q v H := by
  unfold ret at k
  split at k
  · exact k.elim
  · rename_i st' hst
    have hl := takeS_len hst
    have hA0 : ∀ {j : Nat}, j < n → A0[j]? = A[j]? := fun {j} hj => by
      obtain ⟨t, rfl⟩ := p
      rw [List.getElem?_append_left (by omega)]
    have slo : ∀ (A' : List Addr) (t : Sl), SlAt K F A' v t → ∀ (i : Nat) (u : Sl), ([some t] : List (Option Sl))[i]? = some (some u) → ∃ w, ([some v] : L2.St)[i]? = some (some w) ∧ SlAt K F A' w u := fun A' t ha i u hu => by
      cases i with
      | zero =>
        have hu' : some (some t) = some (some u) := hu
        cases hu'
        exact ⟨v, rfl, ha⟩
      | succ i => simp at hu
    have sto : ∀ (j : Nat) (ds : Ob), (st'.map some)[j]? = some (some ds) → ∃ b, A0[j]? = some b ∧ F b = none ∧ ObAt K F A0 (H b) ds ∧ mob ds = false := fun j ds hj => by
      rw [List.getElem?_map] at hj
      obtain ⟨c, hc, ec⟩ := Option.map_eq_some_iff.mp hj
      cases ec
      obtain ⟨hs, hm⟩ := takeS_at hst hc
      obtain ⟨b, h1, h2, h3⟩ := rep.store j _ hs
      have hjn : j < n := by
        have := (List.getElem?_eq_some_iff.mp hc).1
        omega
      exact ⟨b, by rw [hA0 hjn]; exact h1, h2, h3.noM hm, hm⟩
    have mem : ∀ a ∈ A0, a ∈ A := fun a ha => p.subset ha
    have base : ∀ t, SlAt K F A0 v t → Rep K R F A0 [some v] H ⟨[some t], st'.map some⟩ := fun t ha =>
      ⟨rep.sub, rep.keep, fun a o z => ⟨(rep.apart a o z).1, fun hm => (rep.apart a o z).2 (mem a hm)⟩, rfl, by simp [hl, hn], p.sublist.nodup rep.nodup, fun a ha => rep.live a (mem a ha), slo A0 t ha, fun j ds hj => by
        obtain ⟨b, h1, h2, h3, _⟩ := sto j ds hj
        exact ⟨b, h1, h2, h3⟩, rep.tabs.sub mem⟩
    cases s with
    | val d => exact fin (.val d) st' v F A0 H k l (pfx_refl A0) (base _ a)
    | kn ds => exact fin (.kn ds) st' v F A0 H k l (pfx_refl A0) (base _ a)
    | exc d => exact k.elim
    | obj j =>
      replace k : (if j < n then False else match e.st[j]? with | some (some ob) => if mob ob = true then False else Kp (.obj n) (st' ++ [ob]) | _ => False) := k
      split at k
      · exact k.elim
      · rename_i hj
        split at k
        · rename_i ob hd
          split at k
          · exact k.elim
          rename_i hmo
          have hmo' : mob ob = false := by simpa using hmo
          obtain ⟨b, e1, e2⟩ := a
          obtain ⟨b', h1, h2, h3⟩ := rep.store j ob hd
          rw [e1] at h1
          cases h1
          have hb : b ∉ A0 := fun hm => by
            obtain ⟨i, hi, ei⟩ := List.getElem_of_mem hm
            have e3 : A[i]? = some b := by
              rw [← hA0 (by omega)]
              rw [List.getElem?_eq_getElem hi, ei]
            have := nodup_at rep.nodup e3 e1
            omega
          have hbA : b ∈ A := List.mem_of_getElem? e1
          refine fin (.obj n) (st' ++ [ob]) v F (A0 ++ [b]) H k l ⟨[b], rfl⟩ ⟨rep.sub, rep.keep, fun a o z => ⟨(rep.apart a o z).1, fun hm => ?_⟩, rfl, by simp [hl, hn], ?_, fun a ha => ?_, slo (A0 ++ [b]) (.obj n) ⟨b, ?_, e2⟩, fun i cs z => ?_, rep.tabs.sub fun a ha => by
            rcases List.mem_append.mp ha with z | z
            · exact mem a z
            · exact List.mem_singleton.mp z ▸ hbA⟩
          · rcases List.mem_append.mp hm with hm | hm
            · exact (rep.apart a o z).2 (mem a hm)
            · rw [List.mem_singleton.mp hm] at z
              exact (rep.apart b o z).2 hbA
          · rw [List.nodup_append]
            exact ⟨p.sublist.nodup rep.nodup, by simp, fun a ha c hc q => hb (by rw [List.mem_singleton.mp hc] at q; exact q ▸ ha)⟩
          · rcases List.mem_append.mp ha with hm | hm
            · exact rep.live a (mem a hm)
            · rw [List.mem_singleton.mp hm]
              exact rep.live b hbA
          · rw [List.getElem?_append_right (by omega), hn, Nat.sub_self] <;> rfl
          · have z' : ((st' ++ [ob]).map some)[i]? = some (some cs) := z
            rw [List.map_append] at z'
            by_cases hi : i < st'.length
            · rw [List.getElem?_append_left (by rw [List.length_map]; exact hi)] at z'
              obtain ⟨c, q1, q2, q3, q4⟩ := sto i cs z'
              exact ⟨c, by rw [List.getElem?_append_left (by omega)]; exact q1, q2, q3.noM q4⟩
            · rw [List.getElem?_append_right (by rw [List.length_map]; omega), List.length_map] at z'
              have hi0 : i - st'.length = 0 := by
                rcases Nat.eq_zero_or_pos (i - st'.length) with q | q
                · exact q
                · rw [List.getElem?_eq_none (by simp; omega)] at z'
                  cases z'
              rw [hi0] at z'
              simp at z'
              subst z'
              refine ⟨b, ?_, h2, h3.noM hmo'⟩
              rw [List.getElem?_append_right (by omega), show i - A0.length = 0 from by omega] <;> rfl
        · exact k.elim
end
/-- the names at a def's entry -/
def startV (n : Nat) (ss : List Sl) : List (Option Sl) := ss.map some ++ List.replicate (n - ss.length) none
section
variable {P : Program} {w : World} {K : PySem.W.Frag} {mg : Str → Option Value} {base : Heap}
theorem okV {x qual : Str} {st : Stmt} {f : Addr} {fd : FuncData} {N ps : List Str} {k : Nat} {p : VSp} (F : Fun K x qual st f fd) (S : FnScope N ps (defScope st)) (len : ∀ ss st Kp, p ss st Kp → ss.length = ps.length)
    (hbody : ∀ (cdv : Value) (A : Around) (outer : List Env) (s : Shared) (H : Hp) (E : XK), Room k (A.deeper (envOfC qual (defScope st) s.heap.objs.size f cdv)) →
      ∃ t, VSs (cxOf CX0 P w K mg base N qual (defScope st) f cdv A outer s H E).nox (defBody st) t ∧
        ∀ ss cs Kp, p ss cs Kp → t { nx := fun e => ret cs.length (.val .none) e Kp, rt := fun s e => ret cs.length s e Kp } ⟨startV N.length ss, cs.map some⟩) : FnOk P w K mg base CX0 (k + 1) f fd ps (spV K p) := by
  have lenV : ∀ vs H Q E, spV K p vs H Q E → vs.length = ps.length := fun vs H Q E h => by
    obtain ⟨R, F, A, ss, st, Kp, rep, hp, _⟩ := h
    have := rep.len
    simp at this
    rw [← this]
    exact len _ _ _ hp
  refine F.ok S lenV fun cdv A outer s H vs Q E hr h => ?_
  obtain ⟨t, ht, hb⟩ := hbody cdv A outer s H E hr
  obtain ⟨R, F0, A0, ss, cs, Kp, rep, hp, fin⟩ := h
  have hl := rep.len
  simp at hl
  refine ⟨_, ht, R, F0, A0, ⟨startV N.length ss, cs.map some⟩, { nx := fun e => ret cs.length (.val .none) e Kp, rt := fun s e => ret cs.length s e Kp }, ?_, hb ss cs Kp hp, ?_⟩
  · refine rep.weak ?_ fun i u hu => ?_
    · show (ss.map some ++ List.replicate (N.length - ss.length) none).length = (vs.map some ++ List.replicate (N.length - vs.length) none).length
      simp only [List.length_append, List.length_map, List.length_replicate, hl]
    · replace hu : (ss.map some ++ List.replicate (N.length - ss.length) none)[i]? = some (some u) := hu
      rcases Nat.lt_or_ge i (ss.map some).length with hi | hi
      · rw [List.getElem?_append_left hi] at hu
        obtain ⟨v, h1, h2⟩ := rep.slot i u hu
        refine ⟨v, ?_, h2⟩
        show (vs.map some ++ List.replicate (N.length - vs.length) none)[i]? = _
        rw [List.getElem?_append_left (by rw [List.length_map] at hi ⊢; omega)]
        exact h1
      · rw [List.getElem?_append_right hi] at hu
        have := List.mem_of_getElem? hu
        have := (List.mem_replicate.mp this).2
        cases this
  · have hn : A0.length = cs.length := by
      have := rep.lenA
      simp at this
      exact this.symm
    exact ⟨fun e' σ' F' A' H' k l p r => ret_ok r (s := .val .none) (v := .non) .non hn l p k fin, fun _ _ _ _ _ k => k.elim, fun _ _ _ _ _ k => k.elim, fun s e' v σ' F' A' H' k l p r a => ret_ok r a hn l p k fin, FinX.no⟩
end
def objs : List Sl → List Nat
  | [] => []
  | .obj j :: r => j :: objs r
  | .val _ :: r => objs r
  | .kn _ :: r => objs r
  | .exc _ :: r => objs r
def renum : Nat → List Sl → List Sl
  | _, [] => []
  | k, .obj _ :: r => .obj k :: renum (k + 1) r
  | k, .val d :: r => .val d :: renum k r
  | k, .kn ds :: r => .kn ds :: renum k r
  | k, .exc a :: r => .exc a :: renum k r
def uniq : List Nat → Bool
  | [] => true
  | j :: r => r.all (fun i => !(i == j)) && uniq r
def getS : List Nat → List (Option Ob) → Option (List Ob)
  | [], _ => some []
  | j :: r, st => match st[j]? with
    | some (some ob) => if mob ob = true then none else (getS r st).map (ob :: ·)
    | _ => none
def putS : List Nat → List Ob → List (Option Ob) → List (Option Ob)
  | j :: r, c :: cs, st => (putS r cs st).set j (some c)
  | _, _, st => st
/-- a call: what the callee may change are the lists of the store that are handed in -/
def opCallK (own : Ob → En → KE → Prop) (p : VSp) (ss : List Sl) (e : En) (Kp : KE) : Prop := match uniq (objs ss), getS (objs ss) e.st with
  | true, some cs => p (renum 0 ss) cs fun s cs' => if cs'.any mob = true then False else match s with
    | .val d => Kp (.val d) ⟨e.sl, putS (objs ss) cs' e.st⟩
    | .kn ds => Kp (.kn ds) ⟨e.sl, putS (objs ss) cs' e.st⟩
    | .exc _ => False
    | .obj j => if j < (objs ss).length then False else match cs'[j]? with
      | some ob => own ob ⟨e.sl, putS (objs ss) cs' e.st⟩ Kp
      | none => False
  | _, _ => False
theorem uniq_nodup : ∀ {js : List Nat}, uniq js = true → js.Nodup
  | [], _ => List.nodup_nil
  | j :: r, h => by
    have h' : (r.all (fun i => !(i == j)) && uniq r) = true := h
    rw [Bool.and_eq_true, List.all_eq_true] at h'
    rw [List.nodup_cons]
    refine ⟨fun hm => ?_, uniq_nodup h'.2⟩
    have := h'.1 j hm
    simp at this
theorem getS_at : ∀ {js : List Nat} {st : List (Option Ob)} {cs : List Ob}, getS js st = some cs → cs.length = js.length ∧ ∀ (k : Nat) (j : Nat), js[k]? = some j → ∃ ds, cs[k]? = some ds ∧ st[j]? = some (some ds) ∧ mob ds = false
  | [], _, _, h => by
    cases h
    exact ⟨rfl, fun k j hj => by simp at hj⟩
  | j :: r, st, cs, h => by
    unfold getS at h
    split at h
    · rename_i ds hd
      split at h
      · cases h
      rename_i hmo
      obtain ⟨c, hc, rfl⟩ := Option.map_eq_some_iff.mp h
      obtain ⟨h1, h2⟩ := getS_at hc
      refine ⟨by simp [h1], fun k i hi => ?_⟩
      cases k with
      | zero =>
        simp at hi
        subst hi
        exact ⟨ds, rfl, hd, by simpa using hmo⟩
      | succ k => exact h2 k i (by simpa using hi)
    · cases h
theorem putS_len : ∀ (js : List Nat) (cs : List Ob) (st : List (Option Ob)), (putS js cs st).length = st.length
  | [], _, _ => by simp [putS]
  | _ :: _, [], _ => by simp [putS]
  | j :: r, c :: cs, st => by
    show ((putS r cs st).set j (some c)).length = _
    rw [List.length_set, putS_len r cs st]
theorem putS_at : ∀ {js : List Nat} {cs : List Ob} {st : List (Option Ob)} {i : Nat} {o : Option Ob}, (putS js cs st)[i]? = some o → js.Nodup → (∃ (k : Nat) (c : Ob), js[k]? = some i ∧ cs[k]? = some c ∧ o = some c) ∨ ((∀ k : Nat, js[k]? = some i → cs[k]? = none) ∧ st[i]? = some o)
  | [], _, _, _, _, h, _ => .inr ⟨fun k hk => by simp at hk, by simpa [putS] using h⟩
  | _ :: _, [], _, _, _, h, _ => .inr ⟨fun k _ => by simp, by simpa [putS] using h⟩
  | j :: r, c :: cs, st, i, o, h, nd => by
    have h' : ((putS r cs st).set j (some c))[i]? = some o := h
    obtain ⟨n1, n2⟩ := List.nodup_cons.mp nd
    by_cases q : j = i
    · subst q
      have hl : j < (putS r cs st).length := by
        have := (List.getElem?_eq_some_iff.mp h').1
        simpa using this
      rw [List.getElem?_set_self hl] at h'
      cases h'
      exact .inl ⟨0, c, rfl, rfl, rfl⟩
    · rw [List.getElem?_set_ne q] at h'
      rcases putS_at h' n2 with ⟨k, c', h1, h2, h3⟩ | ⟨h1, h2⟩
      · exact .inl ⟨k + 1, c', by simpa using h1, by simpa using h2, h3⟩
      · refine .inr ⟨fun k hk => ?_, h2⟩
        cases k with
        | zero =>
          simp at hk
          exact absurd hk q
        | succ k =>
          have := h1 k (by simpa using hk)
          simpa using this
theorem renum_at {K : PySem.W.Frag} {F : Hp} {A Ap : List Addr} : ∀ {ss : List Sl} {vs : List V} {k : Nat}, SlAts K F A vs ss → (∀ m j, (objs ss)[m]? = some j → ∀ a, A[j]? = some a → Ap[k + m]? = some a) → SlAts K F Ap vs (renum k ss)
  | [], _, _, h, _ => by
    cases h
    exact .nil
  | .val d :: r, _, k, h, g => by
    cases h with
    | cons h1 h2 => exact .cons (s := .val d) h1 (renum_at h2 g)
  | .kn d :: r, _, k, h, g => by
    cases h with
    | cons h1 h2 => exact .cons (s := .kn d) h1 (renum_at h2 g)
  | .exc d :: r, _, k, h, g => by
    cases h with
    | cons h1 h2 => exact .cons (s := .exc d) h1 (renum_at h2 g)
  | .obj j :: r, _, k, h, g => by
    cases h with
    | cons h1 h2 =>
      obtain ⟨a, e1, e2⟩ := h1
      refine .cons (s := .obj k) ⟨a, g 0 j rfl a e1, e2⟩ (renum_at h2 fun m i hm b hb => ?_)
      have := g (m + 1) i (by simpa [objs] using hm) b hb
      rw [show k + 1 + m = k + (m + 1) from by omega]
      exact this
theorem slAts_get {K : PySem.W.Frag} {F : Hp} {A : List Addr} {vs : List V} {ss : List Sl} (h : SlAts K F A vs ss) : ∀ {i : Nat} {s : Sl}, ss[i]? = some s → ∃ v, vs[i]? = some v ∧ SlAt K F A v s := by
  induction h with
  | nil =>
    intro i s hs
    simp at hs
  | cons h1 h2 ih =>
    intro i s hs
    cases i with
    | zero =>
      simp at hs
      subst hs
      exact ⟨_, rfl, h1⟩
    | succ i => exact ih (by simpa using hs)
/-- how a new list of the callee's is taken -/
def ownO (ob : Ob) (e : En) (Kp : KE) : Prop := Kp (.obj e.st.length) ⟨e.sl, e.st ++ [some ob]⟩
def ownD (ob : Ob) (e : En) (Kp : KE) : Prop := match ob with
  | .l ds => Kp (.val (.list ds)) e
  | _ => False
def FinW (K : PySem.W.Frag) (own : Ob → En → KE → Prop) : Prop := ∀ {R F : Hp} {A : List Addr} {σ : L2.St} {H : Hp} {e : En} {b : Addr} {o : HO} {ob : Ob} {Kp : KE} {Q : VK}, Rep K R F A σ H e → F b = none → R b = none → b ∉ A → H b = some o → ObAt K F A (some o) ob → mob ob = false → own ob e Kp → Fin K R F A σ Kp Q → Q (.ref b) H
theorem ObAt.noTbl {K : PySem.W.Frag} {F : Hp} {A : List Addr} {o : HO} {ob : Ob} (h : ObAt K F A (Option.some o) ob) (ps : Array Value) : o ≠ .tbl ps := fun e => by
  subst e
  cases ob with
  | sq t ss =>
    obtain ⟨xs, e, _⟩ := h
    cases t <;> cases e
  | l _ => obtain ⟨_, e, _⟩ := h; cases e
  | m _ => obtain ⟨_, e, _⟩ := h; cases e
  | mo _ => obtain ⟨_, e, _⟩ := h; cases e
  | lk _ _ _ => obtain ⟨e, _⟩ := h; cases e
theorem Rep.adopt {K : PySem.W.Frag} {R F : Hp} {A : List Addr} {σ : L2.St} {H : Hp} {e : En} (r : Rep K R F A σ H e) {b : Addr} {o : HO} (hF : F b = none) (hR : R b = none) (hA : b ∉ A) (hH : H b = some o) (no : ∀ ps, o ≠ .tbl ps) : Rep K (upd R b o) F A σ H e :=
  ⟨r.sub, fun c u z => by
    by_cases q : c = b
    · subst q
      rw [upd_same] at z
      cases z
      exact hH
    · rw [upd_ne q] at z
      exact r.keep _ _ z, fun c u z => by
    by_cases q : c = b
    · subst q
      exact ⟨hF, hA⟩
    · rw [upd_ne q] at z
      exact r.apart c u z, r.len, r.lenA, r.nodup, r.live, r.slot, r.store, r.tabs.adopt hH no⟩
theorem finW_O {K : PySem.W.Frag} : FinW K ownO := by
  intro R F A σ H e b o ob Kp Q rep hF hR hA hH hx hm k fin
  obtain ⟨r2, l⟩ := (rep.adopt hF hR hA hH hx.noTbl).giveOb hR (hx.noM hm)
  refine fin (.obj e.st.length) _ (.ref b) F _ H k (Le.refl F) l r2 ⟨b, ?_, rfl⟩
  rw [rep.lenA, List.getElem?_append_right (Nat.le_refl _), Nat.sub_self] <;> rfl
theorem finW_D {K : PySem.W.Frag} : FinW K ownD := by
  intro R F A σ H e b o ob Kp Q rep hF hR hA hH hx hm k fin
  cases ob with
  | l ds =>
    obtain ⟨xs, ex, hxs⟩ := hx
    cases ex
    exact finD_ok (rep.adopt hF hR hA hH fun _ z => by cases z) hR hxs k fin
  | m _ => exact False.elim k
  | mo _ => exact False.elim k
  | lk _ _ _ => exact False.elim k
  | sq _ _ => exact False.elim k
open Classical in
theorem p_call {K : PySem.W.Frag} {p : VSp} {own : Ob → En → KE → Prop} (hw : FinW K own) {E : XK} : PrimN K (fun vs H Q => spV K p (vs ++ []) H Q E) (opCallK own p) := by
  intro R F A σ H e vs ss Kp Q rep ats ho fin
  rw [List.append_nil]
  unfold opCallK at ho
  split at ho
  · rename_i cs hu hg
    have nd := uniq_nodup hu
    obtain ⟨gl, ga⟩ := getS_at hg
    -- the addresses of what is handed in
    have hA : ∀ (k j : Nat), (objs ss)[k]? = some j → ∃ a ds, A[j]? = some a ∧ cs[k]? = some ds ∧ F a = none ∧ ObAt K F A (H a) ds ∧ mob ds = false := fun k j hj => by
      obtain ⟨ds, h1, h2, hm⟩ := ga k j hj
      obtain ⟨a, q1, q2, q3⟩ := rep.store j ds h2
      exact ⟨a, ds, q1, h1, q2, q3, hm⟩
    let Ap : List Addr := (objs ss).map fun j => (A[j]?).getD 0
    have hAp : ∀ (k j : Nat) (a : Addr), (objs ss)[k]? = some j → A[j]? = some a → Ap[k]? = some a := fun k j a h1 h2 => by
      show ((objs ss).map fun j => (A[j]?).getD 0)[k]? = _
      rw [List.getElem?_map, h1]
      simp [h2]
    have hAp' : ∀ (k : Nat) (a : Addr), Ap[k]? = some a → ∃ j, (objs ss)[k]? = some j ∧ A[j]? = some a := fun k a h => by
      have h' : ((objs ss).map fun j => (A[j]?).getD 0)[k]? = some a := h
      rw [List.getElem?_map] at h'
      obtain ⟨j, h1, h2⟩ := Option.map_eq_some_iff.mp h'
      obtain ⟨b, _, q1, _⟩ := hA k j h1
      rw [q1] at h2
      simp at h2
      exact ⟨j, h1, by rw [q1, h2]⟩
    have hApl : Ap.length = (objs ss).length := List.length_map _
    have hsub : ∀ a ∈ Ap, a ∈ A := fun a ha => by
      obtain ⟨k, hk⟩ := List.getElem?_of_mem ha
      obtain ⟨j, _, h2⟩ := hAp' k a hk
      exact List.mem_of_getElem? h2
    have hApn : Ap.Nodup := by
      show ((objs ss).map fun j => (A[j]?).getD 0).Nodup
      refine List.pairwise_map.mpr (List.Pairwise.imp_of_mem (fun {i j} hi hj hne q => ?_) nd)
      obtain ⟨ki, hki⟩ := List.getElem?_of_mem hi
      obtain ⟨kj, hkj⟩ := List.getElem?_of_mem hj
      obtain ⟨a, _, q1, _⟩ := hA ki i hki
      obtain ⟨b, _, q2, _⟩ := hA kj j hkj
      rw [q1, q2] at q
      have q' : a = b := q
      subst q'
      exact hne (nodup_at rep.nodup q1 q2)
    let Rc : Hp := fun a => if (F a).isSome = true ∨ a ∈ Ap ∨ TbK K a then none else H a
    have hRc : ∀ {a : Addr} {o : HO}, Rc a = some o → F a = none ∧ a ∉ Ap ∧ H a = some o := fun {a o} h => by
      have h' : (if (F a).isSome = true ∨ a ∈ Ap ∨ TbK K a then none else H a) = some o := h
      split at h'
      · cases h'
      · rename_i q
        refine ⟨?_, fun z => q (.inr (.inl z)), h'⟩
        cases hf : F a with
        | none => rfl
        | some u => exact absurd (.inl (by simp [hf])) q
    have hRc' : ∀ {a : Addr} {o : HO}, F a = none → a ∉ Ap → ¬ TbK K a → H a = some o → Rc a = some o := fun {a o} h1 h2 h4 h3 => by
      show (if (F a).isSome = true ∨ a ∈ Ap ∨ TbK K a then none else H a) = some o
      rw [if_neg]
      · exact h3
      · rintro (z | z | z)
        · rw [h1] at z
          cases z
        · exact h2 z
        · exact h4 z
    have noA : ∀ {a : Addr}, a ∈ A → ¬ TbK K a := fun {a} ha z => (rep.tabs.of a z).2.2.2 ha
    have noR : ∀ {a : Addr} {o : HO}, R a = some o → ¬ TbK K a := fun {a o} h z => by
      rw [(rep.tabs.of a z).2.2.1] at h
      cases h
    have tabc : Tbs K Rc F H Ap := ⟨fun P hP => by
      obtain ⟨h1, h2, h3, h4⟩ := rep.tabs.of P hP
      refine ⟨h1, h2, ?_, fun z => h4 (hsub P z)⟩
      show (if (F P).isSome = true ∨ P ∈ Ap ∨ TbK K P then none else H P) = none
      rw [if_pos (.inr (.inr hP))]⟩
    have ren := renum_at (Ap := Ap) (k := 0) ats (fun m j hm a ha => by rw [Nat.zero_add]; exact hAp m j a hm ha)
    have repc : Rep K Rc F Ap (vs.map some) H ⟨(renum 0 ss).map some, cs.map some⟩ := by
      refine ⟨rep.sub, fun a o z => (hRc z).2.2, fun a o z => ⟨(hRc z).1, (hRc z).2.1⟩, ?_, ?_, hApn, fun a ha => rep.live a (hsub a ha), fun i s z => ?_, fun j ds z => ?_, tabc⟩
      · simp [ren.len]
      · simp [gl, hApl]
      · have z' : ((renum 0 ss).map some)[i]? = some (some s) := z
        rw [List.getElem?_map] at z'
        obtain ⟨t, ht, hs⟩ := Option.map_eq_some_iff.mp z'
        cases hs
        obtain ⟨v, h1, h2⟩ := slAts_get ren ht
        exact ⟨v, by rw [List.getElem?_map, h1] <;> rfl, h2⟩
      · have z' : (cs.map some)[j]? = some (some ds) := z
        rw [List.getElem?_map] at z'
        obtain ⟨t, ht, hs⟩ := Option.map_eq_some_iff.mp z'
        cases hs
        have hj : j < (objs ss).length := by
          have := (List.getElem?_eq_some_iff.mp ht).1
          omega
        obtain ⟨i, hi⟩ : ∃ i, (objs ss)[j]? = some i := ⟨(objs ss)[j], by simp [hj]⟩
        obtain ⟨a, ds', q1, q2, q3, q4, q5⟩ := hA j i hi
        rw [ht] at q2
        cases q2
        exact ⟨a, hAp j i a hi q1, q3, q4.noM q5⟩
    refine ⟨Rc, F, Ap, renum 0 ss, cs, _, repc, ho, fun s cs' v F' A' H' k l p rep' => ?_⟩
    split at k
    · exact k.elim
    rename_i hall
    have mobs : ∀ (i : Nat) (ob : Ob), cs'[i]? = some ob → mob ob = false := fun i ob h => by
      cases q : mob ob with
      | false => rfl
      | true => exact absurd (List.any_eq_true.mpr ⟨ob, List.mem_of_getElem? h, q⟩) hall
    have hR : ∀ {a : Addr} {o : HO}, R a = some o → Rc a = some o := fun {a o} z => hRc' (rep.apart a o z).1 (fun hm => (rep.apart a o z).2 (hsub a hm)) (noR z) (rep.keep a o z)
    have hA' : ∀ {k : Nat}, k < Ap.length → A'[k]? = Ap[k]? := fun {k} hk => by
      obtain ⟨t, rfl⟩ := p
      rw [List.getElem?_append_left hk]
    have hApA' : ∀ a ∈ Ap, a ∈ A' := fun a ha => p.subset ha
    have lc : cs'.length = A'.length := by
      have := rep'.lenA
      simpa using this
    -- the caller's state behind the call
    have back : Rep K R F' A σ H' ⟨e.sl, putS (objs ss) cs' e.st⟩ := by
      refine ⟨rep'.sub, fun a o z => rep'.keep a o (hR z), fun a o z => ⟨(rep'.apart a o (hR z)).1, (rep.apart a o z).2⟩, rep.len, by rw [putS_len]; exact rep.lenA, rep.nodup, fun a ha => ?_, fun i t z => ?_, fun j ds z => ?_, ⟨fun P hP => ⟨(rep'.tabs.of P hP).1, (rep'.tabs.of P hP).2.1, (rep.tabs.of P hP).2.2⟩⟩⟩
      · obtain ⟨o, ho⟩ := rep.live a ha
        cases hf : F a with
        | some u => exact ⟨u, rep'.sub _ _ (l _ _ hf)⟩
        | none =>
          by_cases hm : a ∈ Ap
          · exact rep'.live a (hApA' a hm)
          · exact ⟨o, rep'.keep _ _ (hRc' hf hm (noA ha) ho)⟩
      · obtain ⟨u, h1, h2⟩ := rep.slot i t z
        exact ⟨u, h1, h2.le l (pfx_refl A)⟩
      · rcases putS_at z nd with ⟨m, c, h1, h2, h3⟩ | ⟨h1, h2⟩
        · cases h3
          obtain ⟨a, ds', q1, q2, q3, q4, q5⟩ := hA m j h1
          obtain ⟨b, r1, r2, r3⟩ := rep'.store m ds (by rw [List.getElem?_map, h2] <;> rfl)
          have hm : m < Ap.length := by
            rw [hApl]
            exact (List.getElem?_eq_some_iff.mp h1).1
          rw [hA' hm, hAp m j a h1 q1] at r1
          cases r1
          exact ⟨a, q1, r2, r3.noM (mobs m ds h2)⟩
        · obtain ⟨a, q1, q2, q3⟩ := rep.store j ds h2
          have na : a ∉ Ap := fun hm => by
            obtain ⟨m, hm⟩ := List.getElem?_of_mem hm
            obtain ⟨j', r1, r2⟩ := hAp' m a hm
            have := nodup_at rep.nodup r2 q1
            subst this
            have hml : m < Ap.length := (List.getElem?_eq_some_iff.mp hm).1
            have := h1 m r1
            have h5 : Ap.length ≤ A'.length := p.length_le
            rw [List.getElem?_eq_none_iff] at this
            omega
          obtain ⟨o, ho⟩ := q3.some
          have zc := hRc' q2 na (noA (List.mem_of_getElem? q1)) ho
          exact ⟨a, q1, (rep'.apart a _ zc).1, q3.le l (pfx_refl A) fun u e => by
            rw [ho] at e
            cases e
            exact rep'.keep _ _ zc⟩
    have fin' := fin.tr l (pfx_refl A)
    obtain ⟨v', hv', av⟩ := rep'.slot 0 s rfl
    have ev : some v = some v' := by simpa using hv'
    cases ev
    cases s with
    | val d => exact fin'.done back (s := .val d) k av
    | kn ds => exact fin'.done back (s := .kn ds) k av
    | exc d => exact k.elim
    | obj j =>
      replace k : (if j < (objs ss).length then False else match cs'[j]? with | some ds => own ds ⟨e.sl, putS (objs ss) cs' e.st⟩ Kp | none => False) := k
      split at k
      · exact k.elim
      · rename_i hj
        split at k
        · rename_i ds hd
          obtain ⟨b, e1, rfl⟩ := av
          obtain ⟨b', r1, r2, r3⟩ := rep'.store j ds (by rw [List.getElem?_map, hd] <;> rfl)
          rw [e1] at r1
          cases r1
          obtain ⟨o, ho⟩ := r3.some
          have nb : b ∉ Ap := fun hm => by
            obtain ⟨m, hm⟩ := List.getElem?_of_mem hm
            have hml : m < Ap.length := (List.getElem?_eq_some_iff.mp hm).1
            rw [← hA' hml] at hm
            have := nodup_at rep'.nodup hm e1
            omega
          have hbF : F b = none := by
            cases hf : F b with
            | none => rfl
            | some u =>
              rw [l _ _ hf] at r2
              cases r2
          have hH : H b = none := by
            cases hh : H b with
            | none => rfl
            | some u => exact absurd (List.mem_of_getElem? e1) (rep'.apart b u (hRc' hbF nb (fun z => (rep'.tabs.of b z).2.2.2 (List.mem_of_getElem? e1)) hh)).2
          exact hw back r2 (rep.keep.free hH) (fun hm => by
            obtain ⟨u, hu⟩ := rep.live b hm
            rw [hH] at hu
            cases hu) ho (by rw [← ho]; exact r3.noM (mobs j ds hd)) (mobs j ds hd) k fin'
        · exact k.elim
  · exact ho.elim
section
variable {X : Cx} {f : Addr} {fd : FuncData} {ps : List Str} {k : Nat} {p : VSp} {x : Str} {pp pos : Pos} {ex : Expr} {es : List Expr} {t : VTA}
theorem ve_callK {own : Ob → En → KE → Prop} (hw : FinW X.K own) (G : FnOk X.prog X.w X.K X.mg X.base CX0 k f fd ps (spV X.K p)) (hr : Room k X.A) (hg : Gl X x) (hm : X.mg x = some (.ref f)) (hk : PySem.W.keepIn X.K (.ref f) = true) (hb : Binds X.K fd ps [])
    (ha : VA X (ex :: es) t) (hdb : (x == ("__debug__" : Str)) = false := by decide) (he : starEach (ex :: es) X.env = (false, eval ex X.env) :: starEach es X.env := by rfl) (hpl : (backTo pos (starEach es X.env)).any (·.1) = false := by rfl) :
    VE X (.Call (.Name x pp) (ex :: es) [] pos) (vN (opCallK own p) t) := PE.imp (pe_call G hr hg hm hk hb .nil pass0 ha hdb he hpl) (liftN (p_call hw))
end
end Vl
namespace Vl
open PySem L2 PySem.Spec PyProof.Rows
def truOk : D → Prop
  | .str x => x.length ≤ sizeLine
  | .dict _ => False
  | _ => True
def truB : D → Bool
  | .none => false
  | .bool b => b
  | .int i => i != 0
  | .str s => (s.length : Int) != 0
  | .list ds => !ds.isEmpty
  | .tuple ds => !ds.isEmpty
  | .dict _ => false
theorem tru_at {K : PySem.W.Frag} {R F : Hp} {A : List Addr} {σ : L2.St} {H : Hp} {e : En} {X : Cx} {x : V} {s : Sl} {d : D} (rep : Rep X.K R F A σ H e) (a : SlAt X.K F A x s) (h : pk s e = some d) (ok : truOk d) : TruV X.K x H (truB d) := by
  have p := rep.pk a h
  cases d with
  | none =>
    rw [p.none]
    rfl
  | bool b =>
    rw [p.bool]
    rfl
  | int i =>
    rw [p.int]
    rfl
  | str z =>
    rw [p.str]
    exact ⟨ok, rfl⟩
  | list ds =>
    obtain ⟨q, xs, rfl, h1, h2⟩ := p
    exact .inl ⟨xs, h1, empty_at (X := X) h2⟩
  | tuple ds =>
    obtain ⟨q, xs, rfl, h1, h2⟩ := p.tup
    exact .inr (.inl ⟨xs, sqT_le rep.sub h1, empty_at (X := X) h2⟩)
  | dict _ => exact ok.elim
def opNotG (s : Sl) (e : En) (Kp : KE) : Prop := match pk s e with
  | some d => truOk d ∧ Kp (.val (.bool (!truB d))) e
  | none => False
section
variable {X : Cx} {a b c : Expr} {ta tb tc : VTE} {pos : Pos}
theorem ve_notG (ha : VE X a ta) : VE X (.UnaryOp .Not a pos) (v1 opNotG ta) := PE.imp (pe_notT ha) fun σ H Q q => by
  obtain ⟨R, F, A, e, Kp, rep, ht, fin⟩ := q
  refine ⟨R, F, A, e, _, rep, ht, fun s1 e1 x F1 A1 H1 k1 f1 p1 rep1 at1 => ?_⟩
  have k1' : (match pk s1 e1 with | some d => truOk d ∧ Kp (.val (.bool (!truB d))) e1 | none => False) := k1
  split at k1'
  · rename_i d hd
    exact ⟨truB d, tru_at (K := X.K) rep1 at1 hd k1'.1, (fin.tr f1 p1).val rep1 k1'.2 (.bl _)⟩
  · exact k1'.elim
def vChain (o1 o2 : Sl → Sl → En → KE → Prop) (ta tb tc : VTE) : VTE := fun e Kp => ta e fun s1 e1 => tb e1 fun s2 e2 => o1 s1 s2 e2 fun s e3 => match pk s e3 with
  | some (.bool k) => if k = true then tc e3 fun s3 e4 => o2 s2 s3 e4 Kp else Kp (.val (.bool false)) e3
  | _ => False
theorem vt_lt (ha : VE X a ta) (hb : VE X b tb) (hm : behindInMarks .Lt b = false := by exact nomark _) : VT X (.Compare a [.Lt] [b] pos) (vTest (v2 opLt ta tb)) := vt_cmp p_lt (op_lt.or op_lt_str) ha hb hm
theorem vt_gt (ha : VE X a ta) (hb : VE X b tb) (hm : behindInMarks .Gt b = false := by exact nomark _) : VT X (.Compare a [.Gt] [b] pos) (vTest (v2 opGt ta tb)) := vt_cmp (p_i0 (g := gGt) fun _ _ _ => .bl _) op_gt ha hb hm
def flatD : D → Bool
  | .none => true
  | .bool _ => true
  | .int _ => true
  | .str _ => true
  | _ => false
theorem flat_at {K : PySem.W.Frag} {F : Hp} {v : V} : ∀ {d : D}, flatD d = true → At K F d v → v = sV d ∧ flatV v = true
  | .none, _, h => by
    cases h
    exact ⟨rfl, rfl⟩
  | .bool _, _, h => by
    cases h
    exact ⟨rfl, rfl⟩
  | .int _, _, h => by
    cases h
    exact ⟨rfl, rfl⟩
  | .str _, _, h => by
    cases h
    exact ⟨rfl, rfl⟩
theorem flat_eqv {c d : D} (h1 : flatD c = true) (h2 : flatD d = true) : eqV (sV c) (sV d) = PyData.eqv c d := by
  cases c <;> cases d <;> first | rfl | simp_all [flatD] | (simp only [sV, eqV, PyData.eqv])
theorem inV_at {K : PySem.W.Frag} {F : Hp} {d : D} {v : V} (hd : flatD d = true) (a : At K F d v) : ∀ {ds : List D} {vs : List V}, ds.all flatD = true → AtL K F ds vs → inV v vs = (ds.any fun z => PyData.eqv z d) ∧ vs.all flatV = true
  | [], _, _, h => by
    cases h
    exact ⟨rfl, rfl⟩
  | c :: ds, _, f, h => by
    cases h with
    | cons h1 h2 =>
      rw [List.all_cons, Bool.and_eq_true] at f
      obtain ⟨e1, e2⟩ := inV_at hd a f.2 h2
      obtain ⟨g1, g2⟩ := flat_at f.1 h1
      obtain ⟨g3, g4⟩ := flat_at hd a
      refine ⟨?_, by rw [List.all_cons, g2, e2] <;> rfl⟩
      show (eqV _ v || inV v _) = (PyData.eqv c d || _)
      rw [e1, g1, g3, flat_eqv f.1 hd]
def opIn3 (neg : Bool) (s1 s2 : Sl) (e : En) (Kp : KE) : Prop := match pk s1 e, pk s2 e with
  | some d, some (.tuple ds) => flatD d = true ∧ ds.all flatD = true ∧ Kp (.val (.bool (if neg then !ds.any (fun z => PyData.eqv z d) else ds.any fun z => PyData.eqv z d))) e
  | _, _ => opIn neg s1 s2 e Kp
def rIn3 (K : PySem.W.Frag) : R2 := fun x y H Q => rIn K false x y H Q ∨ rIn2 K x y H Q
def rNotIn3 (K : PySem.W.Frag) : R2 := fun x y H Q => rIn K true x y H Q ∨ rNotIn2 K x y H Q
theorem p_in3 {K : PySem.W.Frag} : Prim2 K (rIn3 K) (opIn3 false) := by
  intro R F A σ H e x y s1 s2 Kp Q rep a1 a2 ho fin
  unfold opIn3 at ho
  split at ho
  · rename_i d ds h1 h2
    obtain ⟨q, xs, rfl, q1, q2⟩ := (rep.pk a2 h2).tup
    have pd := rep.pk a1 h1
    have ad : At K F d x := by
      cases d <;> first | exact pd | exact absurd ho.1 (by simp [flatD])
    obtain ⟨g1, g2⟩ := inV_at ho.1 ad ho.2.1 q2
    refine .inl ⟨q, xs, rfl, .inr (sqT_le rep.sub q1), (flat_at ho.1 ad).2, g2, ?_⟩
    rw [g1]
    exact fin.val rep ho.2.2 (.bl _)
  · exact .inr (p_in rep a1 a2 ho fin)
theorem p_notIn3 {K : PySem.W.Frag} : Prim2 K (rNotIn3 K) (opIn3 true) := by
  intro R F A σ H e x y s1 s2 Kp Q rep a1 a2 ho fin
  unfold opIn3 at ho
  split at ho
  · rename_i d ds h1 h2
    obtain ⟨q, xs, rfl, q1, q2⟩ := (rep.pk a2 h2).tup
    have pd := rep.pk a1 h1
    have ad : At K F d x := by
      cases d <;> first | exact pd | exact absurd ho.1 (by simp [flatD])
    obtain ⟨g1, g2⟩ := inV_at ho.1 ad ho.2.1 q2
    refine .inl ⟨q, xs, rfl, .inr (sqT_le rep.sub q1), (flat_at ho.1 ad).2, g2, ?_⟩
    rw [g1]
    exact fin.val rep ho.2.2 (.bl _)
  · exact .inr (p_notIn rep a1 a2 ho fin)
theorem op_in3 (hu : X.A.units + 190 < cLine) : OpR X (compareOp .In) (rIn3 X.K) := op_in_seq.or (op_in2 hu)
theorem op_notIn3 (hu : X.A.units + 190 < cLine) : OpR X (compareOp .NotIn) (rNotIn3 X.K) := op_notIn_seq.or (op_notIn2 hu)
def opRev (s : Sl) (e : En) (Kp : KE) : Prop := match pk s e with
  | some (.list ds) => Kp (.val (.list ds.reverse)) e
  | _ => False
theorem AtL.rev {K : PySem.W.Frag} {F : Hp} {ds : List D} {vs : List V} (h : AtL K F ds vs) : AtL K F ds.reverse vs.reverse := by
  induction ds generalizing vs with
  | nil =>
    cases h
    exact .nil
  | cons d ds ih =>
    cases h with
    | cons h1 h2 =>
      rw [List.reverse_cons, List.reverse_cons]
      exact (ih h2).app (AtL.one h1)
theorem ve_rev {k : Nat} {p1 p2 p3 : Pos} (ha : VE X a ta) : VE X (.Subscript a (.Slice none none (some (.UnaryOp .USub (.Constant (.int 1) k p1) p2)) p3) pos) (v1 opRev ta) := PE.imp (pe_revL ha) (lift1 fun {R F A σ H e x s Kp Q} rep a1 ho fin => by
  unfold opRev at ho
  split at ho
  · rename_i ds h1
    obtain ⟨q, xs, rfl, q1, q2⟩ := rep.pk a1 h1
    exact ⟨q, xs, rfl, q1, fun p hp => fin.newL rep hp ho q2.rev⟩
  · exact ho.elim)
def reps (k : Nat) (ds : List D) : List D := (List.replicate k ds).flatten
theorem AtL.reps {K : PySem.W.Frag} {F : Hp} {ds : List D} {vs : List V} (h : AtL K F ds vs) : ∀ k : Nat, AtL K F (Vl.reps k ds) (List.replicate k vs).flatten
  | 0 => .nil
  | k + 1 => by
    show AtL K F (List.replicate (k + 1) ds).flatten _
    rw [List.replicate_succ, List.replicate_succ, List.flatten_cons, List.flatten_cons]
    exact h.app (AtL.reps h k)
def opMul2 (s1 s2 : Sl) (e : En) (Kp : KE) : Prop := match pkm s1 e, pk s2 e with
  | some (.int i), some (.int j) => CMul i j ∧ Kp (.val (.int (i * j))) e
  | some (.list ds), some (.int k) => -(2 ^ 63) ≤ k ∧ k < 2 ^ 63 ∧ ds.length * k.toNat ≤ sizeLine ∧ Kp (.val (.list (reps k.toNat ds))) e
  | _, _ => False
theorem p_mul2 {K : PySem.W.Frag} : Prim2 K (fun x y H Q => rI CMul (fun i j => .int (i * j)) x y H Q ∨ rRep x y H Q) opMul2 := by
  intro R F A σ H e x y s1 s2 Kp Q rep a1 a2 ho fin
  unfold opMul2 at ho
  split at ho
  · rename_i i j h1 h2
    exact .inl ⟨i, j, (rep.pkm a1 h1).int, (rep.pk a2 h2).int, ho.1, fin.val rep ho.2 (.int _)⟩
  · rename_i ds k h1 h2
    obtain ⟨l, xs, rfl, q1, q2⟩ := rep.pkm a1 h1
    exact .inr ⟨l, k, xs, rfl, (rep.pk a2 h2).int, q1, ho.1, ho.2.1, by rw [q2.len]; exact ho.2.2.1, fun p hp => fin.newL rep hp ho.2.2.2 (q2.reps _)⟩
  · exact ho.elim
theorem ve_mul2 (ha : VE X a ta) (hb : VE X b tb) : VE X (.BinOp a .Mult b pos) (v2 opMul2 ta tb) := ve_op p_mul2 (op_mul.or op_rep) ha hb
def tyD : D → String
  | .none => "NoneType"
  | .bool _ => "bool"
  | .int _ => "int"
  | .str _ => "str"
  | .list _ => "list"
  | .tuple _ => "tuple"
  | .dict [] => "dict"
  | .dict (_ :: _) => "#rec"
theorem kit_rec {T : String} (h : T ≠ "#rec") : kitB "#rec" T = none := by
  unfold kitB
  rw [if_neg (by
    intro z
    have z' := eq_of_beq z
    exact h (Value.type.inj z').symm)]
  split
  · rw [show PySem.fastBuiltinMro "#rec" = none from by decide +kernel]
    rfl
  · rfl
theorem ty_at {K : PySem.W.Frag} {R F : Hp} {A : List Addr} {σ : L2.St} {H : Hp} {e : En} {x : V} {s : Sl} {d : D} (rep : Rep K R F A σ H e) (a : SlAt K F A x s) (h : pk s e = some d) (hr : tyD d ≠ "#rec") : TyX K H x (.type (tyD d)) := by
  have p := rep.pk a h
  cases d with
  | none =>
    rw [p.none]
    exact .base .non
  | bool b =>
    rw [p.bool]
    exact .base (.bl b)
  | int i =>
    rw [p.int]
    exact .base (.int i)
  | str z =>
    rw [p.str]
    exact .base (.str z)
  | list ds =>
    obtain ⟨q, xs, rfl, h1, h2⟩ := p
    rcases h1 with (h1 | ⟨o, h1⟩) | ⟨o, its, n, h1, h3, _⟩
    · exact .base (.lst h1)
    · exact .base (.frz h1)
    · exact .kList h1 h3
  | tuple ds =>
    obtain ⟨q, xs, rfl, h1, h2⟩ := p.tup
    rcases sqT_le rep.sub h1 with (h1 | ⟨o, h1⟩) | ⟨o, its, n, h1, h3, _⟩
    · exact .base (.tup h1)
    · exact .fTuple h1
    · exact .kTuple h1 h3
  | dict _ =>
    have p' : At K F (.dict _) x := p
    cases p' with
    | dct h1 => exact .base (.dK (rep.sub _ _ h1))
    | rcd h0 h1 h2 h3 h4 => exact absurd rfl hr
def vIsi (T : String) (ta : VTE) : VTE := fun e Kp => ta e fun s e1 => match pk s e1 with
  | some d => ∃ b, kitB (tyD d) T = some b ∧ Kp (.val (.bool b)) e1
  | none => False
theorem ve_isi {T : String} {x : Str} {p p2 : Pos} (hT : T ≠ "#rec" := by decide) (hg : Gl X "isinstance") (hm : X.mg "isinstance" = none) (hgT : Gl X x) (hmT : X.mg x = none) (hv : bootBuiltins x = some (.type T)) (ha : VE X a ta) (hn : x ≠ "__name__" := by decide) (hdb : (x == ("__debug__" : Str)) = false := by decide)
    (hs : starEach [a, .Name x p2] X.env = (false, eval a X.env) :: starEach [.Name x p2] X.env := by rfl) (hs2 : starEach [.Name x p2] X.env = (false, eval (.Name x p2) X.env) :: starEach [] X.env := by rfl) (hpl : (backTo pos (starEach [.Name x p2] X.env)).any (·.1) = false := by rfl) :
    VE X (.Call (.Name "isinstance" p) [a, .Name x p2] [] pos) (vIsi T ta) :=
  PE.imp (pe_callB call_isi hg hm (by decide +kernel) (pa_cons ha (pa_cons (pe_bltn (v := .ty T) (u := .type T) hgT hmT hv rfl hn hdb) pa_nil hs2) hs) (by decide) (by decide) hs hpl) fun σ H Q q => by
    obtain ⟨R, F, A, e, Kp, rep, ht, fin⟩ := q
    refine ⟨R, F, A, e, _, rep, ht, fun s1 e1 x F1 A1 H1 k1 f1 p1 rep1 at1 => ?_⟩
    split at k1
    · rename_i d hd
      obtain ⟨b, h1, h2⟩ := k1
      exact ⟨x, .ty T, .type (tyD d), .type T, b, rfl, .ty T, ty_at rep1 at1 hd (fun z => by rw [z, kit_rec hT] at h1; cases h1), kit_ty h1, (fin.tr f1 p1).val rep1 h2 (.bl b)⟩
    · exact k1.elim
def vAug (g : Int → Int → Int) (i : Nat) (t : VTE) : VTS := fun D e => match e.sl[i]? with
  | some (some (.val (.int k))) => t e fun s e1 => (match pk s e1 with
    | some (.int j) => D.nx ⟨e1.sl.set i (some (.val (.int (g k j)))), e1.st⟩
    | _ => False)
  | _ => False
def txts : List D → Option (List Str)
  | [] => some []
  | .str x :: ds => (txts ds).map (x :: ·)
  | _ => none
theorem txts_at {K : PySem.W.Frag} {F : Hp} : ∀ {ds : List D} {vs : List V} {ys : List Str}, txts ds = some ys → AtL K F ds vs → vs = ys.map V.str
  | [], _, _, h, a => by
    cases h
    cases a
    rfl
  | .str x :: ds, _, ys, h, a => by
    have h' : (txts ds).map (x :: ·) = some ys := h
    obtain ⟨zs, hz, rfl⟩ := Option.map_eq_some_iff.mp h'
    cases a with
    | cons a1 a2 =>
      cases a1
      rw [txts_at hz a2] <;> rfl
  | .none :: _, _, _, h, _ => by cases h
  | .bool _ :: _, _, _, h, _ => by cases h
  | .int _ :: _, _, _, h, _ => by cases h
  | .list _ :: _, _, _, h, _ => by cases h
  | .tuple _ :: _, _, _, h, _ => by cases h
  | .dict _ :: _, _, _, h, _ => by cases h
def opJoin (s : Sl) (ss : List Sl) (e : En) (Kp : KE) : Prop := match pk s e, ss with
  | some (.str z), [t] => (match pk t e with
    | some (.list ds) => ∃ ys, txts ds = some ys ∧ (ys.map (·.length)).sum + ys.length * z.length ≤ 16777216 ∧ Kp (.val (.str (Txt.join z ys))) e
    | _ => False)
  | _, _ => False
theorem p_join {K : PySem.W.Frag} : PrimM K "str" (fun x xs H Q => ∃ a p, ∃ ys : List Str, x = .str a ∧ xs = [.ref p] ∧ (SqL K H p (ys.map V.str) ∨ SqT K H p (ys.map V.str)) ∧ (ys.map (·.length)).sum + ys.length * a.length ≤ 16777216 ∧ Q (.str (Txt.join a ys)) H) opJoin := by
  intro R F A σ H e x s xs ss Kp Q rep a0 a1 ho fin
  unfold opJoin at ho
  split at ho
  · rename_i z t hz
    obtain ⟨y, rfl, a2⟩ := a1.one
    split at ho
    · rename_i ds hd
      obtain ⟨ys, h1, h2, h3⟩ := ho
      obtain ⟨p, vs, rfl, q1, q2⟩ := rep.pk a2 hd
      rw [txts_at h1 q2] at q1
      exact ⟨z, p, ys, (rep.pk a0 hz).str, rfl, .inl q1, h2, fin.val rep h3 (.str _)⟩
    · exact ho.elim
  · exact ho.elim
/-- sorted(xs) of texts -/
def opSortS (ss : List Sl) (e : En) (Kp : KE) : Prop := match ss with
  | [s] => (match pk s e with
    | some (.list ds) => ∃ xs, txts ds = some xs ∧ xs.length < 64 ∧ ∀ ys : List Str, ys.Perm xs → sortedS ys = true → Kp (.val (.list (ys.map .str))) e
    | _ => False)
  | _ => False
theorem strs_at {K : PySem.W.Frag} {F : Hp} : ∀ ys : List Str, AtL K F (ys.map PyData.str) (ys.map V.str)
  | [] => .nil
  | y :: ys => .cons (.str y) (strs_at ys)
theorem ve_sortS {p : Pos} {t : VTA} (hg : Gl X "sorted") (hm : X.mg "sorted" = none) (ha : VA X [a] t) (he : starEach [a] X.env = (false, eval a X.env) :: starEach [] X.env := by rfl) : VE X (.Call (.Name "sorted" p) [a] [] pos) (vN opSortS t) := ve_blt (fun {R F A σ H e xs ss Kp Q} rep a1 ho fin => by
  unfold opSortS at ho
  split at ho
  · obtain ⟨x, rfl, a2⟩ := a1.one
    split at ho
    · rename_i ds h1
      obtain ⟨zs, h2, h3, h4⟩ := ho
      obtain ⟨q, ys, rfl, q1, q2⟩ := rep.pk a2 h1
      rw [txts_at h2 q2] at q1
      exact ⟨q, zs, rfl, q1, h3, fun ys' p hp1 hp2 hp => fin.newL rep hp (h4 ys' hp1 hp2) (strs_at ys')⟩
    · exact ho.elim
  · exact ho.elim) cr_sortedS hg hm (by decide +kernel) ha (by decide) (by decide) he
structure VFn (P : Program) (w : World) (K : PySem.W.Frag) (mg : Str → Option Value) (base : Heap) (k : Nat) (x : Str) (ps : List Str) (p : VSp) : Prop where
  ex : ∃ f fd, FnOk P w K mg base CX0 k f fd ps (spV K p) ∧ PySem.W.keepIn K (.ref f) = true ∧ Binds K fd ps [] ∧ mg x = some (.ref f)
theorem VFn.mono {P : Program} {w : World} {K : PySem.W.Frag} {mg : Str → Option Value} {base : Heap} {j k : Nat} {x : Str} {ps : List Str} {p : VSp} (h : VFn P w K mg base j x ps p) (l : j ≤ k) : VFn P w K mg base k x ps p := by
  obtain ⟨f, fd, a, b, c, d⟩ := h.ex
  exact ⟨f, fd, a.mono l, b, c, d⟩
theorem spV_imp {K : PySem.W.Frag} {p p' : VSp} (h : ∀ ss st Kp, p' ss st Kp → p ss st Kp) : ∀ vs H Q E, spV K p' vs H Q E → spV K p vs H Q E := fun vs H Q E ⟨R, F, A, ss, st, Kp, r, q, z⟩ => ⟨R, F, A, ss, st, Kp, r, h _ _ _ q, z⟩
/-- a weaker promise -/
theorem VFn.imp {P : Program} {w : World} {K : PySem.W.Frag} {mg : Str → Option Value} {base : Heap} {k : Nat} {x : Str} {ps : List Str} {p p' : VSp} (h : VFn P w K mg base k x ps p) (g : ∀ ss st Kp, p' ss st Kp → p ss st Kp) : VFn P w K mg base k x ps p' := by
  obtain ⟨f, fd, a, b, c, d⟩ := h.ex
  exact ⟨f, fd, a.imp (spV_imp g), b, c, d⟩
theorem ve_call {own : Ob → En → KE → Prop} {j k : Nat} {x : Str} {ps : List Str} {p : VSp} {pp : Pos} {es : List Expr} {t : VTA} (hw : FinW X.K own) (G : VFn X.prog X.w X.K X.mg X.base k x ps p) (hr : Room j X.A) (hk : k ≤ j) (hg : Gl X x)
    (ha : VA X (a :: es) t) (hdb : (x == ("__debug__" : Str)) = false := by decide) (he : starEach (a :: es) X.env = (false, eval a X.env) :: starEach es X.env := by rfl) (hpl : (backTo pos (starEach es X.env)).any (·.1) = false := by rfl) :
    VE X (.Call (.Name x pp) (a :: es) [] pos) (vN (opCallK own p) t) := by
  obtain ⟨f, fd, h1, h2, h3, h4⟩ := G.ex
  exact ve_callK hw h1 (hr.mono hk) hg h4 h2 h3 ha hdb he hpl
def vCall0 (own : Ob → En → KE → Prop) (p : VSp) : VTE := fun e Kp => opCallK own p [] e Kp
/-- what built-in names mean in the module -/
structure Blt (mg : Str → Option Value) : Prop where
  len : mg "len" = none
  max : mg "max" = none
  min : mg "min" = none
  range : mg "range" = none
  int : mg "int" = none
  str : mg "str" = none
  list : mg "list" = none
  tuple : mg "tuple" = none
  bool : mg "bool" = none
  sorted : mg "sorted" = none
  enumerate : mg "enumerate" = none
  zip : mg "zip" = none
  isinstance : mg "isinstance" = none
  all : mg "all" = none
  any : mg "any" = none
  sum : mg "sum" = none
  dict : mg "dict" = none
  set : mg "set" = none
  divmod : mg "divmod" = none
  reversed : mg "reversed" = none
  repr : mg "repr" = none
end
end Vl
namespace Vl
open PySem L2 PySem.Spec PyProof.Rows
/-- a module's constant -/
structure VConst (K : PySem.W.Frag) (mg : Str → Option Value) (x : Str) (d : D) : Prop where
  ex : ∃ v u, mg x = some u ∧ RelV v u ∧ ∀ F, At K F d v
theorem ve_const {X : Cx} {x : Str} {d : D} {pos : Pos} (h : VConst X.K X.mg x d) (hg : Gl X x) (hdb : (x == ("__debug__" : Str)) = false := by decide) : VE X (.Name x pos) (vC d) := by
  obtain ⟨v, u, h1, h2, h3⟩ := h.ex
  exact ve_glob hg h1 h2 h3 hdb
/-- a def whose promise asks what can't be -/
theorem vac {P : Program} {w : World} {K : PySem.W.Frag} {mg : Str → Option Value} {base : Heap} {x qual : Str} {st : Stmt} {f : Addr} {fd : FuncData} {N ps : List Str} {k : Nat} {p : VSp} (F : Fun K x qual st f fd) (S : FnScope N ps (defScope st)) (no : ∀ ss st Kp, ¬ p ss st Kp) :
    FnOk P w K mg base CX0 (k + 1) f fd ps (spV K p) := by
  refine F.ok S (fun vs H Q E h => ?_) fun cdv A outer s H vs Q E hr h => ?_
  · obtain ⟨R, F, A, ss, st, Kp, rep, hp, _⟩ := h
    exact absurd hp (no _ _ _)
  · obtain ⟨R, F, A, ss, st, Kp, rep, hp, _⟩ := h
    exact absurd hp (no _ _ _)
end Vl
namespace Vl
open PySem L2 PySem.Spec PyProof.Rows
def kOpt (o : Option D) (k : D → Prop) : Prop := match o with
  | some d => k d
  | none => False
theorem kOpt_some {d : D} {k : D → Prop} : kOpt (some d) k = k d := rfl
theorem kOpt_ex {o : Option D} {k : D → Prop} (h : kOpt o k) : ∃ d, o = some d ∧ k d := by
  cases o with
  | none => exact h.elim
  | some d => exact ⟨d, rfl, h⟩
def xIx (s1 s2 : Sl) (e : En) (Kp : KE) : Prop := match pk s1 e, pk s2 e with
  | some (.tuple ds), some (.int i) => kOpt (atI ds i) fun d => Kp (.val d) e
  | some (.list ds), some (.int i) => kOpt (atI ds i) fun d => Kp (.val d) e
  | some (.str z), some (.int i) => ∃ c, z.length ≤ sizeLine ∧ atI z.cps.toList i = some c ∧ Kp (.val (.str ⟨#[c]⟩)) e
  | _, _ => False
theorem p_xix {K : PySem.W.Frag} : Prim2 K (rIx K) xIx := by
  intro R F A σ H e x y s1 s2 Kp Q rep a1 a2 ho fin
  refine p_ix rep a1 a2 ?_ fin
  unfold xIx at ho
  unfold opIx
  split at ho
  · rename_i ds i h1 h2
    first | exact kOpt_ex ho | (rw [h1, h2]; exact kOpt_ex ho)
  · rename_i ds i h1 h2
    first | exact kOpt_ex ho | (rw [h1, h2]; exact kOpt_ex ho)
  · rename_i z i h1 h2
    first | exact ho | (rw [h1, h2]; exact ho)
  · exact ho.elim
def xPop (s : Sl) (ss : List Sl) (e : En) (Kp : KE) : Prop := match s with
  | .obj j => (match e.st[j]? with
    | some (some (.l ds)) => kOpt ds.getLast? fun d => Kp (.val d) ⟨e.sl, e.st.set j (some (.l ds.dropLast))⟩
    | _ => False)
  | _ => False
theorem p_xpop {K : PySem.W.Frag} : PrimM K "list" (fun x vs H Q => vs = [] → rPop x vs H Q) xPop := by
  intro R F A σ H e x s xs ss Kp Q rep a0 a1 ho fin hv
  refine p_pop rep a0 a1 ?_ fin hv
  unfold xPop at ho
  unfold opPop
  split at ho
  · rename_i j
    split at ho
    · rename_i ds hd
      first | exact kOpt_ex ho | (dsimp only; rw [hd]; exact kOpt_ex ho)
    · exact ho.elim
  · exact ho.elim
def kOpn (o : Option Nat) (k : Nat → Prop) : Prop := match o with
  | some d => k d
  | none => False
theorem kOpn_some {d : Nat} {k : Nat → Prop} : kOpn (some d) k = k d := rfl
theorem kOpn_ex {o : Option Nat} {k : Nat → Prop} (h : kOpn o k) : ∃ d, o = some d ∧ k d := by
  cases o with
  | none => exact h.elim
  | some d => exact ⟨d, rfl, h⟩
def xgSub (to ti : VTE) : VTG := fun s e Kp => to e fun so e1 => ti e1 fun si e2 => asD s e2 fun d e3 => match so with
  | .obj j => (match pk si e3 with
    | some (.int k) => (match e3.st[j]? with
      | some (some (.l ds)) => kOpn (ixN ds.length k) fun n => Kp ⟨e3.sl, e3.st.set j (some (.l (ds.set n d)))⟩
      | _ => False)
    | _ => False)
  | _ => False
theorem asD_imp {s : Sl} {e : En} {k k' : D → En → Prop} (f : ∀ d e, k d e → k' d e) (h : asD s e k) : asD s e k' := by
  cases s with
  | val d => exact f _ _ h
  | kn ds => exact h.elim
  | exc d => exact h.elim
  | obj j =>
    have h' : (match e.st[j]? with | some (some (.l ds)) => k (.list ds) (e.kill j ds) | _ => False) := h
    show (match e.st[j]? with | some (some (.l ds)) => k' (.list ds) (e.kill j ds) | _ => False)
    split at h'
    · exact f _ _ h'
    · exact h'.elim
section
variable {X : Cx} {a b o i : Expr} {ta tb to ti : VTE} {pos : Pos}
theorem ve_xix (ha : VE X a ta) (hb : VE X b tb) (hs : PlainIx b := by exact fun _ _ => rfl) : VE X (.Subscript a b pos) (v2 xIx ta tb) := ve_ixR p_xix ix_seq ha hb hs
theorem ve_xpop {apos cpos : Pos} (ho : VE X o to) (hbase : attributeBase o "pop" X.env (eval o X.env) = eval o X.env := by rfl) (hline : (apos.endLine == cpos.line) = true := by rfl) :
    VE X (.Call (.Attribute o "pop" apos) [] [] cpos) (vM0 "list" xPop to) := PE.imp (pe_bm0 PySem.F.plainAttrs_list PySem.F.slot_list_pop PySem.F.type_list_pop mt_pop ho hbase hline) fun σ H Q h => by
  obtain ⟨R, F, A, e, Kp, rep, ht, fin⟩ := h
  exact ⟨R, F, A, e, _, rep, ht, fun s1 e1 x F1 A1 H1 k1 f1 p1 rep1 at1 => ⟨isT_ty rep1 at1 k1.1, p_xpop rep1 at1 .nil k1.2 (fin.tr f1 p1) rfl⟩⟩
def MonoE (t : VTE) : Prop := ∀ e (k k' : KE), (∀ s e, k s e → k' s e) → t e k → t e k'
theorem vg_xsub (mo : MonoE to) (mi : MonoE ti) (ho : VE X o to) (hi : VE X i ti) (hp : ∀ {u w : TE}, PE X o u → PE X i w → PG X (.Subscript o i pos) (gSub u w rSetL)) : VG X (.Subscript o i pos) [] (xgSub to ti) := PG.imp (vg_sub ho hi hp) fun v σ H Q h => by
  obtain ⟨R, F, A, e, s, Kp, rep, a, k, fin⟩ := h
  refine ⟨R, F, A, e, s, Kp, rep, a, ?_, fin⟩
  refine mo _ _ _ (fun so e1 k1 => mi _ _ _ (fun si e2 k2 => asD_imp (fun d e3 k3 => ?_) k2) k1) k
  cases so with
  | val _ => exact False.elim k3
  | kn _ => exact False.elim k3
  | exc _ => exact False.elim k3
  | obj j =>
    replace k3 : (match pk si e3 with | some (.int k) => (match e3.st[j]? with | some (some (.l ds)) => kOpn (ixN ds.length k) fun n => Kp ⟨e3.sl, e3.st.set j (some (.l (ds.set n d)))⟩ | _ => False) | _ => False) := k3
    show (match pk si e3 with | some (.int k) => (match e3.st[j]? with | some (some (.l ds)) => ∃ n, ixN ds.length k = some n ∧ Kp ⟨e3.sl, e3.st.set j (some (.l (ds.set n d)))⟩ | _ => False) | _ => False)
    split at k3
    · split at k3
      · exact kOpn_ex k3
      · exact k3.elim
    · exact k3.elim
theorem mono_var (i : Nat) : MonoE (vVar i) := fun e k k' f h => by
  have h' : (match e.sl[i]? with | some (some s) => k s e | _ => False) := h
  show (match e.sl[i]? with | some (some s) => k' s e | _ => False)
  split at h'
  · exact f _ _ h'
  · exact h'.elim
theorem mono_c (d : D) : MonoE (vC d) := fun e k k' f h => f _ _ h
end
end Vl
namespace Vl
open PySem L2 PySem.Spec PyProof.Rows
/-- how a def ends -/
def dV (n : Nat) (Kp : Sl → List Ob → Prop) : VEnds := { nx := fun e => ret n (.val .none) e Kp, rt := fun s e => ret n s e Kp }
theorem dV_nx (n Kp e) : (dV n Kp).nx e = ret n (.val .none) e Kp := rfl
theorem dV_rt (n Kp s e) : (dV n Kp).rt s e = ret n s e Kp := rfl
/-- a def of the module -/
structure Df (K : PySem.W.Frag) (mg : Str → Option Value) (x : Str) (st : Stmt) (ps : List Str) : Prop where
  ex : ∃ f fd, Fun K x x st f fd ∧ Binds K fd ps [] ∧ mg x = some (.ref f)
section
variable {P : Program} {w : World} {K : PySem.W.Frag} {mg : Str → Option Value} {base : Heap}
theorem okF {x : Str} {st : Stmt} {N ps : List Str} {k : Nat} {p : VSp} {t : VTS} (Fd : Df K mg x st ps) (S : FnScope N ps (defScope st)) (len : ∀ ss st Kp, p ss st Kp → ss.length = ps.length)
    (hb : ∀ {f : Addr} {cdv : Value} {A : Around} {outer : List Env} {s : Shared} {H : Hp} {E : XK}, Room k (A.deeper (envOfC x (defScope st) s.heap.objs.size f cdv)) → VSs (cxOf CX0 P w K mg base N x (defScope st) f cdv A outer s H E).nox (defBody st) t)
    (rd : ∀ ss cs Kp, p ss cs Kp → t (dV cs.length Kp) ⟨startV N.length ss, cs.map some⟩) : VFn P w K mg base (k + 1) x ps p := by
  obtain ⟨f, fd, F, b, g⟩ := Fd.ex
  exact ⟨f, fd, okV F S len fun cdv A outer s H E hr => ⟨t, hb hr, rd⟩, F.kp, b, g⟩
theorem vacF {x : Str} {st : Stmt} {N ps : List Str} {k : Nat} {p : VSp} (Fd : Df K mg x st ps) (S : FnScope N ps (defScope st)) (no : ∀ ss st Kp, ¬ p ss st Kp) : VFn P w K mg base (k + 1) x ps p := by
  obtain ⟨f, fd, F, b, g⟩ := Fd.ex
  exact ⟨f, fd, vac F S no, F.kp, b, g⟩
end
theorem at0 {x : D} {xs : List D} : atI (x :: xs) 0 = some x := atI_nat (j := 0) rfl
theorem at1 {x y : D} {xs : List D} : atI (x :: y :: xs) 1 = some y := atI_nat (j := 1) rfl
theorem at2 {x y z : D} {xs : List D} : atI (x :: y :: z :: xs) 2 = some z := atI_nat (j := 2) rfl
theorem at3 {x y z u : D} {xs : List D} : atI (x :: y :: z :: u :: xs) 3 = some u := atI_nat (j := 3) rfl
theorem ix20 : ixN 2 0 = some 0 := rfl
theorem ix21 : ixN 2 1 = some 1 := rfl
theorem map_inj' {α β : Type} {f : α → β} (h : ∀ x y, f x = f y → x = y) : ∀ {a b : List α}, a.map f = b.map f → a = b
  | [], [], _ => rfl
  | [], _ :: _, e => by simp at e
  | _ :: _, [], e => by simp at e
  | x :: a, y :: b, e => by
    simp only [List.map_cons, List.cons.injEq] at e
    rw [h _ _ e.1, map_inj' h e.2]
theorem ofs_inj (a b : String) : (Str.ofString a = Str.ofString b) = (a = b) := by
  refine propext ⟨fun h => ?_, fun h => by rw [h]⟩
  rw [Str.ofString_eq_toList, Str.ofString_eq_toList] at h
  have h1 : a.toList.map Char.toNat = b.toList.map Char.toNat := by
    have := congrArg (fun s => s.cps.toList) h
    simpa using this
  exact String.toList_inj.mp (map_inj' (fun x y e => Char.ext (UInt32.toNat_inj.mp e)) h1)
theorem ofs_app (a b : String) : Str.ofString a ++ Str.ofString b = Str.ofString (a ++ b) := by
  rw [Str.ofString_eq_toList, Str.ofString_eq_toList, Str.ofString_eq_toList, String.toList_append, List.map_append]
  show Str.mk _ = Str.mk _
  congr 1
  simp
theorem ofs_len (a : String) : (Str.ofString a).length = a.length := by
  rw [Str.ofString_eq_toList]
  show (a.toList.map Char.toNat).toArray.size = _
  simp [String.length_toList]
def okEq : D → D → Prop
  | .int _, .int _ => True
  | .str _, .str _ => True
  | d, c => shp d = true ∧ shp c = true
theorem okEq_of {d c : D} (h1 : shp d = true) (h2 : shp c = true) : okEq d c := by
  unfold okEq
  split <;> first | trivial | exact ⟨h1, h2⟩
def xEq (neg : Bool) (s1 s2 : Sl) (e : En) (Kp : KE) : Prop := match pk s1 e, pk s2 e with
  | some d, some c => okEq d c ∧ Kp (.val (.bool (if neg then !PyData.eqv d c else PyData.eqv d c))) e
  | _, _ => False
theorem xEq_of {neg : Bool} {s1 s2 : Sl} {e : En} {Kp : KE} (h : xEq neg s1 s2 e Kp) : opEq neg s1 s2 e Kp := by
  unfold xEq at h
  unfold opEq
  split at h
  · rename_i d c h1 h2
    rw [h1, h2]
    split
    · rename_i i j a1 a2
      cases a1
      cases a2
      have q := h.2
      have z : PyData.eqv (.int i) (.int j) = decide (i = j) := Bool.eq_iff_iff.mpr (by show (i == j) = true ↔ _; simp)
      rw [z] at q
      exact q
    · rename_i i j a1 a2
      cases a1
      cases a2
      have q := h.2
      have z : PyData.eqv (.str i) (.str j) = decide (i = j) := Bool.eq_iff_iff.mpr (by show (i == j) = true ↔ _; simp)
      rw [z] at q
      exact q
    · rename_i d' c' n1 n2 a1 a2
      cases a1
      cases a2
      have q := h.1
      unfold okEq at q
      split at q
      · exact absurd rfl (n1 _ _ rfl)
      · exact absurd rfl (n2 _ _ rfl)
      · exact ⟨q.1, q.2, h.2⟩
    · rename_i n1
      exact n1 _ _ rfl rfl
  · exact h.elim
theorem p_xeq {K : PySem.W.Frag} {neg : Bool} : Prim2 K (rEq2 K neg) (xEq neg) := fun rep a1 a2 ho fin => p_eq rep a1 a2 (xEq_of ho) fin
section
variable {X : Cx} {a b : Expr} {ta tb : VTE} {pos : Pos}
theorem ve_xeq (hu : X.A.units + 190 < cLine) (ha : VE X a ta) (hb : VE X b tb) (hm : behindInMarks .Eq b = false := by exact nomark _) : VE X (.Compare a [.Eq] [b] pos) (v2 (xEq false) ta tb) := ve_cmp p_xeq (op_eq2 hu) ha hb hm
theorem vt_xeq (hu : X.A.units + 190 < cLine) (ha : VE X a ta) (hb : VE X b tb) (hm : behindInMarks .Eq b = false := by exact nomark _) : VT X (.Compare a [.Eq] [b] pos) (vTest (v2 (xEq false) ta tb)) := vt_cmp p_xeq (op_eq2 hu) ha hb hm
theorem vt_xne (hu : X.A.units + 190 < cLine) (ha : VE X a ta) (hb : VE X b tb) (hm : behindInMarks .NotEq b = false := by exact nomark _) : VT X (.Compare a [.NotEq] [b] pos) (vTest (v2 (xEq true) ta tb)) := vt_cmp p_xeq (op_ne2 hu) ha hb hm
end
theorem okEq_str (a b : Str) : okEq (.str a) (.str b) = True := rfl
theorem okEq_int (a b : Int) : okEq (.int a) (.int b) = True := rfl
theorem eqv_str (a b : Str) : PyData.eqv (.str a) (.str b) = decide (a = b) := by
  show (a == b) = _
  exact Bool.eq_iff_iff.mpr (by simp)
theorem eqvAll_cons (a b : D) (as bs : List D) : PyData.eqvAll (a :: as) (b :: bs) = (PyData.eqv a b && PyData.eqvAll as bs) := by
  rw [PyData.eqvAll]
theorem eqvAll_nil : PyData.eqvAll [] [] = true := by rw [PyData.eqvAll]
theorem eqv_tup (as bs : List D) : PyData.eqv (.tuple as) (.tuple bs) = PyData.eqvAll as bs := by rw [PyData.eqv]
theorem eqvAll_nc (b : D) (bs : List D) : PyData.eqvAll [] (b :: bs) = false := by rw [PyData.eqvAll]
theorem eqvAll_cn (b : D) (bs : List D) : PyData.eqvAll (b :: bs) [] = false := by rw [PyData.eqvAll]
theorem depthAll_nil : PyData.depthAll [] = 0 := by rw [PyData.depthAll]
theorem depthAll_cons (x : D) (xs : List D) : PyData.depthAll (x :: xs) = max x.depth (PyData.depthAll xs) := by rw [PyData.depthAll]
theorem depth_tup (xs : List D) : PyData.depth (.tuple xs) = PyData.depthAll xs + 1 := by rw [PyData.depth]
theorem depth_lst (xs : List D) : PyData.depth (.list xs) = PyData.depthAll xs + 1 := by rw [PyData.depth]
theorem depth_str (x : Str) : PyData.depth (.str x) = 0 := by rw [PyData.depth]
theorem can_tup (xs : List D) : PyData.canLay0 (.tuple xs) = PyData.canLayAll0 xs := by rw [PyData.canLay0]
theorem can_lst (xs : List D) : PyData.canLay0 (.list xs) = PyData.canLayAll0 xs := by rw [PyData.canLay0]
theorem can_str (x : Str) : PyData.canLay0 (.str x) = PyData.strOk x := by rw [PyData.canLay0]
theorem canAll_nil : PyData.canLayAll0 [] = true := by rw [PyData.canLayAll0]
theorem canAll_cons (x : D) (xs : List D) : PyData.canLayAll0 (x :: xs) = (x.canLay0 && PyData.canLayAll0 xs) := by rw [PyData.canLayAll0]
theorem cut1 (x : D) (xs : List D) : Vl.cut (x :: xs) (some 1) none = xs := by
  unfold Vl.cut HT.sIx
  simp
theorem eqv_int (a b : Int) : PyData.eqv (.int a) (.int b) = decide (a = b) := by
  show (a == b) = _
  exact Bool.eq_iff_iff.mpr (by simp)
theorem sz0 : (0 ≤ sizeLine) = True := eq_true (by decide)
theorem sz1 : (1 ≤ sizeLine) = True := eq_true (by decide)
theorem sz2 : (2 ≤ sizeLine) = True := eq_true (by decide)
theorem sz3 : (3 ≤ sizeLine) = True := eq_true (by decide)
theorem sz4 : (4 ≤ sizeLine) = True := eq_true (by decide)
theorem sz5 : (5 ≤ sizeLine) = True := eq_true (by decide)
theorem sz6 : (6 ≤ sizeLine) = True := eq_true (by decide)
theorem sz7 : (7 ≤ sizeLine) = True := eq_true (by decide)
theorem sz8 : (8 ≤ sizeLine) = True := eq_true (by decide)
theorem sz9 : (9 ≤ sizeLine) = True := eq_true (by decide)
theorem sz10 : (10 ≤ sizeLine) = True := eq_true (by decide)
theorem sz11 : (11 ≤ sizeLine) = True := eq_true (by decide)
theorem sz12 : (12 ≤ sizeLine) = True := eq_true (by decide)
theorem sz13 : (13 ≤ sizeLine) = True := eq_true (by decide)
theorem sz14 : (14 ≤ sizeLine) = True := eq_true (by decide)
theorem sz15 : (15 ≤ sizeLine) = True := eq_true (by decide)
theorem sz16 : (16 ≤ sizeLine) = True := eq_true (by decide)
theorem sz17 : (17 ≤ sizeLine) = True := eq_true (by decide)
theorem sz18 : (18 ≤ sizeLine) = True := eq_true (by decide)
theorem sz19 : (19 ≤ sizeLine) = True := eq_true (by decide)
theorem sz20 : (20 ≤ sizeLine) = True := eq_true (by decide)
theorem sz21 : (21 ≤ sizeLine) = True := eq_true (by decide)
theorem sz22 : (22 ≤ sizeLine) = True := eq_true (by decide)
theorem sz23 : (23 ≤ sizeLine) = True := eq_true (by decide)
theorem sz24 : (24 ≤ sizeLine) = True := eq_true (by decide)
theorem sz25 : (25 ≤ sizeLine) = True := eq_true (by decide)
theorem cpow1018 : CPow 10 18 = True := eq_true ⟨by decide, by decide, by decide⟩
theorem cmul_l {i j : Int} (h : -(2 ^ 64) < i ∧ i < 2 ^ 64) : CMul i j := .inl h
end Vl
namespace Vl
open PySem L2 PySem.Spec PyProof.Rows
def isNone : D → Bool
  | .none => true
  | _ => false
theorem isNone_n : isNone .none = true := rfl
theorem isNone_t (ds : List D) : isNone (.tuple ds) = false := rfl
theorem isNone_l (ds : List D) : isNone (.list ds) = false := rfl
theorem isNone_i (i : Int) : isNone (.int i) = false := rfl
theorem isNone_s (i : Str) : isNone (.str i) = false := rfl
theorem vNext_mk (n r b c x e) : vNext ⟨n, r, b, c, x⟩ e = n e := rfl
def xIsN (neg : Bool) (s1 s2 : Sl) (e : En) (Kp : KE) : Prop := match pk s1 e, pk s2 e with
  | some d, some .none => Kp (.val (.bool (if neg then !isNone d else isNone d))) e
  | _, _ => False
def okIn (d : D) : D → Prop
  | .tuple ds => flatD d = true ∧ ds.all flatD = true
  | .list ds => SeqAt.shaped d = true ∧ SeqAt.shaped (.list ds) = true
  | _ => False
def inD (d : D) : D → Bool
  | .tuple ds => ds.any fun z => PyData.eqv z d
  | .list ds => ds.any fun z => PyData.eqv z d
  | _ => false
def xIn (neg : Bool) (s1 s2 : Sl) (e : En) (Kp : KE) : Prop := match pk s1 e, pk s2 e with
  | some d, some c => okIn d c ∧ Kp (.val (.bool (if neg then !inD d c else inD d c))) e
  | _, _ => False
theorem xIn_of {neg : Bool} {s1 s2 : Sl} {e : En} {Kp : KE} (h : xIn neg s1 s2 e Kp) : opIn3 neg s1 s2 e Kp := by
  unfold xIn at h
  unfold opIn3 opIn
  cases h1 : pk s1 e with
  | none =>
    rw [h1] at h
    exact h.elim
  | some d =>
    rw [h1] at h
    cases h2 : pk s2 e with
    | none =>
      rw [h2] at h
      exact h.elim
    | some c =>
      rw [h2] at h
      have h' : okIn d c ∧ Kp (.val (.bool (if neg then !inD d c else inD d c))) e := h
      cases c with
      | tuple ds => exact ⟨h'.1.1, h'.1.2, h'.2⟩
      | list ds => cases d <;> exact ⟨h'.1.1, h'.1.2, h'.2⟩
      | _ => exact h'.1.elim
section
variable {X : Cx} {a b : Expr} {ta tb : VTE} {pos : Pos}
theorem p_xin {K : PySem.W.Frag} : Prim2 K (rIn3 K) (xIn false) := fun rep a1 a2 ho fin => p_in3 rep a1 a2 (xIn_of ho) fin
theorem p_xnotIn {K : PySem.W.Frag} : Prim2 K (rNotIn3 K) (xIn true) := fun rep a1 a2 ho fin => p_notIn3 rep a1 a2 (xIn_of ho) fin
theorem ve_xin (hu : X.A.units + 190 < cLine) (ha : VE X a ta) (hb : VE X b tb) (hm : behindInMarks .In b = false := by first | rfl | exact nomark _) : VE X (.Compare a [.In] [b] pos) (v2 (xIn false) ta tb) := ve_cmp p_xin (op_in3 hu) ha hb hm
theorem vt_xin (hu : X.A.units + 190 < cLine) (ha : VE X a ta) (hb : VE X b tb) (hm : behindInMarks .In b = false := by first | rfl | exact nomark _) : VT X (.Compare a [.In] [b] pos) (vTest (v2 (xIn false) ta tb)) := vt_cmp p_xin (op_in3 hu) ha hb hm
theorem vt_xnotIn (hu : X.A.units + 190 < cLine) (ha : VE X a ta) (hb : VE X b tb) (hm : behindInMarks .NotIn b = false := by first | rfl | exact nomark _) : VT X (.Compare a [.NotIn] [b] pos) (vTest (v2 (xIn true) ta tb)) := vt_cmp p_xnotIn (op_notIn3 hu) ha hb hm
end
theorem eqv_ti (as : List D) (i : Int) : PyData.eqv (.tuple as) (.int i) = false := by rw [PyData.eqv]
theorem eqv_it (as : List D) (i : Int) : PyData.eqv (.int i) (.tuple as) = false := by rw [PyData.eqv]
theorem eqv_st (as : List D) (i : Str) : PyData.eqv (.str i) (.tuple as) = false := by rw [PyData.eqv]
theorem eqv_ts (as : List D) (i : Str) : PyData.eqv (.tuple as) (.str i) = false := by rw [PyData.eqv]
theorem eqv_lst (as bs : List D) : PyData.eqv (.list as) (.list bs) = PyData.eqvAll as bs := by rw [PyData.eqv]
theorem eqv_nil (xs : List D) : PyData.eqv (.list xs) (.list []) = xs.isEmpty := by
  cases xs with
  | nil => rw [PyData.eqv, eqvAll_nil]; rfl
  | cons x xs => rw [PyData.eqv, eqvAll_cn]; rfl
theorem cl_inv {g : VTG} {tt : VTT} {te : VTE} {chk : Option (En → Prop)} {vs : List Nat} {n : Nat} {ds : List D} {Kp : List D → En → Prop} (I : Nat → List D → En → Prop) (hc : ∀ i acc e, i ≤ ds.length → I i acc e → okc chk e)
    (hs : ∀ (i : Nat) (d : D) (acc : List D) (e : En) (Kt : List D → En → Prop), ds[i]? = some d → I i acc e → (∀ acc' e', I (i + 1) acc' e' → Kt acc' e') → g (.val d) e fun e1 => tt e1 fun b e2 => if b = true then te e2 fun s e3 => asD s e3 fun y e4 => acc.length < sizeLine ∧ Kt (acc ++ [y]) ((e4.wipe vs).trim n) else Kt acc ((e2.wipe vs).trim n))
    (hd : ∀ acc e, I ds.length acc e → Kp acc e) {acc : List D} {e : En} (h0 : I 0 acc e) : cl g tt te chk vs n ds acc e Kp := by
  have wc : ∀ {e : En} {p : Prop}, okc chk e → p → wth chk e p := fun {e p} h q => by
    cases chk with
    | none => exact q
    | some c => exact ⟨h, q⟩
  suffices h : ∀ (m i : Nat) (acc : List D) (e : En), m = ds.length - i → i ≤ ds.length → I i acc e → cl g tt te chk vs n (ds.drop i) acc e Kp by
    have := h ds.length 0 acc e (by simp) (Nat.zero_le _) h0
    simpa using this
  intro m
  induction m with
  | zero =>
    intro i acc e hm hi h
    have : i = ds.length := by omega
    subst this
    rw [List.drop_length]
    exact wc (hc _ _ _ hi h) (hd acc e h)
  | succ m ih =>
    intro i acc e hm hi h
    have hlt : i < ds.length := by omega
    rw [List.drop_eq_getElem_cons hlt]
    exact wc (hc _ _ _ hi h) (hs i _ acc e (fun acc' e' => cl g tt te chk vs n (ds.drop (i + 1)) acc' e' Kp) (List.getElem?_eq_getElem hlt) h fun acc' e' h' => ih (i + 1) acc' e' (by omega) hlt h')
/-- a comprehension that takes all, each by itself -/
theorem cl_map {g : VTG} {te : VTE} {vs : List Nat} {n : Nat} {ds : List D} {Kp : List D → En → Prop} (f : D → D) {e : En} {acc : List D} (hl : acc.length + ds.length ≤ sizeLine)
    (hs : ∀ (d : D) (Kt : D → En → Prop), d ∈ ds → (∀ e', (e'.wipe vs).trim n = e → Kt (f d) e') → g (.val d) e fun e1 => te e1 fun s e3 => asD s e3 Kt) (h : Kp (acc ++ ds.map f) e) : cl g vYes te none vs n ds acc e Kp := by
  refine cl_inv (chk := none) (fun i a e' => a = acc ++ (ds.take i).map f ∧ e' = e) (fun _ _ _ _ _ => trivial) ?_ ?_ ⟨by simp, rfl⟩
  · rintro i d a e' Kt hd ⟨rfl, rfl⟩ hk
    have hlt := (List.getElem?_eq_some_iff.mp hd).1
    unfold vYes
    simp only [if_true]
    refine hs d (fun y e4 => (acc ++ (ds.take i).map f).length < sizeLine ∧ Kt (acc ++ (ds.take i).map f ++ [y]) ((e4.wipe vs).trim n)) (List.mem_of_getElem? hd) fun e4 h4 => ⟨?_, hk _ _ ⟨?_, h4⟩⟩
    · rw [List.length_append, List.length_map, List.length_take]
      omega
    · rw [List.take_add_one, hd, List.map_append, List.append_assoc] <;> rfl
  · rintro a e' ⟨rfl, rfl⟩
    rw [List.take_length]
    exact h
end Vl
namespace Vl
open PySem L2
section
variable {X : Cx} {a b c : Expr} {ta tb tc : VTE} {pos : Pos}
theorem lift_chain {r r' : R2} {o o' : Sl → Sl → En → KE → Prop} (p : Prim2 X.K r o) (p' : Prim2 X.K r' o') (σ : L2.St) (H : Hp) (Q : VK) (h : liftE X.K (vChain o o' ta tb tc) σ H Q) : tChain r r' (liftE X.K ta) (liftE X.K tb) (liftE X.K tc) σ H Q := by
  obtain ⟨R, F, A, e, Kp, rep, ht, fin⟩ := h
  refine ⟨R, F, A, e, _, rep, ht, fun s1 e1 x F1 A1 H1 k1 f1 p1 rep1 at1 => ⟨R, F1, A1, e1, _, rep1, k1, fun s2 e2 y F2 A2 H2 k2 f2 p2 rep2 at2 => p rep2 (at1.le f2 p2) at2 k2 fun z e3 v F3 A3 H3 k3 f3 p3 rep3 at3 => ?_⟩⟩
  have fin3 := fin.tr (f1.trans (f2.trans f3)) (p1.trans (p2.trans p3))
  split at k3
  · rename_i b hb
    refine ⟨b, (rep3.pk at3 hb).bool, ?_⟩
    split at k3
    · rename_i hb2
      rw [if_pos hb2]
      exact ⟨R, F3, A3, e3, _, rep3, k3, fun s3 e4 w F4 A4 H4 k4 f4 p4 rep4 at4 => p' rep4 (at2.le (f3.trans f4) (p3.trans p4)) at4 k4 (fin3.tr f4 p4)⟩
    · rename_i hb2
      rw [if_neg hb2]
      exact fin3.val rep3 k3 (.bl false)
  · exact k3.elim
theorem vt_chain {op op' : CmpOp} {r r' : R2} {o o' : Sl → Sl → En → KE → Prop} (p : Prim2 X.K r o) (p' : Prim2 X.K r' o') (ho : OpR X (compareOp op) r) (ho' : OpR X (compareOp op') r') (ha : VE X a ta) (hb : VE X b tb) (hc : VE X c tc)
    (hm : lastMarks [op, op'] [b, c] = false := by with_unfolding_all rfl) : VT X (.Compare a [op, op'] [b, c] pos) (vTest (vChain o o' ta tb tc)) :=
  PT.imp (pt_chain ho ho' ha hb hc hm) fun σ H Q h => lift_chain p p' σ H _ (by
    obtain ⟨R, F, A, e, Kp, rep, ht, fin⟩ := h
    refine ⟨R, F, A, e, _, rep, ht, fun s1 e1 x F1 A1 H1 k1 f1 p1 rep1 at1 => ?_⟩
    split at k1
    · rename_i b hb
      exact ⟨b, (rep1.pk at1 hb).bool, fin b e1 F1 A1 H1 k1 f1 p1 rep1⟩
    · exact k1.elim)
end
open PySem.Spec PyProof.Rows PySem.Calls
theorem Fin.newD {K : PySem.W.Frag} {R F : Hp} {A : List Addr} {σ : L2.St} {H : Hp} {e : En} {Kp : KE} {Q : VK} (f : Fin K R F A σ Kp Q) (r : Rep K R F A σ H e) {p : Addr} (hp : H p = none) (k : Kp (.val (.dict [])) e) : Q (.ref p) (upd H p (.dK [])) := by
  obtain ⟨r2, l⟩ := r.fresh hp (.dK [])
  exact f (.val (.dict [])) e (.ref p) _ A _ k l (pfx_refl A) r2 (.dct upd_same)
def vDct : VTE := fun e Kp => Kp (.val (.dict [])) e
theorem ve_dct {X : Cx} {pos : Pos} : VE X (.Dict [] [] pos) vDct := PE.imp pe_dnewK fun σ H Q h => by
  obtain ⟨R, F, A, e, Kp, rep, ht, fin⟩ := h
  exact fun p hp => fin.newD rep hp ht
end Vl
namespace Vl
open PySem L2 PySem.Spec PyProof.Rows
def intsD : List D → Option (List Int)
  | [] => some []
  | .int x :: ds => (intsD ds).map (x :: ·)
  | _ => none
def kOps {α : Type} (o : Option α) (k : α → Prop) : Prop := match o with
  | some d => k d
  | none => False
theorem kOps_some {α : Type} {d : α} {k : α → Prop} : kOps (some d) k = k d := rfl
def opSum (ss : List Sl) (e : En) (Kp : KE) : Prop := match ss with
  | [s] => (match pk s e with
    | some (.list ds) => kOps (intsD ds) fun ns => Kp (.val (.int ns.sum)) e
    | _ => False)
  | _ => False
section
variable {X : Cx} {a b o : Expr} {ta tb to : VTE} {pos : Pos}
def opInsert (s : Sl) (ss : List Sl) (e : En) (Kp : KE) : Prop := match ss with
  | [si, t] => (match pk si e with
    | some (.int i) => asD t e fun d e1 => (match s with
      | .obj j => (match e1.st[j]? with
        | some (some (.l ds)) => (ds.length < sizeLine ∧ 0 ≤ i ∧ i < 2 ^ 63) ∧ Kp (.val .none) ⟨e1.sl, e1.st.set j (some (.l (ds.take i.toNat ++ [d] ++ ds.drop i.toNat)))⟩
        | _ => False)
      | _ => False)
    | _ => False)
  | _ => False
/-- where data stands first -/
def ixD (d : D) : List D → Option Nat
  | [] => none
  | z :: ds => if PyData.eqv z d = true then some 0 else (ixD d ds).map (· + 1)
def opIndex (s : Sl) (ss : List Sl) (e : En) (Kp : KE) : Prop := match ss with
  | [t] => (match pk s e, pk t e with
    | some (.list ds), some d => (SeqAt.shaped (.list ds) = true ∧ SeqAt.shaped d = true) ∧ kOps (ixD d ds) fun j => Kp (.val (.int (j : Nat))) e
    | _, _ => False)
  | _ => False
def opDivmod (ss : List Sl) (e : En) (Kp : KE) : Prop := match ss with
  | [s, t] => (match pk s e, pk t e with
    | some (.int i), some (.int j) => CDiv6 i j ∧ Kp (.val (.tuple [.int (i / j), .int (i % j)])) e
    | _, _ => False)
  | _ => False
end
end Vl
namespace Vl
open PySem L2 PySem.Spec PyProof.Rows
theorem cl_mapE {α : Type} {g : VTG} {te : VTE} {vs : List Nat} {n : Nat} {Kp : List D → En → Prop} (enc f : α → D) (xs : List α) {e : En} {acc : List D} (hl : acc.length + xs.length ≤ sizeLine)
    (hs : ∀ (x : α) (Kt : D → En → Prop), x ∈ xs → (∀ e', (e'.wipe vs).trim n = e → Kt (f x) e') → g (.val (enc x)) e fun e1 => te e1 fun s e3 => asD s e3 Kt) (h : Kp (acc ++ xs.map f) e) : cl g vYes te none vs n (xs.map enc) acc e Kp := by
  refine cl_inv (chk := none) (fun i a e' => a = acc ++ (xs.take i).map f ∧ e' = e) (fun _ _ _ _ _ => trivial) ?_ ?_ ⟨by simp, rfl⟩
  · rintro i d a e' Kt hd ⟨rfl, rfl⟩ hk
    rw [List.getElem?_map] at hd
    obtain ⟨x, hx, rfl⟩ := Option.map_eq_some_iff.mp hd
    have hlt := (List.getElem?_eq_some_iff.mp hx).1
    unfold vYes
    simp only [if_true]
    refine hs x (fun y e4 => (acc ++ (xs.take i).map f).length < sizeLine ∧ Kt (acc ++ (xs.take i).map f ++ [y]) ((e4.wipe vs).trim n)) (List.mem_of_getElem? hx) fun e4 h4 => ⟨?_, hk _ _ ⟨?_, h4⟩⟩
    · rw [List.length_append, List.length_map, List.length_take]
      omega
    · rw [List.take_add_one, hx, List.map_append, List.append_assoc] <;> rfl
  · rintro a e' ⟨rfl, rfl⟩
    rw [List.length_map, List.take_length]
    exact h
theorem rng_eq (lo : Int) (n : Nat) : rng lo n = (List.range n).map fun (i : Nat) => PyData.int (lo + i) := rfl
end Vl
namespace Vl
open PySem L2 PySem.Spec PyProof.Rows
def spLaw (K : PySem.W.Frag) : Sp := fun vs H Q _ => ∃ (a : Addr) (ns : List Int), vs = [.ref a] ∧ SqL K H a (ns.map V.int) ∧ ns.length ≤ 63 ∧ (∀ P, TbK K P → GxR.TabG H P) ∧ ∀ H', Q (.bl true) H'
def pLaw : VSp := fun ss st Kp => ∃ ns : List Int, ss = [.kn (ns.map .int)] ∧ st = [] ∧ ns.length ≤ 63 ∧ Kp (.val (.bool true)) []
theorem atL_ints {K : PySem.W.Frag} {F : Hp} : ∀ ns : List Int, AtL K F (ns.map .int) (ns.map V.int)
  | [] => .nil
  | n :: ns => .cons (.int n) (atL_ints ns)
open Classical in
theorem law_sp {K : PySem.W.Frag} : ∀ vs H Q E, spLaw K vs H Q E → spV K pLaw vs H Q E := by
  rintro vs H Q E ⟨a, ns, rfl, hs, hl, ht, hq⟩
  let F : Hp := fun b => if b = a ∧ ¬ TbK K b then H b else none
  have hF : ∀ {b : Addr} {o : HO}, F b = some o → H b = some o := fun {b o} h => by
    have h' : (if b = a ∧ ¬ TbK K b then H b else none) = some o := h
    split at h'
    · exact h'
    · cases h'
  have ha : ∀ o, H a = some o → (∀ ps, o ≠ .tbl ps) → F a = some o := fun o h no => by
    show (if a = a ∧ ¬ TbK K a then H a else none) = some o
    rw [if_pos ⟨rfl, fun z => by
      obtain ⟨ps, h1, _⟩ := ht a z
      rw [h] at h1
      exact no ps (Option.some.inj h1)⟩, h]
  have tb : Tbs K (fun _ => none) F H [] := ⟨fun P hP => ⟨ht P hP, by
    show (if P = a ∧ ¬ TbK K P then H P else none) = none
    rw [if_neg (fun z => z.2 hP)], rfl, List.not_mem_nil⟩⟩
  refine ⟨fun _ => none, F, [], [.kn (ns.map .int)], [], fun s st => s = .val (.bool true), ⟨fun b o h => hF h, fun _ _ h => (nomatch h), fun _ _ h => (nomatch h), rfl, rfl, List.nodup_nil, fun _ h => (nomatch h), fun i s h => ?_, fun j ob h => (by simp at h), tb⟩, ⟨ns, rfl, rfl, hl, rfl⟩, ?_⟩
  · cases i with
    | zero =>
      have h' : some (some (Sl.kn (ns.map .int))) = some (some s) := h
      cases h'
      refine ⟨.ref a, rfl, a, ns.map V.int, rfl, ?_, atL_ints ns⟩
      rcases hs with (h | ⟨o, h⟩) | h
      · exact .inl (.inl (ha _ h fun _ z => by cases z))
      · exact .inl (.inr ⟨o, ha _ h fun _ z => by cases z⟩)
      · exact .inr h
    | succ i => simp at h
  · rintro s st' v F' A' H' rfl l p rep
    obtain ⟨v', hv, av⟩ := rep.slot 0 _ rfl
    have e : some v = some v' := by simpa using hv
    cases e
    cases (show At K F' (.bool true) v from av)
    exact hq H'
end Vl
namespace Vl
open PySem L2
def En.wk (m : Nat) (fs : List Nat) (e : En) : En := if e.st.any isMo = true then ⟨wipeE e.sl fs, e.st⟩ else ⟨(wipeE e.sl fs).map (clr m), e.st.take m⟩
theorem Rep.wk {K : PySem.W.Frag} {R F : Hp} {A A1 : List Addr} {σ : L2.St} {H : Hp} {e : En} (r : Rep K R F A σ H e) {n : Nat} (p : A1 <+: A) (hn : A1.length = n) (m : Nat) (fs : List Nat) (hm : n ≤ m) : ∃ A', A1 <+: A' ∧ Rep K R F A' σ H (e.wk m fs) := by
  have r' : Rep K R F A σ H ⟨wipeE e.sl fs, e.st⟩ := r.weak (by rw [wipeE_len]; exact r.len) fun i s h => r.slot i s (wipeE_at h).2
  by_cases hmo : e.st.any isMo = true
  · refine ⟨A, p, ?_⟩
    unfold En.wk
    rw [if_pos hmo]
    exact r'
  have et : e.wk m fs = ⟨(wipeE e.sl fs).map (clr m), e.st.take m⟩ := by
    unfold En.wk
    rw [if_neg hmo]
  rw [et]
  have pa : A.take m <+: A := List.take_prefix _ _
  refine ⟨A.take m, ?_, r.sub, r.keep, fun a o z => ⟨(r.apart a o z).1, fun hm => (r.apart a o z).2 (List.mem_of_mem_take hm)⟩, by simp [r'.len], ?_, ?_, fun a ha => r.live a (List.mem_of_mem_take ha), fun i s z => ?_, fun j ob z => ?_, r.tabs.sub fun a ha => List.mem_of_mem_take ha⟩
  · have h1 : A1.length ≤ A.length := p.length_le
    exact List.prefix_of_prefix_length_le p pa (by rw [List.length_take]; omega)
  · show (e.st.take m).length = _
    rw [List.length_take, List.length_take, r.lenA]
  · exact (List.take_sublist _ _).nodup r.nodup
  · have z' : ((wipeE e.sl fs).map (clr m))[i]? = some (some s) := z
    rw [List.getElem?_map] at z'
    obtain ⟨t, ht, hs⟩ := Option.map_eq_some_iff.mp z'
    cases t with
    | none => cases hs
    | some t =>
      obtain ⟨v, h1, h2⟩ := r'.slot i t ht
      cases t with
      | val d =>
        cases hs
        exact ⟨v, h1, h2⟩
      | kn d =>
        cases hs
        exact ⟨v, h1, h2⟩
      | exc d =>
        cases hs
        exact ⟨v, h1, h2⟩
      | obj j =>
        replace hs : (if j < m then some (Sl.obj j) else none) = some s := hs
        split at hs
        · rename_i hj
          cases hs
          obtain ⟨a, e1, e2⟩ := h2
          exact ⟨v, h1, a, by rw [List.getElem?_take_of_lt hj]; exact e1, e2⟩
        · cases hs
  · have z' : (e.st.take m)[j]? = some (some ob) := z
    have hj : j < m := by
      have := (List.getElem?_eq_some_iff.mp z').1
      rw [List.length_take] at this
      omega
    rw [List.getElem?_take_of_lt hj] at z'
    obtain ⟨a, h1, h2, h3⟩ := r.store j ob z'
    refine ⟨a, by rw [List.getElem?_take_of_lt hj]; exact h1, h2, h3.noMo ?_⟩
    cases q : isMo (some ob) with
    | false => rfl
    | true => exact absurd (List.any_eq_true.mpr ⟨_, List.mem_of_getElem? z', q⟩) hmo
def wlW (c : VTT) (tb : VTS) (n : Nat) : Nat → VEnds → En → Prop
  | 0, _, _ => False
  | m + 1, D, e => c e fun b e1 => if b = true then tb { D with nx := fun e' => ∃ q fs, n ≤ q ∧ wlW c tb n m D (e'.wk q fs), ct := fun e' => ∃ q fs, n ≤ q ∧ wlW c tb n m D (e'.wk q fs), bk := D.nx } e1 else D.nx e1
def vWhileW (c : VTT) (tb : VTS) : VTS := fun D e => ∃ m, wlW c tb e.st.length m D e
theorem vs_whileW {X : Cx} {pos : Pos} {c : Expr} {body : List Stmt} {tc : VTT} {tb : VTS} (hp : PassesOwn (model X.prog X.w) X.A X.env X.xe) (hc : VT X c tc) (hb : VSs X body tb) : VS X (.While c body [] pos) (vWhileW tc tb) := PS.imp (ps_while hp hc hb) fun D σ H h => by
  obtain ⟨R, F, A, e, DV, rep, ⟨m, k⟩, fin⟩ := h
  refine ⟨fun m σ' H' => ∃ F' A' e', Le F F' ∧ A <+: A' ∧ Rep X.K R F' A' σ' H' e' ∧ wlW tc tb e.st.length m DV e', ⟨m, F, A, e, Le.refl F, pfx_refl A, rep, k⟩, ?_⟩
  rintro m σ' H' ⟨F', A', e', l, p, rep', k⟩
  cases m with
  | zero => exact False.elim k
  | succ m =>
    refine ⟨R, F', A', e', _, rep', k, fun b e1 F1 A1 H1 k1 l1 p1 rep1 => ?_⟩
    cases b with
    | false => exact fin.nx _ _ _ _ _ k1 (l.trans l1) (p.trans p1) rep1
    | true =>
      have nxt : ∀ e2 σ2 F2 A2 H2, (∃ q fs, e.st.length ≤ q ∧ wlW tc tb e.st.length m DV (e2.wk q fs)) → Le F1 F2 → A1 <+: A2 → Rep X.K R F2 A2 σ2 H2 e2 → ∃ F' A' e', Le F F' ∧ A <+: A' ∧ Rep X.K R F' A' σ2 H2 e' ∧ wlW tc tb e.st.length m DV e' := fun e2 σ2 F2 A2 H2 ⟨q, fs, hq, k2⟩ l2 p2 rep2 => by
        obtain ⟨A3, p3, rep3⟩ := rep2.wk (A1 := A) (n := e.st.length) ((p.trans p1).trans p2) rep.lenA.symm q fs hq
        exact ⟨F2, A3, _, (l.trans l1).trans l2, p3, rep3, k2⟩
      refine ⟨fun σ2 H2 => ∃ F' A' e', Le F F' ∧ A <+: A' ∧ Rep X.K R F' A' σ2 H2 e' ∧ wlW tc tb e.st.length m DV e', fun σ2 H2 q => ⟨m, Nat.lt_succ_self m, q⟩, ?_⟩
      exact ⟨R, F1, A1, e1, _, rep1, k1, nxt, fun e2 σ2 F2 A2 H2 k2 l2 p2 rep2 => fin.nx _ _ _ _ _ k2 ((l.trans l1).trans l2) ((p.trans p1).trans p2) rep2, nxt, fun s e2 v σ2 F2 A2 H2 k2 l2 p2 rep2 a2 => fin.rt _ _ _ _ _ _ _ k2 ((l.trans l1).trans l2) ((p.trans p1).trans p2) rep2 a2, fin.ex.tr (l.trans l1) (p.trans p1)⟩
def flW (g : VTG) (tb : VTS) (chk : Option (En → Prop)) (n : Nat) : List D → VEnds → En → Prop
  | [], D, e => wth chk e (D.nx e)
  | d :: ds, D, e => wth chk e (g (.val d) e fun e1 => tb { D with nx := fun e' => ∃ q fs, n ≤ q ∧ flW g tb chk n ds D (e'.wk q fs), ct := fun e' => ∃ q fs, n ≤ q ∧ flW g tb chk n ds D (e'.wk q fs), bk := D.nx } e1)
def vForW (w : VTI) (g : VTG) (tb : VTS) : VTS := fun D e => w e fun ds chk e1 => flW g tb chk e1.st.length ds D e1
theorem vs_forW {X : Cx} {pos : Pos} {tg it : Expr} {body : List Stmt} {w : VTI} {g : VTG} {ws : List Nat} {tb : VTS} (hi : VI X tg it w) (hg : VG X tg ws g) (hb : VSs X body tb) (hp : ∀ {wi : TI} {tgg : TG} {tbb : TS}, PI X tg it wi → PG X tg tgg → PSs X body tbb → PS X (.For tg it body [] pos) (tFor wi tgg tbb)) :
    VS X (.For tg it body [] pos) (vForW w g tb) := PS.imp (hp hi hg hb) fun D σ H h => by
  obtain ⟨R, F, A, e, DV, rep, k, fin⟩ := h
  refine ⟨R, F, A, e, _, rep, k, fun ds chk e1 F1 A1 H1 J k1 l1 p1 rep1 it => ?_⟩
  refine ⟨fun i m σ' H' => ∃ F' A' e', m = ds.length - i ∧ i ≤ ds.length ∧ Le F1 F' ∧ A1 <+: A' ∧ Rep X.K R F' A' σ' H' e' ∧ flW g tb chk e1.st.length (ds.drop i) DV e', ⟨_, F1, A1, e1, rfl, Nat.zero_le _, Le.refl _, pfx_refl _, rep1, k1⟩, ?_⟩
  rintro i m σ' H' ⟨F', A', e', rfl, hi, l, p, rep', k⟩
  rcases Nat.lt_or_ge i ds.length with hlt | hge
  · right
    obtain ⟨d, hd⟩ : ∃ d, ds[i]? = some d := ⟨ds[i], by simp [hlt]⟩
    have hdr : ds.drop i = d :: ds.drop (i + 1) := by
      rw [List.drop_eq_getElem_cons hlt]
      rw [List.getElem?_eq_getElem hlt] at hd
      cases hd
      rfl
    rw [hdr] at k
    obtain ⟨kc, k⟩ := wth_ok k
    obtain ⟨g1, g2⟩ := it.go i d hd l p rep' kc
    have nxt : ∀ e2 σ2 F2 A2 H2, (∃ q fs, e1.st.length ≤ q ∧ flW g tb chk e1.st.length (ds.drop (i + 1)) DV (e2.wk q fs)) → Le F1 F2 → A1 <+: A2 → Rep X.K R F2 A2 σ2 H2 e2 → ∃ F' A' e', ds.length - (i + 1) = ds.length - (i + 1) ∧ i + 1 ≤ ds.length ∧ Le F1 F' ∧ A1 <+: A' ∧ Rep X.K R F' A' σ2 H2 e' ∧ flW g tb chk e1.st.length (ds.drop (i + 1)) DV e' := fun e2 σ2 F2 A2 H2 ⟨q, fs, hq, k2⟩ l2 p2 rep2 => by
      obtain ⟨A3, p3, rep3⟩ := rep2.wk (A1 := A1) (n := e1.st.length) p2 rep1.lenA.symm q fs hq
      exact ⟨F2, A3, _, rfl, hlt, l2, p3, rep3, k2⟩
    refine ⟨g1, fun σ2 H2 => ∃ F' A' e', ds.length - (i + 1) = ds.length - (i + 1) ∧ i + 1 ≤ ds.length ∧ Le F1 F' ∧ A1 <+: A' ∧ Rep X.K R F' A' σ2 H2 e' ∧ flW g tb chk e1.st.length (ds.drop (i + 1)) DV e', fun σ2 H2 q => ⟨ds.length - (i + 1), by omega, q⟩, fun x H3 y => ?_⟩
    obtain ⟨F3, l3, rep3, a3⟩ := g2 x H3 y
    refine ⟨R, F3, A', e', .val d, _, rep3, a3, k, fun e2 σ2 F2 A2 H2 k2 l2 p2 o2 rep2 => ⟨R, F2, A2, e2, _, rep2, k2, ?_⟩⟩
    have lf := (l.trans l3).trans l2
    have pf := p.trans p2
    exact ⟨fun e3 σ3 F4 A3 H4 k3 l4 p3 rep4 => nxt _ _ _ _ _ k3 (lf.trans l4) (pf.trans p3) rep4, fun e3 σ3 F4 A3 H4 k3 l4 p3 rep4 => fin.nx _ _ _ _ _ k3 (l1.trans (lf.trans l4)) (p1.trans (pf.trans p3)) rep4,
      fun e3 σ3 F4 A3 H4 k3 l4 p3 rep4 => nxt _ _ _ _ _ k3 (lf.trans l4) (pf.trans p3) rep4, fun s e3 v σ3 F4 A3 H4 k3 l4 p3 rep4 a4 => fin.rt _ _ _ _ _ _ _ k3 (l1.trans (lf.trans l4)) (p1.trans (pf.trans p3)) rep4 a4, fin.ex.tr (l1.trans lf) (p1.trans pf)⟩
  · left
    have e0 : i = ds.length := by omega
    subst e0
    rw [List.drop_length] at k
    obtain ⟨kc, k⟩ := wth_ok k
    exact ⟨it.stop l p rep' kc, fin.nx _ _ _ _ _ k (l1.trans l) (p1.trans p) rep'⟩
theorem fl_invW {α : Type} {g : VTG} {tb : VTS} {chk : Option (En → Prop)} {n : Nat} (enc : α → D) (xs : List α) {DV : VEnds} (I : List α → En → Prop) (hc : ∀ ys e, I ys e → okc chk e)
    (hs : ∀ (ys : List α) (x : α) (zs : List α) (e : En) (Nx : En → Prop), xs = ys ++ x :: zs → I ys e → (∀ e' q fs, n ≤ q → I (ys ++ [x]) (e'.wk q fs) → Nx e') → g (.val (enc x)) e fun e1 => tb { DV with nx := Nx, ct := Nx, bk := DV.nx } e1)
    (hd : ∀ e, I xs e → DV.nx e) {e : En} (h0 : I [] e) : flW g tb chk n (xs.map enc) DV e := by
  have wc : ∀ {e : En} {p : Prop}, okc chk e → p → wth chk e p := fun {e p} h q => by
    cases chk with
    | none => exact q
    | some c => exact ⟨h, q⟩
  suffices h : ∀ (zs ys : List α) (e : En), xs = ys ++ zs → I ys e → flW g tb chk n (zs.map enc) DV e from h xs [] e rfl h0
  intro zs
  induction zs with
  | nil =>
    intro ys e h hI
    rw [List.append_nil] at h
    subst h
    exact wc (hc _ _ hI) (hd e hI)
  | cons z zs ih =>
    intro ys e h hI
    exact wc (hc _ _ hI) (hs ys z zs e _ h hI fun e' q fs hq h' => ⟨q, fs, hq, ih (ys ++ [z]) _ (by rw [h]; simp) h'⟩)
theorem while_invW {c : VTT} {tb : VTS} {DV : VEnds} {e : En} (I : Nat → En → Prop)
    (hs : ∀ (m : Nat) (e' : En) (Nx : En → Prop), I m e' → (∀ m' e'' q fs, m' < m → e.st.length ≤ q → I m' (e''.wk q fs) → Nx e'') → c e' fun b e1 => if b = true then tb { DV with nx := Nx, ct := Nx, bk := DV.nx } e1 else DV.nx e1)
    {m : Nat} (h0 : I m e) : vWhileW c tb DV e := by
  suffices h : ∀ (f m : Nat) (e' : En), m < f → I m e' → wlW c tb e.st.length f DV e' from ⟨m + 1, h (m + 1) m e (Nat.lt_succ_self m) h0⟩
  intro f
  induction f with
  | zero => intro m e' h; omega
  | succ f ih => exact fun m e' h hI => hs m e' (fun e'' => ∃ q fs, e.st.length ≤ q ∧ wlW c tb e.st.length f DV (e''.wk q fs)) hI fun m' e'' q fs hm' hq h' => ⟨q, fs, hq, ih m' _ (by omega) h'⟩
def vStar (ta : VTE) (t : VTA) : VTA := fun e Kp => ta e fun s e1 => match pk s e1 with
  | some (.tuple ds) => t e1 fun ss e2 => Kp (ds.map .val ++ ss) e2
  | some (.list ds) => t e1 fun ss e2 => Kp (ds.map .val ++ ss) e2
  | _ => False
theorem SlAts.app {K : PySem.W.Frag} {F : Hp} {A : List Addr} {vs us : List V} {ss ts : List Sl} (h : SlAts K F A vs ss) (g : SlAts K F A us ts) : SlAts K F A (vs ++ us) (ss ++ ts) := by
  induction h with
  | nil => exact g
  | cons h _ ih => exact .cons h ih
end Vl
namespace Vl
open PySem L2 PySem.Spec PyProof.Rows
abbrev VSx := List Sl → List Ob → (Sl → List Ob → Prop) → (Xv → List Ob → Prop) → Prop
def spX (K : PySem.W.Frag) (mg : Str → Option Value) (p : VSx) : Sp := fun vs H Q E => ∃ R F A ss st Kp Ep, Rep K R F A (vs.map some) H ⟨ss.map some, st.map some⟩ ∧ p ss st Kp Ep ∧
  (∀ s st' v F' A' H', Kp s st' → Le F F' → A <+: A' → Rep K R F' A' [some v] H' ⟨[some s], st'.map some⟩ → Q v H') ∧
  (∀ x st' F' A' H' cls d, Ep x st' → Le F F' → A <+: A' → Rep K R F' A' [some .non] H' ⟨[some (.val .none)], st'.map some⟩ → XAt K mg F' H' x cls d → E cls d H')
structure VFx (P : Program) (w : World) (K : PySem.W.Frag) (mg : Str → Option Value) (base : Heap) (k : Nat) (x : Str) (ps : List Str) (p : VSx) : Prop where
  ex : ∃ f fd, FnOk P w K mg base (L2.CX P w) k f fd ps (spX K mg p) ∧ PySem.W.keepIn K (.ref f) = true ∧ Binds K fd ps [] ∧ mg x = some (.ref f)
theorem VFx.mono {P : Program} {w : World} {K : PySem.W.Frag} {mg : Str → Option Value} {base : Heap} {j k : Nat} {x : Str} {ps : List Str} {p : VSx} (h : VFx P w K mg base j x ps p) (l : j ≤ k) : VFx P w K mg base k x ps p := by
  obtain ⟨f, fd, a, b, c, d⟩ := h.ex
  exact ⟨f, fd, a.mono l, b, c, d⟩
abbrev VTEx := En → KE → (Xv → En → Prop) → Prop
def xN (op : List Sl → En → KE → (Xv → En → Prop) → Prop) (t : VTA) : VTEx := fun e Kp Ep => t e fun ss e1 => op ss e1 Kp Ep
end Vl
namespace Vl
open PySem L2 PySem.Spec PyProof.Rows
end Vl
namespace Vl
open PySem L2 PySem.Spec PyProof.Rows
end Vl
namespace Vl
open PySem L2 PySem.Spec PyProof.Rows
end Vl
namespace Vl
open PySem L2 PySem.Spec PyProof.Rows
end Vl
namespace Vl
open PySem L2
end Vl
namespace Vl
open PySem L2 PySem.Spec PyProof.Rows
abbrev Ky := L2.Key
def dKey : D → Option Ky
  | .int i => some (.inl i)
  | .str x => some (.inr x)
  | _ => none
def findK {α : Type} (kvs : List (Ky × α)) (k : Ky) : Option α := (kvs.find? fun kv => decide (kv.1 = k)).map (·.2)
def putM {α : Type} (kvs : List (Ky × α)) (k : Ky) (d : α) : List (Ky × α) :=
  if (kvs.any fun kv => decide (kv.1 = k)) = true then kvs.map (fun kv => if kv.1 = k then (kv.1, d) else kv) else kvs ++ [(k, d)]
section
variable {K : PySem.W.Frag} {F : Hp} {A : List Addr}
theorem findK_cons {α : Type} (p : Ky × α) (r : List (Ky × α)) (k : Ky) : findK (p :: r) k = if p.1 = k then some p.2 else findK r k := by
  unfold findK
  rw [List.find?_cons]
  by_cases h : p.1 = k
  · rw [if_pos h, decide_eq_true h]
    rfl
  · rw [if_neg h, decide_eq_false h]
theorem KvAt.val {kvs : List (Ky × D)} {vs : List (Ky × V)} (h : KvAt K F kvs vs) (k : Ky) : (∀ d, findK kvs k = some d → ∃ v, valV vs k = some v ∧ At K F d v) ∧ (findK kvs k = none → valV vs k = none) := by
  induction h with
  | nil => exact ⟨fun d e => (by cases e), fun _ => rfl⟩
  | @cons k' d' v' kvs' vs' h1 h2 ih =>
    by_cases e : k' = k
    · refine ⟨fun d q => ?_, fun q => ?_⟩
      · rw [findK_cons, if_pos e] at q
        cases q
        exact ⟨v', valV_pos (p := (k', v')) e, h1⟩
      · rw [findK_cons, if_pos e] at q
        cases q
    · refine ⟨fun d q => ?_, fun q => ?_⟩
      · rw [findK_cons, if_neg e] at q
        obtain ⟨v, z1, z2⟩ := ih.1 d q
        exact ⟨v, by rw [valV_neg (p := (k', v')) e]; exact z1, z2⟩
      · rw [findK_cons, if_neg e] at q
        rw [valV_neg (p := (k', v')) e]
        exact ih.2 q
theorem KvAt.len {kvs : List (Ky × D)} {vs : List (Ky × V)} (h : KvAt K F kvs vs) : vs.length = kvs.length := by
  induction h with
  | nil => rfl
  | cons _ _ ih => simp [ih]
theorem KvAt.anyK {kvs : List (Ky × D)} {vs : List (Ky × V)} (h : KvAt K F kvs vs) (k : Ky) : (vs.any fun kv => decide (kv.1 = k)) = kvs.any fun kv => decide (kv.1 = k) := by
  induction h with
  | nil => rfl
  | cons _ _ ih => rw [List.any_cons, List.any_cons, ih]
theorem KvAt.app {a b : List (Ky × D)} {vs us : List (Ky × V)} (h : KvAt K F a vs) (g : KvAt K F b us) : KvAt K F (a ++ b) (vs ++ us) := by
  induction h with
  | nil => exact g
  | cons h1 _ ih => exact .cons h1 ih
theorem KvAt.put {kvs : List (Ky × D)} {vs : List (Ky × V)} (h : KvAt K F kvs vs) (k : Ky) {d : D} {v : V} (g : At K F d v) : KvAt K F (putM kvs k d) (putK vs k v) := by
  unfold putM putK
  rw [h.anyK k]
  split
  · rename_i q0
    clear q0
    induction h with
    | nil => exact .nil
    | @cons k' d' v' kvs' vs' h1 h2 ih =>
      rw [List.map_cons, List.map_cons]
      by_cases e : k' = k
      · simp only [e, if_true]
        exact .cons g ih
      · simp only [e, if_false]
        exact .cons h1 ih
  · exact h.app (.cons g .nil)
theorem MoAt.val {kvs : List (Ky × Nat)} {vs : List (Ky × V)} (h : MoAt A kvs vs) (k : Ky) : (∀ j, findK kvs k = some j → ∃ a, valV vs k = some (.ref a) ∧ A[j]? = some a) ∧ (findK kvs k = none → valV vs k = none) := by
  induction h with
  | nil => exact ⟨fun d e => (by cases e), fun _ => rfl⟩
  | @cons k' d' v' kvs' vs' h1 h2 ih =>
    by_cases e : k' = k
    · refine ⟨fun d q => ?_, fun q => ?_⟩
      · rw [findK_cons, if_pos e] at q
        cases q
        exact ⟨v', valV_pos (p := (k', V.ref v')) e, h1⟩
      · rw [findK_cons, if_pos e] at q
        cases q
    · refine ⟨fun d q => ?_, fun q => ?_⟩
      · rw [findK_cons, if_neg e] at q
        obtain ⟨v, z1, z2⟩ := ih.1 d q
        exact ⟨v, by rw [valV_neg (p := (k', V.ref v')) e]; exact z1, z2⟩
      · rw [findK_cons, if_neg e] at q
        rw [valV_neg (p := (k', V.ref v')) e]
        exact ih.2 q
theorem MoAt.app {a b : List (Ky × Nat)} {vs us : List (Ky × V)} (h : MoAt A a vs) (g : MoAt A b us) : MoAt A (a ++ b) (vs ++ us) := by
  induction h with
  | nil => exact g
  | cons h1 _ ih => exact .cons h1 ih
theorem MoAt.len {kvs : List (Ky × Nat)} {vs : List (Ky × V)} (h : MoAt A kvs vs) : vs.length = kvs.length := by
  induction h with
  | nil => rfl
  | cons _ _ ih => simp [ih]
end
end Vl
namespace Vl
open PySem L2 PySem.Spec PyProof.Rows
theorem PC.imp {X : Cx} {op : CmpOp} {a b : Expr} {t t' : TE} (h : PC X op a b t) (f : ∀ σ H Q, t' σ H Q → t σ H Q) : PC X op a b t' := ⟨fun pins s σ H Q I q => h.run pins s σ H Q I (f σ H Q q)⟩
section
variable {X : Cx} {a b c d o i : Expr} {ta tb tc td to ti : VTE} {pos apos cpos : Pos}
theorem u1 (hu : X.A.units + 190 < cLine) : X.A.units + 1 < cLine := Nat.lt_of_le_of_lt (Nat.add_le_add_left (by decide) _) hu
end
end Vl
namespace Vl
open PySem L2 PySem.Spec PyProof.Rows
def allS : List (Option Ob) → Option (List Ob)
  | [] => some []
  | some ob :: r => (allS r).map (ob :: ·)
  | none :: _ => none
theorem allS_map : ∀ cs : List Ob, allS (cs.map some) = some cs
  | [] => rfl
  | c :: cs => by
    show (allS (cs.map some)).map (c :: ·) = _
    rw [allS_map cs]
    rfl
def retA (s : Sl) (e : En) (Kp : Sl → List Ob → Prop) : Prop := match allS e.st with
  | none => False
  | some st' => match s with
    | .exc _ => False
    | s => Kp s st'
end Vl
namespace Vl
open PySem L2 PySem.Spec PyProof.Rows
theorem MoAt.anyK {A : List Addr} {kvs : List (Ky × Nat)} {vs : List (Ky × V)} (h : MoAt A kvs vs) (k : Ky) : (vs.any fun kv => decide (kv.1 = k)) = kvs.any fun kv => decide (kv.1 = k) := by
  induction h with
  | nil => rfl
  | cons _ _ ih => rw [List.any_cons, List.any_cons, ih]
theorem MoAt.put {A : List Addr} {kvs : List (Ky × Nat)} {vs : List (Ky × V)} (h : MoAt A kvs vs) (k : Ky) {j : Nat} {a : Addr} (g : A[j]? = some a) : MoAt A (putM kvs k j) (putK vs k (.ref a)) := by
  unfold putM putK
  rw [h.anyK k]
  split
  · rename_i q0
    clear q0
    induction h with
    | nil => exact .nil
    | @cons k' d' v' kvs' vs' h1 h2 ih =>
      rw [List.map_cons, List.map_cons]
      by_cases e : k' = k
      · simp only [e, if_true]
        exact .cons g ih
      · simp only [e, if_false]
        exact .cons h1 ih
  · exact h.app (.cons g .nil)
/-- the turns: n0 the dict's place -/
def cd (g : VTG) (tk tv : VTE) (chk : Option (En → Prop)) (vs : List Nat) (n0 : Nat) : List D → En → (En → Prop) → Prop
  | [], e, Kp => wth chk e (Kp e)
  | d :: ds, e, Kp => wth chk e (g (.val d) e fun e1 => tk e1 fun s1 e2 => tv e2 fun s2 e3 => match pk s1 e3 with
    | some dk => (match dKey dk with
      | some k => (match s2 with
        | .obj i => (match e3.st[n0]? with
          | some (some (.mo kvs)) => kvs.length < sizeLine ∧ cd g tk tv chk vs n0 ds (En.wipe ⟨e3.sl, e3.st.set n0 (some (.mo (putM kvs k i)))⟩ vs) Kp
          | _ => False)
        | _ => False)
      | none => False)
    | none => False)
end Vl
namespace Vl
open PySem L2 PySem.Spec PyProof.Rows
end Vl
namespace Vl
open PySem L2 PySem.Spec PyProof.Rows
end Vl
namespace Vl
open PySem L2 PySem.Spec PyProof.Rows
end Vl
namespace Vl
open PySem L2 PySem.Spec PyProof.Rows
end Vl
namespace Vl
open PySem L2 PySem.Spec PyProof.Rows
end Vl
namespace Vl
open PySem L2 PySem.Spec PyProof.Rows
end Vl
namespace Vl
open PySem L2 PySem.Spec PyProof.Rows
end Vl
namespace Vl
open PySem L2 PySem.Spec PyProof.Rows
section
variable {X : Cx} {a b c o : Expr} {ta tb to : VTE} {pos : Pos}
def rngD (hi : Int) (n : Nat) : List D := (List.range n).map fun i => PyData.int (hi + (i : Nat) * (-1))
def vRngD (t : VTA) : VTI := fun e Kp => t e fun ss e1 => match ss with
  | [s, u, v] => (match pk s e1, pk u e1, pk v e1 with
    | some (.int i), some (.int j), some (.int k) => k = -1 ∧ (-(2 ^ 62) ≤ i ∧ i < 2 ^ 62 ∧ -(2 ^ 62) ≤ j ∧ j < 2 ^ 62) ∧ Kp (rngD i (i - j).toNat) none e1
    | _, _, _ => False)
  | _ => False
def vFn (f : Addr) : VTE := fun e Kp => Kp (.exc f) e
end
/-- a call of a local name that holds one of some defs -/
def vCallL (i : Nat) (S : Addr → Option VSp) (own : Ob → En → KE → Prop) (t : VTA) : VTE := fun e Kp => match e.sl[i]? with
  | some (some (.exc f)) => (match S f with
    | some p => vN (opCallK own p) t e Kp
    | none => False)
  | _ => False
end Vl
namespace Vl
open PySem L2 L2H PySem.Spec PyProof.Rows
def vOdd (a : Addr) (i : Nat) (b : Bool) : VTE := fun e Kp => e.sl[i]? = some (some (.exc a)) ∧ Kp (.val (.bool b)) e
end Vl
namespace Vl
open PySem L2 PySem.Spec PyProof.Rows Builtin
end Vl
namespace Vl
open PySem L2 PySem.Spec PyProof.Rows
def IsFn (K : PySem.W.Frag) (f : Addr) : Prop := PySem.W.typeIn K (.ref f) = some (.type "function")
section
variable {X : Cx} {a b : Expr} {ta tb : VTE} {pos : Pos}
def vWays (i1 i2 : Nat) (fs : List Addr) (t : VTE) (u : VTS) : VTS := fun D e => i1 < e.sl.length ∧ t ⟨e.sl.set i1 none, e.st⟩ fun s e1 => match pk s e1 with
  | some (.int n) => 0 ≤ n ∧ ∃ f, fs[n.toNat]? = some f ∧ u D ⟨e1.sl.set i2 (some (.exc f)), e1.st⟩
  | _ => False
end
end Vl
namespace Vl
open PySem L2 PySem.Spec PyProof.Rows
structure Ways4 (P : Program) (w : World) (K : PySem.W.Frag) (mg : Str → Option Value) (base : Heap) (k : Nat) (x1 x2 x3 x4 : Str) (ps : List Str) (f1 f2 f3 f4 : Addr) (p : VSp) : Prop where
  m1 : mg x1 = some (.ref f1)
  m2 : mg x2 = some (.ref f2)
  m3 : mg x3 = some (.ref f3)
  m4 : mg x4 = some (.ref f4)
  isF : ∀ f ∈ [f1, f2, f3, f4], IsFn K f
  G : ∀ f ∈ [f1, f2, f3, f4], ∃ fd, FnOk P w K mg base CX0 k f fd ps (spV K p) ∧ PySem.W.keepIn K (.ref f) = true ∧ Binds K fd ps []
theorem Ways4.of {P : Program} {w : World} {K : PySem.W.Frag} {mg : Str → Option Value} {base : Heap} {k : Nat} {x1 x2 x3 x4 : Str} {ps : List Str} {p : VSp} (G1 : VFn P w K mg base k x1 ps p) (G2 : VFn P w K mg base k x2 ps p) (G3 : VFn P w K mg base k x3 ps p) (G4 : VFn P w K mg base k x4 ps p)
    (T1 : ∀ f, mg x1 = some (.ref f) → IsFn K f) (T2 : ∀ f, mg x2 = some (.ref f) → IsFn K f) (T3 : ∀ f, mg x3 = some (.ref f) → IsFn K f) (T4 : ∀ f, mg x4 = some (.ref f) → IsFn K f) :
    ∃ f1 f2 f3 f4, Ways4 P w K mg base k x1 x2 x3 x4 ps f1 f2 f3 f4 p := by
  obtain ⟨f1, d1, a1, b1, c1, e1⟩ := G1.ex
  obtain ⟨f2, d2, a2, b2, c2, e2⟩ := G2.ex
  obtain ⟨f3, d3, a3, b3, c3, e3⟩ := G3.ex
  obtain ⟨f4, d4, a4, b4, c4, e4⟩ := G4.ex
  refine ⟨f1, f2, f3, f4, e1, e2, e3, e4, fun f hf => ?_, fun f hf => ?_⟩
  · simp only [List.mem_cons, List.not_mem_nil, or_false] at hf
    rcases hf with rfl | rfl | rfl | rfl
    · exact T1 _ e1
    · exact T2 _ e2
    · exact T3 _ e3
    · exact T4 _ e4
  · simp only [List.mem_cons, List.not_mem_nil, or_false] at hf
    rcases hf with rfl | rfl | rfl | rfl
    · exact ⟨d1, a1, b1, c1⟩
    · exact ⟨d2, a2, b2, c2⟩
    · exact ⟨d3, a3, b3, c3⟩
    · exact ⟨d4, a4, b4, c4⟩
def wayS (fs : List Addr) (p : VSp) (f : Addr) : Option VSp := if f ∈ fs then some p else none
theorem Ways4.call {P : Program} {w : World} {K : PySem.W.Frag} {mg : Str → Option Value} {base : Heap} {k : Nat} {x1 x2 x3 x4 : Str} {ps : List Str} {p : VSp} {f1 f2 f3 f4 : Addr} (W : Ways4 P w K mg base k x1 x2 x3 x4 ps f1 f2 f3 f4 p) :
    ∀ f q, wayS [f1, f2, f3, f4] p f = some q → ∃ fd, FnOk P w K mg base CX0 k f fd ps (spV K q) ∧ PySem.W.keepIn K (.ref f) = true ∧ Binds K fd ps [] := fun f q h => by
  unfold wayS at h
  split at h
  · cases h
    exact W.G f (by assumption)
  · cases h
end Vl
namespace Vl
open PySem L2 PySem.Spec PyProof.Rows
end Vl
namespace Vl
open PySem L2 PySem.Spec PyProof.Rows
end Vl
namespace Vl
open PySem L2 PySem.Spec PyProof.Rows
end Vl
namespace Gx
open PySem PySem.Spec PyProof.Rows L2 GenW GxR NdefX
section
variable {M : Model} {A : Around} {E : Value → Shared → Prop} {s : Shared}
/-- the code object of a generator expression, found in the def's table or put there -/
theorem code_any {env : Env} {c P : Addr} {tab : Array Value} {pos : Pos} {qn : Str} {scope : Scope} {Q : Value → Shared → Prop} (hc : env.code = .ref c) (cd : PySem.W.CodeHd s.heap c P)
    (hP : s.heap.get? P = some { cls := .none, data := .fields tab }) (ht : TriplesOk tab.toList)
    (k : ∀ (code : Value) (hp : Heap) (tk : Nat) (tab' : Array Value), Heap.ExtBut P s.heap hp → s.heap.objs.size ≤ hp.objs.size → hp.get? P = some { cls := .none, data := .fields tab' } → (∃ more, tab' = tab ++ more) → TriplesOk tab'.toList →
      Q code { s with heap := hp, toks := tk }) : wpAny M A (genexprCode env pos qn scope) Q E s := by
  cases hf : codeAmong pos tab.toList with
  | some cv => exact wpAny_genexprCode_hit hc (cd.code hP ht) hf (k cv s.heap s.toks tab (Heap.ExtBut.refl _ _) (Nat.le_refl _) hP ⟨#[], by simp⟩ ht)
  | none =>
    refine wpAny_genexprCodeX hc (cd.code hP ht) (cd.tab hP) hf fun c' hp tk ext lo hi isC _ isT _ => ?_
    obtain ⟨_, _, _, _, _, _, _, _, _, _, _, _, _, _, _, _, _, _, _, tri, _⟩ := isC
    exact k _ hp tk _ ext (Nat.le_of_lt (Nat.lt_of_le_of_lt lo hi)) isT.2 ⟨_, rfl⟩ tri
end
/-- the generator's own scope: captured names are the def's -/
structure GSc (X : Cx) (scope : Scope) : Prop where
  kind : scope.kind = .function
  co : scope.isCoroutine = false
  cell : ∀ y ∈ scope.names, y.2 ≠ .cell
  dot : scope.names.lookup (".0" : Str) = some NameKind.local
  free : ∀ y ∈ scope.names, y.2 = .free → X.env.scope.names.lookup y.1 = some .cell ∨ X.env.scope.names.lookup y.1 = some .free
abbrev genv (X : Cx) (scope : Scope) (s : Shared) (code : Value) : Env := genEnv scope (cloFrom X.env.cells scope.names []) s.heap.objs.size code builtinsNs X.env
/-- the context of its element -/
def gcx (X : Cx) (N : List Str) (scope : Scope) (code : Value) (s : Shared) (H : Hp) (A : Around) (ex : List Addr) (pn : List (Addr × Obj)) : Cx where
  prog := X.prog
  w := X.w
  K := X.K
  mg := X.mg
  base := X.base
  A := A
  N := N
  s_0 := s
  H_0 := H
  env := genv X scope s code
  outer := X.stack
  stack := genv X scope s code :: X.stack
  ex := ex
  fn := fun _ => false
  calm := true
  pn := pn
  xe := fun _ _ => False
/-- names of the generator and of the def: what a captured name holds -/
def capt (caps : List (Option Nat)) (σ : L2.St) : L2.St := caps.map fun c => match c with
  | none => none
  | some j => (σ[j]?).getD none
structure Caps (X : Cx) (scope : Scope) (N : List Str) (caps : List (Option Nat)) : Prop where
  len : caps.length = N.length
  at_ : ∀ (i j : Nat) (x : Str), caps[i]? = some (some j) → N[i]? = some x → X.N[j]? = some x ∧ scope.names.lookup x = some .free
section
variable {X : Cx} {pins : List (Addr × Obj)} {σ : L2.St} {H : Hp} {s : Shared}
theorem GSc.has {scope : Scope} (S : GSc X scope) (I : Inv X pins σ H s) : ∀ y ∈ scope.names, y.2 = .free → ∃ c, X.env.cells.lookup y.1 = some c := fun y hy e => I.ok.has _ (S.free y hy e)
theorem Inv.same {s' : Shared} (I : Inv X pins σ H s) (hh : s'.heap = s.heap) (ho : s'.os = s.os) (hb : AllBare s'.gens) : Inv X pins σ H s' := by
  obtain ⟨h1, g1, d1, t1, o1⟩ := s'
  cases hh
  exact ⟨I.ok, ho.trans I.os, hb, I.base, I.loc, I.cell, I.free, I.freeC, I.pin, I.hok, I.len⟩
/-- the generator has been made: its frame stands behind all that stood -/
theorem inv_gen {scope : Scope} {N : List Str} {caps : List (Option Nat)} {code it : Value} {A : Around} {ex : List Addr} {s5 : Shared} {a : Addr} {go : Obj} (S : GSc X scope) (C : Caps X scope N caps) (I : Inv X pins σ H s)
    (hex : ∀ b ∈ ex, FpOk X pins H b) (hexo : ∀ b ∈ ex, b < s.heap.objs.size) (hd : A.handled = none) (hfr : A.frames = some (genv X scope s code :: X.stack))
    (hos : s5.os = s.os) (hb : AllBare s5.gens) (hk : ∀ b o, s.heap.get? b = some o → s5.heap.get? b = some o) (hns : s5.heap.Ns s.heap.objs.size fun y => if y = (".0" : Str) then some it else none)
    (ha : s.heap.objs.size < a) (hgo : s5.heap.get? a = some go) (hgd : ∀ v, go.data ≠ .cell v) :
    Inv (gcx X N scope code s H A ex [(a, go)]) [] (capt caps σ) H s5 := by
  have free := S.has I
  have cm : ∀ {y : Str} {c : Addr}, (cloFrom X.env.cells scope.names []).lookup y = some c → X.env.cells.lookup y = some c := fun e => clo_cm free e
  have nofr : ∀ b ∈ ex, b ∉ frs X.stack := fun b hb hm => by
    obtain ⟨_, h2, h3, _⟩ := hex b hb
    rcases List.mem_cons.mp (I.stkSub b hm) with z | z
    · exact h2 z
    · exact h3 z
  have lt0 : ∀ {b : Addr} {o : Obj}, s.heap.get? b = some o → b ≠ s.heap.objs.size := fun e => Nat.ne_of_lt (Heap.lt_size e)
  have hH : ∀ {b : Addr}, s.heap.objs.size ≤ b → H b = none := fun h => I.hok.fresh h
  refine ⟨⟨I.ok.mod, S.kind, I.ok.glob, rfl, Nat.le_refl _, fun x y c h1 h2 => I.ok.inj x y c (cm h1) (cm h2), fun y hy => ?_, fun _ _ h => (by cases h), fun _ => hd, hfr, .inr ⟨rfl, rfl⟩, fun b hb => ⟨fun e => ?_, fun x c e z => ?_⟩, I.bs, Nat.le_trans I.ok.bsz I.sz, fun b o e hm => ?_, fun b hb => nofr b hb, I.stack, I.stkFree⟩,
    hos, hb, Un.kept hk, ⟨_, hns, fun i x v h1 h2 h3 => ?_⟩, fun y c h => ?_, hH (Nat.le_refl _), fun y c h => I.freeC y c (cm h), fun p hp => ?_, I.hok.kept hk, ?_⟩
  · replace hy : scope.names.lookup y = some .cell ∨ scope.names.lookup y = some .free := hy
    rcases hy with hy | hy
    · exact absurd rfl (S.cell _ (PySem.mem_of_lookup hy))
    · obtain ⟨c, hc⟩ := free _ (PySem.mem_of_lookup hy) rfl
      exact ⟨c, clo_has free (PySem.mem_of_lookup hy) hc⟩
  · exact absurd e (Nat.ne_of_lt (hexo b hb))
  · exact (hex b (by assumption)).2.2.2.2.1 x c (cm e) z
  · obtain ⟨_, _, _, h4, _⟩ := hex b hm
    rcases h4 with z | z
    · exact I.ok.noex b o e z
    · exact absurd (Nat.lt_of_lt_of_le (Heap.lt_size e) (Nat.le_trans I.ok.bsz z)) (Nat.lt_irrefl _)
  · replace h2 : (capt caps σ)[i]? = some (some v) := h2
    unfold capt at h2
    rw [List.getElem?_map] at h2
    obtain ⟨c, hc, e⟩ := Option.map_eq_some_iff.mp h2
    cases c with
    | none => cases e
    | some j =>
      obtain ⟨q1, q2⟩ := C.at_ i j x hc h1
      replace e : (σ[j]?).getD none = some v := e
      have ej : σ[j]? = some (some v) := by
        cases z : σ[j]? with
        | none => rw [z] at e; cases e
        | some w => rw [z] at e; cases e; rfl
      have kx := S.free (x, .free) (PySem.mem_of_lookup q2) rfl
      obtain ⟨m, _, hl⟩ := I.loc
      obtain ⟨u, r, l⟩ := hl j x v q1 ej (by
        rcases kx with z | z
        · exact .inr (.inl z)
        · exact .inr (.inr z))
      refine ⟨u, r, ?_⟩
      rcases l with ⟨l, _⟩ | ⟨_, c, hc, cell⟩
      · replace l : X.env.scope.names.lookup x = some .local := l
        rcases kx with z | z <;> (rw [l] at z; cases z)
      · refine .inr ⟨.inr q2, c, clo_has free (PySem.mem_of_lookup q2) hc, ?_⟩
        obtain ⟨o, ho, hd⟩ := cell
        exact ⟨o, hk _ _ ho, hd⟩
  · obtain ⟨v, o, ho, hd⟩ := I.cell y c (cm h)
    exact ⟨v, o, hk _ _ ho, hd⟩
  · rcases List.mem_append.mp hp with z | z
    · rw [List.mem_singleton.mp z]
      refine ⟨hgo, hH (Nat.le_of_lt ha), Nat.ne_of_gt ha, fun hm => ?_, hgd⟩
      obtain ⟨_, o, ho, _⟩ := I.stack.mem hm
      exact absurd (Nat.lt_trans (Heap.lt_size ho) ha) (Nat.lt_irrefl _)
    · cases z
  · show (capt caps σ).length = N.length
    unfold capt
    rw [List.length_map, C.len]
end
end Gx
namespace Gx
open PySem PySem.Spec PyProof.Rows L2 GenW GxR NdefX
/-- the turns: c is the truth by which it goes on (all: true, any: false) -/
def alR (c : Bool) (J : It) (g : TG) (te : TE) (Rf : Bool → Hp → Prop) : Nat → Nat → L2.St → Hp → Prop
  | 0, _, _, _ => False
  | m + 1, i, σ, H => (J.stop i H ∧ Rf c H) ∨ (J.go i H ∧ ∀ x H1, J.yld i H x H1 → g x σ H1 fun σ2 H2 => te σ2 H2 fun v H3 => ∃ b, v = .bl b ∧ if b = c then alR c J g te Rf m (i + 1) σ2 H3 else Rf b H3)
abbrev gexp (elt tg iter : Expr) (scope : Scope) (pos : Pos) : Expr := .GeneratorExp elt [⟨tg, iter, [], 0⟩] scope pos
abbrev gloop (elt tg iter : Expr) (scope : Scope) (pos : Pos) (it : Addr) (env : Env) : Code := .compLoop (gexp elt tg iter scope pos) 0 (.ref it) .none env
abbrev gstart (elt tg iter : Expr) (scope : Scope) (pos : Pos) (it : Addr) (env : Env) : Code := .compStart (gexp elt tg iter scope pos) 0 (.ref it) .none env
def PR (X : Cx) (c : Bool) (Rf : Bool → Hp → Prop) (s : Shared) : Prop := ∃ σ H, Inv X [] σ H s ∧ Rf c H
abbrev RG (X : Cx) (c : Bool) (Rf : Bool → Hp → Prop) : GenEnd := fun n s0 r s => r = .ok .next ∧ (fun (_ : Nat) (_ : Shared) (s : Shared) => PR X c Rf s) n s0 s
def YG (X : Cx) (c : Bool) (Rf : Bool → Hp → Prop) : Protocol := fun _ _ v s kap => ∃ b σ H, v = .bool b ∧ Inv X [] σ H s ∧ (b ≠ c → Rf b H) ∧ (b = c → ∀ s'', s''.heap = s.heap → s''.os = s.os → AllBare s''.gens → kap (.send .none) s'')
section
variable {X : Cx} {A : Around} {c : Bool} {J : It} {g : TG} {te : TE} {Rf : Bool → Hp → Prop} {elt tg iter : Expr} {scope : Scope} {pos : Pos} {fp : List Addr} {it : Addr} {tn : Nat → Heap → Prop}
theorem seg_loop (T : Turn X.prog X.w X.K tg J fp it tn) (hg : PG X tg g) (he : PE X elt te) (hxe : ∀ v s, ¬ X.xe v s) (hA : A.over (gloop elt tg iter scope pos it X.env) [] = X.A) (hco : X.env.scope.isCoroutine = false) (hcalm : X.calm = true) :
    ∀ (m i : Nat) (σ : L2.St) (H : Hp) (s s0 : Shared), Inv X [] σ H s → tn i s.heap → (∀ b ∈ fp, FpOk X [] H b) → alR c J g te Rf m i σ H →
      Seg (model X.prog X.w) A (RG X c Rf) (YG X c Rf) m s0 (gloop elt tg iter scope pos it X.env) ((model X.prog X.w).den (gloop elt tg iter scope pos it X.env)) [] s := by
  intro m
  induction m with
  | zero => intro i σ H s s0 I st f h; exact h.elim
  | succ m ih =>
    intro i σ H s s0 I st f h
    show Seg _ A _ _ _ s0 _ ((compTurn (gexp elt tg iter scope pos) 0 (.ref it) .none X.env).onRaise (leaving X.env)) [] s
    rw [compTurn_gen, Sem.onRaise_eq_wrap]
    refine seg_bind_wrap (wpAny_standAt ?_)
    have stat : ∀ {H' : Hp}, (∀ b ∈ fp, H' b = none) → ∀ b ∈ fp, FpOk X [] H' b := fun hn b hb => ⟨hn b hb, (f b hb).2⟩
    rcases h with ⟨stop, q⟩ | ⟨go, step⟩
    · refine seg_bind_wrap ?_
      rw [hA]
      refine wpAny_mono (T.done X rfl rfl rfl hcalm i [] s σ H (fun _ _ => False) I f st stop) (fun r s1 ⟨hr, I1⟩ => ?_) fun _ _ e => e.elim
      subst hr
      exact seg_end (.ok .next) ⟨rfl, σ, H, I1, q⟩
    · refine seg_bind_wrap ?_
      rw [hA]
      refine wpAny_mono (T.item X rfl rfl rfl hcalm i [] s σ H (fun _ _ => False) I f st go) (fun r s4 ⟨u, hr, h4⟩ => ?_) fun _ _ e => e.elim
      subst hr
      refine seg_bind_wrap ?_
      rw [hA]
      refine wpAny_mono h4 (fun _ s5 ⟨x, H5, I5, r5, y5, st5, fr5⟩ => ?_) fun _ _ e => e.elim
      have I5' := I5.pinned (stat fr5) (T.obj _ _ st5)
      refine seg_bind_wrap ?_
      rw [hA]
      refine wpAny_mono (hg.run _ s5 σ H5 x u _ I5' r5 (step x H5 y5)) (fun _ s6 ⟨σ6, H6, I6, q6⟩ => ?_) fun v s e => (hxe v s e).elim
      refine seg_bind_wrap ?_
      simp only [List.forIn_nil]
      refine wpAny_pure ?_
      simp only [if_true]
      have hy : ∀ v, yieldOut X.env v = yieldValue v := fun v => by simp only [yieldOut, hco, Bool.false_eq_true, if_false]
      simp only [hy]
      rw [Sem.bind_eq_wrap', Sem.bind_eq_wrap', Sem.wrap_wrap, Sem.wrap_wrap]
      refine seg_wrap ?_
      rw [hA]
      refine wpAny_mono (he.run _ s6 σ6 H6 _ I6 q6) (fun y s7 ⟨v, H7, I7, rv, b, ev, q7⟩ => ?_) fun v s e => (hxe v s e).elim
      subst ev
      have ey : y = .bool b := rv
      subst ey
      refine seg_at (seg_yield rfl rfl rfl ⟨b, σ6, H7, rfl, I7.unpinned, fun ne => by rw [if_neg ne] at q7; exact q7, fun e s'' hh ho hb => ?_⟩)
      rw [if_pos e] at q7
      have k7 : ∀ b ∈ fp, ∀ o, s5.heap.get? b = some o → s7.heap.get? b = some o ∧ H7 b = none := fun b hb o e => by
        have := I7.pin (b, o) (List.mem_append_right _ (List.mem_append_right _ (mem_pinsAt hb e)))
        exact ⟨this.1, this.2.1⟩
      refine seg_again rfl (ih (i + 1) σ6 H7 s'' s'' (Inv.same I7.unpinned hh ho hb) ?_ (fun b hb => stat (fun b hb => ?_) b hb) q7)
      · rw [hh]
        exact T.keep _ _ _ st5 fun b hb o e => (k7 b hb o e).1
      · obtain ⟨o, e, _⟩ := T.obj _ _ st5 b hb
        exact (k7 b hb o e).2
theorem seg_start (T : Turn X.prog X.w X.K tg J fp it tn) (hg : PG X tg g) (he : PE X elt te) (hxe : ∀ v s, ¬ X.xe v s) (hA : A.over (gloop elt tg iter scope pos it X.env) [] = X.A) (hco : X.env.scope.isCoroutine = false) (hcalm : X.calm = true)
    (m : Nat) (σ : L2.St) (H : Hp) (s s0 : Shared) (I : Inv X [] σ H s) (st : tn 0 s.heap) (f : ∀ b ∈ fp, FpOk X [] H b) (h : alR c J g te Rf m 0 σ H) :
      Seg (model X.prog X.w) A (RG X c Rf) (YG X c Rf) m s0 (gstart elt tg iter scope pos it X.env) ((model X.prog X.w).den (gstart elt tg iter scope pos it X.env)) [] s := by
  have loop := seg_loop (iter := iter) (scope := scope) (pos := pos) (c := c) (Rf := Rf) T hg he hxe hA hco hcalm m 0 σ H s s0 I st f h
  show Seg _ A _ _ _ s0 _ ((compStart (gexp elt tg iter scope pos) 0 (.ref it) .none X.env).onRaise (leaving X.env)) [] s
  unfold compStart
  rw [Sem.onRaise_eq_wrap]
  show Seg _ A _ _ _ s0 _ ((ask >>= _).wrap _ _ _ _) [] s
  refine seg_bind_wrap (wpAny_askSetting ?_)
  split
  · exact seg_again rfl loop
  · first
      | exact seg_bind_wrap (wpAny_rule (seg_bind_wrap (wpAny_standAt (seg_bind_wrap (T.self _ 0 s _ _ st (seg_again rfl loop))))))
      | (refine seg_bind_wrap (wpAny_rule ?_); show Seg _ A _ _ _ s0 _ ((standAt iter.pos >>= _).wrap _ _ _ _) [] s; exact seg_bind_wrap (wpAny_standAt (seg_bind_wrap (T.self _ 0 s _ _ st (seg_again rfl loop)))))
end
section
variable {X : Cx} {A : Around} {c : Bool} {Rf : Bool → Hp → Prop} {R : Result → Shared → Prop} {a : Addr} {g : Nat}
/-- the consumer's turn -/
theorem next_turn (hh : A.handled = none) (hd : A.depth < recursionLimit) (hp : ∀ {σ H s}, Inv X [] σ H s → s.heap.IsGen a g) {E : Value → Shared → Prop} {Q : Option Value → Shared → Prop} (m : Nat) (s : Shared) (hg : s.heap.IsGen a g) (hl : s.heap.NoLimit)
    (hs : ∃ gs, s.gens[g]? = some gs ∧ gs.Goes (model X.prog X.w) A.in1 (RG X c Rf) (YG X c Rf) m (.send .none) (s.setGen g .running))
    (fin : ∀ σ H s', Inv X [] σ H s' → Rf c H → Q none s')
    (out : ∀ b σ H s', b ≠ c → Inv X [] σ H s' → Rf b H → Q (some (.bool b)) s')
    (on : ∀ n s', m = n + 1 → s'.heap.IsGen a g → s'.heap.NoLimit → (∃ gs, s'.gens[g]? = some gs ∧ gs.Goes (model X.prog X.w) A.in1 (RG X c Rf) (YG X c Rf) n (.send .none) (s'.setGen g .running)) → Q (some (.bool c)) s') :
    wpAny (model X.prog X.w) A (pyNext (.ref a)) Q E s := by
  obtain ⟨gs, hgs, hgo⟩ := hs
  have hgl : g < s.gens.size := (Array.getElem?_eq_some_iff.mp hgs).1
  refine wpAny_gsz (n := g + 1) hgl (wpAny_pyNext_genexpQ (P := fun _ _ s => PR X c Rf s) (Y := YG X c Rf) hh hl hd hg hgs hgo (fun v s1 gs' hbare hv => ?_) fun s1 hq h' hk => ?_)
  · intro hsz
    obtain ⟨b, σ, H, rfl, I, hne, heq⟩ := hv
    have I' : Inv X [] σ H (s1.setGen g gs') := Inv.same I rfl rfl (allBare_setGen I.bare hbare)
    by_cases e : b = c
    · subst e
      cases m with
      | zero => exact (heq rfl s1 rfl rfl I.bare).elim
      | succ n =>
        have hsz1 : g < s1.gens.size := by
          have q : (s1.setGen g gs').gens.size = s1.gens.size := setGen_size _ _ _
          have hsz' : g + 1 ≤ (s1.setGen g gs').gens.size := hsz
          omega
        refine on n _ rfl (hp I') I'.nolimit ⟨gs', setGen_at hsz1, heq rfl _ rfl rfl ?_⟩
        exact allBare_setGen (s := s1.setGen g gs') (allBare_setGen I.bare hbare) rfl
    · exact out b σ H _ e I' (hne e)
  · intro _
    obtain ⟨σ, H, I, hq⟩ := hq
    refine fin σ H _ (Inv.same (s := { s1 with heap := h', toks := s1.toks }) (I.kept hk) rfl rfl ?_) hq
    exact allBare_setGen I.bare rfl
theorem drain_all (hh : A.handled = none) (hd : A.depth < recursionLimit) (hp : ∀ {σ H s}, Inv X [] σ H s → s.heap.IsGen a g) (hR : ∀ b σ H s', Inv X [] σ H s' → Rf b H → R (.ok (.ret (.bool b))) s') :
    ∀ (m : Nat) (s : Shared), s.heap.IsGen a g → s.heap.NoLimit → (∃ gs, s.gens[g]? = some gs ∧ gs.Goes (model X.prog X.w) A.in1.in1 (RG X true Rf) (YG X true Rf) m (.send .none) (s.setGen g .running)) →
      codeAny (model X.prog X.w) A (.builtin "all.loop" ⟨[.ref a], []⟩) R s := by
  intro m
  induction m with
  | zero =>
    intro s hg hl hs
    refine codeAny_builtin F.entry_all_loop ?_
    rw [Around.under_plainId F.plain_all_loop _]
    show wpAny _ A.in1 (pyNext (.ref a) >>= _) _ _ s
    refine wpAny_bind (next_turn (A := A.in1) hh hd hp 0 s hg hl hs (fun σ H s' I q => ?_) (fun b σ H s' ne I q => ?_) fun n s' e => by cases e)
    · exact wpAny_bind (wpAny_rule (wpAny_pure (hR true σ H s' I q)))
    · have eb : b = false := by cases b <;> simp_all
      subst eb
      refine wpAny_bind (wpAny_holding (wpAny_truthy_bool ?_))
      refine wpAny_bind (wpAny_letGo ?_)
      simp only [Bool.false_eq_true, if_false]
      exact wpAny_bind (wpAny_rule (wpAny_pure (hR false σ H s' I q)))
  | succ m ih =>
    intro s hg hl hs
    refine codeAny_builtin F.entry_all_loop ?_
    rw [Around.under_plainId F.plain_all_loop _]
    show wpAny _ A.in1 (pyNext (.ref a) >>= _) _ _ s
    refine wpAny_bind (next_turn (A := A.in1) hh hd hp (m + 1) s hg hl hs (fun σ H s' I q => ?_) (fun b σ H s' ne I q => ?_) fun n s' e hg' hl' hs' => ?_)
    · exact wpAny_bind (wpAny_rule (wpAny_pure (hR true σ H s' I q)))
    · have eb : b = false := by cases b <;> simp_all
      subst eb
      refine wpAny_bind (wpAny_holding (wpAny_truthy_bool ?_))
      refine wpAny_bind (wpAny_letGo ?_)
      simp only [Bool.false_eq_true, if_false]
      exact wpAny_bind (wpAny_rule (wpAny_pure (hR false σ H s' I q)))
    · cases e
      refine wpAny_bind (wpAny_holding (wpAny_truthy_bool ?_))
      refine wpAny_bind (wpAny_letGo ?_)
      simp only [if_true]
      exact wpAny_pure ⟨plainId_quiet F.plain_all_loop _, ih s' hg' hl' hs'⟩
end
end Gx
namespace Gx
open PySem PySem.Spec PyProof.Rows L2 GenW GxR NdefX
/-- the around of the element -/
abbrev garound (X : Cx) (elt tg iter : Expr) (scope : Scope) (pos : Pos) (it : Addr) (env : Env) : Around := X.A.in1.in1.over (gloop elt tg iter scope pos it env) []
theorem room_gen {X : Cx} {elt tg iter : Expr} {scope : Scope} {pos : Pos} {it : Addr} {env : Env} {k : Nat} (hr : Room (k + 1) X.A) : Room k (garound X elt tg iter scope pos it env) := by
  have h1 : (garound X elt tg iter scope pos it env).depth ≤ X.A.depth + 1 := Nat.le_of_eq rfl
  have h2 : (garound X elt tg iter scope pos it env).units ≤ X.A.units + 2 + 3 := Nat.le_of_eq rfl
  refine ⟨hr.hd, ?_, ?_⟩
  · have := hr.dp
    omega
  · have := hr.un
    omega
theorem frames_gen {X : Cx} {elt tg iter : Expr} {scope : Scope} {pos : Pos} {it : Addr} {env : Env} {l : List Env} (h : X.A.frames = some l) : (garound X elt tg iter scope pos it env).frames = some (env :: l) := by
  have e : (garound X elt tg iter scope pos it env).frames = pushEnvs [env] (pushEnvs [] X.A.frames) := rfl
  rw [e, h]
  simp [pushEnvs]
def tAG (c : Bool) (P : Addr) (caps : List (Option Nat)) (wi : TI) (g : TG) (te : TE) : TE := fun σ H Q => wi σ H fun J H1 => TabG H1 P ∧ ∀ H2, Tabbed P H1 H2 → ∃ m, alR c J g te (fun b H' => Q (.bl b) H') m 0 (capt caps σ) H2
section
variable {X : Cx} {pins : List (Addr × Obj)} {σ : L2.St} {H : Hp} {s : Shared}
/-- a generator is made, and consumed by call -/
theorem gen_run {c : Bool} {cd P : Addr} {elt tg iter : Expr} {gpos : Pos} {scope : Scope} {N : List Str} {caps : List (Option Nat)} {wi : TI} {g : TG} {te : TE} {k : Nat} {Q : VK} {Q2 : Value → Shared → Prop}
    (hr : Room (k + 1) X.A) (TB : TabB X.base X.mg cd P) (hcode : X.env.code = .ref cd) (S : GSc X scope) (C : Caps X scope N caps) (hi : PI X tg iter wi)
    (hg : ∀ code s H A ex pn, Room k A → PG (gcx X N scope code s H A ex pn) tg g) (he : ∀ code s H A ex pn, Room k A → PE (gcx X N scope code s H A ex pn) elt te)
    (hs : ∀ v, genFold iter X.env v = pure v) (I : Inv X pins σ H s) (h : tAG c P caps wi g te σ H Q)
    (hQ : ∀ (Xg : Cx) (a : Addr) (gn : Nat) (m : Nat) (s5 : Shared) (R : Bool → Hp → Prop), Xg.prog = X.prog → Xg.w = X.w → (∀ {σ' H' s'}, Inv Xg [] σ' H' s' → s'.heap.IsGen a gn) → s5.heap.IsGen a gn → s5.heap.NoLimit →
      (∃ gs, s5.gens[gn]? = some gs ∧ gs.Goes (model X.prog X.w) X.A.in1.in1 (RG Xg c R) (YG Xg c R) m (.send .none) (s5.setGen gn .running)) →
      (∀ b σ' H' s', Inv Xg [] σ' H' s' → R b H' → EP X pins σ Q (.bool b) s') → Q2 (.ref a) s5) :
    wpAny (model X.prog X.w) X.A (eval (gexp elt tg iter scope gpos) X.env) Q2 X.xe s := by
  have free := S.has I
  refine wpAny_GeneratorExp_make S.co (closure_ok free) S.cell S.dot S.kind hr.depth (thn (hi.run pins s σ H _ I h) fun xv s1 h1 => thn h1 fun itv s2 h2 => ?_) hs
  obtain ⟨it, fp, tn, J, H2, rfl, I2, T, st2, f2, ⟨tab, hT, tri⟩, hR⟩ := h2
  refine ⟨I2.nolimit, ?_⟩
  have atP := I2.hok P _ hT
  refine code_any hcode (TB.code.keeps fun b u e => I2.bk b u e) atP tri fun code hp0 tk tab' ext grown atP' more tri' => ?_
  have keep : ∀ b u, b ≠ P → s2.heap.get? b = some u → hp0.get? b = some u := fun b u n e => ext b u n e
  obtain ⟨more, rfl⟩ := more
  have I3 : Inv X pins σ (upd H2 P (.tbl (tab ++ more))) { s2 with heap := hp0, gens := s2.gens, drawn := s2.drawn, toks := tk } := inv_tab I2 hT keep atP' I2.bare
  have tabbed : Tabbed P H2 (upd H2 P (.tbl (tab ++ more))) := ⟨⟨tab ++ more, upd_same, tri'⟩, fun b n => upd_ne n⟩
  obtain ⟨m, hm⟩ := hR _ tabbed
  obtain ⟨bm, bo, b1, b2, b3, b4, b5, b6, b7, b8⟩ := TB.bm
  have glob : hp0.Ns mainGlobals X.mg := (I2.mod.glob.keeps I2.bk).extBut ext TB.gP
  refine wpAny_builtinsFor (m := X.mg) (by rw [I.ok.glob]; exact glob) b1 b2 (keep _ _ b4 (I2.bk _ _ b5)) b6 b7 b8 ?_
  intro h' hns hsb
  generalize hH3 : upd H2 P (.tbl (tab ++ more)) = H3 at *
  have nP : ∀ b ∈ fp, b ≠ P := fun b hb e => by
    have := (f2 b hb).1
    rw [e, hT] at this
    cases this
  have f3 : ∀ b ∈ fp, FpOk X pins H3 b := fun b hb => ⟨by rw [← hH3, upd_ne (nP b hb)]; exact (f2 b hb).1, (f2 b hb).2⟩
  have st3 : tn 0 hp0 := T.keep _ _ _ st2 fun b hb o e => keep b o (nP b hb) e
  have fo : ∀ b ∈ fp, b < hp0.objs.size := fun b hb => by
    obtain ⟨o, e, _⟩ := T.obj _ _ st3 b hb
    exact Heap.lt_size e
  have hsz : h'.objs.size = hp0.objs.size + 1 := by rw [hsb.1, Heap.size_push]
  have keep' : ∀ b o, hp0.get? b = some o → h'.get? b = some o := fun b o e => hsb.extBut b o (Nat.ne_of_lt (Heap.lt_size e)) (Heap.get?_push_of_some _ e)
  generalize hgo : ({ cls := .type "generator", data := .fields #[.int s2.gens.size 0, .str "<genexpr>" (tk + 1), .str (X.env.qual ++ "<genexpr>") (tk + 1 + 1)] } : Obj) = go
  have hgen : ∀ h : Heap, h.get? h'.objs.size = some go → h.IsGen h'.objs.size s2.gens.size := fun h e => ⟨go, _, _, e, by rw [← hgo], by rw [← hgo], by rw [← hgo]⟩
  have hgd : ∀ v, go.data ≠ .cell v := fun v q => by rw [← hgo] at q; cases q
  have hpushed : (h'.push go).get? h'.objs.size = some go := Heap.get?_push_size _ (by rw [← hgo] <;> rfl)
  let s3 : Shared := { s2 with heap := hp0, gens := s2.gens, drawn := s2.drawn, toks := tk }
  have I3' : Inv X pins σ H3 s3 := I3
  let env := genv X scope s3 code
  let A := garound X elt tg iter scope gpos it env
  let s5 : Shared := { s2 with gens := s2.gens.push (.fresh (gstart elt tg iter scope gpos it env)), toks := tk + 1 + 1 + 1, heap := h'.push go }
  have I5 : Inv (gcx X N scope code s3 H3 A fp [(h'.objs.size, go)]) [] (capt caps σ) H3 s5 :=
    inv_gen S C I3' f3 fo hr.hd (frames_gen I3'.ok.frames) rfl (AllBare.push I2.bare rfl) (fun b o e => Heap.get?_push_of_some _ (keep' b o e)) (hns.push _) (by show hp0.objs.size < h'.objs.size; omega) hpushed hgd
  have kp5 : ∀ b o, hp0.get? b = some o → s5.heap.get? b = some o := fun b o e => Heap.get?_push_of_some _ (keep' b o e)
  have f5 : ∀ b ∈ fp, FpOk (gcx X N scope code s3 H3 A fp [(h'.objs.size, go)]) [] H3 b := fun b hb => by
    obtain ⟨h1, h2, h3, h4, h5, h6⟩ := f3 b hb
    have lt := fo b hb
    refine ⟨h1, Nat.ne_of_lt lt, fun hm => ?_, .inl hb, fun x c e => h5 x c (clo_cm free e), fun p hp e => ?_⟩
    · rcases List.mem_cons.mp (I3'.stkSub b hm) with z | z
      · exact h2 z
      · exact h3 z
    · have e2 : p = (h'.objs.size, go) := by
        rcases List.mem_append.mp hp with z | z
        · exact List.mem_singleton.mp z
        · cases z
      rw [e2] at e
      have e' : h'.objs.size = b := e
      have q : b < h'.objs.size := by
        rw [hsz]
        exact Nat.lt_succ_of_lt lt
      rw [e'] at q
      exact absurd q (Nat.lt_irrefl _)
  refine hQ (gcx X N scope code s3 H3 A fp [(h'.objs.size, go)]) h'.objs.size s2.gens.size m s5 (fun b H' => Q (.bl b) H') rfl rfl (fun {σ' H' s'} J' => hgen _ (J'.pin (h'.objs.size, go) (List.mem_append_left _ (List.mem_singleton.mpr rfl))).1) (hgen _ hpushed) I5.nolimit ⟨_, Array.getElem?_push_size .., rfl, ?_⟩ ?_
  · exact seg_start (X := gcx X N scope code s3 H3 A fp [(h'.objs.size, go)]) (A := X.A.in1.in1) T (hg _ _ _ _ _ _ (room_gen hr)) (he _ _ _ _ _ _ (room_gen hr)) (fun _ _ e => e) rfl S.co rfl m _ H3 _ _ (Inv.same I5 rfl rfl (allBare_setGen I5.bare rfl)) (T.keep _ _ _ st3 fun b hb o e => kp5 b o e) f5 hm
  · intro b σ' H' s' J' hQ'
    refine ⟨.bl b, H', ?_, rfl, hQ'⟩
    obtain ⟨h9, g9, d9, t9, o9⟩ := s'
    have ho : o9 = s3.os := J'.os
    subst ho
    exact I3'.call (ch := fp) J'.base J'.hok J'.bare fun b hb => ⟨(f3 b hb).2.2.2.1, (f3 b hb).2.1, (f3 b hb).2.2.2.2⟩
theorem boot_allB : bootBuiltins "all" = some (.builtin "all") := by decide +kernel
theorem pe_allG {cd P : Addr} {elt tg iter : Expr} {p pos gpos : Pos} {scope : Scope} {N : List Str} {caps : List (Option Nat)} {wi : TI} {g : TG} {te : TE} {k : Nat}
    (hr : Room (k + 1) X.A) (hgl : Gl X "all") (hm : X.mg "all" = none) (TB : TabB X.base X.mg cd P) (hcode : X.env.code = .ref cd) (S : GSc X scope) (C : Caps X scope N caps) (hi : PI X tg iter wi)
    (hg : ∀ code s H A ex pn, Room k A → PG (gcx X N scope code s H A ex pn) tg g) (he : ∀ code s H A ex pn, Room k A → PE (gcx X N scope code s H A ex pn) elt te)
    (hs : ∀ v, genFold iter X.env v = pure v) (hst : starEach [gexp elt tg iter scope gpos] X.env = (false, eval (gexp elt tg iter scope gpos) X.env) :: starEach [] X.env := by rfl) :
    PE X (.Call (.Name "all" p) [gexp elt tg iter scope gpos] [] pos) (tAG true P caps wi g te) := by
  constructor
  intro pins s σ H Q I h
  refine wpAny_Call_Name_kw (ld_blt I hgl hm boot_allB (PyProof.Rows.callWith_builtin1 ?_ hst (by rfl)))
  rw [hst]
  refine Calls.spliced_cons (gen_run hr TB hcode S C hi hg he hs I h fun Xg a gn m s5 R hp hw hpin hgen lim hgo hR => ?_)
  refine Calls.spliced_nil ?_
  refine call_function_tree F.kind_all F.plain_all F.entry_all (F.args_all1 _) ?_
  unfold Builtin.«all»
  refine wpAny_bind (m := oneArg "all" _) (wpAny_pure ?_)
  refine wpAny_bind (wpAny_pyIter_gen hgen ?_)
  refine wpAny_pure ⟨plainId_quiet F.plain_all_loop _, ?_⟩
  have := drain_all (X := Xg) (A := X.A) (R := fun r s' => match r with | .ok (.ret u) => EP X pins σ Q u s' | _ => False) hr.hd hr.depth hpin (fun b σ' H' s' J q => hR b σ' H' s' J q) m s5 hgen lim (by rw [hp, hw]; exact hgo)
  rw [hp, hw] at this
  refine codeAny_mono this fun r s' q => ?_
  split at q
  · exact q
  · exact q.elim
end
end Gx
namespace Vl
open PySem L2 PySem.Spec PyProof.Rows Gx
theorem Rep.tabbed {K : PySem.W.Frag} {R F : Hp} {A : List Addr} {σ : L2.St} {H H2 : Hp} {e : En} (r : Rep K R F A σ H e) {P : Addr} (tk : TbK K P) (tb : GxR.Tabbed P H H2) : Rep K R F A σ H2 e := by
  obtain ⟨_, hF, hR, hA⟩ := r.tabs.of P tk
  have ne : ∀ {b : Addr} {o : HO}, F b = some o → b ≠ P := fun h e => by
    rw [e, hF] at h
    cases h
  have nR : ∀ {b : Addr} {o : HO}, R b = some o → b ≠ P := fun h e => by
    rw [e, hR] at h
    cases h
  have nA : ∀ {b : Addr}, b ∈ A → b ≠ P := fun h e => hA (e ▸ h)
  refine ⟨fun b o h => ?_, fun b o h => ?_, r.apart, r.len, r.lenA, r.nodup, fun a ha => ?_, r.slot, fun j ob z => ?_, ⟨fun Q hQ => ?_⟩⟩
  · rw [tb.2 b (ne h)]
    exact r.sub _ _ h
  · rw [tb.2 b (nR h)]
    exact r.keep _ _ h
  · rw [tb.2 a (nA ha)]
    exact r.live a ha
  · obtain ⟨a, h1, h2, h3⟩ := r.store j ob z
    exact ⟨a, h1, h2, by rw [tb.2 a (nA (List.mem_of_getElem? h1))]; exact h3⟩
  · obtain ⟨h1, h2, h3, h4⟩ := r.tabs.of Q hQ
    refine ⟨?_, h2, h3, h4⟩
    by_cases q : Q = P
    · rw [q]
      exact tb.1
    · obtain ⟨ps, g1, g2⟩ := h1
      exact ⟨ps, by rw [tb.2 Q q]; exact g1, g2⟩
theorem Rep.wipeS {K : PySem.W.Frag} {R F : Hp} {A : List Addr} {σ : L2.St} {H : Hp} {e : En} (r : Rep K R F A σ H e) (vs : List Nat) : Rep K R F A σ H (e.wipe vs) :=
  r.weak (by rw [wipeE_len]; exact r.len) fun i s h => r.slot i s (wipeE_at h).2
def capE (caps : List (Option Nat)) (sl : List (Option Sl)) : List (Option Sl) := caps.map fun c => match c with
  | none => none
  | some j => (sl[j]?).getD none
theorem Rep.capt {K : PySem.W.Frag} {R F : Hp} {A : List Addr} {σ : L2.St} {H : Hp} {e : En} (r : Rep K R F A σ H e) (caps : List (Option Nat)) : Rep K R F A (Gx.capt caps σ) H ⟨capE caps e.sl, e.st⟩ := by
  refine r.weak (by unfold capE Gx.capt; rw [List.length_map, List.length_map]) fun i s h => ?_
  unfold capE at h
  rw [List.getElem?_map] at h
  obtain ⟨c, hc, e1⟩ := Option.map_eq_some_iff.mp h
  cases c with
  | none => cases e1
  | some j =>
    replace e1 : (e.sl[j]?).getD none = some s := e1
    have ej : e.sl[j]? = some (some s) := by
      cases z : e.sl[j]? with
      | none => rw [z] at e1; cases e1
      | some w => rw [z] at e1; cases e1; rfl
    obtain ⟨v, h1, h2⟩ := r.slot j s ej
    refine ⟨v, ?_, h2⟩
    unfold Gx.capt
    rw [List.getElem?_map, hc]
    show some ((σ[j]?).getD none) = _
    rw [h1]
    rfl
/-- the turns -/
def ag (c : Bool) (g : VTG) (te : VTE) (chk : Option (En → Prop)) (vs : List Nat) : List D → En → (Bool → En → Prop) → Prop
  | [], e, Kp => wth chk e (Kp c e)
  | d :: ds, e, Kp => wth chk e (g (.val d) e fun e1 => te e1 fun s e2 => match pk s e2 with
    | some (.bool b) => if b = c then ag c g te chk vs ds (e2.wipe vs) Kp else Kp b e2
    | _ => False)
def vAG (c : Bool) (w : VTI) (caps : List (Option Nat)) (vs : List Nat) (g : VTG) (te : VTE) : VTE := fun e Kp => w e fun ds chk e1 => ag c g te chk vs ds ⟨capE caps e1.sl, e1.st⟩ fun b e2 => Kp (.val (.bool b)) ⟨e1.sl, e2.st⟩
theorem lift_ag {K : PySem.W.Frag} {P : Addr} (tk : TbK K P) {c : Bool} {w : VTI} {caps : List (Option Nat)} {vs ws : List Nat} {g : VTG} {te : VTE} (σ : L2.St) (H : Hp) (Q : VK) (h : liftE K (vAG c w caps vs g te) σ H Q) :
    tAG c P caps (liftI K w) (liftG K ws g) (liftE K te) σ H Q := by
  obtain ⟨R, F, A, e, Kp, rep, k, fin⟩ := h
  refine ⟨R, F, A, e, _, rep, k, fun ds chk e1 F1 A1 H1 J k1 l1 p1 rep1 it => ⟨(rep1.tabs.of P tk).1, fun H2 tb => ⟨ds.length + 1, ?_⟩⟩⟩
  have rep2 := rep1.tabbed tk tb
  have out : ∀ b e' F' A' σ' H', Kp (.val (.bool b)) ⟨e1.sl, e'.st⟩ → Le F1 F' → A1 <+: A' → Rep K R F' A' σ' H' e' → Q (.bl b) H' := fun b e' F' A' σ' H' kk l p r => by
    have ro : Rep K R F' A' σ H' ⟨e1.sl, e'.st⟩ := ⟨r.sub, r.keep, r.apart, rep1.len, r.lenA, r.nodup, r.live, fun i s z => by
      obtain ⟨v, h1, h2⟩ := rep1.slot i s z
      exact ⟨v, h1, h2.le l p⟩, r.store, r.tabs⟩
    exact fin (.val (.bool b)) _ (.bl b) F' A' H' kk (l1.trans l) (p1.trans p) ro (.bl b)
  have main : ∀ (n i : Nat) (F' : Hp) (A' : List Addr) (σ' : L2.St) (H' : Hp) (e' : En), ds.length - i = n → i ≤ ds.length → Le F1 F' → A1 <+: A' → Rep K R F' A' σ' H' e' → ag c g te chk vs (ds.drop i) e' (fun b e2 => Kp (.val (.bool b)) ⟨e1.sl, e2.st⟩) →
      alR c J (liftG K ws g) (liftE K te) (fun b H' => Q (.bl b) H') (n + 1) i σ' H' := by
    intro n
    induction n with
    | zero =>
      intro i F' A' σ' H' e' hn hi l p r kk
      have e0 : i = ds.length := by omega
      subst e0
      rw [List.drop_length] at kk
      obtain ⟨kc, kk⟩ := wth_ok kk
      exact .inl ⟨it.stop l p r kc, out c e' F' A' σ' H' kk l p r⟩
    | succ n ih =>
      intro i F' A' σ' H' e' hn hi l p r kk
      have hlt : i < ds.length := by omega
      obtain ⟨d, hd⟩ : ∃ d, ds[i]? = some d := ⟨ds[i], by simp [hlt]⟩
      have hdr : ds.drop i = d :: ds.drop (i + 1) := by
        rw [List.drop_eq_getElem_cons hlt]
        rw [List.getElem?_eq_getElem hlt] at hd
        cases hd
        rfl
      rw [hdr] at kk
      obtain ⟨kc, kk⟩ := wth_ok kk
      obtain ⟨g1, g2⟩ := it.go i d hd l p r kc
      refine .inr ⟨g1, fun x H3 y => ?_⟩
      obtain ⟨F3, l3, rep3, a3⟩ := g2 x H3 y
      refine ⟨R, F3, A', e', .val d, _, rep3, a3, kk, fun e2 σ2 F2 A2 H2 k2 l2 p2 o2 rep2 => ⟨R, F2, A2, e2, _, rep2, k2, fun s e3 v F4 A4 H4 k3 l4 p4 rep4 a4 => ?_⟩⟩
      have lf := ((l.trans l3).trans l2).trans l4
      have pf := (p.trans p2).trans p4
      split at k3
      · rename_i b hb
        refine ⟨b, (rep4.pk a4 hb).bool, ?_⟩
        split at k3
        · rename_i q
          rw [if_pos q]
          exact ih (i + 1) F4 A4 σ2 H4 _ (by omega) hlt lf pf (rep4.wipeS vs) k3
        · rename_i q
          rw [if_neg q]
          exact out b e3 F4 A4 σ2 H4 k3 lf pf rep4
      · exact k3.elim
  exact main ds.length 0 F1 A1 _ H2 _ (Nat.sub_zero _) (Nat.zero_le _) (Le.refl _) (pfx_refl _) (rep2.capt caps) k1
section
variable {X : Cx} {cd P : Addr} {elt tg iter : Expr} {p pos gpos : Pos} {scope : Scope} {N : List Str} {caps : List (Option Nat)} {vs ws : List Nat} {w : VTI} {g : VTG} {te : VTE} {k : Nat}
theorem ve_allG (hr : Room k X.A) (h1 : 1 ≤ k) (hgl : Gl X "all") (hm : X.mg "all" = none) (TB : GxR.TabB X.base X.mg cd P) (tk : TbK X.K P) (hcode : X.env.code = .ref cd) (S : GSc X scope) (C : Caps X scope N caps) (hi : VI X tg iter w)
    (hg : ∀ code s H A ex pn, Room (k - 1) A → VG (gcx X N scope code s H A ex pn) tg ws g) (he : ∀ code s H A ex pn, Room (k - 1) A → VE (gcx X N scope code s H A ex pn) elt te)
    (hs : ∀ v, genFold iter X.env v = pure v := by intro _; rfl) (hst : starEach [gexp elt tg iter scope gpos] X.env = (false, eval (gexp elt tg iter scope gpos) X.env) :: starEach [] X.env := by rfl) :
    VE X (.Call (.Name "all" p) [gexp elt tg iter scope gpos] [] pos) (vAG true w caps vs g te) :=
  PE.imp (pe_allG (k := k - 1) (g := liftG X.K ws g) (te := liftE X.K te) (wi := liftI X.K w) (by rw [Nat.sub_add_cancel h1]; exact hr) hgl hm TB hcode S C hi hg he hs hst) (lift_ag tk)
structure GNd (N : List Str) : Prop where
  nd : N.Nodup
def capsB (XN : List Str) (names : List (Str × NameKind)) (N : List Str) (caps : List (Option Nat)) : Bool := caps.length == N.length && (List.range caps.length).all fun i => match caps[i]?, N[i]? with
  | some (some j), some x => decide (XN[j]? = some x) && decide (names.lookup x = some .free)
  | _, _ => true
theorem caps_by {XN : List Str} (e : X.N = XN) (h : capsB XN scope.names N caps = true) : Caps X scope N caps := by
  subst e
  unfold capsB at h
  rw [Bool.and_eq_true] at h
  refine ⟨beq_iff_eq.mp h.1, fun i j x h1 h2 => ?_⟩
  have hi := (List.getElem?_eq_some_iff.mp h1).1
  have := List.all_eq_true.mp h.2 i (List.mem_range.mpr hi)
  rw [h1, h2] at this
  simpa using this
theorem gsc_by {sn : List (Str × NameKind)} (e : X.env.scope.names = sn) (h1 : scope.kind = .function) (h2 : scope.isCoroutine = false) (h3 : scope.names.lookup (".0" : Str) = some NameKind.local) (h4 : (scope.names.all fun y => decide (y.2 ≠ .cell) && (decide (y.2 ≠ .free) || decide (sn.lookup y.1 = some .cell) || decide (sn.lookup y.1 = some .free))) = true) : GSc X scope := by
  subst e
  have h := List.all_eq_true.mp h4
  refine ⟨h1, h2, fun y hy => ?_, h3, fun y hy e => ?_⟩
  · have := h y hy
    rw [Bool.and_eq_true] at this
    exact of_decide_eq_true this.1
  · have := h y hy
    rw [Bool.and_eq_true] at this
    have q := this.2
    rw [e] at q
    simpa using q
end
/-- a def with its code object told -/
structure FunC (K : PySem.W.Frag) (x qual : Str) (st : Stmt) (f : Addr) (fd : FuncData) (c : Addr) : Prop where
  ex : ∃ (oc : Value) (od : Option Addr) (kV doc pm : Value) (an : Option Addr) (ct : Value) (osl : Array (Option Value)),
    fd = PySem.W.fnOf x qual (defArgs st) (defBody st) (defScope st) .none kV doc pm an (.ref c) ct ∧ K.lookup f = some ⟨oc, od, .func fd, osl⟩ ∧ PySem.W.codeIn K (.ref c) qual = true
  kp : PySem.W.keepIn K (.ref f) = true
theorem FunC.fun {K : PySem.W.Frag} {x qual : Str} {st : Stmt} {f : Addr} {fd : FuncData} {c : Addr} (F : FunC K x qual st f fd c) : Fun K x qual st f fd := by
  obtain ⟨oc, od, kV, doc, pm, an, ct, osl, h1, h2, h3⟩ := F.ex
  exact ⟨⟨oc, od, kV, doc, pm, an, _, ct, osl, h1, h2, h3⟩, F.kp⟩
theorem FunC.ok {P : Program} {w : World} {K : PySem.W.Frag} {mg : Str → Option Value} {base : Heap} {x qual : Str} {st : Stmt} {f : Addr} {fd : FuncData} {c : Addr} {N ps : List Str} {k : Nat} {sp : Sp} (F : FunC K x qual st f fd c) (S : FnScope N ps (defScope st))
    (len : ∀ vs H Q E, sp vs H Q E → vs.length = ps.length)
    (body : ∀ (A : Around) (outer : List Env) (s : Shared) (H : Hp) (vs : List V) (Q : VK) (E : XK), Room k (A.deeper (envOfC qual (defScope st) s.heap.objs.size f (.ref c))) → sp vs H Q E →
      ∃ t, PSs (cxOf CX0 P w K mg base N qual (defScope st) f (.ref c) A outer s H E).nox (defBody st) t ∧ t { nx := fun _ H' => Q .non H', rt := Q } (start N vs) H) : FnOk P w K mg base CX0 (k + 1) f fd ps sp := by
  obtain ⟨oc, od, kV, doc, pm, an, ct, osl, rfl, lk, hcd⟩ := F.ex
  refine fn_of lk hcd S len fun A outer s H vs Q E hr hsp => ?_
  obtain ⟨t, h, q⟩ := body A outer s H vs Q E hr hsp
  exact ⟨t, h.nox, q⟩
structure DfC (K : PySem.W.Frag) (mg : Str → Option Value) (base : Heap) (x : Str) (st : Stmt) (ps : List Str) (c P : Addr) : Prop where
  ex : ∃ f fd, FunC K x x st f fd c ∧ Binds K fd ps [] ∧ mg x = some (.ref f)
  TB : GxR.TabB base mg c P
  tk : TbK K P
theorem okFC {P : Program} {w : World} {K : PySem.W.Frag} {mg : Str → Option Value} {base : Heap} {x : Str} {st : Stmt} {N ps : List Str} {k : Nat} {p : VSp} {t : VTS} {c Pt : Addr} (Fd : DfC K mg base x st ps c Pt) (S : FnScope N ps (defScope st)) (len : ∀ ss st Kp, p ss st Kp → ss.length = ps.length)
    (hb : ∀ {f : Addr} {A : Around} {outer : List Env} {s : Shared} {H : Hp} {E : XK}, Room k (A.deeper (envOfC x (defScope st) s.heap.objs.size f (.ref c))) → VSs (cxOf CX0 P w K mg base N x (defScope st) f (.ref c) A outer s H E).nox (defBody st) t)
    (rd : ∀ ss cs Kp, p ss cs Kp → t (dV cs.length Kp) ⟨startV N.length ss, cs.map some⟩) : VFn P w K mg base (k + 1) x ps p := by
  obtain ⟨f, fd, F, b, g⟩ := Fd.ex
  refine ⟨f, fd, ?_, F.kp, b, g⟩
  have lenV : ∀ vs H Q E, spV K p vs H Q E → vs.length = ps.length := fun vs H Q E h => by
    obtain ⟨R, F, A, ss, st, Kp, rep, hp, _⟩ := h
    have := rep.len
    simp at this
    rw [← this]
    exact len _ _ _ hp
  refine F.ok S lenV fun A outer s H vs Q E hr h => ?_
  have ht := hb (f := f) (A := A) (outer := outer) (s := s) (H := H) (E := E) hr
  obtain ⟨R, F0, A0, ss, cs, Kp, rep, hp, fin⟩ := h
  have hl := rep.len
  simp at hl
  refine ⟨_, ht, R, F0, A0, ⟨startV N.length ss, cs.map some⟩, dV cs.length Kp, ?_, rd ss cs Kp hp, ?_⟩
  · refine rep.weak ?_ fun i u hu => ?_
    · show (ss.map some ++ List.replicate (N.length - ss.length) none).length = (vs.map some ++ List.replicate (N.length - vs.length) none).length
      simp only [List.length_append, List.length_map, List.length_replicate, hl]
    · replace hu : (ss.map some ++ List.replicate (N.length - ss.length) none)[i]? = some (some u) := hu
      rcases Nat.lt_or_ge i (ss.map some).length with hi | hi
      · rw [List.getElem?_append_left hi] at hu
        obtain ⟨v, h1, h2⟩ := rep.slot i u hu
        refine ⟨v, ?_, h2⟩
        show (vs.map some ++ List.replicate (N.length - vs.length) none)[i]? = _
        rw [List.getElem?_append_left (by rw [List.length_map] at hi ⊢; omega)]
        exact h1
      · rw [List.getElem?_append_right hi] at hu
        have := List.mem_of_getElem? hu
        have := (List.mem_replicate.mp this).2
        cases this
  · have hn : A0.length = cs.length := by
      have := rep.lenA
      simp at this
      exact this.symm
    exact ⟨fun e' σ' F' A' H' k l p r => ret_ok r (s := .val .none) (v := .non) .non hn l p k fin, fun _ _ _ _ _ k => k.elim, fun _ _ _ _ _ k => k.elim, fun s e' v σ' F' A' H' k l p r a => ret_ok r a hn l p k fin, FinX.no⟩
end Vl
namespace Vl
open PySem L2 PySem.Spec PyProof.Rows
def signsD (z : Str) : List D := z.cps.toList.map fun c => PyData.str ⟨#[c]⟩
def vStrI (t : VTE) : VTI := fun e Kp => t e fun s e1 => match pk s e1 with
  | some (.str z) => Kp (signsD z) none e1
  | _ => False
def opInS (neg : Bool) (s1 s2 : Sl) (e : En) (Kp : KE) : Prop := match pk s1 e, pk s2 e with
  | some (.str x), some (.str z) => ∃ c, x = ⟨#[c]⟩ ∧ Kp (.val (.bool (if neg then !decide (c ∈ z.cps.toList) else decide (c ∈ z.cps.toList)))) e
  | _, _ => False
theorem opInS_one (c : Nat) (z : Str) (neg : Bool) (e : En) (Kp : KE) : opInS neg (.val (.str ⟨#[c]⟩)) (.val (.str z)) e Kp = Kp (.val (.bool (if neg then !decide (c ∈ z.cps.toList) else decide (c ∈ z.cps.toList)))) e := by
  show (∃ c', (⟨#[c]⟩ : Str) = ⟨#[c']⟩ ∧ _) = _
  apply propext
  constructor
  · rintro ⟨c', h, k⟩
    cases h
    exact k
  · intro k
    exact ⟨c, rfl, k⟩
section
variable {X : Cx} {tg a b : Expr} {ta tb : VTE} {pos : Pos}
theorem vi_str (ha : VE X a ta) : VI X tg a (vStrI ta) := PI.imp (pi_str ha) fun σ H Q h => by
  obtain ⟨R, F, A, e, Kp, rep, k, fin⟩ := h
  refine ⟨R, F, A, e, _, rep, k, fun s e1 v F1 A1 H1 k1 l1 p1 rep1 a1 => ?_⟩
  split at k1
  · rename_i z hz
    have hl : (signsD z).length = z.cps.size := by simp [signsD]
    refine ⟨z, (rep1.pk a1 hz).str, fin _ _ _ _ _ _ _ k1 l1 p1 rep1 ⟨fun {R' F' A' σ' H' e'} i d hi l p rep' c => ?_, fun {R' F' A' σ' H' e'} l p rep' c => ?_⟩⟩
    · have hlt : i < z.cps.size := by
        have := (List.getElem?_eq_some_iff.mp hi).1
        omega
      refine ⟨hlt, fun x H3 y => ?_⟩
      obtain ⟨rfl, cc, hc, rfl⟩ := y
      have ed : d = .str ⟨#[cc]⟩ := by
        unfold signsD at hi
        rw [List.getElem?_map, Array.getElem?_toList, hc] at hi
        exact (Option.some.inj hi).symm
      subst ed
      exact ⟨F', Le.refl _, rep', .str _⟩
    · show z.cps.size ≤ (signsD z).length
      omega
  · exact k1.elim
theorem p_inS (neg : Bool) {K : PySem.W.Frag} : Prim2 K (fun x y H Q => ∃ (c : Nat) (z : Str), x = .str ⟨#[c]⟩ ∧ y = .str z ∧ Q (.bl (if neg then !decide (c ∈ z.cps.toList) else decide (c ∈ z.cps.toList))) H) (opInS neg) := by
  intro R F A σ H e x y s1 s2 Kp Q rep a1 a2 ho fin
  unfold opInS at ho
  split at ho
  · rename_i x' z h1 h2
    obtain ⟨c, rfl, k⟩ := ho
    exact ⟨c, z, (rep.pk a1 h1).str, (rep.pk a2 h2).str, fin.val rep k (.bl _)⟩
  · exact ho.elim
theorem ve_inS (ha : VE X a ta) (hb : VE X b tb) (hm : behindInMarks .In b = false := by rfl) : VE X (.Compare a [.In] [b] pos) (v2 (opInS false) ta tb) := ve_cmp (p_inS false) op_in_sign ha hb hm
theorem vt_notInS (ha : VE X a ta) (hb : VE X b tb) (hm : behindInMarks .NotIn b = false := by rfl) : VT X (.Compare a [.NotIn] [b] pos) (vTest (v2 (opInS true) ta tb)) := vt_cmp (p_inS true) op_notIn_sign ha hb hm
end
end Vl
namespace Vl
open PySem L2 PySem.Spec PyProof.Rows
/-- the top's record of a def: its code object and its empty table -/
def Told (q : Program) (mg : Str → Option Value) (h : Heap) : Prop :=
  ∀ d ∈ PyProof.Rows.recsOf q, ∃ (f : Addr) (o : Obj) (fd : FuncData) (c P : Addr), mg d.name = some (.ref f) ∧ h.get? f = some o ∧ o.data = .func fd ∧ fd.code = .ref c ∧ h.IsCode c P #[] ∧ h.TableAt c P #[]
theorem Told.tab {q : Program} {mg : Str → Option Value} {h : Heap} (T : Told q mg h) {K : PySem.W.Frag} (X : K.In h) {x : Str} (hx : ((PyProof.Rows.recsOf q).any fun e => e.name == x) = true) {f c P : Addr} (hm : mg x = some (.ref f))
    {oc : Value} {od : Option Addr} {fd : FuncData} {osl : Array (Option Value)} (l : K.lookup f = some ⟨oc, od, .func fd, osl⟩) (hc : fd.code = .ref c)
    {e : Value} {dd : Option Addr} {vs : Array Value} {sl : Array (Option Value)} (lc : K.lookup c = some ⟨e, dd, .fields vs, sl⟩) (h11 : vs[11]? = some (.ref P)) :
    PySem.W.CodeHd h c P ∧ h.get? P = some { cls := .none, data := .fields #[] } := by
  obtain ⟨d, hd, he⟩ := List.any_eq_true.mp hx
  have hn : d.name = x := beq_iff_eq.mp he
  obtain ⟨f1, o1, fd1, c1, P1, g1, g2, g3, g4, g5, g6⟩ := T d hd
  rw [hn, hm] at g1
  obtain rfl : f = f1 := by injection (Option.some.inj g1)
  rw [X _ _ l] at g2
  obtain rfl := Option.some.inj g2
  obtain rfl : fd = fd1 := by injection g3
  rw [hc] at g4
  obtain rfl : c = c1 := by injection g4
  have hd' := PySem.W.CodeHd.of g5 g6
  obtain ⟨⟨o2, v2, e1, _, e3, e4⟩, hP⟩ := g6
  rw [X _ _ lc] at e1
  obtain rfl := Option.some.inj e1
  obtain rfl : vs = v2 := by injection e3
  rw [h11] at e4
  obtain rfl : P = P1 := by injection (Option.some.inj e4)
  exact ⟨hd', hP⟩
theorem walk_tabs {l : PySem.W.OpenLaw} {n k : Nat} {q : Program} {loose : List Str} {XP : (Str → Option Value) → Heap → Prop} {YP : World → Heap → Prop} {d : DefRec} {K : Params → PySem.W.Frag} {CX : World → CXT} {x : Str}
    (hn : l.most = some n) (hn2 : n ≤ sizeLine) (hdf : d.params.defaults = []) (hr : Room k callerA) (hY : ∀ (w : World) (h : Heap), YP w h → (K w.params).In h)
    (F : ∀ (w : World) (mg : Str → Option Value) (fa : Addr) (h : Heap), (K w.params).In h → h.Ns mainGlobals mg → mg d.name = some (.ref fa) → Told q mg h → LamX.LawAtS l w (K w.params) (CX w) k n x mg fa h)
    (hCX : ∀ (w : World) (H : Hp) (s : Shared) (e : Value) (s' : Shared), CX w [] H s (fun _ _ _ => False) e s' → False) :
    PySem.W.WalkO q loose XP YP l.row.toRowW d [] (fun f vs => PySem.call f vs) := by
  refine Att.attach_callB hn hdf ?_
  intro w s0 s1 mg mb fa o pm cd doc a vs ns G Y ho hd hcd hmg hobj hints hlen hbits hg
  have KX := hY w _ Y
  obtain ⟨fd, cs, sp, t1, t2, t3, hb, hsp, hF⟩ := F w mg fa _ KX G.T.g hmg G.T.tab
  exact LamX.law_callTs KX G.T.g G.T.b G.T.builtins G.T.nolimit hg t1 t2 t3 G.T.bmain hobj hints (Nat.le_trans hlen hn2) hr hF hb (fun H hH hS => hsp H a ns hlen hbits hH hS) fun H e s' => hCX w H s1 e s'
theorem tb_conv {base : Heap} {mg : Str → Option Value} {c P : Addr} (h : LamX.TabB base mg c P) : GxR.TabB base mg c P := ⟨h.code, h.bm, h.gP⟩
theorem tbAt_one {K : PySem.W.Frag} {nm : Str} {f c P : Addr} {oc : Value} {od : Option Addr} {fd : FuncData} {sl : Array (Option Value)} {e : Value} {dd : Option Addr} {vs : Array Value} {sx : Array (Option Value)}
    (a : PySem.W.nsIn K mainGlobals nm = some (some (.ref f))) (l : K.lookup f = some ⟨oc, od, .func fd, sl⟩) (hc : fd.code = .ref c) (lc : K.lookup c = some ⟨e, dd, .fields vs, sx⟩) (h11 : vs[11]? = some (.ref P)) {c' P' : Addr} (h : TbAt K nm c' P') : P' = P := by
  obtain ⟨f2, oc2, od2, fd2, sl2, e2, dd2, vs2, sx2, h1, h2, h3, h4, h5⟩ := h
  rw [a] at h1
  cases h1
  rw [l] at h2
  cases h2
  rw [hc] at h3
  cases h3
  rw [lc] at h4
  cases h4
  rw [h11] at h5
  cases h5
  rfl
theorem tbAt_no {K : PySem.W.Frag} {nm : Str} {c P : Addr} (z : PySem.W.nsIn K mainGlobals nm = some none) : ¬ TbAt K nm c P := fun ⟨f2, oc2, od2, fd2, sl2, e2, dd2, vs2, sx2, h1, _⟩ => by
  rw [z] at h1
  cases h1
theorem tabG_of {H : Hp} {P : Addr} (h : H P = some (.tbl #[])) : GxR.TabG H P := ⟨#[], h, trivial⟩
end Vl
namespace Vl
open PySem L2 PySem.Spec PyProof.Rows
section
variable {X : Cx} {a b : Expr} {ta tb : VTE} {pos : Pos}
/-- xs[n] -/
theorem SlAts.atI {K : PySem.W.Frag} {F : Hp} {A : List Addr} {vs : List V} {ss : List Sl} (h : SlAts K F A vs ss) {i : Int} {s : Sl} (e : L2.atI ss i = some s) : ∃ v, L2.atI vs i = some v ∧ SlAt K F A v s := by
  unfold L2.atI at e ⊢
  rw [h.len]
  cases q : ixN ss.length i with
  | none => rw [q] at e; cases e
  | some j =>
    rw [q] at e
    exact slAts_get h e
end
end Vl
namespace Vl
open PySem L2 PySem.Spec PyProof.Rows
end Vl
namespace Vl
open PySem L2 PySem.Spec PyProof.Rows
end Vl
namespace Vl
open PySem L2 PySem.Spec PyProof.Rows
end Vl
namespace Vl
open PySem L2 PySem.Spec PyProof.Rows
end Vl
namespace Vl
open PySem L2 PySem.Spec PyProof.Rows Builtin PySem.SeqAt PySem.MeetsSeq
end Vl
namespace Vl
open PySem L2 PySem.Spec PyProof.Rows
structure Ways2 (P : Program) (w : World) (K : PySem.W.Frag) (mg : Str → Option Value) (base : Heap) (k : Nat) (x1 x2 : Str) (f1 f2 : Addr) (p : VSp) : Prop where
  m1 : mg x1 = some (.ref f1)
  m2 : mg x2 = some (.ref f2)
  G : ∀ f ∈ [f1, f2], ∃ fd ps, FnOk P w K mg base CX0 k f fd ps (spV K p) ∧ PySem.W.keepIn K (.ref f) = true ∧ Binds K fd ps []
def wayT (fs : List Addr) (p : VSp) (f : Addr) : Option VSp := if f ∈ fs then some p else none
theorem Ways2.of {P : Program} {w : World} {K : PySem.W.Frag} {mg : Str → Option Value} {base : Heap} {k : Nat} {x1 x2 : Str} {ps qs : List Str} {p : VSp} (G1 : VFn P w K mg base k x1 ps p) (G2 : VFn P w K mg base k x2 qs p) : ∃ f1 f2, Ways2 P w K mg base k x1 x2 f1 f2 p := by
  obtain ⟨f1, d1, a1, b1, c1, e1⟩ := G1.ex
  obtain ⟨f2, d2, a2, b2, c2, e2⟩ := G2.ex
  refine ⟨f1, f2, e1, e2, fun f hf => ?_⟩
  simp only [List.mem_cons, List.not_mem_nil, or_false] at hf
  rcases hf with rfl | rfl
  · exact ⟨d1, _, a1, b1, c1⟩
  · exact ⟨d2, _, a2, b2, c2⟩
theorem Ways2.call {P : Program} {w : World} {K : PySem.W.Frag} {mg : Str → Option Value} {base : Heap} {k : Nat} {x1 x2 : Str} {f1 f2 : Addr} {p : VSp} (W : Ways2 P w K mg base k x1 x2 f1 f2 p) :
    ∀ f q, wayT [f1, f2] p f = some q → ∃ fd ps, FnOk P w K mg base CX0 k f fd ps (spV K q) ∧ PySem.W.keepIn K (.ref f) = true ∧ Binds K fd ps [] := fun f q h => by
  unfold wayT at h
  split at h
  · cases h
    exact W.G f (by assumption)
  · cases h
end Vl
namespace Vl
open PySem L2 PySem.Spec PyProof.Rows
end Vl
namespace Vl
open PySem L2 PySem.Spec PyProof.Rows
theorem VFn.weak {P : Program} {w : World} {K : PySem.W.Frag} {mg : Str → Option Value} {base : Heap} {k : Nat} {x : Str} {ps : List Str} {p p' : VSp} (G : VFn P w K mg base k x ps p) (h : ∀ ss st Kp, p' ss st Kp → p ss st Kp) : VFn P w K mg base k x ps p' := by
  obtain ⟨f, fd, F, a, b, c⟩ := G.ex
  refine ⟨f, fd, F.imp (fun vs H Q E z => ?_), a, b, c⟩
  obtain ⟨R, F0, A, ss, st, Kp, rep, hp, fin⟩ := z
  exact ⟨R, F0, A, ss, st, Kp, rep, h _ _ _ hp, fin⟩
end Vl
namespace Vl
open PySem L2 PySem.Spec PyProof.Rows PySem.SeqAt
end Vl
namespace Vl
open PySem L2 PySem.Spec PyProof.Rows
end Vl
namespace Vl
open PySem L2 PySem.Spec PyProof.Rows
end Vl
namespace Vl
open PySem L2 PySem.Spec PyProof.Rows
end Vl
namespace Vl
open PySem L2 PySem.Spec PyProof.Rows
def tSSet (K : PySem.W.Frag) (ta : TE) : TE := fun σ H Q => ta σ H fun x H1 => ∃ (l : Addr) (xs : List Str), x = .ref l ∧ SqL K H1 l (xs.map V.str) ∧ xs.length ≤ 4000 ∧ ∀ p, H1 p = none → Q (.ref p) (upd H1 p (.lst ((sset xs).map V.str)))
theorem pe_sset {X : Cx} {a : Expr} {ta : TE} {p p2 q pos : Pos} (hc : X.calm = true) (hu : X.A.units + 190 < cLine) (hg : Gl X "sorted") (hm : X.mg "sorted" = none) (hg2 : Gl X "set") (hm2 : X.mg "set" = none) (ha : PE X a ta)
    (na : starEach [a] X.env = (false, eval a X.env) :: starEach [] X.env := by rfl) : PE X (.Call (.Name "sorted" p) [.Call (.Name "set" p2) [a] [] q] [] pos) (tSSet X.K ta) := by
  refine ⟨fun pins s σ H Q I h => ?_⟩
  refine Call_ (ld_blt I hg hm PyProof.Rows.boot_sorted ?_)
  refine PyProof.Rows.callWith_builtin1 (PyProof.Rows.args_cons ?_ rfl) rfl rfl
  refine Call_ (ld_blt I hg2 hm2 PyProof.Rows.boot_set ?_)
  refine PyProof.Rows.callWith_type1 (PyProof.Rows.args_cons (thn (ha.run pins s σ H _ I h) fun v s1 ⟨x, H1, I1, r1, q1⟩ => PyProof.Rows.args_nil ?_) na) na rfl
  obtain ⟨l, xs, rfl, hq, hl, q1⟩ := q1
  cases r1
  obtain ⟨its, r, pl, hz⟩ := I1.list hq
  refine call_set_texts xs (I1.ok.hd hc) pl.isList (by simpa using strsAre_of r) (by unfold scanBound; omega) fun h' tk ks T hk hmem kp => ?_
  refine PyProof.Rows.args_nil ?_
  have I2 : Inv X pins σ H1 { s1 with heap := h', toks := tk } := I1.kept kp
  refine call_sorted_set (s := { s1 with heap := h', toks := tk }) (I2.ok.hd hc) hu T (by omega) fun s' p0 out c k g o hp hg0 hv => ?_
  have sl : (sset ks).length ≤ ks.length := sset_len ks
  have hlen : ((sset ks).map V.str).length ≤ sizeLine := by
    rw [List.length_map, sizeLine_eq]
    omega
  have hn : H1 p0 = none := I2.hok.fresh hp
  have kk : ∀ b u, s1.heap.get? b = some u → s'.heap.get? b = some u := fun b u e => k b u (kp b u e)
  have hl1 : s1.heap.objs.size < h'.objs.size := by
    obtain ⟨⟨D0, hD, _⟩, _⟩ := T
    exact Heap.lt_size hD
  have hp' : s1.heap.objs.size ≤ p0 := Nat.le_trans (Nat.le_of_lt hl1) hp
  have J : Inv X pins σ (upd H1 p0 (.lst ((sset ks).map V.str))) { s1 with heap := s'.heap, gens := s'.gens, drawn := s'.drawn, toks := s'.toks } :=
    I1.call (ch := []) (Un.laid kk hp' hn) (I1.hok.laid kk hp' ⟨hlen, out, c, hv, hg0⟩) (by rw [g]; exact I1.bare) (fun _ z => nomatch z)
  have e : s' = { s1 with heap := s'.heap, gens := s'.gens, drawn := s'.drawn, toks := s'.toks } := by
    cases s'
    cases s1
    cases o
    rfl
  rw [e]
  have q2 := q1 p0 hn
  rw [← sset_eq hmem] at q2
  exact ⟨.ref p0, _, J, rfl, q2⟩
def opSSet (s : Sl) (e : En) (Kp : KE) : Prop := match pk s e with
  | some (.list ds) => ∃ xs, txts ds = some xs ∧ xs.length ≤ 4000 ∧ Kp (.val (.list ((sset xs).map .str))) e
  | _ => False
theorem ve_sset {X : Cx} {a : Expr} {t : VTE} {p p2 q pos : Pos} (hc : X.calm = true) (hu : X.A.units + 190 < cLine) (hg : Gl X "sorted") (hm : X.mg "sorted" = none) (hg2 : Gl X "set") (hm2 : X.mg "set" = none) (ha : VE X a t)
    (na : starEach [a] X.env = (false, eval a X.env) :: starEach [] X.env := by rfl) : VE X (.Call (.Name "sorted" p) [.Call (.Name "set" p2) [a] [] q] [] pos) (v1 opSSet t) := PE.imp (pe_sset hc hu hg hm hg2 hm2 ha na) fun σ H Q h => by
  obtain ⟨R, F, A, e, Kp, rep, ht, fin⟩ := h
  refine ⟨R, F, A, e, _, rep, ht, fun s e1 v F1 A1 H1 k l1 l2 rep1 a1 => ?_⟩
  unfold opSSet at k
  split at k
  · rename_i ds hd
    obtain ⟨xs, h1, h2, h3⟩ := k
    obtain ⟨b, vs, rfl, q1, q2⟩ := rep1.pk a1 hd
    rw [txts_at h1 q2] at q1
    exact ⟨b, xs, rfl, q1, h2, fun p0 hp => (fin.tr l1 l2).newL rep1 hp h3 (strs_at _)⟩
  · exact k.elim
end Vl
namespace Vl
open PySem L2 PySem.Spec PyProof.Rows PySem.SeqAt PySem.MeetsSeq
mutual
def okSm : D → Bool
  | .list ds => okSms ds
  | .tuple ds => okSms ds
  | .dict [] => true
  | .dict _ => false
  | _ => true
def okSms : List D → Bool
  | [] => true
  | d :: ds => okSm d && okSms ds
end
section
variable {A : Around} {s : Shared}
/-- a dict without entries -/
def No0 (s : Shared) (a : Addr) : Prop := (a == sysModules) = false ∧ ∃ o ep, s.heap.get? a = some o ∧ o.ExactDict ∧ o.data = .dict #[] ep
theorem No0.of {P : Program} {w : World} {a : Addr} (n : No0 s a) : s.heap.DictOf (mixKind P w) a [] := by
  obtain ⟨_, o, ep, h1, h2, h3⟩ := n
  exact ⟨o, #[], ep, h1, h2, h3, (fun i e => absurd e (by simp)), .nil, .nil⟩
theorem rc_no0 {a b : Addr} (ha : No0 s a) (hb : No0 s b) (hu : A.units < cLine) : RcAt A s (.ref a) (.ref b) true := fun prog w E Q h =>
  PySem.W.rcP_dicts (knd := mixKind prog w) (ka := []) (kb := []) (r := true) ha.1 hb.1 ha.of hb.of hu (fun _ => .nil) E Q h
theorem rn_no0 {a b : Addr} (ha : No0 s a) (hb : No0 s b) (hu : A.units < cLine) : RcNeAt A s (.ref a) (.ref b) false := fun prog w E Q h => by
  have da := ha.of (P := prog) (w := w)
  have db := hb.of (P := prog) (w := w)
  refine wpAny_richCompare_same_room (op := .NotEq) da.typeIs db.typeIs PySem.F.slot_dict_ne (wpAny_call_entry PySem.F.slot_dict_ne da.typeIs PySem.F.entry_dict_ne ?_ (PySem.F.args_dict_ne_2 _ _)) hu
  refine wpAny_bind (m := Builtin.Dict.dictSlotArgs "__ne__" ⟨[.ref a, .ref b], []⟩) ?_
  unfold Builtin.Dict.dictSlotArgs
  refine wpAny_bind (wpAny_notOrdered_dict da.typeIs (wpAny_pure (a := (Value.ref a, Value.ref b)) (wpAny_bind (wpAny_isInstance (T := "dict") db.typeIs PySem.F.sub_dict_dict ?_))))
  simp only [Bool.not_true, Bool.false_eq_true, if_false]
  refine wpAny_bind (wpAny_pure (wpAny_bind (wpAny_pure (wpAny_bind (PySem.W.samePairsP (r := true) ha.1 hb.1 da db (fun _ => .nil) ?_)))))
  exact wpAny_pure ⟨_, rfl, (fun x => nomatch x), h⟩
end
section
variable {X : Cx} {pins : List (Addr × Obj)} {σ : L2.St} {F H : Hp} {s : Shared}
theorem no0_of (I : Inv X pins σ H s) {a : Addr} (h : H a = some (.dK [])) : No0 s a := by
  obtain ⟨_, h1, vs, kv, ⟨o, es, ep, h2, h3, h4, _, h5, _⟩⟩ := dk_of I.hok h
  have l1 : vs.length = 0 := by
    have := kv.length
    simpa using this.symm
  have l2 := h5.length
  have e : es = #[] := by
    apply Array.eq_empty_of_size_eq_zero
    rw [← Array.length_toList]
    omega
  subst e
  exact ⟨h1, o, ep, h2, h3, h4⟩
mutual
theorem same_eq (I : Inv X pins σ H s) (sub : Le F H) : ∀ (d : D) (A : Around) (x y : V) (v u : Value), okSm d = true → A.units + d.depth + 1 < cLine → At X.K F d x → At X.K F d y → RelV x v → RelV y u → EqAt A s v u true
  | .none, A, x, y, v, u, _, _, hx, hy, rx, ry => by
    cases hx
    cases hy
    cases rx
    cases ry
    exact EqAt.same _
  | .bool b, A, x, y, v, u, _, _, hx, hy, rx, ry => by
    cases hx
    cases hy
    cases rx
    cases ry
    exact EqAt.same _
  | .int i, A, x, y, v, u, _, _, hx, hy, rx, ry => by
    cases hx
    cases hy
    obtain ⟨t, rfl⟩ := rx
    obtain ⟨k, rfl⟩ := ry
    have := EqAt.int_int (A := A) (s := s) i t i k
    simpa using this
  | .str z, A, x, y, v, u, _, _, hx, hy, rx, ry => by
    cases hx
    cases hy
    obtain ⟨t, rfl⟩ := rx
    obtain ⟨k, rfl⟩ := ry
    have := EqAt.str_str (A := A) (s := s) z t z k
    simpa using this
  | .list ds, A, x, y, v, u, ok, hu, hx, hy, rx, ry => by
    cases hx with
    | lst h1 h2 =>
      cases hy with
      | lst g1 g2 =>
        rename_i a xs b ys
        cases (show v = Value.ref a from rx)
        cases (show u = Value.ref b from ry)
        by_cases e : a = b
        · subst e
          exact EqAt.same _
        · obtain ⟨us, r1, p1, _⟩ := I.list (SqL.of (sub _ _ h1))
          obtain ⟨ws, r2, p2, _⟩ := I.list (SqL.of (sub _ _ g1))
          have l1 : us.length = ds.length := by rw [← r1.length, h2.len]
          have l2 : ws.length = ds.length := by rw [← r2.length, g2.len]
          refine EqAt.of_refs e ?_
          have hu' : A.units + (PyData.depthAll ds + 1) + 1 < cLine := hu
          have k := same_eqs I sub ds A.in1 xs ys us ws ok (by show A.units + 1 + _ + 1 < cLine; omega) h2 g2 r1 r2
          have := RcAt.lists (A := A) (e := fun _ => true) p1.isList p2.isList (by simp [l1, l2]) (by omega) fun j j1 j2 => by simpa using k j (by simpa using j1) (by simpa using j2)
          rw [show ((List.range us.toArray.size).all fun _ => true) = true from List.all_eq_true.mpr fun _ _ => rfl] at this
          exact this
  | .tuple ds, A, x, y, v, u, ok, hu, hx, hy, rx, ry => by
    cases hx with
    | tup h1 h2 =>
      cases hy with
      | tup g1 g2 =>
        rename_i a xs b ys
        cases (show v = Value.ref a from rx)
        cases (show u = Value.ref b from ry)
        by_cases e : a = b
        · subst e
          exact EqAt.same _
        · obtain ⟨us, r1, p1, _⟩ := I.tuple (sqT_le sub h1)
          obtain ⟨ws, r2, p2, _⟩ := I.tuple (sqT_le sub g1)
          have l1 : us.length = ds.length := by rw [← r1.length, h2.len]
          have l2 : ws.length = ds.length := by rw [← r2.length, g2.len]
          refine EqAt.of_refs e ?_
          have hu' : A.units + (PyData.depthAll ds + 1) + 1 < cLine := hu
          have k := same_eqs I sub ds A.in1 xs ys us ws ok (by show A.units + 1 + _ + 1 < cLine; omega) h2 g2 r1 r2
          have := RcAt.tuples (A := A) (e := fun _ => true) p1 p2 (by omega) fun j j1 j2 => by simpa using k j (by simpa using j1) (by simpa using j2)
          have sz : us.toArray.size = ws.toArray.size := by simp [l1, l2]
          rw [sz, show ((List.range (min ws.toArray.size ws.toArray.size)).all fun _ => true) = true from List.all_eq_true.mpr fun _ _ => rfl] at this
          simpa using this
  | .dict [], A, x, y, v, u, ok, hu, hx, hy, rx, ry => by
    cases hx with
    | dct h1 =>
      cases hy with
      | dct g1 =>
        rename_i a b
        cases (show v = Value.ref a from rx)
        cases (show u = Value.ref b from ry)
        by_cases e : a = b
        · subst e
          exact EqAt.same _
        · exact EqAt.of_refs e (rc_no0 (no0_of I (sub _ _ h1)) (no0_of I (sub _ _ g1)) (by omega))
  | .dict (p :: ps), A, x, y, v, u, ok, hu, hx, hy, rx, ry => by
    unfold okSm at ok
    cases ok
theorem same_eqs (I : Inv X pins σ H s) (sub : Le F H) : ∀ (ds : List D) (A : Around) (xs ys : List V) (us ws : List Value), okSms ds = true → A.units + PyData.depthAll ds + 1 < cLine → AtL X.K F ds xs → AtL X.K F ds ys → Vals xs us → Vals ys ws → ∀ j (h1 : j < us.length) (h2 : j < ws.length), EqAt A s us[j] ws[j] true
  | [], A, xs, ys, us, ws, ok, hu, hx, hy, rx, ry, j, h1, h2 => by
    cases hx
    cases rx
    exact absurd h1 (Nat.not_lt_zero j)
  | d :: ds, A, xs, ys, us, ws, ok, hu, hx, hy, rx, ry, j, h1, h2 => by
    unfold okSms at ok
    rw [Bool.and_eq_true] at ok
    have e : PyData.depthAll (d :: ds) = max d.depth (PyData.depthAll ds) := rfl
    cases hx with
    | cons a1 b1 =>
      cases hy with
      | cons a2 b2 =>
        cases rx with
        | cons c1 d1 =>
          cases ry with
          | cons c2 d2 =>
            cases j with
            | zero => exact same_eq I sub d A _ _ _ _ ok.1 (by omega) a1 a2 c1 c2
            | succ j => exact same_eqs I sub ds A _ _ _ _ ok.2 (by omega) b1 b2 d1 d2 j (Nat.lt_of_succ_lt_succ h1) (Nat.lt_of_succ_lt_succ h2)
end
/-- x != y -/
def rNeSm (K : PySem.W.Frag) : R2 := fun x y H Q => ∃ (F : Hp) (d : D), Le F H ∧ okSm d = true ∧ d.depth ≤ 180 ∧ At K F d x ∧ At K F d y ∧ Q (.bl false) H
theorem op_neSm (hu : X.A.units + 190 < cLine) : OpR X (compareOp .NotEq) (rNeSm X.K) := by
  intro pins s σ H x y v u Q I rx ry h
  obtain ⟨F, d, sub, ok, hd, hx, hy, q⟩ := h
  suffices RcNeAt X.A s v u false from this _ _ _ _ ⟨.bl false, H, I, rfl, q⟩
  match d, ok, hd, hx, hy with
  | .none, _, _, hx, hy =>
    cases hx
    cases hy
    cases rx
    cases ry
    exact RcNeAt.none_none
  | .bool b, _, _, hx, hy =>
    cases hx
    cases hy
    cases rx
    cases ry
    have := RcNeAt.bool_bool (A := X.A) (s := s) b b
    simpa using this
  | .int i, _, _, hx, hy =>
    cases hx
    cases hy
    obtain ⟨t, rfl⟩ := rx
    obtain ⟨k, rfl⟩ := ry
    have := RcNeAt.int_int (A := X.A) (s := s) i t i k
    simpa using this
  | .str z, _, _, hx, hy =>
    cases hx
    cases hy
    obtain ⟨t, rfl⟩ := rx
    obtain ⟨k, rfl⟩ := ry
    have := RcNeAt.str_str (A := X.A) (s := s) z t z k
    simpa using this
  | .list ds, ok, hd, hx, hy =>
    cases hx with
    | lst h1 h2 =>
      cases hy with
      | lst g1 g2 =>
        rename_i a xs b ys
        cases (show v = Value.ref a from rx)
        cases (show u = Value.ref b from ry)
        obtain ⟨us, r1, p1, _⟩ := I.list (SqL.of (sub _ _ h1))
        obtain ⟨ws, r2, p2, _⟩ := I.list (SqL.of (sub _ _ g1))
        have l1 : us.length = ds.length := by rw [← r1.length, h2.len]
        have l2 : ws.length = ds.length := by rw [← r2.length, g2.len]
        have hd' : PyData.depthAll ds + 1 ≤ 180 := hd
        have k := same_eqs I sub ds X.A.in1 xs ys us ws ok (by show X.A.units + 1 + _ + 1 < cLine; omega) h2 g2 r1 r2
        have := RcNeAt.lists (A := X.A) (e := fun _ => true) p1.isList p2.isList (by simp [l1, l2]) (by omega) fun j j1 j2 => by simpa using k j (by simpa using j1) (by simpa using j2)
        rw [show ((List.range us.toArray.size).all fun _ => true) = true from List.all_eq_true.mpr fun _ _ => rfl] at this
        exact this
  | .tuple ds, ok, hd, hx, hy =>
    cases hx with
    | tup h1 h2 =>
      cases hy with
      | tup g1 g2 =>
        rename_i a xs b ys
        cases (show v = Value.ref a from rx)
        cases (show u = Value.ref b from ry)
        obtain ⟨us, r1, p1, _⟩ := I.tuple (sqT_le sub h1)
        obtain ⟨ws, r2, p2, _⟩ := I.tuple (sqT_le sub g1)
        have l1 : us.length = ds.length := by rw [← r1.length, h2.len]
        have l2 : ws.length = ds.length := by rw [← r2.length, g2.len]
        have hd' : PyData.depthAll ds + 1 ≤ 180 := hd
        have k := same_eqs I sub ds X.A.in1 xs ys us ws ok (by show X.A.units + 1 + _ + 1 < cLine; omega) h2 g2 r1 r2
        have := RcNeAt.tuples (A := X.A) (e := fun _ => true) p1 p2 (by omega) fun j j1 j2 => by simpa using k j (by simpa using j1) (by simpa using j2)
        have sz : us.toArray.size = ws.toArray.size := by simp [l1, l2]
        rw [sz, show ((List.range (min ws.toArray.size ws.toArray.size)).all fun _ => true) = true from List.all_eq_true.mpr fun _ _ => rfl] at this
        simpa using this
  | .dict [], _, _, hx, hy =>
    cases hx with
    | dct h1 =>
      cases hy with
      | dct g1 =>
        rename_i a b
        cases (show v = Value.ref a from rx)
        cases (show u = Value.ref b from ry)
        exact rn_no0 (no0_of I (sub _ _ h1)) (no0_of I (sub _ _ g1)) (by omega)
  | .dict (p :: ps), ok, _, _, _ =>
    unfold okSm at ok
    cases ok
end
def dat : Sl → Option D
  | .val d => some d
  | _ => none
def ySm (s1 s2 : Sl) (e : En) (Kp : KE) : Prop := match dat s1, dat s2 with
  | some d1, some d2 => d1 = d2 ∧ okSm d1 = true ∧ d1.depth ≤ 180 ∧ Kp (.val (.bool false)) e
  | _, _ => False
theorem p_ysm {K : PySem.W.Frag} : Prim2 K (rNeSm K) ySm := by
  intro R F A σ H e x y s1 s2 Kp Q rep a1 a2 ho fin
  unfold ySm at ho
  split at ho
  · rename_i d1 d2 h1 h2
    obtain ⟨rfl, ok, hd, k⟩ := ho
    obtain rfl : s1 = .val d1 := by
      cases s1 <;> cases h1
      rfl
    obtain rfl : s2 = .val d1 := by
      cases s2 <;> cases h2
      rfl
    exact ⟨F, d1, rep.sub, ok, hd, a1, a2, fin.val rep k (.bl _)⟩
  · exact ho.elim
section
variable {X : Cx} {a b : Expr} {ta tb : VTE} {pos : Pos}
theorem vt_ysm (hu : X.A.units + 190 < cLine) (ha : VE X a ta) (hb : VE X b tb) (hm : behindInMarks .NotEq b = false := by exact nomark _) : VT X (.Compare a [.NotEq] [b] pos) (vTest (v2 ySm ta tb)) := vt_cmp p_ysm (op_neSm hu) ha hb hm
end
end Vl
namespace Vl
open PySem L2 PySem.Spec PyProof.Rows
theorem bl_beq (a b : Bool) : (Value.bool a == Value.bool b) = decide (a = b) := by
  cases a <;> cases b <;> decide
def rIsB (neg : Bool) : R2 := fun x y H Q => ∃ a b : Bool, x = .bl a ∧ y = .bl b ∧ Q (.bl (if neg then !decide (a = b) else decide (a = b))) H
theorem op_notB {X : Cx} : OpR X (compareOp .IsNot) (rIsB true) := by
  intro pins s σ H x y v u Q I rx ry h
  obtain ⟨a, b, rfl, rfl, q⟩ := h
  cases (show v = Value.bool a from rx)
  cases (show u = Value.bool b from ry)
  exact wpAny_isNot_plain rfl (fin_bl I q (congrArg not (bl_beq a b).symm))
def xIsB (neg : Bool) (s1 s2 : Sl) (e : En) (Kp : KE) : Prop := match pk s1 e, pk s2 e with
  | some (.bool a), some (.bool b) => Kp (.val (.bool (if neg then !decide (a = b) else decide (a = b)))) e
  | _, _ => False
theorem p_isB {K : PySem.W.Frag} {neg : Bool} : Prim2 K (rIsB neg) (xIsB neg) := by
  intro R F A σ H e x y s1 s2 Kp Q rep a1 a2 ho fin
  unfold xIsB at ho
  split at ho
  · rename_i a b h1 h2
    exact ⟨a, b, (rep.pk a1 h1).bool, (rep.pk a2 h2).bool, fin.val rep ho (.bl _)⟩
  · exact ho.elim
section
variable {X : Cx} {a b : Expr} {ta tb : VTE} {pos : Pos}
theorem vt_notB (ha : VE X a ta) (hb : VE X b tb) (hm : behindInMarks .IsNot b = false := by first | rfl | exact nomark _) : VT X (.Compare a [.IsNot] [b] pos) (vTest (v2 (xIsB true) ta tb)) := vt_cmp p_isB op_notB ha hb hm
end
end Vl
namespace Kf
open PySem L2 Vl PySem.Spec PyProof.Rows
/-- a row of numbers that is drawn from: what is left of the cell, and a number -/
def PoolK (n : Int) : Prop := 0 ≤ n ∧ n < 2147483647
def pTake : VSp := fun ss st Kp => match ss, st with
  | [.obj 0, .val (.int m)], [.l [.int c, .int n]] => PoolK n ∧ 0 < m ∧ m < 1329227995784915872903807060280344576 ∧ ∀ r c' n' : Int, 0 ≤ r → r < m → PoolK n' → Kp (.val (.int r)) [.l [.int c', .int n']]
  | _, _ => False
def pPool : VSp := fun ss st Kp => ∃ (ns : List Int) (k : Nat), ss = [.kn (ns.map .int), .val (.int (k : Int))] ∧ st = [] ∧ ns.length ≤ 63 ∧ k ≤ 63 ∧
  ∀ c n : Int, PoolK n → Kp (.obj 0) [.l [.int c, .int n]]
theorem nm_nat {x m : Int} (hm : 0 < m) : 0 ≤ x.fmod m ∧ x.fmod m < m := ⟨Int.fmod_nonneg_of_pos x hm, Int.fmod_lt_of_pos x hm⟩
theorem at_any {α : Type} {xs : List α} {r : Int} (h0 : 0 ≤ r) (h1 : r < xs.length) : ∃ x, atI xs r = some x ∧ x ∈ xs := by
  obtain ⟨j, rfl⟩ : ∃ j : Nat, r = j := ⟨r.toNat, by omega⟩
  have hj : j < xs.length := by omega
  exact ⟨xs[j], atI_nat (by simp [hj]), List.getElem_mem hj⟩
inductive Kd where
  | mark (m : Str)
  | one
  | to (a b : Kd)
  | both (a b : Kd)
deriving DecidableEq
def Kd.enc : Kd → D
  | .mark m => .tuple [.str "mark", .str m]
  | .one => .tuple [.str "one"]
  | .to a b => .tuple [.str "to", a.enc, b.enc]
  | .both a b => .tuple [.str "both", a.enc, b.enc]
def Kd.leaves : Kd → Nat
  | .mark _ => 1
  | .one => 1
  | .to a b => a.leaves + b.leaves
  | .both a b => a.leaves + b.leaves
def Kd.over (ms : List Str) : Kd → Prop
  | .mark m => m ∈ ms
  | .one => True
  | .to a b => a.over ms ∧ b.over ms
  | .both a b => a.over ms ∧ b.over ms
theorem Kd.leaves_pos : ∀ k : Kd, 1 ≤ k.leaves
  | .mark _ => Nat.le_refl _
  | .one => Nat.le_refl _
  | .to a b => by
    have := a.leaves_pos
    simp only [Kd.leaves]
    omega
  | .both a b => by
    have := a.leaves_pos
    simp only [Kd.leaves]
    omega
theorem Kd.eqv_iff (a b : Kd) : PyData.eqv a.enc b.enc = true ↔ a = b := by
  induction a generalizing b with
  | mark m =>
    cases b <;> simp only [Kd.enc, eqv_tup, eqvAll_cons, eqvAll_nil, eqvAll_nc, eqvAll_cn, eqv_str, Bool.and_eq_true, decide_eq_true_eq, reduceCtorEq, Kd.mark.injEq, Bool.false_eq_true, and_false, and_true, iff_false, false_and]
    · exact ⟨fun h => h.2, fun h => ⟨by decide, h⟩⟩
  | one =>
    cases b <;> simp only [Kd.enc, eqv_tup, eqvAll_cons, eqvAll_nil, eqvAll_nc, eqvAll_cn, eqv_str, Bool.and_eq_true, decide_eq_true_eq, reduceCtorEq, Bool.false_eq_true, and_false, and_true]
  | to x y ihx ihy =>
    cases b <;> simp only [Kd.enc, eqv_tup, eqvAll_cons, eqvAll_nil, eqvAll_nc, eqvAll_cn, eqv_str, Bool.and_eq_true, decide_eq_true_eq, reduceCtorEq, Kd.to.injEq, Bool.false_eq_true, and_false, and_true, ihx, ihy, iff_false, false_and]
    · exact ⟨fun h => h.2, fun h => ⟨by decide, h⟩⟩
    · exact fun h => absurd h.1 (by decide)
  | both x y ihx ihy =>
    cases b <;> simp only [Kd.enc, eqv_tup, eqvAll_cons, eqvAll_nil, eqvAll_nc, eqvAll_cn, eqv_str, Bool.and_eq_true, decide_eq_true_eq, reduceCtorEq, Kd.both.injEq, Bool.false_eq_true, and_false, and_true, ihx, ihy, iff_false, false_and]
    · exact fun h => absurd h.1 (by decide)
    · exact ⟨fun h => h.2, fun h => ⟨by decide, h⟩⟩
theorem Kd.eqv [DecidableEq Kd] (a b : Kd) : PyData.eqv a.enc b.enc = decide (a = b) := Bool.eq_iff_iff.mpr (by rw [Kd.eqv_iff]; simp)
def Kd.deep : Kd → Nat
  | .mark _ => 0
  | .one => 0
  | .to a b => max a.deep b.deep + 1
  | .both a b => max a.deep b.deep + 1
theorem Kd.deep_lt : ∀ k : Kd, k.deep < k.leaves
  | .mark _ => Nat.lt_succ_self _
  | .one => Nat.lt_succ_self _
  | .to a b => by
    have h1 := a.deep_lt
    have h2 := b.deep_lt
    simp only [Kd.deep, Kd.leaves]
    omega
  | .both a b => by
    have h1 := a.deep_lt
    have h2 := b.deep_lt
    simp only [Kd.deep, Kd.leaves]
    omega
theorem Kd.depth_enc : ∀ k : Kd, k.enc.depth = k.deep + 1
  | .mark m => by simp only [Kd.enc, depth_tup, depthAll_cons, depthAll_nil, depth_str, Kd.deep]; rfl
  | .one => by simp only [Kd.enc, depth_tup, depthAll_cons, depthAll_nil, depth_str, Kd.deep]; rfl
  | .to a b => by
    simp only [Kd.enc, depth_tup, depthAll_cons, depthAll_nil, depth_str, Kd.deep, a.depth_enc, b.depth_enc]
    omega
  | .both a b => by
    simp only [Kd.enc, depth_tup, depthAll_cons, depthAll_nil, depth_str, Kd.deep, a.depth_enc, b.depth_enc]
    omega
theorem Kd.can_enc {ms : List Str} (hm : ∀ m ∈ ms, PyData.strOk m = true) : ∀ k : Kd, k.over ms → k.enc.canLay0 = true
  | .mark m, h => by
    simp only [Kd.enc, can_tup, canAll_cons, canAll_nil, can_str, Bool.and_eq_true]
    exact ⟨by decide +kernel, hm m h, trivial⟩
  | .one, h => by
    simp only [Kd.enc, can_tup, canAll_cons, canAll_nil, can_str, Bool.and_eq_true]
    exact ⟨by decide +kernel, trivial⟩
  | .to a b, h => by
    simp only [Kd.enc, can_tup, canAll_cons, canAll_nil, can_str, Bool.and_eq_true]
    exact ⟨by decide +kernel, a.can_enc hm h.1, b.can_enc hm h.2, trivial⟩
  | .both a b, h => by
    simp only [Kd.enc, can_tup, canAll_cons, canAll_nil, can_str, Bool.and_eq_true]
    exact ⟨by decide +kernel, a.can_enc hm h.1, b.can_enc hm h.2, trivial⟩
inductive Pg where
  | name (x : Str)
  | take (x : Str) (k : Kd) (p : Pg)
  | give (p q : Pg)
  | pair (p q : Pg)
  | first (p : Pg)
  | second (p : Pg)
  | thing
def Pg.enc : Pg → D
  | .name x => .tuple [.str "name", .str x]
  | .take x k p => .tuple [.str "take", .str x, k.enc, p.enc]
  | .give p q => .tuple [.str "give", p.enc, q.enc]
  | .pair p q => .tuple [.str "pair", p.enc, q.enc]
  | .first p => .tuple [.str "first", p.enc]
  | .second p => .tuple [.str "second", p.enc]
  | .thing => .tuple [.str "thing"]
def Pg.size : Pg → Nat
  | .name _ => 1
  | .take _ _ p => p.size + 1
  | .give p q => p.size + q.size + 1
  | .pair p q => p.size + q.size + 1
  | .first p => p.size + 1
  | .second p => p.size + 1
  | .thing => 1
def Pg.deep : Pg → Nat
  | .name _ => 0
  | .take _ _ p => p.deep + 1
  | .give p q => max p.deep q.deep + 1
  | .pair p q => max p.deep q.deep + 1
  | .first p => p.deep + 1
  | .second p => p.deep + 1
  | .thing => 0
def look : List (Str × Kd) → Str → Option Kd
  | [], _ => none
  | (y, k) :: r, x => match look r x with
    | some l => some l
    | none => if y = x then some k else none
inductive HasK : List (Str × Kd) → Pg → Kd → Prop
  | name {r : List (Str × Kd)} {x : Str} {k : Kd} : look r x = some k → HasK r (.name x) k
  | take {r : List (Str × Kd)} {x : Str} {k l : Kd} {p : Pg} : HasK (r ++ [(x, k)]) p l → HasK r (.take x k p) (.to k l)
  | give {r : List (Str × Kd)} {k l : Kd} {p q : Pg} : HasK r p (.to k l) → HasK r q k → HasK r (.give p q) l
  | pair {r : List (Str × Kd)} {k l : Kd} {p q : Pg} : HasK r p k → HasK r q l → HasK r (.pair p q) (.both k l)
  | first {r : List (Str × Kd)} {k l : Kd} {p : Pg} : HasK r p (.both k l) → HasK r (.first p) k
  | second {r : List (Str × Kd)} {k l : Kd} {p : Pg} : HasK r p (.both k l) → HasK r (.second p) l
  | thing {r : List (Str × Kd)} : HasK r .thing .one
theorem look_app {r : List (Str × Kd)} {x y : Str} {k : Kd} : look (r ++ [(y, k)]) x = if y = x then some k else look r x := by
  induction r with
  | nil =>
    simp only [List.nil_append, look]
  | cons p r ih =>
    obtain ⟨z, l⟩ := p
    simp only [List.cons_append, look, ih]
    by_cases h : y = x <;> simp [h]
theorem look_mem {r : List (Str × Kd)} {x : Str} {k : Kd} (h : look r x = some k) : (x, k) ∈ r := by
  induction r with
  | nil => cases h
  | cons p r ih =>
    obtain ⟨z, l⟩ := p
    simp only [look] at h
    split at h
    · rename_i m hm
      cases h
      exact List.mem_cons_of_mem _ (ih hm)
    · split at h
      · rename_i hz
        cases h
        rw [hz]
        exact List.mem_cons_self
      · cases h
end Kf
namespace Kf
open PySem L2 Vl PySem.Spec PyProof.Rows
def t_Lpool_1 : VTS := (vSet 2 (v2 xIx (vVar 0) (vVar 1)))
def t_Lpool_2 : VTS := (vSet 2 (vC (.int 0)))
def t_Lpool_3 : VTS := (vRet (vN opLstO (vCons (vVar 2) (vCons (vVar 3) vNil))))
def t_Lpool_4 : VTS := vSeq (vIfS (vTest (v2 opLt (vVar 2) (v2 opPow (vC (.int 10)) (vC (.int 18))))) (t_Lpool_2) vNext) (t_Lpool_3)
def t_Lpool_5 : VTS := vSeq (vSet 3 (v2 opMod (v2 opPow (v2 opAdd (v2 opAdd (v2 opMod (vVar 2) (vC (.int 2147483629))) (v2 opMul2 (v2 opMul2 (vC (.int 104729)) (vVar 1)) (vVar 1))) (vC (.int 11))) (vC (.int 3))) (vC (.int 2147483647)))) (t_Lpool_4)
def t_Lpool_6 : VTS := vSeq (vIfS (vTest (v2 opLt (vVar 1) (vN opLen (vCons (vVar 0) vNil)))) (t_Lpool_1) vNext) (t_Lpool_5)
def t_Lpool_7 : VTS := vSeq (vSet 2 (vC (.int 0))) (t_Lpool_6)
def t_Lpool : VTS := (t_Lpool_7)
def t_Ltake_1 : VTS := (vRet (vVar 2))
def t_Ltake_2 : VTS := vSeq (vAsg (v2 opDiv (v2 xIx (vVar 0) (vC (.int 0))) (vVar 1)) (xgSub (vVar 0) (vC (.int 0)))) (t_Ltake_1)
def t_Ltake_3 : VTS := vSeq (vSet 2 (v2 opMod (v2 xIx (vVar 0) (vC (.int 0))) (vVar 1))) (t_Ltake_2)
def t_Ltake_4 : VTS := (vRet (v2 opMod (v2 opDiv (v2 opMod (v2 opMul2 (v2 xIx (vVar 0) (vC (.int 1))) (v2 xIx (vVar 0) (vC (.int 1)))) (vC (.int 2147483629))) (vC (.int 64))) (vVar 1)))
def t_Ltake_5 : VTS := vSeq (vAsg (v2 opMod (v2 opAdd (v2 opMul2 (v2 xIx (vVar 0) (vC (.int 1))) (vC (.int 48271))) (vC (.int 11))) (vC (.int 2147483647))) (xgSub (vVar 0) (vC (.int 1)))) (t_Ltake_4)
def t_Ltake_6 : VTS := vSeq (vIfS (vTest (v2 opGt (v2 xIx (vVar 0) (vC (.int 0))) (vC (.int 0)))) (t_Ltake_3) vNext) (t_Ltake_5)
def t_Ltake : VTS := (t_Ltake_6)
def t_Lmarks_1 (p_Ltake : VSp) : VTS := (vDrop (vM "list" opAppend (vVar 4) (vCons (vM "str" opJoin (vC (.str "")) (vCons (vLcK (vSeqI (vVar 6)) (vgName 8) vYes (v2 xIx (vC (.str "abcdefghijklmnopqrstuvwxyz")) (vVar 8)) [8] finD) vNil)) vNil)))
def t_Lmarks_2 (p_Ltake : VSp) : VTS := vSeq (vSet 6 (vLcK (vRng1 (vCons (vVar 1) vNil)) (vgName 7) vYes (v2 opMod (v2 opAdd (v2 xIx (vVar 3) (vVar 7)) (v2 opMul2 (v2 opMul2 (vC (.int 5)) (vVar 5)) (vN opInt (vCons (v2 (xEq false) (vVar 7) (vVar 2)) vNil)))) (vC (.int 26))) [7] finD)) (t_Lmarks_1 p_Ltake)
def t_Lmarks_3 (p_Ltake : VSp) : VTS := (vRet (vVar 4))
def t_Lmarks_4 (p_Ltake : VSp) : VTS := vSeq (vForW (vRng1 (vCons (v2 opAdd (vC (.int 1)) (vN (opCallK ownD p_Ltake) (vCons (vVar 0) (vCons (vC (.int 4)) vNil)))) vNil)) (vgName 5)
      (t_Lmarks_2 p_Ltake)) (t_Lmarks_3 p_Ltake)
def t_Lmarks_5 (p_Ltake : VSp) : VTS := vSeq (vSet 4 (vN opLstO vNil)) (t_Lmarks_4 p_Ltake)
def t_Lmarks_6 (p_Ltake : VSp) : VTS := vSeq (vSet 3 (vLcK (vRng1 (vCons (vVar 1) vNil)) (vgName 7) vYes (vN (opCallK ownD p_Ltake) (vCons (vVar 0) (vCons (vC (.int 26)) vNil))) [7] finD)) (t_Lmarks_5 p_Ltake)
def t_Lmarks_7 (p_Ltake : VSp) : VTS := vSeq (vSet 2 (vN (opCallK ownD p_Ltake) (vCons (vVar 0) (vCons (vVar 1) vNil)))) (t_Lmarks_6 p_Ltake)
def t_Lmarks_8 (p_Ltake : VSp) : VTS := vSeq (vSet 1 (v2 opAdd (vC (.int 1)) (vN (opCallK ownD p_Ltake) (vCons (vVar 0) (vCons (vC (.int 6)) vNil))))) (t_Lmarks_7 p_Ltake)
def t_Lmarks (p_Ltake : VSp) : VTS := (t_Lmarks_8 p_Ltake)
end Kf
namespace Kf
open PySem L2 Vl PySem.Spec PyProof.Rows
theorem big {n : Nat} (h : n ≤ 16000000) : n ≤ sizeLine := Nat.le_trans h (by decide)
theorem bigl {n : Nat} (h : n < 16000000) : n < sizeLine := Nat.lt_of_lt_of_le h (by decide)
theorem i_take {ss st Kp} (h : pTake ss st Kp) : ∃ c n m : Int, ss = [.obj 0, .val (.int m)] ∧ st = [.l [.int c, .int n]] ∧ PoolK n ∧ 0 < m ∧ m < 1329227995784915872903807060280344576 ∧ ∀ r c' n' : Int, 0 ≤ r → r < m → PoolK n' → Kp (.val (.int r)) [.l [.int c', .int n']] := by
  unfold pTake at h
  split at h
  · exact ⟨_, _, _, rfl, rfl, h⟩
  · exact h.elim
theorem r_take {ss cs Kp} (h : pTake ss cs Kp) : t_Ltake (dV cs.length Kp) ⟨startV 3 ss, cs.map some⟩ := by
  obtain ⟨c, n, m, rfl, rfl, ⟨n0, n1⟩, m0, m1, k⟩ := i_take h
  have q1 := nm_nat (x := n * 48271 + 11) (m := 2147483647) (by decide)
  simp only [t_Ltake, t_Ltake_6, flatD, List.any_cons, List.any_nil, eqv_str, eqv_int, eqv_ti, eqv_it, eqv_st, eqv_ts, cut1, Bool.or_false, Bool.or_true, Bool.and_self, Bool.and_true, Bool.and_false, Bool.false_or, Bool.true_or, and_self, ofs_inj, ofs_app, ofs_len, String.reduceEq, String.reduceNe, String.reduceAppend, decide_true, decide_false, Bool.not_true, Bool.not_false, sz0, sz1, sz2, sz3, sz4, sz5, sz6, sz7, sz8, sz9, sz10, sz11, sz12, sz13, sz14, sz15, sz16, sz17, sz18, sz19, sz20, sz21, sz22, sz23, sz24, sz25, cpow1018, true_and, and_true, Nat.reduceAdd, Nat.reduceLT, Nat.reduceSub, Int.reduceNe, Int.reduceEq, Int.reduceLT, Int.reduceLE, Int.reduceToNat, ne_eq, not_false_eq_true, List.length_map, Nat.lt_irrefl, dV_nx, dV_rt, at0, at1, at2, at3, ix20, ix21, vSeq, vIfS, vTest, vTruth, truth, v2, v1, vN, vCons, vNil, vStar, vVar, vC, xIx, Vl.opI0, Vl.opI, pk, vSet, vAug, vAsg, xgSub, vRet, vRetN, vNext, vDrop, vBreak, vCont, asD, asDs, opMod, opDiv, opMul2, Vl.opAdd, Vl.opAddO, opSub, opPow, opLt, Vl.opLe, opGt, Vl.opGe, xEq, okEq_str, okEq_int, xIn, okIn, inD, xIsN, isNone_n, isNone_t, isNone_l, isNone_i, isNone_s, isMo, mob, pkm, gModI, gDivI, gSubI, gMulI, gPowI, gGt, gLt, gLe, gGe, vNotT, vAndT, vOrT, vAndV, vOrV, opNot, opNotG, vIfE, opTup, opLst, opLstO, Vl.opLen, Vl.opInt, opList, opListO, opTuple, opII, gMax, gMin, vM, vM0, isT, xPop, Vl.opAppend, opExtend, opJoin, vgName, vgTup, vgCons, vgNil, kOpt_some, kOpn_some, kOps_some, Vl.opSum, Vl.opInsert, Vl.opIndex, opDivmod, vSl, vPart, vNoPart, opSl, opSlO, opRev, opCallK, ownD, ownO, objs, renum, uniq, getS, putS, vCall0, vFor, vForW, En.wk, vSeqI, vTupI, vRng1, vRng2, vEnum, vZip, chkOf, vLcK, vYes, finD, finO, En.wipe, wipeE, En.trim, trimS, dropNone, clr_n, clr_v, clr_k, clr_o, wth, Vl.ret, takeS, startV,  List.map_cons, List.map_nil, List.length_cons, List.length_nil, List.cons_append, List.nil_append, List.replicate, List.getElem?_cons_succ, List.getElem?_cons_zero, List.getElem?_nil, List.set_cons_succ, List.set_cons_zero, List.set_nil, List.all_nil, List.all_cons, Bool.true_and, Option.map_some, Option.map_none, if_true, if_false, decide_eq_true_eq, Bool.false_eq_true, List.take_succ_cons, List.take_zero, List.take_nil, List.drop_succ_cons, List.drop_zero, List.drop_nil, reduceIte, reduceCtorEq]
  split
  · simp only [t_Ltake_1, t_Ltake_2, t_Ltake_3, t_Ltake_4, t_Ltake_5, t_Ltake_6, t_Ltake, flatD, List.any_cons, List.any_nil, eqv_str, eqv_int, eqv_ti, eqv_it, eqv_st, eqv_ts, cut1, Bool.or_false, Bool.or_true, Bool.and_self, Bool.and_true, Bool.and_false, Bool.false_or, Bool.true_or, and_self, ofs_inj, ofs_app, ofs_len, String.reduceEq, String.reduceNe, String.reduceAppend, decide_true, decide_false, Bool.not_true, Bool.not_false, sz0, sz1, sz2, sz3, sz4, sz5, sz6, sz7, sz8, sz9, sz10, sz11, sz12, sz13, sz14, sz15, sz16, sz17, sz18, sz19, sz20, sz21, sz22, sz23, sz24, sz25, cpow1018, true_and, and_true, Nat.reduceAdd, Nat.reduceLT, Nat.reduceSub, Int.reduceNe, Int.reduceEq, Int.reduceLT, Int.reduceLE, Int.reduceToNat, ne_eq, not_false_eq_true, List.length_map, Nat.lt_irrefl, dV_nx, dV_rt, at0, at1, at2, at3, ix20, ix21, vSeq, vIfS, vTest, vTruth, truth, v2, v1, vN, vCons, vNil, vStar, vVar, vC, xIx, Vl.opI0, Vl.opI, pk, vSet, vAug, vAsg, xgSub, vRet, vRetN, vNext, vDrop, vBreak, vCont, asD, asDs, opMod, opDiv, opMul2, Vl.opAdd, Vl.opAddO, opSub, opPow, opLt, Vl.opLe, opGt, Vl.opGe, xEq, okEq_str, okEq_int, xIn, okIn, inD, xIsN, isNone_n, isNone_t, isNone_l, isNone_i, isNone_s, isMo, mob, pkm, gModI, gDivI, gSubI, gMulI, gPowI, gGt, gLt, gLe, gGe, vNotT, vAndT, vOrT, vAndV, vOrV, opNot, opNotG, vIfE, opTup, opLst, opLstO, Vl.opLen, Vl.opInt, opList, opListO, opTuple, opII, gMax, gMin, vM, vM0, isT, xPop, Vl.opAppend, opExtend, opJoin, vgName, vgTup, vgCons, vgNil, kOpt_some, kOpn_some, kOps_some, Vl.opSum, Vl.opInsert, Vl.opIndex, opDivmod, vSl, vPart, vNoPart, opSl, opSlO, opRev, opCallK, ownD, ownO, objs, renum, uniq, getS, putS, vCall0, vFor, vForW, En.wk, vSeqI, vTupI, vRng1, vRng2, vEnum, vZip, chkOf, vLcK, vYes, finD, finO, En.wipe, wipeE, En.trim, trimS, dropNone, clr_n, clr_v, clr_k, clr_o, wth, Vl.ret, takeS, startV,  List.map_cons, List.map_nil, List.length_cons, List.length_nil, List.cons_append, List.nil_append, List.replicate, List.getElem?_cons_succ, List.getElem?_cons_zero, List.getElem?_nil, List.set_cons_succ, List.set_cons_zero, List.set_nil, List.all_nil, List.all_cons, Bool.true_and, Option.map_some, Option.map_none, if_true, if_false, decide_eq_true_eq, Bool.false_eq_true, List.take_succ_cons, List.take_zero, List.take_nil, List.drop_succ_cons, List.drop_zero, List.drop_nil, reduceIte, reduceCtorEq]
    exact ⟨by omega, ⟨by omega, by omega⟩, k _ _ _ (nm_nat m0).1 (nm_nat m0).2 ⟨n0, n1⟩⟩
  · simp only [t_Ltake_1, t_Ltake_2, t_Ltake_3, t_Ltake_4, t_Ltake_5, t_Ltake_6, t_Ltake, flatD, List.any_cons, List.any_nil, eqv_str, eqv_int, eqv_ti, eqv_it, eqv_st, eqv_ts, cut1, Bool.or_false, Bool.or_true, Bool.and_self, Bool.and_true, Bool.and_false, Bool.false_or, Bool.true_or, and_self, ofs_inj, ofs_app, ofs_len, String.reduceEq, String.reduceNe, String.reduceAppend, decide_true, decide_false, Bool.not_true, Bool.not_false, sz0, sz1, sz2, sz3, sz4, sz5, sz6, sz7, sz8, sz9, sz10, sz11, sz12, sz13, sz14, sz15, sz16, sz17, sz18, sz19, sz20, sz21, sz22, sz23, sz24, sz25, cpow1018, true_and, and_true, Nat.reduceAdd, Nat.reduceLT, Nat.reduceSub, Int.reduceNe, Int.reduceEq, Int.reduceLT, Int.reduceLE, Int.reduceToNat, ne_eq, not_false_eq_true, List.length_map, Nat.lt_irrefl, dV_nx, dV_rt, at0, at1, at2, at3, ix20, ix21, vSeq, vIfS, vTest, vTruth, truth, v2, v1, vN, vCons, vNil, vStar, vVar, vC, xIx, Vl.opI0, Vl.opI, pk, vSet, vAug, vAsg, xgSub, vRet, vRetN, vNext, vDrop, vBreak, vCont, asD, asDs, opMod, opDiv, opMul2, Vl.opAdd, Vl.opAddO, opSub, opPow, opLt, Vl.opLe, opGt, Vl.opGe, xEq, okEq_str, okEq_int, xIn, okIn, inD, xIsN, isNone_n, isNone_t, isNone_l, isNone_i, isNone_s, isMo, mob, pkm, gModI, gDivI, gSubI, gMulI, gPowI, gGt, gLt, gLe, gGe, vNotT, vAndT, vOrT, vAndV, vOrV, opNot, opNotG, vIfE, opTup, opLst, opLstO, Vl.opLen, Vl.opInt, opList, opListO, opTuple, opII, gMax, gMin, vM, vM0, isT, xPop, Vl.opAppend, opExtend, opJoin, vgName, vgTup, vgCons, vgNil, kOpt_some, kOpn_some, kOps_some, Vl.opSum, Vl.opInsert, Vl.opIndex, opDivmod, vSl, vPart, vNoPart, opSl, opSlO, opRev, opCallK, ownD, ownO, objs, renum, uniq, getS, putS, vCall0, vFor, vForW, En.wk, vSeqI, vTupI, vRng1, vRng2, vEnum, vZip, chkOf, vLcK, vYes, finD, finO, En.wipe, wipeE, En.trim, trimS, dropNone, clr_n, clr_v, clr_k, clr_o, wth, Vl.ret, takeS, startV,  List.map_cons, List.map_nil, List.length_cons, List.length_nil, List.cons_append, List.nil_append, List.replicate, List.getElem?_cons_succ, List.getElem?_cons_zero, List.getElem?_nil, List.set_cons_succ, List.set_cons_zero, List.set_nil, List.all_nil, List.all_cons, Bool.true_and, Option.map_some, Option.map_none, if_true, if_false, decide_eq_true_eq, Bool.false_eq_true, List.take_succ_cons, List.take_zero, List.take_nil, List.drop_succ_cons, List.drop_zero, List.drop_nil, reduceIte, reduceCtorEq]
    exact ⟨.inl ⟨by omega, by omega⟩, .inl ⟨by omega, by omega⟩, ⟨by decide, by decide⟩, by omega, k _ _ _ (nm_nat m0).1 (nm_nat m0).2 q1⟩
theorem r_pool {ss cs Kp} (h : pPool ss cs Kp) : t_Lpool (dV cs.length Kp) ⟨startV 4 ss, cs.map some⟩ := by
  obtain ⟨ns, n, rfl, rfl, n0, n1, k⟩ := h
  have fin : ∀ (x : Int) (i2 : Option Sl), t_Lpool_5 (dV 0 Kp) ⟨[some (.kn (ns.map .int)), some (.val (.int n)), some (.val (.int x)), i2], []⟩ := fun x i2 => by
    have q1 := nm_nat (x := x) (m := 2147483629) (by decide)
    have nn : (n : Int) * n ≤ 63 * 63 := by
      have : n * n ≤ 63 * 63 := Nat.mul_le_mul n1 n1
      exact_mod_cast this
    have n2 : 0 ≤ (n : Int) * n := Int.mul_nonneg (by omega) (by omega)
    simp only [t_Lpool_5, flatD, List.any_cons, List.any_nil, eqv_str, eqv_int, eqv_ti, eqv_it, eqv_st, eqv_ts, cut1, Bool.or_false, Bool.or_true, Bool.and_self, Bool.and_true, Bool.and_false, Bool.false_or, Bool.true_or, and_self, ofs_inj, ofs_app, ofs_len, String.reduceEq, String.reduceNe, String.reduceAppend, decide_true, decide_false, Bool.not_true, Bool.not_false, sz0, sz1, sz2, sz3, sz4, sz5, sz6, sz7, sz8, sz9, sz10, sz11, sz12, sz13, sz14, sz15, sz16, sz17, sz18, sz19, sz20, sz21, sz22, sz23, sz24, sz25, cpow1018, true_and, and_true, Nat.reduceAdd, Nat.reduceLT, Nat.reduceSub, Int.reduceNe, Int.reduceEq, Int.reduceLT, Int.reduceLE, Int.reduceToNat, ne_eq, not_false_eq_true, List.length_map, Nat.lt_irrefl, dV_nx, dV_rt, at0, at1, at2, at3, ix20, ix21, vSeq, vIfS, vTest, vTruth, truth, v2, v1, vN, vCons, vNil, vStar, vVar, vC, xIx, Vl.opI0, Vl.opI, pk, vSet, vAug, vAsg, xgSub, vRet, vRetN, vNext, vDrop, vBreak, vCont, asD, asDs, opMod, opDiv, opMul2, Vl.opAdd, Vl.opAddO, opSub, opPow, opLt, Vl.opLe, opGt, Vl.opGe, xEq, okEq_str, okEq_int, xIn, okIn, inD, xIsN, isNone_n, isNone_t, isNone_l, isNone_i, isNone_s, isMo, mob, pkm, gModI, gDivI, gSubI, gMulI, gPowI, gGt, gLt, gLe, gGe, vNotT, vAndT, vOrT, vAndV, vOrV, opNot, opNotG, vIfE, opTup, opLst, opLstO, Vl.opLen, Vl.opInt, opList, opListO, opTuple, opII, gMax, gMin, vM, vM0, isT, xPop, Vl.opAppend, opExtend, opJoin, vgName, vgTup, vgCons, vgNil, kOpt_some, kOpn_some, kOps_some, Vl.opSum, Vl.opInsert, Vl.opIndex, opDivmod, vSl, vPart, vNoPart, opSl, opSlO, opRev, opCallK, ownD, ownO, objs, renum, uniq, getS, putS, vCall0, vFor, vForW, En.wk, vSeqI, vTupI, vRng1, vRng2, vEnum, vZip, chkOf, vLcK, vYes, finD, finO, En.wipe, wipeE, En.trim, trimS, dropNone, clr_n, clr_v, clr_k, clr_o, wth, Vl.ret, takeS, startV,  List.map_cons, List.map_nil, List.length_cons, List.length_nil, List.cons_append, List.nil_append, List.replicate, List.getElem?_cons_succ, List.getElem?_cons_zero, List.getElem?_nil, List.set_cons_succ, List.set_cons_zero, List.set_nil, List.all_nil, List.all_cons, Bool.true_and, Option.map_some, Option.map_none, if_true, if_false, decide_eq_true_eq, Bool.false_eq_true, List.take_succ_cons, List.take_zero, List.take_nil, List.drop_succ_cons, List.drop_zero, List.drop_nil, reduceIte, reduceCtorEq]
    have na : (x.fmod 2147483629 + 104729 * ↑n * ↑n + 11).natAbs < 2 ^ 64 := by
      have : (104729 : Int) * n * n = 104729 * (n * n) := by rw [Int.mul_assoc]
      omega
    refine ⟨.inl ⟨by decide, by decide⟩, .inl ⟨by omega, by omega⟩, ⟨by decide, by decide, na⟩, ?_⟩
    simp only [t_Lpool_4, flatD, List.any_cons, List.any_nil, eqv_str, eqv_int, eqv_ti, eqv_it, eqv_st, eqv_ts, cut1, Bool.or_false, Bool.or_true, Bool.and_self, Bool.and_true, Bool.and_false, Bool.false_or, Bool.true_or, and_self, ofs_inj, ofs_app, ofs_len, String.reduceEq, String.reduceNe, String.reduceAppend, decide_true, decide_false, Bool.not_true, Bool.not_false, sz0, sz1, sz2, sz3, sz4, sz5, sz6, sz7, sz8, sz9, sz10, sz11, sz12, sz13, sz14, sz15, sz16, sz17, sz18, sz19, sz20, sz21, sz22, sz23, sz24, sz25, cpow1018, true_and, and_true, Nat.reduceAdd, Nat.reduceLT, Nat.reduceSub, Int.reduceNe, Int.reduceEq, Int.reduceLT, Int.reduceLE, Int.reduceToNat, ne_eq, not_false_eq_true, List.length_map, Nat.lt_irrefl, dV_nx, dV_rt, at0, at1, at2, at3, ix20, ix21, vSeq, vIfS, vTest, vTruth, truth, v2, v1, vN, vCons, vNil, vStar, vVar, vC, xIx, Vl.opI0, Vl.opI, pk, vSet, vAug, vAsg, xgSub, vRet, vRetN, vNext, vDrop, vBreak, vCont, asD, asDs, opMod, opDiv, opMul2, Vl.opAdd, Vl.opAddO, opSub, opPow, opLt, Vl.opLe, opGt, Vl.opGe, xEq, okEq_str, okEq_int, xIn, okIn, inD, xIsN, isNone_n, isNone_t, isNone_l, isNone_i, isNone_s, isMo, mob, pkm, gModI, gDivI, gSubI, gMulI, gPowI, gGt, gLt, gLe, gGe, vNotT, vAndT, vOrT, vAndV, vOrV, opNot, opNotG, vIfE, opTup, opLst, opLstO, Vl.opLen, Vl.opInt, opList, opListO, opTuple, opII, gMax, gMin, vM, vM0, isT, xPop, Vl.opAppend, opExtend, opJoin, vgName, vgTup, vgCons, vgNil, kOpt_some, kOpn_some, kOps_some, Vl.opSum, Vl.opInsert, Vl.opIndex, opDivmod, vSl, vPart, vNoPart, opSl, opSlO, opRev, opCallK, ownD, ownO, objs, renum, uniq, getS, putS, vCall0, vFor, vForW, En.wk, vSeqI, vTupI, vRng1, vRng2, vEnum, vZip, chkOf, vLcK, vYes, finD, finO, En.wipe, wipeE, En.trim, trimS, dropNone, clr_n, clr_v, clr_k, clr_o, wth, Vl.ret, takeS, startV,  List.map_cons, List.map_nil, List.length_cons, List.length_nil, List.cons_append, List.nil_append, List.replicate, List.getElem?_cons_succ, List.getElem?_cons_zero, List.getElem?_nil, List.set_cons_succ, List.set_cons_zero, List.set_nil, List.all_nil, List.all_cons, Bool.true_and, Option.map_some, Option.map_none, if_true, if_false, decide_eq_true_eq, Bool.false_eq_true, List.take_succ_cons, List.take_zero, List.take_nil, List.drop_succ_cons, List.drop_zero, List.drop_nil, reduceIte, reduceCtorEq]
    have q2 := nm_nat (x := (x.fmod 2147483629 + 104729 * ↑n * ↑n + 11) ^ (3 : Int).toNat) (m := 2147483647) (by decide)
    split
    · simp only [t_Lpool_2, t_Lpool_3, flatD, List.any_cons, List.any_nil, eqv_str, eqv_int, eqv_ti, eqv_it, eqv_st, eqv_ts, cut1, Bool.or_false, Bool.or_true, Bool.and_self, Bool.and_true, Bool.and_false, Bool.false_or, Bool.true_or, and_self, ofs_inj, ofs_app, ofs_len, String.reduceEq, String.reduceNe, String.reduceAppend, decide_true, decide_false, Bool.not_true, Bool.not_false, sz0, sz1, sz2, sz3, sz4, sz5, sz6, sz7, sz8, sz9, sz10, sz11, sz12, sz13, sz14, sz15, sz16, sz17, sz18, sz19, sz20, sz21, sz22, sz23, sz24, sz25, cpow1018, true_and, and_true, Nat.reduceAdd, Nat.reduceLT, Nat.reduceSub, Int.reduceNe, Int.reduceEq, Int.reduceLT, Int.reduceLE, Int.reduceToNat, ne_eq, not_false_eq_true, List.length_map, Nat.lt_irrefl, dV_nx, dV_rt, at0, at1, at2, at3, ix20, ix21, vSeq, vIfS, vTest, vTruth, truth, v2, v1, vN, vCons, vNil, vStar, vVar, vC, xIx, Vl.opI0, Vl.opI, pk, vSet, vAug, vAsg, xgSub, vRet, vRetN, vNext, vDrop, vBreak, vCont, asD, asDs, opMod, opDiv, opMul2, Vl.opAdd, Vl.opAddO, opSub, opPow, opLt, Vl.opLe, opGt, Vl.opGe, xEq, okEq_str, okEq_int, xIn, okIn, inD, xIsN, isNone_n, isNone_t, isNone_l, isNone_i, isNone_s, isMo, mob, pkm, gModI, gDivI, gSubI, gMulI, gPowI, gGt, gLt, gLe, gGe, vNotT, vAndT, vOrT, vAndV, vOrV, opNot, opNotG, vIfE, opTup, opLst, opLstO, Vl.opLen, Vl.opInt, opList, opListO, opTuple, opII, gMax, gMin, vM, vM0, isT, xPop, Vl.opAppend, opExtend, opJoin, vgName, vgTup, vgCons, vgNil, kOpt_some, kOpn_some, kOps_some, Vl.opSum, Vl.opInsert, Vl.opIndex, opDivmod, vSl, vPart, vNoPart, opSl, opSlO, opRev, opCallK, ownD, ownO, objs, renum, uniq, getS, putS, vCall0, vFor, vForW, En.wk, vSeqI, vTupI, vRng1, vRng2, vEnum, vZip, chkOf, vLcK, vYes, finD, finO, En.wipe, wipeE, En.trim, trimS, dropNone, clr_n, clr_v, clr_k, clr_o, wth, Vl.ret, takeS, startV,  List.map_cons, List.map_nil, List.length_cons, List.length_nil, List.cons_append, List.nil_append, List.replicate, List.getElem?_cons_succ, List.getElem?_cons_zero, List.getElem?_nil, List.set_cons_succ, List.set_cons_zero, List.set_nil, List.all_nil, List.all_cons, Bool.true_and, Option.map_some, Option.map_none, if_true, if_false, decide_eq_true_eq, Bool.false_eq_true, List.take_succ_cons, List.take_zero, List.take_nil, List.drop_succ_cons, List.drop_zero, List.drop_nil, reduceIte, reduceCtorEq]
      exact k _ _ q2
    · simp only [t_Lpool_3, flatD, List.any_cons, List.any_nil, eqv_str, eqv_int, eqv_ti, eqv_it, eqv_st, eqv_ts, cut1, Bool.or_false, Bool.or_true, Bool.and_self, Bool.and_true, Bool.and_false, Bool.false_or, Bool.true_or, and_self, ofs_inj, ofs_app, ofs_len, String.reduceEq, String.reduceNe, String.reduceAppend, decide_true, decide_false, Bool.not_true, Bool.not_false, sz0, sz1, sz2, sz3, sz4, sz5, sz6, sz7, sz8, sz9, sz10, sz11, sz12, sz13, sz14, sz15, sz16, sz17, sz18, sz19, sz20, sz21, sz22, sz23, sz24, sz25, cpow1018, true_and, and_true, Nat.reduceAdd, Nat.reduceLT, Nat.reduceSub, Int.reduceNe, Int.reduceEq, Int.reduceLT, Int.reduceLE, Int.reduceToNat, ne_eq, not_false_eq_true, List.length_map, Nat.lt_irrefl, dV_nx, dV_rt, at0, at1, at2, at3, ix20, ix21, vSeq, vIfS, vTest, vTruth, truth, v2, v1, vN, vCons, vNil, vStar, vVar, vC, xIx, Vl.opI0, Vl.opI, pk, vSet, vAug, vAsg, xgSub, vRet, vRetN, vNext, vDrop, vBreak, vCont, asD, asDs, opMod, opDiv, opMul2, Vl.opAdd, Vl.opAddO, opSub, opPow, opLt, Vl.opLe, opGt, Vl.opGe, xEq, okEq_str, okEq_int, xIn, okIn, inD, xIsN, isNone_n, isNone_t, isNone_l, isNone_i, isNone_s, isMo, mob, pkm, gModI, gDivI, gSubI, gMulI, gPowI, gGt, gLt, gLe, gGe, vNotT, vAndT, vOrT, vAndV, vOrV, opNot, opNotG, vIfE, opTup, opLst, opLstO, Vl.opLen, Vl.opInt, opList, opListO, opTuple, opII, gMax, gMin, vM, vM0, isT, xPop, Vl.opAppend, opExtend, opJoin, vgName, vgTup, vgCons, vgNil, kOpt_some, kOpn_some, kOps_some, Vl.opSum, Vl.opInsert, Vl.opIndex, opDivmod, vSl, vPart, vNoPart, opSl, opSlO, opRev, opCallK, ownD, ownO, objs, renum, uniq, getS, putS, vCall0, vFor, vForW, En.wk, vSeqI, vTupI, vRng1, vRng2, vEnum, vZip, chkOf, vLcK, vYes, finD, finO, En.wipe, wipeE, En.trim, trimS, dropNone, clr_n, clr_v, clr_k, clr_o, wth, Vl.ret, takeS, startV,  List.map_cons, List.map_nil, List.length_cons, List.length_nil, List.cons_append, List.nil_append, List.replicate, List.getElem?_cons_succ, List.getElem?_cons_zero, List.getElem?_nil, List.set_cons_succ, List.set_cons_zero, List.set_nil, List.all_nil, List.all_cons, Bool.true_and, Option.map_some, Option.map_none, if_true, if_false, decide_eq_true_eq, Bool.false_eq_true, List.take_succ_cons, List.take_zero, List.take_nil, List.drop_succ_cons, List.drop_zero, List.drop_nil, reduceIte, reduceCtorEq]
      exact k _ _ q2
  simp only [t_Lpool, t_Lpool_7, t_Lpool_6, List.length_map, flatD, List.any_cons, List.any_nil, eqv_str, eqv_int, eqv_ti, eqv_it, eqv_st, eqv_ts, cut1, Bool.or_false, Bool.or_true, Bool.and_self, Bool.and_true, Bool.and_false, Bool.false_or, Bool.true_or, and_self, ofs_inj, ofs_app, ofs_len, String.reduceEq, String.reduceNe, String.reduceAppend, decide_true, decide_false, Bool.not_true, Bool.not_false, sz0, sz1, sz2, sz3, sz4, sz5, sz6, sz7, sz8, sz9, sz10, sz11, sz12, sz13, sz14, sz15, sz16, sz17, sz18, sz19, sz20, sz21, sz22, sz23, sz24, sz25, cpow1018, true_and, and_true, Nat.reduceAdd, Nat.reduceLT, Nat.reduceSub, Int.reduceNe, Int.reduceEq, Int.reduceLT, Int.reduceLE, Int.reduceToNat, ne_eq, not_false_eq_true, List.length_map, Nat.lt_irrefl, dV_nx, dV_rt, at0, at1, at2, at3, ix20, ix21, vSeq, vIfS, vTest, vTruth, truth, v2, v1, vN, vCons, vNil, vStar, vVar, vC, xIx, Vl.opI0, Vl.opI, pk, vSet, vAug, vAsg, xgSub, vRet, vRetN, vNext, vDrop, vBreak, vCont, asD, asDs, opMod, opDiv, opMul2, Vl.opAdd, Vl.opAddO, opSub, opPow, opLt, Vl.opLe, opGt, Vl.opGe, xEq, okEq_str, okEq_int, xIn, okIn, inD, xIsN, isNone_n, isNone_t, isNone_l, isNone_i, isNone_s, isMo, mob, pkm, gModI, gDivI, gSubI, gMulI, gPowI, gGt, gLt, gLe, gGe, vNotT, vAndT, vOrT, vAndV, vOrV, opNot, opNotG, vIfE, opTup, opLst, opLstO, Vl.opLen, Vl.opInt, opList, opListO, opTuple, opII, gMax, gMin, vM, vM0, isT, xPop, Vl.opAppend, opExtend, opJoin, vgName, vgTup, vgCons, vgNil, kOpt_some, kOpn_some, kOps_some, Vl.opSum, Vl.opInsert, Vl.opIndex, opDivmod, vSl, vPart, vNoPart, opSl, opSlO, opRev, opCallK, ownD, ownO, objs, renum, uniq, getS, putS, vCall0, vFor, vForW, En.wk, vSeqI, vTupI, vRng1, vRng2, vEnum, vZip, chkOf, vLcK, vYes, finD, finO, En.wipe, wipeE, En.trim, trimS, dropNone, clr_n, clr_v, clr_k, clr_o, wth, Vl.ret, takeS, startV,  List.map_cons, List.map_nil, List.length_cons, List.length_nil, List.cons_append, List.nil_append, List.replicate, List.getElem?_cons_succ, List.getElem?_cons_zero, List.getElem?_nil, List.set_cons_succ, List.set_cons_zero, List.set_nil, List.all_nil, List.all_cons, Bool.true_and, Option.map_some, Option.map_none, if_true, if_false, decide_eq_true_eq, Bool.false_eq_true, List.take_succ_cons, List.take_zero, List.take_nil, List.drop_succ_cons, List.drop_zero, List.drop_nil, reduceIte, reduceCtorEq]
  split
  · rename_i hk
    obtain ⟨d, hd, hm⟩ := at_any (xs := ns.map PyData.int) (r := (n : Int)) (by omega) (by rw [List.length_map]; exact hk)
    obtain ⟨x, _, rfl⟩ := List.mem_map.mp hm
    simp only [t_Lpool_1, hd, flatD, List.any_cons, List.any_nil, eqv_str, eqv_int, eqv_ti, eqv_it, eqv_st, eqv_ts, cut1, Bool.or_false, Bool.or_true, Bool.and_self, Bool.and_true, Bool.and_false, Bool.false_or, Bool.true_or, and_self, ofs_inj, ofs_app, ofs_len, String.reduceEq, String.reduceNe, String.reduceAppend, decide_true, decide_false, Bool.not_true, Bool.not_false, sz0, sz1, sz2, sz3, sz4, sz5, sz6, sz7, sz8, sz9, sz10, sz11, sz12, sz13, sz14, sz15, sz16, sz17, sz18, sz19, sz20, sz21, sz22, sz23, sz24, sz25, cpow1018, true_and, and_true, Nat.reduceAdd, Nat.reduceLT, Nat.reduceSub, Int.reduceNe, Int.reduceEq, Int.reduceLT, Int.reduceLE, Int.reduceToNat, ne_eq, not_false_eq_true, List.length_map, Nat.lt_irrefl, dV_nx, dV_rt, at0, at1, at2, at3, ix20, ix21, vSeq, vIfS, vTest, vTruth, truth, v2, v1, vN, vCons, vNil, vStar, vVar, vC, xIx, Vl.opI0, Vl.opI, pk, vSet, vAug, vAsg, xgSub, vRet, vRetN, vNext, vDrop, vBreak, vCont, asD, asDs, opMod, opDiv, opMul2, Vl.opAdd, Vl.opAddO, opSub, opPow, opLt, Vl.opLe, opGt, Vl.opGe, xEq, okEq_str, okEq_int, xIn, okIn, inD, xIsN, isNone_n, isNone_t, isNone_l, isNone_i, isNone_s, isMo, mob, pkm, gModI, gDivI, gSubI, gMulI, gPowI, gGt, gLt, gLe, gGe, vNotT, vAndT, vOrT, vAndV, vOrV, opNot, opNotG, vIfE, opTup, opLst, opLstO, Vl.opLen, Vl.opInt, opList, opListO, opTuple, opII, gMax, gMin, vM, vM0, isT, xPop, Vl.opAppend, opExtend, opJoin, vgName, vgTup, vgCons, vgNil, kOpt_some, kOpn_some, kOps_some, Vl.opSum, Vl.opInsert, Vl.opIndex, opDivmod, vSl, vPart, vNoPart, opSl, opSlO, opRev, opCallK, ownD, ownO, objs, renum, uniq, getS, putS, vCall0, vFor, vForW, En.wk, vSeqI, vTupI, vRng1, vRng2, vEnum, vZip, chkOf, vLcK, vYes, finD, finO, En.wipe, wipeE, En.trim, trimS, dropNone, clr_n, clr_v, clr_k, clr_o, wth, Vl.ret, takeS, startV,  List.map_cons, List.map_nil, List.length_cons, List.length_nil, List.cons_append, List.nil_append, List.replicate, List.getElem?_cons_succ, List.getElem?_cons_zero, List.getElem?_nil, List.set_cons_succ, List.set_cons_zero, List.set_nil, List.all_nil, List.all_cons, Bool.true_and, Option.map_some, Option.map_none, if_true, if_false, decide_eq_true_eq, Bool.false_eq_true, List.take_succ_cons, List.take_zero, List.take_nil, List.drop_succ_cons, List.drop_zero, List.drop_nil, reduceIte, reduceCtorEq]
    exact fin _ _
  · exact fin _ _
end Kf
namespace Kf
open PySem L2 Vl PySem.Spec PyProof.Rows
def word (ds : List Int) : Str := ⟨(ds.map fun d => 97 + d.toNat).toArray⟩
structure IsMk (m : Str) : Prop where
  sg : ∀ c ∈ m.cps.toList, 97 ≤ c ∧ c ≤ 122
  lo : 1 ≤ m.length
  hi : m.length ≤ 6
structure MarksOk (ms : List Str) : Prop where
  lo : 1 ≤ ms.length
  hi : ms.length ≤ 4
  nd : ms.Nodup
  all : ∀ m ∈ ms, IsMk m
theorem strOk_iff (x : Str) : PyData.strOk x = true ↔ ∀ c ∈ x.cps.toList, c < 0x110000 := by
  unfold PyData.strOk
  rw [← Array.all_toList, List.all_eq_true]
  simp
theorem IsMk.ok {m : Str} (h : IsMk m) : PyData.strOk m = true := (strOk_iff m).mpr fun c hc => by
  have := (h.sg c hc).2
  omega
theorem word_len (ds : List Int) : (word ds).length = ds.length := by
  show (ds.map fun d => 97 + d.toNat).toArray.size = _
  simp
theorem word_mk {ds : List Int} (h : ∀ d ∈ ds, 0 ≤ d ∧ d < 26) (lo : 1 ≤ ds.length) (hi : ds.length ≤ 6) : IsMk (word ds) := by
  refine ⟨fun c hc => ?_, by rw [word_len]; exact lo, by rw [word_len]; exact hi⟩
  have hc' : c ∈ ds.map fun d => 97 + d.toNat := hc
  obtain ⟨d, hd, rfl⟩ := List.mem_map.mp hc'
  have := h d hd
  omega
theorem word_inj {ds es : List Int} (h1 : ∀ d ∈ ds, 0 ≤ d) (h2 : ∀ d ∈ es, 0 ≤ d) (h : word ds = word es) : ds = es := by
  have h' : ds.map (fun d => 97 + d.toNat) = es.map fun d => 97 + d.toNat := by
    have := congrArg (fun s : Str => s.cps.toList) h
    simpa [word] using this
  clear h
  induction ds generalizing es with
  | nil =>
    cases es with
    | nil => rfl
    | cons e es => simp at h'
  | cons d ds ih =>
    cases es with
    | nil => simp at h'
    | cons e es =>
      simp only [List.map_cons, List.cons.injEq] at h'
      have a := h1 d List.mem_cons_self
      have b := h2 e List.mem_cons_self
      have : d = e := by omega
      rw [this, ih (fun d hd => h1 d (List.mem_cons_of_mem _ hd)) (fun d hd => h2 d (List.mem_cons_of_mem _ hd)) h'.2]
def sgn (d : Int) : Str := ⟨#[97 + d.toNat]⟩
theorem join_word (ds : List Int) : Txt.join "" (ds.map sgn) = word ds := by
  rw [TL.join_eq]
  have app : ∀ a b : Str, a ++ "" ++ b = ⟨a.cps ++ b.cps⟩ := fun a b => by
    show Str.mk ((a.cps ++ (Str.ofString "").cps) ++ b.cps) = _
    rw [Str.ofString_eq_toList]
    simp
  induction ds with
  | nil => rfl
  | cons d ds ih =>
    cases ds with
    | nil => rfl
    | cons e es =>
      show sgn d ++ "" ++ Str.join "" ((e :: es).map sgn) = _
      rw [ih, app]
      show Str.mk _ = Str.mk _
      congr 1
      simp [sgn, word]
theorem abc {d : Int} (h0 : 0 ≤ d) (h1 : d < 26) : atI (Str.ofString "abcdefghijklmnopqrstuvwxyz").cps.toList d = some (97 + d.toNat) := by
  obtain ⟨n, rfl⟩ : ∃ n : Nat, d = n := ⟨d.toNat, by omega⟩
  have hn : n < 26 := by omega
  have key : ∀ n : Fin 26, (Str.ofString "abcdefghijklmnopqrstuvwxyz").cps.toList[n.1]? = some (97 + n.1) := by decide +kernel
  rw [atI_nat (key ⟨n, hn⟩)]
  rfl
theorem rng_len (lo : Int) (n : Nat) : (rng lo n).length = n := by
  unfold rng
  simp
theorem rng_at {lo : Int} {n i : Nat} {d : D} (h : (rng lo n)[i]? = some d) : i < n ∧ d = .int (lo + i) := by
  have hi := (List.getElem?_eq_some_iff.mp h).1
  rw [rng_len] at hi
  unfold rng at h
  rw [List.getElem?_map, List.getElem?_range hi] at h
  cases h
  exact ⟨hi, rfl⟩
/-- the sign at a place of the k-th mark -/
def sgAt (sg : List Int) (at_ k : Int) (j : Int) : Int := (sg.getD j.toNat 0 + 5 * k * (if j = at_ then 1 else 0)).fmod 26
def mkAt (sg : List Int) (at_ : Int) (k : Int) : Str := word ((List.range sg.length).map fun j => sgAt sg at_ k (j : Nat))
theorem mkAt_ok {sg : List Int} {at_ k : Int} (lo : 1 ≤ sg.length) (hi : sg.length ≤ 6) : IsMk (mkAt sg at_ k) := by
  refine word_mk (fun d hd => ?_) (by simpa using lo) (by simpa using hi)
  obtain ⟨j, _, rfl⟩ := List.mem_map.mp hd
  exact nm_nat (by decide)
theorem mkAt_inj {sg : List Int} {at_ : Int} {k l : Nat} (h0 : 0 ≤ at_) (h1 : at_ < sg.length) (hk : k < 4) (hl : l < 4) (h : mkAt sg at_ k = mkAt sg at_ l) : k = l := by
  have h' := word_inj (fun d hd => by
    obtain ⟨j, _, rfl⟩ := List.mem_map.mp hd
    exact (nm_nat (by decide)).1) (fun d hd => by
    obtain ⟨j, _, rfl⟩ := List.mem_map.mp hd
    exact (nm_nat (by decide)).1) h
  have e := List.map_inj_left.mp h' at_.toNat (List.mem_range.mpr (by omega))
  have ea : ((at_.toNat : Nat) : Int) = at_ := by omega
  rw [ea] at e
  unfold sgAt at e
  rw [if_pos rfl] at e
  rw [Int.fmod_eq_emod_of_nonneg _ (by decide), Int.fmod_eq_emod_of_nonneg _ (by decide)] at e
  omega
def pMarks : VSp := fun ss st Kp => ∃ c n : Int, ss = [.obj 0] ∧ st = [.l [.int c, .int n]] ∧ PoolK n ∧ ∀ (ms : List Str) (c' n' : Int), MarksOk ms → PoolK n' → Kp (.obj 1) [.l [.int c', .int n'], .l (ms.map .str)]
theorem txts_map (ys : List Str) : txts (ys.map .str) = some ys := by
  induction ys with
  | nil => rfl
  | cons y ys ih =>
    show (txts (ys.map .str)).map (y :: ·) = _
    rw [ih] <;> rfl
theorem r_marks {ss cs Kp} (h : pMarks ss cs Kp) : t_Lmarks pTake (dV cs.length Kp) ⟨startV 9 ss, cs.map some⟩ := by
  obtain ⟨c, n, rfl, rfl, pn, k⟩ := h
  simp only [t_Lmarks, t_Lmarks_8, pTake, flatD, List.any_cons, List.any_nil, eqv_str, eqv_int, eqv_ti, eqv_it, eqv_st, eqv_ts, cut1, Bool.or_false, Bool.or_true, Bool.and_self, Bool.and_true, Bool.and_false, Bool.false_or, Bool.true_or, and_self, ofs_inj, ofs_app, ofs_len, String.reduceEq, String.reduceNe, String.reduceAppend, decide_true, decide_false, Bool.not_true, Bool.not_false, sz0, sz1, sz2, sz3, sz4, sz5, sz6, sz7, sz8, sz9, sz10, sz11, sz12, sz13, sz14, sz15, sz16, sz17, sz18, sz19, sz20, sz21, sz22, sz23, sz24, sz25, cpow1018, true_and, and_true, Nat.reduceAdd, Nat.reduceLT, Nat.reduceSub, Int.reduceNe, Int.reduceEq, Int.reduceLT, Int.reduceLE, Int.reduceToNat, ne_eq, not_false_eq_true, List.length_map, Nat.lt_irrefl, dV_nx, dV_rt, at0, at1, at2, at3, ix20, ix21, vSeq, vIfS, vTest, vTruth, truth, v2, v1, vN, vCons, vNil, vStar, vVar, vC, xIx, Vl.opI0, Vl.opI, pk, vSet, vAug, vAsg, xgSub, vRet, vRetN, vDrop, vBreak, vCont, asD, asDs, opMod, opDiv, opMul2, Vl.opAdd, Vl.opAddO, opSub, opPow, opLt, Vl.opLe, opGt, Vl.opGe, xEq, okEq_str, okEq_int, xIn, okIn, inD, xIsN, isNone_n, isNone_t, isNone_l, isNone_i, isNone_s, isMo, mob, pkm, gModI, gDivI, gSubI, gMulI, gPowI, gGt, gLt, gLe, gGe, vNotT, vAndT, vOrT, vAndV, vOrV, opNot, opNotG, vIfE, opTup, opLst, opLstO, Vl.opLen, Vl.opInt, opList, opListO, opTuple, opII, gMax, gMin, vM, vM0, isT, xPop, Vl.opAppend, opExtend, opJoin, vgName, vgTup, vgCons, vgNil, kOpt_some, kOpn_some, kOps_some, Vl.opSum, Vl.opInsert, Vl.opIndex, opDivmod, vSl, vPart, vNoPart, opSl, opSlO, opRev, opCallK, ownD, ownO, objs, renum, uniq, getS, putS, vCall0, vFor, vForW, En.wk, vSeqI, vTupI, vRng1, vRng2, vEnum, vZip, chkOf, vLcK, vYes, finD, finO, En.wipe, wipeE, En.trim, trimS, dropNone, clr_n, clr_v, clr_k, clr_o, wth, Vl.ret, takeS, startV,  List.map_cons, List.map_nil, List.length_cons, List.length_nil, List.cons_append, List.nil_append, List.replicate, List.getElem?_cons_succ, List.getElem?_cons_zero, List.getElem?_nil, List.set_cons_succ, List.set_cons_zero, List.set_nil, List.all_nil, List.all_cons, Bool.true_and, Option.map_some, Option.map_none, if_true, if_false, decide_eq_true_eq, Bool.false_eq_true, List.take_succ_cons, List.take_zero, List.take_nil, List.drop_succ_cons, List.drop_zero, List.drop_nil, reduceIte, reduceCtorEq]
  refine ⟨pn, fun r c1 n1 r0 r1 pn1 => ?_⟩
  simp only [t_Lmarks_7, pTake, flatD, List.any_cons, List.any_nil, eqv_str, eqv_int, eqv_ti, eqv_it, eqv_st, eqv_ts, cut1, Bool.or_false, Bool.or_true, Bool.and_self, Bool.and_true, Bool.and_false, Bool.false_or, Bool.true_or, and_self, ofs_inj, ofs_app, ofs_len, String.reduceEq, String.reduceNe, String.reduceAppend, decide_true, decide_false, Bool.not_true, Bool.not_false, sz0, sz1, sz2, sz3, sz4, sz5, sz6, sz7, sz8, sz9, sz10, sz11, sz12, sz13, sz14, sz15, sz16, sz17, sz18, sz19, sz20, sz21, sz22, sz23, sz24, sz25, cpow1018, true_and, and_true, Nat.reduceAdd, Nat.reduceLT, Nat.reduceSub, Int.reduceNe, Int.reduceEq, Int.reduceLT, Int.reduceLE, Int.reduceToNat, ne_eq, not_false_eq_true, List.length_map, Nat.lt_irrefl, dV_nx, dV_rt, at0, at1, at2, at3, ix20, ix21, vSeq, vIfS, vTest, vTruth, truth, v2, v1, vN, vCons, vNil, vStar, vVar, vC, xIx, Vl.opI0, Vl.opI, pk, vSet, vAug, vAsg, xgSub, vRet, vRetN, vDrop, vBreak, vCont, asD, asDs, opMod, opDiv, opMul2, Vl.opAdd, Vl.opAddO, opSub, opPow, opLt, Vl.opLe, opGt, Vl.opGe, xEq, okEq_str, okEq_int, xIn, okIn, inD, xIsN, isNone_n, isNone_t, isNone_l, isNone_i, isNone_s, isMo, mob, pkm, gModI, gDivI, gSubI, gMulI, gPowI, gGt, gLt, gLe, gGe, vNotT, vAndT, vOrT, vAndV, vOrV, opNot, opNotG, vIfE, opTup, opLst, opLstO, Vl.opLen, Vl.opInt, opList, opListO, opTuple, opII, gMax, gMin, vM, vM0, isT, xPop, Vl.opAppend, opExtend, opJoin, vgName, vgTup, vgCons, vgNil, kOpt_some, kOpn_some, kOps_some, Vl.opSum, Vl.opInsert, Vl.opIndex, opDivmod, vSl, vPart, vNoPart, opSl, opSlO, opRev, opCallK, ownD, ownO, objs, renum, uniq, getS, putS, vCall0, vFor, vForW, En.wk, vSeqI, vTupI, vRng1, vRng2, vEnum, vZip, chkOf, vLcK, vYes, finD, finO, En.wipe, wipeE, En.trim, trimS, dropNone, clr_n, clr_v, clr_k, clr_o, wth, Vl.ret, takeS, startV,  List.map_cons, List.map_nil, List.length_cons, List.length_nil, List.cons_append, List.nil_append, List.replicate, List.getElem?_cons_succ, List.getElem?_cons_zero, List.getElem?_nil, List.set_cons_succ, List.set_cons_zero, List.set_nil, List.all_nil, List.all_cons, Bool.true_and, Option.map_some, Option.map_none, if_true, if_false, decide_eq_true_eq, Bool.false_eq_true, List.take_succ_cons, List.take_zero, List.take_nil, List.drop_succ_cons, List.drop_zero, List.drop_nil, reduceIte, reduceCtorEq]
  refine ⟨pn1, by omega, by omega, fun at_ c2 n2 a0 a1 pn2 => ?_⟩
  simp only [t_Lmarks_6, flatD, List.any_cons, List.any_nil, eqv_str, eqv_int, eqv_ti, eqv_it, eqv_st, eqv_ts, cut1, Bool.or_false, Bool.or_true, Bool.and_self, Bool.and_true, Bool.and_false, Bool.false_or, Bool.true_or, and_self, ofs_inj, ofs_app, ofs_len, String.reduceEq, String.reduceNe, String.reduceAppend, decide_true, decide_false, Bool.not_true, Bool.not_false, sz0, sz1, sz2, sz3, sz4, sz5, sz6, sz7, sz8, sz9, sz10, sz11, sz12, sz13, sz14, sz15, sz16, sz17, sz18, sz19, sz20, sz21, sz22, sz23, sz24, sz25, cpow1018, true_and, and_true, Nat.reduceAdd, Nat.reduceLT, Nat.reduceSub, Int.reduceNe, Int.reduceEq, Int.reduceLT, Int.reduceLE, Int.reduceToNat, ne_eq, not_false_eq_true, List.length_map, Nat.lt_irrefl, dV_nx, dV_rt, at0, at1, at2, at3, ix20, ix21, vSeq, vIfS, vTest, vTruth, truth, v2, v1, vN, vCons, vNil, vStar, vVar, vC, xIx, Vl.opI0, Vl.opI, pk, vSet, vAug, vAsg, xgSub, vRet, vRetN, vDrop, vBreak, vCont, asD, asDs, opMod, opDiv, opMul2, Vl.opAdd, Vl.opAddO, opSub, opPow, opLt, Vl.opLe, opGt, Vl.opGe, xEq, okEq_str, okEq_int, xIn, okIn, inD, xIsN, isNone_n, isNone_t, isNone_l, isNone_i, isNone_s, isMo, mob, pkm, gModI, gDivI, gSubI, gMulI, gPowI, gGt, gLt, gLe, gGe, vNotT, vAndT, vOrT, vAndV, vOrV, opNot, opNotG, vIfE, opTup, opLst, opLstO, Vl.opLen, Vl.opInt, opList, opListO, opTuple, opII, gMax, gMin, vM, vM0, isT, xPop, Vl.opAppend, opExtend, opJoin, vgName, vgTup, vgCons, vgNil, kOpt_some, kOpn_some, kOps_some, Vl.opSum, Vl.opInsert, Vl.opIndex, opDivmod, vSl, vPart, vNoPart, opSl, opSlO, opRev, opCallK, ownD, ownO, objs, renum, uniq, getS, putS, vCall0, vFor, vForW, En.wk, vSeqI, vTupI, vRng1, vRng2, vEnum, vZip, chkOf, vLcK, vYes, finD, finO, En.wipe, wipeE, En.trim, trimS, dropNone, clr_n, clr_v, clr_k, clr_o, wth, Vl.ret, takeS, startV,  List.map_cons, List.map_nil, List.length_cons, List.length_nil, List.cons_append, List.nil_append, List.replicate, List.getElem?_cons_succ, List.getElem?_cons_zero, List.getElem?_nil, List.set_cons_succ, List.set_cons_zero, List.set_nil, List.all_nil, List.all_cons, Bool.true_and, Option.map_some, Option.map_none, if_true, if_false, decide_eq_true_eq, Bool.false_eq_true, List.take_succ_cons, List.take_zero, List.take_nil, List.drop_succ_cons, List.drop_zero, List.drop_nil, reduceIte, reduceCtorEq]
  refine ⟨by omega, by omega, ?_⟩
  -- the signs
  refine cl_inv (chk := none) (fun i acc e => ∃ (sg : List Int) (c n : Int), sg.length = i ∧ acc = sg.map .int ∧ PoolK n ∧ e = ⟨[some (.obj 0), some (.val (.int (1 + r))), some (.val (.int at_)), none, none, none, none, none, none], [some (.l [.int c, .int n])]⟩) (fun _ _ _ _ _ => trivial) ?_ ?_ ⟨[], c2, n2, rfl, rfl, pn2, rfl⟩
  · rintro i d acc e Kt hd ⟨sg, c, n, hsg, rfl, pn3, rfl⟩ hk
    obtain ⟨hi, rfl⟩ := rng_at hd
    simp only [pTake, flatD, List.any_cons, List.any_nil, eqv_str, eqv_int, eqv_ti, eqv_it, eqv_st, eqv_ts, cut1, Bool.or_false, Bool.or_true, Bool.and_self, Bool.and_true, Bool.and_false, Bool.false_or, Bool.true_or, and_self, ofs_inj, ofs_app, ofs_len, String.reduceEq, String.reduceNe, String.reduceAppend, decide_true, decide_false, Bool.not_true, Bool.not_false, sz0, sz1, sz2, sz3, sz4, sz5, sz6, sz7, sz8, sz9, sz10, sz11, sz12, sz13, sz14, sz15, sz16, sz17, sz18, sz19, sz20, sz21, sz22, sz23, sz24, sz25, cpow1018, true_and, and_true, Nat.reduceAdd, Nat.reduceLT, Nat.reduceSub, Int.reduceNe, Int.reduceEq, Int.reduceLT, Int.reduceLE, Int.reduceToNat, ne_eq, not_false_eq_true, List.length_map, Nat.lt_irrefl, dV_nx, dV_rt, at0, at1, at2, at3, ix20, ix21, vSeq, vIfS, vTest, vTruth, truth, v2, v1, vN, vCons, vNil, vStar, vVar, vC, xIx, Vl.opI0, Vl.opI, pk, vSet, vAug, vAsg, xgSub, vRet, vRetN, vDrop, vBreak, vCont, asD, asDs, opMod, opDiv, opMul2, Vl.opAdd, Vl.opAddO, opSub, opPow, opLt, Vl.opLe, opGt, Vl.opGe, xEq, okEq_str, okEq_int, xIn, okIn, inD, xIsN, isNone_n, isNone_t, isNone_l, isNone_i, isNone_s, isMo, mob, pkm, gModI, gDivI, gSubI, gMulI, gPowI, gGt, gLt, gLe, gGe, vNotT, vAndT, vOrT, vAndV, vOrV, opNot, opNotG, vIfE, opTup, opLst, opLstO, Vl.opLen, Vl.opInt, opList, opListO, opTuple, opII, gMax, gMin, vM, vM0, isT, xPop, Vl.opAppend, opExtend, opJoin, vgName, vgTup, vgCons, vgNil, kOpt_some, kOpn_some, kOps_some, Vl.opSum, Vl.opInsert, Vl.opIndex, opDivmod, vSl, vPart, vNoPart, opSl, opSlO, opRev, opCallK, ownD, ownO, objs, renum, uniq, getS, putS, vCall0, vFor, vForW, En.wk, vSeqI, vTupI, vRng1, vRng2, vEnum, vZip, chkOf, vLcK, vYes, finD, finO, En.wipe, wipeE, En.trim, trimS, dropNone, clr_n, clr_v, clr_k, clr_o, wth, Vl.ret, takeS, startV,  List.map_cons, List.map_nil, List.length_cons, List.length_nil, List.cons_append, List.nil_append, List.replicate, List.getElem?_cons_succ, List.getElem?_cons_zero, List.getElem?_nil, List.set_cons_succ, List.set_cons_zero, List.set_nil, List.all_nil, List.all_cons, Bool.true_and, Option.map_some, Option.map_none, if_true, if_false, decide_eq_true_eq, Bool.false_eq_true, List.take_succ_cons, List.take_zero, List.take_nil, List.drop_succ_cons, List.drop_zero, List.drop_nil, reduceIte, reduceCtorEq]
    refine ⟨pn3, fun s c' n' s0 s1 pn' => ⟨bigl (by rw [hsg]; omega), hk _ _ ⟨sg ++ [s], c', n', by simp [hsg], by simp, pn', rfl⟩⟩⟩
  · rintro acc e ⟨sg, c, n, hsg, rfl, pn3, rfl⟩
    rw [rng_len] at hsg
    have sl : (sg.length : Int) = 1 + r := by omega
    simp only [t_Lmarks_5, flatD, List.any_cons, List.any_nil, eqv_str, eqv_int, eqv_ti, eqv_it, eqv_st, eqv_ts, cut1, Bool.or_false, Bool.or_true, Bool.and_self, Bool.and_true, Bool.and_false, Bool.false_or, Bool.true_or, and_self, ofs_inj, ofs_app, ofs_len, String.reduceEq, String.reduceNe, String.reduceAppend, decide_true, decide_false, Bool.not_true, Bool.not_false, sz0, sz1, sz2, sz3, sz4, sz5, sz6, sz7, sz8, sz9, sz10, sz11, sz12, sz13, sz14, sz15, sz16, sz17, sz18, sz19, sz20, sz21, sz22, sz23, sz24, sz25, cpow1018, true_and, and_true, Nat.reduceAdd, Nat.reduceLT, Nat.reduceSub, Int.reduceNe, Int.reduceEq, Int.reduceLT, Int.reduceLE, Int.reduceToNat, ne_eq, not_false_eq_true, List.length_map, Nat.lt_irrefl, dV_nx, dV_rt, at0, at1, at2, at3, ix20, ix21, vSeq, vIfS, vTest, vTruth, truth, v2, v1, vN, vCons, vNil, vStar, vVar, vC, xIx, Vl.opI0, Vl.opI, pk, vSet, vAug, vAsg, xgSub, vRet, vRetN, vDrop, vBreak, vCont, asD, asDs, opMod, opDiv, opMul2, Vl.opAdd, Vl.opAddO, opSub, opPow, opLt, Vl.opLe, opGt, Vl.opGe, xEq, okEq_str, okEq_int, xIn, okIn, inD, xIsN, isNone_n, isNone_t, isNone_l, isNone_i, isNone_s, isMo, mob, pkm, gModI, gDivI, gSubI, gMulI, gPowI, gGt, gLt, gLe, gGe, vNotT, vAndT, vOrT, vAndV, vOrV, opNot, opNotG, vIfE, opTup, opLst, opLstO, Vl.opLen, Vl.opInt, opList, opListO, opTuple, opII, gMax, gMin, vM, vM0, isT, xPop, Vl.opAppend, opExtend, opJoin, vgName, vgTup, vgCons, vgNil, kOpt_some, kOpn_some, kOps_some, Vl.opSum, Vl.opInsert, Vl.opIndex, opDivmod, vSl, vPart, vNoPart, opSl, opSlO, opRev, opCallK, ownD, ownO, objs, renum, uniq, getS, putS, vCall0, vFor, vForW, En.wk, vSeqI, vTupI, vRng1, vRng2, vEnum, vZip, chkOf, vLcK, vYes, finD, finO, En.wipe, wipeE, En.trim, trimS, dropNone, clr_n, clr_v, clr_k, clr_o, wth, Vl.ret, takeS, startV,  List.map_cons, List.map_nil, List.length_cons, List.length_nil, List.cons_append, List.nil_append, List.replicate, List.getElem?_cons_succ, List.getElem?_cons_zero, List.getElem?_nil, List.set_cons_succ, List.set_cons_zero, List.set_nil, List.all_nil, List.all_cons, Bool.true_and, Option.map_some, Option.map_none, if_true, if_false, decide_eq_true_eq, Bool.false_eq_true, List.take_succ_cons, List.take_zero, List.take_nil, List.drop_succ_cons, List.drop_zero, List.drop_nil, reduceIte, reduceCtorEq]
    simp only [t_Lmarks_4, pTake, flatD, List.any_cons, List.any_nil, eqv_str, eqv_int, eqv_ti, eqv_it, eqv_st, eqv_ts, cut1, Bool.or_false, Bool.or_true, Bool.and_self, Bool.and_true, Bool.and_false, Bool.false_or, Bool.true_or, and_self, ofs_inj, ofs_app, ofs_len, String.reduceEq, String.reduceNe, String.reduceAppend, decide_true, decide_false, Bool.not_true, Bool.not_false, sz0, sz1, sz2, sz3, sz4, sz5, sz6, sz7, sz8, sz9, sz10, sz11, sz12, sz13, sz14, sz15, sz16, sz17, sz18, sz19, sz20, sz21, sz22, sz23, sz24, sz25, cpow1018, true_and, and_true, Nat.reduceAdd, Nat.reduceLT, Nat.reduceSub, Int.reduceNe, Int.reduceEq, Int.reduceLT, Int.reduceLE, Int.reduceToNat, ne_eq, not_false_eq_true, List.length_map, Nat.lt_irrefl, dV_nx, dV_rt, at0, at1, at2, at3, ix20, ix21, vSeq, vIfS, vTest, vTruth, truth, v2, v1, vN, vCons, vNil, vStar, vVar, vC, xIx, Vl.opI0, Vl.opI, pk, vSet, vAug, vAsg, xgSub, vRet, vRetN, vDrop, vBreak, vCont, asD, asDs, opMod, opDiv, opMul2, Vl.opAdd, Vl.opAddO, opSub, opPow, opLt, Vl.opLe, opGt, Vl.opGe, xEq, okEq_str, okEq_int, xIn, okIn, inD, xIsN, isNone_n, isNone_t, isNone_l, isNone_i, isNone_s, isMo, mob, pkm, gModI, gDivI, gSubI, gMulI, gPowI, gGt, gLt, gLe, gGe, vNotT, vAndT, vOrT, vAndV, vOrV, opNot, opNotG, vIfE, opTup, opLst, opLstO, Vl.opLen, Vl.opInt, opList, opListO, opTuple, opII, gMax, gMin, vM, vM0, isT, xPop, Vl.opAppend, opExtend, opJoin, vgName, vgTup, vgCons, vgNil, kOpt_some, kOpn_some, kOps_some, Vl.opSum, Vl.opInsert, Vl.opIndex, opDivmod, vSl, vPart, vNoPart, opSl, opSlO, opRev, opCallK, ownD, ownO, objs, renum, uniq, getS, putS, vCall0, vFor, vForW, En.wk, vSeqI, vTupI, vRng1, vRng2, vEnum, vZip, chkOf, vLcK, vYes, finD, finO, En.wipe, wipeE, En.trim, trimS, dropNone, clr_n, clr_v, clr_k, clr_o, wth, Vl.ret, takeS, startV,  List.map_cons, List.map_nil, List.length_cons, List.length_nil, List.cons_append, List.nil_append, List.replicate, List.getElem?_cons_succ, List.getElem?_cons_zero, List.getElem?_nil, List.set_cons_succ, List.set_cons_zero, List.set_nil, List.all_nil, List.all_cons, Bool.true_and, Option.map_some, Option.map_none, if_true, if_false, decide_eq_true_eq, Bool.false_eq_true, List.take_succ_cons, List.take_zero, List.take_nil, List.drop_succ_cons, List.drop_zero, List.drop_nil, reduceIte, reduceCtorEq]
    refine ⟨pn3, fun m c3 n3 m0 m1 pn4 => ⟨by omega, by omega, ?_⟩⟩
    rw [rng_eq]
    refine fl_invW (chk := none) (fun (i : Nat) => PyData.int (0 + (i : Nat))) (List.range (1 + m).toNat) (fun ys e => e = ⟨[some (.obj 0), some (.val (.int (1 + r))), some (.val (.int at_)), some (.val (.list (sg.map .int))), some (.obj 1), none, none, none, none],
        [some (.l [.int c3, .int n3]), some (.l ((ys.map fun (k : Nat) => mkAt sg at_ k).map .str))]⟩) (fun _ _ _ => trivial) ?_ ?_ rfl
    · rintro ys i zs e Nx hys rfl hk
      have hlen : ys.length + 1 + zs.length = (1 + m).toNat := by
        have := congrArg List.length hys
        simp at this
        omega
      have hi : i < (1 + m).toNat := List.mem_range.mp (by rw [hys]; simp)
      simp only [t_Lmarks_2, flatD, List.any_cons, List.any_nil, eqv_str, eqv_int, eqv_ti, eqv_it, eqv_st, eqv_ts, cut1, Bool.or_false, Bool.or_true, Bool.and_self, Bool.and_true, Bool.and_false, Bool.false_or, Bool.true_or, and_self, ofs_inj, ofs_app, ofs_len, String.reduceEq, String.reduceNe, String.reduceAppend, decide_true, decide_false, Bool.not_true, Bool.not_false, sz0, sz1, sz2, sz3, sz4, sz5, sz6, sz7, sz8, sz9, sz10, sz11, sz12, sz13, sz14, sz15, sz16, sz17, sz18, sz19, sz20, sz21, sz22, sz23, sz24, sz25, cpow1018, true_and, and_true, Nat.reduceAdd, Nat.reduceLT, Nat.reduceSub, Int.reduceNe, Int.reduceEq, Int.reduceLT, Int.reduceLE, Int.reduceToNat, ne_eq, not_false_eq_true, List.length_map, Nat.lt_irrefl, dV_nx, dV_rt, at0, at1, at2, at3, ix20, ix21, vSeq, vIfS, vTest, vTruth, truth, v2, v1, vN, vCons, vNil, vStar, vVar, vC, xIx, Vl.opI0, Vl.opI, pk, vSet, vAug, vAsg, xgSub, vRet, vRetN, vDrop, vBreak, vCont, asD, asDs, opMod, opDiv, opMul2, Vl.opAdd, Vl.opAddO, opSub, opPow, opLt, Vl.opLe, opGt, Vl.opGe, xEq, okEq_str, okEq_int, xIn, okIn, inD, xIsN, isNone_n, isNone_t, isNone_l, isNone_i, isNone_s, isMo, mob, pkm, gModI, gDivI, gSubI, gMulI, gPowI, gGt, gLt, gLe, gGe, vNotT, vAndT, vOrT, vAndV, vOrV, opNot, opNotG, vIfE, opTup, opLst, opLstO, Vl.opLen, Vl.opInt, opList, opListO, opTuple, opII, gMax, gMin, vM, vM0, isT, xPop, Vl.opAppend, opExtend, opJoin, vgName, vgTup, vgCons, vgNil, kOpt_some, kOpn_some, kOps_some, Vl.opSum, Vl.opInsert, Vl.opIndex, opDivmod, vSl, vPart, vNoPart, opSl, opSlO, opRev, opCallK, ownD, ownO, objs, renum, uniq, getS, putS, vCall0, vFor, vForW, En.wk, vSeqI, vTupI, vRng1, vRng2, vEnum, vZip, chkOf, vLcK, vYes, finD, finO, En.wipe, wipeE, En.trim, trimS, dropNone, clr_n, clr_v, clr_k, clr_o, wth, Vl.ret, takeS, startV,  List.map_cons, List.map_nil, List.length_cons, List.length_nil, List.cons_append, List.nil_append, List.replicate, List.getElem?_cons_succ, List.getElem?_cons_zero, List.getElem?_nil, List.set_cons_succ, List.set_cons_zero, List.set_nil, List.all_nil, List.all_cons, Bool.true_and, Option.map_some, Option.map_none, if_true, if_false, decide_eq_true_eq, Bool.false_eq_true, List.take_succ_cons, List.take_zero, List.take_nil, List.drop_succ_cons, List.drop_zero, List.drop_nil, reduceIte, reduceCtorEq]
      refine ⟨by omega, by omega, ?_⟩
      rw [rng_eq]
      refine cl_mapE _ (fun (j : Nat) => .int (sgAt sg at_ i (j : Nat))) _ (by rw [List.length_range]; exact big (by simp; omega)) (fun j Kt hj hk => ?_) ?_
      · have hj := List.mem_range.mp hj
        have hj' : (0 + (j : Nat) : Int) = (j : Nat) := by omega
        have hsj : sg[j]? = some (sg.getD j 0) := by
          rw [List.getD_eq_getElem?_getD]
          have : j < sg.length := by omega
          simp [this]
        have at1 : atI (sg.map PyData.int) (0 + (j : Nat)) = some (.int (sg.getD j 0)) := by
          rw [hj']
          exact atI_nat (by rw [List.getElem?_map, hsj] <;> rfl)
        have e1 : sgAt sg at_ i (j : Nat) = (sg.getD j 0 + 5 * (0 + (i : Nat)) * (if (0 + (j : Nat) : Int) = at_ then 1 else 0)).fmod 26 := by
          unfold sgAt
          rw [hj', show (0 + (i : Nat) : Int) = (i : Nat) from by omega]
          rfl
        rw [e1] at hk
        simp only [at1, flatD, List.any_cons, List.any_nil, eqv_str, eqv_int, eqv_ti, eqv_it, eqv_st, eqv_ts, cut1, Bool.or_false, Bool.or_true, Bool.and_self, Bool.and_true, Bool.and_false, Bool.false_or, Bool.true_or, and_self, ofs_inj, ofs_app, ofs_len, String.reduceEq, String.reduceNe, String.reduceAppend, decide_true, decide_false, Bool.not_true, Bool.not_false, sz0, sz1, sz2, sz3, sz4, sz5, sz6, sz7, sz8, sz9, sz10, sz11, sz12, sz13, sz14, sz15, sz16, sz17, sz18, sz19, sz20, sz21, sz22, sz23, sz24, sz25, cpow1018, true_and, and_true, Nat.reduceAdd, Nat.reduceLT, Nat.reduceSub, Int.reduceNe, Int.reduceEq, Int.reduceLT, Int.reduceLE, Int.reduceToNat, ne_eq, not_false_eq_true, List.length_map, Nat.lt_irrefl, dV_nx, dV_rt, at0, at1, at2, at3, ix20, ix21, vSeq, vIfS, vTest, vTruth, truth, v2, v1, vN, vCons, vNil, vStar, vVar, vC, xIx, Vl.opI0, Vl.opI, pk, vSet, vAug, vAsg, xgSub, vRet, vRetN, vDrop, vBreak, vCont, asD, asDs, opMod, opDiv, opMul2, Vl.opAdd, Vl.opAddO, opSub, opPow, opLt, Vl.opLe, opGt, Vl.opGe, xEq, okEq_str, okEq_int, xIn, okIn, inD, xIsN, isNone_n, isNone_t, isNone_l, isNone_i, isNone_s, isMo, mob, pkm, gModI, gDivI, gSubI, gMulI, gPowI, gGt, gLt, gLe, gGe, vNotT, vAndT, vOrT, vAndV, vOrV, opNot, opNotG, vIfE, opTup, opLst, opLstO, Vl.opLen, Vl.opInt, opList, opListO, opTuple, opII, gMax, gMin, vM, vM0, isT, xPop, Vl.opAppend, opExtend, opJoin, vgName, vgTup, vgCons, vgNil, kOpt_some, kOpn_some, kOps_some, Vl.opSum, Vl.opInsert, Vl.opIndex, opDivmod, vSl, vPart, vNoPart, opSl, opSlO, opRev, opCallK, ownD, ownO, objs, renum, uniq, getS, putS, vCall0, vFor, vForW, En.wk, vSeqI, vTupI, vRng1, vRng2, vEnum, vZip, chkOf, vLcK, vYes, finD, finO, En.wipe, wipeE, En.trim, trimS, dropNone, clr_n, clr_v, clr_k, clr_o, wth, Vl.ret, takeS, startV,  List.map_cons, List.map_nil, List.length_cons, List.length_nil, List.cons_append, List.nil_append, List.replicate, List.getElem?_cons_succ, List.getElem?_cons_zero, List.getElem?_nil, List.set_cons_succ, List.set_cons_zero, List.set_nil, List.all_nil, List.all_cons, Bool.true_and, Option.map_some, Option.map_none, if_true, if_false, decide_eq_true_eq, Bool.false_eq_true, List.take_succ_cons, List.take_zero, List.take_nil, List.drop_succ_cons, List.drop_zero, List.drop_nil, reduceIte, reduceCtorEq]
        refine ⟨by unfold CMul; omega, by unfold CMul; omega, hk _ rfl⟩
      · simp only [List.nil_append, t_Lmarks_1, flatD, List.any_cons, List.any_nil, eqv_str, eqv_int, eqv_ti, eqv_it, eqv_st, eqv_ts, cut1, Bool.or_false, Bool.or_true, Bool.and_self, Bool.and_true, Bool.and_false, Bool.false_or, Bool.true_or, and_self, ofs_inj, ofs_app, ofs_len, String.reduceEq, String.reduceNe, String.reduceAppend, decide_true, decide_false, Bool.not_true, Bool.not_false, sz0, sz1, sz2, sz3, sz4, sz5, sz6, sz7, sz8, sz9, sz10, sz11, sz12, sz13, sz14, sz15, sz16, sz17, sz18, sz19, sz20, sz21, sz22, sz23, sz24, sz25, cpow1018, true_and, and_true, Nat.reduceAdd, Nat.reduceLT, Nat.reduceSub, Int.reduceNe, Int.reduceEq, Int.reduceLT, Int.reduceLE, Int.reduceToNat, ne_eq, not_false_eq_true, List.length_map, Nat.lt_irrefl, dV_nx, dV_rt, at0, at1, at2, at3, ix20, ix21, vSeq, vIfS, vTest, vTruth, truth, v2, v1, vN, vCons, vNil, vStar, vVar, vC, xIx, Vl.opI0, Vl.opI, pk, vSet, vAug, vAsg, xgSub, vRet, vRetN, vDrop, vBreak, vCont, asD, asDs, opMod, opDiv, opMul2, Vl.opAdd, Vl.opAddO, opSub, opPow, opLt, Vl.opLe, opGt, Vl.opGe, xEq, okEq_str, okEq_int, xIn, okIn, inD, xIsN, isNone_n, isNone_t, isNone_l, isNone_i, isNone_s, isMo, mob, pkm, gModI, gDivI, gSubI, gMulI, gPowI, gGt, gLt, gLe, gGe, vNotT, vAndT, vOrT, vAndV, vOrV, opNot, opNotG, vIfE, opTup, opLst, opLstO, Vl.opLen, Vl.opInt, opList, opListO, opTuple, opII, gMax, gMin, vM, vM0, isT, xPop, Vl.opAppend, opExtend, opJoin, vgName, vgTup, vgCons, vgNil, kOpt_some, kOpn_some, kOps_some, Vl.opSum, Vl.opInsert, Vl.opIndex, opDivmod, vSl, vPart, vNoPart, opSl, opSlO, opRev, opCallK, ownD, ownO, objs, renum, uniq, getS, putS, vCall0, vFor, vForW, En.wk, vSeqI, vTupI, vRng1, vRng2, vEnum, vZip, chkOf, vLcK, vYes, finD, finO, En.wipe, wipeE, En.trim, trimS, dropNone, clr_n, clr_v, clr_k, clr_o, wth, Vl.ret, takeS, startV,  List.map_cons, List.map_nil, List.length_cons, List.length_nil, List.cons_append, List.nil_append, List.replicate, List.getElem?_cons_succ, List.getElem?_cons_zero, List.getElem?_nil, List.set_cons_succ, List.set_cons_zero, List.set_nil, List.all_nil, List.all_cons, Bool.true_and, Option.map_some, Option.map_none, if_true, if_false, decide_eq_true_eq, Bool.false_eq_true, List.take_succ_cons, List.take_zero, List.take_nil, List.drop_succ_cons, List.drop_zero, List.drop_nil, reduceIte, reduceCtorEq]
        refine cl_mapE _ (fun (j : Nat) => .str (sgn (sgAt sg at_ i (j : Nat)))) _ (by rw [List.length_range]; exact big (by simp; omega)) (fun j Kt hj hk => ?_) ?_
        · have q := nm_nat (x := (sg.getD ((j : Nat) : Int).toNat 0 + 5 * (i : Nat) * (if ((j : Nat) : Int) = at_ then 1 else 0))) (m := 26) (by decide)
          simp only [flatD, List.any_cons, List.any_nil, eqv_str, eqv_int, eqv_ti, eqv_it, eqv_st, eqv_ts, cut1, Bool.or_false, Bool.or_true, Bool.and_self, Bool.and_true, Bool.and_false, Bool.false_or, Bool.true_or, and_self, ofs_inj, ofs_app, ofs_len, String.reduceEq, String.reduceNe, String.reduceAppend, decide_true, decide_false, Bool.not_true, Bool.not_false, sz0, sz1, sz2, sz3, sz4, sz5, sz6, sz7, sz8, sz9, sz10, sz11, sz12, sz13, sz14, sz15, sz16, sz17, sz18, sz19, sz20, sz21, sz22, sz23, sz24, sz25, cpow1018, true_and, and_true, Nat.reduceAdd, Nat.reduceLT, Nat.reduceSub, Int.reduceNe, Int.reduceEq, Int.reduceLT, Int.reduceLE, Int.reduceToNat, ne_eq, not_false_eq_true, List.length_map, Nat.lt_irrefl, dV_nx, dV_rt, at0, at1, at2, at3, ix20, ix21, vSeq, vIfS, vTest, vTruth, truth, v2, v1, vN, vCons, vNil, vStar, vVar, vC, xIx, Vl.opI0, Vl.opI, pk, vSet, vAug, vAsg, xgSub, vRet, vRetN, vDrop, vBreak, vCont, asD, asDs, opMod, opDiv, opMul2, Vl.opAdd, Vl.opAddO, opSub, opPow, opLt, Vl.opLe, opGt, Vl.opGe, xEq, okEq_str, okEq_int, xIn, okIn, inD, xIsN, isNone_n, isNone_t, isNone_l, isNone_i, isNone_s, isMo, mob, pkm, gModI, gDivI, gSubI, gMulI, gPowI, gGt, gLt, gLe, gGe, vNotT, vAndT, vOrT, vAndV, vOrV, opNot, opNotG, vIfE, opTup, opLst, opLstO, Vl.opLen, Vl.opInt, opList, opListO, opTuple, opII, gMax, gMin, vM, vM0, isT, xPop, Vl.opAppend, opExtend, opJoin, vgName, vgTup, vgCons, vgNil, kOpt_some, kOpn_some, kOps_some, Vl.opSum, Vl.opInsert, Vl.opIndex, opDivmod, vSl, vPart, vNoPart, opSl, opSlO, opRev, opCallK, ownD, ownO, objs, renum, uniq, getS, putS, vCall0, vFor, vForW, En.wk, vSeqI, vTupI, vRng1, vRng2, vEnum, vZip, chkOf, vLcK, vYes, finD, finO, En.wipe, wipeE, En.trim, trimS, dropNone, clr_n, clr_v, clr_k, clr_o, wth, Vl.ret, takeS, startV,  List.map_cons, List.map_nil, List.length_cons, List.length_nil, List.cons_append, List.nil_append, List.replicate, List.getElem?_cons_succ, List.getElem?_cons_zero, List.getElem?_nil, List.set_cons_succ, List.set_cons_zero, List.set_nil, List.all_nil, List.all_cons, Bool.true_and, Option.map_some, Option.map_none, if_true, if_false, decide_eq_true_eq, Bool.false_eq_true, List.take_succ_cons, List.take_zero, List.take_nil, List.drop_succ_cons, List.drop_zero, List.drop_nil, reduceIte, reduceCtorEq]
          exact ⟨97 + (sgAt sg at_ i (j : Nat)).toNat, big (by decide), abc q.1 q.2, hk _ rfl⟩
        · have hl : (List.range (1 + r).toNat).map (fun (j : Nat) => PyData.str (sgn (sgAt sg at_ i (j : Nat)))) = (((List.range sg.length).map fun (j : Nat) => sgAt sg at_ i (j : Nat)).map sgn).map .str := by
            rw [show (1 + r).toNat = sg.length from by omega, List.map_map, List.map_map]
            rfl
          have sum1 : ∀ l : List Int, ((l.map sgn).map (·.length)).sum = l.length := fun l => by
            induction l with
            | nil => rfl
            | cons x l ih =>
              rw [List.map_cons, List.map_cons, List.sum_cons, ih, List.length_cons]
              show 1 + _ = _
              omega
          simp only [List.nil_append, hl, flatD, List.any_cons, List.any_nil, eqv_str, eqv_int, eqv_ti, eqv_it, eqv_st, eqv_ts, cut1, Bool.or_false, Bool.or_true, Bool.and_self, Bool.and_true, Bool.and_false, Bool.false_or, Bool.true_or, and_self, ofs_inj, ofs_app, ofs_len, String.reduceEq, String.reduceNe, String.reduceAppend, decide_true, decide_false, Bool.not_true, Bool.not_false, sz0, sz1, sz2, sz3, sz4, sz5, sz6, sz7, sz8, sz9, sz10, sz11, sz12, sz13, sz14, sz15, sz16, sz17, sz18, sz19, sz20, sz21, sz22, sz23, sz24, sz25, cpow1018, true_and, and_true, Nat.reduceAdd, Nat.reduceLT, Nat.reduceSub, Int.reduceNe, Int.reduceEq, Int.reduceLT, Int.reduceLE, Int.reduceToNat, ne_eq, not_false_eq_true, List.length_map, Nat.lt_irrefl, dV_nx, dV_rt, at0, at1, at2, at3, ix20, ix21, vSeq, vIfS, vTest, vTruth, truth, v2, v1, vN, vCons, vNil, vStar, vVar, vC, xIx, Vl.opI0, Vl.opI, pk, vSet, vAug, vAsg, xgSub, vRet, vRetN, vDrop, vBreak, vCont, asD, asDs, opMod, opDiv, opMul2, Vl.opAdd, Vl.opAddO, opSub, opPow, opLt, Vl.opLe, opGt, Vl.opGe, xEq, okEq_str, okEq_int, xIn, okIn, inD, xIsN, isNone_n, isNone_t, isNone_l, isNone_i, isNone_s, isMo, mob, pkm, gModI, gDivI, gSubI, gMulI, gPowI, gGt, gLt, gLe, gGe, vNotT, vAndT, vOrT, vAndV, vOrV, opNot, opNotG, vIfE, opTup, opLst, opLstO, Vl.opLen, Vl.opInt, opList, opListO, opTuple, opII, gMax, gMin, vM, vM0, isT, xPop, Vl.opAppend, opExtend, opJoin, vgName, vgTup, vgCons, vgNil, kOpt_some, kOpn_some, kOps_some, Vl.opSum, Vl.opInsert, Vl.opIndex, opDivmod, vSl, vPart, vNoPart, opSl, opSlO, opRev, opCallK, ownD, ownO, objs, renum, uniq, getS, putS, vCall0, vFor, vForW, En.wk, vSeqI, vTupI, vRng1, vRng2, vEnum, vZip, chkOf, vLcK, vYes, finD, finO, En.wipe, wipeE, En.trim, trimS, dropNone, clr_n, clr_v, clr_k, clr_o, wth, Vl.ret, takeS, startV,  List.map_cons, List.map_nil, List.length_cons, List.length_nil, List.cons_append, List.nil_append, List.replicate, List.getElem?_cons_succ, List.getElem?_cons_zero, List.getElem?_nil, List.set_cons_succ, List.set_cons_zero, List.set_nil, List.all_nil, List.all_cons, Bool.true_and, Option.map_some, Option.map_none, if_true, if_false, decide_eq_true_eq, Bool.false_eq_true, List.take_succ_cons, List.take_zero, List.take_nil, List.drop_succ_cons, List.drop_zero, List.drop_nil, reduceIte, reduceCtorEq]
          refine ⟨_, txts_map _, ?_, bigl (by omega), ?_⟩
          · rw [sum1]
            simp
            omega
          · rw [join_word]
            simp only [List.map_append, List.map_cons, List.map_nil] at hk
            exact hk _ 2 [5, 6] (Nat.le_refl _) rfl
    · rintro e rfl
      simp only [t_Lmarks_3, flatD, List.any_cons, List.any_nil, eqv_str, eqv_int, eqv_ti, eqv_it, eqv_st, eqv_ts, cut1, Bool.or_false, Bool.or_true, Bool.and_self, Bool.and_true, Bool.and_false, Bool.false_or, Bool.true_or, and_self, ofs_inj, ofs_app, ofs_len, String.reduceEq, String.reduceNe, String.reduceAppend, decide_true, decide_false, Bool.not_true, Bool.not_false, sz0, sz1, sz2, sz3, sz4, sz5, sz6, sz7, sz8, sz9, sz10, sz11, sz12, sz13, sz14, sz15, sz16, sz17, sz18, sz19, sz20, sz21, sz22, sz23, sz24, sz25, cpow1018, true_and, and_true, Nat.reduceAdd, Nat.reduceLT, Nat.reduceSub, Int.reduceNe, Int.reduceEq, Int.reduceLT, Int.reduceLE, Int.reduceToNat, ne_eq, not_false_eq_true, List.length_map, Nat.lt_irrefl, dV_nx, dV_rt, at0, at1, at2, at3, ix20, ix21, vSeq, vIfS, vTest, vTruth, truth, v2, v1, vN, vCons, vNil, vStar, vVar, vC, xIx, Vl.opI0, Vl.opI, pk, vSet, vAug, vAsg, xgSub, vRet, vRetN, vDrop, vBreak, vCont, asD, asDs, opMod, opDiv, opMul2, Vl.opAdd, Vl.opAddO, opSub, opPow, opLt, Vl.opLe, opGt, Vl.opGe, xEq, okEq_str, okEq_int, xIn, okIn, inD, xIsN, isNone_n, isNone_t, isNone_l, isNone_i, isNone_s, isMo, mob, pkm, gModI, gDivI, gSubI, gMulI, gPowI, gGt, gLt, gLe, gGe, vNotT, vAndT, vOrT, vAndV, vOrV, opNot, opNotG, vIfE, opTup, opLst, opLstO, Vl.opLen, Vl.opInt, opList, opListO, opTuple, opII, gMax, gMin, vM, vM0, isT, xPop, Vl.opAppend, opExtend, opJoin, vgName, vgTup, vgCons, vgNil, kOpt_some, kOpn_some, kOps_some, Vl.opSum, Vl.opInsert, Vl.opIndex, opDivmod, vSl, vPart, vNoPart, opSl, opSlO, opRev, opCallK, ownD, ownO, objs, renum, uniq, getS, putS, vCall0, vFor, vForW, En.wk, vSeqI, vTupI, vRng1, vRng2, vEnum, vZip, chkOf, vLcK, vYes, finD, finO, En.wipe, wipeE, En.trim, trimS, dropNone, clr_n, clr_v, clr_k, clr_o, wth, Vl.ret, takeS, startV,  List.map_cons, List.map_nil, List.length_cons, List.length_nil, List.cons_append, List.nil_append, List.replicate, List.getElem?_cons_succ, List.getElem?_cons_zero, List.getElem?_nil, List.set_cons_succ, List.set_cons_zero, List.set_nil, List.all_nil, List.all_cons, Bool.true_and, Option.map_some, Option.map_none, if_true, if_false, decide_eq_true_eq, Bool.false_eq_true, List.take_succ_cons, List.take_zero, List.take_nil, List.drop_succ_cons, List.drop_zero, List.drop_nil, reduceIte, reduceCtorEq]
      refine k _ _ _ ⟨by simp; omega, by simp; omega, ?_, ?_⟩ pn4
      · refine List.pairwise_map.mpr (List.Pairwise.imp_of_mem (fun {i j} hi hj hne q => hne ?_) List.nodup_range)
        have hi := List.mem_range.mp hi
        have hj := List.mem_range.mp hj
        exact mkAt_inj a0 (by omega) (by omega) (by omega) q
      · intro x hx
        obtain ⟨j, _, rfl⟩ := List.mem_map.mp hx
        exact mkAt_ok (by omega) (by omega)
end Kf
namespace Kf
open PySem L2 Vl PySem.Spec PyProof.Rows
theorem kit_ii : kitB (tyD (.int 0)) "int" = some true := by
  show kitB "int" "int" = some true
  decide +kernel
theorem kit_ib : kitB (tyD (.int 0)) "bool" = some false := by
  show kitB "int" "bool" = some false
  decide +kernel
end Kf
namespace Kf
open PySem L2 Vl PySem.Spec PyProof.Rows
/-- a move along a kind -/
inductive Mv where
  | kd (k : Kd)
  | one
  | two
def Mv.enc : Mv → D
  | .kd k => k.enc
  | .one => .int 1
  | .two => .int 2
abbrev ab : List Str := ["a", "b"]
theorem ab_ok : ∀ m ∈ ab, PyData.strOk m = true := by decide +kernel
def Kd.ok4 (k : Kd) : Prop := k.over ab ∧ k.leaves ≤ 4
theorem Kd.ok4.l {a b : Kd} (h : (Kd.to a b).ok4) : a.ok4 ∧ b.ok4 := ⟨⟨h.1.1, by have := h.2; have := b.leaves_pos; simp only [Kd.leaves] at *; omega⟩, h.1.2, by have := h.2; have := a.leaves_pos; simp only [Kd.leaves] at *; omega⟩
end Kf
namespace Kf
open PySem L2 Vl PySem.Spec PyProof.Rows
abbrev nine : List Str := ["p", "q", "f", "g", "u", "v", "x0", "x7"]
/-- names and kinds as they may be -/
def Pg.fine : Pg → Prop
  | .name x => PyData.strOk x = true
  | .take x k p => PyData.strOk x = true ∧ k.ok4 ∧ p.fine
  | .give p q => p.fine ∧ q.fine
  | .pair p q => p.fine ∧ q.fine
  | .first p => p.fine
  | .second p => p.fine
  | .thing => True
/-- the names drawn are of nine -/
def Pg.fin9 : Pg → Prop
  | .name x => PyData.strOk x = true ∧ x ∈ nine
  | .take x k p => (PyData.strOk x = true ∧ x ∈ nine) ∧ k.ok4 ∧ p.fin9
  | .give p q => p.fin9 ∧ q.fin9
  | .pair p q => p.fin9 ∧ q.fin9
  | .first p => p.fin9
  | .second p => p.fin9
  | .thing => True
theorem Pg.fin9.fine : ∀ {p : Pg}, p.fin9 → p.fine
  | .name _, h => h.1
  | .take _ _ _, h => ⟨h.1.1, h.2.1, h.2.2.fine⟩
  | .give _ _, h => ⟨h.1.fine, h.2.fine⟩
  | .pair _ _, h => ⟨h.1.fine, h.2.fine⟩
  | .first p, h => Pg.fin9.fine (p := p) h
  | .second p, h => Pg.fin9.fine (p := p) h
  | .thing, _ => trivial
end Kf
namespace Kf
open PySem L2 Vl PySem.Spec PyProof.Rows
def row0 : List (Str × Kd) := [("p", .mark "a"), ("q", .mark "b")]
/-- the rows that are drawn -/
inductive Row : List (Str × Kd) → Prop
  | none : Row row0
  | one {k : Kd} : k.ok4 → Row (row0 ++ [(("f" : Str), k)])
  | two {k l : Kd} : k.ok4 → l.ok4 → Row (row0 ++ [(("f" : Str), k)] ++ [(("g" : Str), l)])
theorem Row.len {r : List (Str × Kd)} (h : Row r) : r.length ≤ 4 := by
  cases h <;> simp [row0]
theorem Kd.can4 {k : Kd} (h : k.ok4) : k.enc.canLay0 = true := k.can_enc ab_ok h.1
theorem Kd.dep4 {k : Kd} (h : k.ok4) : k.enc.depth ≤ 4 := by
  have := k.deep_lt
  have := h.2
  rw [k.depth_enc]
  omega
theorem Pg.can_enc : ∀ p : Pg, p.fine → p.enc.canLay0 = true
  | .name x, h => by
    have h' : PyData.strOk x = true := h
    simp only [Pg.enc, can_tup, canAll_cons, canAll_nil, can_str, h']
    decide +kernel
  | .take x k p, ⟨h1, h2, h3⟩ => by
    simp only [Pg.enc, can_tup, canAll_cons, canAll_nil, can_str, h1, k.can4 h2, p.can_enc h3]
    decide +kernel
  | .give p q, ⟨h1, h2⟩ => by
    simp only [Pg.enc, can_tup, canAll_cons, canAll_nil, can_str, p.can_enc h1, q.can_enc h2]
    decide +kernel
  | .pair p q, ⟨h1, h2⟩ => by
    simp only [Pg.enc, can_tup, canAll_cons, canAll_nil, can_str, p.can_enc h1, q.can_enc h2]
    decide +kernel
  | .first p, h => by
    have h' : p.fine := h
    simp only [Pg.enc, can_tup, canAll_cons, canAll_nil, can_str, p.can_enc h']
    decide +kernel
  | .second p, h => by
    have h' : p.fine := h
    simp only [Pg.enc, can_tup, canAll_cons, canAll_nil, can_str, p.can_enc h']
    decide +kernel
  | .thing, _ => by
    simp only [Pg.enc, can_tup, canAll_cons, canAll_nil, can_str]
    decide +kernel
theorem Pg.depth_enc : ∀ p : Pg, p.fine → p.enc.depth ≤ p.deep + 6
  | .name x, h => by
    simp only [Pg.enc, depth_tup, depthAll_cons, depthAll_nil, depth_str, Pg.deep]
    omega
  | .take x k p, ⟨h1, h2, h3⟩ => by
    have := p.depth_enc h3
    have := k.dep4 h2
    simp only [Pg.enc, depth_tup, depthAll_cons, depthAll_nil, depth_str, Pg.deep]
    omega
  | .give p q, ⟨h1, h2⟩ => by
    have := p.depth_enc h1
    have := q.depth_enc h2
    simp only [Pg.enc, depth_tup, depthAll_cons, depthAll_nil, depth_str, Pg.deep]
    omega
  | .pair p q, ⟨h1, h2⟩ => by
    have := p.depth_enc h1
    have := q.depth_enc h2
    simp only [Pg.enc, depth_tup, depthAll_cons, depthAll_nil, depth_str, Pg.deep]
    omega
  | .first p, h => by
    have := p.depth_enc h
    simp only [Pg.enc, depth_tup, depthAll_cons, depthAll_nil, depth_str, Pg.deep]
    omega
  | .second p, h => by
    have := p.depth_enc h
    simp only [Pg.enc, depth_tup, depthAll_cons, depthAll_nil, depth_str, Pg.deep]
    omega
  | .thing, _ => by
    simp only [Pg.enc, depth_tup, depthAll_cons, depthAll_nil, depth_str, Pg.deep]
    omega
/-- what stands in a part's tuple -/
inductive It where
  | s (x : Str)
  | k (k : Kd)
  | p (p : Pg)
def It.enc : It → D
  | .s a => .str a
  | .k a => a.enc
  | .p a => a.enc
end Kf
namespace Kf
open PySem L2 Vl PySem.Spec PyProof.Rows
theorem retA_val {d : D} {sl : List (Option Sl)} {cs : List Ob} {Kp : Sl → List Ob → Prop} (k : Kp (.val d) cs) : retA (.val d) ⟨sl, cs.map some⟩ Kp := by
  unfold retA
  rw [allS_map]
  exact k
end Kf
namespace Kf
open PySem L2 Vl PySem.Spec PyProof.Rows
/-- the store of kind_of and tidied: a dict of lists at n0, what is done at iK, what is to be done at iT -/
structure DS {α : Type} (F : α → D) (z : Option Ob) (st : List (Option Ob)) (n0 iK iT : Nat) (kvs : List (Ky × Nat)) (kn : Str → List α) (ks td : List D) : Prop where
  all : ∃ cs : List Ob, st = cs.map some
  d : st[n0]? = some (some (.mo kvs))
  k : st[iK]? = some (some (.l ks))
  t : st[iT]? = some (some (.l td))
  ne : iK ≠ iT
  at_ : ∀ x i, findK kvs (.inr x) = some i → st[i]? = some (some (.l ((kn x).map F))) ∧ i ≠ iK ∧ i ≠ iT
  no : ∀ x, findK kvs (.inr x) = none → kn x = []
  inj : ∀ x y i, findK kvs (.inr x) = some i → findK kvs (.inr y) = some i → x = y
  fr : ∀ ob, z = some ob → st[0]? = some (some ob) ∧ n0 ≠ 0 ∧ iK ≠ 0 ∧ iT ≠ 0 ∧ ∀ x i, findK kvs (.inr x) = some i → i ≠ 0
def putF {α : Type} (kn : Str → List α) (x : Str) (l : List α) : Str → List α := fun y => if y = x then l else kn y
section
variable {α : Type} {F : α → D} {z : Option Ob} {st : List (Option Ob)} {n0 iK iT : Nat} {kvs : List (Ky × Nat)} {kn : Str → List α} {ks td : List D}
theorem DS.mo (h : DS F z st n0 iK iT kvs kn ks td) : st.any isMo = true := by
  rw [List.any_eq_true]
  exact ⟨_, List.mem_of_getElem? h.d, rfl⟩
theorem DS.ret (h : DS F z st n0 iK iT kvs kn ks td) {dd : D} {sl : List (Option Sl)} {Kp : Sl → List Ob → Prop} (k : ∀ cs', DS F z (cs'.map some) n0 iK iT kvs kn ks td → Kp (.val dd) cs') : retA (.val dd) ⟨sl, st⟩ Kp := by
  obtain ⟨cs', rfl⟩ := h.all
  exact retA_val (k cs' h)
end
end Kf
namespace Kf
open PySem L2 Vl PySem.Spec PyProof.Rows
/-- the kind by the lists that stand by the names -/
inductive Kn : (Str → List Kd) → Pg → Kd → Prop
  | name {kn : Str → List Kd} {x : Str} {k : Kd} : (kn x).getLast? = some k → Kn kn (.name x) k
  | take {kn : Str → List Kd} {x : Str} {κ l : Kd} {p : Pg} : Kn (putF kn x (kn x ++ [κ])) p l → Kn kn (.take x κ p) (.to κ l)
  | give {kn : Str → List Kd} {a r : Kd} {p q : Pg} : Kn kn p (.to a r) → Kn kn q a → Vl.shp (Kd.to a r).enc = true → Vl.shp a.enc = true → Kn kn (.give p q) r
  | pair {kn : Str → List Kd} {a b : Kd} {p q : Pg} : Kn kn p a → Kn kn q b → Kn kn (.pair p q) (.both a b)
  | first {kn : Str → List Kd} {a b : Kd} {p : Pg} : Kn kn p (.both a b) → Kn kn (.first p) a
  | second {kn : Str → List Kd} {a b : Kd} {p : Pg} : Kn kn p (.both a b) → Kn kn (.second p) b
  | thing {kn : Str → List Kd} : Kn kn .thing .one
end Kf
namespace Kf
open PySem L2 Vl PySem.Spec PyProof.Rows
/-- the n-th taken name -/
def xN (n : Nat) : Str := Str.ofString ("x" ++ toString ((n : Nat) : Int))
end Kf
namespace Kf
open PySem L2 Vl PySem.Spec PyProof.Rows
/-- programs whose taken names are told by how many takes stand between -/
inductive Tm where
  | ix (i : Nat)
  | nm (x : Str)
  | lam (k : Kd) (b : Tm)
  | app (a b : Tm)
  | pr (a b : Tm)
  | fst (a : Tm)
  | snd (a : Tm)
  | unit
/-- so many takes round it -/
def Tm.dress (n : Nat) : Tm → Pg
  | .ix i => .name (xN (n - 1 - i))
  | .nm x => .name x
  | .lam k b => .take (xN n) k (b.dress (n + 1))
  | .app a b => .give (a.dress n) (b.dress n)
  | .pr a b => .pair (a.dress n) (b.dress n)
  | .fst a => .first (a.dress n)
  | .snd a => .second (a.dress n)
  | .unit => .thing
def Pg.isTake : Pg → Bool
  | .take _ _ _ => true
  | _ => false
def Pg.isPair : Pg → Bool
  | .pair _ _ => true
  | _ => false
/-- whether a step can be done there -/
def Pg.can : Pg → Bool
  | .give a _ => a.isTake
  | .first a => a.isPair
  | .second a => a.isPair
  | _ => false
def Pg.steps : Pg → Int
  | .name _ => 0
  | .take _ _ p => p.steps
  | .give p q => p.steps + q.steps + b2i (Pg.can (.give p q))
  | .pair p q => p.steps + q.steps + b2i (Pg.can (.pair p q))
  | .first p => p.steps + b2i (Pg.can (.first p))
  | .second p => p.steps + b2i (Pg.can (.second p))
  | .thing => 0
def recG (p i : D) (s pa d t : Int) : D := .dict [(.str "Gauge", .none), (.str "program", p), (.str "inner", i), (.str "steps", .int s), (.str "parts", .int pa), (.str "deep", .int d), (.str "takes", .int t)]
/-- what a gauge tells -/
structure Gv where
  p : Pg
  inner : List D
  takes : Nat
def Gv.enc (g : Gv) : D := recG g.p.enc (.tuple g.inner) g.p.steps (g.p.size : Nat) (g.p.deep : Nat) (g.takes : Nat)
end Kf
namespace Kf
open PySem L2 Vl PySem.Spec PyProof.Rows
inductive Bt where
  | g (v : Gv)
  | lam (x : Str) (κ : Kd) (p : Pg) (n : Nat) (b : Bt)
  | two (w : Bool) (p q : Pg) (m : Int) (a b : Bt)
  | half (w : Bool) (p : Pg) (m : Int) (a : Bt)
def Bt.ok : Bt → Prop
  | .g _ => True
  | .lam _ _ _ n b => n ≤ 60000000 ∧ b.ok
  | .two _ _ _ _ a b => a.ok ∧ b.ok
  | .half _ _ _ a => a.ok
end Kf
namespace Kf
open PySem L2 Vl PySem.Spec PyProof.Rows
/-- what is still to be done: a part, or the name of a take that is left -/
inductive Td where
  | p (q : Pg)
  | x (y : Str)
def Td.enc : Td → D
  | .p q => q.enc
  | .x y => .str y
end Kf
namespace Kf
open PySem L2 Vl PySem.Spec PyProof.Rows
def Tm.moved (c k : Nat) : Tm → Tm
  | .ix i => .ix (if c ≤ i then i + k else i)
  | .nm x => .nm x
  | .lam κ b => .lam κ (b.moved (c + 1) k)
  | .app a b => .app (a.moved c k) (b.moved c k)
  | .pr a b => .pr (a.moved c k) (b.moved c k)
  | .fst a => .fst (a.moved c k)
  | .snd a => .snd (a.moved c k)
  | .unit => .unit
def Tm.put (c : Nat) : Tm → Tm → Tm
  | .ix i, g => if i = c then g.moved 0 c else .ix (if c < i then i - 1 else i)
  | .nm x, _ => .nm x
  | .lam κ b, g => .lam κ (b.put (c + 1) g)
  | .app a b, g => .app (a.put c g) (b.put c g)
  | .pr a b, g => .pr (a.put c g) (b.put c g)
  | .fst a, g => .fst (a.put c g)
  | .snd a, g => .snd (a.put c g)
  | .unit, _ => .unit
end Kf
namespace Kf
open PySem L2 Vl PySem.Spec PyProof.Rows
def Tm.sz : Tm → Nat
  | .ix _ => 1
  | .nm _ => 1
  | .lam _ b => b.sz + 1
  | .app a b => a.sz + b.sz + 1
  | .pr a b => a.sz + b.sz + 1
  | .fst a => a.sz + 1
  | .snd a => a.sz + 1
  | .unit => 1
end Kf
namespace Kf
open PySem L2 Vl PySem.Spec PyProof.Rows
/-- how many takes stand between a name and its own; the innermost first -/
def idxR (x : Str) : List Str → Option Nat
  | [] => none
  | y :: r => if y = x then some 0 else (idxR x r).map (· + 1)
def Pg.bare (rt : List Str) : Pg → Tm
  | .name x => (match idxR x rt with
    | some i => .ix i
    | none => .nm x)
  | .take x κ p => .lam κ (p.bare (x :: rt))
  | .give p q => .app (p.bare rt) (q.bare rt)
  | .pair p q => .pr (p.bare rt) (q.bare rt)
  | .first p => .fst (p.bare rt)
  | .second p => .snd (p.bare rt)
  | .thing => .unit
end Kf
namespace Kf
open PySem L2 Vl PySem.Spec PyProof.Rows
def Tm.enc : Tm → D
  | .ix i => .tuple [.str "at", .int ((i : Nat) : Int)]
  | .nm x => .tuple [.str "name", .str x]
  | .lam κ b => .tuple [.str "take", .str "", κ.enc, b.enc]
  | .app a b => .tuple [.str "give", a.enc, b.enc]
  | .pr a b => .tuple [.str "pair", a.enc, b.enc]
  | .fst a => .tuple [.str "first", a.enc]
  | .snd a => .tuple [.str "second", a.enc]
  | .unit => .tuple [.str "thing"]
def Tm.deep : Tm → Nat
  | .ix _ => 0
  | .nm _ => 0
  | .lam _ b => b.deep + 1
  | .app a b => max a.deep b.deep + 1
  | .pr a b => max a.deep b.deep + 1
  | .fst a => a.deep + 1
  | .snd a => a.deep + 1
  | .unit => 0
end Kf
namespace Kf
open PySem L2 Vl PySem.Spec PyProof.Rows
def row14 : List (Str × Kd) := [("pa", .mark "a"), ("fa", .to (.mark "a") (.mark "a")), ("pb", .mark "b"), ("fb", .to (.mark "b") (.mark "b"))]
def Kd.ok3 (k : Kd) : Prop := k.over ab ∧ k.leaves ≤ 3
theorem Kd.ok3.four {k : Kd} (h : k.ok3) : k.ok4 := ⟨h.1, by have := h.2; omega⟩
structure Known3 (r : List (Str × Kd)) : Prop where
  each : ∀ x ∈ r, PyData.strOk x.1 = true ∧ x.2.ok3
  pa : look r "pa" = some (.mark "a")
  pb : look r "pb" = some (.mark "b")
  fa : look r "fa" = some (.to (.mark "a") (.mark "a"))
  fb : look r "fb" = some (.to (.mark "b") (.mark "b"))
theorem known14 : Known3 row14 := by
  refine ⟨?_, by decide +kernel, by decide +kernel, by decide +kernel, by decide +kernel⟩
  unfold row14
  simp only [List.mem_cons, List.not_mem_nil, or_false, forall_eq_or_imp, forall_eq, Kd.ok3, Kd.over, Kd.leaves]
  decide +kernel
end Kf
namespace Kf
open PySem L2 Vl PySem.Spec PyProof.Rows
def Tm.fine : Tm → Prop
  | .ix _ => True
  | .nm x => PyData.strOk x = true
  | .lam κ b => κ.ok4 ∧ b.fine
  | .app a b => a.fine ∧ b.fine
  | .pr a b => a.fine ∧ b.fine
  | .fst a => a.fine
  | .snd a => a.fine
  | .unit => True
/-- what is drawn -/
structure Dr (p : Pg) : Prop where
  fine : p.fine
  size : p.size ≤ 3500
  deep : p.deep ≤ 24
theorem Dr.of {p : Pg} (h1 : p.fine) (h2 : p.size ≤ 3400) (h3 : p.deep ≤ 23) : Dr p := ⟨h1, by omega, by omega⟩
end Kf
namespace Kf
open PySem L2 Vl PySem.Spec PyProof.Rows
theorem mv_merge (t : Tm) : ∀ {c c' j k : Nat}, c ≤ c' → c' ≤ c + j → (t.moved c j).moved c' k = t.moved c (j + k) := by
  induction t with
  | ix i =>
    intro c c' j k h1 h2
    simp only [Tm.moved, Tm.ix.injEq]
    split <;> split <;> omega
  | nm x => intro c c' j k h1 h2; rfl
  | unit => intro c c' j k h1 h2; rfl
  | lam κ b ih => intro c c' j k h1 h2; simp only [Tm.moved, ih (Nat.succ_le_succ h1) (show c' + 1 ≤ c + 1 + j by omega)]
  | app a b iha ihb => intro c c' j k h1 h2; simp only [Tm.moved, iha h1 h2, ihb h1 h2]
  | pr a b iha ihb => intro c c' j k h1 h2; simp only [Tm.moved, iha h1 h2, ihb h1 h2]
  | fst a ih => intro c c' j k h1 h2; simp only [Tm.moved, ih h1 h2]
  | snd a ih => intro c c' j k h1 h2; simp only [Tm.moved, ih h1 h2]
theorem mv_comm (t : Tm) : ∀ {c c' j k : Nat}, c' ≤ c → (t.moved c j).moved c' k = (t.moved c' k).moved (c + k) j := by
  induction t with
  | ix i =>
    intro c c' j k h
    by_cases h1 : c ≤ i <;> by_cases h2 : c' ≤ i <;> first | omega | (simp (disch := omega) only [Tm.moved, if_pos, if_neg]; try (first | rfl | (simp only [Tm.ix.injEq]; omega)))
  | nm x => intro c c' j k h; rfl
  | unit => intro c c' j k h; rfl
  | lam κ b ih =>
    intro c c' j k h
    have := ih (c := c + 1) (c' := c' + 1) (j := j) (k := k) (by omega)
    rw [show c + 1 + k = c + k + 1 by omega] at this
    simp only [Tm.moved, this]
  | app a b iha ihb => intro c c' j k h; simp only [Tm.moved, iha h, ihb h]
  | pr a b iha ihb => intro c c' j k h; simp only [Tm.moved, iha h, ihb h]
  | fst a ih => intro c c' j k h; simp only [Tm.moved, ih h]
  | snd a ih => intro c c' j k h; simp only [Tm.moved, ih h]
theorem put_mvA (t g : Tm) : ∀ {c c' k : Nat}, c' ≤ c → (t.put c g).moved c' k = (t.moved c' k).put (c + k) g := by
  induction t with
  | ix i =>
    intro c c' k h
    have mm := mv_merge g (c := 0) (c' := c') (j := c) (k := k) (Nat.zero_le _) (by omega)
    rcases Nat.lt_trichotomy i c with h2 | h2 | h2 <;> by_cases h1 : c' ≤ i <;> first | omega | (simp (disch := omega) only [Tm.put, Tm.moved, if_pos, if_neg, mm]; try (first | rfl | (simp only [Tm.ix.injEq]; omega)))
  | nm x => intro c c' k h; rfl
  | unit => intro c c' k h; rfl
  | lam κ b ih =>
    intro c c' k h
    have := ih (c := c + 1) (c' := c' + 1) (k := k) (by omega)
    rw [show c + 1 + k = c + k + 1 by omega] at this
    simp only [Tm.put, Tm.moved, this]
  | app a b iha ihb => intro c c' k h; simp only [Tm.put, Tm.moved, iha h, ihb h]
  | pr a b iha ihb => intro c c' k h; simp only [Tm.put, Tm.moved, iha h, ihb h]
  | fst a ih => intro c c' k h; simp only [Tm.put, Tm.moved, ih h]
  | snd a ih => intro c c' k h; simp only [Tm.put, Tm.moved, ih h]
theorem put_mvB (t g : Tm) : ∀ {d c k : Nat}, (t.put d g).moved (d + c) k = (t.moved (d + c + 1) k).put d (g.moved c k) := by
  induction t with
  | ix i =>
    intro d c k
    have mm := mv_comm g (c := c) (c' := 0) (j := k) (k := d) (Nat.zero_le c)
    rw [Nat.add_comm c d] at mm
    rcases Nat.lt_trichotomy i d with h2 | h2 | h2 <;> by_cases h1 : d + c + 1 ≤ i <;> first | omega | (simp (disch := omega) only [Tm.put, Tm.moved, if_pos, if_neg, mm]; try (first | rfl | (simp only [Tm.ix.injEq]; omega)))
  | nm x => intro d c k; rfl
  | unit => intro d c k; rfl
  | lam κ b ih =>
    intro d c k
    have := ih (d := d + 1) (c := c) (k := k)
    rw [show d + 1 + c = d + c + 1 by omega] at this
    simp only [Tm.put, Tm.moved, this]
  | app a b iha ihb => intro d c k; simp only [Tm.put, Tm.moved, iha, ihb]
  | pr a b iha ihb => intro d c k; simp only [Tm.put, Tm.moved, iha, ihb]
  | fst a ih => intro d c k; simp only [Tm.put, Tm.moved, ih]
  | snd a ih => intro d c k; simp only [Tm.put, Tm.moved, ih]
theorem mv_put (t g : Tm) : ∀ {c j k : Nat}, j ≤ k → (t.moved c (k + 1)).put (c + j) g = t.moved c k := by
  induction t with
  | ix i =>
    intro c j k h
    by_cases h1 : c ≤ i <;> (simp (disch := omega) only [Tm.put, Tm.moved, if_pos, if_neg]; try (first | rfl | (simp only [Tm.ix.injEq]; omega)))
  | nm x => intro c j k h; rfl
  | unit => intro c j k h; rfl
  | lam κ b ih =>
    intro c j k h
    have := ih (c := c + 1) h
    rw [show c + 1 + j = c + j + 1 by omega] at this
    simp only [Tm.put, Tm.moved, this]
  | app a b iha ihb => intro c j k h; simp only [Tm.put, Tm.moved, iha h, ihb h]
  | pr a b iha ihb => intro c j k h; simp only [Tm.put, Tm.moved, iha h, ihb h]
  | fst a ih => intro c j k h; simp only [Tm.put, Tm.moved, ih h]
  | snd a ih => intro c j k h; simp only [Tm.put, Tm.moved, ih h]
theorem put_put (t a g : Tm) : ∀ {d c : Nat}, (t.put d a).put (d + c) g = (t.put (d + c + 1) g).put d (a.put c g) := by
  induction t with
  | ix i =>
    intro d c
    have m1 := put_mvA a g (c := c) (c' := 0) (k := d) (Nat.zero_le _)
    rw [Nat.add_comm c d] at m1
    have m2 := mv_put g (a.put c g) (c := 0) (j := d) (k := d + c) (by omega)
    rw [Nat.zero_add] at m2
    rcases Nat.lt_trichotomy i d with h2 | h2 | h2 <;> rcases Nat.lt_trichotomy i (d + c + 1) with h1 | h1 | h1 <;> first | omega | skip
    · simp (disch := omega) only [Tm.put, if_pos, if_neg]
    · subst h2; simp (disch := omega) only [Tm.put, if_pos, if_neg, if_true, m1]
    · simp (disch := omega) only [Tm.put, if_pos, if_neg]
    · subst h1; simp (disch := omega) only [Tm.put, if_pos, if_neg, if_true, Nat.add_sub_cancel, m2]
    · simp (disch := omega) only [Tm.put, if_pos, if_neg]
  | nm x => intro d c; rfl
  | unit => intro d c; rfl
  | lam κ b ih =>
    intro d c
    have := ih (d := d + 1) (c := c)
    rw [show d + 1 + c = d + c + 1 by omega] at this
    simp only [Tm.put, this]
  | app a' b iha ihb => intro d c; simp only [Tm.put, iha, ihb]
  | pr a' b iha ihb => intro d c; simp only [Tm.put, iha, ihb]
  | fst a' ih => intro d c; simp only [Tm.put, ih]
  | snd a' ih => intro d c; simp only [Tm.put, ih]
/-- steps at many places at once -/
inductive Par : Tm → Tm → Prop
  | ix {i : Nat} : Par (.ix i) (.ix i)
  | nm {x : Str} : Par (.nm x) (.nm x)
  | unit : Par .unit .unit
  | lam {κ : Kd} {b b' : Tm} : Par b b' → Par (.lam κ b) (.lam κ b')
  | app {a a' b b' : Tm} : Par a a' → Par b b' → Par (.app a b) (.app a' b')
  | pr {a a' b b' : Tm} : Par a a' → Par b b' → Par (.pr a b) (.pr a' b')
  | fst {a a' : Tm} : Par a a' → Par (.fst a) (.fst a')
  | snd {a a' : Tm} : Par a a' → Par (.snd a) (.snd a')
  | beta {κ : Kd} {b b' g g' : Tm} : Par b b' → Par g g' → Par (.app (.lam κ b) g) (b'.put 0 g')
  | p1 {a a' b : Tm} : Par a a' → Par (.fst (.pr a b)) a'
  | p2 {a b b' : Tm} : Par b b' → Par (.snd (.pr a b)) b'
theorem Par.refl : ∀ t : Tm, Par t t
  | .ix _ => .ix
  | .nm _ => .nm
  | .unit => .unit
  | .lam _ b => .lam (Par.refl b)
  | .app a b => .app (Par.refl a) (Par.refl b)
  | .pr a b => .pr (Par.refl a) (Par.refl b)
  | .fst a => .fst (Par.refl a)
  | .snd a => .snd (Par.refl a)
theorem Par.mv {t t' : Tm} (h : Par t t') : ∀ c k, Par (t.moved c k) (t'.moved c k) := by
  induction h with
  | ix => intro c k; exact Par.refl _
  | nm => intro c k; exact .nm
  | unit => intro c k; exact .unit
  | lam _ ih => intro c k; exact .lam (ih _ _)
  | app _ _ i1 i2 => intro c k; exact .app (i1 _ _) (i2 _ _)
  | pr _ _ i1 i2 => intro c k; exact .pr (i1 _ _) (i2 _ _)
  | fst _ ih => intro c k; exact .fst (ih _ _)
  | snd _ ih => intro c k; exact .snd (ih _ _)
  | beta _ _ i1 i2 =>
    intro c k
    rename_i b b' a a' _ _
    have := put_mvB b' a' (d := 0) (c := c) (k := k)
    rw [Nat.zero_add] at this
    rw [this]
    exact .beta (i1 _ _) (i2 _ _)
  | p1 _ ih => intro c k; exact .p1 (ih _ _)
  | p2 _ ih => intro c k; exact .p2 (ih _ _)
theorem Par.put {t t' g g' : Tm} (h : Par t t') (hg : Par g g') : ∀ c, Par (t.put c g) (t'.put c g') := by
  induction h with
  | ix =>
    intro c
    simp only [Tm.put]
    split
    · exact hg.mv _ _
    · exact Par.refl _
  | nm => intro c; exact .nm
  | unit => intro c; exact .unit
  | lam _ ih => intro c; exact .lam (ih _)
  | app _ _ i1 i2 => intro c; exact .app (i1 _) (i2 _)
  | pr _ _ i1 i2 => intro c; exact .pr (i1 _) (i2 _)
  | fst _ ih => intro c; exact .fst (ih _)
  | snd _ ih => intro c; exact .snd (ih _)
  | beta _ _ i1 i2 =>
    intro c
    rename_i b b' a a' _ _
    have := put_put b' a' g' (d := 0) (c := c)
    rw [Nat.zero_add] at this
    rw [this]
    exact .beta (i1 _) (i2 _)
  | p1 _ ih => intro c; exact .p1 (ih _)
  | p2 _ ih => intro c; exact .p2 (ih _)
/-- all steps done that can be done at once -/
def Tm.dev : Tm → Tm
  | .ix i => .ix i
  | .nm x => .nm x
  | .unit => .unit
  | .lam κ b => .lam κ b.dev
  | .app a b => (match a with
    | .lam _ c => c.dev.put 0 b.dev
    | a => .app a.dev b.dev)
  | .pr a b => .pr a.dev b.dev
  | .fst a => (match a with
    | .pr x _ => x.dev
    | a => .fst a.dev)
  | .snd a => (match a with
    | .pr _ y => y.dev
    | a => .snd a.dev)
theorem Par.dev {t t' : Tm} (h : Par t t') : Par t' t.dev := by
  induction h with
  | ix => exact .ix
  | nm => exact .nm
  | unit => exact .unit
  | lam _ ih => exact .lam ih
  | pr _ _ i1 i2 => exact .pr i1 i2
  | beta _ _ i1 i2 => exact i1.put i2 0
  | p1 _ ih => exact ih
  | p2 _ ih => exact ih
  | @app a a' b b' h1 h2 i1 i2 =>
    cases h1 with
    | lam h =>
      cases i1 with
      | lam i => exact .beta i i2
    | _ => exact .app i1 i2
  | @fst a a' h ih =>
    cases h with
    | pr x y =>
      cases ih with
      | pr i j => exact .p1 i
    | _ => exact .fst ih
  | @snd a a' h ih =>
    cases h with
    | pr x y =>
      cases ih with
      | pr i j => exact .p2 j
    | _ => exact .snd ih
theorem Par.mono {t t' : Tm} (h : Par t t') : Par t.dev t'.dev := h.dev.dev
def devN : Nat → Tm → Tm
  | 0, t => t
  | n + 1, t => devN n t.dev
theorem Par.monoN {t t' : Tm} (h : Par t t') : ∀ n, Par (devN n t) (devN n t')
  | 0 => h
  | n + 1 => h.mono.monoN n
/-- so many at once, one behind the other -/
inductive Pars : Nat → Tm → Tm → Prop
  | nil {t : Tm} : Pars 0 t t
  | cons {n : Nat} {t s u : Tm} : Par t s → Pars n s u → Pars (n + 1) t u
theorem Pars.to_dev {n : Nat} {t u : Tm} (h : Pars n t u) : ∃ m, Pars m u (devN n t) := by
  induction h with
  | nil => exact ⟨0, .nil⟩
  | cons h _ ih =>
    obtain ⟨m, hm⟩ := ih
    rename_i n t s u _
    have h1 : Par (devN n s) (devN n t.dev) := h.dev.monoN n
    have app : ∀ {m : Nat} {a b c : Tm}, Pars m a b → Par b c → Pars (m + 1) a c := by
      intro m a b c h
      induction h with
      | nil => exact fun h => .cons h .nil
      | cons h _ ih => exact fun g => .cons h (ih g)
    exact ⟨m + 1, app hm h1⟩
/-- no step can be done in it -/
def Tm.nf : Tm → Prop
  | .ix _ => True
  | .nm _ => True
  | .unit => True
  | .lam _ b => b.nf
  | .app a b => (∀ κ c, a ≠ .lam κ c) ∧ a.nf ∧ b.nf
  | .pr a b => a.nf ∧ b.nf
  | .fst a => (∀ x y, a ≠ .pr x y) ∧ a.nf
  | .snd a => (∀ x y, a ≠ .pr x y) ∧ a.nf
theorem Par.nf {t u : Tm} (h : Par t u) : t.nf → u = t := by
  induction h with
  | ix => exact fun _ => rfl
  | nm => exact fun _ => rfl
  | unit => exact fun _ => rfl
  | lam _ ih => intro n; rw [ih n]
  | app _ _ i1 i2 => intro n; rw [i1 n.2.1, i2 n.2.2]
  | pr _ _ i1 i2 => intro n; rw [i1 n.1, i2 n.2]
  | fst _ ih => intro n; rw [ih n.2]
  | snd _ ih => intro n; rw [ih n.2]
  | beta _ _ _ _ => exact fun n => absurd rfl (n.1 _ _)
  | p1 _ _ => exact fun n => absurd rfl (n.1 _ _)
  | p2 _ _ => exact fun n => absurd rfl (n.1 _ _)
theorem Pars.nf {n : Nat} {t u : Tm} (h : Pars n t u) : t.nf → u = t := by
  induction h with
  | nil => exact fun _ => rfl
  | cons h _ ih =>
    intro n
    have e := h.nf n
    subst e
    exact ih n
theorem devN_nf {t : Tm} (h : t.nf) : ∀ n, devN n t = t
  | 0 => rfl
  | n + 1 => by
    have e : t.dev = t := (Par.refl t).dev.nf h
    show devN n t.dev = t
    rw [e]
    exact devN_nf h n
theorem devN_add : ∀ (n m : Nat) (t : Tm), devN (n + m) t = devN m (devN n t)
  | 0, m, t => by rw [Nat.zero_add]; rfl
  | n + 1, m, t => by rw [Nat.add_right_comm]; exact devN_add n m t.dev
/-- one end -/
theorem one_end {n m : Nat} {t u v : Tm} (h1 : Pars n t u) (h2 : Pars m t v) (n1 : u.nf) (n2 : v.nf) : u = v := by
  obtain ⟨_, d1⟩ := h1.to_dev
  obtain ⟨_, d2⟩ := h2.to_dev
  have e1 := d1.nf n1
  have e2 := d2.nf n2
  rcases Nat.le_total n m with h | h
  · obtain ⟨k, rfl⟩ := Nat.exists_eq_add_of_le h
    rw [devN_add, e1, devN_nf n1] at e2
    exact e2
  · obtain ⟨k, rfl⟩ := Nat.exists_eq_add_of_le h
    rw [devN_add, e2, devN_nf n2] at e1
    exact e1.symm
end Kf
namespace Kf
open PySem L2 Vl PySem.Spec PyProof.Rows
/-- what is told of t's end -/
def EndOf (t : Tm) (x : Option Pg) : Prop := x = none ∨ ∃ n u, Pars n t u ∧ u.nf ∧ x = some (u.dress 0)
theorem EndOf.same {t : Tm} {x y : Pg} (h : EndOf t (some x)) (g : EndOf t (some y)) : x = y := by
  rcases h with h | ⟨n, u, h1, h2, h3⟩
  · cases h
  · rcases g with g | ⟨m, v, g1, g2, g3⟩
    · cases g
    · cases h3
      cases g3
      rw [one_end h1 g1 h2 g2]
end Kf
namespace Kf
open PySem L2 Vl PySem.Spec PyProof.Rows
theorem four (b g : Nat) : 4 * (b * g) ≤ (b + g) * (b + g) := by
  rcases Nat.le_total b g with h | h
  · obtain ⟨d, rfl⟩ := Nat.exists_eq_add_of_le h
    have := Nat.mul_comm d b
    simp only [Nat.mul_add, Nat.add_mul]
    omega
  · obtain ⟨d, rfl⟩ := Nat.exists_eq_add_of_le h
    have := Nat.mul_comm d g
    simp only [Nat.mul_add, Nat.add_mul]
    omega
end Kf
namespace Kf
open PySem L2 Vl PySem.Spec PyProof.Rows
/-- a comprehension with a test -/
theorem cl_filter {α : Type} (enc : α → D) (pr : α → Bool) {g : VTG} {tt : VTT} {te : VTE} {chk : Option (En → Prop)} {vs : List Nat} {n : Nat} {e : En} {Kq : List D → En → Prop} (xs : List α) (hl : xs.length ≤ 1000000) (hc : okc chk e)
    (hs : ∀ x ∈ xs, ∀ (Ky : D → En → Prop) (Kn : En → Prop), (pr x = true → ∀ e', (e'.wipe vs).trim n = e → Ky (enc x) e') → (pr x = false → ∀ e', (e'.wipe vs).trim n = e → Kn e') → g (.val (enc x)) e fun e1 => tt e1 fun b e2 => if b = true then te e2 fun s e3 => asD s e3 Ky else Kn e2)
    (h : Kq ((xs.filter pr).map enc) e) : cl g tt te chk vs n (xs.map enc) [] e Kq := by
  refine cl_inv (fun i acc e' => acc = ((xs.take i).filter pr).map enc ∧ e' = e) (fun i acc e' _ h => h.2 ▸ hc) ?_ ?_ ⟨by simp, rfl⟩
  · rintro i d acc e' Kt hd ⟨rfl, rfl⟩ hk
    rw [List.getElem?_map] at hd
    obtain ⟨x, hx, rfl⟩ := Option.map_eq_some_iff.mp hd
    have hlt := (List.getElem?_eq_some_iff.mp hx).1
    have tk : (xs.take (i + 1)).filter pr = (xs.take i).filter pr ++ (if pr x = true then [x] else []) := by
      rw [List.take_add_one, hx, List.filter_append]
      show _ ++ [x].filter pr = _
      rw [List.filter_cons]
      rfl
    have ll : (((xs.take i).filter pr).map enc).length < sizeLine := by
      have h1 := List.length_filter_le pr (xs.take i)
      rw [List.length_take] at h1
      rw [List.length_map]
      exact bigl (by omega)
    refine hs x (List.mem_of_getElem? hx) (fun y e4 => (((xs.take i).filter pr).map enc).length < sizeLine ∧ Kt (((xs.take i).filter pr).map enc ++ [y]) ((e4.wipe vs).trim n)) (fun e2 => Kt (((xs.take i).filter pr).map enc) ((e2.wipe vs).trim n)) (fun hp e4 h4 => ⟨ll, hk _ _ ⟨?_, h4⟩⟩) (fun hp e2 h2 => hk _ _ ⟨?_, h2⟩)
    · rw [tk, if_pos hp, List.map_append]; rfl
    · rw [tk, hp]; simp
  · rintro acc e' ⟨rfl, rfl⟩
    rw [List.length_map, List.take_length]
    exact h
end Kf
namespace Kf
open PySem L2 Vl PySem.Spec PyProof.Rows
def tk : Pg → Nat
  | .take _ _ _ => 1
  | _ => 0
end Kf
namespace Kf
open PySem L2 Vl PySem.Spec PyProof.Rows
theorem HasK.kd2 {r : List (Str × Kd)} {p : Pg} {k : Kd} (h : HasK r p k) : (∀ x ∈ r, x.2.ok4) → p.fine → k.over ab ∧ k.deep ≤ 3 + p.deep := by
  induction h with
  | name h =>
    rename_i r x k
    intro hr _
    obtain ⟨h1, h2⟩ := hr _ (look_mem h)
    exact ⟨h1, by have := k.deep_lt; simp only [Pg.deep]; simp only at h2; omega⟩
  | take _ ih =>
    intro hr hf
    rename_i r x κ l p _
    obtain ⟨a, b⟩ := ih (fun y hy => by
      rcases List.mem_append.mp hy with hy | hy
      · exact hr y hy
      · rw [List.mem_singleton.mp hy]
        exact hf.2.1) hf.2.2
    have := κ.deep_lt
    have := hf.2.1.2
    exact ⟨⟨hf.2.1.1, a⟩, by simp only [Kd.deep, Pg.deep]; omega⟩
  | give _ _ i1 i2 =>
    intro hr hf
    obtain ⟨a, b⟩ := i1 hr hf.1
    simp only [Kd.deep] at b
    exact ⟨a.2, by simp only [Pg.deep]; omega⟩
  | pair _ _ i1 i2 =>
    intro hr hf
    obtain ⟨a, b⟩ := i1 hr hf.1
    obtain ⟨a', b'⟩ := i2 hr hf.2
    exact ⟨⟨a, a'⟩, by simp only [Kd.deep, Pg.deep]; omega⟩
  | first _ i =>
    intro hr hf
    obtain ⟨a, b⟩ := i hr hf
    simp only [Kd.deep] at b
    exact ⟨a.1, by simp only [Pg.deep]; omega⟩
  | second _ i =>
    intro hr hf
    obtain ⟨a, b⟩ := i hr hf
    simp only [Kd.deep] at b
    exact ⟨a.2, by simp only [Pg.deep]; omega⟩
  | thing =>
    intro _ _
    exact ⟨trivial, Nat.zero_le _⟩
theorem Kd.shpE {k : Kd} (h : k.over ab) (hd : k.deep ≤ 150) : Vl.shp k.enc = true := by
  unfold Vl.shp
  rw [k.can_enc ab_ok h, k.depth_enc, decide_eq_true (by omega)]
  rfl
theorem HasK.kn2 {r : List (Str × Kd)} {p : Pg} {k : Kd} (h : HasK r p k) : (∀ x ∈ r, x.2.ok4) → p.fine → p.deep ≤ 140 → ∀ kn : Str → List Kd, (∀ x, (kn x).getLast? = look r x) → Kn kn p k := by
  induction h with
  | name h => intro _ _ _ kn e; exact .name (by rw [e]; exact h)
  | take _ ih =>
    intro hr hf hd kn e
    rename_i r x κ l p _
    simp only [Pg.deep] at hd
    refine .take (ih (fun y hy => by
      rcases List.mem_append.mp hy with hy | hy
      · exact hr y hy
      · rw [List.mem_singleton.mp hy]
        exact hf.2.1) hf.2.2 (by omega) _ fun y => ?_)
    rw [look_app]
    unfold putF
    by_cases c : y = x
    · subst c
      rw [if_pos rfl, if_pos rfl]
      simp
    · rw [if_neg c, if_neg fun z => c z.symm]
      exact e y
  | give h1 h2 i1 i2 =>
    intro hr hf hd kn e
    simp only [Pg.deep] at hd
    obtain ⟨a, b⟩ := h1.kd2 hr hf.1
    obtain ⟨a', b'⟩ := h2.kd2 hr hf.2
    exact .give (i1 hr hf.1 (by omega) kn e) (i2 hr hf.2 (by omega) kn e) (Kd.shpE a (by omega)) (Kd.shpE a' (by omega))
  | pair _ _ i1 i2 =>
    intro hr hf hd kn e
    simp only [Pg.deep] at hd
    exact .pair (i1 hr hf.1 (by omega) kn e) (i2 hr hf.2 (by omega) kn e)
  | first _ i =>
    intro hr hf hd kn e
    simp only [Pg.deep] at hd
    exact .first (i hr hf (by omega) kn e)
  | second _ i =>
    intro hr hf hd kn e
    simp only [Pg.deep] at hd
    exact .second (i hr hf (by omega) kn e)
  | thing => intro _ _ _ _ _; exact .thing
theorem row14_ok4 : ∀ x ∈ row14, x.2.ok4 := fun x hx => Kd.ok3.four (known14.each x hx).2
/-- a program that is on its way -/
structure Wy18 (κ : Kd) (p : Pg) : Prop where
  has : HasK row14 p κ
  fine : p.fine
  size : p.size ≤ 3000000
  deep : p.deep ≤ 100
theorem Wy18.kn {κ : Kd} {p : Pg} (h : Wy18 κ p) : Kn (fun x => (look row14 x).toList) p κ :=
  h.has.kn2 row14_ok4 h.fine (by have := h.deep; omega) _ fun x => by cases look row14 x <;> rfl
end Kf
namespace Kf
open PySem L2 Vl PySem.Spec PyProof.Rows
abbrev KR := Sum (Nat × List Nat) Kd
def giveK (n : Nat) : Kd → Kd → KR
  | .to a r, g => if a = g then .inr r else .inl (n, [])
  | _, _ => .inl (n, [])
def halfK (b : Bool) (n : Nat) : Kd → KR
  | .both x y => .inr (if b then x else y)
  | _ => .inl (n, [])
def kb : Pg → (Str → List Kd) → KR
  | .name x, kn => match (kn x).getLast? with
    | some k => .inr k
    | none => .inl (0, [])
  | .thing, _ => .inr .one
  | .take x κ p, kn => match kb p (putF kn x (kn x ++ [κ])) with
    | .inr l => .inr (.to κ l)
    | .inl (n, pl) => .inl (n, 0 :: pl)
  | .give p q, kn => match kb p kn with
    | .inl (n, pl) => .inl (n, 0 :: pl)
    | .inr f => match kb q kn with
      | .inl (n, pl) => .inl (p.size + n, 1 :: pl)
      | .inr g => giveK (p.size + q.size) f g
  | .pair p q, kn => match kb p kn with
    | .inl (n, pl) => .inl (n, 0 :: pl)
    | .inr f => match kb q kn with
      | .inl (n, pl) => .inl (p.size + n, 1 :: pl)
      | .inr g => .inr (.both f g)
  | .first p, kn => match kb p kn with
    | .inl (n, pl) => .inl (n, 0 :: pl)
    | .inr f => halfK true p.size f
  | .second p, kn => match kb p kn with
    | .inl (n, pl) => .inl (n, 0 :: pl)
    | .inr f => halfK false p.size f
end Kf
namespace Kf
open PySem L2 Vl PySem.Spec PyProof.Rows
/-- what the dict of names holds behind the first i pairs -/
structure Dn (K : PySem.W.Frag) (F : Hp) (r : List (Str × Kd)) (kvs : List (L2.Key × V)) : Prop where
  keys : ∃ ks : List Str, kvs.map (·.1) = ks.map Sum.inr ∧ ks.length ≤ r.length
  at_ : ∀ x k, look r x = some k → ∃ v, valV kvs (Sum.inr x) = some v ∧ At K F k.enc v
  no : ∀ x, look r x = none → valV kvs (Sum.inr x) = none
theorem Dn.nil {K : PySem.W.Frag} {F : Hp} : Dn K F [] [] := ⟨⟨[], rfl, Nat.le_refl _⟩, fun x k h => (nomatch (show (none : Option Kd) = some k from h)), fun x _ => rfl⟩
theorem Dn.put {K : PySem.W.Frag} {F : Hp} {r : List (Str × Kd)} {kvs : List (L2.Key × V)} (d : Dn K F r kvs) {x : Str} {k : Kd} {v : V} (h : At K F k.enc v) : Dn K F (r ++ [(x, k)]) (putK kvs (Sum.inr x) v) := by
  obtain ⟨ks, h1, h2⟩ := d.keys
  refine ⟨?_, fun y l e => ?_, fun y e => ?_⟩
  · cases z : valV kvs (Sum.inr x) with
    | none =>
      rw [putK_new v z]
      exact ⟨ks ++ [x], by simp [h1], by simp; omega⟩
    | some u =>
      refine ⟨ks, ?_, by simp; omega⟩
      unfold putK
      rw [valV_any, z]
      simp only [Option.isSome_some, if_true, List.map_map]
      rw [← h1]
      refine List.map_congr_left fun p _ => ?_
      show (if p.1 = Sum.inr x then (p.1, v) else p).1 = p.1
      split <;> rfl
  · rw [look_app] at e
    rw [valV_put]
    split at e
    · rename_i hx
      cases e
      subst hx
      exact ⟨v, by rw [if_pos rfl], h⟩
    · rename_i hx
      obtain ⟨u, h3, h4⟩ := d.at_ y l e
      exact ⟨u, by rw [if_neg (fun z => hx (Sum.inr.inj z).symm)]; exact h3, h4⟩
  · rw [look_app] at e
    rw [valV_put]
    split at e
    · cases e
    · rename_i hx
      rw [if_neg (fun z => hx (Sum.inr.inj z).symm)]
      exact d.no y e
end Kf
namespace Kf
open PySem L2 Vl PySem.Spec PyProof.Rows
def t_ismark_1 : VTS := (vRet (vC (.bool false)))
def t_ismark_2 : VTS := (vRet (vAG true (vStrI (vVar 0)) [none] [0] (vgName 0) (v2 (opInS false) (vVar 0) (vC (.str "abcdefghijklmnopqrstuvwxyz")))))
def t_ismark_3 : VTS := vSeq (vIfS (vOrT (vNotT (vTest (vIsi "str" (vVar 0)))) (vNotT (vTest (vChain opLe opLe (vC (.int 1)) (vN opLen (vCons (vVar 0) vNil)) (vC (.int 6)))))) (t_ismark_1) vNext) (t_ismark_2)
def t_ismark : VTS := (t_ismark_3)
end Kf
namespace Kf
open PySem L2 Vl PySem.Spec PyProof.Rows
theorem kit_ss (z : Str) : kitB (tyD (.str z)) "str" = some true := by
  show kitB "str" "str" = some true
  decide +kernel
end Kf
namespace Kf
open PySem L2 Vl PySem.Spec PyProof.Rows
def inS (L : Str) (c : Nat) : Bool := decide (c ∈ L.cps.toList)
theorem ag_sign (L : Str) {st : List (Option Ob)} {Kp : Bool → En → Prop} : ∀ (cs : List Nat) (s : Option Sl), (∀ s0, Kp (cs.all (inS L)) ⟨[s0], st⟩) → ag true (vgName 0) (v2 (opInS false) (vVar 0) (vC (.str L))) none [0] (cs.map fun c => PyData.str ⟨#[c]⟩) ⟨[s], st⟩ Kp
  | [], s, h => h s
  | c :: cs, s, h => by
    rw [List.map_cons]
    simp only [ag, flatD, List.any_cons, List.any_nil, eqv_str, eqv_int, eqv_ti, eqv_it, eqv_st, eqv_ts, cut1, Bool.or_false, Bool.or_true, Bool.and_self, Bool.and_true, Bool.and_false, Bool.false_or, Bool.true_or, and_self, ofs_inj, ofs_app, ofs_len, String.reduceEq, String.reduceNe, String.reduceAppend, decide_true, decide_false, Bool.not_true, Bool.not_false, sz0, sz1, sz2, sz3, sz4, sz5, sz6, sz7, sz8, sz9, sz10, sz11, sz12, sz13, sz14, sz15, sz16, sz17, sz18, sz19, sz20, sz21, sz22, sz23, sz24, sz25, cpow1018, true_and, and_true, Nat.reduceAdd, Nat.reduceLT, Nat.reduceSub, Int.reduceNe, Int.reduceEq, Int.reduceLT, Int.reduceLE, Int.reduceToNat, ne_eq, not_false_eq_true, List.length_map, Nat.lt_irrefl, dV_nx, dV_rt, at0, at1, at2, at3, ix20, ix21, vSeq, vIfS, vTest, vTruth, truth, v2, v1, vN, vCons, vNil, vStar, vVar, vC, xIx, Vl.opI0, Vl.opI, pk, vSet, vAug, vAsg, xgSub, vRet, vRetN, vNext_mk, vDrop, vBreak, vCont, asD, asDs, opMod, opDiv, opMul2, Vl.opAdd, Vl.opAddO, opSub, opPow, opLt, Vl.opLe, opGt, Vl.opGe, xEq, okEq_str, okEq_int, xIn, okIn, inD, xIsN, isNone_n, isNone_t, isNone_l, isNone_i, isNone_s, isMo, mob, pkm, gModI, gDivI, gSubI, gMulI, gPowI, gGt, gLt, gLe, gGe, vNotT, vAndT, vOrT, vAndV, vOrV, opNot, opNotG, vIfE, opTup, opLst, opLstO, Vl.opLen, Vl.opInt, opList, opListO, opTuple, opII, gMax, gMin, vM, vM0, isT, xPop, Vl.opAppend, opExtend, opJoin, vgName, vgTup, vgCons, vgNil, kOpt_some, kOpn_some, kOps_some, Vl.opSum, Vl.opInsert, Vl.opIndex, opDivmod, vSl, vPart, vNoPart, opSl, opSlO, opRev, opCallK, ownD, ownO, objs, renum, uniq, getS, putS, vCall0, vFor, vForW, En.wk, vSeqI, vTupI, vRng1, vRng2, vRngD, vFn, vCallL, vOdd, vWays, vEnum, vZip, chkOf, vLcK, vYes, finD, finO, En.wipe, wipeE, En.trim, trimS, dropNone, clr_n, clr_v, clr_k, clr_o, wth, Vl.ret, takeS, startV,  List.map_cons, List.map_nil, List.length_cons, List.length_nil, List.cons_append, List.nil_append, List.replicate, List.getElem?_cons_succ, List.getElem?_cons_zero, List.getElem?_nil, List.set_cons_succ, List.set_cons_zero, List.set_nil, List.all_nil, List.all_cons, Bool.true_and, Option.map_some, Option.map_none, if_true, if_false, decide_eq_true_eq, Bool.false_eq_true, List.take_succ_cons, List.take_zero, List.take_nil, List.drop_succ_cons, List.drop_zero, List.drop_nil, reduceIte, reduceCtorEq]
    rw [opInS_one]
    simp only [flatD, List.any_cons, List.any_nil, eqv_str, eqv_int, eqv_ti, eqv_it, eqv_st, eqv_ts, cut1, Bool.or_false, Bool.or_true, Bool.and_self, Bool.and_true, Bool.and_false, Bool.false_or, Bool.true_or, and_self, ofs_inj, ofs_app, ofs_len, String.reduceEq, String.reduceNe, String.reduceAppend, decide_true, decide_false, Bool.not_true, Bool.not_false, sz0, sz1, sz2, sz3, sz4, sz5, sz6, sz7, sz8, sz9, sz10, sz11, sz12, sz13, sz14, sz15, sz16, sz17, sz18, sz19, sz20, sz21, sz22, sz23, sz24, sz25, cpow1018, true_and, and_true, Nat.reduceAdd, Nat.reduceLT, Nat.reduceSub, Int.reduceNe, Int.reduceEq, Int.reduceLT, Int.reduceLE, Int.reduceToNat, ne_eq, not_false_eq_true, List.length_map, Nat.lt_irrefl, dV_nx, dV_rt, at0, at1, at2, at3, ix20, ix21, vSeq, vIfS, vTest, vTruth, truth, v2, v1, vN, vCons, vNil, vStar, vVar, vC, xIx, Vl.opI0, Vl.opI, pk, vSet, vAug, vAsg, xgSub, vRet, vRetN, vNext_mk, vDrop, vBreak, vCont, asD, asDs, opMod, opDiv, opMul2, Vl.opAdd, Vl.opAddO, opSub, opPow, opLt, Vl.opLe, opGt, Vl.opGe, xEq, okEq_str, okEq_int, xIn, okIn, inD, xIsN, isNone_n, isNone_t, isNone_l, isNone_i, isNone_s, isMo, mob, pkm, gModI, gDivI, gSubI, gMulI, gPowI, gGt, gLt, gLe, gGe, vNotT, vAndT, vOrT, vAndV, vOrV, opNot, opNotG, vIfE, opTup, opLst, opLstO, Vl.opLen, Vl.opInt, opList, opListO, opTuple, opII, gMax, gMin, vM, vM0, isT, xPop, Vl.opAppend, opExtend, opJoin, vgName, vgTup, vgCons, vgNil, kOpt_some, kOpn_some, kOps_some, Vl.opSum, Vl.opInsert, Vl.opIndex, opDivmod, vSl, vPart, vNoPart, opSl, opSlO, opRev, opCallK, ownD, ownO, objs, renum, uniq, getS, putS, vCall0, vFor, vForW, En.wk, vSeqI, vTupI, vRng1, vRng2, vRngD, vFn, vCallL, vOdd, vWays, vEnum, vZip, chkOf, vLcK, vYes, finD, finO, En.wipe, wipeE, En.trim, trimS, dropNone, clr_n, clr_v, clr_k, clr_o, wth, Vl.ret, takeS, startV,  List.map_cons, List.map_nil, List.length_cons, List.length_nil, List.cons_append, List.nil_append, List.replicate, List.getElem?_cons_succ, List.getElem?_cons_zero, List.getElem?_nil, List.set_cons_succ, List.set_cons_zero, List.set_nil, List.all_nil, List.all_cons, Bool.true_and, Option.map_some, Option.map_none, if_true, if_false, decide_eq_true_eq, Bool.false_eq_true, List.take_succ_cons, List.take_zero, List.take_nil, List.drop_succ_cons, List.drop_zero, List.drop_nil, reduceIte, reduceCtorEq]
    rw [List.all_cons] at h
    split
    · rename_i hc
      refine ag_sign L cs none fun s0 => ?_
      have := h s0
      rw [show inS L c = true from decide_eq_true hc, Bool.true_and] at this
      exact this
    · rename_i hc
      rw [decide_eq_false hc]
      have := h (some (.val (.str ⟨#[c]⟩)))
      rw [show inS L c = false from decide_eq_false hc, Bool.false_and] at this
      exact this
def isMk (z : Str) : Bool := decide (1 ≤ z.cps.size) && (decide (z.cps.size ≤ 6) && z.cps.toList.all (inS "abcdefghijklmnopqrstuvwxyz"))
def pMkT : VSp := fun ss st Kp => (∃ z : Str, z.cps.size ≤ 1000 ∧ ss = [.val (.str z)] ∧ st = [] ∧ Kp (.val (.bool (isMk z))) []) ∨ (ss = [.val (.int 3)] ∧ st = [] ∧ Kp (.val (.bool false)) [])
theorem r_ismark {ss cs Kp} (h : pMkT ss cs Kp) : t_ismark (dV cs.length Kp) ⟨startV 1 ss, cs.map some⟩ := by
  rcases h with ⟨z, hz, rfl, rfl, q⟩ | ⟨rfl, rfl, q⟩
  · have el : z.length = z.cps.size := rfl
    simp only [t_ismark, t_ismark_3, vIsi, vChain, flatD, List.any_cons, List.any_nil, eqv_str, eqv_int, eqv_ti, eqv_it, eqv_st, eqv_ts, cut1, Bool.or_false, Bool.or_true, Bool.and_self, Bool.and_true, Bool.and_false, Bool.false_or, Bool.true_or, and_self, ofs_inj, ofs_app, ofs_len, String.reduceEq, String.reduceNe, String.reduceAppend, decide_true, decide_false, Bool.not_true, Bool.not_false, sz0, sz1, sz2, sz3, sz4, sz5, sz6, sz7, sz8, sz9, sz10, sz11, sz12, sz13, sz14, sz15, sz16, sz17, sz18, sz19, sz20, sz21, sz22, sz23, sz24, sz25, cpow1018, true_and, and_true, Nat.reduceAdd, Nat.reduceLT, Nat.reduceSub, Int.reduceNe, Int.reduceEq, Int.reduceLT, Int.reduceLE, Int.reduceToNat, ne_eq, not_false_eq_true, List.length_map, Nat.lt_irrefl, dV_nx, dV_rt, at0, at1, at2, at3, ix20, ix21, vSeq, vIfS, vTest, vTruth, truth, v2, v1, vN, vCons, vNil, vStar, vVar, vC, xIx, Vl.opI0, Vl.opI, pk, vSet, vAug, vAsg, xgSub, vRet, vRetN, vNext_mk, vDrop, vBreak, vCont, asD, asDs, opMod, opDiv, opMul2, Vl.opAdd, Vl.opAddO, opSub, opPow, opLt, Vl.opLe, opGt, Vl.opGe, xEq, okEq_str, okEq_int, xIn, okIn, inD, xIsN, isNone_n, isNone_t, isNone_l, isNone_i, isNone_s, isMo, mob, pkm, gModI, gDivI, gSubI, gMulI, gPowI, gGt, gLt, gLe, gGe, vNotT, vAndT, vOrT, vAndV, vOrV, opNot, opNotG, vIfE, opTup, opLst, opLstO, Vl.opLen, Vl.opInt, opList, opListO, opTuple, opII, gMax, gMin, vM, vM0, isT, xPop, Vl.opAppend, opExtend, opJoin, vgName, vgTup, vgCons, vgNil, kOpt_some, kOpn_some, kOps_some, Vl.opSum, Vl.opInsert, Vl.opIndex, opDivmod, vSl, vPart, vNoPart, opSl, opSlO, opRev, opCallK, ownD, ownO, objs, renum, uniq, getS, putS, vCall0, vFor, vForW, En.wk, vSeqI, vTupI, vRng1, vRng2, vRngD, vFn, vCallL, vOdd, vWays, vEnum, vZip, chkOf, vLcK, vYes, finD, finO, En.wipe, wipeE, En.trim, trimS, dropNone, clr_n, clr_v, clr_k, clr_o, wth, Vl.ret, takeS, startV,  List.map_cons, List.map_nil, List.length_cons, List.length_nil, List.cons_append, List.nil_append, List.replicate, List.getElem?_cons_succ, List.getElem?_cons_zero, List.getElem?_nil, List.set_cons_succ, List.set_cons_zero, List.set_nil, List.all_nil, List.all_cons, Bool.true_and, Option.map_some, Option.map_none, if_true, if_false, decide_eq_true_eq, Bool.false_eq_true, List.take_succ_cons, List.take_zero, List.take_nil, List.drop_succ_cons, List.drop_zero, List.drop_nil, reduceIte, reduceCtorEq]
    refine ⟨true, kit_ss _, ?_⟩
    rw [if_neg (by decide)]
    refine ⟨big (by omega), ?_⟩
    unfold isMk at q
    split
    · rename_i h1
      rw [decide_eq_true (show 1 ≤ z.cps.size by omega), Bool.true_and] at q
      split
      · rename_i h2
        have h2' : ¬ (z.cps.size ≤ 6) := by
          intro h3
          rw [decide_eq_true (by omega)] at h2
          cases h2
        simp only [t_ismark_1, flatD, List.any_cons, List.any_nil, eqv_str, eqv_int, eqv_ti, eqv_it, eqv_st, eqv_ts, cut1, Bool.or_false, Bool.or_true, Bool.and_self, Bool.and_true, Bool.and_false, Bool.false_or, Bool.true_or, and_self, ofs_inj, ofs_app, ofs_len, String.reduceEq, String.reduceNe, String.reduceAppend, decide_true, decide_false, Bool.not_true, Bool.not_false, sz0, sz1, sz2, sz3, sz4, sz5, sz6, sz7, sz8, sz9, sz10, sz11, sz12, sz13, sz14, sz15, sz16, sz17, sz18, sz19, sz20, sz21, sz22, sz23, sz24, sz25, cpow1018, true_and, and_true, Nat.reduceAdd, Nat.reduceLT, Nat.reduceSub, Int.reduceNe, Int.reduceEq, Int.reduceLT, Int.reduceLE, Int.reduceToNat, ne_eq, not_false_eq_true, List.length_map, Nat.lt_irrefl, dV_nx, dV_rt, at0, at1, at2, at3, ix20, ix21, vSeq, vIfS, vTest, vTruth, truth, v2, v1, vN, vCons, vNil, vStar, vVar, vC, xIx, Vl.opI0, Vl.opI, pk, vSet, vAug, vAsg, xgSub, vRet, vRetN, vNext_mk, vDrop, vBreak, vCont, asD, asDs, opMod, opDiv, opMul2, Vl.opAdd, Vl.opAddO, opSub, opPow, opLt, Vl.opLe, opGt, Vl.opGe, xEq, okEq_str, okEq_int, xIn, okIn, inD, xIsN, isNone_n, isNone_t, isNone_l, isNone_i, isNone_s, isMo, mob, pkm, gModI, gDivI, gSubI, gMulI, gPowI, gGt, gLt, gLe, gGe, vNotT, vAndT, vOrT, vAndV, vOrV, opNot, opNotG, vIfE, opTup, opLst, opLstO, Vl.opLen, Vl.opInt, opList, opListO, opTuple, opII, gMax, gMin, vM, vM0, isT, xPop, Vl.opAppend, opExtend, opJoin, vgName, vgTup, vgCons, vgNil, kOpt_some, kOpn_some, kOps_some, Vl.opSum, Vl.opInsert, Vl.opIndex, opDivmod, vSl, vPart, vNoPart, opSl, opSlO, opRev, opCallK, ownD, ownO, objs, renum, uniq, getS, putS, vCall0, vFor, vForW, En.wk, vSeqI, vTupI, vRng1, vRng2, vRngD, vFn, vCallL, vOdd, vWays, vEnum, vZip, chkOf, vLcK, vYes, finD, finO, En.wipe, wipeE, En.trim, trimS, dropNone, clr_n, clr_v, clr_k, clr_o, wth, Vl.ret, takeS, startV,  List.map_cons, List.map_nil, List.length_cons, List.length_nil, List.cons_append, List.nil_append, List.replicate, List.getElem?_cons_succ, List.getElem?_cons_zero, List.getElem?_nil, List.set_cons_succ, List.set_cons_zero, List.set_nil, List.all_nil, List.all_cons, Bool.true_and, Option.map_some, Option.map_none, if_true, if_false, decide_eq_true_eq, Bool.false_eq_true, List.take_succ_cons, List.take_zero, List.take_nil, List.drop_succ_cons, List.drop_zero, List.drop_nil, reduceIte, reduceCtorEq]
        rw [decide_eq_false h2', Bool.false_and] at q
        exact q
      · rename_i h2
        have h2' : z.cps.size ≤ 6 := by
          by_cases h3 : z.cps.size ≤ 6
          · exact h3
          · exact absurd (by rw [decide_eq_false (by omega)]; rfl) h2
        rw [decide_eq_true h2', Bool.true_and] at q
        simp only [t_ismark_2, vAG, vStrI, flatD, List.any_cons, List.any_nil, eqv_str, eqv_int, eqv_ti, eqv_it, eqv_st, eqv_ts, cut1, Bool.or_false, Bool.or_true, Bool.and_self, Bool.and_true, Bool.and_false, Bool.false_or, Bool.true_or, and_self, ofs_inj, ofs_app, ofs_len, String.reduceEq, String.reduceNe, String.reduceAppend, decide_true, decide_false, Bool.not_true, Bool.not_false, sz0, sz1, sz2, sz3, sz4, sz5, sz6, sz7, sz8, sz9, sz10, sz11, sz12, sz13, sz14, sz15, sz16, sz17, sz18, sz19, sz20, sz21, sz22, sz23, sz24, sz25, cpow1018, true_and, and_true, Nat.reduceAdd, Nat.reduceLT, Nat.reduceSub, Int.reduceNe, Int.reduceEq, Int.reduceLT, Int.reduceLE, Int.reduceToNat, ne_eq, not_false_eq_true, List.length_map, Nat.lt_irrefl, dV_nx, dV_rt, at0, at1, at2, at3, ix20, ix21, vSeq, vIfS, vTest, vTruth, truth, v2, v1, vN, vCons, vNil, vStar, vVar, vC, xIx, Vl.opI0, Vl.opI, pk, vSet, vAug, vAsg, xgSub, vRet, vRetN, vNext_mk, vDrop, vBreak, vCont, asD, asDs, opMod, opDiv, opMul2, Vl.opAdd, Vl.opAddO, opSub, opPow, opLt, Vl.opLe, opGt, Vl.opGe, xEq, okEq_str, okEq_int, xIn, okIn, inD, xIsN, isNone_n, isNone_t, isNone_l, isNone_i, isNone_s, isMo, mob, pkm, gModI, gDivI, gSubI, gMulI, gPowI, gGt, gLt, gLe, gGe, vNotT, vAndT, vOrT, vAndV, vOrV, opNot, opNotG, vIfE, opTup, opLst, opLstO, Vl.opLen, Vl.opInt, opList, opListO, opTuple, opII, gMax, gMin, vM, vM0, isT, xPop, Vl.opAppend, opExtend, opJoin, vgName, vgTup, vgCons, vgNil, kOpt_some, kOpn_some, kOps_some, Vl.opSum, Vl.opInsert, Vl.opIndex, opDivmod, vSl, vPart, vNoPart, opSl, opSlO, opRev, opCallK, ownD, ownO, objs, renum, uniq, getS, putS, vCall0, vFor, vForW, En.wk, vSeqI, vTupI, vRng1, vRng2, vRngD, vFn, vCallL, vOdd, vWays, vEnum, vZip, chkOf, vLcK, vYes, finD, finO, En.wipe, wipeE, En.trim, trimS, dropNone, clr_n, clr_v, clr_k, clr_o, wth, Vl.ret, takeS, startV,  List.map_cons, List.map_nil, List.length_cons, List.length_nil, List.cons_append, List.nil_append, List.replicate, List.getElem?_cons_succ, List.getElem?_cons_zero, List.getElem?_nil, List.set_cons_succ, List.set_cons_zero, List.set_nil, List.all_nil, List.all_cons, Bool.true_and, Option.map_some, Option.map_none, if_true, if_false, decide_eq_true_eq, Bool.false_eq_true, List.take_succ_cons, List.take_zero, List.take_nil, List.drop_succ_cons, List.drop_zero, List.drop_nil, reduceIte, reduceCtorEq]
        exact ag_sign _ z.cps.toList _ fun s0 => q
    · rename_i h1
      simp only [t_ismark_1, flatD, List.any_cons, List.any_nil, eqv_str, eqv_int, eqv_ti, eqv_it, eqv_st, eqv_ts, cut1, Bool.or_false, Bool.or_true, Bool.and_self, Bool.and_true, Bool.and_false, Bool.false_or, Bool.true_or, and_self, ofs_inj, ofs_app, ofs_len, String.reduceEq, String.reduceNe, String.reduceAppend, decide_true, decide_false, Bool.not_true, Bool.not_false, sz0, sz1, sz2, sz3, sz4, sz5, sz6, sz7, sz8, sz9, sz10, sz11, sz12, sz13, sz14, sz15, sz16, sz17, sz18, sz19, sz20, sz21, sz22, sz23, sz24, sz25, cpow1018, true_and, and_true, Nat.reduceAdd, Nat.reduceLT, Nat.reduceSub, Int.reduceNe, Int.reduceEq, Int.reduceLT, Int.reduceLE, Int.reduceToNat, ne_eq, not_false_eq_true, List.length_map, Nat.lt_irrefl, dV_nx, dV_rt, at0, at1, at2, at3, ix20, ix21, vSeq, vIfS, vTest, vTruth, truth, v2, v1, vN, vCons, vNil, vStar, vVar, vC, xIx, Vl.opI0, Vl.opI, pk, vSet, vAug, vAsg, xgSub, vRet, vRetN, vNext_mk, vDrop, vBreak, vCont, asD, asDs, opMod, opDiv, opMul2, Vl.opAdd, Vl.opAddO, opSub, opPow, opLt, Vl.opLe, opGt, Vl.opGe, xEq, okEq_str, okEq_int, xIn, okIn, inD, xIsN, isNone_n, isNone_t, isNone_l, isNone_i, isNone_s, isMo, mob, pkm, gModI, gDivI, gSubI, gMulI, gPowI, gGt, gLt, gLe, gGe, vNotT, vAndT, vOrT, vAndV, vOrV, opNot, opNotG, vIfE, opTup, opLst, opLstO, Vl.opLen, Vl.opInt, opList, opListO, opTuple, opII, gMax, gMin, vM, vM0, isT, xPop, Vl.opAppend, opExtend, opJoin, vgName, vgTup, vgCons, vgNil, kOpt_some, kOpn_some, kOps_some, Vl.opSum, Vl.opInsert, Vl.opIndex, opDivmod, vSl, vPart, vNoPart, opSl, opSlO, opRev, opCallK, ownD, ownO, objs, renum, uniq, getS, putS, vCall0, vFor, vForW, En.wk, vSeqI, vTupI, vRng1, vRng2, vRngD, vFn, vCallL, vOdd, vWays, vEnum, vZip, chkOf, vLcK, vYes, finD, finO, En.wipe, wipeE, En.trim, trimS, dropNone, clr_n, clr_v, clr_k, clr_o, wth, Vl.ret, takeS, startV,  List.map_cons, List.map_nil, List.length_cons, List.length_nil, List.cons_append, List.nil_append, List.replicate, List.getElem?_cons_succ, List.getElem?_cons_zero, List.getElem?_nil, List.set_cons_succ, List.set_cons_zero, List.set_nil, List.all_nil, List.all_cons, Bool.true_and, Option.map_some, Option.map_none, if_true, if_false, decide_eq_true_eq, Bool.false_eq_true, List.take_succ_cons, List.take_zero, List.take_nil, List.drop_succ_cons, List.drop_zero, List.drop_nil, reduceIte, reduceCtorEq]
      rw [decide_eq_false (show ¬ 1 ≤ z.cps.size by omega), Bool.false_and] at q
      exact q
  · simp only [t_ismark, t_ismark_3, t_ismark_1, vIsi, vChain, flatD, List.any_cons, List.any_nil, eqv_str, eqv_int, eqv_ti, eqv_it, eqv_st, eqv_ts, cut1, Bool.or_false, Bool.or_true, Bool.and_self, Bool.and_true, Bool.and_false, Bool.false_or, Bool.true_or, and_self, ofs_inj, ofs_app, ofs_len, String.reduceEq, String.reduceNe, String.reduceAppend, decide_true, decide_false, Bool.not_true, Bool.not_false, sz0, sz1, sz2, sz3, sz4, sz5, sz6, sz7, sz8, sz9, sz10, sz11, sz12, sz13, sz14, sz15, sz16, sz17, sz18, sz19, sz20, sz21, sz22, sz23, sz24, sz25, cpow1018, true_and, and_true, Nat.reduceAdd, Nat.reduceLT, Nat.reduceSub, Int.reduceNe, Int.reduceEq, Int.reduceLT, Int.reduceLE, Int.reduceToNat, ne_eq, not_false_eq_true, List.length_map, Nat.lt_irrefl, dV_nx, dV_rt, at0, at1, at2, at3, ix20, ix21, vSeq, vIfS, vTest, vTruth, truth, v2, v1, vN, vCons, vNil, vStar, vVar, vC, xIx, Vl.opI0, Vl.opI, pk, vSet, vAug, vAsg, xgSub, vRet, vRetN, vNext_mk, vDrop, vBreak, vCont, asD, asDs, opMod, opDiv, opMul2, Vl.opAdd, Vl.opAddO, opSub, opPow, opLt, Vl.opLe, opGt, Vl.opGe, xEq, okEq_str, okEq_int, xIn, okIn, inD, xIsN, isNone_n, isNone_t, isNone_l, isNone_i, isNone_s, isMo, mob, pkm, gModI, gDivI, gSubI, gMulI, gPowI, gGt, gLt, gLe, gGe, vNotT, vAndT, vOrT, vAndV, vOrV, opNot, opNotG, vIfE, opTup, opLst, opLstO, Vl.opLen, Vl.opInt, opList, opListO, opTuple, opII, gMax, gMin, vM, vM0, isT, xPop, Vl.opAppend, opExtend, opJoin, vgName, vgTup, vgCons, vgNil, kOpt_some, kOpn_some, kOps_some, Vl.opSum, Vl.opInsert, Vl.opIndex, opDivmod, vSl, vPart, vNoPart, opSl, opSlO, opRev, opCallK, ownD, ownO, objs, renum, uniq, getS, putS, vCall0, vFor, vForW, En.wk, vSeqI, vTupI, vRng1, vRng2, vRngD, vFn, vCallL, vOdd, vWays, vEnum, vZip, chkOf, vLcK, vYes, finD, finO, En.wipe, wipeE, En.trim, trimS, dropNone, clr_n, clr_v, clr_k, clr_o, wth, Vl.ret, takeS, startV,  List.map_cons, List.map_nil, List.length_cons, List.length_nil, List.cons_append, List.nil_append, List.replicate, List.getElem?_cons_succ, List.getElem?_cons_zero, List.getElem?_nil, List.set_cons_succ, List.set_cons_zero, List.set_nil, List.all_nil, List.all_cons, Bool.true_and, Option.map_some, Option.map_none, if_true, if_false, decide_eq_true_eq, Bool.false_eq_true, List.take_succ_cons, List.take_zero, List.take_nil, List.drop_succ_cons, List.drop_zero, List.drop_nil, reduceIte, reduceCtorEq]
    refine ⟨false, by show kitB "int" "str" = some false; decide +kernel, ?_⟩
    rw [if_pos (by decide)]
    exact q
end Kf
namespace Kf
open PySem L2 Vl PySem.Spec PyProof.Rows
def t_istree_1 (p_hasformv4 : VSp) : VTS := (vRet (vC (.bool false)))
def t_istree_2 (p_hasformv4 : VSp) : VTS := (vRet (vC (.bool false)))
def t_istree_3 (p_hasformv4 : VSp) : VTS := (vDrop (vM "list" opAppend (vVar 1) (vCons (vN opTup (vCons (vVar 6) (vCons (vVar 7) (vCons (v2 opAdd (vVar 4) (vC (.int 1))) vNil)))) vNil)))
def t_istree_4 (p_hasformv4 : VSp) : VTS := (vForW (vSeqI (vVar 5)) (vgName 6)
        (t_istree_3 p_hasformv4))
def t_istree_5 (p_hasformv4 : VSp) : VTS := vSeq (vIfS (vNotT (vTest (vAG true (vSeqI (vVar 3)) [none, some 7] [0] (vgName 0) (v2 (xIn false) (vVar 0) (vVar 1))))) (t_istree_2 p_hasformv4) vNext) (t_istree_4 p_hasformv4)
def t_istree_6 (p_hasformv4 : VSp) : VTS := vSeq (vAsg (vVar 2) (vgTup 2 (vgCons (vgName 7) (vgCons (vgName 5) vgNil)))) (t_istree_5 p_hasformv4)
def t_istree_7 (p_hasformv4 : VSp) : VTS := vSeq (vIfS (vOrT (vTest (v2 opGt (vVar 4) (vC (.int 40)))) (vNotT (vTruth (vN (opCallK ownD p_hasformv4) (vCons (vVar 2) vNil))))) (t_istree_1 p_hasformv4) vNext) (t_istree_6 p_hasformv4)
def t_istree_8 (p_hasformv4 : VSp) : VTS := vSeq (vAsg (vM0 "list" xPop (vVar 1)) (vgTup 3 (vgCons (vgName 2) (vgCons (vgName 3) (vgCons (vgName 4) vgNil))))) (t_istree_7 p_hasformv4)
def t_istree_9 (p_hasformv4 : VSp) : VTS := (vRet (vC (.bool true)))
def t_istree_10 (p_hasformv4 : VSp) : VTS := vSeq (vWhileW (vTruth (vVar 1))
      (t_istree_8 p_hasformv4)) (t_istree_9 p_hasformv4)
def t_istree_11 (p_hasformv4 : VSp) : VTS := vSeq (vSet 1 (vN opLstO (vCons (vN opTup (vCons (vVar 0) (vCons (vN opLst vNil) (vCons (vC (.int 1)) vNil)))) vNil))) (t_istree_10 p_hasformv4)
def t_istree (p_hasformv4 : VSp) : VTS := (t_istree_11 p_hasformv4)
def t_hasformv4_1 (p_ismark : VSp) : VTS := (vRet (vC (.bool false)))
def t_hasformv4_2 (p_ismark : VSp) : VTS := (vRet (vC (.bool false)))
def t_hasformv4_3 (p_ismark : VSp) : VTS := (vRet (vC (.bool false)))
def t_hasformv4_4 (p_ismark : VSp) : VTS := (vRet (v2 (xEq false) (vVar 1) (v1 opSSet (vVar 1))))
def t_hasformv4_5 (p_ismark : VSp) : VTS := vSeq (vIfS (vNotT (vTest (vAG true (vSeqI (vVar 1)) [none] [0] (vgName 0) (vN (opCallK ownD p_ismark) (vCons (vVar 0) vNil))))) (t_hasformv4_3 p_ismark) vNext) (t_hasformv4_4 p_ismark)
def t_hasformv4_6 (p_ismark : VSp) : VTS := vSeq (vIfS (vOrT (vNotT (vTest (vIsi "list" (vVar 1)))) (vNotT (vTest (vIsi "list" (vVar 2))))) (t_hasformv4_2 p_ismark) vNext) (t_hasformv4_5 p_ismark)
def t_hasformv4_7 (p_ismark : VSp) : VTS := vSeq (vAsg (vVar 0) (vgTup 2 (vgCons (vgName 1) (vgCons (vgName 2) vgNil)))) (t_hasformv4_6 p_ismark)
def t_hasformv4_8 (p_ismark : VSp) : VTS := vSeq (vIfS (vOrT (vNotT (vTest (vIsi "tuple" (vVar 0)))) (vTest (v2 (xEq true) (vN opLen (vCons (vVar 0) vNil)) (vC (.int 2))))) (t_hasformv4_1 p_ismark) vNext) (t_hasformv4_7 p_ismark)
def t_hasformv4 (p_ismark : VSp) : VTS := (t_hasformv4_8 p_ismark)
def t_worldsof_1 (p_laidout : VSp) : VTS := (vRet (vN opLen (vCons (vN (opCallK ownD p_laidout) (vCons (vVar 0) vNil)) vNil)))
def t_worldsof (p_laidout : VSp) : VTS := (t_worldsof_1 p_laidout)
def t_laidout_1 : VTS := (vDrop (vM "list" opAppend (vVar 2) (vCons (vN opTup (vCons (vVar 5) (vCons (vN opLen (vCons (vVar 1) vNil)) vNil))) vNil)))
def t_laidout_2 : VTS := (vDrop (vM "list" opAppend (vVar 1) (vCons (vN opTup (vCons (v2 xIx (vVar 3) (vC (.int 0))) (vCons (vVar 4) vNil))) vNil)))
def t_laidout_3 : VTS := vSeq (vForW (vSeqI (v2 xIx (vVar 3) (vC (.int 1)))) (vgName 5)
        (t_laidout_1)) (t_laidout_2)
def t_laidout_4 : VTS := vSeq (vAsg (vM0 "list" xPop (vVar 2)) (vgTup 2 (vgCons (vgName 3) (vgCons (vgName 4) vgNil)))) (t_laidout_3)
def t_laidout_5 : VTS := (vRet (vVar 1))
def t_laidout_6 : VTS := vSeq (vWhileW (vTruth (vVar 2))
      (t_laidout_4)) (t_laidout_5)
def t_laidout_7 : VTS := vSeq (vSet 2 (vN opLstO (vCons (vN opTup (vCons (vVar 0) (vCons (v1 opNeg (vC (.int 1))) vNil))) vNil))) (t_laidout_6)
def t_laidout_8 : VTS := vSeq (vSet 1 (vN opLstO vNil)) (t_laidout_7)
def t_laidout : VTS := (t_laidout_8)
end Kf
namespace Kf
open PySem L2 Vl PySem.Spec PyProof.Rows
mutual
/-- things of bounded parts -/
def okT : D → Prop
  | .str z => z.cps.size ≤ 1000 ∧ PyData.strOk z = true
  | .list ds => ds.length ≤ 3000 ∧ okTs ds
  | .tuple ds => ds.length ≤ 3000 ∧ okTs ds
  | .dict ds => ds = []
  | _ => True
def okTs : List D → Prop
  | [] => True
  | d :: ds => okT d ∧ okTs ds
end
mutual
def ndT : D → Nat
  | .list ds => 1 + ndTs ds
  | .tuple ds => 1 + ndTs ds
  | _ => 1
def ndTs : List D → Nat
  | [] => 0
  | d :: ds => ndT d + ndTs ds
end
theorem okTs_mem : ∀ {ds : List D}, okTs ds → ∀ d ∈ ds, okT d
  | _ :: _, h, d, hd => by
    unfold okTs at h
    rcases List.mem_cons.mp hd with rfl | hd
    · exact h.1
    · exact okTs_mem h.2 d hd
theorem okTs_of : ∀ {ds : List D}, (∀ d ∈ ds, okT d) → okTs ds
  | [], _ => by
    unfold okTs
    trivial
  | d :: ds, h => by
    unfold okTs
    exact ⟨h d List.mem_cons_self, okTs_of fun x hx => h x (List.mem_cons_of_mem _ hx)⟩
def mkD : D → Bool
  | .str z => isMk z
  | _ => false
def pMkD : VSp := fun ss st Kp => ∃ d : D, okT d ∧ ss = [.val d] ∧ st = [] ∧ Kp (.val (.bool (mkD d))) []
def isS : D → Bool
  | .str _ => true
  | _ => false
def isTp : D → Bool
  | .tuple _ => true
  | _ => false
def isLs : D → Bool
  | .list _ => true
  | _ => false
theorem kit_is : ∀ {d : D}, okT d → kitB (tyD d) "str" = some (isS d)
  | .none, _ => show kitB "NoneType" "str" = some false by decide +kernel
  | .bool _, _ => show kitB "bool" "str" = some false by decide +kernel
  | .int _, _ => show kitB "int" "str" = some false by decide +kernel
  | .str _, _ => show kitB "str" "str" = some true by decide +kernel
  | .list _, _ => show kitB "list" "str" = some false by decide +kernel
  | .tuple _, _ => show kitB "tuple" "str" = some false by decide +kernel
  | .dict kvs, ok => by
    unfold okT at ok
    subst ok
    exact show kitB "dict" "str" = some false by decide +kernel
theorem kit_it : ∀ {d : D}, okT d → kitB (tyD d) "tuple" = some (isTp d)
  | .none, _ => show kitB "NoneType" "tuple" = some false by decide +kernel
  | .bool _, _ => show kitB "bool" "tuple" = some false by decide +kernel
  | .int _, _ => show kitB "int" "tuple" = some false by decide +kernel
  | .str _, _ => show kitB "str" "tuple" = some false by decide +kernel
  | .list _, _ => show kitB "list" "tuple" = some false by decide +kernel
  | .tuple _, _ => show kitB "tuple" "tuple" = some true by decide +kernel
  | .dict kvs, ok => by
    unfold okT at ok
    subst ok
    exact show kitB "dict" "tuple" = some false by decide +kernel
theorem kit_il : ∀ {d : D}, okT d → kitB (tyD d) "list" = some (isLs d)
  | .none, _ => show kitB "NoneType" "list" = some false by decide +kernel
  | .bool _, _ => show kitB "bool" "list" = some false by decide +kernel
  | .int _, _ => show kitB "int" "list" = some false by decide +kernel
  | .str _, _ => show kitB "str" "list" = some false by decide +kernel
  | .list _, _ => show kitB "list" "list" = some true by decide +kernel
  | .tuple _, _ => show kitB "tuple" "list" = some false by decide +kernel
  | .dict kvs, ok => by
    unfold okT at ok
    subst ok
    exact show kitB "dict" "list" = some false by decide +kernel
theorem r_mkD {ss cs Kp} (h : pMkD ss cs Kp) : t_ismark (dV cs.length Kp) ⟨startV 1 ss, cs.map some⟩ := by
  obtain ⟨d, ok, rfl, rfl, q⟩ := h
  have no : (∀ z, d ≠ .str z) → t_ismark (dV ([] : List Ob).length Kp) ⟨startV 1 [.val d], []⟩ := fun hn => by
    simp only [t_ismark, t_ismark_3, t_ismark_1, vIsi, vChain, flatD, List.any_cons, List.any_nil, eqv_str, eqv_int, eqv_ti, eqv_it, eqv_st, eqv_ts, cut1, Bool.or_false, Bool.or_true, Bool.and_self, Bool.and_true, Bool.and_false, Bool.false_or, Bool.true_or, and_self, ofs_inj, ofs_app, ofs_len, String.reduceEq, String.reduceNe, String.reduceAppend, decide_true, decide_false, Bool.not_true, Bool.not_false, sz0, sz1, sz2, sz3, sz4, sz5, sz6, sz7, sz8, sz9, sz10, sz11, sz12, sz13, sz14, sz15, sz16, sz17, sz18, sz19, sz20, sz21, sz22, sz23, sz24, sz25, cpow1018, true_and, and_true, Nat.reduceAdd, Nat.reduceLT, Nat.reduceSub, Int.reduceNe, Int.reduceEq, Int.reduceLT, Int.reduceLE, Int.reduceToNat, ne_eq, not_false_eq_true, List.length_map, Nat.lt_irrefl, dV_nx, dV_rt, at0, at1, at2, at3, ix20, ix21, vSeq, vIfS, vTest, vTruth, truth, v2, v1, vN, vCons, vNil, vStar, vVar, vC, xIx, Vl.opI0, Vl.opI, pk, vSet, vAug, vAsg, xgSub, vRet, vRetN, vNext_mk, vDrop, vBreak, vCont, asD, asDs, opMod, opDiv, opMul2, Vl.opAdd, Vl.opAddO, opSub, opPow, opLt, Vl.opLe, opGt, Vl.opGe, xEq, okEq_str, okEq_int, xIn, okIn, inD, xIsN, isNone_n, isNone_t, isNone_l, isNone_i, isNone_s, isMo, mob, pkm, gModI, gDivI, gSubI, gMulI, gPowI, gGt, gLt, gLe, gGe, vNotT, vAndT, vOrT, vAndV, vOrV, opNot, opNotG, vIfE, opTup, opLst, opLstO, Vl.opLen, Vl.opInt, opList, opListO, opTuple, opII, gMax, gMin, vM, vM0, isT, xPop, Vl.opAppend, opExtend, opJoin, vgName, vgTup, vgCons, vgNil, kOpt_some, kOpn_some, kOps_some, Vl.opSum, Vl.opInsert, Vl.opIndex, opDivmod, vSl, vPart, vNoPart, opSl, opSlO, opRev, opCallK, ownD, ownO, objs, renum, uniq, getS, putS, vCall0, vFor, vForW, En.wk, vSeqI, vTupI, vRng1, vRng2, vRngD, vFn, vCallL, vOdd, vWays, vEnum, vZip, chkOf, vLcK, vYes, finD, finO, En.wipe, wipeE, En.trim, trimS, dropNone, clr_n, clr_v, clr_k, clr_o, wth, Vl.ret, takeS, startV,  List.map_cons, List.map_nil, List.length_cons, List.length_nil, List.cons_append, List.nil_append, List.replicate, List.getElem?_cons_succ, List.getElem?_cons_zero, List.getElem?_nil, List.set_cons_succ, List.set_cons_zero, List.set_nil, List.all_nil, List.all_cons, Bool.true_and, Option.map_some, Option.map_none, if_true, if_false, decide_eq_true_eq, Bool.false_eq_true, List.take_succ_cons, List.take_zero, List.take_nil, List.drop_succ_cons, List.drop_zero, List.drop_nil, reduceIte, reduceCtorEq]
    refine ⟨false, ?_, ?_⟩
    · rw [kit_is ok]
      cases d <;> first | rfl | exact absurd rfl (hn _)
    · rw [if_pos (by decide)]
      have e : mkD d = false := by cases d <;> first | rfl | exact absurd rfl (hn _)
      rw [e] at q
      exact q
  cases d with
  | str z =>
    unfold okT at ok
    exact r_ismark (cs := []) (.inl ⟨z, ok.1, rfl, rfl, q⟩)
  | _ => exact no (fun z e => by cases e)
theorem ag_mk {st : List (Option Ob)} {Kp : Bool → En → Prop} : ∀ (ds : List D) (s : Option Sl), okTs ds → (∀ s0, Kp (ds.all mkD) ⟨[s0], st⟩) → ag true (vgName 0) (vN (opCallK ownD pMkD) (vCons (vVar 0) vNil)) none [0] ds ⟨[s], st⟩ Kp
  | [], s, _, h => h s
  | d :: ds, s, ok, h => by
    unfold okTs at ok
    simp only [ag, pMkD, flatD, List.any_cons, List.any_nil, eqv_str, eqv_int, eqv_ti, eqv_it, eqv_st, eqv_ts, cut1, Bool.or_false, Bool.or_true, Bool.and_self, Bool.and_true, Bool.and_false, Bool.false_or, Bool.true_or, and_self, ofs_inj, ofs_app, ofs_len, String.reduceEq, String.reduceNe, String.reduceAppend, decide_true, decide_false, Bool.not_true, Bool.not_false, sz0, sz1, sz2, sz3, sz4, sz5, sz6, sz7, sz8, sz9, sz10, sz11, sz12, sz13, sz14, sz15, sz16, sz17, sz18, sz19, sz20, sz21, sz22, sz23, sz24, sz25, cpow1018, true_and, and_true, Nat.reduceAdd, Nat.reduceLT, Nat.reduceSub, Int.reduceNe, Int.reduceEq, Int.reduceLT, Int.reduceLE, Int.reduceToNat, ne_eq, not_false_eq_true, List.length_map, Nat.lt_irrefl, dV_nx, dV_rt, at0, at1, at2, at3, ix20, ix21, vSeq, vIfS, vTest, vTruth, truth, v2, v1, vN, vCons, vNil, vStar, vVar, vC, xIx, Vl.opI0, Vl.opI, pk, vSet, vAug, vAsg, xgSub, vRet, vRetN, vNext_mk, vDrop, vBreak, vCont, asD, asDs, opMod, opDiv, opMul2, Vl.opAdd, Vl.opAddO, opSub, opPow, opLt, Vl.opLe, opGt, Vl.opGe, xEq, okEq_str, okEq_int, xIn, okIn, inD, xIsN, isNone_n, isNone_t, isNone_l, isNone_i, isNone_s, isMo, mob, pkm, gModI, gDivI, gSubI, gMulI, gPowI, gGt, gLt, gLe, gGe, vNotT, vAndT, vOrT, vAndV, vOrV, opNot, opNotG, vIfE, opTup, opLst, opLstO, Vl.opLen, Vl.opInt, opList, opListO, opTuple, opII, gMax, gMin, vM, vM0, isT, xPop, Vl.opAppend, opExtend, opJoin, vgName, vgTup, vgCons, vgNil, kOpt_some, kOpn_some, kOps_some, Vl.opSum, Vl.opInsert, Vl.opIndex, opDivmod, vSl, vPart, vNoPart, opSl, opSlO, opRev, opCallK, ownD, ownO, objs, renum, uniq, getS, putS, vCall0, vFor, vForW, En.wk, vSeqI, vTupI, vRng1, vRng2, vRngD, vFn, vCallL, vOdd, vWays, vEnum, vZip, chkOf, vLcK, vYes, finD, finO, En.wipe, wipeE, En.trim, trimS, dropNone, clr_n, clr_v, clr_k, clr_o, wth, Vl.ret, takeS, startV,  List.map_cons, List.map_nil, List.length_cons, List.length_nil, List.cons_append, List.nil_append, List.replicate, List.getElem?_cons_succ, List.getElem?_cons_zero, List.getElem?_nil, List.set_cons_succ, List.set_cons_zero, List.set_nil, List.all_nil, List.all_cons, Bool.true_and, Option.map_some, Option.map_none, if_true, if_false, decide_eq_true_eq, Bool.false_eq_true, List.take_succ_cons, List.take_zero, List.take_nil, List.drop_succ_cons, List.drop_zero, List.drop_nil, reduceIte, reduceCtorEq]
    refine ⟨d, ok.1, rfl, ?_⟩
    rw [List.all_cons] at h
    cases hc : mkD d with
    | true =>
      simp only [flatD, List.any_cons, List.any_nil, eqv_str, eqv_int, eqv_ti, eqv_it, eqv_st, eqv_ts, cut1, Bool.or_false, Bool.or_true, Bool.and_self, Bool.and_true, Bool.and_false, Bool.false_or, Bool.true_or, and_self, ofs_inj, ofs_app, ofs_len, String.reduceEq, String.reduceNe, String.reduceAppend, decide_true, decide_false, Bool.not_true, Bool.not_false, sz0, sz1, sz2, sz3, sz4, sz5, sz6, sz7, sz8, sz9, sz10, sz11, sz12, sz13, sz14, sz15, sz16, sz17, sz18, sz19, sz20, sz21, sz22, sz23, sz24, sz25, cpow1018, true_and, and_true, Nat.reduceAdd, Nat.reduceLT, Nat.reduceSub, Int.reduceNe, Int.reduceEq, Int.reduceLT, Int.reduceLE, Int.reduceToNat, ne_eq, not_false_eq_true, List.length_map, Nat.lt_irrefl, dV_nx, dV_rt, at0, at1, at2, at3, ix20, ix21, vSeq, vIfS, vTest, vTruth, truth, v2, v1, vN, vCons, vNil, vStar, vVar, vC, xIx, Vl.opI0, Vl.opI, pk, vSet, vAug, vAsg, xgSub, vRet, vRetN, vNext_mk, vDrop, vBreak, vCont, asD, asDs, opMod, opDiv, opMul2, Vl.opAdd, Vl.opAddO, opSub, opPow, opLt, Vl.opLe, opGt, Vl.opGe, xEq, okEq_str, okEq_int, xIn, okIn, inD, xIsN, isNone_n, isNone_t, isNone_l, isNone_i, isNone_s, isMo, mob, pkm, gModI, gDivI, gSubI, gMulI, gPowI, gGt, gLt, gLe, gGe, vNotT, vAndT, vOrT, vAndV, vOrV, opNot, opNotG, vIfE, opTup, opLst, opLstO, Vl.opLen, Vl.opInt, opList, opListO, opTuple, opII, gMax, gMin, vM, vM0, isT, xPop, Vl.opAppend, opExtend, opJoin, vgName, vgTup, vgCons, vgNil, kOpt_some, kOpn_some, kOps_some, Vl.opSum, Vl.opInsert, Vl.opIndex, opDivmod, vSl, vPart, vNoPart, opSl, opSlO, opRev, opCallK, ownD, ownO, objs, renum, uniq, getS, putS, vCall0, vFor, vForW, En.wk, vSeqI, vTupI, vRng1, vRng2, vRngD, vFn, vCallL, vOdd, vWays, vEnum, vZip, chkOf, vLcK, vYes, finD, finO, En.wipe, wipeE, En.trim, trimS, dropNone, clr_n, clr_v, clr_k, clr_o, wth, Vl.ret, takeS, startV,  List.map_cons, List.map_nil, List.length_cons, List.length_nil, List.cons_append, List.nil_append, List.replicate, List.getElem?_cons_succ, List.getElem?_cons_zero, List.getElem?_nil, List.set_cons_succ, List.set_cons_zero, List.set_nil, List.all_nil, List.all_cons, Bool.true_and, Option.map_some, Option.map_none, if_true, if_false, decide_eq_true_eq, Bool.false_eq_true, List.take_succ_cons, List.take_zero, List.take_nil, List.drop_succ_cons, List.drop_zero, List.drop_nil, reduceIte, reduceCtorEq]
      refine ag_mk ds none ok.2 fun s0 => ?_
      have := h s0
      rw [hc, Bool.true_and] at this
      exact this
    | false =>
      simp only [flatD, List.any_cons, List.any_nil, eqv_str, eqv_int, eqv_ti, eqv_it, eqv_st, eqv_ts, cut1, Bool.or_false, Bool.or_true, Bool.and_self, Bool.and_true, Bool.and_false, Bool.false_or, Bool.true_or, and_self, ofs_inj, ofs_app, ofs_len, String.reduceEq, String.reduceNe, String.reduceAppend, decide_true, decide_false, Bool.not_true, Bool.not_false, sz0, sz1, sz2, sz3, sz4, sz5, sz6, sz7, sz8, sz9, sz10, sz11, sz12, sz13, sz14, sz15, sz16, sz17, sz18, sz19, sz20, sz21, sz22, sz23, sz24, sz25, cpow1018, true_and, and_true, Nat.reduceAdd, Nat.reduceLT, Nat.reduceSub, Int.reduceNe, Int.reduceEq, Int.reduceLT, Int.reduceLE, Int.reduceToNat, ne_eq, not_false_eq_true, List.length_map, Nat.lt_irrefl, dV_nx, dV_rt, at0, at1, at2, at3, ix20, ix21, vSeq, vIfS, vTest, vTruth, truth, v2, v1, vN, vCons, vNil, vStar, vVar, vC, xIx, Vl.opI0, Vl.opI, pk, vSet, vAug, vAsg, xgSub, vRet, vRetN, vNext_mk, vDrop, vBreak, vCont, asD, asDs, opMod, opDiv, opMul2, Vl.opAdd, Vl.opAddO, opSub, opPow, opLt, Vl.opLe, opGt, Vl.opGe, xEq, okEq_str, okEq_int, xIn, okIn, inD, xIsN, isNone_n, isNone_t, isNone_l, isNone_i, isNone_s, isMo, mob, pkm, gModI, gDivI, gSubI, gMulI, gPowI, gGt, gLt, gLe, gGe, vNotT, vAndT, vOrT, vAndV, vOrV, opNot, opNotG, vIfE, opTup, opLst, opLstO, Vl.opLen, Vl.opInt, opList, opListO, opTuple, opII, gMax, gMin, vM, vM0, isT, xPop, Vl.opAppend, opExtend, opJoin, vgName, vgTup, vgCons, vgNil, kOpt_some, kOpn_some, kOps_some, Vl.opSum, Vl.opInsert, Vl.opIndex, opDivmod, vSl, vPart, vNoPart, opSl, opSlO, opRev, opCallK, ownD, ownO, objs, renum, uniq, getS, putS, vCall0, vFor, vForW, En.wk, vSeqI, vTupI, vRng1, vRng2, vRngD, vFn, vCallL, vOdd, vWays, vEnum, vZip, chkOf, vLcK, vYes, finD, finO, En.wipe, wipeE, En.trim, trimS, dropNone, clr_n, clr_v, clr_k, clr_o, wth, Vl.ret, takeS, startV,  List.map_cons, List.map_nil, List.length_cons, List.length_nil, List.cons_append, List.nil_append, List.replicate, List.getElem?_cons_succ, List.getElem?_cons_zero, List.getElem?_nil, List.set_cons_succ, List.set_cons_zero, List.set_nil, List.all_nil, List.all_cons, Bool.true_and, Option.map_some, Option.map_none, if_true, if_false, decide_eq_true_eq, Bool.false_eq_true, List.take_succ_cons, List.take_zero, List.take_nil, List.drop_succ_cons, List.drop_zero, List.drop_nil, reduceIte, reduceCtorEq]
      have := h (some (.val d))
      rw [hc, Bool.false_and] at this
      exact this
theorem canS : ∀ {xs : List Str}, (∀ x ∈ xs, PyData.strOk x = true) → PyData.canLayAll0 (xs.map PyData.str) = true
  | [], _ => canAll_nil
  | x :: xs, h => by
    rw [List.map_cons, canAll_cons, can_str, h x List.mem_cons_self, canS fun y hy => h y (List.mem_cons_of_mem _ hy)]
    rfl
theorem depS : ∀ xs : List Str, PyData.depthAll (xs.map PyData.str) = 0
  | [] => depthAll_nil
  | x :: xs => by
    rw [List.map_cons, depthAll_cons, depth_str, depS xs]
    rfl
theorem shpS {xs : List Str} (h : ∀ x ∈ xs, PyData.strOk x = true) : Vl.shp (.list (xs.map .str)) = true := by
  unfold Vl.shp
  rw [can_lst, canS h, depth_lst, depS]
  rfl
theorem shdS {xs : List Str} (h : ∀ x ∈ xs, PyData.strOk x = true) : SeqAt.shaped (.list (xs.map .str)) = true := by
  unfold SeqAt.shaped
  rw [can_lst, canS h, depth_lst, depS]
  rfl
theorem eqv_strs2 : ∀ xs ys : List Str, PyData.eqv (.list (xs.map .str)) (.list (ys.map .str)) = decide (xs = ys)
  | [], [] => by
    rw [eqv_lst]
    exact eqvAll_nil
  | [], y :: ys => by
    rw [eqv_lst]
    exact (eqvAll_nc _ _).trans (by simp)
  | x :: xs, [] => by
    rw [eqv_lst]
    exact (eqvAll_cn _ _).trans (by simp)
  | x :: xs, y :: ys => by
    rw [eqv_lst, List.map_cons, List.map_cons, eqvAll_cons, eqv_str, ← eqv_lst, eqv_strs2 xs ys]
    by_cases e : x = y
    · by_cases f : xs = ys <;> simp [e, f]
    · simp [e]
theorem mk_all : ∀ {ds : List D}, ds.all mkD = true → ∃ xs : List Str, ds = xs.map .str ∧ xs.all isMk = true
  | [], _ => ⟨[], rfl, rfl⟩
  | d :: ds, h => by
    rw [List.all_cons, Bool.and_eq_true] at h
    obtain ⟨xs, rfl, h2⟩ := mk_all h.2
    cases d with
    | str z => exact ⟨z :: xs, rfl, by rw [List.all_cons, h2, Bool.and_true]; exact h.1⟩
    | _ => exact absurd h.1 (by simp [mkD])
theorem all_mk' : ∀ (xs : List Str), (xs.map PyData.str).all mkD = xs.all isMk
  | [] => rfl
  | x :: xs => by
    rw [List.map_cons, List.all_cons, List.all_cons, all_mk' xs]
    rfl
theorem okS_of {xs : List Str} (h : okTs (xs.map PyData.str)) : ∀ x ∈ xs, PyData.strOk x = true := fun x hx => by
  have := okTs_mem h (.str x) (List.mem_map_of_mem hx)
  unfold okT at this
  exact this.2
def hfM : D → Option (List Str)
  | .list ms => match txts ms with
    | some xs => if xs.all isMk = true ∧ xs = sset xs then some xs else none
    | none => none
  | _ => none
/-- the marks and the trees of a thing of the right form -/
def hfD : D → Option (List Str × List D)
  | .tuple [a, .list ts] => (hfM a).map fun ms => (ms, ts)
  | _ => none
def pHfD : VSp := fun ss st Kp => ∃ d : D, okT d ∧ ss = [.val d] ∧ st = [] ∧ Kp (.val (.bool (hfD d).isSome)) []
theorem txts_inv : ∀ {a : List D} {xs : List Str}, txts a = some xs → a = xs.map .str
  | [], xs, h => by
    cases h
    rfl
  | d :: a, xs, h => by
    cases d with
    | str z =>
      have h' : (txts a).map (z :: ·) = some xs := h
      obtain ⟨ys, hy, rfl⟩ := Option.map_eq_some_iff.mp h'
      rw [txts_inv hy]
      rfl
    | _ => cases h
theorem hfM_of {d : D} {ms : List Str} (h : hfM d = some ms) : d = .list (ms.map .str) ∧ ms.all isMk = true ∧ ms = sset ms := by
  unfold hfM at h
  split at h
  · rename_i a
    split at h
    · rename_i xs hx
      split at h
      · rename_i c
        cases h
        rw [txts_inv hx]
        exact ⟨rfl, c.1, c.2⟩
      · cases h
    · cases h
  · cases h
theorem hfM_map (xs : List Str) (h : xs.all isMk = true) : hfM (.list (xs.map .str)) = if xs = sset xs then some xs else none := by
  unfold hfM
  simp only [txts_map, h, true_and]
theorem hfM_no {ms : List D} (h : ms.all mkD = false) : hfM (.list ms) = none := by
  cases he : hfM (.list ms) with
  | none => rfl
  | some xs =>
    obtain ⟨e1, e2, _⟩ := hfM_of he
    injection e1 with e1
    rw [e1, all_mk', e2] at h
    cases h
theorem hfD_of {d : D} {ms : List Str} {ts : List D} (h : hfD d = some (ms, ts)) : d = .tuple [.list (ms.map .str), .list ts] ∧ ms.all isMk = true ∧ ms = sset ms := by
  unfold hfD at h
  split at h
  · rename_i a b
    obtain ⟨xs, hx, e⟩ := Option.map_eq_some_iff.mp h
    cases e
    obtain ⟨rfl, h2, h3⟩ := hfM_of hx
    exact ⟨rfl, h2, h3⟩
  · cases h
theorem hfD_len {ds : List D} (h : ds.length ≠ 2) : hfD (.tuple ds) = none := by
  cases he : hfD (.tuple ds) with
  | none => rfl
  | some p =>
    obtain ⟨e1, _⟩ := hfD_of (ms := p.1) (ts := p.2) he
    injection e1 with e1
    rw [e1] at h
    exact absurd rfl h
theorem hfD_two {a b : D} (h : isLs a = false ∨ isLs b = false) : hfD (.tuple [a, b]) = none := by
  cases he : hfD (.tuple [a, b]) with
  | none => rfl
  | some p =>
    obtain ⟨e1, _⟩ := hfD_of (ms := p.1) (ts := p.2) he
    injection e1 with e1
    cases e1
    rcases h with h | h <;> cases h
theorem r_hfD {ss cs Kp} (h : pHfD ss cs Kp) : t_hasformv4 pMkD (dV cs.length Kp) ⟨startV 3 ss, cs.map some⟩ := by
  obtain ⟨d, ok, rfl, rfl, q⟩ := h
  have no1 : isTp d = false → t_hasformv4 pMkD (dV ([] : List Ob).length Kp) ⟨startV 3 [.val d], []⟩ := fun hn => by
    simp only [t_hasformv4, t_hasformv4_8, t_hasformv4_1, vIsi, flatD, List.any_cons, List.any_nil, eqv_str, eqv_int, eqv_ti, eqv_it, eqv_st, eqv_ts, cut1, Bool.or_false, Bool.or_true, Bool.and_self, Bool.and_true, Bool.and_false, Bool.false_or, Bool.true_or, and_self, ofs_inj, ofs_app, ofs_len, String.reduceEq, String.reduceNe, String.reduceAppend, decide_true, decide_false, Bool.not_true, Bool.not_false, sz0, sz1, sz2, sz3, sz4, sz5, sz6, sz7, sz8, sz9, sz10, sz11, sz12, sz13, sz14, sz15, sz16, sz17, sz18, sz19, sz20, sz21, sz22, sz23, sz24, sz25, cpow1018, true_and, and_true, Nat.reduceAdd, Nat.reduceLT, Nat.reduceSub, Int.reduceNe, Int.reduceEq, Int.reduceLT, Int.reduceLE, Int.reduceToNat, ne_eq, not_false_eq_true, List.length_map, Nat.lt_irrefl, dV_nx, dV_rt, at0, at1, at2, at3, ix20, ix21, vSeq, vIfS, vTest, vTruth, truth, v2, v1, vN, vCons, vNil, vStar, vVar, vC, xIx, Vl.opI0, Vl.opI, pk, vSet, vAug, vAsg, xgSub, vRet, vRetN, vNext_mk, vDrop, vBreak, vCont, asD, asDs, opMod, opDiv, opMul2, Vl.opAdd, Vl.opAddO, opSub, opPow, opLt, Vl.opLe, opGt, Vl.opGe, xEq, okEq_str, okEq_int, xIn, okIn, inD, xIsN, isNone_n, isNone_t, isNone_l, isNone_i, isNone_s, isMo, mob, pkm, gModI, gDivI, gSubI, gMulI, gPowI, gGt, gLt, gLe, gGe, vNotT, vAndT, vOrT, vAndV, vOrV, opNot, opNotG, vIfE, opTup, opLst, opLstO, Vl.opLen, Vl.opInt, opList, opListO, opTuple, opII, gMax, gMin, vM, vM0, isT, xPop, Vl.opAppend, opExtend, opJoin, vgName, vgTup, vgCons, vgNil, kOpt_some, kOpn_some, kOps_some, Vl.opSum, Vl.opInsert, Vl.opIndex, opDivmod, vSl, vPart, vNoPart, opSl, opSlO, opRev, opCallK, ownD, ownO, objs, renum, uniq, getS, putS, vCall0, vFor, vForW, En.wk, vSeqI, vTupI, vRng1, vRng2, vRngD, vFn, vCallL, vOdd, vWays, vEnum, vZip, chkOf, vLcK, vYes, finD, finO, En.wipe, wipeE, En.trim, trimS, dropNone, clr_n, clr_v, clr_k, clr_o, wth, Vl.ret, takeS, startV,  List.map_cons, List.map_nil, List.length_cons, List.length_nil, List.cons_append, List.nil_append, List.replicate, List.getElem?_cons_succ, List.getElem?_cons_zero, List.getElem?_nil, List.set_cons_succ, List.set_cons_zero, List.set_nil, List.all_nil, List.all_cons, Bool.true_and, Option.map_some, Option.map_none, if_true, if_false, decide_eq_true_eq, Bool.false_eq_true, List.take_succ_cons, List.take_zero, List.take_nil, List.drop_succ_cons, List.drop_zero, List.drop_nil, reduceIte, reduceCtorEq]
    refine ⟨false, by rw [kit_it ok, hn], ?_⟩
    rw [if_pos (by decide)]
    have e : hfD d = none := by
      unfold hfD
      split
      · cases hn
      · rfl
    rw [e] at q
    exact q
  cases d with
  | tuple ds =>
    unfold okT at ok
    match ds, ok, q with
    | [], ok, q =>
      simp only [t_hasformv4, t_hasformv4_8, t_hasformv4_1, vIsi, flatD, List.any_cons, List.any_nil, eqv_str, eqv_int, eqv_ti, eqv_it, eqv_st, eqv_ts, cut1, Bool.or_false, Bool.or_true, Bool.and_self, Bool.and_true, Bool.and_false, Bool.false_or, Bool.true_or, and_self, ofs_inj, ofs_app, ofs_len, String.reduceEq, String.reduceNe, String.reduceAppend, decide_true, decide_false, Bool.not_true, Bool.not_false, sz0, sz1, sz2, sz3, sz4, sz5, sz6, sz7, sz8, sz9, sz10, sz11, sz12, sz13, sz14, sz15, sz16, sz17, sz18, sz19, sz20, sz21, sz22, sz23, sz24, sz25, cpow1018, true_and, and_true, Nat.reduceAdd, Nat.reduceLT, Nat.reduceSub, Int.reduceNe, Int.reduceEq, Int.reduceLT, Int.reduceLE, Int.reduceToNat, ne_eq, not_false_eq_true, List.length_map, Nat.lt_irrefl, dV_nx, dV_rt, at0, at1, at2, at3, ix20, ix21, vSeq, vIfS, vTest, vTruth, truth, v2, v1, vN, vCons, vNil, vStar, vVar, vC, xIx, Vl.opI0, Vl.opI, pk, vSet, vAug, vAsg, xgSub, vRet, vRetN, vNext_mk, vDrop, vBreak, vCont, asD, asDs, opMod, opDiv, opMul2, Vl.opAdd, Vl.opAddO, opSub, opPow, opLt, Vl.opLe, opGt, Vl.opGe, xEq, okEq_str, okEq_int, xIn, okIn, inD, xIsN, isNone_n, isNone_t, isNone_l, isNone_i, isNone_s, isMo, mob, pkm, gModI, gDivI, gSubI, gMulI, gPowI, gGt, gLt, gLe, gGe, vNotT, vAndT, vOrT, vAndV, vOrV, opNot, opNotG, vIfE, opTup, opLst, opLstO, Vl.opLen, Vl.opInt, opList, opListO, opTuple, opII, gMax, gMin, vM, vM0, isT, xPop, Vl.opAppend, opExtend, opJoin, vgName, vgTup, vgCons, vgNil, kOpt_some, kOpn_some, kOps_some, Vl.opSum, Vl.opInsert, Vl.opIndex, opDivmod, vSl, vPart, vNoPart, opSl, opSlO, opRev, opCallK, ownD, ownO, objs, renum, uniq, getS, putS, vCall0, vFor, vForW, En.wk, vSeqI, vTupI, vRng1, vRng2, vRngD, vFn, vCallL, vOdd, vWays, vEnum, vZip, chkOf, vLcK, vYes, finD, finO, En.wipe, wipeE, En.trim, trimS, dropNone, clr_n, clr_v, clr_k, clr_o, wth, Vl.ret, takeS, startV,  List.map_cons, List.map_nil, List.length_cons, List.length_nil, List.cons_append, List.nil_append, List.replicate, List.getElem?_cons_succ, List.getElem?_cons_zero, List.getElem?_nil, List.set_cons_succ, List.set_cons_zero, List.set_nil, List.all_nil, List.all_cons, Bool.true_and, Option.map_some, Option.map_none, if_true, if_false, decide_eq_true_eq, Bool.false_eq_true, List.take_succ_cons, List.take_zero, List.take_nil, List.drop_succ_cons, List.drop_zero, List.drop_nil, reduceIte, reduceCtorEq]
      refine ⟨true, by rw [kit_it (d := .tuple []) (by unfold okT; exact ok)]; rfl, ?_⟩
      rw [if_neg (by decide)]
      exact q
    | [a], ok, q =>
      simp only [t_hasformv4, t_hasformv4_8, t_hasformv4_1, vIsi, flatD, List.any_cons, List.any_nil, eqv_str, eqv_int, eqv_ti, eqv_it, eqv_st, eqv_ts, cut1, Bool.or_false, Bool.or_true, Bool.and_self, Bool.and_true, Bool.and_false, Bool.false_or, Bool.true_or, and_self, ofs_inj, ofs_app, ofs_len, String.reduceEq, String.reduceNe, String.reduceAppend, decide_true, decide_false, Bool.not_true, Bool.not_false, sz0, sz1, sz2, sz3, sz4, sz5, sz6, sz7, sz8, sz9, sz10, sz11, sz12, sz13, sz14, sz15, sz16, sz17, sz18, sz19, sz20, sz21, sz22, sz23, sz24, sz25, cpow1018, true_and, and_true, Nat.reduceAdd, Nat.reduceLT, Nat.reduceSub, Int.reduceNe, Int.reduceEq, Int.reduceLT, Int.reduceLE, Int.reduceToNat, ne_eq, not_false_eq_true, List.length_map, Nat.lt_irrefl, dV_nx, dV_rt, at0, at1, at2, at3, ix20, ix21, vSeq, vIfS, vTest, vTruth, truth, v2, v1, vN, vCons, vNil, vStar, vVar, vC, xIx, Vl.opI0, Vl.opI, pk, vSet, vAug, vAsg, xgSub, vRet, vRetN, vNext_mk, vDrop, vBreak, vCont, asD, asDs, opMod, opDiv, opMul2, Vl.opAdd, Vl.opAddO, opSub, opPow, opLt, Vl.opLe, opGt, Vl.opGe, xEq, okEq_str, okEq_int, xIn, okIn, inD, xIsN, isNone_n, isNone_t, isNone_l, isNone_i, isNone_s, isMo, mob, pkm, gModI, gDivI, gSubI, gMulI, gPowI, gGt, gLt, gLe, gGe, vNotT, vAndT, vOrT, vAndV, vOrV, opNot, opNotG, vIfE, opTup, opLst, opLstO, Vl.opLen, Vl.opInt, opList, opListO, opTuple, opII, gMax, gMin, vM, vM0, isT, xPop, Vl.opAppend, opExtend, opJoin, vgName, vgTup, vgCons, vgNil, kOpt_some, kOpn_some, kOps_some, Vl.opSum, Vl.opInsert, Vl.opIndex, opDivmod, vSl, vPart, vNoPart, opSl, opSlO, opRev, opCallK, ownD, ownO, objs, renum, uniq, getS, putS, vCall0, vFor, vForW, En.wk, vSeqI, vTupI, vRng1, vRng2, vRngD, vFn, vCallL, vOdd, vWays, vEnum, vZip, chkOf, vLcK, vYes, finD, finO, En.wipe, wipeE, En.trim, trimS, dropNone, clr_n, clr_v, clr_k, clr_o, wth, Vl.ret, takeS, startV,  List.map_cons, List.map_nil, List.length_cons, List.length_nil, List.cons_append, List.nil_append, List.replicate, List.getElem?_cons_succ, List.getElem?_cons_zero, List.getElem?_nil, List.set_cons_succ, List.set_cons_zero, List.set_nil, List.all_nil, List.all_cons, Bool.true_and, Option.map_some, Option.map_none, if_true, if_false, decide_eq_true_eq, Bool.false_eq_true, List.take_succ_cons, List.take_zero, List.take_nil, List.drop_succ_cons, List.drop_zero, List.drop_nil, reduceIte, reduceCtorEq]
      refine ⟨true, by rw [kit_it (d := .tuple [a]) (by unfold okT; exact ok)]; rfl, ?_⟩
      rw [if_neg (by decide)]
      rw [if_pos (by decide)]
      rw [hfD_len (by simp)] at q
      exact q
    | a :: b :: c :: r, ok, q =>
      simp only [t_hasformv4, t_hasformv4_8, t_hasformv4_1, vIsi, flatD, List.any_cons, List.any_nil, eqv_str, eqv_int, eqv_ti, eqv_it, eqv_st, eqv_ts, cut1, Bool.or_false, Bool.or_true, Bool.and_self, Bool.and_true, Bool.and_false, Bool.false_or, Bool.true_or, and_self, ofs_inj, ofs_app, ofs_len, String.reduceEq, String.reduceNe, String.reduceAppend, decide_true, decide_false, Bool.not_true, Bool.not_false, sz0, sz1, sz2, sz3, sz4, sz5, sz6, sz7, sz8, sz9, sz10, sz11, sz12, sz13, sz14, sz15, sz16, sz17, sz18, sz19, sz20, sz21, sz22, sz23, sz24, sz25, cpow1018, true_and, and_true, Nat.reduceAdd, Nat.reduceLT, Nat.reduceSub, Int.reduceNe, Int.reduceEq, Int.reduceLT, Int.reduceLE, Int.reduceToNat, ne_eq, not_false_eq_true, List.length_map, Nat.lt_irrefl, dV_nx, dV_rt, at0, at1, at2, at3, ix20, ix21, vSeq, vIfS, vTest, vTruth, truth, v2, v1, vN, vCons, vNil, vStar, vVar, vC, xIx, Vl.opI0, Vl.opI, pk, vSet, vAug, vAsg, xgSub, vRet, vRetN, vNext_mk, vDrop, vBreak, vCont, asD, asDs, opMod, opDiv, opMul2, Vl.opAdd, Vl.opAddO, opSub, opPow, opLt, Vl.opLe, opGt, Vl.opGe, xEq, okEq_str, okEq_int, xIn, okIn, inD, xIsN, isNone_n, isNone_t, isNone_l, isNone_i, isNone_s, isMo, mob, pkm, gModI, gDivI, gSubI, gMulI, gPowI, gGt, gLt, gLe, gGe, vNotT, vAndT, vOrT, vAndV, vOrV, opNot, opNotG, vIfE, opTup, opLst, opLstO, Vl.opLen, Vl.opInt, opList, opListO, opTuple, opII, gMax, gMin, vM, vM0, isT, xPop, Vl.opAppend, opExtend, opJoin, vgName, vgTup, vgCons, vgNil, kOpt_some, kOpn_some, kOps_some, Vl.opSum, Vl.opInsert, Vl.opIndex, opDivmod, vSl, vPart, vNoPart, opSl, opSlO, opRev, opCallK, ownD, ownO, objs, renum, uniq, getS, putS, vCall0, vFor, vForW, En.wk, vSeqI, vTupI, vRng1, vRng2, vRngD, vFn, vCallL, vOdd, vWays, vEnum, vZip, chkOf, vLcK, vYes, finD, finO, En.wipe, wipeE, En.trim, trimS, dropNone, clr_n, clr_v, clr_k, clr_o, wth, Vl.ret, takeS, startV,  List.map_cons, List.map_nil, List.length_cons, List.length_nil, List.cons_append, List.nil_append, List.replicate, List.getElem?_cons_succ, List.getElem?_cons_zero, List.getElem?_nil, List.set_cons_succ, List.set_cons_zero, List.set_nil, List.all_nil, List.all_cons, Bool.true_and, Option.map_some, Option.map_none, if_true, if_false, decide_eq_true_eq, Bool.false_eq_true, List.take_succ_cons, List.take_zero, List.take_nil, List.drop_succ_cons, List.drop_zero, List.drop_nil, reduceIte, reduceCtorEq]
      refine ⟨true, by rw [kit_it (d := .tuple (a :: b :: c :: r)) (by unfold okT; exact ok)]; rfl, ?_⟩
      rw [if_neg (by decide), if_pos (by rw [decide_eq_false (by omega)]; rfl)]
      rw [hfD_len (by simp)] at q
      exact q
    | [a, b], ok, q =>
      simp only [t_hasformv4, t_hasformv4_8, t_hasformv4_7, vIsi, flatD, List.any_cons, List.any_nil, eqv_str, eqv_int, eqv_ti, eqv_it, eqv_st, eqv_ts, cut1, Bool.or_false, Bool.or_true, Bool.and_self, Bool.and_true, Bool.and_false, Bool.false_or, Bool.true_or, and_self, ofs_inj, ofs_app, ofs_len, String.reduceEq, String.reduceNe, String.reduceAppend, decide_true, decide_false, Bool.not_true, Bool.not_false, sz0, sz1, sz2, sz3, sz4, sz5, sz6, sz7, sz8, sz9, sz10, sz11, sz12, sz13, sz14, sz15, sz16, sz17, sz18, sz19, sz20, sz21, sz22, sz23, sz24, sz25, cpow1018, true_and, and_true, Nat.reduceAdd, Nat.reduceLT, Nat.reduceSub, Int.reduceNe, Int.reduceEq, Int.reduceLT, Int.reduceLE, Int.reduceToNat, ne_eq, not_false_eq_true, List.length_map, Nat.lt_irrefl, dV_nx, dV_rt, at0, at1, at2, at3, ix20, ix21, vSeq, vIfS, vTest, vTruth, truth, v2, v1, vN, vCons, vNil, vStar, vVar, vC, xIx, Vl.opI0, Vl.opI, pk, vSet, vAug, vAsg, xgSub, vRet, vRetN, vDrop, vBreak, vCont, asD, asDs, opMod, opDiv, opMul2, Vl.opAdd, Vl.opAddO, opSub, opPow, opLt, Vl.opLe, opGt, Vl.opGe, xEq, okEq_str, okEq_int, xIn, okIn, inD, xIsN, isNone_n, isNone_t, isNone_l, isNone_i, isNone_s, isMo, mob, pkm, gModI, gDivI, gSubI, gMulI, gPowI, gGt, gLt, gLe, gGe, vNotT, vAndT, vOrT, vAndV, vOrV, opNot, opNotG, vIfE, opTup, opLst, opLstO, Vl.opLen, Vl.opInt, opList, opListO, opTuple, opII, gMax, gMin, vM, vM0, isT, xPop, Vl.opAppend, opExtend, opJoin, vgName, vgTup, vgCons, vgNil, kOpt_some, kOpn_some, kOps_some, Vl.opSum, Vl.opInsert, Vl.opIndex, opDivmod, vSl, vPart, vNoPart, opSl, opSlO, opRev, opCallK, ownD, ownO, objs, renum, uniq, getS, putS, vCall0, vFor, vForW, En.wk, vSeqI, vTupI, vRng1, vRng2, vRngD, vFn, vCallL, vOdd, vWays, vEnum, vZip, chkOf, vLcK, vYes, finD, finO, En.wipe, wipeE, En.trim, trimS, dropNone, clr_n, clr_v, clr_k, clr_o, wth, Vl.ret, takeS, startV,  List.map_cons, List.map_nil, List.length_cons, List.length_nil, List.cons_append, List.nil_append, List.replicate, List.getElem?_cons_succ, List.getElem?_cons_zero, List.getElem?_nil, List.set_cons_succ, List.set_cons_zero, List.set_nil, List.all_nil, List.all_cons, Bool.true_and, Option.map_some, Option.map_none, if_true, if_false, decide_eq_true_eq, Bool.false_eq_true, List.take_succ_cons, List.take_zero, List.take_nil, List.drop_succ_cons, List.drop_zero, List.drop_nil, reduceIte, reduceCtorEq]
      refine ⟨true, by rw [kit_it (d := .tuple [a, b]) (by unfold okT; exact ok)]; rfl, ?_⟩
      rw [if_neg (by decide), vNext_mk]
      simp only [t_hasformv4_7, t_hasformv4_6, vIsi, flatD, List.any_cons, List.any_nil, eqv_str, eqv_int, eqv_ti, eqv_it, eqv_st, eqv_ts, cut1, Bool.or_false, Bool.or_true, Bool.and_self, Bool.and_true, Bool.and_false, Bool.false_or, Bool.true_or, and_self, ofs_inj, ofs_app, ofs_len, String.reduceEq, String.reduceNe, String.reduceAppend, decide_true, decide_false, Bool.not_true, Bool.not_false, sz0, sz1, sz2, sz3, sz4, sz5, sz6, sz7, sz8, sz9, sz10, sz11, sz12, sz13, sz14, sz15, sz16, sz17, sz18, sz19, sz20, sz21, sz22, sz23, sz24, sz25, cpow1018, true_and, and_true, Nat.reduceAdd, Nat.reduceLT, Nat.reduceSub, Int.reduceNe, Int.reduceEq, Int.reduceLT, Int.reduceLE, Int.reduceToNat, ne_eq, not_false_eq_true, List.length_map, Nat.lt_irrefl, dV_nx, dV_rt, at0, at1, at2, at3, ix20, ix21, vSeq, vIfS, vTest, vTruth, truth, v2, v1, vN, vCons, vNil, vStar, vVar, vC, xIx, Vl.opI0, Vl.opI, pk, vSet, vAug, vAsg, xgSub, vRet, vRetN, vDrop, vBreak, vCont, asD, asDs, opMod, opDiv, opMul2, Vl.opAdd, Vl.opAddO, opSub, opPow, opLt, Vl.opLe, opGt, Vl.opGe, xEq, okEq_str, okEq_int, xIn, okIn, inD, xIsN, isNone_n, isNone_t, isNone_l, isNone_i, isNone_s, isMo, mob, pkm, gModI, gDivI, gSubI, gMulI, gPowI, gGt, gLt, gLe, gGe, vNotT, vAndT, vOrT, vAndV, vOrV, opNot, opNotG, vIfE, opTup, opLst, opLstO, Vl.opLen, Vl.opInt, opList, opListO, opTuple, opII, gMax, gMin, vM, vM0, isT, xPop, Vl.opAppend, opExtend, opJoin, vgName, vgTup, vgCons, vgNil, kOpt_some, kOpn_some, kOps_some, Vl.opSum, Vl.opInsert, Vl.opIndex, opDivmod, vSl, vPart, vNoPart, opSl, opSlO, opRev, opCallK, ownD, ownO, objs, renum, uniq, getS, putS, vCall0, vFor, vForW, En.wk, vSeqI, vTupI, vRng1, vRng2, vRngD, vFn, vCallL, vOdd, vWays, vEnum, vZip, chkOf, vLcK, vYes, finD, finO, En.wipe, wipeE, En.trim, trimS, dropNone, clr_n, clr_v, clr_k, clr_o, wth, Vl.ret, takeS, startV,  List.map_cons, List.map_nil, List.length_cons, List.length_nil, List.cons_append, List.nil_append, List.replicate, List.getElem?_cons_succ, List.getElem?_cons_zero, List.getElem?_nil, List.set_cons_succ, List.set_cons_zero, List.set_nil, List.all_nil, List.all_cons, Bool.true_and, Option.map_some, Option.map_none, if_true, if_false, decide_eq_true_eq, Bool.false_eq_true, List.take_succ_cons, List.take_zero, List.take_nil, List.drop_succ_cons, List.drop_zero, List.drop_nil, reduceIte, reduceCtorEq]
      rw [if_neg (by decide)]
      have ok' := ok.2
      unfold okTs okTs at ok'
      refine ⟨_, kit_il ok'.1, ?_⟩
      by_cases ha : isLs a = true
      · rw [ha, if_neg (by decide)]
        refine ⟨_, kit_il ok'.2.1, ?_⟩
        by_cases hb : isLs b = true
        · rw [hb, if_neg (by decide), vNext_mk]
          obtain ⟨ms, rfl⟩ : ∃ ms, a = .list ms := by
            cases a <;> first | exact ⟨_, rfl⟩ | cases ha
          obtain ⟨ts, rfl⟩ : ∃ ts, b = .list ts := by
            cases b <;> first | exact ⟨_, rfl⟩ | cases hb
          have oka := ok'.1
          unfold okT at oka
          simp only [t_hasformv4_5, vAG, flatD, List.any_cons, List.any_nil, eqv_str, eqv_int, eqv_ti, eqv_it, eqv_st, eqv_ts, cut1, Bool.or_false, Bool.or_true, Bool.and_self, Bool.and_true, Bool.and_false, Bool.false_or, Bool.true_or, and_self, ofs_inj, ofs_app, ofs_len, String.reduceEq, String.reduceNe, String.reduceAppend, decide_true, decide_false, Bool.not_true, Bool.not_false, sz0, sz1, sz2, sz3, sz4, sz5, sz6, sz7, sz8, sz9, sz10, sz11, sz12, sz13, sz14, sz15, sz16, sz17, sz18, sz19, sz20, sz21, sz22, sz23, sz24, sz25, cpow1018, true_and, and_true, Nat.reduceAdd, Nat.reduceLT, Nat.reduceSub, Int.reduceNe, Int.reduceEq, Int.reduceLT, Int.reduceLE, Int.reduceToNat, ne_eq, not_false_eq_true, List.length_map, Nat.lt_irrefl, dV_nx, dV_rt, at0, at1, at2, at3, ix20, ix21, vSeq, vIfS, vTest, vTruth, truth, v2, v1, vN, vCons, vNil, vStar, vVar, vC, xIx, Vl.opI0, Vl.opI, pk, vSet, vAug, vAsg, xgSub, vRet, vRetN, vDrop, vBreak, vCont, asD, asDs, opMod, opDiv, opMul2, Vl.opAdd, Vl.opAddO, opSub, opPow, opLt, Vl.opLe, opGt, Vl.opGe, xEq, okEq_str, okEq_int, xIn, okIn, inD, xIsN, isNone_n, isNone_t, isNone_l, isNone_i, isNone_s, isMo, mob, pkm, gModI, gDivI, gSubI, gMulI, gPowI, gGt, gLt, gLe, gGe, vNotT, vAndT, vOrT, vAndV, vOrV, opNot, opNotG, vIfE, opTup, opLst, opLstO, Vl.opLen, Vl.opInt, opList, opListO, opTuple, opII, gMax, gMin, vM, vM0, isT, xPop, Vl.opAppend, opExtend, opJoin, vgName, vgTup, vgCons, vgNil, kOpt_some, kOpn_some, kOps_some, Vl.opSum, Vl.opInsert, Vl.opIndex, opDivmod, vSl, vPart, vNoPart, opSl, opSlO, opRev, opCallK, ownD, ownO, objs, renum, uniq, getS, putS, vCall0, vFor, vForW, En.wk, vSeqI, vTupI, vRng1, vRng2, vRngD, vFn, vCallL, vOdd, vWays, vEnum, vZip, chkOf, vLcK, vYes, finD, finO, En.wipe, wipeE, En.trim, trimS, dropNone, clr_n, clr_v, clr_k, clr_o, wth, Vl.ret, takeS, startV,  List.map_cons, List.map_nil, List.length_cons, List.length_nil, List.cons_append, List.nil_append, List.replicate, List.getElem?_cons_succ, List.getElem?_cons_zero, List.getElem?_nil, List.set_cons_succ, List.set_cons_zero, List.set_nil, List.all_nil, List.all_cons, Bool.true_and, Option.map_some, Option.map_none, if_true, if_false, decide_eq_true_eq, Bool.false_eq_true, List.take_succ_cons, List.take_zero, List.take_nil, List.drop_succ_cons, List.drop_zero, List.drop_nil, reduceIte, reduceCtorEq]
          refine ag_mk ms none oka.2 fun s0 => ?_
          by_cases hm : ms.all mkD = true
          · obtain ⟨xs, rfl, hx⟩ := mk_all hm
            rw [hm, if_neg (by decide), vNext_mk]
            simp only [t_hasformv4_4, opSSet, flatD, List.any_cons, List.any_nil, eqv_str, eqv_int, eqv_ti, eqv_it, eqv_st, eqv_ts, cut1, Bool.or_false, Bool.or_true, Bool.and_self, Bool.and_true, Bool.and_false, Bool.false_or, Bool.true_or, and_self, ofs_inj, ofs_app, ofs_len, String.reduceEq, String.reduceNe, String.reduceAppend, decide_true, decide_false, Bool.not_true, Bool.not_false, sz0, sz1, sz2, sz3, sz4, sz5, sz6, sz7, sz8, sz9, sz10, sz11, sz12, sz13, sz14, sz15, sz16, sz17, sz18, sz19, sz20, sz21, sz22, sz23, sz24, sz25, cpow1018, true_and, and_true, Nat.reduceAdd, Nat.reduceLT, Nat.reduceSub, Int.reduceNe, Int.reduceEq, Int.reduceLT, Int.reduceLE, Int.reduceToNat, ne_eq, not_false_eq_true, List.length_map, Nat.lt_irrefl, dV_nx, dV_rt, at0, at1, at2, at3, ix20, ix21, vSeq, vIfS, vTest, vTruth, truth, v2, v1, vN, vCons, vNil, vStar, vVar, vC, xIx, Vl.opI0, Vl.opI, pk, vSet, vAug, vAsg, xgSub, vRet, vRetN, vDrop, vBreak, vCont, asD, asDs, opMod, opDiv, opMul2, Vl.opAdd, Vl.opAddO, opSub, opPow, opLt, Vl.opLe, opGt, Vl.opGe, xEq, okEq_str, okEq_int, xIn, okIn, inD, xIsN, isNone_n, isNone_t, isNone_l, isNone_i, isNone_s, isMo, mob, pkm, gModI, gDivI, gSubI, gMulI, gPowI, gGt, gLt, gLe, gGe, vNotT, vAndT, vOrT, vAndV, vOrV, opNot, opNotG, vIfE, opTup, opLst, opLstO, Vl.opLen, Vl.opInt, opList, opListO, opTuple, opII, gMax, gMin, vM, vM0, isT, xPop, Vl.opAppend, opExtend, opJoin, vgName, vgTup, vgCons, vgNil, kOpt_some, kOpn_some, kOps_some, Vl.opSum, Vl.opInsert, Vl.opIndex, opDivmod, vSl, vPart, vNoPart, opSl, opSlO, opRev, opCallK, ownD, ownO, objs, renum, uniq, getS, putS, vCall0, vFor, vForW, En.wk, vSeqI, vTupI, vRng1, vRng2, vRngD, vFn, vCallL, vOdd, vWays, vEnum, vZip, chkOf, vLcK, vYes, finD, finO, En.wipe, wipeE, En.trim, trimS, dropNone, clr_n, clr_v, clr_k, clr_o, wth, Vl.ret, takeS, startV,  List.map_cons, List.map_nil, List.length_cons, List.length_nil, List.cons_append, List.nil_append, List.replicate, List.getElem?_cons_succ, List.getElem?_cons_zero, List.getElem?_nil, List.set_cons_succ, List.set_cons_zero, List.set_nil, List.all_nil, List.all_cons, Bool.true_and, Option.map_some, Option.map_none, if_true, if_false, decide_eq_true_eq, Bool.false_eq_true, List.take_succ_cons, List.take_zero, List.take_nil, List.drop_succ_cons, List.drop_zero, List.drop_nil, reduceIte, reduceCtorEq]
            have ss := okS_of oka.2
            have so : ∀ x ∈ sset xs, PyData.strOk x = true := fun x hx => ss x ((mem_sset x xs).mp hx)
            refine ⟨xs, txts_map xs, by have := oka.1; rw [List.length_map] at this; omega, okEq_of (shpS ss) (shpS so), ?_⟩
            rw [eqv_strs2]
            have e : (hfD (.tuple [.list (xs.map .str), .list ts])).isSome = decide (xs = sset xs) := by
              show ((hfM (.list (xs.map .str))).map fun ms => (ms, ts)).isSome = _
              rw [hfM_map xs hx]
              by_cases c : xs = sset xs
              · rw [if_pos c, decide_eq_true c]
                rfl
              · rw [if_neg c, decide_eq_false c]
                rfl
            rw [e] at q
            exact q
          · have hm' : ms.all mkD = false := by simpa using hm
            rw [hm', if_pos (by decide)]
            simp only [t_hasformv4_3, flatD, List.any_cons, List.any_nil, eqv_str, eqv_int, eqv_ti, eqv_it, eqv_st, eqv_ts, cut1, Bool.or_false, Bool.or_true, Bool.and_self, Bool.and_true, Bool.and_false, Bool.false_or, Bool.true_or, and_self, ofs_inj, ofs_app, ofs_len, String.reduceEq, String.reduceNe, String.reduceAppend, decide_true, decide_false, Bool.not_true, Bool.not_false, sz0, sz1, sz2, sz3, sz4, sz5, sz6, sz7, sz8, sz9, sz10, sz11, sz12, sz13, sz14, sz15, sz16, sz17, sz18, sz19, sz20, sz21, sz22, sz23, sz24, sz25, cpow1018, true_and, and_true, Nat.reduceAdd, Nat.reduceLT, Nat.reduceSub, Int.reduceNe, Int.reduceEq, Int.reduceLT, Int.reduceLE, Int.reduceToNat, ne_eq, not_false_eq_true, List.length_map, Nat.lt_irrefl, dV_nx, dV_rt, at0, at1, at2, at3, ix20, ix21, vSeq, vIfS, vTest, vTruth, truth, v2, v1, vN, vCons, vNil, vStar, vVar, vC, xIx, Vl.opI0, Vl.opI, pk, vSet, vAug, vAsg, xgSub, vRet, vRetN, vDrop, vBreak, vCont, asD, asDs, opMod, opDiv, opMul2, Vl.opAdd, Vl.opAddO, opSub, opPow, opLt, Vl.opLe, opGt, Vl.opGe, xEq, okEq_str, okEq_int, xIn, okIn, inD, xIsN, isNone_n, isNone_t, isNone_l, isNone_i, isNone_s, isMo, mob, pkm, gModI, gDivI, gSubI, gMulI, gPowI, gGt, gLt, gLe, gGe, vNotT, vAndT, vOrT, vAndV, vOrV, opNot, opNotG, vIfE, opTup, opLst, opLstO, Vl.opLen, Vl.opInt, opList, opListO, opTuple, opII, gMax, gMin, vM, vM0, isT, xPop, Vl.opAppend, opExtend, opJoin, vgName, vgTup, vgCons, vgNil, kOpt_some, kOpn_some, kOps_some, Vl.opSum, Vl.opInsert, Vl.opIndex, opDivmod, vSl, vPart, vNoPart, opSl, opSlO, opRev, opCallK, ownD, ownO, objs, renum, uniq, getS, putS, vCall0, vFor, vForW, En.wk, vSeqI, vTupI, vRng1, vRng2, vRngD, vFn, vCallL, vOdd, vWays, vEnum, vZip, chkOf, vLcK, vYes, finD, finO, En.wipe, wipeE, En.trim, trimS, dropNone, clr_n, clr_v, clr_k, clr_o, wth, Vl.ret, takeS, startV,  List.map_cons, List.map_nil, List.length_cons, List.length_nil, List.cons_append, List.nil_append, List.replicate, List.getElem?_cons_succ, List.getElem?_cons_zero, List.getElem?_nil, List.set_cons_succ, List.set_cons_zero, List.set_nil, List.all_nil, List.all_cons, Bool.true_and, Option.map_some, Option.map_none, if_true, if_false, decide_eq_true_eq, Bool.false_eq_true, List.take_succ_cons, List.take_zero, List.take_nil, List.drop_succ_cons, List.drop_zero, List.drop_nil, reduceIte, reduceCtorEq]
            have e : hfD (.tuple [.list ms, .list ts]) = none := by
              show (hfM (.list ms)).map (fun ms => (ms, ts)) = none
              rw [hfM_no hm']
              rfl
            rw [e] at q
            exact q
        · have hb' : isLs b = false := by simpa using hb
          rw [hb', if_pos (by decide)]
          simp only [t_hasformv4_2, flatD, List.any_cons, List.any_nil, eqv_str, eqv_int, eqv_ti, eqv_it, eqv_st, eqv_ts, cut1, Bool.or_false, Bool.or_true, Bool.and_self, Bool.and_true, Bool.and_false, Bool.false_or, Bool.true_or, and_self, ofs_inj, ofs_app, ofs_len, String.reduceEq, String.reduceNe, String.reduceAppend, decide_true, decide_false, Bool.not_true, Bool.not_false, sz0, sz1, sz2, sz3, sz4, sz5, sz6, sz7, sz8, sz9, sz10, sz11, sz12, sz13, sz14, sz15, sz16, sz17, sz18, sz19, sz20, sz21, sz22, sz23, sz24, sz25, cpow1018, true_and, and_true, Nat.reduceAdd, Nat.reduceLT, Nat.reduceSub, Int.reduceNe, Int.reduceEq, Int.reduceLT, Int.reduceLE, Int.reduceToNat, ne_eq, not_false_eq_true, List.length_map, Nat.lt_irrefl, dV_nx, dV_rt, at0, at1, at2, at3, ix20, ix21, vSeq, vIfS, vTest, vTruth, truth, v2, v1, vN, vCons, vNil, vStar, vVar, vC, xIx, Vl.opI0, Vl.opI, pk, vSet, vAug, vAsg, xgSub, vRet, vRetN, vDrop, vBreak, vCont, asD, asDs, opMod, opDiv, opMul2, Vl.opAdd, Vl.opAddO, opSub, opPow, opLt, Vl.opLe, opGt, Vl.opGe, xEq, okEq_str, okEq_int, xIn, okIn, inD, xIsN, isNone_n, isNone_t, isNone_l, isNone_i, isNone_s, isMo, mob, pkm, gModI, gDivI, gSubI, gMulI, gPowI, gGt, gLt, gLe, gGe, vNotT, vAndT, vOrT, vAndV, vOrV, opNot, opNotG, vIfE, opTup, opLst, opLstO, Vl.opLen, Vl.opInt, opList, opListO, opTuple, opII, gMax, gMin, vM, vM0, isT, xPop, Vl.opAppend, opExtend, opJoin, vgName, vgTup, vgCons, vgNil, kOpt_some, kOpn_some, kOps_some, Vl.opSum, Vl.opInsert, Vl.opIndex, opDivmod, vSl, vPart, vNoPart, opSl, opSlO, opRev, opCallK, ownD, ownO, objs, renum, uniq, getS, putS, vCall0, vFor, vForW, En.wk, vSeqI, vTupI, vRng1, vRng2, vRngD, vFn, vCallL, vOdd, vWays, vEnum, vZip, chkOf, vLcK, vYes, finD, finO, En.wipe, wipeE, En.trim, trimS, dropNone, clr_n, clr_v, clr_k, clr_o, wth, Vl.ret, takeS, startV,  List.map_cons, List.map_nil, List.length_cons, List.length_nil, List.cons_append, List.nil_append, List.replicate, List.getElem?_cons_succ, List.getElem?_cons_zero, List.getElem?_nil, List.set_cons_succ, List.set_cons_zero, List.set_nil, List.all_nil, List.all_cons, Bool.true_and, Option.map_some, Option.map_none, if_true, if_false, decide_eq_true_eq, Bool.false_eq_true, List.take_succ_cons, List.take_zero, List.take_nil, List.drop_succ_cons, List.drop_zero, List.drop_nil, reduceIte, reduceCtorEq]
          rw [hfD_two (.inr hb')] at q
          exact q
      · have ha' : isLs a = false := by simpa using ha
        rw [ha', if_pos (by decide)]
        simp only [t_hasformv4_2, flatD, List.any_cons, List.any_nil, eqv_str, eqv_int, eqv_ti, eqv_it, eqv_st, eqv_ts, cut1, Bool.or_false, Bool.or_true, Bool.and_self, Bool.and_true, Bool.and_false, Bool.false_or, Bool.true_or, and_self, ofs_inj, ofs_app, ofs_len, String.reduceEq, String.reduceNe, String.reduceAppend, decide_true, decide_false, Bool.not_true, Bool.not_false, sz0, sz1, sz2, sz3, sz4, sz5, sz6, sz7, sz8, sz9, sz10, sz11, sz12, sz13, sz14, sz15, sz16, sz17, sz18, sz19, sz20, sz21, sz22, sz23, sz24, sz25, cpow1018, true_and, and_true, Nat.reduceAdd, Nat.reduceLT, Nat.reduceSub, Int.reduceNe, Int.reduceEq, Int.reduceLT, Int.reduceLE, Int.reduceToNat, ne_eq, not_false_eq_true, List.length_map, Nat.lt_irrefl, dV_nx, dV_rt, at0, at1, at2, at3, ix20, ix21, vSeq, vIfS, vTest, vTruth, truth, v2, v1, vN, vCons, vNil, vStar, vVar, vC, xIx, Vl.opI0, Vl.opI, pk, vSet, vAug, vAsg, xgSub, vRet, vRetN, vDrop, vBreak, vCont, asD, asDs, opMod, opDiv, opMul2, Vl.opAdd, Vl.opAddO, opSub, opPow, opLt, Vl.opLe, opGt, Vl.opGe, xEq, okEq_str, okEq_int, xIn, okIn, inD, xIsN, isNone_n, isNone_t, isNone_l, isNone_i, isNone_s, isMo, mob, pkm, gModI, gDivI, gSubI, gMulI, gPowI, gGt, gLt, gLe, gGe, vNotT, vAndT, vOrT, vAndV, vOrV, opNot, opNotG, vIfE, opTup, opLst, opLstO, Vl.opLen, Vl.opInt, opList, opListO, opTuple, opII, gMax, gMin, vM, vM0, isT, xPop, Vl.opAppend, opExtend, opJoin, vgName, vgTup, vgCons, vgNil, kOpt_some, kOpn_some, kOps_some, Vl.opSum, Vl.opInsert, Vl.opIndex, opDivmod, vSl, vPart, vNoPart, opSl, opSlO, opRev, opCallK, ownD, ownO, objs, renum, uniq, getS, putS, vCall0, vFor, vForW, En.wk, vSeqI, vTupI, vRng1, vRng2, vRngD, vFn, vCallL, vOdd, vWays, vEnum, vZip, chkOf, vLcK, vYes, finD, finO, En.wipe, wipeE, En.trim, trimS, dropNone, clr_n, clr_v, clr_k, clr_o, wth, Vl.ret, takeS, startV,  List.map_cons, List.map_nil, List.length_cons, List.length_nil, List.cons_append, List.nil_append, List.replicate, List.getElem?_cons_succ, List.getElem?_cons_zero, List.getElem?_nil, List.set_cons_succ, List.set_cons_zero, List.set_nil, List.all_nil, List.all_cons, Bool.true_and, Option.map_some, Option.map_none, if_true, if_false, decide_eq_true_eq, Bool.false_eq_true, List.take_succ_cons, List.take_zero, List.take_nil, List.drop_succ_cons, List.drop_zero, List.drop_nil, reduceIte, reduceCtorEq]
        rw [hfD_two (.inl ha')] at q
        exact q
  | _ => exact no1 rfl
end Kf
namespace Kf
open PySem L2 Vl PySem.Spec PyProof.Rows
/-- a tree of worlds below one with these marks, at most so many trees deep -/
def isTr : Nat → List Str → D → Bool
  | 0, _, _ => false
  | n + 1, b, d => match hfD d with
    | some (ms, ts) => b.all (fun x => decide (x ∈ ms)) && ts.all fun t => isTr n ms t
    | none => false
abbrev StTi := D × List Str × Nat
def encTi (x : StTi) : D := .tuple [x.1, .list (x.2.1.map .str), .int (x.2.2 : Nat)]
def szTi : List StTi → Nat
  | [] => 0
  | x :: r => ndT x.1 + szTi r
theorem szTi_app (a b : List StTi) : szTi (a ++ b) = szTi a + szTi b := by
  induction a with
  | nil => simp [szTi]
  | cons x a ih => simp only [List.cons_append, szTi, ih]; omega
theorem ndT_pos (d : D) : 1 ≤ ndT d := by
  cases d <;> unfold ndT <;> omega
theorem szTi_len : ∀ a : List StTi, a.length ≤ szTi a
  | [] => Nat.le_refl _
  | x :: r => by
    have := szTi_len r
    have := ndT_pos x.1
    simp only [List.length_cons, szTi]
    omega
theorem szTi_kids (ts : List D) (ms : List Str) (k : Nat) : szTi (ts.map fun t => (t, ms, k)) = ndTs ts := by
  induction ts with
  | nil => rfl
  | cons t r ih =>
    rw [List.map_cons]
    simp only [szTi, ih]
    rfl
def goodTi (x : StTi) : Prop := okT x.1 ∧ (∀ z ∈ x.2.1, PyData.strOk z = true) ∧ 1 ≤ x.2.2 ∧ x.2.2 ≤ 41
def resTi (x : StTi) : Bool := isTr (41 - x.2.2) x.2.1 x.1
def pIsTree : VSp := fun ss st Kp => ∃ d : D, okT d ∧ ndT d ≤ 1000000 ∧ ss = [.val d] ∧ st = [] ∧ Kp (.val (.bool (isTr 40 [] d))) []
theorem inD_strs (z : Str) : ∀ xs : List Str, inD (.str z) (.list (xs.map .str)) = decide (z ∈ xs)
  | [] => rfl
  | x :: xs => by
    have ih := inD_strs z xs
    simp only [inD, List.map_cons, List.any_cons, eqv_str] at ih ⊢
    rw [ih]
    by_cases e : x = z
    · subst e
      simp
    · have e' : ¬ z = x := fun h => e h.symm
      simp [e, e']
theorem ag_in {st : List (Option Ob)} {Kp : Bool → En → Prop} {ms : List Str} (hm : ∀ x ∈ ms, PyData.strOk x = true) : ∀ (b : List Str) (s : Option Sl), (∀ z ∈ b, PyData.strOk z = true) → (∀ s0, Kp (b.all fun x => decide (x ∈ ms)) ⟨[s0, some (.val (.list (ms.map .str)))], st⟩) →
    ag true (vgName 0) (v2 (xIn false) (vVar 0) (vVar 1)) none [0] (b.map PyData.str) ⟨[s, some (.val (.list (ms.map .str)))], st⟩ Kp
  | [], s, _, h => h s
  | z :: b, s, hb, h => by
    rw [List.map_cons]
    simp only [ag, okIn, flatD, List.any_cons, List.any_nil, eqv_str, eqv_int, eqv_ti, eqv_it, eqv_st, eqv_ts, cut1, Bool.or_false, Bool.or_true, Bool.and_self, Bool.and_true, Bool.and_false, Bool.false_or, Bool.true_or, and_self, ofs_inj, ofs_app, ofs_len, String.reduceEq, String.reduceNe, String.reduceAppend, decide_true, decide_false, Bool.not_true, Bool.not_false, sz0, sz1, sz2, sz3, sz4, sz5, sz6, sz7, sz8, sz9, sz10, sz11, sz12, sz13, sz14, sz15, sz16, sz17, sz18, sz19, sz20, sz21, sz22, sz23, sz24, sz25, cpow1018, true_and, and_true, Nat.reduceAdd, Nat.reduceLT, Nat.reduceSub, Int.reduceNe, Int.reduceEq, Int.reduceLT, Int.reduceLE, Int.reduceToNat, ne_eq, not_false_eq_true, List.length_map, Nat.lt_irrefl, dV_nx, dV_rt, at0, at1, at2, at3, ix20, ix21, vSeq, vIfS, vTest, vTruth, truth, v2, v1, vN, vCons, vNil, vStar, vVar, vC, xIx, Vl.opI0, Vl.opI, pk, vSet, vAug, vAsg, xgSub, vRet, vRetN, vNext_mk, vDrop, vBreak, vCont, asD, asDs, opMod, opDiv, opMul2, Vl.opAdd, Vl.opAddO, opSub, opPow, opLt, Vl.opLe, opGt, Vl.opGe, xEq, okEq_str, okEq_int, xIn, okIn, inD, xIsN, isNone_n, isNone_t, isNone_l, isNone_i, isNone_s, isMo, mob, pkm, gModI, gDivI, gSubI, gMulI, gPowI, gGt, gLt, gLe, gGe, vNotT, vAndT, vOrT, vAndV, vOrV, opNot, opNotG, vIfE, opTup, opLst, opLstO, Vl.opLen, Vl.opInt, opList, opListO, opTuple, opII, gMax, gMin, vM, vM0, isT, xPop, Vl.opAppend, opExtend, opJoin, vgName, vgTup, vgCons, vgNil, kOpt_some, kOpn_some, kOps_some, Vl.opSum, Vl.opInsert, Vl.opIndex, opDivmod, vSl, vPart, vNoPart, opSl, opSlO, opRev, opCallK, ownD, ownO, objs, renum, uniq, getS, putS, vCall0, vFor, vForW, En.wk, vSeqI, vTupI, vRng1, vRng2, vRngD, vFn, vCallL, vOdd, vWays, vEnum, vZip, chkOf, vLcK, vYes, finD, finO, En.wipe, wipeE, En.trim, trimS, dropNone, clr_n, clr_v, clr_k, clr_o, wth, Vl.ret, takeS, startV,  List.map_cons, List.map_nil, List.length_cons, List.length_nil, List.cons_append, List.nil_append, List.replicate, List.getElem?_cons_succ, List.getElem?_cons_zero, List.getElem?_nil, List.set_cons_succ, List.set_cons_zero, List.set_nil, List.all_nil, List.all_cons, Bool.true_and, Option.map_some, Option.map_none, if_true, if_false, decide_eq_true_eq, Bool.false_eq_true, List.take_succ_cons, List.take_zero, List.take_nil, List.drop_succ_cons, List.drop_zero, List.drop_nil, reduceIte, reduceCtorEq]
    have shz : SeqAt.shaped (PyData.str z) = true := by
      unfold SeqAt.shaped
      rw [can_str, hb z List.mem_cons_self, depth_str]
      rfl
    refine ⟨⟨shz, shdS hm⟩, ?_⟩
    have e := inD_strs z ms
    simp only [inD] at e
    rw [e]
    rw [List.all_cons] at h
    by_cases c : z ∈ ms
    · rw [decide_eq_true c, if_pos rfl]
      refine ag_in hm b none (fun y hy => hb y (List.mem_cons_of_mem _ hy)) fun s0 => ?_
      have := h s0
      rw [decide_eq_true c, Bool.true_and] at this
      exact this
    · rw [decide_eq_false c, if_neg (by decide)]
      have := h (some (.val (.str z)))
      rw [decide_eq_false c, Bool.false_and] at this
      exact this
theorem fl_invD {g : VTG} {tb : VTS} {chk : Option (En → Prop)} {n : Nat} (xs : List D) {DV : VEnds} (I : List D → En → Prop) (hc : ∀ ys e, I ys e → okc chk e)
    (hs : ∀ (ys : List D) (x : D) (zs : List D) (e : En) (Nx : En → Prop), xs = ys ++ x :: zs → I ys e → (∀ e' q fs, n ≤ q → I (ys ++ [x]) (e'.wk q fs) → Nx e') → g (.val x) e fun e1 => tb { DV with nx := Nx, ct := Nx, bk := DV.nx } e1)
    (hd : ∀ e, I xs e → DV.nx e) {e : En} (h0 : I [] e) : flW g tb chk n xs DV e := by
  have := fl_invW (g := g) (tb := tb) (chk := chk) (n := n) (DV := DV) id xs I hc hs hd h0
  rw [List.map_id] at this
  exact this
theorem r_istree {ss cs Kp} (h : pIsTree ss cs Kp) : t_istree pHfD (dV cs.length Kp) ⟨startV 8 ss, cs.map some⟩ := by
  obtain ⟨d, ok, hn, rfl, rfl, q⟩ := h
  simp only [t_istree, t_istree_11, t_istree_10, flatD, List.any_cons, List.any_nil, eqv_str, eqv_int, eqv_ti, eqv_it, eqv_st, eqv_ts, cut1, Bool.or_false, Bool.or_true, Bool.and_self, Bool.and_true, Bool.and_false, Bool.false_or, Bool.true_or, and_self, ofs_inj, ofs_app, ofs_len, String.reduceEq, String.reduceNe, String.reduceAppend, decide_true, decide_false, Bool.not_true, Bool.not_false, sz0, sz1, sz2, sz3, sz4, sz5, sz6, sz7, sz8, sz9, sz10, sz11, sz12, sz13, sz14, sz15, sz16, sz17, sz18, sz19, sz20, sz21, sz22, sz23, sz24, sz25, cpow1018, true_and, and_true, Nat.reduceAdd, Nat.reduceLT, Nat.reduceSub, Int.reduceNe, Int.reduceEq, Int.reduceLT, Int.reduceLE, Int.reduceToNat, ne_eq, not_false_eq_true, List.length_map, Nat.lt_irrefl, dV_nx, dV_rt, at0, at1, at2, at3, ix20, ix21, vSeq, vIfS, vTest, vTruth, truth, v2, v1, vN, vCons, vNil, vStar, vVar, vC, xIx, Vl.opI0, Vl.opI, pk, vSet, vAug, vAsg, xgSub, vRet, vRetN, vDrop, vBreak, vCont, asD, asDs, opMod, opDiv, opMul2, Vl.opAdd, Vl.opAddO, opSub, opPow, opLt, Vl.opLe, opGt, Vl.opGe, xEq, okEq_str, okEq_int, xIn, okIn, inD, xIsN, isNone_n, isNone_t, isNone_l, isNone_i, isNone_s, isMo, mob, pkm, gModI, gDivI, gSubI, gMulI, gPowI, gGt, gLt, gLe, gGe, vNotT, vAndT, vOrT, vAndV, vOrV, opNot, opNotG, vIfE, opTup, opLst, opLstO, Vl.opLen, Vl.opInt, opList, opListO, opTuple, opII, gMax, gMin, vM, vM0, isT, xPop, Vl.opAppend, opExtend, opJoin, vgName, vgTup, vgCons, vgNil, kOpt_some, kOpn_some, kOps_some, Vl.opSum, Vl.opInsert, Vl.opIndex, opDivmod, vSl, vPart, vNoPart, opSl, opSlO, opRev, opCallK, ownD, ownO, objs, renum, uniq, getS, putS, vCall0, vFor, vForW, En.wk, vSeqI, vTupI, vRng1, vRng2, vRngD, vFn, vCallL, vOdd, vWays, vEnum, vZip, chkOf, vLcK, vYes, finD, finO, En.wipe, wipeE, En.trim, trimS, dropNone, clr_n, clr_v, clr_k, clr_o, wth, Vl.ret, takeS, startV,  List.map_cons, List.map_nil, List.length_cons, List.length_nil, List.cons_append, List.nil_append, List.replicate, List.getElem?_cons_succ, List.getElem?_cons_zero, List.getElem?_nil, List.set_cons_succ, List.set_cons_zero, List.set_nil, List.all_nil, List.all_cons, Bool.true_and, Option.map_some, Option.map_none, if_true, if_false, decide_eq_true_eq, Bool.false_eq_true, List.take_succ_cons, List.take_zero, List.take_nil, List.drop_succ_cons, List.drop_zero, List.drop_nil, reduceIte, reduceCtorEq]
  refine while_invW (fun m e => ∃ (xs : List StTi) (x y z u v w : Option Sl), e = ⟨[some (.val d), some (.obj 0), x, y, z, u, v, w], [some (.l (xs.map encTi))]⟩ ∧ m = szTi xs ∧ szTi xs ≤ 1000000 ∧ (∀ t ∈ xs, goodTi t) ∧ xs.all resTi = isTr 40 [] d) ?_ (m := szTi [(d, [], 1)]) ⟨[(d, [], 1)], none, none, none, none, none, none, rfl, rfl, by simpa [szTi] using hn, by simpa [goodTi] using ok, by simp [resTi]⟩
  rintro m e Nx ⟨xs, x, y, z, u, v, w, rfl, rfl, hsz, hg, hr⟩ hk
  rcases List.eq_nil_or_concat xs with rfl | ⟨ts0, ⟨t, b, k⟩, rfl⟩
  · simp only [t_istree_9, List.isEmpty_nil, List.map_nil, flatD, List.any_cons, List.any_nil, eqv_str, eqv_int, eqv_ti, eqv_it, eqv_st, eqv_ts, cut1, Bool.or_false, Bool.or_true, Bool.and_self, Bool.and_true, Bool.and_false, Bool.false_or, Bool.true_or, and_self, ofs_inj, ofs_app, ofs_len, String.reduceEq, String.reduceNe, String.reduceAppend, decide_true, decide_false, Bool.not_true, Bool.not_false, sz0, sz1, sz2, sz3, sz4, sz5, sz6, sz7, sz8, sz9, sz10, sz11, sz12, sz13, sz14, sz15, sz16, sz17, sz18, sz19, sz20, sz21, sz22, sz23, sz24, sz25, cpow1018, true_and, and_true, Nat.reduceAdd, Nat.reduceLT, Nat.reduceSub, Int.reduceNe, Int.reduceEq, Int.reduceLT, Int.reduceLE, Int.reduceToNat, ne_eq, not_false_eq_true, List.length_map, Nat.lt_irrefl, dV_nx, dV_rt, at0, at1, at2, at3, ix20, ix21, vSeq, vIfS, vTest, vTruth, truth, v2, v1, vN, vCons, vNil, vStar, vVar, vC, xIx, Vl.opI0, Vl.opI, pk, vSet, vAug, vAsg, xgSub, vRet, vRetN, vDrop, vBreak, vCont, asD, asDs, opMod, opDiv, opMul2, Vl.opAdd, Vl.opAddO, opSub, opPow, opLt, Vl.opLe, opGt, Vl.opGe, xEq, okEq_str, okEq_int, xIn, okIn, inD, xIsN, isNone_n, isNone_t, isNone_l, isNone_i, isNone_s, isMo, mob, pkm, gModI, gDivI, gSubI, gMulI, gPowI, gGt, gLt, gLe, gGe, vNotT, vAndT, vOrT, vAndV, vOrV, opNot, opNotG, vIfE, opTup, opLst, opLstO, Vl.opLen, Vl.opInt, opList, opListO, opTuple, opII, gMax, gMin, vM, vM0, isT, xPop, Vl.opAppend, opExtend, opJoin, vgName, vgTup, vgCons, vgNil, kOpt_some, kOpn_some, kOps_some, Vl.opSum, Vl.opInsert, Vl.opIndex, opDivmod, vSl, vPart, vNoPart, opSl, opSlO, opRev, opCallK, ownD, ownO, objs, renum, uniq, getS, putS, vCall0, vFor, vForW, En.wk, vSeqI, vTupI, vRng1, vRng2, vRngD, vFn, vCallL, vOdd, vWays, vEnum, vZip, chkOf, vLcK, vYes, finD, finO, En.wipe, wipeE, En.trim, trimS, dropNone, clr_n, clr_v, clr_k, clr_o, wth, Vl.ret, takeS, startV,  List.map_cons, List.map_nil, List.length_cons, List.length_nil, List.cons_append, List.nil_append, List.replicate, List.getElem?_cons_succ, List.getElem?_cons_zero, List.getElem?_nil, List.set_cons_succ, List.set_cons_zero, List.set_nil, List.all_nil, List.all_cons, Bool.true_and, Option.map_some, Option.map_none, if_true, if_false, decide_eq_true_eq, Bool.false_eq_true, List.take_succ_cons, List.take_zero, List.take_nil, List.drop_succ_cons, List.drop_zero, List.drop_nil, reduceIte, reduceCtorEq]
    rw [← hr] at q
    exact q
  · rw [List.concat_eq_append] at *
    have ne : ((ts0 ++ [(t, b, k)]).map encTi).isEmpty = false := by simp
    have gl : ((ts0 ++ [(t, b, k)]).map encTi).getLast? = some (encTi (t, b, k)) := by simp
    have dl : ((ts0 ++ [(t, b, k)]).map encTi).dropLast = ts0.map encTi := by simp
    rw [szTi_app] at hsz
    simp only [szTi] at hsz
    rw [List.all_append] at hr
    obtain ⟨g1, g2, g3, g4⟩ := hg (t, b, k) (by simp)
    have g5 : ∀ x ∈ ts0, goodTi x := fun x hx => hg x (List.mem_append_left _ hx)
    simp only [ne, gl, dl, t_istree_8, flatD, List.any_cons, List.any_nil, eqv_str, eqv_int, eqv_ti, eqv_it, eqv_st, eqv_ts, cut1, Bool.or_false, Bool.or_true, Bool.and_self, Bool.and_true, Bool.and_false, Bool.false_or, Bool.true_or, and_self, ofs_inj, ofs_app, ofs_len, String.reduceEq, String.reduceNe, String.reduceAppend, decide_true, decide_false, Bool.not_true, Bool.not_false, sz0, sz1, sz2, sz3, sz4, sz5, sz6, sz7, sz8, sz9, sz10, sz11, sz12, sz13, sz14, sz15, sz16, sz17, sz18, sz19, sz20, sz21, sz22, sz23, sz24, sz25, cpow1018, true_and, and_true, Nat.reduceAdd, Nat.reduceLT, Nat.reduceSub, Int.reduceNe, Int.reduceEq, Int.reduceLT, Int.reduceLE, Int.reduceToNat, ne_eq, not_false_eq_true, List.length_map, Nat.lt_irrefl, dV_nx, dV_rt, at0, at1, at2, at3, ix20, ix21, vSeq, vIfS, vTest, vTruth, truth, v2, v1, vN, vCons, vNil, vStar, vVar, vC, xIx, Vl.opI0, Vl.opI, pk, vSet, vAug, vAsg, xgSub, vRet, vRetN, vDrop, vBreak, vCont, asD, asDs, opMod, opDiv, opMul2, Vl.opAdd, Vl.opAddO, opSub, opPow, opLt, Vl.opLe, opGt, Vl.opGe, xEq, okEq_str, okEq_int, xIn, okIn, inD, xIsN, isNone_n, isNone_t, isNone_l, isNone_i, isNone_s, isMo, mob, pkm, gModI, gDivI, gSubI, gMulI, gPowI, gGt, gLt, gLe, gGe, vNotT, vAndT, vOrT, vAndV, vOrV, opNot, opNotG, vIfE, opTup, opLst, opLstO, Vl.opLen, Vl.opInt, opList, opListO, opTuple, opII, gMax, gMin, vM, vM0, isT, xPop, Vl.opAppend, opExtend, opJoin, vgName, vgTup, vgCons, vgNil, kOpt_some, kOpn_some, kOps_some, Vl.opSum, Vl.opInsert, Vl.opIndex, opDivmod, vSl, vPart, vNoPart, opSl, opSlO, opRev, opCallK, ownD, ownO, objs, renum, uniq, getS, putS, vCall0, vFor, vForW, En.wk, vSeqI, vTupI, vRng1, vRng2, vRngD, vFn, vCallL, vOdd, vWays, vEnum, vZip, chkOf, vLcK, vYes, finD, finO, En.wipe, wipeE, En.trim, trimS, dropNone, clr_n, clr_v, clr_k, clr_o, wth, Vl.ret, takeS, startV,  List.map_cons, List.map_nil, List.length_cons, List.length_nil, List.cons_append, List.nil_append, List.replicate, List.getElem?_cons_succ, List.getElem?_cons_zero, List.getElem?_nil, List.set_cons_succ, List.set_cons_zero, List.set_nil, List.all_nil, List.all_cons, Bool.true_and, Option.map_some, Option.map_none, if_true, if_false, decide_eq_true_eq, Bool.false_eq_true, List.take_succ_cons, List.take_zero, List.take_nil, List.drop_succ_cons, List.drop_zero, List.drop_nil, reduceIte, reduceCtorEq]
    simp only [encTi, t_istree_7, flatD, List.any_cons, List.any_nil, eqv_str, eqv_int, eqv_ti, eqv_it, eqv_st, eqv_ts, cut1, Bool.or_false, Bool.or_true, Bool.and_self, Bool.and_true, Bool.and_false, Bool.false_or, Bool.true_or, and_self, ofs_inj, ofs_app, ofs_len, String.reduceEq, String.reduceNe, String.reduceAppend, decide_true, decide_false, Bool.not_true, Bool.not_false, sz0, sz1, sz2, sz3, sz4, sz5, sz6, sz7, sz8, sz9, sz10, sz11, sz12, sz13, sz14, sz15, sz16, sz17, sz18, sz19, sz20, sz21, sz22, sz23, sz24, sz25, cpow1018, true_and, and_true, Nat.reduceAdd, Nat.reduceLT, Nat.reduceSub, Int.reduceNe, Int.reduceEq, Int.reduceLT, Int.reduceLE, Int.reduceToNat, ne_eq, not_false_eq_true, List.length_map, Nat.lt_irrefl, dV_nx, dV_rt, at0, at1, at2, at3, ix20, ix21, vSeq, vIfS, vTest, vTruth, truth, v2, v1, vN, vCons, vNil, vStar, vVar, vC, xIx, Vl.opI0, Vl.opI, pk, vSet, vAug, vAsg, xgSub, vRet, vRetN, vDrop, vBreak, vCont, asD, asDs, opMod, opDiv, opMul2, Vl.opAdd, Vl.opAddO, opSub, opPow, opLt, Vl.opLe, opGt, Vl.opGe, xEq, okEq_str, okEq_int, xIn, okIn, inD, xIsN, isNone_n, isNone_t, isNone_l, isNone_i, isNone_s, isMo, mob, pkm, gModI, gDivI, gSubI, gMulI, gPowI, gGt, gLt, gLe, gGe, vNotT, vAndT, vOrT, vAndV, vOrV, opNot, opNotG, vIfE, opTup, opLst, opLstO, Vl.opLen, Vl.opInt, opList, opListO, opTuple, opII, gMax, gMin, vM, vM0, isT, xPop, Vl.opAppend, opExtend, opJoin, vgName, vgTup, vgCons, vgNil, kOpt_some, kOpn_some, kOps_some, Vl.opSum, Vl.opInsert, Vl.opIndex, opDivmod, vSl, vPart, vNoPart, opSl, opSlO, opRev, opCallK, ownD, ownO, objs, renum, uniq, getS, putS, vCall0, vFor, vForW, En.wk, vSeqI, vTupI, vRng1, vRng2, vRngD, vFn, vCallL, vOdd, vWays, vEnum, vZip, chkOf, vLcK, vYes, finD, finO, En.wipe, wipeE, En.trim, trimS, dropNone, clr_n, clr_v, clr_k, clr_o, wth, Vl.ret, takeS, startV,  List.map_cons, List.map_nil, List.length_cons, List.length_nil, List.cons_append, List.nil_append, List.replicate, List.getElem?_cons_succ, List.getElem?_cons_zero, List.getElem?_nil, List.set_cons_succ, List.set_cons_zero, List.set_nil, List.all_nil, List.all_cons, Bool.true_and, Option.map_some, Option.map_none, if_true, if_false, decide_eq_true_eq, Bool.false_eq_true, List.take_succ_cons, List.take_zero, List.take_nil, List.drop_succ_cons, List.drop_zero, List.drop_nil, reduceIte, reduceCtorEq]
    have r1 : resTi (t, b, k) = isTr (41 - k) b t := rfl
    have fin : resTi (t, b, k) = false → Kp (.val (.bool false)) [] := fun h => by
      have e : isTr 40 [] d = false := by
        rw [← hr, List.all_cons, h]
        simp
      rw [e] at q
      exact q
    split
    · rename_i hk41
      simp only [t_istree_1, flatD, List.any_cons, List.any_nil, eqv_str, eqv_int, eqv_ti, eqv_it, eqv_st, eqv_ts, cut1, Bool.or_false, Bool.or_true, Bool.and_self, Bool.and_true, Bool.and_false, Bool.false_or, Bool.true_or, and_self, ofs_inj, ofs_app, ofs_len, String.reduceEq, String.reduceNe, String.reduceAppend, decide_true, decide_false, Bool.not_true, Bool.not_false, sz0, sz1, sz2, sz3, sz4, sz5, sz6, sz7, sz8, sz9, sz10, sz11, sz12, sz13, sz14, sz15, sz16, sz17, sz18, sz19, sz20, sz21, sz22, sz23, sz24, sz25, cpow1018, true_and, and_true, Nat.reduceAdd, Nat.reduceLT, Nat.reduceSub, Int.reduceNe, Int.reduceEq, Int.reduceLT, Int.reduceLE, Int.reduceToNat, ne_eq, not_false_eq_true, List.length_map, Nat.lt_irrefl, dV_nx, dV_rt, at0, at1, at2, at3, ix20, ix21, vSeq, vIfS, vTest, vTruth, truth, v2, v1, vN, vCons, vNil, vStar, vVar, vC, xIx, Vl.opI0, Vl.opI, pk, vSet, vAug, vAsg, xgSub, vRet, vRetN, vDrop, vBreak, vCont, asD, asDs, opMod, opDiv, opMul2, Vl.opAdd, Vl.opAddO, opSub, opPow, opLt, Vl.opLe, opGt, Vl.opGe, xEq, okEq_str, okEq_int, xIn, okIn, inD, xIsN, isNone_n, isNone_t, isNone_l, isNone_i, isNone_s, isMo, mob, pkm, gModI, gDivI, gSubI, gMulI, gPowI, gGt, gLt, gLe, gGe, vNotT, vAndT, vOrT, vAndV, vOrV, opNot, opNotG, vIfE, opTup, opLst, opLstO, Vl.opLen, Vl.opInt, opList, opListO, opTuple, opII, gMax, gMin, vM, vM0, isT, xPop, Vl.opAppend, opExtend, opJoin, vgName, vgTup, vgCons, vgNil, kOpt_some, kOpn_some, kOps_some, Vl.opSum, Vl.opInsert, Vl.opIndex, opDivmod, vSl, vPart, vNoPart, opSl, opSlO, opRev, opCallK, ownD, ownO, objs, renum, uniq, getS, putS, vCall0, vFor, vForW, En.wk, vSeqI, vTupI, vRng1, vRng2, vRngD, vFn, vCallL, vOdd, vWays, vEnum, vZip, chkOf, vLcK, vYes, finD, finO, En.wipe, wipeE, En.trim, trimS, dropNone, clr_n, clr_v, clr_k, clr_o, wth, Vl.ret, takeS, startV,  List.map_cons, List.map_nil, List.length_cons, List.length_nil, List.cons_append, List.nil_append, List.replicate, List.getElem?_cons_succ, List.getElem?_cons_zero, List.getElem?_nil, List.set_cons_succ, List.set_cons_zero, List.set_nil, List.all_nil, List.all_cons, Bool.true_and, Option.map_some, Option.map_none, if_true, if_false, decide_eq_true_eq, Bool.false_eq_true, List.take_succ_cons, List.take_zero, List.take_nil, List.drop_succ_cons, List.drop_zero, List.drop_nil, reduceIte, reduceCtorEq]
      exact fin (by rw [r1, show 41 - k = 0 by omega]; rfl)
    · rename_i hk41
      have hk40 : 41 - k = (40 - k) + 1 := by
        have : k ≤ 40 := by omega
        omega
      refine ⟨t, g1, rfl, rfl, ?_⟩
      simp only [truth, flatD, List.any_cons, List.any_nil, eqv_str, eqv_int, eqv_ti, eqv_it, eqv_st, eqv_ts, cut1, Bool.or_false, Bool.or_true, Bool.and_self, Bool.and_true, Bool.and_false, Bool.false_or, Bool.true_or, and_self, ofs_inj, ofs_app, ofs_len, String.reduceEq, String.reduceNe, String.reduceAppend, decide_true, decide_false, Bool.not_true, Bool.not_false, sz0, sz1, sz2, sz3, sz4, sz5, sz6, sz7, sz8, sz9, sz10, sz11, sz12, sz13, sz14, sz15, sz16, sz17, sz18, sz19, sz20, sz21, sz22, sz23, sz24, sz25, cpow1018, true_and, and_true, Nat.reduceAdd, Nat.reduceLT, Nat.reduceSub, Int.reduceNe, Int.reduceEq, Int.reduceLT, Int.reduceLE, Int.reduceToNat, ne_eq, not_false_eq_true, List.length_map, Nat.lt_irrefl, dV_nx, dV_rt, at0, at1, at2, at3, ix20, ix21, vSeq, vIfS, vTest, vTruth, truth, v2, v1, vN, vCons, vNil, vStar, vVar, vC, xIx, Vl.opI0, Vl.opI, pk, vSet, vAug, vAsg, xgSub, vRet, vRetN, vDrop, vBreak, vCont, asD, asDs, opMod, opDiv, opMul2, Vl.opAdd, Vl.opAddO, opSub, opPow, opLt, Vl.opLe, opGt, Vl.opGe, xEq, okEq_str, okEq_int, xIn, okIn, inD, xIsN, isNone_n, isNone_t, isNone_l, isNone_i, isNone_s, isMo, mob, pkm, gModI, gDivI, gSubI, gMulI, gPowI, gGt, gLt, gLe, gGe, vNotT, vAndT, vOrT, vAndV, vOrV, opNot, opNotG, vIfE, opTup, opLst, opLstO, Vl.opLen, Vl.opInt, opList, opListO, opTuple, opII, gMax, gMin, vM, vM0, isT, xPop, Vl.opAppend, opExtend, opJoin, vgName, vgTup, vgCons, vgNil, kOpt_some, kOpn_some, kOps_some, Vl.opSum, Vl.opInsert, Vl.opIndex, opDivmod, vSl, vPart, vNoPart, opSl, opSlO, opRev, opCallK, ownD, ownO, objs, renum, uniq, getS, putS, vCall0, vFor, vForW, En.wk, vSeqI, vTupI, vRng1, vRng2, vRngD, vFn, vCallL, vOdd, vWays, vEnum, vZip, chkOf, vLcK, vYes, finD, finO, En.wipe, wipeE, En.trim, trimS, dropNone, clr_n, clr_v, clr_k, clr_o, wth, Vl.ret, takeS, startV,  List.map_cons, List.map_nil, List.length_cons, List.length_nil, List.cons_append, List.nil_append, List.replicate, List.getElem?_cons_succ, List.getElem?_cons_zero, List.getElem?_nil, List.set_cons_succ, List.set_cons_zero, List.set_nil, List.all_nil, List.all_cons, Bool.true_and, Option.map_some, Option.map_none, if_true, if_false, decide_eq_true_eq, Bool.false_eq_true, List.take_succ_cons, List.take_zero, List.take_nil, List.drop_succ_cons, List.drop_zero, List.drop_nil, reduceIte, reduceCtorEq]
      cases he : hfD t with
      | none =>
        rw [if_pos (by rfl)]
        simp only [t_istree_1, flatD, List.any_cons, List.any_nil, eqv_str, eqv_int, eqv_ti, eqv_it, eqv_st, eqv_ts, cut1, Bool.or_false, Bool.or_true, Bool.and_self, Bool.and_true, Bool.and_false, Bool.false_or, Bool.true_or, and_self, ofs_inj, ofs_app, ofs_len, String.reduceEq, String.reduceNe, String.reduceAppend, decide_true, decide_false, Bool.not_true, Bool.not_false, sz0, sz1, sz2, sz3, sz4, sz5, sz6, sz7, sz8, sz9, sz10, sz11, sz12, sz13, sz14, sz15, sz16, sz17, sz18, sz19, sz20, sz21, sz22, sz23, sz24, sz25, cpow1018, true_and, and_true, Nat.reduceAdd, Nat.reduceLT, Nat.reduceSub, Int.reduceNe, Int.reduceEq, Int.reduceLT, Int.reduceLE, Int.reduceToNat, ne_eq, not_false_eq_true, List.length_map, Nat.lt_irrefl, dV_nx, dV_rt, at0, at1, at2, at3, ix20, ix21, vSeq, vIfS, vTest, vTruth, truth, v2, v1, vN, vCons, vNil, vStar, vVar, vC, xIx, Vl.opI0, Vl.opI, pk, vSet, vAug, vAsg, xgSub, vRet, vRetN, vDrop, vBreak, vCont, asD, asDs, opMod, opDiv, opMul2, Vl.opAdd, Vl.opAddO, opSub, opPow, opLt, Vl.opLe, opGt, Vl.opGe, xEq, okEq_str, okEq_int, xIn, okIn, inD, xIsN, isNone_n, isNone_t, isNone_l, isNone_i, isNone_s, isMo, mob, pkm, gModI, gDivI, gSubI, gMulI, gPowI, gGt, gLt, gLe, gGe, vNotT, vAndT, vOrT, vAndV, vOrV, opNot, opNotG, vIfE, opTup, opLst, opLstO, Vl.opLen, Vl.opInt, opList, opListO, opTuple, opII, gMax, gMin, vM, vM0, isT, xPop, Vl.opAppend, opExtend, opJoin, vgName, vgTup, vgCons, vgNil, kOpt_some, kOpn_some, kOps_some, Vl.opSum, Vl.opInsert, Vl.opIndex, opDivmod, vSl, vPart, vNoPart, opSl, opSlO, opRev, opCallK, ownD, ownO, objs, renum, uniq, getS, putS, vCall0, vFor, vForW, En.wk, vSeqI, vTupI, vRng1, vRng2, vRngD, vFn, vCallL, vOdd, vWays, vEnum, vZip, chkOf, vLcK, vYes, finD, finO, En.wipe, wipeE, En.trim, trimS, dropNone, clr_n, clr_v, clr_k, clr_o, wth, Vl.ret, takeS, startV,  List.map_cons, List.map_nil, List.length_cons, List.length_nil, List.cons_append, List.nil_append, List.replicate, List.getElem?_cons_succ, List.getElem?_cons_zero, List.getElem?_nil, List.set_cons_succ, List.set_cons_zero, List.set_nil, List.all_nil, List.all_cons, Bool.true_and, Option.map_some, Option.map_none, if_true, if_false, decide_eq_true_eq, Bool.false_eq_true, List.take_succ_cons, List.take_zero, List.take_nil, List.drop_succ_cons, List.drop_zero, List.drop_nil, reduceIte, reduceCtorEq]
        refine fin ?_
        rw [r1, hk40]
        unfold isTr
        rw [he]
      | some p =>
        obtain ⟨ms, ts⟩ := p
        obtain ⟨rfl, hms, hs⟩ := hfD_of he
        have okt := g1
        simp only at okt
        unfold okT at okt
        have okt2 := okt.2
        unfold okTs okTs at okt2
        have okm := okt2.1
        have okts := okt2.2.1
        unfold okT at okm okts
        have sm := okS_of okm.2
        rw [if_neg (by simp), vNext_mk]
        simp only [t_istree_6, flatD, List.any_cons, List.any_nil, eqv_str, eqv_int, eqv_ti, eqv_it, eqv_st, eqv_ts, cut1, Bool.or_false, Bool.or_true, Bool.and_self, Bool.and_true, Bool.and_false, Bool.false_or, Bool.true_or, and_self, ofs_inj, ofs_app, ofs_len, String.reduceEq, String.reduceNe, String.reduceAppend, decide_true, decide_false, Bool.not_true, Bool.not_false, sz0, sz1, sz2, sz3, sz4, sz5, sz6, sz7, sz8, sz9, sz10, sz11, sz12, sz13, sz14, sz15, sz16, sz17, sz18, sz19, sz20, sz21, sz22, sz23, sz24, sz25, cpow1018, true_and, and_true, Nat.reduceAdd, Nat.reduceLT, Nat.reduceSub, Int.reduceNe, Int.reduceEq, Int.reduceLT, Int.reduceLE, Int.reduceToNat, ne_eq, not_false_eq_true, List.length_map, Nat.lt_irrefl, dV_nx, dV_rt, at0, at1, at2, at3, ix20, ix21, vSeq, vIfS, vTest, vTruth, truth, v2, v1, vN, vCons, vNil, vStar, vVar, vC, xIx, Vl.opI0, Vl.opI, pk, vSet, vAug, vAsg, xgSub, vRet, vRetN, vDrop, vBreak, vCont, asD, asDs, opMod, opDiv, opMul2, Vl.opAdd, Vl.opAddO, opSub, opPow, opLt, Vl.opLe, opGt, Vl.opGe, xEq, okEq_str, okEq_int, xIn, okIn, inD, xIsN, isNone_n, isNone_t, isNone_l, isNone_i, isNone_s, isMo, mob, pkm, gModI, gDivI, gSubI, gMulI, gPowI, gGt, gLt, gLe, gGe, vNotT, vAndT, vOrT, vAndV, vOrV, opNot, opNotG, vIfE, opTup, opLst, opLstO, Vl.opLen, Vl.opInt, opList, opListO, opTuple, opII, gMax, gMin, vM, vM0, isT, xPop, Vl.opAppend, opExtend, opJoin, vgName, vgTup, vgCons, vgNil, kOpt_some, kOpn_some, kOps_some, Vl.opSum, Vl.opInsert, Vl.opIndex, opDivmod, vSl, vPart, vNoPart, opSl, opSlO, opRev, opCallK, ownD, ownO, objs, renum, uniq, getS, putS, vCall0, vFor, vForW, En.wk, vSeqI, vTupI, vRng1, vRng2, vRngD, vFn, vCallL, vOdd, vWays, vEnum, vZip, chkOf, vLcK, vYes, finD, finO, En.wipe, wipeE, En.trim, trimS, dropNone, clr_n, clr_v, clr_k, clr_o, wth, Vl.ret, takeS, startV,  List.map_cons, List.map_nil, List.length_cons, List.length_nil, List.cons_append, List.nil_append, List.replicate, List.getElem?_cons_succ, List.getElem?_cons_zero, List.getElem?_nil, List.set_cons_succ, List.set_cons_zero, List.set_nil, List.all_nil, List.all_cons, Bool.true_and, Option.map_some, Option.map_none, if_true, if_false, decide_eq_true_eq, Bool.false_eq_true, List.take_succ_cons, List.take_zero, List.take_nil, List.drop_succ_cons, List.drop_zero, List.drop_nil, reduceIte, reduceCtorEq]
        simp only [t_istree_5, vAG, capE, flatD, List.any_cons, List.any_nil, eqv_str, eqv_int, eqv_ti, eqv_it, eqv_st, eqv_ts, cut1, Bool.or_false, Bool.or_true, Bool.and_self, Bool.and_true, Bool.and_false, Bool.false_or, Bool.true_or, and_self, ofs_inj, ofs_app, ofs_len, String.reduceEq, String.reduceNe, String.reduceAppend, decide_true, decide_false, Bool.not_true, Bool.not_false, sz0, sz1, sz2, sz3, sz4, sz5, sz6, sz7, sz8, sz9, sz10, sz11, sz12, sz13, sz14, sz15, sz16, sz17, sz18, sz19, sz20, sz21, sz22, sz23, sz24, sz25, cpow1018, true_and, and_true, Nat.reduceAdd, Nat.reduceLT, Nat.reduceSub, Int.reduceNe, Int.reduceEq, Int.reduceLT, Int.reduceLE, Int.reduceToNat, ne_eq, not_false_eq_true, List.length_map, Nat.lt_irrefl, dV_nx, dV_rt, at0, at1, at2, at3, ix20, ix21, vSeq, vIfS, vTest, vTruth, truth, v2, v1, vN, vCons, vNil, vStar, vVar, vC, xIx, Vl.opI0, Vl.opI, pk, vSet, vAug, vAsg, xgSub, vRet, vRetN, vDrop, vBreak, vCont, asD, asDs, opMod, opDiv, opMul2, Vl.opAdd, Vl.opAddO, opSub, opPow, opLt, Vl.opLe, opGt, Vl.opGe, xEq, okEq_str, okEq_int, xIn, okIn, inD, xIsN, isNone_n, isNone_t, isNone_l, isNone_i, isNone_s, isMo, mob, pkm, gModI, gDivI, gSubI, gMulI, gPowI, gGt, gLt, gLe, gGe, vNotT, vAndT, vOrT, vAndV, vOrV, opNot, opNotG, vIfE, opTup, opLst, opLstO, Vl.opLen, Vl.opInt, opList, opListO, opTuple, opII, gMax, gMin, vM, vM0, isT, xPop, Vl.opAppend, opExtend, opJoin, vgName, vgTup, vgCons, vgNil, kOpt_some, kOpn_some, kOps_some, Vl.opSum, Vl.opInsert, Vl.opIndex, opDivmod, vSl, vPart, vNoPart, opSl, opSlO, opRev, opCallK, ownD, ownO, objs, renum, uniq, getS, putS, vCall0, vFor, vForW, En.wk, vSeqI, vTupI, vRng1, vRng2, vRngD, vFn, vCallL, vOdd, vWays, vEnum, vZip, chkOf, vLcK, vYes, finD, finO, En.wipe, wipeE, En.trim, trimS, dropNone, clr_n, clr_v, clr_k, clr_o, wth, Vl.ret, takeS, startV,  List.map_cons, List.map_nil, List.length_cons, List.length_nil, List.cons_append, List.nil_append, List.replicate, List.getElem?_cons_succ, List.getElem?_cons_zero, List.getElem?_nil, List.set_cons_succ, List.set_cons_zero, List.set_nil, List.all_nil, List.all_cons, Bool.true_and, Option.map_some, Option.map_none, if_true, if_false, decide_eq_true_eq, Bool.false_eq_true, List.take_succ_cons, List.take_zero, List.take_nil, List.drop_succ_cons, List.drop_zero, List.drop_nil, reduceIte, reduceCtorEq]
        have r2 : resTi (.tuple [.list (ms.map .str), .list ts], b, k) = (b.all (fun x => decide (x ∈ ms)) && ts.all fun t => isTr (40 - k) ms t) := by
          rw [r1, hk40]
          show (match hfD (.tuple [.list (ms.map .str), .list ts]) with
            | some (ms, ts) => b.all (fun x => decide (x ∈ ms)) && ts.all fun t => isTr (40 - k) ms t
            | none => false) = _
          rw [he]
        refine ag_in sm b none g2 fun s0 => ?_
        cases hb : b.all fun x => decide (x ∈ ms) with
        | false =>
          rw [if_pos (by rfl)]
          simp only [t_istree_2, flatD, List.any_cons, List.any_nil, eqv_str, eqv_int, eqv_ti, eqv_it, eqv_st, eqv_ts, cut1, Bool.or_false, Bool.or_true, Bool.and_self, Bool.and_true, Bool.and_false, Bool.false_or, Bool.true_or, and_self, ofs_inj, ofs_app, ofs_len, String.reduceEq, String.reduceNe, String.reduceAppend, decide_true, decide_false, Bool.not_true, Bool.not_false, sz0, sz1, sz2, sz3, sz4, sz5, sz6, sz7, sz8, sz9, sz10, sz11, sz12, sz13, sz14, sz15, sz16, sz17, sz18, sz19, sz20, sz21, sz22, sz23, sz24, sz25, cpow1018, true_and, and_true, Nat.reduceAdd, Nat.reduceLT, Nat.reduceSub, Int.reduceNe, Int.reduceEq, Int.reduceLT, Int.reduceLE, Int.reduceToNat, ne_eq, not_false_eq_true, List.length_map, Nat.lt_irrefl, dV_nx, dV_rt, at0, at1, at2, at3, ix20, ix21, vSeq, vIfS, vTest, vTruth, truth, v2, v1, vN, vCons, vNil, vStar, vVar, vC, xIx, Vl.opI0, Vl.opI, pk, vSet, vAug, vAsg, xgSub, vRet, vRetN, vDrop, vBreak, vCont, asD, asDs, opMod, opDiv, opMul2, Vl.opAdd, Vl.opAddO, opSub, opPow, opLt, Vl.opLe, opGt, Vl.opGe, xEq, okEq_str, okEq_int, xIn, okIn, inD, xIsN, isNone_n, isNone_t, isNone_l, isNone_i, isNone_s, isMo, mob, pkm, gModI, gDivI, gSubI, gMulI, gPowI, gGt, gLt, gLe, gGe, vNotT, vAndT, vOrT, vAndV, vOrV, opNot, opNotG, vIfE, opTup, opLst, opLstO, Vl.opLen, Vl.opInt, opList, opListO, opTuple, opII, gMax, gMin, vM, vM0, isT, xPop, Vl.opAppend, opExtend, opJoin, vgName, vgTup, vgCons, vgNil, kOpt_some, kOpn_some, kOps_some, Vl.opSum, Vl.opInsert, Vl.opIndex, opDivmod, vSl, vPart, vNoPart, opSl, opSlO, opRev, opCallK, ownD, ownO, objs, renum, uniq, getS, putS, vCall0, vFor, vForW, En.wk, vSeqI, vTupI, vRng1, vRng2, vRngD, vFn, vCallL, vOdd, vWays, vEnum, vZip, chkOf, vLcK, vYes, finD, finO, En.wipe, wipeE, En.trim, trimS, dropNone, clr_n, clr_v, clr_k, clr_o, wth, Vl.ret, takeS, startV,  List.map_cons, List.map_nil, List.length_cons, List.length_nil, List.cons_append, List.nil_append, List.replicate, List.getElem?_cons_succ, List.getElem?_cons_zero, List.getElem?_nil, List.set_cons_succ, List.set_cons_zero, List.set_nil, List.all_nil, List.all_cons, Bool.true_and, Option.map_some, Option.map_none, if_true, if_false, decide_eq_true_eq, Bool.false_eq_true, List.take_succ_cons, List.take_zero, List.take_nil, List.drop_succ_cons, List.drop_zero, List.drop_nil, reduceIte, reduceCtorEq]
          refine fin ?_
          rw [r2, hb, Bool.false_and]
        | true =>
          rw [if_neg (by decide), vNext_mk]
          simp only [t_istree_4, flatD, List.any_cons, List.any_nil, eqv_str, eqv_int, eqv_ti, eqv_it, eqv_st, eqv_ts, cut1, Bool.or_false, Bool.or_true, Bool.and_self, Bool.and_true, Bool.and_false, Bool.false_or, Bool.true_or, and_self, ofs_inj, ofs_app, ofs_len, String.reduceEq, String.reduceNe, String.reduceAppend, decide_true, decide_false, Bool.not_true, Bool.not_false, sz0, sz1, sz2, sz3, sz4, sz5, sz6, sz7, sz8, sz9, sz10, sz11, sz12, sz13, sz14, sz15, sz16, sz17, sz18, sz19, sz20, sz21, sz22, sz23, sz24, sz25, cpow1018, true_and, and_true, Nat.reduceAdd, Nat.reduceLT, Nat.reduceSub, Int.reduceNe, Int.reduceEq, Int.reduceLT, Int.reduceLE, Int.reduceToNat, ne_eq, not_false_eq_true, List.length_map, Nat.lt_irrefl, dV_nx, dV_rt, at0, at1, at2, at3, ix20, ix21, vSeq, vIfS, vTest, vTruth, truth, v2, v1, vN, vCons, vNil, vStar, vVar, vC, xIx, Vl.opI0, Vl.opI, pk, vSet, vAug, vAsg, xgSub, vRet, vRetN, vDrop, vBreak, vCont, asD, asDs, opMod, opDiv, opMul2, Vl.opAdd, Vl.opAddO, opSub, opPow, opLt, Vl.opLe, opGt, Vl.opGe, xEq, okEq_str, okEq_int, xIn, okIn, inD, xIsN, isNone_n, isNone_t, isNone_l, isNone_i, isNone_s, isMo, mob, pkm, gModI, gDivI, gSubI, gMulI, gPowI, gGt, gLt, gLe, gGe, vNotT, vAndT, vOrT, vAndV, vOrV, opNot, opNotG, vIfE, opTup, opLst, opLstO, Vl.opLen, Vl.opInt, opList, opListO, opTuple, opII, gMax, gMin, vM, vM0, isT, xPop, Vl.opAppend, opExtend, opJoin, vgName, vgTup, vgCons, vgNil, kOpt_some, kOpn_some, kOps_some, Vl.opSum, Vl.opInsert, Vl.opIndex, opDivmod, vSl, vPart, vNoPart, opSl, opSlO, opRev, opCallK, ownD, ownO, objs, renum, uniq, getS, putS, vCall0, vFor, vForW, En.wk, vSeqI, vTupI, vRng1, vRng2, vRngD, vFn, vCallL, vOdd, vWays, vEnum, vZip, chkOf, vLcK, vYes, finD, finO, En.wipe, wipeE, En.trim, trimS, dropNone, clr_n, clr_v, clr_k, clr_o, wth, Vl.ret, takeS, startV,  List.map_cons, List.map_nil, List.length_cons, List.length_nil, List.cons_append, List.nil_append, List.replicate, List.getElem?_cons_succ, List.getElem?_cons_zero, List.getElem?_nil, List.set_cons_succ, List.set_cons_zero, List.set_nil, List.all_nil, List.all_cons, Bool.true_and, Option.map_some, Option.map_none, if_true, if_false, decide_eq_true_eq, Bool.false_eq_true, List.take_succ_cons, List.take_zero, List.take_nil, List.drop_succ_cons, List.drop_zero, List.drop_nil, reduceIte, reduceCtorEq]
          rw [hb, Bool.true_and] at r2
          have l0 := szTi_len ts0
          have nt : ndT (.tuple [.list (ms.map .str), .list ts]) = 1 + ((1 + ndTs (ms.map .str)) + ((1 + ndTs ts) + 0)) := by
            simp only [ndT, ndTs]
          rw [nt] at hsz
          have lt : ts.length ≤ ndTs ts := by
            have := szTi_len (ts.map fun t => (t, ms, k))
            rw [szTi_kids, List.length_map] at this
            exact this
          refine fl_invD (chk := none) ts (fun ys e => ∃ w', e = ⟨[some (.val d), some (.obj 0), some (.val (.tuple [.list (ms.map .str), .list ts])), some (.val (.list (b.map .str))), some (.val (.int (k : Nat))), some (.val (.list ts)), w', some (.val (.list (ms.map .str)))], [some (.l ((ts0 ++ ys.map fun q => (q, ms, k + 1)).map encTi))]⟩) (fun _ _ _ => trivial) ?_ ?_ ⟨_, by rw [List.map_nil, List.append_nil]⟩
          · rintro ys v zs e Nx2 hys ⟨z, rfl⟩ hk2
            have hl : ys.length < ts.length := by rw [hys]; simp
            simp only [t_istree_3, id_eq, flatD, List.any_cons, List.any_nil, eqv_str, eqv_int, eqv_ti, eqv_it, eqv_st, eqv_ts, cut1, Bool.or_false, Bool.or_true, Bool.and_self, Bool.and_true, Bool.and_false, Bool.false_or, Bool.true_or, and_self, ofs_inj, ofs_app, ofs_len, String.reduceEq, String.reduceNe, String.reduceAppend, decide_true, decide_false, Bool.not_true, Bool.not_false, sz0, sz1, sz2, sz3, sz4, sz5, sz6, sz7, sz8, sz9, sz10, sz11, sz12, sz13, sz14, sz15, sz16, sz17, sz18, sz19, sz20, sz21, sz22, sz23, sz24, sz25, cpow1018, true_and, and_true, Nat.reduceAdd, Nat.reduceLT, Nat.reduceSub, Int.reduceNe, Int.reduceEq, Int.reduceLT, Int.reduceLE, Int.reduceToNat, ne_eq, not_false_eq_true, List.length_map, Nat.lt_irrefl, dV_nx, dV_rt, at0, at1, at2, at3, ix20, ix21, vSeq, vIfS, vTest, vTruth, truth, v2, v1, vN, vCons, vNil, vStar, vVar, vC, xIx, Vl.opI0, Vl.opI, pk, vSet, vAug, vAsg, xgSub, vRet, vRetN, vDrop, vBreak, vCont, asD, asDs, opMod, opDiv, opMul2, Vl.opAdd, Vl.opAddO, opSub, opPow, opLt, Vl.opLe, opGt, Vl.opGe, xEq, okEq_str, okEq_int, xIn, okIn, inD, xIsN, isNone_n, isNone_t, isNone_l, isNone_i, isNone_s, isMo, mob, pkm, gModI, gDivI, gSubI, gMulI, gPowI, gGt, gLt, gLe, gGe, vNotT, vAndT, vOrT, vAndV, vOrV, opNot, opNotG, vIfE, opTup, opLst, opLstO, Vl.opLen, Vl.opInt, opList, opListO, opTuple, opII, gMax, gMin, vM, vM0, isT, xPop, Vl.opAppend, opExtend, opJoin, vgName, vgTup, vgCons, vgNil, kOpt_some, kOpn_some, kOps_some, Vl.opSum, Vl.opInsert, Vl.opIndex, opDivmod, vSl, vPart, vNoPart, opSl, opSlO, opRev, opCallK, ownD, ownO, objs, renum, uniq, getS, putS, vCall0, vFor, vForW, En.wk, vSeqI, vTupI, vRng1, vRng2, vRngD, vFn, vCallL, vOdd, vWays, vEnum, vZip, chkOf, vLcK, vYes, finD, finO, En.wipe, wipeE, En.trim, trimS, dropNone, clr_n, clr_v, clr_k, clr_o, wth, Vl.ret, takeS, startV,  List.map_cons, List.map_nil, List.length_cons, List.length_nil, List.cons_append, List.nil_append, List.replicate, List.getElem?_cons_succ, List.getElem?_cons_zero, List.getElem?_nil, List.set_cons_succ, List.set_cons_zero, List.set_nil, List.all_nil, List.all_cons, Bool.true_and, Option.map_some, Option.map_none, if_true, if_false, decide_eq_true_eq, Bool.false_eq_true, List.take_succ_cons, List.take_zero, List.take_nil, List.drop_succ_cons, List.drop_zero, List.drop_nil, reduceIte, reduceCtorEq]
            have hh : ((ts0 ++ (ys ++ [v]).map fun q => (q, ms, k + 1)).map encTi) = ((ts0 ++ ys.map fun q => (q, ms, k + 1)).map encTi) ++ [.tuple [v, .list (ms.map .str), .int ((k : Int) + 1)]] := by
              simp [encTi]
            refine ⟨bigl (by simp only [List.length_map, List.length_append]; omega), hk2 _ 1 [] (Nat.le_refl _) ⟨some (.val v), ?_⟩⟩
            rw [hh]
            rfl
          · rintro e ⟨z, rfl⟩
            refine hk (szTi (ts0 ++ ts.map fun q => (q, ms, k + 1))) _ 1 [] (by rw [szTi_app, szTi_app, szTi_kids]; simp only [szTi, nt]; omega) (Nat.le_refl _) ⟨ts0 ++ ts.map fun q => (q, ms, k + 1), _, _, _, _, _, _, rfl, rfl, by rw [szTi_app, szTi_kids]; omega, fun x hx => ?_, ?_⟩
            · rcases List.mem_append.mp hx with hx | hx
              · exact g5 x hx
              · obtain ⟨y, hy, rfl⟩ := List.mem_map.mp hx
                exact ⟨okTs_mem okts.2 y hy, sm, by simp, by simp only; omega⟩
            · rw [← hr, List.all_append, List.all_cons, List.all_nil, Bool.and_true, r2, List.all_map]
              have : (resTi ∘ fun q => (q, ms, k + 1)) = fun t => isTr (40 - k) ms t := by
                funext q
                show isTr (41 - (k + 1)) ms q = _
                rw [show 41 - (k + 1) = 40 - k by omega]
              rw [this]
end Kf
namespace Kf
open PySem L2 Vl PySem.Spec PyProof.Rows
def t_Ltree_1 (p_Ltake p_Ltree : VSp) : VTS := (vRet (vN opTup (vCons (vVar 4) (vCons (vLcK (vRng1 (vCons (vVar 5) vNil)) (vgName 7) vYes (vN (opCallK ownD p_Ltree) (vCons (vVar 0) (vCons (vVar 1) (vCons (vVar 4) (vCons (v2 opSub (vVar 3) (vC (.int 1))) vNil))))) [7] finD) vNil))))
def t_Ltree_2 (p_Ltake p_Ltree : VSp) : VTS := vSeq (vSet 5 (v2 opMul2 (vN (opCallK ownD p_Ltake) (vCons (vVar 0) (vCons (vC (.int 3)) vNil))) (vN opInt (vCons (v2 opGt (vVar 3) (vC (.int 0))) vNil)))) (t_Ltree_1 p_Ltake p_Ltree)
def t_Ltree_3 (p_Ltake p_Ltree : VSp) : VTS := vSeq (vSet 4 (vLcK (vSeqI (vN opSortS (vCons (vVar 1) vNil))) (vgName 6) (vOrT (vTest (v2 (xIn false) (vVar 6) (vVar 2))) (vTest (v2 (xEq false) (vN (opCallK ownD p_Ltake) (vCons (vVar 0) (vCons (vC (.int 3)) vNil))) (vC (.int 0))))) (vVar 6) [6] finD)) (t_Ltree_2 p_Ltake p_Ltree)
def t_Ltree (p_Ltake p_Ltree : VSp) : VTS := (t_Ltree_3 p_Ltake p_Ltree)
def t_Lallv4_1 (p_Lallv4 : VSp) : VTS := (vSet 1 (v2 opAdd (vVar 1) (vN (opCallK ownD p_Lallv4) (vCons (vVar 2) vNil))))
def t_Lallv4_2 (p_Lallv4 : VSp) : VTS := (vRet (vVar 1))
def t_Lallv4_3 (p_Lallv4 : VSp) : VTS := vSeq (vForW (vSeqI (v2 xIx (vVar 0) (vC (.int 1)))) (vgName 2)
      (t_Lallv4_1 p_Lallv4)) (t_Lallv4_2 p_Lallv4)
def t_Lallv4_4 (p_Lallv4 : VSp) : VTS := vSeq (vSet 1 (vN opLst (vCons (vVar 0) vNil))) (t_Lallv4_3 p_Lallv4)
def t_Lallv4 (p_Lallv4 : VSp) : VTS := (t_Lallv4_4 p_Lallv4)
def t_Laremarks_1 : VTS := (vRet (vC (.bool false)))
def t_Laremarks_2 : VTS := (vRet (vC (.bool false)))
def t_Laremarks_3 : VTS := (vRet (vC (.bool false)))
def t_Laremarks_4 : VTS := (vIfS (vTest (v2 (xEq true) (vLcK (vStrI (vVar 1)) (vgName 2) (vTest (v2 (opInS true) (vVar 2) (vC (.str "abcdefghijklmnopqrstuvwxyz")))) (vVar 2) [2] finD) (vN opLst vNil))) (t_Laremarks_3) vNext)
def t_Laremarks_5 : VTS := vSeq (vIfS (vOrT (vNotT (vTest (vIsi "str" (vVar 1)))) (vNotT (vTest (vChain opLe opLe (vC (.int 1)) (vN opLen (vCons (vVar 1) vNil)) (vC (.int 6)))))) (t_Laremarks_2) vNext) (t_Laremarks_4)
def t_Laremarks_6 : VTS := (vRet (v2 (xEq false) (vVar 0) (v1 opSSet (vVar 0))))
def t_Laremarks_7 : VTS := vSeq (vForW (vSeqI (vVar 0)) (vgName 1)
      (t_Laremarks_5)) (t_Laremarks_6)
def t_Laremarks_8 : VTS := vSeq (vIfS (vNotT (vTest (vIsi "list" (vVar 0)))) (t_Laremarks_1) vNext) (t_Laremarks_7)
def t_Laremarks : VTS := (t_Laremarks_8)
def t_Listree_1 (p_Laremarks p_Listree : VSp) : VTS := (vRet (vC (.bool false)))
def t_Listree_2 (p_Laremarks p_Listree : VSp) : VTS := (vRet (vC (.bool false)))
def t_Listree_3 (p_Laremarks p_Listree : VSp) : VTS := (vRet (vC (.bool false)))
def t_Listree_4 (p_Laremarks p_Listree : VSp) : VTS := (vIfS (vOrT (vNotT (vTruth (vN (opCallK ownD p_Listree) (vCons (vVar 2) (vCons (v2 opSub (vVar 1) (vC (.int 1))) vNil))))) (vTest (v2 (xEq true) (vLcK (vSeqI (v2 xIx (vVar 0) (vC (.int 0)))) (vgName 3) (vTest (v2 (xIn true) (vVar 3) (v2 xIx (vVar 2) (vC (.int 0))))) (vVar 3) [3] finD) (vN opLst vNil)))) (t_Listree_3 p_Laremarks p_Listree) vNext)
def t_Listree_5 (p_Laremarks p_Listree : VSp) : VTS := (vRet (vC (.bool true)))
def t_Listree_6 (p_Laremarks p_Listree : VSp) : VTS := vSeq (vForW (vSeqI (v2 xIx (vVar 0) (vC (.int 1)))) (vgName 2)
      (t_Listree_4 p_Laremarks p_Listree)) (t_Listree_5 p_Laremarks p_Listree)
def t_Listree_7 (p_Laremarks p_Listree : VSp) : VTS := vSeq (vIfS (vNotT (vTest (vIsi "list" (v2 xIx (vVar 0) (vC (.int 1)))))) (t_Listree_2 p_Laremarks p_Listree) vNext) (t_Listree_6 p_Laremarks p_Listree)
def t_Listree_8 (p_Laremarks p_Listree : VSp) : VTS := vSeq (vIfS (vOrT (vTest (v2 (xEq false) (vVar 1) (vC (.int 0)))) (vOrT (vNotT (vTest (vIsi "tuple" (vVar 0)))) (vOrT (vTest (v2 (xEq true) (vN opLen (vCons (vVar 0) vNil)) (vC (.int 2)))) (vNotT (vTruth (vN (opCallK ownD p_Laremarks) (vCons (v2 xIx (vVar 0) (vC (.int 0))) vNil))))))) (t_Listree_1 p_Laremarks p_Listree) vNext) (t_Listree_7 p_Laremarks p_Listree)
def t_Listree (p_Laremarks p_Listree : VSp) : VTS := (t_Listree_8 p_Laremarks p_Listree)
def t_Lbentmarks_1 (p_Ltake : VSp) : VTS := (vRet (v2 opAdd (v2 opAdd (vSl opSl (vVar 0) vNoPart (vPart (vVar 2))) (vN opLst (vCons (v2 xIx (vVar 3) (vN (opCallK ownD p_Ltake) (vCons (vVar 1) (vCons (vC (.int 9)) vNil)))) vNil))) (vSl opSl (vVar 0) (vPart (vVar 2)) vNoPart)))
def t_Lbentmarks_2 (p_Ltake : VSp) : VTS := (vRet (v2 opAdd (vSl opSl (vVar 0) vNoPart (vPart (vVar 2))) (vSl opSl (vVar 0) (vPart (v2 opAdd (vVar 2) (vC (.int 1)))) vNoPart)))
def t_Lbentmarks_3 (p_Ltake : VSp) : VTS := (vRet (v1 opRev (vVar 0)))
def t_Lbentmarks_4 (p_Ltake : VSp) : VTS := (vRet (v2 opAdd (vVar 0) (vSl opSl (vVar 0) (vPart (v1 opNeg (vC (.int 1)))) vNoPart)))
def t_Lbentmarks_5 (p_Ltake : VSp) : VTS := (vRet (vN opTuple (vCons (vVar 0) vNil)))
def t_Lbentmarks_6 (p_Ltake : VSp) : VTS := vSeq (vIfS (vTest (v2 (xEq false) (vVar 4) (vC (.int 3)))) (t_Lbentmarks_4 p_Ltake) vNext) (t_Lbentmarks_5 p_Ltake)
def t_Lbentmarks_7 (p_Ltake : VSp) : VTS := vSeq (vIfS (vTest (v2 (xEq false) (vVar 4) (vC (.int 2)))) (t_Lbentmarks_3 p_Ltake) vNext) (t_Lbentmarks_6 p_Ltake)
def t_Lbentmarks_8 (p_Ltake : VSp) : VTS := vSeq (vIfS (vTest (v2 (xEq false) (vVar 4) (vC (.int 1)))) (t_Lbentmarks_2 p_Ltake) vNext) (t_Lbentmarks_7 p_Ltake)
def t_Lbentmarks_9 (p_Ltake : VSp) : VTS := vSeq (vIfS (vTest (v2 (xEq false) (vVar 4) (vC (.int 0)))) (t_Lbentmarks_1 p_Ltake) vNext) (t_Lbentmarks_8 p_Ltake)
def t_Lbentmarks_10 (p_Ltake : VSp) : VTS := vSeq (vSet 4 (vN (opCallK ownD p_Ltake) (vCons (vVar 1) (vCons (vC (.int 5)) vNil)))) (t_Lbentmarks_9 p_Ltake)
def t_Lbentmarks_11 (p_Ltake : VSp) : VTS := vSeq (vSet 3 (vN opLst (vCons (vC (.str "A")) (vCons (vC (.str "")) (vCons (vC (.str "a1")) (vCons (vC (.str "abcdefg")) (vCons (vC .none) (vCons (vC (.int 5)) (vCons (vN opTup (vCons (vC (.str "a")) vNil)) (vCons (vC (.str "a b")) (vCons (vC (.str "zz")) vNil))))))))))) (t_Lbentmarks_10 p_Ltake)
def t_Lbentmarks_12 (p_Ltake : VSp) : VTS := vSeq (vSet 2 (vN (opCallK ownD p_Ltake) (vCons (vVar 1) (vCons (v2 opAdd (vN opLen (vCons (vVar 0) vNil)) (vC (.int 1))) vNil)))) (t_Lbentmarks_11 p_Ltake)
def t_Lbentmarks (p_Ltake : VSp) : VTS := (t_Lbentmarks_12 p_Ltake)
def t_Lbentv6_1 (p_Ltake p_Lbentv6 p_Lbentmarks : VSp) : VTS := (vRet (vN opTup (vCons (vVar 2) (vCons (v2 opAdd (v2 opAdd (vSl opSl (vVar 3) vNoPart (vPart (vVar 4))) (vN opLst (vCons (vN (opCallK ownD p_Lbentv6) (vCons (v2 xIx (vVar 3) (vVar 4)) (vCons (vVar 1) vNil))) vNil))) (vSl opSl (vVar 3) (vPart (v2 opAdd (vVar 4) (vC (.int 1)))) vNoPart)) vNil))))
def t_Lbentv6_2 (p_Ltake p_Lbentv6 p_Lbentmarks : VSp) : VTS := vSeq (vSet 4 (vN (opCallK ownD p_Ltake) (vCons (vVar 1) (vCons (vN opLen (vCons (vVar 3) vNil)) vNil)))) (t_Lbentv6_1 p_Ltake p_Lbentv6 p_Lbentmarks)
def t_Lbentv6_3 (p_Ltake p_Lbentv6 p_Lbentmarks : VSp) : VTS := (vRet (vN opTup (vCons (vN (opCallK ownD p_Lbentmarks) (vCons (vVar 2) (vCons (vVar 1) vNil))) (vCons (vVar 3) vNil))))
def t_Lbentv6_4 (p_Ltake p_Lbentv6 p_Lbentmarks : VSp) : VTS := (vRet (vN opLst (vCons (vVar 2) (vCons (vVar 3) vNil))))
def t_Lbentv6_5 (p_Ltake p_Lbentv6 p_Lbentmarks : VSp) : VTS := (vRet (v2 xIx (vN opLst (vCons (vN opTup (vCons (vVar 2) (vCons (vN opTuple (vCons (vVar 3) vNil)) vNil))) (vCons (vN opTup (vCons (vVar 2) (vCons (vVar 3) (vCons (vN opLst vNil) vNil)))) (vCons (vN opTup (vCons (vVar 2) vNil)) (vCons (vN opTup (vCons (vVar 3) (vCons (vVar 2) vNil))) vNil))))) (vN (opCallK ownD p_Ltake) (vCons (vVar 1) (vCons (vC (.int 4)) vNil)))))
def t_Lbentv6_6 (p_Ltake p_Lbentv6 p_Lbentmarks : VSp) : VTS := (vRet (v2 xIx (vN opLst (vCons (vC .none) (vCons (vC (.str "tree")) (vCons (vC (.int 7)) (vCons (vN opTup vNil) (vCons (vN opTup (vCons (vN opLst vNil) (vCons (vC .none) vNil))) (vCons vDct vNil))))))) (vN (opCallK ownD p_Ltake) (vCons (vVar 1) (vCons (vC (.int 6)) vNil)))))
def t_Lbentv6_7 (p_Ltake p_Lbentv6 p_Lbentmarks : VSp) : VTS := vSeq (vIfS (vTest (v2 (xEq false) (vVar 5) (vC (.int 4)))) (t_Lbentv6_5 p_Ltake p_Lbentv6 p_Lbentmarks) vNext) (t_Lbentv6_6 p_Ltake p_Lbentv6 p_Lbentmarks)
def t_Lbentv6_8 (p_Ltake p_Lbentv6 p_Lbentmarks : VSp) : VTS := vSeq (vIfS (vTest (v2 (xEq false) (vVar 5) (vC (.int 3)))) (t_Lbentv6_4 p_Ltake p_Lbentv6 p_Lbentmarks) vNext) (t_Lbentv6_7 p_Ltake p_Lbentv6 p_Lbentmarks)
def t_Lbentv6_9 (p_Ltake p_Lbentv6 p_Lbentmarks : VSp) : VTS := vSeq (vIfS (vTest (v2 opLt (vVar 5) (vC (.int 3)))) (t_Lbentv6_3 p_Ltake p_Lbentv6 p_Lbentmarks) vNext) (t_Lbentv6_8 p_Ltake p_Lbentv6 p_Lbentmarks)
def t_Lbentv6_10 (p_Ltake p_Lbentv6 p_Lbentmarks : VSp) : VTS := vSeq (vSet 5 (vN (opCallK ownD p_Ltake) (vCons (vVar 1) (vCons (vC (.int 6)) vNil)))) (t_Lbentv6_9 p_Ltake p_Lbentv6 p_Lbentmarks)
def t_Lbentv6_11 (p_Ltake p_Lbentv6 p_Lbentmarks : VSp) : VTS := vSeq (vIfS (vAndT (vTest (v2 (xEq true) (vVar 3) (vN opLst vNil))) (vTest (v2 opGt (vN (opCallK ownD p_Ltake) (vCons (vVar 1) (vCons (vC (.int 3)) vNil))) (vC (.int 0))))) (t_Lbentv6_2 p_Ltake p_Lbentv6 p_Lbentmarks) vNext) (t_Lbentv6_10 p_Ltake p_Lbentv6 p_Lbentmarks)
def t_Lbentv6_12 (p_Ltake p_Lbentv6 p_Lbentmarks : VSp) : VTS := vSeq (vAsg (vVar 0) (vgTup 2 (vgCons (vgName 2) (vgCons (vgName 3) vgNil)))) (t_Lbentv6_11 p_Ltake p_Lbentv6 p_Lbentmarks)
def t_Lbentv6 (p_Ltake p_Lbentv6 p_Lbentmarks : VSp) : VTS := (t_Lbentv6_12 p_Ltake p_Lbentv6 p_Lbentmarks)
def t_Lcopied_1 (p_Lcopied : VSp) : VTS := (vRet (vLcK (vSeqI (vVar 0)) (vgName 1) vYes (vN (opCallK ownD p_Lcopied) (vCons (vVar 1) vNil)) [1] finD))
def t_Lcopied_2 (p_Lcopied : VSp) : VTS := (vRet (vN opTuple (vCons (vLcK (vTupI (vVar 0)) (vgName 1) vYes (vN (opCallK ownD p_Lcopied) (vCons (vVar 1) vNil)) [1] finD) vNil)))
def t_Lcopied_3 (p_Lcopied : VSp) : VTS := (vRet (vVar 0))
def t_Lcopied_4 (p_Lcopied : VSp) : VTS := vSeq (vIfS (vTest (vIsi "tuple" (vVar 0))) (t_Lcopied_2 p_Lcopied) vNext) (t_Lcopied_3 p_Lcopied)
def t_Lcopied_5 (p_Lcopied : VSp) : VTS := vSeq (vIfS (vTest (vIsi "list" (vVar 0))) (t_Lcopied_1 p_Lcopied) vNext) (t_Lcopied_4 p_Lcopied)
def t_Lcopied (p_Lcopied : VSp) : VTS := (t_Lcopied_5 p_Lcopied)
def t_Lrightv2_1 (p_Lcopied p_istree p_Listree p_worldsof p_Lallv4 : VSp) : VTS := (vRet (vC (.bool false)))
def t_Lrightv2_2 (p_Lcopied p_istree p_Listree p_worldsof p_Lallv4 : VSp) : VTS := (vRet (vC (.bool true)))
def t_Lrightv2_3 (p_Lcopied p_istree p_Listree p_worldsof p_Lallv4 : VSp) : VTS := (vRet (vAndV (vIsi "int" (vVar 3)) (vAndV (v1 opNotG (vIsi "bool" (vVar 3))) (vAndV (v2 (xEq false) (vVar 3) (vN opLen (vCons (vN (opCallK ownD p_Lallv4) (vCons (vVar 0) vNil)) vNil))) (v2 (xEq false) (vVar 1) (vVar 0))))))
def t_Lrightv2_4 (p_Lcopied p_istree p_Listree p_worldsof p_Lallv4 : VSp) : VTS := vSeq (vSet 3 (vN (opCallK ownD p_worldsof) (vCons (vVar 1) vNil))) (t_Lrightv2_3 p_Lcopied p_istree p_Listree p_worldsof p_Lallv4)
def t_Lrightv2_5 (p_Lcopied p_istree p_Listree p_worldsof p_Lallv4 : VSp) : VTS := vSeq (vIfS (vNotT (vTruth (vVar 2))) (t_Lrightv2_2 p_Lcopied p_istree p_Listree p_worldsof p_Lallv4) vNext) (t_Lrightv2_4 p_Lcopied p_istree p_Listree p_worldsof p_Lallv4)
def t_Lrightv2_6 (p_Lcopied p_istree p_Listree p_worldsof p_Lallv4 : VSp) : VTS := vSeq (vIfS (vOrT (vNotT (vTest (vIsi "bool" (vVar 2)))) (vOrT (vTest (v2 (xEq true) (vVar 2) (vN (opCallK ownD p_Listree) (vCons (vVar 0) (vCons (vC (.int 40)) vNil))))) (vTest (v2 ySm (vVar 1) (vVar 0))))) (t_Lrightv2_1 p_Lcopied p_istree p_Listree p_worldsof p_Lallv4) vNext) (t_Lrightv2_5 p_Lcopied p_istree p_Listree p_worldsof p_Lallv4)
def t_Lrightv2_7 (p_Lcopied p_istree p_Listree p_worldsof p_Lallv4 : VSp) : VTS := vSeq (vSet 2 (vN (opCallK ownD p_istree) (vCons (vVar 1) vNil))) (t_Lrightv2_6 p_Lcopied p_istree p_Listree p_worldsof p_Lallv4)
def t_Lrightv2_8 (p_Lcopied p_istree p_Listree p_worldsof p_Lallv4 : VSp) : VTS := vSeq (vSet 1 (vN (opCallK ownD p_Lcopied) (vCons (vVar 0) vNil))) (t_Lrightv2_7 p_Lcopied p_istree p_Listree p_worldsof p_Lallv4)
def t_Lrightv2 (p_Lcopied p_istree p_Listree p_worldsof p_Lallv4 : VSp) : VTS := (t_Lrightv2_8 p_Lcopied p_istree p_Listree p_worldsof p_Lallv4)
def t_lawk34_1 (p_Lpool p_Lmarks p_Ltree p_Lrightv2 p_Lbentv6 p_istree p_worldsof p_Lallv4 : VSp) : VTS := (vRet (vC (.bool false)))
def t_lawk34_2 (p_Lpool p_Lmarks p_Ltree p_Lrightv2 p_Lbentv6 p_istree p_worldsof p_Lallv4 : VSp) : VTS := (vRet (vC (.bool false)))
def t_lawk34_3 (p_Lpool p_Lmarks p_Ltree p_Lrightv2 p_Lbentv6 p_istree p_worldsof p_Lallv4 : VSp) : VTS := (vSet 7 (vN opTup (vCons (vN opList (vCons (v2 xIx (vVar 4) (vC (.int 0))) vNil)) (vCons (vN opLst (vCons (vVar 7) vNil)) vNil))))
def t_lawk34_4 (p_Lpool p_Lmarks p_Ltree p_Lrightv2 p_Lbentv6 p_istree p_worldsof p_Lallv4 : VSp) : VTS := (vRet (vC (.bool false)))
def t_lawk34_5 (p_Lpool p_Lmarks p_Ltree p_Lrightv2 p_Lbentv6 p_istree p_worldsof p_Lallv4 : VSp) : VTS := (vIfS (vOrT (vNotT (vTruth (vN (opCallK ownD p_Lrightv2) (vCons (vVar 7) vNil)))) (vTest (v2 (xIsB true) (vN (opCallK ownD p_istree) (vCons (vN opTup (vCons (vN opList (vCons (v2 xIx (vVar 4) (vC (.int 0))) vNil)) (vCons (vN opLst (vCons (vVar 7) vNil)) vNil))) vNil)) (vC (.bool false))))) (t_lawk34_4 p_Lpool p_Lmarks p_Ltree p_Lrightv2 p_Lbentv6 p_istree p_worldsof p_Lallv4) vNext)
def t_lawk34_6 (p_Lpool p_Lmarks p_Ltree p_Lrightv2 p_Lbentv6 p_istree p_worldsof p_Lallv4 : VSp) : VTS := vSeq (vForW (vRng1 (vCons (vC (.int 39)) vNil)) (vgName 8)
        (t_lawk34_3 p_Lpool p_Lmarks p_Ltree p_Lrightv2 p_Lbentv6 p_istree p_worldsof p_Lallv4)) (t_lawk34_5 p_Lpool p_Lmarks p_Ltree p_Lrightv2 p_Lbentv6 p_istree p_worldsof p_Lallv4)
def t_lawk34_7 (p_Lpool p_Lmarks p_Ltree p_Lrightv2 p_Lbentv6 p_istree p_worldsof p_Lallv4 : VSp) : VTS := vSeq (vSet 7 (vN opTup (vCons (vN opList (vCons (v2 xIx (vVar 4) (vC (.int 0))) vNil)) (vCons (vN opLst vNil) vNil)))) (t_lawk34_6 p_Lpool p_Lmarks p_Ltree p_Lrightv2 p_Lbentv6 p_istree p_worldsof p_Lallv4)
def t_lawk34_8 (p_Lpool p_Lmarks p_Ltree p_Lrightv2 p_Lbentv6 p_istree p_worldsof p_Lallv4 : VSp) : VTS := vSeq (vIfS (vOrT (vTest (v2 (xIsB true) (vN (opCallK ownD p_istree) (vCons (vVar 6) vNil)) (vC (.bool true)))) (vTest (v2 (xEq true) (vN (opCallK ownD p_worldsof) (vCons (vVar 6) vNil)) (vN opLen (vCons (vN (opCallK ownD p_Lallv4) (vCons (vVar 6) vNil)) vNil))))) (t_lawk34_2 p_Lpool p_Lmarks p_Ltree p_Lrightv2 p_Lbentv6 p_istree p_worldsof p_Lallv4) vNext) (t_lawk34_7 p_Lpool p_Lmarks p_Ltree p_Lrightv2 p_Lbentv6 p_istree p_worldsof p_Lallv4)
def t_lawk34_9 (p_Lpool p_Lmarks p_Ltree p_Lrightv2 p_Lbentv6 p_istree p_worldsof p_Lallv4 : VSp) : VTS := vSeq (vSet 6 (vN opTup (vCons (vN opList (vCons (v2 xIx (vVar 4) (vC (.int 0))) vNil)) (vCons (vN opLst (vCons (vVar 5) (vCons (vVar 4) (vCons (vVar 5) vNil)))) vNil)))) (t_lawk34_8 p_Lpool p_Lmarks p_Ltree p_Lrightv2 p_Lbentv6 p_istree p_worldsof p_Lallv4)
def t_lawk34_10 (p_Lpool p_Lmarks p_Ltree p_Lrightv2 p_Lbentv6 p_istree p_worldsof p_Lallv4 : VSp) : VTS := vSeq (vSet 5 (vN (opCallK ownD p_Ltree) (vCons (vVar 2) (vCons (vVar 3) (vCons (v2 xIx (vVar 4) (vC (.int 0))) (vCons (vC (.int 2)) vNil)))))) (t_lawk34_9 p_Lpool p_Lmarks p_Ltree p_Lrightv2 p_Lbentv6 p_istree p_worldsof p_Lallv4)
def t_lawk34_11 (p_Lpool p_Lmarks p_Ltree p_Lrightv2 p_Lbentv6 p_istree p_worldsof p_Lallv4 : VSp) : VTS := vSeq (vIfS (vOrT (vNotT (vTruth (vN (opCallK ownD p_Lrightv2) (vCons (vVar 4) vNil)))) (vNotT (vTruth (vN (opCallK ownD p_Lrightv2) (vCons (vN (opCallK ownD p_Lbentv6) (vCons (vVar 4) (vCons (vVar 2) vNil))) vNil))))) (t_lawk34_1 p_Lpool p_Lmarks p_Ltree p_Lrightv2 p_Lbentv6 p_istree p_worldsof p_Lallv4) vNext) (t_lawk34_10 p_Lpool p_Lmarks p_Ltree p_Lrightv2 p_Lbentv6 p_istree p_worldsof p_Lallv4)
def t_lawk34_12 (p_Lpool p_Lmarks p_Ltree p_Lrightv2 p_Lbentv6 p_istree p_worldsof p_Lallv4 : VSp) : VTS := vSeq (vSet 4 (vN (opCallK ownD p_Ltree) (vCons (vVar 2) (vCons (vVar 3) (vCons (vN opLst vNil) (vCons (vC (.int 3)) vNil)))))) (t_lawk34_11 p_Lpool p_Lmarks p_Ltree p_Lrightv2 p_Lbentv6 p_istree p_worldsof p_Lallv4)
def t_lawk34_13 (p_Lpool p_Lmarks p_Ltree p_Lrightv2 p_Lbentv6 p_istree p_worldsof p_Lallv4 : VSp) : VTS := vSeq (vSet 3 (vN (opCallK ownD p_Lmarks) (vCons (vVar 2) vNil))) (t_lawk34_12 p_Lpool p_Lmarks p_Ltree p_Lrightv2 p_Lbentv6 p_istree p_worldsof p_Lallv4)
def t_lawk34_14 (p_Lpool p_Lmarks p_Ltree p_Lrightv2 p_Lbentv6 p_istree p_worldsof p_Lallv4 : VSp) : VTS := vSeq (vSet 2 (vN (opCallK ownO p_Lpool) (vCons (vVar 0) (vCons (vVar 1) vNil)))) (t_lawk34_13 p_Lpool p_Lmarks p_Ltree p_Lrightv2 p_Lbentv6 p_istree p_worldsof p_Lallv4)
def t_lawk34_15 (p_Lpool p_Lmarks p_Ltree p_Lrightv2 p_Lbentv6 p_istree p_worldsof p_Lallv4 : VSp) : VTS := (vRet (vC (.bool true)))
def t_lawk34_16 (p_Lpool p_Lmarks p_Ltree p_Lrightv2 p_Lbentv6 p_istree p_worldsof p_Lallv4 : VSp) : VTS := vSeq (vForW (vRng1 (vCons (vN (opII gMax) (vCons (vC (.int 1)) (vCons (vN (opII gMin) (vCons (vN opLen (vCons (vVar 0) vNil)) (vCons (vC (.int 20)) vNil))) vNil))) vNil)) (vgName 1)
      (t_lawk34_14 p_Lpool p_Lmarks p_Ltree p_Lrightv2 p_Lbentv6 p_istree p_worldsof p_Lallv4)) (t_lawk34_15 p_Lpool p_Lmarks p_Ltree p_Lrightv2 p_Lbentv6 p_istree p_worldsof p_Lallv4)
def t_lawk34 (p_Lpool p_Lmarks p_Ltree p_Lrightv2 p_Lbentv6 p_istree p_worldsof p_Lallv4 : VSp) : VTS := (t_lawk34_16 p_Lpool p_Lmarks p_Ltree p_Lrightv2 p_Lbentv6 p_istree p_worldsof p_Lallv4)
end Kf
namespace Kf
open PySem L2 Vl PySem.Spec PyProof.Rows
/-- how many worlds -/
def wn : Nat → D → Nat
  | 0, _ => 0
  | n + 1, d => match hfD d with
    | some (_, ts) => 1 + (ts.map (wn n)).sum
    | none => 0
abbrev SwI := D × Nat × Int
def encSw (x : SwI) : D := .tuple [x.1, .int x.2.2]
def wsum : List SwI → Nat
  | [] => 0
  | x :: r => wn x.2.1 x.1 + wsum r
def wsz : List SwI → Nat
  | [] => 0
  | x :: r => ndT x.1 + wsz r
theorem wsum_app (a b : List SwI) : wsum (a ++ b) = wsum a + wsum b := by
  induction a with
  | nil => simp [wsum]
  | cons x a ih => simp only [List.cons_append, wsum, ih]; omega
theorem wsz_app (a b : List SwI) : wsz (a ++ b) = wsz a + wsz b := by
  induction a with
  | nil => simp [wsz]
  | cons x a ih => simp only [List.cons_append, wsz, ih]; omega
theorem wsz_len : ∀ a : List SwI, a.length ≤ wsz a
  | [] => Nat.le_refl _
  | x :: r => by
    have := wsz_len r
    have := ndT_pos x.1
    simp only [List.length_cons, wsz]
    omega
theorem wsz_kids (ts : List D) (m : Nat) (k : Int) : wsz (ts.map fun t => (t, m, k)) = ndTs ts := by
  induction ts with
  | nil => rfl
  | cons t r ih =>
    rw [List.map_cons]
    simp only [wsz, ih]
    rfl
theorem wsum_kids (ts : List D) (m : Nat) (k : Int) : wsum (ts.map fun t => (t, m, k)) = (ts.map (wn m)).sum := by
  induction ts with
  | nil => rfl
  | cons t r ih =>
    rw [List.map_cons, List.map_cons, List.sum_cons]
    simp only [wsum, ih]
/-- a tree -/
def goodW (x : SwI) : Prop := ∃ b, isTr x.2.1 b x.1 = true
theorem isTr_inv {n : Nat} {b : List Str} {d : D} (h : isTr n b d = true) : ∃ m ms ts, n = m + 1 ∧ hfD d = some (ms, ts) ∧ (∀ x ∈ b, x ∈ ms) ∧ (∀ t ∈ ts, isTr m ms t = true) := by
  cases n with
  | zero => cases h
  | succ m =>
    unfold isTr at h
    cases he : hfD d with
    | none =>
      rw [he] at h
      cases h
    | some p =>
      obtain ⟨ms, ts⟩ := p
      rw [he] at h
      have h' : (b.all (fun x => decide (x ∈ ms)) && ts.all fun t => isTr m ms t) = true := h
      rw [Bool.and_eq_true, List.all_eq_true, List.all_eq_true] at h'
      exact ⟨m, ms, ts, rfl, rfl, fun x hx => of_decide_eq_true (h'.1 x hx), h'.2⟩
theorem wn_at {n : Nat} {d : D} {ms : List Str} {ts : List D} (h : hfD d = some (ms, ts)) : wn (n + 1) d = 1 + (ts.map (wn n)).sum := by
  show (match hfD d with
    | some (_, ts) => 1 + (ts.map (wn n)).sum
    | none => 0) = _
  rw [h]
def pLaid : VSp := fun ss st Kp => ∃ (d : D) (n : Nat) (b : List Str), isTr n b d = true ∧ ndT d ≤ 1000000 ∧ ss = [.val d] ∧ st = [] ∧ ∀ ws : List D, ws.length = wn n d → ws.length ≤ 1000000 → Kp (.obj 0) [.l ws]
theorem r_laid {ss cs Kp} (h : pLaid ss cs Kp) : t_laidout (dV cs.length Kp) ⟨startV 6 ss, cs.map some⟩ := by
  obtain ⟨d, n, b, ht, hn, rfl, rfl, q⟩ := h
  simp only [t_laidout, t_laidout_8, t_laidout_7, t_laidout_6, opNeg, flatD, List.any_cons, List.any_nil, eqv_str, eqv_int, eqv_ti, eqv_it, eqv_st, eqv_ts, cut1, Bool.or_false, Bool.or_true, Bool.and_self, Bool.and_true, Bool.and_false, Bool.false_or, Bool.true_or, and_self, ofs_inj, ofs_app, ofs_len, String.reduceEq, String.reduceNe, String.reduceAppend, decide_true, decide_false, Bool.not_true, Bool.not_false, sz0, sz1, sz2, sz3, sz4, sz5, sz6, sz7, sz8, sz9, sz10, sz11, sz12, sz13, sz14, sz15, sz16, sz17, sz18, sz19, sz20, sz21, sz22, sz23, sz24, sz25, cpow1018, true_and, and_true, Nat.reduceAdd, Nat.reduceLT, Nat.reduceSub, Int.reduceNe, Int.reduceEq, Int.reduceLT, Int.reduceLE, Int.reduceToNat, ne_eq, not_false_eq_true, List.length_map, Nat.lt_irrefl, dV_nx, dV_rt, at0, at1, at2, at3, ix20, ix21, vSeq, vIfS, vTest, vTruth, truth, v2, v1, vN, vCons, vNil, vStar, vVar, vC, xIx, Vl.opI0, Vl.opI, pk, vSet, vAug, vAsg, xgSub, vRet, vRetN, vDrop, vBreak, vCont, asD, asDs, opMod, opDiv, opMul2, Vl.opAdd, Vl.opAddO, opSub, opPow, opLt, Vl.opLe, opGt, Vl.opGe, xEq, okEq_str, okEq_int, xIn, okIn, inD, xIsN, isNone_n, isNone_t, isNone_l, isNone_i, isNone_s, isMo, mob, pkm, gModI, gDivI, gSubI, gMulI, gPowI, gGt, gLt, gLe, gGe, vNotT, vAndT, vOrT, vAndV, vOrV, opNot, opNotG, vIfE, opTup, opLst, opLstO, Vl.opLen, Vl.opInt, opList, opListO, opTuple, opII, gMax, gMin, vM, vM0, isT, xPop, Vl.opAppend, opExtend, opJoin, vgName, vgTup, vgCons, vgNil, kOpt_some, kOpn_some, kOps_some, Vl.opSum, Vl.opInsert, Vl.opIndex, opDivmod, vSl, vPart, vNoPart, opSl, opSlO, opRev, opCallK, ownD, ownO, objs, renum, uniq, getS, putS, vCall0, vFor, vForW, En.wk, vSeqI, vTupI, vRng1, vRng2, vRngD, vFn, vCallL, vOdd, vWays, vEnum, vZip, chkOf, vLcK, vYes, finD, finO, En.wipe, wipeE, En.trim, trimS, dropNone, clr_n, clr_v, clr_k, clr_o, wth, Vl.ret, takeS, startV,  List.map_cons, List.map_nil, List.length_cons, List.length_nil, List.cons_append, List.nil_append, List.replicate, List.getElem?_cons_succ, List.getElem?_cons_zero, List.getElem?_nil, List.set_cons_succ, List.set_cons_zero, List.set_nil, List.all_nil, List.all_cons, Bool.true_and, Option.map_some, Option.map_none, if_true, if_false, decide_eq_true_eq, Bool.false_eq_true, List.take_succ_cons, List.take_zero, List.take_nil, List.drop_succ_cons, List.drop_zero, List.drop_nil, reduceIte, reduceCtorEq]
  refine while_invW (fun m e => ∃ (xs : List SwI) (ws : List D) (x y z : Option Sl), e = ⟨[some (.val d), some (.obj 0), some (.obj 1), x, y, z], [some (.l ws), some (.l (xs.map encSw))]⟩ ∧ m = wsz xs ∧ ws.length + wsz xs ≤ 1000000 ∧ (∀ t ∈ xs, goodW t) ∧ ws.length + wsum xs = wn n d) ?_ (m := wsz [(d, n, -1)]) ⟨[(d, n, -1)], [], none, none, none, rfl, rfl, by simpa [wsz] using hn, by simpa [goodW] using ⟨b, ht⟩, by simp [wsum]⟩
  rintro m e Nx ⟨xs, ws, x, y, z, rfl, rfl, hsz, hg, hr⟩ hk
  rcases List.eq_nil_or_concat xs with rfl | ⟨ts0, ⟨t, k, i⟩, rfl⟩
  · simp only [t_laidout_5, List.isEmpty_nil, List.map_nil, flatD, List.any_cons, List.any_nil, eqv_str, eqv_int, eqv_ti, eqv_it, eqv_st, eqv_ts, cut1, Bool.or_false, Bool.or_true, Bool.and_self, Bool.and_true, Bool.and_false, Bool.false_or, Bool.true_or, and_self, ofs_inj, ofs_app, ofs_len, String.reduceEq, String.reduceNe, String.reduceAppend, decide_true, decide_false, Bool.not_true, Bool.not_false, sz0, sz1, sz2, sz3, sz4, sz5, sz6, sz7, sz8, sz9, sz10, sz11, sz12, sz13, sz14, sz15, sz16, sz17, sz18, sz19, sz20, sz21, sz22, sz23, sz24, sz25, cpow1018, true_and, and_true, Nat.reduceAdd, Nat.reduceLT, Nat.reduceSub, Int.reduceNe, Int.reduceEq, Int.reduceLT, Int.reduceLE, Int.reduceToNat, ne_eq, not_false_eq_true, List.length_map, Nat.lt_irrefl, dV_nx, dV_rt, at0, at1, at2, at3, ix20, ix21, vSeq, vIfS, vTest, vTruth, truth, v2, v1, vN, vCons, vNil, vStar, vVar, vC, xIx, Vl.opI0, Vl.opI, pk, vSet, vAug, vAsg, xgSub, vRet, vRetN, vDrop, vBreak, vCont, asD, asDs, opMod, opDiv, opMul2, Vl.opAdd, Vl.opAddO, opSub, opPow, opLt, Vl.opLe, opGt, Vl.opGe, xEq, okEq_str, okEq_int, xIn, okIn, inD, xIsN, isNone_n, isNone_t, isNone_l, isNone_i, isNone_s, isMo, mob, pkm, gModI, gDivI, gSubI, gMulI, gPowI, gGt, gLt, gLe, gGe, vNotT, vAndT, vOrT, vAndV, vOrV, opNot, opNotG, vIfE, opTup, opLst, opLstO, Vl.opLen, Vl.opInt, opList, opListO, opTuple, opII, gMax, gMin, vM, vM0, isT, xPop, Vl.opAppend, opExtend, opJoin, vgName, vgTup, vgCons, vgNil, kOpt_some, kOpn_some, kOps_some, Vl.opSum, Vl.opInsert, Vl.opIndex, opDivmod, vSl, vPart, vNoPart, opSl, opSlO, opRev, opCallK, ownD, ownO, objs, renum, uniq, getS, putS, vCall0, vFor, vForW, En.wk, vSeqI, vTupI, vRng1, vRng2, vRngD, vFn, vCallL, vOdd, vWays, vEnum, vZip, chkOf, vLcK, vYes, finD, finO, En.wipe, wipeE, En.trim, trimS, dropNone, clr_n, clr_v, clr_k, clr_o, wth, Vl.ret, takeS, startV,  List.map_cons, List.map_nil, List.length_cons, List.length_nil, List.cons_append, List.nil_append, List.replicate, List.getElem?_cons_succ, List.getElem?_cons_zero, List.getElem?_nil, List.set_cons_succ, List.set_cons_zero, List.set_nil, List.all_nil, List.all_cons, Bool.true_and, Option.map_some, Option.map_none, if_true, if_false, decide_eq_true_eq, Bool.false_eq_true, List.take_succ_cons, List.take_zero, List.take_nil, List.drop_succ_cons, List.drop_zero, List.drop_nil, reduceIte, reduceCtorEq]
    simp only [wsum, wsz] at hr hsz
    exact q ws (by omega) (by omega)
  · rw [List.concat_eq_append] at *
    have ne : ((ts0 ++ [(t, k, i)]).map encSw).isEmpty = false := by simp
    have gl : ((ts0 ++ [(t, k, i)]).map encSw).getLast? = some (encSw (t, k, i)) := by simp
    have dl : ((ts0 ++ [(t, k, i)]).map encSw).dropLast = ts0.map encSw := by simp
    rw [wsz_app] at hsz
    rw [wsum_app] at hr
    simp only [wsz, wsum] at hsz hr
    obtain ⟨b1, hb1⟩ := hg (t, k, i) (by simp)
    simp only at hb1
    obtain ⟨m1, ms, ts, rfl, he, h3, h4⟩ := isTr_inv hb1
    obtain ⟨rfl, hms, hs⟩ := hfD_of he
    rw [wn_at he] at hr
    have g5 : ∀ x ∈ ts0, goodW x := fun x hx => hg x (List.mem_append_left _ hx)
    have nt : ndT (.tuple [.list (ms.map .str), .list ts]) = 1 + ((1 + ndTs (ms.map .str)) + ((1 + ndTs ts) + 0)) := by
      simp only [ndT, ndTs]
    rw [nt] at hsz
    have l0 := wsz_len ts0
    have lt : ts.length ≤ ndTs ts := by
      have := wsz_len (ts.map fun t => (t, 0, 0))
      rw [wsz_kids, List.length_map] at this
      exact this
    simp only [ne, gl, dl, t_laidout_4, flatD, List.any_cons, List.any_nil, eqv_str, eqv_int, eqv_ti, eqv_it, eqv_st, eqv_ts, cut1, Bool.or_false, Bool.or_true, Bool.and_self, Bool.and_true, Bool.and_false, Bool.false_or, Bool.true_or, and_self, ofs_inj, ofs_app, ofs_len, String.reduceEq, String.reduceNe, String.reduceAppend, decide_true, decide_false, Bool.not_true, Bool.not_false, sz0, sz1, sz2, sz3, sz4, sz5, sz6, sz7, sz8, sz9, sz10, sz11, sz12, sz13, sz14, sz15, sz16, sz17, sz18, sz19, sz20, sz21, sz22, sz23, sz24, sz25, cpow1018, true_and, and_true, Nat.reduceAdd, Nat.reduceLT, Nat.reduceSub, Int.reduceNe, Int.reduceEq, Int.reduceLT, Int.reduceLE, Int.reduceToNat, ne_eq, not_false_eq_true, List.length_map, Nat.lt_irrefl, dV_nx, dV_rt, at0, at1, at2, at3, ix20, ix21, vSeq, vIfS, vTest, vTruth, truth, v2, v1, vN, vCons, vNil, vStar, vVar, vC, xIx, Vl.opI0, Vl.opI, pk, vSet, vAug, vAsg, xgSub, vRet, vRetN, vDrop, vBreak, vCont, asD, asDs, opMod, opDiv, opMul2, Vl.opAdd, Vl.opAddO, opSub, opPow, opLt, Vl.opLe, opGt, Vl.opGe, xEq, okEq_str, okEq_int, xIn, okIn, inD, xIsN, isNone_n, isNone_t, isNone_l, isNone_i, isNone_s, isMo, mob, pkm, gModI, gDivI, gSubI, gMulI, gPowI, gGt, gLt, gLe, gGe, vNotT, vAndT, vOrT, vAndV, vOrV, opNot, opNotG, vIfE, opTup, opLst, opLstO, Vl.opLen, Vl.opInt, opList, opListO, opTuple, opII, gMax, gMin, vM, vM0, isT, xPop, Vl.opAppend, opExtend, opJoin, vgName, vgTup, vgCons, vgNil, kOpt_some, kOpn_some, kOps_some, Vl.opSum, Vl.opInsert, Vl.opIndex, opDivmod, vSl, vPart, vNoPart, opSl, opSlO, opRev, opCallK, ownD, ownO, objs, renum, uniq, getS, putS, vCall0, vFor, vForW, En.wk, vSeqI, vTupI, vRng1, vRng2, vRngD, vFn, vCallL, vOdd, vWays, vEnum, vZip, chkOf, vLcK, vYes, finD, finO, En.wipe, wipeE, En.trim, trimS, dropNone, clr_n, clr_v, clr_k, clr_o, wth, Vl.ret, takeS, startV,  List.map_cons, List.map_nil, List.length_cons, List.length_nil, List.cons_append, List.nil_append, List.replicate, List.getElem?_cons_succ, List.getElem?_cons_zero, List.getElem?_nil, List.set_cons_succ, List.set_cons_zero, List.set_nil, List.all_nil, List.all_cons, Bool.true_and, Option.map_some, Option.map_none, if_true, if_false, decide_eq_true_eq, Bool.false_eq_true, List.take_succ_cons, List.take_zero, List.take_nil, List.drop_succ_cons, List.drop_zero, List.drop_nil, reduceIte, reduceCtorEq]
    simp only [encSw, t_laidout_3, flatD, List.any_cons, List.any_nil, eqv_str, eqv_int, eqv_ti, eqv_it, eqv_st, eqv_ts, cut1, Bool.or_false, Bool.or_true, Bool.and_self, Bool.and_true, Bool.and_false, Bool.false_or, Bool.true_or, and_self, ofs_inj, ofs_app, ofs_len, String.reduceEq, String.reduceNe, String.reduceAppend, decide_true, decide_false, Bool.not_true, Bool.not_false, sz0, sz1, sz2, sz3, sz4, sz5, sz6, sz7, sz8, sz9, sz10, sz11, sz12, sz13, sz14, sz15, sz16, sz17, sz18, sz19, sz20, sz21, sz22, sz23, sz24, sz25, cpow1018, true_and, and_true, Nat.reduceAdd, Nat.reduceLT, Nat.reduceSub, Int.reduceNe, Int.reduceEq, Int.reduceLT, Int.reduceLE, Int.reduceToNat, ne_eq, not_false_eq_true, List.length_map, Nat.lt_irrefl, dV_nx, dV_rt, at0, at1, at2, at3, ix20, ix21, vSeq, vIfS, vTest, vTruth, truth, v2, v1, vN, vCons, vNil, vStar, vVar, vC, xIx, Vl.opI0, Vl.opI, pk, vSet, vAug, vAsg, xgSub, vRet, vRetN, vDrop, vBreak, vCont, asD, asDs, opMod, opDiv, opMul2, Vl.opAdd, Vl.opAddO, opSub, opPow, opLt, Vl.opLe, opGt, Vl.opGe, xEq, okEq_str, okEq_int, xIn, okIn, inD, xIsN, isNone_n, isNone_t, isNone_l, isNone_i, isNone_s, isMo, mob, pkm, gModI, gDivI, gSubI, gMulI, gPowI, gGt, gLt, gLe, gGe, vNotT, vAndT, vOrT, vAndV, vOrV, opNot, opNotG, vIfE, opTup, opLst, opLstO, Vl.opLen, Vl.opInt, opList, opListO, opTuple, opII, gMax, gMin, vM, vM0, isT, xPop, Vl.opAppend, opExtend, opJoin, vgName, vgTup, vgCons, vgNil, kOpt_some, kOpn_some, kOps_some, Vl.opSum, Vl.opInsert, Vl.opIndex, opDivmod, vSl, vPart, vNoPart, opSl, opSlO, opRev, opCallK, ownD, ownO, objs, renum, uniq, getS, putS, vCall0, vFor, vForW, En.wk, vSeqI, vTupI, vRng1, vRng2, vRngD, vFn, vCallL, vOdd, vWays, vEnum, vZip, chkOf, vLcK, vYes, finD, finO, En.wipe, wipeE, En.trim, trimS, dropNone, clr_n, clr_v, clr_k, clr_o, wth, Vl.ret, takeS, startV,  List.map_cons, List.map_nil, List.length_cons, List.length_nil, List.cons_append, List.nil_append, List.replicate, List.getElem?_cons_succ, List.getElem?_cons_zero, List.getElem?_nil, List.set_cons_succ, List.set_cons_zero, List.set_nil, List.all_nil, List.all_cons, Bool.true_and, Option.map_some, Option.map_none, if_true, if_false, decide_eq_true_eq, Bool.false_eq_true, List.take_succ_cons, List.take_zero, List.take_nil, List.drop_succ_cons, List.drop_zero, List.drop_nil, reduceIte, reduceCtorEq]
    refine fl_invD (chk := none) ts (fun ys e => ∃ w', e = ⟨[some (.val d), some (.obj 0), some (.obj 1), some (.val (.tuple [.list (ms.map .str), .list ts])), some (.val (.int i)), w'], [some (.l ws), some (.l ((ts0 ++ ys.map fun q => (q, m1, (ws.length : Int))).map encSw))]⟩) (fun _ _ _ => trivial) ?_ ?_ ⟨_, by rw [List.map_nil, List.append_nil]⟩
    · rintro ys v zs e Nx2 hys ⟨z, rfl⟩ hk2
      have hl : ys.length < ts.length := by rw [hys]; simp
      simp only [t_laidout_1, flatD, List.any_cons, List.any_nil, eqv_str, eqv_int, eqv_ti, eqv_it, eqv_st, eqv_ts, cut1, Bool.or_false, Bool.or_true, Bool.and_self, Bool.and_true, Bool.and_false, Bool.false_or, Bool.true_or, and_self, ofs_inj, ofs_app, ofs_len, String.reduceEq, String.reduceNe, String.reduceAppend, decide_true, decide_false, Bool.not_true, Bool.not_false, sz0, sz1, sz2, sz3, sz4, sz5, sz6, sz7, sz8, sz9, sz10, sz11, sz12, sz13, sz14, sz15, sz16, sz17, sz18, sz19, sz20, sz21, sz22, sz23, sz24, sz25, cpow1018, true_and, and_true, Nat.reduceAdd, Nat.reduceLT, Nat.reduceSub, Int.reduceNe, Int.reduceEq, Int.reduceLT, Int.reduceLE, Int.reduceToNat, ne_eq, not_false_eq_true, List.length_map, Nat.lt_irrefl, dV_nx, dV_rt, at0, at1, at2, at3, ix20, ix21, vSeq, vIfS, vTest, vTruth, truth, v2, v1, vN, vCons, vNil, vStar, vVar, vC, xIx, Vl.opI0, Vl.opI, pk, vSet, vAug, vAsg, xgSub, vRet, vRetN, vDrop, vBreak, vCont, asD, asDs, opMod, opDiv, opMul2, Vl.opAdd, Vl.opAddO, opSub, opPow, opLt, Vl.opLe, opGt, Vl.opGe, xEq, okEq_str, okEq_int, xIn, okIn, inD, xIsN, isNone_n, isNone_t, isNone_l, isNone_i, isNone_s, isMo, mob, pkm, gModI, gDivI, gSubI, gMulI, gPowI, gGt, gLt, gLe, gGe, vNotT, vAndT, vOrT, vAndV, vOrV, opNot, opNotG, vIfE, opTup, opLst, opLstO, Vl.opLen, Vl.opInt, opList, opListO, opTuple, opII, gMax, gMin, vM, vM0, isT, xPop, Vl.opAppend, opExtend, opJoin, vgName, vgTup, vgCons, vgNil, kOpt_some, kOpn_some, kOps_some, Vl.opSum, Vl.opInsert, Vl.opIndex, opDivmod, vSl, vPart, vNoPart, opSl, opSlO, opRev, opCallK, ownD, ownO, objs, renum, uniq, getS, putS, vCall0, vFor, vForW, En.wk, vSeqI, vTupI, vRng1, vRng2, vRngD, vFn, vCallL, vOdd, vWays, vEnum, vZip, chkOf, vLcK, vYes, finD, finO, En.wipe, wipeE, En.trim, trimS, dropNone, clr_n, clr_v, clr_k, clr_o, wth, Vl.ret, takeS, startV,  List.map_cons, List.map_nil, List.length_cons, List.length_nil, List.cons_append, List.nil_append, List.replicate, List.getElem?_cons_succ, List.getElem?_cons_zero, List.getElem?_nil, List.set_cons_succ, List.set_cons_zero, List.set_nil, List.all_nil, List.all_cons, Bool.true_and, Option.map_some, Option.map_none, if_true, if_false, decide_eq_true_eq, Bool.false_eq_true, List.take_succ_cons, List.take_zero, List.take_nil, List.drop_succ_cons, List.drop_zero, List.drop_nil, reduceIte, reduceCtorEq]
      have hh : ((ts0 ++ (ys ++ [v]).map fun q => (q, m1, (ws.length : Int))).map encSw) = ((ts0 ++ ys.map fun q => (q, m1, (ws.length : Int))).map encSw) ++ [.tuple [v, .int (ws.length : Int)]] := by
        simp [encSw]
      refine ⟨bigl (by simp only [List.length_map, List.length_append]; omega), hk2 _ 2 [] (Nat.le_refl _) ⟨some (.val v), ?_⟩⟩
      rw [hh]
      rfl
    · rintro e ⟨z, rfl⟩
      simp only [t_laidout_2, flatD, List.any_cons, List.any_nil, eqv_str, eqv_int, eqv_ti, eqv_it, eqv_st, eqv_ts, cut1, Bool.or_false, Bool.or_true, Bool.and_self, Bool.and_true, Bool.and_false, Bool.false_or, Bool.true_or, and_self, ofs_inj, ofs_app, ofs_len, String.reduceEq, String.reduceNe, String.reduceAppend, decide_true, decide_false, Bool.not_true, Bool.not_false, sz0, sz1, sz2, sz3, sz4, sz5, sz6, sz7, sz8, sz9, sz10, sz11, sz12, sz13, sz14, sz15, sz16, sz17, sz18, sz19, sz20, sz21, sz22, sz23, sz24, sz25, cpow1018, true_and, and_true, Nat.reduceAdd, Nat.reduceLT, Nat.reduceSub, Int.reduceNe, Int.reduceEq, Int.reduceLT, Int.reduceLE, Int.reduceToNat, ne_eq, not_false_eq_true, List.length_map, Nat.lt_irrefl, dV_nx, dV_rt, at0, at1, at2, at3, ix20, ix21, vSeq, vIfS, vTest, vTruth, truth, v2, v1, vN, vCons, vNil, vStar, vVar, vC, xIx, Vl.opI0, Vl.opI, pk, vSet, vAug, vAsg, xgSub, vRet, vRetN, vDrop, vBreak, vCont, asD, asDs, opMod, opDiv, opMul2, Vl.opAdd, Vl.opAddO, opSub, opPow, opLt, Vl.opLe, opGt, Vl.opGe, xEq, okEq_str, okEq_int, xIn, okIn, inD, xIsN, isNone_n, isNone_t, isNone_l, isNone_i, isNone_s, isMo, mob, pkm, gModI, gDivI, gSubI, gMulI, gPowI, gGt, gLt, gLe, gGe, vNotT, vAndT, vOrT, vAndV, vOrV, opNot, opNotG, vIfE, opTup, opLst, opLstO, Vl.opLen, Vl.opInt, opList, opListO, opTuple, opII, gMax, gMin, vM, vM0, isT, xPop, Vl.opAppend, opExtend, opJoin, vgName, vgTup, vgCons, vgNil, kOpt_some, kOpn_some, kOps_some, Vl.opSum, Vl.opInsert, Vl.opIndex, opDivmod, vSl, vPart, vNoPart, opSl, opSlO, opRev, opCallK, ownD, ownO, objs, renum, uniq, getS, putS, vCall0, vFor, vForW, En.wk, vSeqI, vTupI, vRng1, vRng2, vRngD, vFn, vCallL, vOdd, vWays, vEnum, vZip, chkOf, vLcK, vYes, finD, finO, En.wipe, wipeE, En.trim, trimS, dropNone, clr_n, clr_v, clr_k, clr_o, wth, Vl.ret, takeS, startV,  List.map_cons, List.map_nil, List.length_cons, List.length_nil, List.cons_append, List.nil_append, List.replicate, List.getElem?_cons_succ, List.getElem?_cons_zero, List.getElem?_nil, List.set_cons_succ, List.set_cons_zero, List.set_nil, List.all_nil, List.all_cons, Bool.true_and, Option.map_some, Option.map_none, if_true, if_false, decide_eq_true_eq, Bool.false_eq_true, List.take_succ_cons, List.take_zero, List.take_nil, List.drop_succ_cons, List.drop_zero, List.drop_nil, reduceIte, reduceCtorEq]
      refine ⟨bigl (by omega), hk (wsz (ts0 ++ ts.map fun q => (q, m1, (ws.length : Int)))) _ 2 [] (by rw [wsz_app, wsz_app, wsz_kids]; simp only [wsz, nt]; omega) (Nat.le_refl _) ⟨ts0 ++ ts.map fun q => (q, m1, (ws.length : Int)), ws ++ [.tuple [.list (ms.map .str), .int i]], _, _, _, rfl, rfl, ?_, fun x hx => ?_, ?_⟩⟩
      · rw [wsz_app, wsz_kids, List.length_append]
        simp only [List.length_singleton]
        omega
      · rcases List.mem_append.mp hx with hx | hx
        · exact g5 x hx
        · obtain ⟨y, hy, rfl⟩ := List.mem_map.mp hx
          exact ⟨ms, h4 y hy⟩
      · rw [wsum_app, wsum_kids, List.length_append]
        simp only [List.length_singleton]
        omega
def pWorlds : VSp := fun ss st Kp => ∃ (d : D) (n : Nat) (b : List Str), isTr n b d = true ∧ ndT d ≤ 1000000 ∧ ss = [.val d] ∧ st = [] ∧ Kp (.val (.int (wn n d : Nat))) []
theorem r_worlds {ss cs Kp} (h : pWorlds ss cs Kp) : t_worldsof pLaid (dV cs.length Kp) ⟨startV 1 ss, cs.map some⟩ := by
  obtain ⟨d, n, b, ht, hn, rfl, rfl, q⟩ := h
  simp only [t_worldsof, t_worldsof_1, flatD, List.any_cons, List.any_nil, eqv_str, eqv_int, eqv_ti, eqv_it, eqv_st, eqv_ts, cut1, Bool.or_false, Bool.or_true, Bool.and_self, Bool.and_true, Bool.and_false, Bool.false_or, Bool.true_or, and_self, ofs_inj, ofs_app, ofs_len, String.reduceEq, String.reduceNe, String.reduceAppend, decide_true, decide_false, Bool.not_true, Bool.not_false, sz0, sz1, sz2, sz3, sz4, sz5, sz6, sz7, sz8, sz9, sz10, sz11, sz12, sz13, sz14, sz15, sz16, sz17, sz18, sz19, sz20, sz21, sz22, sz23, sz24, sz25, cpow1018, true_and, and_true, Nat.reduceAdd, Nat.reduceLT, Nat.reduceSub, Int.reduceNe, Int.reduceEq, Int.reduceLT, Int.reduceLE, Int.reduceToNat, ne_eq, not_false_eq_true, List.length_map, Nat.lt_irrefl, dV_nx, dV_rt, at0, at1, at2, at3, ix20, ix21, vSeq, vIfS, vTest, vTruth, truth, v2, v1, vN, vCons, vNil, vStar, vVar, vC, xIx, Vl.opI0, Vl.opI, pk, vSet, vAug, vAsg, xgSub, vRet, vRetN, vDrop, vBreak, vCont, asD, asDs, opMod, opDiv, opMul2, Vl.opAdd, Vl.opAddO, opSub, opPow, opLt, Vl.opLe, opGt, Vl.opGe, xEq, okEq_str, okEq_int, xIn, okIn, inD, xIsN, isNone_n, isNone_t, isNone_l, isNone_i, isNone_s, isMo, mob, pkm, gModI, gDivI, gSubI, gMulI, gPowI, gGt, gLt, gLe, gGe, vNotT, vAndT, vOrT, vAndV, vOrV, opNot, opNotG, vIfE, opTup, opLst, opLstO, Vl.opLen, Vl.opInt, opList, opListO, opTuple, opII, gMax, gMin, vM, vM0, isT, xPop, Vl.opAppend, opExtend, opJoin, vgName, vgTup, vgCons, vgNil, kOpt_some, kOpn_some, kOps_some, Vl.opSum, Vl.opInsert, Vl.opIndex, opDivmod, vSl, vPart, vNoPart, opSl, opSlO, opRev, opCallK, ownD, ownO, objs, renum, uniq, getS, putS, vCall0, vFor, vForW, En.wk, vSeqI, vTupI, vRng1, vRng2, vRngD, vFn, vCallL, vOdd, vWays, vEnum, vZip, chkOf, vLcK, vYes, finD, finO, En.wipe, wipeE, En.trim, trimS, dropNone, clr_n, clr_v, clr_k, clr_o, wth, Vl.ret, takeS, startV,  List.map_cons, List.map_nil, List.length_cons, List.length_nil, List.cons_append, List.nil_append, List.replicate, List.getElem?_cons_succ, List.getElem?_cons_zero, List.getElem?_nil, List.set_cons_succ, List.set_cons_zero, List.set_nil, List.all_nil, List.all_cons, Bool.true_and, Option.map_some, Option.map_none, if_true, if_false, decide_eq_true_eq, Bool.false_eq_true, List.take_succ_cons, List.take_zero, List.take_nil, List.drop_succ_cons, List.drop_zero, List.drop_nil, reduceIte, reduceCtorEq]
  refine ⟨d, n, b, ht, hn, rfl, rfl, fun ws hw _ => ?_⟩
  simp only [flatD, List.any_cons, List.any_nil, eqv_str, eqv_int, eqv_ti, eqv_it, eqv_st, eqv_ts, cut1, Bool.or_false, Bool.or_true, Bool.and_self, Bool.and_true, Bool.and_false, Bool.false_or, Bool.true_or, and_self, ofs_inj, ofs_app, ofs_len, String.reduceEq, String.reduceNe, String.reduceAppend, decide_true, decide_false, Bool.not_true, Bool.not_false, sz0, sz1, sz2, sz3, sz4, sz5, sz6, sz7, sz8, sz9, sz10, sz11, sz12, sz13, sz14, sz15, sz16, sz17, sz18, sz19, sz20, sz21, sz22, sz23, sz24, sz25, cpow1018, true_and, and_true, Nat.reduceAdd, Nat.reduceLT, Nat.reduceSub, Int.reduceNe, Int.reduceEq, Int.reduceLT, Int.reduceLE, Int.reduceToNat, ne_eq, not_false_eq_true, List.length_map, Nat.lt_irrefl, dV_nx, dV_rt, at0, at1, at2, at3, ix20, ix21, vSeq, vIfS, vTest, vTruth, truth, v2, v1, vN, vCons, vNil, vStar, vVar, vC, xIx, Vl.opI0, Vl.opI, pk, vSet, vAug, vAsg, xgSub, vRet, vRetN, vDrop, vBreak, vCont, asD, asDs, opMod, opDiv, opMul2, Vl.opAdd, Vl.opAddO, opSub, opPow, opLt, Vl.opLe, opGt, Vl.opGe, xEq, okEq_str, okEq_int, xIn, okIn, inD, xIsN, isNone_n, isNone_t, isNone_l, isNone_i, isNone_s, isMo, mob, pkm, gModI, gDivI, gSubI, gMulI, gPowI, gGt, gLt, gLe, gGe, vNotT, vAndT, vOrT, vAndV, vOrV, opNot, opNotG, vIfE, opTup, opLst, opLstO, Vl.opLen, Vl.opInt, opList, opListO, opTuple, opII, gMax, gMin, vM, vM0, isT, xPop, Vl.opAppend, opExtend, opJoin, vgName, vgTup, vgCons, vgNil, kOpt_some, kOpn_some, kOps_some, Vl.opSum, Vl.opInsert, Vl.opIndex, opDivmod, vSl, vPart, vNoPart, opSl, opSlO, opRev, opCallK, ownD, ownO, objs, renum, uniq, getS, putS, vCall0, vFor, vForW, En.wk, vSeqI, vTupI, vRng1, vRng2, vRngD, vFn, vCallL, vOdd, vWays, vEnum, vZip, chkOf, vLcK, vYes, finD, finO, En.wipe, wipeE, En.trim, trimS, dropNone, clr_n, clr_v, clr_k, clr_o, wth, Vl.ret, takeS, startV,  List.map_cons, List.map_nil, List.length_cons, List.length_nil, List.cons_append, List.nil_append, List.replicate, List.getElem?_cons_succ, List.getElem?_cons_zero, List.getElem?_nil, List.set_cons_succ, List.set_cons_zero, List.set_nil, List.all_nil, List.all_cons, Bool.true_and, Option.map_some, Option.map_none, if_true, if_false, decide_eq_true_eq, Bool.false_eq_true, List.take_succ_cons, List.take_zero, List.take_nil, List.drop_succ_cons, List.drop_zero, List.drop_nil, reduceIte, reduceCtorEq]
  rw [hw]
  exact q
end Kf
namespace Kf
open PySem L2 Vl PySem.Spec PyProof.Rows
theorem hfD_M (a : D) (ts : List D) : hfD (.tuple [a, .list ts]) = (hfM a).map fun ms => (ms, ts) := rfl
def pAre : VSp := fun ss st Kp => ∃ d : D, okT d ∧ ss = [.val d] ∧ st = [] ∧ Kp (.val (.bool (hfM d).isSome)) []
theorem r_are {ss cs Kp} (h : pAre ss cs Kp) : t_Laremarks (dV cs.length Kp) ⟨startV 3 ss, cs.map some⟩ := by
  obtain ⟨d, ok, rfl, rfl, q⟩ := h
  simp only [t_Laremarks, t_Laremarks_8, vIsi, flatD, List.any_cons, List.any_nil, eqv_str, eqv_int, eqv_ti, eqv_it, eqv_st, eqv_ts, cut1, Bool.or_false, Bool.or_true, Bool.and_self, Bool.and_true, Bool.and_false, Bool.false_or, Bool.true_or, and_self, ofs_inj, ofs_app, ofs_len, String.reduceEq, String.reduceNe, String.reduceAppend, decide_true, decide_false, Bool.not_true, Bool.not_false, sz0, sz1, sz2, sz3, sz4, sz5, sz6, sz7, sz8, sz9, sz10, sz11, sz12, sz13, sz14, sz15, sz16, sz17, sz18, sz19, sz20, sz21, sz22, sz23, sz24, sz25, cpow1018, true_and, and_true, Nat.reduceAdd, Nat.reduceLT, Nat.reduceSub, Int.reduceNe, Int.reduceEq, Int.reduceLT, Int.reduceLE, Int.reduceToNat, ne_eq, not_false_eq_true, List.length_map, Nat.lt_irrefl, dV_nx, dV_rt, at0, at1, at2, at3, ix20, ix21, vSeq, vIfS, vTest, vTruth, truth, v2, v1, vN, vCons, vNil, vStar, vVar, vC, xIx, Vl.opI0, Vl.opI, pk, vSet, vAug, vAsg, xgSub, vRet, vRetN, vDrop, vBreak, vCont, asD, asDs, opMod, opDiv, opMul2, Vl.opAdd, Vl.opAddO, opSub, opPow, opLt, Vl.opLe, opGt, Vl.opGe, xEq, okEq_str, okEq_int, xIn, okIn, inD, xIsN, isNone_n, isNone_t, isNone_l, isNone_i, isNone_s, isMo, mob, pkm, gModI, gDivI, gSubI, gMulI, gPowI, gGt, gLt, gLe, gGe, vNotT, vAndT, vOrT, vAndV, vOrV, opNot, opNotG, vIfE, opTup, opLst, opLstO, Vl.opLen, Vl.opInt, opList, opListO, opTuple, opII, gMax, gMin, vM, vM0, isT, xPop, Vl.opAppend, opExtend, opJoin, vgName, vgTup, vgCons, vgNil, kOpt_some, kOpn_some, kOps_some, Vl.opSum, Vl.opInsert, Vl.opIndex, opDivmod, vSl, vPart, vNoPart, opSl, opSlO, opRev, opCallK, ownD, ownO, objs, renum, uniq, getS, putS, vCall0, vFor, vForW, En.wk, vSeqI, vTupI, vRng1, vRng2, vRngD, vFn, vCallL, vOdd, vWays, vEnum, vZip, chkOf, vLcK, vYes, finD, finO, En.wipe, wipeE, En.trim, trimS, dropNone, clr_n, clr_v, clr_k, clr_o, wth, Vl.ret, takeS, startV,  List.map_cons, List.map_nil, List.length_cons, List.length_nil, List.cons_append, List.nil_append, List.replicate, List.getElem?_cons_succ, List.getElem?_cons_zero, List.getElem?_nil, List.set_cons_succ, List.set_cons_zero, List.set_nil, List.all_nil, List.all_cons, Bool.true_and, Option.map_some, Option.map_none, if_true, if_false, decide_eq_true_eq, Bool.false_eq_true, List.take_succ_cons, List.take_zero, List.take_nil, List.drop_succ_cons, List.drop_zero, List.drop_nil, reduceIte, reduceCtorEq]
  refine ⟨_, kit_il ok, ?_⟩
  by_cases hl : isLs d = true
  · rw [hl, if_neg (by decide), vNext_mk]
    obtain ⟨ms, rfl⟩ : ∃ ms, d = .list ms := by
      cases d <;> first | exact ⟨_, rfl⟩ | cases hl
    have ok' := ok
    unfold okT at ok'
    have fin : ms.all mkD = false → Kp (.val (.bool false)) [] := fun h => by
      rw [hfM_no h] at q
      exact q
    simp only [t_Laremarks_7, flatD, List.any_cons, List.any_nil, eqv_str, eqv_int, eqv_ti, eqv_it, eqv_st, eqv_ts, cut1, Bool.or_false, Bool.or_true, Bool.and_self, Bool.and_true, Bool.and_false, Bool.false_or, Bool.true_or, and_self, ofs_inj, ofs_app, ofs_len, String.reduceEq, String.reduceNe, String.reduceAppend, decide_true, decide_false, Bool.not_true, Bool.not_false, sz0, sz1, sz2, sz3, sz4, sz5, sz6, sz7, sz8, sz9, sz10, sz11, sz12, sz13, sz14, sz15, sz16, sz17, sz18, sz19, sz20, sz21, sz22, sz23, sz24, sz25, cpow1018, true_and, and_true, Nat.reduceAdd, Nat.reduceLT, Nat.reduceSub, Int.reduceNe, Int.reduceEq, Int.reduceLT, Int.reduceLE, Int.reduceToNat, ne_eq, not_false_eq_true, List.length_map, Nat.lt_irrefl, dV_nx, dV_rt, at0, at1, at2, at3, ix20, ix21, vSeq, vIfS, vTest, vTruth, truth, v2, v1, vN, vCons, vNil, vStar, vVar, vC, xIx, Vl.opI0, Vl.opI, pk, vSet, vAug, vAsg, xgSub, vRet, vRetN, vDrop, vBreak, vCont, asD, asDs, opMod, opDiv, opMul2, Vl.opAdd, Vl.opAddO, opSub, opPow, opLt, Vl.opLe, opGt, Vl.opGe, xEq, okEq_str, okEq_int, xIn, okIn, inD, xIsN, isNone_n, isNone_t, isNone_l, isNone_i, isNone_s, isMo, mob, pkm, gModI, gDivI, gSubI, gMulI, gPowI, gGt, gLt, gLe, gGe, vNotT, vAndT, vOrT, vAndV, vOrV, opNot, opNotG, vIfE, opTup, opLst, opLstO, Vl.opLen, Vl.opInt, opList, opListO, opTuple, opII, gMax, gMin, vM, vM0, isT, xPop, Vl.opAppend, opExtend, opJoin, vgName, vgTup, vgCons, vgNil, kOpt_some, kOpn_some, kOps_some, Vl.opSum, Vl.opInsert, Vl.opIndex, opDivmod, vSl, vPart, vNoPart, opSl, opSlO, opRev, opCallK, ownD, ownO, objs, renum, uniq, getS, putS, vCall0, vFor, vForW, En.wk, vSeqI, vTupI, vRng1, vRng2, vRngD, vFn, vCallL, vOdd, vWays, vEnum, vZip, chkOf, vLcK, vYes, finD, finO, En.wipe, wipeE, En.trim, trimS, dropNone, clr_n, clr_v, clr_k, clr_o, wth, Vl.ret, takeS, startV,  List.map_cons, List.map_nil, List.length_cons, List.length_nil, List.cons_append, List.nil_append, List.replicate, List.getElem?_cons_succ, List.getElem?_cons_zero, List.getElem?_nil, List.set_cons_succ, List.set_cons_zero, List.set_nil, List.all_nil, List.all_cons, Bool.true_and, Option.map_some, Option.map_none, if_true, if_false, decide_eq_true_eq, Bool.false_eq_true, List.take_succ_cons, List.take_zero, List.take_nil, List.drop_succ_cons, List.drop_zero, List.drop_nil, reduceIte, reduceCtorEq]
    refine fl_invD (chk := none) ms (fun ys e => ys.all mkD = true ∧ ∃ x y, e = ⟨[some (.val (.list ms)), x, y], []⟩) (fun _ _ _ => trivial) ?_ ?_ ⟨rfl, _, _, rfl⟩
    · rintro ys v zs e Nx2 hys ⟨hall, x, y, rfl⟩ hk2
      have okv : okT v := okTs_mem ok'.2 v (by rw [hys]; simp)
      have bad : mkD v = false → Kp (.val (.bool false)) [] := fun h => fin (by rw [hys, List.all_append, List.all_cons, h]; simp)
      simp only [t_Laremarks_5, vIsi, flatD, List.any_cons, List.any_nil, eqv_str, eqv_int, eqv_ti, eqv_it, eqv_st, eqv_ts, cut1, Bool.or_false, Bool.or_true, Bool.and_self, Bool.and_true, Bool.and_false, Bool.false_or, Bool.true_or, and_self, ofs_inj, ofs_app, ofs_len, String.reduceEq, String.reduceNe, String.reduceAppend, decide_true, decide_false, Bool.not_true, Bool.not_false, sz0, sz1, sz2, sz3, sz4, sz5, sz6, sz7, sz8, sz9, sz10, sz11, sz12, sz13, sz14, sz15, sz16, sz17, sz18, sz19, sz20, sz21, sz22, sz23, sz24, sz25, cpow1018, true_and, and_true, Nat.reduceAdd, Nat.reduceLT, Nat.reduceSub, Int.reduceNe, Int.reduceEq, Int.reduceLT, Int.reduceLE, Int.reduceToNat, ne_eq, not_false_eq_true, List.length_map, Nat.lt_irrefl, dV_nx, dV_rt, at0, at1, at2, at3, ix20, ix21, vSeq, vIfS, vTest, vTruth, truth, v2, v1, vN, vCons, vNil, vStar, vVar, vC, xIx, Vl.opI0, Vl.opI, pk, vSet, vAug, vAsg, xgSub, vRet, vRetN, vDrop, vBreak, vCont, asD, asDs, opMod, opDiv, opMul2, Vl.opAdd, Vl.opAddO, opSub, opPow, opLt, Vl.opLe, opGt, Vl.opGe, xEq, okEq_str, okEq_int, xIn, okIn, inD, xIsN, isNone_n, isNone_t, isNone_l, isNone_i, isNone_s, isMo, mob, pkm, gModI, gDivI, gSubI, gMulI, gPowI, gGt, gLt, gLe, gGe, vNotT, vAndT, vOrT, vAndV, vOrV, opNot, opNotG, vIfE, opTup, opLst, opLstO, Vl.opLen, Vl.opInt, opList, opListO, opTuple, opII, gMax, gMin, vM, vM0, isT, xPop, Vl.opAppend, opExtend, opJoin, vgName, vgTup, vgCons, vgNil, kOpt_some, kOpn_some, kOps_some, Vl.opSum, Vl.opInsert, Vl.opIndex, opDivmod, vSl, vPart, vNoPart, opSl, opSlO, opRev, opCallK, ownD, ownO, objs, renum, uniq, getS, putS, vCall0, vFor, vForW, En.wk, vSeqI, vTupI, vRng1, vRng2, vRngD, vFn, vCallL, vOdd, vWays, vEnum, vZip, chkOf, vLcK, vYes, finD, finO, En.wipe, wipeE, En.trim, trimS, dropNone, clr_n, clr_v, clr_k, clr_o, wth, Vl.ret, takeS, startV,  List.map_cons, List.map_nil, List.length_cons, List.length_nil, List.cons_append, List.nil_append, List.replicate, List.getElem?_cons_succ, List.getElem?_cons_zero, List.getElem?_nil, List.set_cons_succ, List.set_cons_zero, List.set_nil, List.all_nil, List.all_cons, Bool.true_and, Option.map_some, Option.map_none, if_true, if_false, decide_eq_true_eq, Bool.false_eq_true, List.take_succ_cons, List.take_zero, List.take_nil, List.drop_succ_cons, List.drop_zero, List.drop_nil, reduceIte, reduceCtorEq]
      refine ⟨_, kit_is okv, ?_⟩
      by_cases hs : isS v = true
      · obtain ⟨z, rfl⟩ : ∃ z, v = .str z := by
          cases v <;> first | exact ⟨_, rfl⟩ | cases hs
        have okz := okv
        unfold okT at okz
        rw [hs, if_neg (by decide)]
        simp only [vChain, flatD, List.any_cons, List.any_nil, eqv_str, eqv_int, eqv_ti, eqv_it, eqv_st, eqv_ts, cut1, Bool.or_false, Bool.or_true, Bool.and_self, Bool.and_true, Bool.and_false, Bool.false_or, Bool.true_or, and_self, ofs_inj, ofs_app, ofs_len, String.reduceEq, String.reduceNe, String.reduceAppend, decide_true, decide_false, Bool.not_true, Bool.not_false, sz0, sz1, sz2, sz3, sz4, sz5, sz6, sz7, sz8, sz9, sz10, sz11, sz12, sz13, sz14, sz15, sz16, sz17, sz18, sz19, sz20, sz21, sz22, sz23, sz24, sz25, cpow1018, true_and, and_true, Nat.reduceAdd, Nat.reduceLT, Nat.reduceSub, Int.reduceNe, Int.reduceEq, Int.reduceLT, Int.reduceLE, Int.reduceToNat, ne_eq, not_false_eq_true, List.length_map, Nat.lt_irrefl, dV_nx, dV_rt, at0, at1, at2, at3, ix20, ix21, vSeq, vIfS, vTest, vTruth, truth, v2, v1, vN, vCons, vNil, vStar, vVar, vC, xIx, Vl.opI0, Vl.opI, pk, vSet, vAug, vAsg, xgSub, vRet, vRetN, vDrop, vBreak, vCont, asD, asDs, opMod, opDiv, opMul2, Vl.opAdd, Vl.opAddO, opSub, opPow, opLt, Vl.opLe, opGt, Vl.opGe, xEq, okEq_str, okEq_int, xIn, okIn, inD, xIsN, isNone_n, isNone_t, isNone_l, isNone_i, isNone_s, isMo, mob, pkm, gModI, gDivI, gSubI, gMulI, gPowI, gGt, gLt, gLe, gGe, vNotT, vAndT, vOrT, vAndV, vOrV, opNot, opNotG, vIfE, opTup, opLst, opLstO, Vl.opLen, Vl.opInt, opList, opListO, opTuple, opII, gMax, gMin, vM, vM0, isT, xPop, Vl.opAppend, opExtend, opJoin, vgName, vgTup, vgCons, vgNil, kOpt_some, kOpn_some, kOps_some, Vl.opSum, Vl.opInsert, Vl.opIndex, opDivmod, vSl, vPart, vNoPart, opSl, opSlO, opRev, opCallK, ownD, ownO, objs, renum, uniq, getS, putS, vCall0, vFor, vForW, En.wk, vSeqI, vTupI, vRng1, vRng2, vRngD, vFn, vCallL, vOdd, vWays, vEnum, vZip, chkOf, vLcK, vYes, finD, finO, En.wipe, wipeE, En.trim, trimS, dropNone, clr_n, clr_v, clr_k, clr_o, wth, Vl.ret, takeS, startV,  List.map_cons, List.map_nil, List.length_cons, List.length_nil, List.cons_append, List.nil_append, List.replicate, List.getElem?_cons_succ, List.getElem?_cons_zero, List.getElem?_nil, List.set_cons_succ, List.set_cons_zero, List.set_nil, List.all_nil, List.all_cons, Bool.true_and, Option.map_some, Option.map_none, if_true, if_false, decide_eq_true_eq, Bool.false_eq_true, List.take_succ_cons, List.take_zero, List.take_nil, List.drop_succ_cons, List.drop_zero, List.drop_nil, reduceIte, reduceCtorEq]
        have el : z.length = z.cps.size := rfl
        have mz : mkD (.str z) = (decide (1 ≤ z.cps.size) && (decide (z.cps.size ≤ 6) && z.cps.toList.all (inS "abcdefghijklmnopqrstuvwxyz"))) := rfl
        refine ⟨big (by omega), ?_⟩
        split
        · rename_i c1
          by_cases c2 : z.cps.size ≤ 6
          · rw [if_neg (by rw [decide_eq_true (by omega)]; decide), vNext_mk]
            simp only [t_Laremarks_4, vStrI, flatD, List.any_cons, List.any_nil, eqv_str, eqv_int, eqv_ti, eqv_it, eqv_st, eqv_ts, cut1, Bool.or_false, Bool.or_true, Bool.and_self, Bool.and_true, Bool.and_false, Bool.false_or, Bool.true_or, and_self, ofs_inj, ofs_app, ofs_len, String.reduceEq, String.reduceNe, String.reduceAppend, decide_true, decide_false, Bool.not_true, Bool.not_false, sz0, sz1, sz2, sz3, sz4, sz5, sz6, sz7, sz8, sz9, sz10, sz11, sz12, sz13, sz14, sz15, sz16, sz17, sz18, sz19, sz20, sz21, sz22, sz23, sz24, sz25, cpow1018, true_and, and_true, Nat.reduceAdd, Nat.reduceLT, Nat.reduceSub, Int.reduceNe, Int.reduceEq, Int.reduceLT, Int.reduceLE, Int.reduceToNat, ne_eq, not_false_eq_true, List.length_map, Nat.lt_irrefl, dV_nx, dV_rt, at0, at1, at2, at3, ix20, ix21, vSeq, vIfS, vTest, vTruth, truth, v2, v1, vN, vCons, vNil, vStar, vVar, vC, xIx, Vl.opI0, Vl.opI, pk, vSet, vAug, vAsg, xgSub, vRet, vRetN, vDrop, vBreak, vCont, asD, asDs, opMod, opDiv, opMul2, Vl.opAdd, Vl.opAddO, opSub, opPow, opLt, Vl.opLe, opGt, Vl.opGe, xEq, okEq_str, okEq_int, xIn, okIn, inD, xIsN, isNone_n, isNone_t, isNone_l, isNone_i, isNone_s, isMo, mob, pkm, gModI, gDivI, gSubI, gMulI, gPowI, gGt, gLt, gLe, gGe, vNotT, vAndT, vOrT, vAndV, vOrV, opNot, opNotG, vIfE, opTup, opLst, opLstO, Vl.opLen, Vl.opInt, opList, opListO, opTuple, opII, gMax, gMin, vM, vM0, isT, xPop, Vl.opAppend, opExtend, opJoin, vgName, vgTup, vgCons, vgNil, kOpt_some, kOpn_some, kOps_some, Vl.opSum, Vl.opInsert, Vl.opIndex, opDivmod, vSl, vPart, vNoPart, opSl, opSlO, opRev, opCallK, ownD, ownO, objs, renum, uniq, getS, putS, vCall0, vFor, vForW, En.wk, vSeqI, vTupI, vRng1, vRng2, vRngD, vFn, vCallL, vOdd, vWays, vEnum, vZip, chkOf, vLcK, vYes, finD, finO, En.wipe, wipeE, En.trim, trimS, dropNone, clr_n, clr_v, clr_k, clr_o, wth, Vl.ret, takeS, startV,  List.map_cons, List.map_nil, List.length_cons, List.length_nil, List.cons_append, List.nil_append, List.replicate, List.getElem?_cons_succ, List.getElem?_cons_zero, List.getElem?_nil, List.set_cons_succ, List.set_cons_zero, List.set_nil, List.all_nil, List.all_cons, Bool.true_and, Option.map_some, Option.map_none, if_true, if_false, decide_eq_true_eq, Bool.false_eq_true, List.take_succ_cons, List.take_zero, List.take_nil, List.drop_succ_cons, List.drop_zero, List.drop_nil, reduceIte, reduceCtorEq]
            refine cl_filter (chk := none) (fun c : Nat => PyData.str ⟨#[c]⟩) (fun c => !inS "abcdefghijklmnopqrstuvwxyz" c) z.cps.toList (by rw [Array.length_toList]; omega) True.intro ?_ ?_
            · rintro c hc Ky Kn hy hn
              simp only [flatD, List.any_cons, List.any_nil, eqv_str, eqv_int, eqv_ti, eqv_it, eqv_st, eqv_ts, cut1, Bool.or_false, Bool.or_true, Bool.and_self, Bool.and_true, Bool.and_false, Bool.false_or, Bool.true_or, and_self, ofs_inj, ofs_app, ofs_len, String.reduceEq, String.reduceNe, String.reduceAppend, decide_true, decide_false, Bool.not_true, Bool.not_false, sz0, sz1, sz2, sz3, sz4, sz5, sz6, sz7, sz8, sz9, sz10, sz11, sz12, sz13, sz14, sz15, sz16, sz17, sz18, sz19, sz20, sz21, sz22, sz23, sz24, sz25, cpow1018, true_and, and_true, Nat.reduceAdd, Nat.reduceLT, Nat.reduceSub, Int.reduceNe, Int.reduceEq, Int.reduceLT, Int.reduceLE, Int.reduceToNat, ne_eq, not_false_eq_true, List.length_map, Nat.lt_irrefl, dV_nx, dV_rt, at0, at1, at2, at3, ix20, ix21, vSeq, vIfS, vTest, vTruth, truth, v2, v1, vN, vCons, vNil, vStar, vVar, vC, xIx, Vl.opI0, Vl.opI, pk, vSet, vAug, vAsg, xgSub, vRet, vRetN, vDrop, vBreak, vCont, asD, asDs, opMod, opDiv, opMul2, Vl.opAdd, Vl.opAddO, opSub, opPow, opLt, Vl.opLe, opGt, Vl.opGe, xEq, okEq_str, okEq_int, xIn, okIn, inD, xIsN, isNone_n, isNone_t, isNone_l, isNone_i, isNone_s, isMo, mob, pkm, gModI, gDivI, gSubI, gMulI, gPowI, gGt, gLt, gLe, gGe, vNotT, vAndT, vOrT, vAndV, vOrV, opNot, opNotG, vIfE, opTup, opLst, opLstO, Vl.opLen, Vl.opInt, opList, opListO, opTuple, opII, gMax, gMin, vM, vM0, isT, xPop, Vl.opAppend, opExtend, opJoin, vgName, vgTup, vgCons, vgNil, kOpt_some, kOpn_some, kOps_some, Vl.opSum, Vl.opInsert, Vl.opIndex, opDivmod, vSl, vPart, vNoPart, opSl, opSlO, opRev, opCallK, ownD, ownO, objs, renum, uniq, getS, putS, vCall0, vFor, vForW, En.wk, vSeqI, vTupI, vRng1, vRng2, vRngD, vFn, vCallL, vOdd, vWays, vEnum, vZip, chkOf, vLcK, vYes, finD, finO, En.wipe, wipeE, En.trim, trimS, dropNone, clr_n, clr_v, clr_k, clr_o, wth, Vl.ret, takeS, startV,  List.map_cons, List.map_nil, List.length_cons, List.length_nil, List.cons_append, List.nil_append, List.replicate, List.getElem?_cons_succ, List.getElem?_cons_zero, List.getElem?_nil, List.set_cons_succ, List.set_cons_zero, List.set_nil, List.all_nil, List.all_cons, Bool.true_and, Option.map_some, Option.map_none, if_true, if_false, decide_eq_true_eq, Bool.false_eq_true, List.take_succ_cons, List.take_zero, List.take_nil, List.drop_succ_cons, List.drop_zero, List.drop_nil, reduceIte, reduceCtorEq]
              rw [opInS_one]
              simp only [flatD, List.any_cons, List.any_nil, eqv_str, eqv_int, eqv_ti, eqv_it, eqv_st, eqv_ts, cut1, Bool.or_false, Bool.or_true, Bool.and_self, Bool.and_true, Bool.and_false, Bool.false_or, Bool.true_or, and_self, ofs_inj, ofs_app, ofs_len, String.reduceEq, String.reduceNe, String.reduceAppend, decide_true, decide_false, Bool.not_true, Bool.not_false, sz0, sz1, sz2, sz3, sz4, sz5, sz6, sz7, sz8, sz9, sz10, sz11, sz12, sz13, sz14, sz15, sz16, sz17, sz18, sz19, sz20, sz21, sz22, sz23, sz24, sz25, cpow1018, true_and, and_true, Nat.reduceAdd, Nat.reduceLT, Nat.reduceSub, Int.reduceNe, Int.reduceEq, Int.reduceLT, Int.reduceLE, Int.reduceToNat, ne_eq, not_false_eq_true, List.length_map, Nat.lt_irrefl, dV_nx, dV_rt, at0, at1, at2, at3, ix20, ix21, vSeq, vIfS, vTest, vTruth, truth, v2, v1, vN, vCons, vNil, vStar, vVar, vC, xIx, Vl.opI0, Vl.opI, pk, vSet, vAug, vAsg, xgSub, vRet, vRetN, vDrop, vBreak, vCont, asD, asDs, opMod, opDiv, opMul2, Vl.opAdd, Vl.opAddO, opSub, opPow, opLt, Vl.opLe, opGt, Vl.opGe, xEq, okEq_str, okEq_int, xIn, okIn, inD, xIsN, isNone_n, isNone_t, isNone_l, isNone_i, isNone_s, isMo, mob, pkm, gModI, gDivI, gSubI, gMulI, gPowI, gGt, gLt, gLe, gGe, vNotT, vAndT, vOrT, vAndV, vOrV, opNot, opNotG, vIfE, opTup, opLst, opLstO, Vl.opLen, Vl.opInt, opList, opListO, opTuple, opII, gMax, gMin, vM, vM0, isT, xPop, Vl.opAppend, opExtend, opJoin, vgName, vgTup, vgCons, vgNil, kOpt_some, kOpn_some, kOps_some, Vl.opSum, Vl.opInsert, Vl.opIndex, opDivmod, vSl, vPart, vNoPart, opSl, opSlO, opRev, opCallK, ownD, ownO, objs, renum, uniq, getS, putS, vCall0, vFor, vForW, En.wk, vSeqI, vTupI, vRng1, vRng2, vRngD, vFn, vCallL, vOdd, vWays, vEnum, vZip, chkOf, vLcK, vYes, finD, finO, En.wipe, wipeE, En.trim, trimS, dropNone, clr_n, clr_v, clr_k, clr_o, wth, Vl.ret, takeS, startV,  List.map_cons, List.map_nil, List.length_cons, List.length_nil, List.cons_append, List.nil_append, List.replicate, List.getElem?_cons_succ, List.getElem?_cons_zero, List.getElem?_nil, List.set_cons_succ, List.set_cons_zero, List.set_nil, List.all_nil, List.all_cons, Bool.true_and, Option.map_some, Option.map_none, if_true, if_false, decide_eq_true_eq, Bool.false_eq_true, List.take_succ_cons, List.take_zero, List.take_nil, List.drop_succ_cons, List.drop_zero, List.drop_nil, reduceIte, reduceCtorEq]
              split
              · rename_i h
                exact hy (by simpa [inS] using h) _ rfl
              · rename_i h
                exact hn (by simpa [inS] using h) _ rfl
            · have sl : ∀ l : List Nat, (∀ c ∈ l, c < 0x110000) → Vl.shp (.list (l.map fun c => PyData.str ⟨#[c]⟩)) = true := fun l hl => by
                have := shpS (xs := l.map fun c => (⟨#[c]⟩ : Str)) fun x hx => by
                  obtain ⟨c, hc, rfl⟩ := List.mem_map.mp hx
                  exact (strOk_iff _).mpr fun y hy => by
                    obtain rfl : y = c := by simpa using hy
                    exact hl y hc
                rw [List.map_map] at this
                exact this
              refine ⟨okEq_of (sl _ fun c hc => (strOk_iff z).mp okz.2 c (List.mem_filter.mp hc).1) (sl [] fun c hc => by cases hc), ?_⟩
              rw [eqv_nil]
              have mz' : mkD (.str z) = (List.map (fun c => PyData.str ⟨#[c]⟩) (List.filter (fun c => !inS "abcdefghijklmnopqrstuvwxyz" c) z.cps.toList)).isEmpty := by
                rw [mz, decide_eq_true (show 1 ≤ z.cps.size by omega), decide_eq_true c2, Bool.true_and, Bool.true_and]
                generalize z.cps.toList = l
                induction l with
                | nil => rfl
                | cons c l ih =>
                  rw [List.all_cons, List.filter_cons]
                  cases inS "abcdefghijklmnopqrstuvwxyz" c with
                  | true =>
                    rw [if_neg (by decide), Bool.true_and]
                    exact ih
                  | false => rfl
              rw [← mz']
              cases hb : mkD (.str z) with
              | false =>
                rw [if_pos (by rfl)]
                simp only [t_Laremarks_3, flatD, List.any_cons, List.any_nil, eqv_str, eqv_int, eqv_ti, eqv_it, eqv_st, eqv_ts, cut1, Bool.or_false, Bool.or_true, Bool.and_self, Bool.and_true, Bool.and_false, Bool.false_or, Bool.true_or, and_self, ofs_inj, ofs_app, ofs_len, String.reduceEq, String.reduceNe, String.reduceAppend, decide_true, decide_false, Bool.not_true, Bool.not_false, sz0, sz1, sz2, sz3, sz4, sz5, sz6, sz7, sz8, sz9, sz10, sz11, sz12, sz13, sz14, sz15, sz16, sz17, sz18, sz19, sz20, sz21, sz22, sz23, sz24, sz25, cpow1018, true_and, and_true, Nat.reduceAdd, Nat.reduceLT, Nat.reduceSub, Int.reduceNe, Int.reduceEq, Int.reduceLT, Int.reduceLE, Int.reduceToNat, ne_eq, not_false_eq_true, List.length_map, Nat.lt_irrefl, dV_nx, dV_rt, at0, at1, at2, at3, ix20, ix21, vSeq, vIfS, vTest, vTruth, truth, v2, v1, vN, vCons, vNil, vStar, vVar, vC, xIx, Vl.opI0, Vl.opI, pk, vSet, vAug, vAsg, xgSub, vRet, vRetN, vDrop, vBreak, vCont, asD, asDs, opMod, opDiv, opMul2, Vl.opAdd, Vl.opAddO, opSub, opPow, opLt, Vl.opLe, opGt, Vl.opGe, xEq, okEq_str, okEq_int, xIn, okIn, inD, xIsN, isNone_n, isNone_t, isNone_l, isNone_i, isNone_s, isMo, mob, pkm, gModI, gDivI, gSubI, gMulI, gPowI, gGt, gLt, gLe, gGe, vNotT, vAndT, vOrT, vAndV, vOrV, opNot, opNotG, vIfE, opTup, opLst, opLstO, Vl.opLen, Vl.opInt, opList, opListO, opTuple, opII, gMax, gMin, vM, vM0, isT, xPop, Vl.opAppend, opExtend, opJoin, vgName, vgTup, vgCons, vgNil, kOpt_some, kOpn_some, kOps_some, Vl.opSum, Vl.opInsert, Vl.opIndex, opDivmod, vSl, vPart, vNoPart, opSl, opSlO, opRev, opCallK, ownD, ownO, objs, renum, uniq, getS, putS, vCall0, vFor, vForW, En.wk, vSeqI, vTupI, vRng1, vRng2, vRngD, vFn, vCallL, vOdd, vWays, vEnum, vZip, chkOf, vLcK, vYes, finD, finO, En.wipe, wipeE, En.trim, trimS, dropNone, clr_n, clr_v, clr_k, clr_o, wth, Vl.ret, takeS, startV,  List.map_cons, List.map_nil, List.length_cons, List.length_nil, List.cons_append, List.nil_append, List.replicate, List.getElem?_cons_succ, List.getElem?_cons_zero, List.getElem?_nil, List.set_cons_succ, List.set_cons_zero, List.set_nil, List.all_nil, List.all_cons, Bool.true_and, Option.map_some, Option.map_none, if_true, if_false, decide_eq_true_eq, Bool.false_eq_true, List.take_succ_cons, List.take_zero, List.take_nil, List.drop_succ_cons, List.drop_zero, List.drop_nil, reduceIte, reduceCtorEq]
                exact bad hb
              | true =>
                rw [if_neg (by decide), vNext_mk]
                exact hk2 _ 0 [] (Nat.le_refl _) ⟨by rw [List.all_append, hall, List.all_cons, hb]; rfl, _, _, rfl⟩
          · rw [if_pos (by rw [decide_eq_false (by omega)]; rfl)]
            simp only [t_Laremarks_2, flatD, List.any_cons, List.any_nil, eqv_str, eqv_int, eqv_ti, eqv_it, eqv_st, eqv_ts, cut1, Bool.or_false, Bool.or_true, Bool.and_self, Bool.and_true, Bool.and_false, Bool.false_or, Bool.true_or, and_self, ofs_inj, ofs_app, ofs_len, String.reduceEq, String.reduceNe, String.reduceAppend, decide_true, decide_false, Bool.not_true, Bool.not_false, sz0, sz1, sz2, sz3, sz4, sz5, sz6, sz7, sz8, sz9, sz10, sz11, sz12, sz13, sz14, sz15, sz16, sz17, sz18, sz19, sz20, sz21, sz22, sz23, sz24, sz25, cpow1018, true_and, and_true, Nat.reduceAdd, Nat.reduceLT, Nat.reduceSub, Int.reduceNe, Int.reduceEq, Int.reduceLT, Int.reduceLE, Int.reduceToNat, ne_eq, not_false_eq_true, List.length_map, Nat.lt_irrefl, dV_nx, dV_rt, at0, at1, at2, at3, ix20, ix21, vSeq, vIfS, vTest, vTruth, truth, v2, v1, vN, vCons, vNil, vStar, vVar, vC, xIx, Vl.opI0, Vl.opI, pk, vSet, vAug, vAsg, xgSub, vRet, vRetN, vDrop, vBreak, vCont, asD, asDs, opMod, opDiv, opMul2, Vl.opAdd, Vl.opAddO, opSub, opPow, opLt, Vl.opLe, opGt, Vl.opGe, xEq, okEq_str, okEq_int, xIn, okIn, inD, xIsN, isNone_n, isNone_t, isNone_l, isNone_i, isNone_s, isMo, mob, pkm, gModI, gDivI, gSubI, gMulI, gPowI, gGt, gLt, gLe, gGe, vNotT, vAndT, vOrT, vAndV, vOrV, opNot, opNotG, vIfE, opTup, opLst, opLstO, Vl.opLen, Vl.opInt, opList, opListO, opTuple, opII, gMax, gMin, vM, vM0, isT, xPop, Vl.opAppend, opExtend, opJoin, vgName, vgTup, vgCons, vgNil, kOpt_some, kOpn_some, kOps_some, Vl.opSum, Vl.opInsert, Vl.opIndex, opDivmod, vSl, vPart, vNoPart, opSl, opSlO, opRev, opCallK, ownD, ownO, objs, renum, uniq, getS, putS, vCall0, vFor, vForW, En.wk, vSeqI, vTupI, vRng1, vRng2, vRngD, vFn, vCallL, vOdd, vWays, vEnum, vZip, chkOf, vLcK, vYes, finD, finO, En.wipe, wipeE, En.trim, trimS, dropNone, clr_n, clr_v, clr_k, clr_o, wth, Vl.ret, takeS, startV,  List.map_cons, List.map_nil, List.length_cons, List.length_nil, List.cons_append, List.nil_append, List.replicate, List.getElem?_cons_succ, List.getElem?_cons_zero, List.getElem?_nil, List.set_cons_succ, List.set_cons_zero, List.set_nil, List.all_nil, List.all_cons, Bool.true_and, Option.map_some, Option.map_none, if_true, if_false, decide_eq_true_eq, Bool.false_eq_true, List.take_succ_cons, List.take_zero, List.take_nil, List.drop_succ_cons, List.drop_zero, List.drop_nil, reduceIte, reduceCtorEq]
            exact bad (by rw [mz, decide_eq_false c2, Bool.false_and, Bool.and_false])
        · rename_i c1
          simp only [t_Laremarks_2, flatD, List.any_cons, List.any_nil, eqv_str, eqv_int, eqv_ti, eqv_it, eqv_st, eqv_ts, cut1, Bool.or_false, Bool.or_true, Bool.and_self, Bool.and_true, Bool.and_false, Bool.false_or, Bool.true_or, and_self, ofs_inj, ofs_app, ofs_len, String.reduceEq, String.reduceNe, String.reduceAppend, decide_true, decide_false, Bool.not_true, Bool.not_false, sz0, sz1, sz2, sz3, sz4, sz5, sz6, sz7, sz8, sz9, sz10, sz11, sz12, sz13, sz14, sz15, sz16, sz17, sz18, sz19, sz20, sz21, sz22, sz23, sz24, sz25, cpow1018, true_and, and_true, Nat.reduceAdd, Nat.reduceLT, Nat.reduceSub, Int.reduceNe, Int.reduceEq, Int.reduceLT, Int.reduceLE, Int.reduceToNat, ne_eq, not_false_eq_true, List.length_map, Nat.lt_irrefl, dV_nx, dV_rt, at0, at1, at2, at3, ix20, ix21, vSeq, vIfS, vTest, vTruth, truth, v2, v1, vN, vCons, vNil, vStar, vVar, vC, xIx, Vl.opI0, Vl.opI, pk, vSet, vAug, vAsg, xgSub, vRet, vRetN, vDrop, vBreak, vCont, asD, asDs, opMod, opDiv, opMul2, Vl.opAdd, Vl.opAddO, opSub, opPow, opLt, Vl.opLe, opGt, Vl.opGe, xEq, okEq_str, okEq_int, xIn, okIn, inD, xIsN, isNone_n, isNone_t, isNone_l, isNone_i, isNone_s, isMo, mob, pkm, gModI, gDivI, gSubI, gMulI, gPowI, gGt, gLt, gLe, gGe, vNotT, vAndT, vOrT, vAndV, vOrV, opNot, opNotG, vIfE, opTup, opLst, opLstO, Vl.opLen, Vl.opInt, opList, opListO, opTuple, opII, gMax, gMin, vM, vM0, isT, xPop, Vl.opAppend, opExtend, opJoin, vgName, vgTup, vgCons, vgNil, kOpt_some, kOpn_some, kOps_some, Vl.opSum, Vl.opInsert, Vl.opIndex, opDivmod, vSl, vPart, vNoPart, opSl, opSlO, opRev, opCallK, ownD, ownO, objs, renum, uniq, getS, putS, vCall0, vFor, vForW, En.wk, vSeqI, vTupI, vRng1, vRng2, vRngD, vFn, vCallL, vOdd, vWays, vEnum, vZip, chkOf, vLcK, vYes, finD, finO, En.wipe, wipeE, En.trim, trimS, dropNone, clr_n, clr_v, clr_k, clr_o, wth, Vl.ret, takeS, startV,  List.map_cons, List.map_nil, List.length_cons, List.length_nil, List.cons_append, List.nil_append, List.replicate, List.getElem?_cons_succ, List.getElem?_cons_zero, List.getElem?_nil, List.set_cons_succ, List.set_cons_zero, List.set_nil, List.all_nil, List.all_cons, Bool.true_and, Option.map_some, Option.map_none, if_true, if_false, decide_eq_true_eq, Bool.false_eq_true, List.take_succ_cons, List.take_zero, List.take_nil, List.drop_succ_cons, List.drop_zero, List.drop_nil, reduceIte, reduceCtorEq]
          exact bad (by rw [mz, decide_eq_false (show ¬ 1 ≤ z.cps.size by omega), Bool.false_and])
      · have hs' : isS v = false := by simpa using hs
        rw [hs', if_pos (by decide)]
        simp only [t_Laremarks_2, flatD, List.any_cons, List.any_nil, eqv_str, eqv_int, eqv_ti, eqv_it, eqv_st, eqv_ts, cut1, Bool.or_false, Bool.or_true, Bool.and_self, Bool.and_true, Bool.and_false, Bool.false_or, Bool.true_or, and_self, ofs_inj, ofs_app, ofs_len, String.reduceEq, String.reduceNe, String.reduceAppend, decide_true, decide_false, Bool.not_true, Bool.not_false, sz0, sz1, sz2, sz3, sz4, sz5, sz6, sz7, sz8, sz9, sz10, sz11, sz12, sz13, sz14, sz15, sz16, sz17, sz18, sz19, sz20, sz21, sz22, sz23, sz24, sz25, cpow1018, true_and, and_true, Nat.reduceAdd, Nat.reduceLT, Nat.reduceSub, Int.reduceNe, Int.reduceEq, Int.reduceLT, Int.reduceLE, Int.reduceToNat, ne_eq, not_false_eq_true, List.length_map, Nat.lt_irrefl, dV_nx, dV_rt, at0, at1, at2, at3, ix20, ix21, vSeq, vIfS, vTest, vTruth, truth, v2, v1, vN, vCons, vNil, vStar, vVar, vC, xIx, Vl.opI0, Vl.opI, pk, vSet, vAug, vAsg, xgSub, vRet, vRetN, vDrop, vBreak, vCont, asD, asDs, opMod, opDiv, opMul2, Vl.opAdd, Vl.opAddO, opSub, opPow, opLt, Vl.opLe, opGt, Vl.opGe, xEq, okEq_str, okEq_int, xIn, okIn, inD, xIsN, isNone_n, isNone_t, isNone_l, isNone_i, isNone_s, isMo, mob, pkm, gModI, gDivI, gSubI, gMulI, gPowI, gGt, gLt, gLe, gGe, vNotT, vAndT, vOrT, vAndV, vOrV, opNot, opNotG, vIfE, opTup, opLst, opLstO, Vl.opLen, Vl.opInt, opList, opListO, opTuple, opII, gMax, gMin, vM, vM0, isT, xPop, Vl.opAppend, opExtend, opJoin, vgName, vgTup, vgCons, vgNil, kOpt_some, kOpn_some, kOps_some, Vl.opSum, Vl.opInsert, Vl.opIndex, opDivmod, vSl, vPart, vNoPart, opSl, opSlO, opRev, opCallK, ownD, ownO, objs, renum, uniq, getS, putS, vCall0, vFor, vForW, En.wk, vSeqI, vTupI, vRng1, vRng2, vRngD, vFn, vCallL, vOdd, vWays, vEnum, vZip, chkOf, vLcK, vYes, finD, finO, En.wipe, wipeE, En.trim, trimS, dropNone, clr_n, clr_v, clr_k, clr_o, wth, Vl.ret, takeS, startV,  List.map_cons, List.map_nil, List.length_cons, List.length_nil, List.cons_append, List.nil_append, List.replicate, List.getElem?_cons_succ, List.getElem?_cons_zero, List.getElem?_nil, List.set_cons_succ, List.set_cons_zero, List.set_nil, List.all_nil, List.all_cons, Bool.true_and, Option.map_some, Option.map_none, if_true, if_false, decide_eq_true_eq, Bool.false_eq_true, List.take_succ_cons, List.take_zero, List.take_nil, List.drop_succ_cons, List.drop_zero, List.drop_nil, reduceIte, reduceCtorEq]
        exact bad (by cases v <;> first | rfl | cases hs')
    · rintro e ⟨hall, x, y, rfl⟩
      obtain ⟨xs, rfl, hx⟩ := mk_all hall
      simp only [t_Laremarks_6, opSSet, flatD, List.any_cons, List.any_nil, eqv_str, eqv_int, eqv_ti, eqv_it, eqv_st, eqv_ts, cut1, Bool.or_false, Bool.or_true, Bool.and_self, Bool.and_true, Bool.and_false, Bool.false_or, Bool.true_or, and_self, ofs_inj, ofs_app, ofs_len, String.reduceEq, String.reduceNe, String.reduceAppend, decide_true, decide_false, Bool.not_true, Bool.not_false, sz0, sz1, sz2, sz3, sz4, sz5, sz6, sz7, sz8, sz9, sz10, sz11, sz12, sz13, sz14, sz15, sz16, sz17, sz18, sz19, sz20, sz21, sz22, sz23, sz24, sz25, cpow1018, true_and, and_true, Nat.reduceAdd, Nat.reduceLT, Nat.reduceSub, Int.reduceNe, Int.reduceEq, Int.reduceLT, Int.reduceLE, Int.reduceToNat, ne_eq, not_false_eq_true, List.length_map, Nat.lt_irrefl, dV_nx, dV_rt, at0, at1, at2, at3, ix20, ix21, vSeq, vIfS, vTest, vTruth, truth, v2, v1, vN, vCons, vNil, vStar, vVar, vC, xIx, Vl.opI0, Vl.opI, pk, vSet, vAug, vAsg, xgSub, vRet, vRetN, vDrop, vBreak, vCont, asD, asDs, opMod, opDiv, opMul2, Vl.opAdd, Vl.opAddO, opSub, opPow, opLt, Vl.opLe, opGt, Vl.opGe, xEq, okEq_str, okEq_int, xIn, okIn, inD, xIsN, isNone_n, isNone_t, isNone_l, isNone_i, isNone_s, isMo, mob, pkm, gModI, gDivI, gSubI, gMulI, gPowI, gGt, gLt, gLe, gGe, vNotT, vAndT, vOrT, vAndV, vOrV, opNot, opNotG, vIfE, opTup, opLst, opLstO, Vl.opLen, Vl.opInt, opList, opListO, opTuple, opII, gMax, gMin, vM, vM0, isT, xPop, Vl.opAppend, opExtend, opJoin, vgName, vgTup, vgCons, vgNil, kOpt_some, kOpn_some, kOps_some, Vl.opSum, Vl.opInsert, Vl.opIndex, opDivmod, vSl, vPart, vNoPart, opSl, opSlO, opRev, opCallK, ownD, ownO, objs, renum, uniq, getS, putS, vCall0, vFor, vForW, En.wk, vSeqI, vTupI, vRng1, vRng2, vRngD, vFn, vCallL, vOdd, vWays, vEnum, vZip, chkOf, vLcK, vYes, finD, finO, En.wipe, wipeE, En.trim, trimS, dropNone, clr_n, clr_v, clr_k, clr_o, wth, Vl.ret, takeS, startV,  List.map_cons, List.map_nil, List.length_cons, List.length_nil, List.cons_append, List.nil_append, List.replicate, List.getElem?_cons_succ, List.getElem?_cons_zero, List.getElem?_nil, List.set_cons_succ, List.set_cons_zero, List.set_nil, List.all_nil, List.all_cons, Bool.true_and, Option.map_some, Option.map_none, if_true, if_false, decide_eq_true_eq, Bool.false_eq_true, List.take_succ_cons, List.take_zero, List.take_nil, List.drop_succ_cons, List.drop_zero, List.drop_nil, reduceIte, reduceCtorEq]
      have ss := okS_of ok'.2
      have so : ∀ x ∈ sset xs, PyData.strOk x = true := fun x hx => ss x ((mem_sset x xs).mp hx)
      refine ⟨xs, txts_map xs, by have := ok'.1; rw [List.length_map] at this; omega, okEq_of (shpS ss) (shpS so), ?_⟩
      rw [eqv_strs2]
      have e : (hfM (.list (xs.map .str))).isSome = decide (xs = sset xs) := by
        rw [hfM_map xs hx]
        by_cases c : xs = sset xs
        · rw [if_pos c, decide_eq_true c]
          rfl
        · rw [if_neg c, decide_eq_false c]
          rfl
      rw [e] at q
      exact q
  · have hl' : isLs d = false := by simpa using hl
    rw [hl', if_pos (by decide)]
    simp only [t_Laremarks_1, flatD, List.any_cons, List.any_nil, eqv_str, eqv_int, eqv_ti, eqv_it, eqv_st, eqv_ts, cut1, Bool.or_false, Bool.or_true, Bool.and_self, Bool.and_true, Bool.and_false, Bool.false_or, Bool.true_or, and_self, ofs_inj, ofs_app, ofs_len, String.reduceEq, String.reduceNe, String.reduceAppend, decide_true, decide_false, Bool.not_true, Bool.not_false, sz0, sz1, sz2, sz3, sz4, sz5, sz6, sz7, sz8, sz9, sz10, sz11, sz12, sz13, sz14, sz15, sz16, sz17, sz18, sz19, sz20, sz21, sz22, sz23, sz24, sz25, cpow1018, true_and, and_true, Nat.reduceAdd, Nat.reduceLT, Nat.reduceSub, Int.reduceNe, Int.reduceEq, Int.reduceLT, Int.reduceLE, Int.reduceToNat, ne_eq, not_false_eq_true, List.length_map, Nat.lt_irrefl, dV_nx, dV_rt, at0, at1, at2, at3, ix20, ix21, vSeq, vIfS, vTest, vTruth, truth, v2, v1, vN, vCons, vNil, vStar, vVar, vC, xIx, Vl.opI0, Vl.opI, pk, vSet, vAug, vAsg, xgSub, vRet, vRetN, vDrop, vBreak, vCont, asD, asDs, opMod, opDiv, opMul2, Vl.opAdd, Vl.opAddO, opSub, opPow, opLt, Vl.opLe, opGt, Vl.opGe, xEq, okEq_str, okEq_int, xIn, okIn, inD, xIsN, isNone_n, isNone_t, isNone_l, isNone_i, isNone_s, isMo, mob, pkm, gModI, gDivI, gSubI, gMulI, gPowI, gGt, gLt, gLe, gGe, vNotT, vAndT, vOrT, vAndV, vOrV, opNot, opNotG, vIfE, opTup, opLst, opLstO, Vl.opLen, Vl.opInt, opList, opListO, opTuple, opII, gMax, gMin, vM, vM0, isT, xPop, Vl.opAppend, opExtend, opJoin, vgName, vgTup, vgCons, vgNil, kOpt_some, kOpn_some, kOps_some, Vl.opSum, Vl.opInsert, Vl.opIndex, opDivmod, vSl, vPart, vNoPart, opSl, opSlO, opRev, opCallK, ownD, ownO, objs, renum, uniq, getS, putS, vCall0, vFor, vForW, En.wk, vSeqI, vTupI, vRng1, vRng2, vRngD, vFn, vCallL, vOdd, vWays, vEnum, vZip, chkOf, vLcK, vYes, finD, finO, En.wipe, wipeE, En.trim, trimS, dropNone, clr_n, clr_v, clr_k, clr_o, wth, Vl.ret, takeS, startV,  List.map_cons, List.map_nil, List.length_cons, List.length_nil, List.cons_append, List.nil_append, List.replicate, List.getElem?_cons_succ, List.getElem?_cons_zero, List.getElem?_nil, List.set_cons_succ, List.set_cons_zero, List.set_nil, List.all_nil, List.all_cons, Bool.true_and, Option.map_some, Option.map_none, if_true, if_false, decide_eq_true_eq, Bool.false_eq_true, List.take_succ_cons, List.take_zero, List.take_nil, List.drop_succ_cons, List.drop_zero, List.drop_nil, reduceIte, reduceCtorEq]
    have e : hfM d = none := by cases d <;> first | rfl | cases hl'
    rw [e] at q
    exact q
def mksD (d : D) : List Str := match hfD d with
  | some (ms, _) => ms
  | none => []
def isL : Nat → D → Bool
  | 0, _ => false
  | n + 1, d => match hfD d with
    | some (ms, ts) => ts.all fun t => isL n t && ms.all fun z => decide (z ∈ mksD t)
    | none => false
theorem isTr_L : ∀ (n : Nat) (b : List Str) (d : D), isTr n b d = (isL n d && b.all fun z => decide (z ∈ mksD d))
  | 0, b, d => rfl
  | n + 1, b, d => by
    show (match hfD d with
      | some (ms, ts) => b.all (fun x => decide (x ∈ ms)) && ts.all fun t => isTr n ms t
      | none => false) = ((match hfD d with
      | some (ms, ts) => ts.all fun t => isL n t && ms.all fun z => decide (z ∈ mksD t)
      | none => false) && b.all fun z => decide (z ∈ mksD d))
    unfold mksD
    cases he : hfD d with
    | none => rfl
    | some p =>
      obtain ⟨ms, ts⟩ := p
      simp only
      rw [Bool.and_comm]
      congr 1
      exact congrArg ts.all (funext fun t => isTr_L n ms t)
def pLisT (N : Nat) : VSp := fun ss st Kp => ∃ (d : D) (n : Nat), n < N ∧ n ≤ 100 ∧ okT d ∧ ss = [.val d, .val (.int (n : Nat))] ∧ st = [] ∧ Kp (.val (.bool (isL n d))) []
theorem r_LisT {N : Nat} {ss cs Kp} (h : pLisT (N + 1) ss cs Kp) : t_Listree pAre (pLisT N) (dV cs.length Kp) ⟨startV 4 ss, cs.map some⟩ := by
  obtain ⟨d, n, hN, hn, ok, rfl, rfl, q⟩ := h
  simp only [t_Listree, t_Listree_8, vIsi, flatD, List.any_cons, List.any_nil, eqv_str, eqv_int, eqv_ti, eqv_it, eqv_st, eqv_ts, cut1, Bool.or_false, Bool.or_true, Bool.and_self, Bool.and_true, Bool.and_false, Bool.false_or, Bool.true_or, and_self, ofs_inj, ofs_app, ofs_len, String.reduceEq, String.reduceNe, String.reduceAppend, decide_true, decide_false, Bool.not_true, Bool.not_false, sz0, sz1, sz2, sz3, sz4, sz5, sz6, sz7, sz8, sz9, sz10, sz11, sz12, sz13, sz14, sz15, sz16, sz17, sz18, sz19, sz20, sz21, sz22, sz23, sz24, sz25, cpow1018, true_and, and_true, Nat.reduceAdd, Nat.reduceLT, Nat.reduceSub, Int.reduceNe, Int.reduceEq, Int.reduceLT, Int.reduceLE, Int.reduceToNat, ne_eq, not_false_eq_true, List.length_map, Nat.lt_irrefl, dV_nx, dV_rt, at0, at1, at2, at3, ix20, ix21, vSeq, vIfS, vTest, vTruth, truth, v2, v1, vN, vCons, vNil, vStar, vVar, vC, xIx, Vl.opI0, Vl.opI, pk, vSet, vAug, vAsg, xgSub, vRet, vRetN, vDrop, vBreak, vCont, asD, asDs, opMod, opDiv, opMul2, Vl.opAdd, Vl.opAddO, opSub, opPow, opLt, Vl.opLe, opGt, Vl.opGe, xEq, okEq_str, okEq_int, xIn, okIn, inD, xIsN, isNone_n, isNone_t, isNone_l, isNone_i, isNone_s, isMo, mob, pkm, gModI, gDivI, gSubI, gMulI, gPowI, gGt, gLt, gLe, gGe, vNotT, vAndT, vOrT, vAndV, vOrV, opNot, opNotG, vIfE, opTup, opLst, opLstO, Vl.opLen, Vl.opInt, opList, opListO, opTuple, opII, gMax, gMin, vM, vM0, isT, xPop, Vl.opAppend, opExtend, opJoin, vgName, vgTup, vgCons, vgNil, kOpt_some, kOpn_some, kOps_some, Vl.opSum, Vl.opInsert, Vl.opIndex, opDivmod, vSl, vPart, vNoPart, opSl, opSlO, opRev, opCallK, ownD, ownO, objs, renum, uniq, getS, putS, vCall0, vFor, vForW, En.wk, vSeqI, vTupI, vRng1, vRng2, vRngD, vFn, vCallL, vOdd, vWays, vEnum, vZip, chkOf, vLcK, vYes, finD, finO, En.wipe, wipeE, En.trim, trimS, dropNone, clr_n, clr_v, clr_k, clr_o, wth, Vl.ret, takeS, startV,  List.map_cons, List.map_nil, List.length_cons, List.length_nil, List.cons_append, List.nil_append, List.replicate, List.getElem?_cons_succ, List.getElem?_cons_zero, List.getElem?_nil, List.set_cons_succ, List.set_cons_zero, List.set_nil, List.all_nil, List.all_cons, Bool.true_and, Option.map_some, Option.map_none, if_true, if_false, decide_eq_true_eq, Bool.false_eq_true, List.take_succ_cons, List.take_zero, List.take_nil, List.drop_succ_cons, List.drop_zero, List.drop_nil, reduceIte, reduceCtorEq]
  cases n with
  | zero =>
    rw [if_pos (by decide)]
    simp only [t_Listree_1, flatD, List.any_cons, List.any_nil, eqv_str, eqv_int, eqv_ti, eqv_it, eqv_st, eqv_ts, cut1, Bool.or_false, Bool.or_true, Bool.and_self, Bool.and_true, Bool.and_false, Bool.false_or, Bool.true_or, and_self, ofs_inj, ofs_app, ofs_len, String.reduceEq, String.reduceNe, String.reduceAppend, decide_true, decide_false, Bool.not_true, Bool.not_false, sz0, sz1, sz2, sz3, sz4, sz5, sz6, sz7, sz8, sz9, sz10, sz11, sz12, sz13, sz14, sz15, sz16, sz17, sz18, sz19, sz20, sz21, sz22, sz23, sz24, sz25, cpow1018, true_and, and_true, Nat.reduceAdd, Nat.reduceLT, Nat.reduceSub, Int.reduceNe, Int.reduceEq, Int.reduceLT, Int.reduceLE, Int.reduceToNat, ne_eq, not_false_eq_true, List.length_map, Nat.lt_irrefl, dV_nx, dV_rt, at0, at1, at2, at3, ix20, ix21, vSeq, vIfS, vTest, vTruth, truth, v2, v1, vN, vCons, vNil, vStar, vVar, vC, xIx, Vl.opI0, Vl.opI, pk, vSet, vAug, vAsg, xgSub, vRet, vRetN, vDrop, vBreak, vCont, asD, asDs, opMod, opDiv, opMul2, Vl.opAdd, Vl.opAddO, opSub, opPow, opLt, Vl.opLe, opGt, Vl.opGe, xEq, okEq_str, okEq_int, xIn, okIn, inD, xIsN, isNone_n, isNone_t, isNone_l, isNone_i, isNone_s, isMo, mob, pkm, gModI, gDivI, gSubI, gMulI, gPowI, gGt, gLt, gLe, gGe, vNotT, vAndT, vOrT, vAndV, vOrV, opNot, opNotG, vIfE, opTup, opLst, opLstO, Vl.opLen, Vl.opInt, opList, opListO, opTuple, opII, gMax, gMin, vM, vM0, isT, xPop, Vl.opAppend, opExtend, opJoin, vgName, vgTup, vgCons, vgNil, kOpt_some, kOpn_some, kOps_some, Vl.opSum, Vl.opInsert, Vl.opIndex, opDivmod, vSl, vPart, vNoPart, opSl, opSlO, opRev, opCallK, ownD, ownO, objs, renum, uniq, getS, putS, vCall0, vFor, vForW, En.wk, vSeqI, vTupI, vRng1, vRng2, vRngD, vFn, vCallL, vOdd, vWays, vEnum, vZip, chkOf, vLcK, vYes, finD, finO, En.wipe, wipeE, En.trim, trimS, dropNone, clr_n, clr_v, clr_k, clr_o, wth, Vl.ret, takeS, startV,  List.map_cons, List.map_nil, List.length_cons, List.length_nil, List.cons_append, List.nil_append, List.replicate, List.getElem?_cons_succ, List.getElem?_cons_zero, List.getElem?_nil, List.set_cons_succ, List.set_cons_zero, List.set_nil, List.all_nil, List.all_cons, Bool.true_and, Option.map_some, Option.map_none, if_true, if_false, decide_eq_true_eq, Bool.false_eq_true, List.take_succ_cons, List.take_zero, List.take_nil, List.drop_succ_cons, List.drop_zero, List.drop_nil, reduceIte, reduceCtorEq]
    exact q
  | succ n =>
    rw [if_neg (by omega)]
    refine ⟨_, kit_it ok, ?_⟩
    have no : hfD d = none → Kp (.val (.bool false)) [] := fun h => by
      have e : isL (n + 1) d = false := by
        show (match hfD d with
          | some (ms, ts) => ts.all fun t => isL n t && ms.all fun z => decide (z ∈ mksD t)
          | none => false) = false
        rw [h]
      rw [e] at q
      exact q
    by_cases ht : isTp d = true
    · obtain ⟨ds, rfl⟩ : ∃ ds, d = .tuple ds := by
        cases d <;> first | exact ⟨_, rfl⟩ | cases ht
      rw [ht, if_neg (by decide)]
      by_cases hl : ds.length = 2
      · obtain ⟨a, b, rfl⟩ : ∃ a b, ds = [a, b] := by
          match ds, hl with
          | [a, b], _ => exact ⟨a, b, rfl⟩
        simp only [flatD, List.any_cons, List.any_nil, eqv_str, eqv_int, eqv_ti, eqv_it, eqv_st, eqv_ts, cut1, Bool.or_false, Bool.or_true, Bool.and_self, Bool.and_true, Bool.and_false, Bool.false_or, Bool.true_or, and_self, ofs_inj, ofs_app, ofs_len, String.reduceEq, String.reduceNe, String.reduceAppend, decide_true, decide_false, Bool.not_true, Bool.not_false, sz0, sz1, sz2, sz3, sz4, sz5, sz6, sz7, sz8, sz9, sz10, sz11, sz12, sz13, sz14, sz15, sz16, sz17, sz18, sz19, sz20, sz21, sz22, sz23, sz24, sz25, cpow1018, true_and, and_true, Nat.reduceAdd, Nat.reduceLT, Nat.reduceSub, Int.reduceNe, Int.reduceEq, Int.reduceLT, Int.reduceLE, Int.reduceToNat, ne_eq, not_false_eq_true, List.length_map, Nat.lt_irrefl, dV_nx, dV_rt, at0, at1, at2, at3, ix20, ix21, vSeq, vIfS, vTest, vTruth, truth, v2, v1, vN, vCons, vNil, vStar, vVar, vC, xIx, Vl.opI0, Vl.opI, pk, vSet, vAug, vAsg, xgSub, vRet, vRetN, vDrop, vBreak, vCont, asD, asDs, opMod, opDiv, opMul2, Vl.opAdd, Vl.opAddO, opSub, opPow, opLt, Vl.opLe, opGt, Vl.opGe, xEq, okEq_str, okEq_int, xIn, okIn, inD, xIsN, isNone_n, isNone_t, isNone_l, isNone_i, isNone_s, isMo, mob, pkm, gModI, gDivI, gSubI, gMulI, gPowI, gGt, gLt, gLe, gGe, vNotT, vAndT, vOrT, vAndV, vOrV, opNot, opNotG, vIfE, opTup, opLst, opLstO, Vl.opLen, Vl.opInt, opList, opListO, opTuple, opII, gMax, gMin, vM, vM0, isT, xPop, Vl.opAppend, opExtend, opJoin, vgName, vgTup, vgCons, vgNil, kOpt_some, kOpn_some, kOps_some, Vl.opSum, Vl.opInsert, Vl.opIndex, opDivmod, vSl, vPart, vNoPart, opSl, opSlO, opRev, opCallK, ownD, ownO, objs, renum, uniq, getS, putS, vCall0, vFor, vForW, En.wk, vSeqI, vTupI, vRng1, vRng2, vRngD, vFn, vCallL, vOdd, vWays, vEnum, vZip, chkOf, vLcK, vYes, finD, finO, En.wipe, wipeE, En.trim, trimS, dropNone, clr_n, clr_v, clr_k, clr_o, wth, Vl.ret, takeS, startV,  List.map_cons, List.map_nil, List.length_cons, List.length_nil, List.cons_append, List.nil_append, List.replicate, List.getElem?_cons_succ, List.getElem?_cons_zero, List.getElem?_nil, List.set_cons_succ, List.set_cons_zero, List.set_nil, List.all_nil, List.all_cons, Bool.true_and, Option.map_some, Option.map_none, if_true, if_false, decide_eq_true_eq, Bool.false_eq_true, List.take_succ_cons, List.take_zero, List.take_nil, List.drop_succ_cons, List.drop_zero, List.drop_nil, reduceIte, reduceCtorEq]
        rw [if_neg (by simp)]
        have ok' := ok
        unfold okT at ok'
        have ok2 := ok'.2
        unfold okTs okTs at ok2
        refine ⟨a, ok2.1, rfl, rfl, ?_⟩
        simp only [truth, flatD, List.any_cons, List.any_nil, eqv_str, eqv_int, eqv_ti, eqv_it, eqv_st, eqv_ts, cut1, Bool.or_false, Bool.or_true, Bool.and_self, Bool.and_true, Bool.and_false, Bool.false_or, Bool.true_or, and_self, ofs_inj, ofs_app, ofs_len, String.reduceEq, String.reduceNe, String.reduceAppend, decide_true, decide_false, Bool.not_true, Bool.not_false, sz0, sz1, sz2, sz3, sz4, sz5, sz6, sz7, sz8, sz9, sz10, sz11, sz12, sz13, sz14, sz15, sz16, sz17, sz18, sz19, sz20, sz21, sz22, sz23, sz24, sz25, cpow1018, true_and, and_true, Nat.reduceAdd, Nat.reduceLT, Nat.reduceSub, Int.reduceNe, Int.reduceEq, Int.reduceLT, Int.reduceLE, Int.reduceToNat, ne_eq, not_false_eq_true, List.length_map, Nat.lt_irrefl, dV_nx, dV_rt, at0, at1, at2, at3, ix20, ix21, vSeq, vIfS, vTest, vTruth, truth, v2, v1, vN, vCons, vNil, vStar, vVar, vC, xIx, Vl.opI0, Vl.opI, pk, vSet, vAug, vAsg, xgSub, vRet, vRetN, vDrop, vBreak, vCont, asD, asDs, opMod, opDiv, opMul2, Vl.opAdd, Vl.opAddO, opSub, opPow, opLt, Vl.opLe, opGt, Vl.opGe, xEq, okEq_str, okEq_int, xIn, okIn, inD, xIsN, isNone_n, isNone_t, isNone_l, isNone_i, isNone_s, isMo, mob, pkm, gModI, gDivI, gSubI, gMulI, gPowI, gGt, gLt, gLe, gGe, vNotT, vAndT, vOrT, vAndV, vOrV, opNot, opNotG, vIfE, opTup, opLst, opLstO, Vl.opLen, Vl.opInt, opList, opListO, opTuple, opII, gMax, gMin, vM, vM0, isT, xPop, Vl.opAppend, opExtend, opJoin, vgName, vgTup, vgCons, vgNil, kOpt_some, kOpn_some, kOps_some, Vl.opSum, Vl.opInsert, Vl.opIndex, opDivmod, vSl, vPart, vNoPart, opSl, opSlO, opRev, opCallK, ownD, ownO, objs, renum, uniq, getS, putS, vCall0, vFor, vForW, En.wk, vSeqI, vTupI, vRng1, vRng2, vRngD, vFn, vCallL, vOdd, vWays, vEnum, vZip, chkOf, vLcK, vYes, finD, finO, En.wipe, wipeE, En.trim, trimS, dropNone, clr_n, clr_v, clr_k, clr_o, wth, Vl.ret, takeS, startV,  List.map_cons, List.map_nil, List.length_cons, List.length_nil, List.cons_append, List.nil_append, List.replicate, List.getElem?_cons_succ, List.getElem?_cons_zero, List.getElem?_nil, List.set_cons_succ, List.set_cons_zero, List.set_nil, List.all_nil, List.all_cons, Bool.true_and, Option.map_some, Option.map_none, if_true, if_false, decide_eq_true_eq, Bool.false_eq_true, List.take_succ_cons, List.take_zero, List.take_nil, List.drop_succ_cons, List.drop_zero, List.drop_nil, reduceIte, reduceCtorEq]
        cases ha : hfM a with
        | none =>
          rw [if_pos (by rfl)]
          simp only [t_Listree_1, flatD, List.any_cons, List.any_nil, eqv_str, eqv_int, eqv_ti, eqv_it, eqv_st, eqv_ts, cut1, Bool.or_false, Bool.or_true, Bool.and_self, Bool.and_true, Bool.and_false, Bool.false_or, Bool.true_or, and_self, ofs_inj, ofs_app, ofs_len, String.reduceEq, String.reduceNe, String.reduceAppend, decide_true, decide_false, Bool.not_true, Bool.not_false, sz0, sz1, sz2, sz3, sz4, sz5, sz6, sz7, sz8, sz9, sz10, sz11, sz12, sz13, sz14, sz15, sz16, sz17, sz18, sz19, sz20, sz21, sz22, sz23, sz24, sz25, cpow1018, true_and, and_true, Nat.reduceAdd, Nat.reduceLT, Nat.reduceSub, Int.reduceNe, Int.reduceEq, Int.reduceLT, Int.reduceLE, Int.reduceToNat, ne_eq, not_false_eq_true, List.length_map, Nat.lt_irrefl, dV_nx, dV_rt, at0, at1, at2, at3, ix20, ix21, vSeq, vIfS, vTest, vTruth, truth, v2, v1, vN, vCons, vNil, vStar, vVar, vC, xIx, Vl.opI0, Vl.opI, pk, vSet, vAug, vAsg, xgSub, vRet, vRetN, vDrop, vBreak, vCont, asD, asDs, opMod, opDiv, opMul2, Vl.opAdd, Vl.opAddO, opSub, opPow, opLt, Vl.opLe, opGt, Vl.opGe, xEq, okEq_str, okEq_int, xIn, okIn, inD, xIsN, isNone_n, isNone_t, isNone_l, isNone_i, isNone_s, isMo, mob, pkm, gModI, gDivI, gSubI, gMulI, gPowI, gGt, gLt, gLe, gGe, vNotT, vAndT, vOrT, vAndV, vOrV, opNot, opNotG, vIfE, opTup, opLst, opLstO, Vl.opLen, Vl.opInt, opList, opListO, opTuple, opII, gMax, gMin, vM, vM0, isT, xPop, Vl.opAppend, opExtend, opJoin, vgName, vgTup, vgCons, vgNil, kOpt_some, kOpn_some, kOps_some, Vl.opSum, Vl.opInsert, Vl.opIndex, opDivmod, vSl, vPart, vNoPart, opSl, opSlO, opRev, opCallK, ownD, ownO, objs, renum, uniq, getS, putS, vCall0, vFor, vForW, En.wk, vSeqI, vTupI, vRng1, vRng2, vRngD, vFn, vCallL, vOdd, vWays, vEnum, vZip, chkOf, vLcK, vYes, finD, finO, En.wipe, wipeE, En.trim, trimS, dropNone, clr_n, clr_v, clr_k, clr_o, wth, Vl.ret, takeS, startV,  List.map_cons, List.map_nil, List.length_cons, List.length_nil, List.cons_append, List.nil_append, List.replicate, List.getElem?_cons_succ, List.getElem?_cons_zero, List.getElem?_nil, List.set_cons_succ, List.set_cons_zero, List.set_nil, List.all_nil, List.all_cons, Bool.true_and, Option.map_some, Option.map_none, if_true, if_false, decide_eq_true_eq, Bool.false_eq_true, List.take_succ_cons, List.take_zero, List.take_nil, List.drop_succ_cons, List.drop_zero, List.drop_nil, reduceIte, reduceCtorEq]
          refine no ?_
          cases hx : hfD (.tuple [a, b]) with
          | none => rfl
          | some p =>
            obtain ⟨e1, _⟩ := hfD_of (ms := p.1) (ts := p.2) hx
            injection e1 with e1
            cases e1
            rw [hfD_M, ha] at hx
            cases hx
        | some ms =>
          rw [if_neg (by simp), vNext_mk]
          simp only [t_Listree_7, vIsi, flatD, List.any_cons, List.any_nil, eqv_str, eqv_int, eqv_ti, eqv_it, eqv_st, eqv_ts, cut1, Bool.or_false, Bool.or_true, Bool.and_self, Bool.and_true, Bool.and_false, Bool.false_or, Bool.true_or, and_self, ofs_inj, ofs_app, ofs_len, String.reduceEq, String.reduceNe, String.reduceAppend, decide_true, decide_false, Bool.not_true, Bool.not_false, sz0, sz1, sz2, sz3, sz4, sz5, sz6, sz7, sz8, sz9, sz10, sz11, sz12, sz13, sz14, sz15, sz16, sz17, sz18, sz19, sz20, sz21, sz22, sz23, sz24, sz25, cpow1018, true_and, and_true, Nat.reduceAdd, Nat.reduceLT, Nat.reduceSub, Int.reduceNe, Int.reduceEq, Int.reduceLT, Int.reduceLE, Int.reduceToNat, ne_eq, not_false_eq_true, List.length_map, Nat.lt_irrefl, dV_nx, dV_rt, at0, at1, at2, at3, ix20, ix21, vSeq, vIfS, vTest, vTruth, truth, v2, v1, vN, vCons, vNil, vStar, vVar, vC, xIx, Vl.opI0, Vl.opI, pk, vSet, vAug, vAsg, xgSub, vRet, vRetN, vDrop, vBreak, vCont, asD, asDs, opMod, opDiv, opMul2, Vl.opAdd, Vl.opAddO, opSub, opPow, opLt, Vl.opLe, opGt, Vl.opGe, xEq, okEq_str, okEq_int, xIn, okIn, inD, xIsN, isNone_n, isNone_t, isNone_l, isNone_i, isNone_s, isMo, mob, pkm, gModI, gDivI, gSubI, gMulI, gPowI, gGt, gLt, gLe, gGe, vNotT, vAndT, vOrT, vAndV, vOrV, opNot, opNotG, vIfE, opTup, opLst, opLstO, Vl.opLen, Vl.opInt, opList, opListO, opTuple, opII, gMax, gMin, vM, vM0, isT, xPop, Vl.opAppend, opExtend, opJoin, vgName, vgTup, vgCons, vgNil, kOpt_some, kOpn_some, kOps_some, Vl.opSum, Vl.opInsert, Vl.opIndex, opDivmod, vSl, vPart, vNoPart, opSl, opSlO, opRev, opCallK, ownD, ownO, objs, renum, uniq, getS, putS, vCall0, vFor, vForW, En.wk, vSeqI, vTupI, vRng1, vRng2, vRngD, vFn, vCallL, vOdd, vWays, vEnum, vZip, chkOf, vLcK, vYes, finD, finO, En.wipe, wipeE, En.trim, trimS, dropNone, clr_n, clr_v, clr_k, clr_o, wth, Vl.ret, takeS, startV,  List.map_cons, List.map_nil, List.length_cons, List.length_nil, List.cons_append, List.nil_append, List.replicate, List.getElem?_cons_succ, List.getElem?_cons_zero, List.getElem?_nil, List.set_cons_succ, List.set_cons_zero, List.set_nil, List.all_nil, List.all_cons, Bool.true_and, Option.map_some, Option.map_none, if_true, if_false, decide_eq_true_eq, Bool.false_eq_true, List.take_succ_cons, List.take_zero, List.take_nil, List.drop_succ_cons, List.drop_zero, List.drop_nil, reduceIte, reduceCtorEq]
          refine ⟨_, kit_il ok2.2.1, ?_⟩
          by_cases hb : isLs b = true
          · obtain ⟨ts, rfl⟩ : ∃ ts, b = .list ts := by
              cases b <;> first | exact ⟨_, rfl⟩ | cases hb
            rw [hb, if_neg (by decide), vNext_mk]
            simp only [t_Listree_6, flatD, List.any_cons, List.any_nil, eqv_str, eqv_int, eqv_ti, eqv_it, eqv_st, eqv_ts, cut1, Bool.or_false, Bool.or_true, Bool.and_self, Bool.and_true, Bool.and_false, Bool.false_or, Bool.true_or, and_self, ofs_inj, ofs_app, ofs_len, String.reduceEq, String.reduceNe, String.reduceAppend, decide_true, decide_false, Bool.not_true, Bool.not_false, sz0, sz1, sz2, sz3, sz4, sz5, sz6, sz7, sz8, sz9, sz10, sz11, sz12, sz13, sz14, sz15, sz16, sz17, sz18, sz19, sz20, sz21, sz22, sz23, sz24, sz25, cpow1018, true_and, and_true, Nat.reduceAdd, Nat.reduceLT, Nat.reduceSub, Int.reduceNe, Int.reduceEq, Int.reduceLT, Int.reduceLE, Int.reduceToNat, ne_eq, not_false_eq_true, List.length_map, Nat.lt_irrefl, dV_nx, dV_rt, at0, at1, at2, at3, ix20, ix21, vSeq, vIfS, vTest, vTruth, truth, v2, v1, vN, vCons, vNil, vStar, vVar, vC, xIx, Vl.opI0, Vl.opI, pk, vSet, vAug, vAsg, xgSub, vRet, vRetN, vDrop, vBreak, vCont, asD, asDs, opMod, opDiv, opMul2, Vl.opAdd, Vl.opAddO, opSub, opPow, opLt, Vl.opLe, opGt, Vl.opGe, xEq, okEq_str, okEq_int, xIn, okIn, inD, xIsN, isNone_n, isNone_t, isNone_l, isNone_i, isNone_s, isMo, mob, pkm, gModI, gDivI, gSubI, gMulI, gPowI, gGt, gLt, gLe, gGe, vNotT, vAndT, vOrT, vAndV, vOrV, opNot, opNotG, vIfE, opTup, opLst, opLstO, Vl.opLen, Vl.opInt, opList, opListO, opTuple, opII, gMax, gMin, vM, vM0, isT, xPop, Vl.opAppend, opExtend, opJoin, vgName, vgTup, vgCons, vgNil, kOpt_some, kOpn_some, kOps_some, Vl.opSum, Vl.opInsert, Vl.opIndex, opDivmod, vSl, vPart, vNoPart, opSl, opSlO, opRev, opCallK, ownD, ownO, objs, renum, uniq, getS, putS, vCall0, vFor, vForW, En.wk, vSeqI, vTupI, vRng1, vRng2, vRngD, vFn, vCallL, vOdd, vWays, vEnum, vZip, chkOf, vLcK, vYes, finD, finO, En.wipe, wipeE, En.trim, trimS, dropNone, clr_n, clr_v, clr_k, clr_o, wth, Vl.ret, takeS, startV,  List.map_cons, List.map_nil, List.length_cons, List.length_nil, List.cons_append, List.nil_append, List.replicate, List.getElem?_cons_succ, List.getElem?_cons_zero, List.getElem?_nil, List.set_cons_succ, List.set_cons_zero, List.set_nil, List.all_nil, List.all_cons, Bool.true_and, Option.map_some, Option.map_none, if_true, if_false, decide_eq_true_eq, Bool.false_eq_true, List.take_succ_cons, List.take_zero, List.take_nil, List.drop_succ_cons, List.drop_zero, List.drop_nil, reduceIte, reduceCtorEq]
            obtain ⟨rfl, _, _⟩ := hfM_of ha
            have hd : hfD (.tuple [.list (ms.map .str), .list ts]) = some (ms, ts) := by
              rw [hfD_M, ha]
              rfl
            have okm := ok2.1
            have okts := ok2.2.1
            unfold okT at okm okts
            have sm := okS_of okm.2
            have eL : isL (n + 1) (.tuple [.list (ms.map .str), .list ts]) = ts.all fun t => isL n t && ms.all fun z => decide (z ∈ mksD t) := by
              show (match hfD (.tuple [.list (ms.map .str), .list ts]) with
                | some (ms, ts) => ts.all fun t => isL n t && ms.all fun z => decide (z ∈ mksD t)
                | none => false) = _
              rw [hd]
            rw [eL] at q
            refine fl_invD (chk := none) ts (fun ys e => (ys.all fun t => isL n t && ms.all fun z => decide (z ∈ mksD t)) = true ∧ ∃ x y, e = ⟨[some (.val (.tuple [.list (ms.map .str), .list ts])), some (.val (.int ((n + 1 : Nat) : Int))), x, y], []⟩) (fun _ _ _ => trivial) ?_ ?_ ⟨rfl, _, _, rfl⟩
            · rintro ys v zs e Nx2 hys ⟨hall, x, y, rfl⟩ hk2
              have okv : okT v := okTs_mem okts.2 v (by rw [hys]; simp)
              have bad : (isL n v && ms.all fun z => decide (z ∈ mksD v)) = false → Kp (.val (.bool false)) [] := fun h => by
                have : (ts.all fun t => isL n t && ms.all fun z => decide (z ∈ mksD t)) = false := by
                  rw [hys, List.all_append, List.all_cons, h]
                  simp
                rw [this] at q
                exact q
              simp only [t_Listree_4, flatD, List.any_cons, List.any_nil, eqv_str, eqv_int, eqv_ti, eqv_it, eqv_st, eqv_ts, cut1, Bool.or_false, Bool.or_true, Bool.and_self, Bool.and_true, Bool.and_false, Bool.false_or, Bool.true_or, and_self, ofs_inj, ofs_app, ofs_len, String.reduceEq, String.reduceNe, String.reduceAppend, decide_true, decide_false, Bool.not_true, Bool.not_false, sz0, sz1, sz2, sz3, sz4, sz5, sz6, sz7, sz8, sz9, sz10, sz11, sz12, sz13, sz14, sz15, sz16, sz17, sz18, sz19, sz20, sz21, sz22, sz23, sz24, sz25, cpow1018, true_and, and_true, Nat.reduceAdd, Nat.reduceLT, Nat.reduceSub, Int.reduceNe, Int.reduceEq, Int.reduceLT, Int.reduceLE, Int.reduceToNat, ne_eq, not_false_eq_true, List.length_map, Nat.lt_irrefl, dV_nx, dV_rt, at0, at1, at2, at3, ix20, ix21, vSeq, vIfS, vTest, vTruth, truth, v2, v1, vN, vCons, vNil, vStar, vVar, vC, xIx, Vl.opI0, Vl.opI, pk, vSet, vAug, vAsg, xgSub, vRet, vRetN, vDrop, vBreak, vCont, asD, asDs, opMod, opDiv, opMul2, Vl.opAdd, Vl.opAddO, opSub, opPow, opLt, Vl.opLe, opGt, Vl.opGe, xEq, okEq_str, okEq_int, xIn, okIn, inD, xIsN, isNone_n, isNone_t, isNone_l, isNone_i, isNone_s, isMo, mob, pkm, gModI, gDivI, gSubI, gMulI, gPowI, gGt, gLt, gLe, gGe, vNotT, vAndT, vOrT, vAndV, vOrV, opNot, opNotG, vIfE, opTup, opLst, opLstO, Vl.opLen, Vl.opInt, opList, opListO, opTuple, opII, gMax, gMin, vM, vM0, isT, xPop, Vl.opAppend, opExtend, opJoin, vgName, vgTup, vgCons, vgNil, kOpt_some, kOpn_some, kOps_some, Vl.opSum, Vl.opInsert, Vl.opIndex, opDivmod, vSl, vPart, vNoPart, opSl, opSlO, opRev, opCallK, ownD, ownO, objs, renum, uniq, getS, putS, vCall0, vFor, vForW, En.wk, vSeqI, vTupI, vRng1, vRng2, vRngD, vFn, vCallL, vOdd, vWays, vEnum, vZip, chkOf, vLcK, vYes, finD, finO, En.wipe, wipeE, En.trim, trimS, dropNone, clr_n, clr_v, clr_k, clr_o, wth, Vl.ret, takeS, startV,  List.map_cons, List.map_nil, List.length_cons, List.length_nil, List.cons_append, List.nil_append, List.replicate, List.getElem?_cons_succ, List.getElem?_cons_zero, List.getElem?_nil, List.set_cons_succ, List.set_cons_zero, List.set_nil, List.all_nil, List.all_cons, Bool.true_and, Option.map_some, Option.map_none, if_true, if_false, decide_eq_true_eq, Bool.false_eq_true, List.take_succ_cons, List.take_zero, List.take_nil, List.drop_succ_cons, List.drop_zero, List.drop_nil, reduceIte, reduceCtorEq]
              refine ⟨v, n, by omega, by omega, okv, by rw [show (((n + 1 : Nat) : Int) - 1) = (n : Int) by omega], rfl, ?_⟩
              simp only [truth, flatD, List.any_cons, List.any_nil, eqv_str, eqv_int, eqv_ti, eqv_it, eqv_st, eqv_ts, cut1, Bool.or_false, Bool.or_true, Bool.and_self, Bool.and_true, Bool.and_false, Bool.false_or, Bool.true_or, and_self, ofs_inj, ofs_app, ofs_len, String.reduceEq, String.reduceNe, String.reduceAppend, decide_true, decide_false, Bool.not_true, Bool.not_false, sz0, sz1, sz2, sz3, sz4, sz5, sz6, sz7, sz8, sz9, sz10, sz11, sz12, sz13, sz14, sz15, sz16, sz17, sz18, sz19, sz20, sz21, sz22, sz23, sz24, sz25, cpow1018, true_and, and_true, Nat.reduceAdd, Nat.reduceLT, Nat.reduceSub, Int.reduceNe, Int.reduceEq, Int.reduceLT, Int.reduceLE, Int.reduceToNat, ne_eq, not_false_eq_true, List.length_map, Nat.lt_irrefl, dV_nx, dV_rt, at0, at1, at2, at3, ix20, ix21, vSeq, vIfS, vTest, vTruth, truth, v2, v1, vN, vCons, vNil, vStar, vVar, vC, xIx, Vl.opI0, Vl.opI, pk, vSet, vAug, vAsg, xgSub, vRet, vRetN, vDrop, vBreak, vCont, asD, asDs, opMod, opDiv, opMul2, Vl.opAdd, Vl.opAddO, opSub, opPow, opLt, Vl.opLe, opGt, Vl.opGe, xEq, okEq_str, okEq_int, xIn, okIn, inD, xIsN, isNone_n, isNone_t, isNone_l, isNone_i, isNone_s, isMo, mob, pkm, gModI, gDivI, gSubI, gMulI, gPowI, gGt, gLt, gLe, gGe, vNotT, vAndT, vOrT, vAndV, vOrV, opNot, opNotG, vIfE, opTup, opLst, opLstO, Vl.opLen, Vl.opInt, opList, opListO, opTuple, opII, gMax, gMin, vM, vM0, isT, xPop, Vl.opAppend, opExtend, opJoin, vgName, vgTup, vgCons, vgNil, kOpt_some, kOpn_some, kOps_some, Vl.opSum, Vl.opInsert, Vl.opIndex, opDivmod, vSl, vPart, vNoPart, opSl, opSlO, opRev, opCallK, ownD, ownO, objs, renum, uniq, getS, putS, vCall0, vFor, vForW, En.wk, vSeqI, vTupI, vRng1, vRng2, vRngD, vFn, vCallL, vOdd, vWays, vEnum, vZip, chkOf, vLcK, vYes, finD, finO, En.wipe, wipeE, En.trim, trimS, dropNone, clr_n, clr_v, clr_k, clr_o, wth, Vl.ret, takeS, startV,  List.map_cons, List.map_nil, List.length_cons, List.length_nil, List.cons_append, List.nil_append, List.replicate, List.getElem?_cons_succ, List.getElem?_cons_zero, List.getElem?_nil, List.set_cons_succ, List.set_cons_zero, List.set_nil, List.all_nil, List.all_cons, Bool.true_and, Option.map_some, Option.map_none, if_true, if_false, decide_eq_true_eq, Bool.false_eq_true, List.take_succ_cons, List.take_zero, List.take_nil, List.drop_succ_cons, List.drop_zero, List.drop_nil, reduceIte, reduceCtorEq]
              cases hv : isL n v with
              | false =>
                rw [if_pos (by rfl)]
                simp only [t_Listree_3, flatD, List.any_cons, List.any_nil, eqv_str, eqv_int, eqv_ti, eqv_it, eqv_st, eqv_ts, cut1, Bool.or_false, Bool.or_true, Bool.and_self, Bool.and_true, Bool.and_false, Bool.false_or, Bool.true_or, and_self, ofs_inj, ofs_app, ofs_len, String.reduceEq, String.reduceNe, String.reduceAppend, decide_true, decide_false, Bool.not_true, Bool.not_false, sz0, sz1, sz2, sz3, sz4, sz5, sz6, sz7, sz8, sz9, sz10, sz11, sz12, sz13, sz14, sz15, sz16, sz17, sz18, sz19, sz20, sz21, sz22, sz23, sz24, sz25, cpow1018, true_and, and_true, Nat.reduceAdd, Nat.reduceLT, Nat.reduceSub, Int.reduceNe, Int.reduceEq, Int.reduceLT, Int.reduceLE, Int.reduceToNat, ne_eq, not_false_eq_true, List.length_map, Nat.lt_irrefl, dV_nx, dV_rt, at0, at1, at2, at3, ix20, ix21, vSeq, vIfS, vTest, vTruth, truth, v2, v1, vN, vCons, vNil, vStar, vVar, vC, xIx, Vl.opI0, Vl.opI, pk, vSet, vAug, vAsg, xgSub, vRet, vRetN, vDrop, vBreak, vCont, asD, asDs, opMod, opDiv, opMul2, Vl.opAdd, Vl.opAddO, opSub, opPow, opLt, Vl.opLe, opGt, Vl.opGe, xEq, okEq_str, okEq_int, xIn, okIn, inD, xIsN, isNone_n, isNone_t, isNone_l, isNone_i, isNone_s, isMo, mob, pkm, gModI, gDivI, gSubI, gMulI, gPowI, gGt, gLt, gLe, gGe, vNotT, vAndT, vOrT, vAndV, vOrV, opNot, opNotG, vIfE, opTup, opLst, opLstO, Vl.opLen, Vl.opInt, opList, opListO, opTuple, opII, gMax, gMin, vM, vM0, isT, xPop, Vl.opAppend, opExtend, opJoin, vgName, vgTup, vgCons, vgNil, kOpt_some, kOpn_some, kOps_some, Vl.opSum, Vl.opInsert, Vl.opIndex, opDivmod, vSl, vPart, vNoPart, opSl, opSlO, opRev, opCallK, ownD, ownO, objs, renum, uniq, getS, putS, vCall0, vFor, vForW, En.wk, vSeqI, vTupI, vRng1, vRng2, vRngD, vFn, vCallL, vOdd, vWays, vEnum, vZip, chkOf, vLcK, vYes, finD, finO, En.wipe, wipeE, En.trim, trimS, dropNone, clr_n, clr_v, clr_k, clr_o, wth, Vl.ret, takeS, startV,  List.map_cons, List.map_nil, List.length_cons, List.length_nil, List.cons_append, List.nil_append, List.replicate, List.getElem?_cons_succ, List.getElem?_cons_zero, List.getElem?_nil, List.set_cons_succ, List.set_cons_zero, List.set_nil, List.all_nil, List.all_cons, Bool.true_and, Option.map_some, Option.map_none, if_true, if_false, decide_eq_true_eq, Bool.false_eq_true, List.take_succ_cons, List.take_zero, List.take_nil, List.drop_succ_cons, List.drop_zero, List.drop_nil, reduceIte, reduceCtorEq]
                exact bad (by rw [hv, Bool.false_and])
              | true =>
                rw [if_neg (by decide)]
                have fv : ∃ mv tv, hfD v = some (mv, tv) := by
                  cases hx : hfD v with
                  | none =>
                    cases n with
                    | zero => cases hv
                    | succ n =>
                      have : isL (n + 1) v = false := by
                        show (match hfD v with
                          | some (ms, ts) => ts.all fun t => isL n t && ms.all fun z => decide (z ∈ mksD t)
                          | none => false) = false
                        rw [hx]
                      rw [this] at hv
                      cases hv
                  | some p => exact ⟨p.1, p.2, rfl⟩
                obtain ⟨mv, tv, hv2⟩ := fv
                have em : mksD v = mv := by
                  unfold mksD
                  rw [hv2]
                obtain ⟨rfl, _, _⟩ := hfD_of hv2
                have okv' := okv
                unfold okT at okv'
                have okv2 := okv'.2
                unfold okTs at okv2
                have okmv := okv2.1
                unfold okT at okmv
                have smv := okS_of okmv.2
                refine cl_filter (chk := none) PyData.str (fun z => !decide (z ∈ mv)) ms (by have := okm.1; rw [List.length_map] at this; omega) True.intro ?_ ?_
                · rintro z hz Ky Kn hy hn
                  simp only [okIn, flatD, List.any_cons, List.any_nil, eqv_str, eqv_int, eqv_ti, eqv_it, eqv_st, eqv_ts, cut1, Bool.or_false, Bool.or_true, Bool.and_self, Bool.and_true, Bool.and_false, Bool.false_or, Bool.true_or, and_self, ofs_inj, ofs_app, ofs_len, String.reduceEq, String.reduceNe, String.reduceAppend, decide_true, decide_false, Bool.not_true, Bool.not_false, sz0, sz1, sz2, sz3, sz4, sz5, sz6, sz7, sz8, sz9, sz10, sz11, sz12, sz13, sz14, sz15, sz16, sz17, sz18, sz19, sz20, sz21, sz22, sz23, sz24, sz25, cpow1018, true_and, and_true, Nat.reduceAdd, Nat.reduceLT, Nat.reduceSub, Int.reduceNe, Int.reduceEq, Int.reduceLT, Int.reduceLE, Int.reduceToNat, ne_eq, not_false_eq_true, List.length_map, Nat.lt_irrefl, dV_nx, dV_rt, at0, at1, at2, at3, ix20, ix21, vSeq, vIfS, vTest, vTruth, truth, v2, v1, vN, vCons, vNil, vStar, vVar, vC, xIx, Vl.opI0, Vl.opI, pk, vSet, vAug, vAsg, xgSub, vRet, vRetN, vDrop, vBreak, vCont, asD, asDs, opMod, opDiv, opMul2, Vl.opAdd, Vl.opAddO, opSub, opPow, opLt, Vl.opLe, opGt, Vl.opGe, xEq, okEq_str, okEq_int, xIn, okIn, inD, xIsN, isNone_n, isNone_t, isNone_l, isNone_i, isNone_s, isMo, mob, pkm, gModI, gDivI, gSubI, gMulI, gPowI, gGt, gLt, gLe, gGe, vNotT, vAndT, vOrT, vAndV, vOrV, opNot, opNotG, vIfE, opTup, opLst, opLstO, Vl.opLen, Vl.opInt, opList, opListO, opTuple, opII, gMax, gMin, vM, vM0, isT, xPop, Vl.opAppend, opExtend, opJoin, vgName, vgTup, vgCons, vgNil, kOpt_some, kOpn_some, kOps_some, Vl.opSum, Vl.opInsert, Vl.opIndex, opDivmod, vSl, vPart, vNoPart, opSl, opSlO, opRev, opCallK, ownD, ownO, objs, renum, uniq, getS, putS, vCall0, vFor, vForW, En.wk, vSeqI, vTupI, vRng1, vRng2, vRngD, vFn, vCallL, vOdd, vWays, vEnum, vZip, chkOf, vLcK, vYes, finD, finO, En.wipe, wipeE, En.trim, trimS, dropNone, clr_n, clr_v, clr_k, clr_o, wth, Vl.ret, takeS, startV,  List.map_cons, List.map_nil, List.length_cons, List.length_nil, List.cons_append, List.nil_append, List.replicate, List.getElem?_cons_succ, List.getElem?_cons_zero, List.getElem?_nil, List.set_cons_succ, List.set_cons_zero, List.set_nil, List.all_nil, List.all_cons, Bool.true_and, Option.map_some, Option.map_none, if_true, if_false, decide_eq_true_eq, Bool.false_eq_true, List.take_succ_cons, List.take_zero, List.take_nil, List.drop_succ_cons, List.drop_zero, List.drop_nil, reduceIte, reduceCtorEq]
                  have shz : SeqAt.shaped (PyData.str z) = true := by
                    unfold SeqAt.shaped
                    rw [can_str, sm z hz, depth_str]
                    rfl
                  refine ⟨⟨shz, shdS smv⟩, ?_⟩
                  have e : (List.any (mv.map PyData.str) fun x => x.eqv (.str z)) = decide (z ∈ mv) := inD_strs z mv
                  simp only [inD, e]
                  split
                  · rename_i h
                    exact hy h _ rfl
                  · rename_i h
                    exact hn (by simpa using h) _ rfl
                · have sf : ∀ x ∈ ms.filter (fun z => !decide (z ∈ mv)), PyData.strOk x = true := fun x hx => sm x (List.mem_filter.mp hx).1
                  refine ⟨okEq_of (shpS sf) (shpS (xs := []) fun x hx => by cases hx), ?_⟩
                  rw [eqv_nil]
                  have ea : ((ms.filter fun z => !decide (z ∈ mv)).map PyData.str).isEmpty = ms.all fun z => decide (z ∈ mv) := by
                    generalize ms = l
                    induction l with
                    | nil => rfl
                    | cons c l ih =>
                      rw [List.all_cons, List.filter_cons]
                      cases decide (c ∈ mv) with
                      | true =>
                        rw [if_neg (by decide), Bool.true_and]
                        exact ih
                      | false => rfl
                  rw [ea]
                  cases hb : ms.all fun z => decide (z ∈ mv) with
                  | false =>
                    rw [if_pos (by rfl)]
                    simp only [t_Listree_3, flatD, List.any_cons, List.any_nil, eqv_str, eqv_int, eqv_ti, eqv_it, eqv_st, eqv_ts, cut1, Bool.or_false, Bool.or_true, Bool.and_self, Bool.and_true, Bool.and_false, Bool.false_or, Bool.true_or, and_self, ofs_inj, ofs_app, ofs_len, String.reduceEq, String.reduceNe, String.reduceAppend, decide_true, decide_false, Bool.not_true, Bool.not_false, sz0, sz1, sz2, sz3, sz4, sz5, sz6, sz7, sz8, sz9, sz10, sz11, sz12, sz13, sz14, sz15, sz16, sz17, sz18, sz19, sz20, sz21, sz22, sz23, sz24, sz25, cpow1018, true_and, and_true, Nat.reduceAdd, Nat.reduceLT, Nat.reduceSub, Int.reduceNe, Int.reduceEq, Int.reduceLT, Int.reduceLE, Int.reduceToNat, ne_eq, not_false_eq_true, List.length_map, Nat.lt_irrefl, dV_nx, dV_rt, at0, at1, at2, at3, ix20, ix21, vSeq, vIfS, vTest, vTruth, truth, v2, v1, vN, vCons, vNil, vStar, vVar, vC, xIx, Vl.opI0, Vl.opI, pk, vSet, vAug, vAsg, xgSub, vRet, vRetN, vDrop, vBreak, vCont, asD, asDs, opMod, opDiv, opMul2, Vl.opAdd, Vl.opAddO, opSub, opPow, opLt, Vl.opLe, opGt, Vl.opGe, xEq, okEq_str, okEq_int, xIn, okIn, inD, xIsN, isNone_n, isNone_t, isNone_l, isNone_i, isNone_s, isMo, mob, pkm, gModI, gDivI, gSubI, gMulI, gPowI, gGt, gLt, gLe, gGe, vNotT, vAndT, vOrT, vAndV, vOrV, opNot, opNotG, vIfE, opTup, opLst, opLstO, Vl.opLen, Vl.opInt, opList, opListO, opTuple, opII, gMax, gMin, vM, vM0, isT, xPop, Vl.opAppend, opExtend, opJoin, vgName, vgTup, vgCons, vgNil, kOpt_some, kOpn_some, kOps_some, Vl.opSum, Vl.opInsert, Vl.opIndex, opDivmod, vSl, vPart, vNoPart, opSl, opSlO, opRev, opCallK, ownD, ownO, objs, renum, uniq, getS, putS, vCall0, vFor, vForW, En.wk, vSeqI, vTupI, vRng1, vRng2, vRngD, vFn, vCallL, vOdd, vWays, vEnum, vZip, chkOf, vLcK, vYes, finD, finO, En.wipe, wipeE, En.trim, trimS, dropNone, clr_n, clr_v, clr_k, clr_o, wth, Vl.ret, takeS, startV,  List.map_cons, List.map_nil, List.length_cons, List.length_nil, List.cons_append, List.nil_append, List.replicate, List.getElem?_cons_succ, List.getElem?_cons_zero, List.getElem?_nil, List.set_cons_succ, List.set_cons_zero, List.set_nil, List.all_nil, List.all_cons, Bool.true_and, Option.map_some, Option.map_none, if_true, if_false, decide_eq_true_eq, Bool.false_eq_true, List.take_succ_cons, List.take_zero, List.take_nil, List.drop_succ_cons, List.drop_zero, List.drop_nil, reduceIte, reduceCtorEq]
                    exact bad (by rw [em, hb, Bool.and_false])
                  | true =>
                    rw [if_neg (by decide), vNext_mk]
                    exact hk2 _ 0 [] (Nat.le_refl _) ⟨by rw [List.all_append, hall, List.all_cons, hv, em, hb]; rfl, _, _, rfl⟩
            · rintro e ⟨hall, x, y, rfl⟩
              simp only [t_Listree_5, flatD, List.any_cons, List.any_nil, eqv_str, eqv_int, eqv_ti, eqv_it, eqv_st, eqv_ts, cut1, Bool.or_false, Bool.or_true, Bool.and_self, Bool.and_true, Bool.and_false, Bool.false_or, Bool.true_or, and_self, ofs_inj, ofs_app, ofs_len, String.reduceEq, String.reduceNe, String.reduceAppend, decide_true, decide_false, Bool.not_true, Bool.not_false, sz0, sz1, sz2, sz3, sz4, sz5, sz6, sz7, sz8, sz9, sz10, sz11, sz12, sz13, sz14, sz15, sz16, sz17, sz18, sz19, sz20, sz21, sz22, sz23, sz24, sz25, cpow1018, true_and, and_true, Nat.reduceAdd, Nat.reduceLT, Nat.reduceSub, Int.reduceNe, Int.reduceEq, Int.reduceLT, Int.reduceLE, Int.reduceToNat, ne_eq, not_false_eq_true, List.length_map, Nat.lt_irrefl, dV_nx, dV_rt, at0, at1, at2, at3, ix20, ix21, vSeq, vIfS, vTest, vTruth, truth, v2, v1, vN, vCons, vNil, vStar, vVar, vC, xIx, Vl.opI0, Vl.opI, pk, vSet, vAug, vAsg, xgSub, vRet, vRetN, vDrop, vBreak, vCont, asD, asDs, opMod, opDiv, opMul2, Vl.opAdd, Vl.opAddO, opSub, opPow, opLt, Vl.opLe, opGt, Vl.opGe, xEq, okEq_str, okEq_int, xIn, okIn, inD, xIsN, isNone_n, isNone_t, isNone_l, isNone_i, isNone_s, isMo, mob, pkm, gModI, gDivI, gSubI, gMulI, gPowI, gGt, gLt, gLe, gGe, vNotT, vAndT, vOrT, vAndV, vOrV, opNot, opNotG, vIfE, opTup, opLst, opLstO, Vl.opLen, Vl.opInt, opList, opListO, opTuple, opII, gMax, gMin, vM, vM0, isT, xPop, Vl.opAppend, opExtend, opJoin, vgName, vgTup, vgCons, vgNil, kOpt_some, kOpn_some, kOps_some, Vl.opSum, Vl.opInsert, Vl.opIndex, opDivmod, vSl, vPart, vNoPart, opSl, opSlO, opRev, opCallK, ownD, ownO, objs, renum, uniq, getS, putS, vCall0, vFor, vForW, En.wk, vSeqI, vTupI, vRng1, vRng2, vRngD, vFn, vCallL, vOdd, vWays, vEnum, vZip, chkOf, vLcK, vYes, finD, finO, En.wipe, wipeE, En.trim, trimS, dropNone, clr_n, clr_v, clr_k, clr_o, wth, Vl.ret, takeS, startV,  List.map_cons, List.map_nil, List.length_cons, List.length_nil, List.cons_append, List.nil_append, List.replicate, List.getElem?_cons_succ, List.getElem?_cons_zero, List.getElem?_nil, List.set_cons_succ, List.set_cons_zero, List.set_nil, List.all_nil, List.all_cons, Bool.true_and, Option.map_some, Option.map_none, if_true, if_false, decide_eq_true_eq, Bool.false_eq_true, List.take_succ_cons, List.take_zero, List.take_nil, List.drop_succ_cons, List.drop_zero, List.drop_nil, reduceIte, reduceCtorEq]
              rw [hall] at q
              exact q
          · have hb' : isLs b = false := by simpa using hb
            rw [hb', if_pos (by decide)]
            simp only [t_Listree_2, flatD, List.any_cons, List.any_nil, eqv_str, eqv_int, eqv_ti, eqv_it, eqv_st, eqv_ts, cut1, Bool.or_false, Bool.or_true, Bool.and_self, Bool.and_true, Bool.and_false, Bool.false_or, Bool.true_or, and_self, ofs_inj, ofs_app, ofs_len, String.reduceEq, String.reduceNe, String.reduceAppend, decide_true, decide_false, Bool.not_true, Bool.not_false, sz0, sz1, sz2, sz3, sz4, sz5, sz6, sz7, sz8, sz9, sz10, sz11, sz12, sz13, sz14, sz15, sz16, sz17, sz18, sz19, sz20, sz21, sz22, sz23, sz24, sz25, cpow1018, true_and, and_true, Nat.reduceAdd, Nat.reduceLT, Nat.reduceSub, Int.reduceNe, Int.reduceEq, Int.reduceLT, Int.reduceLE, Int.reduceToNat, ne_eq, not_false_eq_true, List.length_map, Nat.lt_irrefl, dV_nx, dV_rt, at0, at1, at2, at3, ix20, ix21, vSeq, vIfS, vTest, vTruth, truth, v2, v1, vN, vCons, vNil, vStar, vVar, vC, xIx, Vl.opI0, Vl.opI, pk, vSet, vAug, vAsg, xgSub, vRet, vRetN, vDrop, vBreak, vCont, asD, asDs, opMod, opDiv, opMul2, Vl.opAdd, Vl.opAddO, opSub, opPow, opLt, Vl.opLe, opGt, Vl.opGe, xEq, okEq_str, okEq_int, xIn, okIn, inD, xIsN, isNone_n, isNone_t, isNone_l, isNone_i, isNone_s, isMo, mob, pkm, gModI, gDivI, gSubI, gMulI, gPowI, gGt, gLt, gLe, gGe, vNotT, vAndT, vOrT, vAndV, vOrV, opNot, opNotG, vIfE, opTup, opLst, opLstO, Vl.opLen, Vl.opInt, opList, opListO, opTuple, opII, gMax, gMin, vM, vM0, isT, xPop, Vl.opAppend, opExtend, opJoin, vgName, vgTup, vgCons, vgNil, kOpt_some, kOpn_some, kOps_some, Vl.opSum, Vl.opInsert, Vl.opIndex, opDivmod, vSl, vPart, vNoPart, opSl, opSlO, opRev, opCallK, ownD, ownO, objs, renum, uniq, getS, putS, vCall0, vFor, vForW, En.wk, vSeqI, vTupI, vRng1, vRng2, vRngD, vFn, vCallL, vOdd, vWays, vEnum, vZip, chkOf, vLcK, vYes, finD, finO, En.wipe, wipeE, En.trim, trimS, dropNone, clr_n, clr_v, clr_k, clr_o, wth, Vl.ret, takeS, startV,  List.map_cons, List.map_nil, List.length_cons, List.length_nil, List.cons_append, List.nil_append, List.replicate, List.getElem?_cons_succ, List.getElem?_cons_zero, List.getElem?_nil, List.set_cons_succ, List.set_cons_zero, List.set_nil, List.all_nil, List.all_cons, Bool.true_and, Option.map_some, Option.map_none, if_true, if_false, decide_eq_true_eq, Bool.false_eq_true, List.take_succ_cons, List.take_zero, List.take_nil, List.drop_succ_cons, List.drop_zero, List.drop_nil, reduceIte, reduceCtorEq]
            exact no (hfD_two (.inr hb'))
      · simp only [flatD, List.any_cons, List.any_nil, eqv_str, eqv_int, eqv_ti, eqv_it, eqv_st, eqv_ts, cut1, Bool.or_false, Bool.or_true, Bool.and_self, Bool.and_true, Bool.and_false, Bool.false_or, Bool.true_or, and_self, ofs_inj, ofs_app, ofs_len, String.reduceEq, String.reduceNe, String.reduceAppend, decide_true, decide_false, Bool.not_true, Bool.not_false, sz0, sz1, sz2, sz3, sz4, sz5, sz6, sz7, sz8, sz9, sz10, sz11, sz12, sz13, sz14, sz15, sz16, sz17, sz18, sz19, sz20, sz21, sz22, sz23, sz24, sz25, cpow1018, true_and, and_true, Nat.reduceAdd, Nat.reduceLT, Nat.reduceSub, Int.reduceNe, Int.reduceEq, Int.reduceLT, Int.reduceLE, Int.reduceToNat, ne_eq, not_false_eq_true, List.length_map, Nat.lt_irrefl, dV_nx, dV_rt, at0, at1, at2, at3, ix20, ix21, vSeq, vIfS, vTest, vTruth, truth, v2, v1, vN, vCons, vNil, vStar, vVar, vC, xIx, Vl.opI0, Vl.opI, pk, vSet, vAug, vAsg, xgSub, vRet, vRetN, vDrop, vBreak, vCont, asD, asDs, opMod, opDiv, opMul2, Vl.opAdd, Vl.opAddO, opSub, opPow, opLt, Vl.opLe, opGt, Vl.opGe, xEq, okEq_str, okEq_int, xIn, okIn, inD, xIsN, isNone_n, isNone_t, isNone_l, isNone_i, isNone_s, isMo, mob, pkm, gModI, gDivI, gSubI, gMulI, gPowI, gGt, gLt, gLe, gGe, vNotT, vAndT, vOrT, vAndV, vOrV, opNot, opNotG, vIfE, opTup, opLst, opLstO, Vl.opLen, Vl.opInt, opList, opListO, opTuple, opII, gMax, gMin, vM, vM0, isT, xPop, Vl.opAppend, opExtend, opJoin, vgName, vgTup, vgCons, vgNil, kOpt_some, kOpn_some, kOps_some, Vl.opSum, Vl.opInsert, Vl.opIndex, opDivmod, vSl, vPart, vNoPart, opSl, opSlO, opRev, opCallK, ownD, ownO, objs, renum, uniq, getS, putS, vCall0, vFor, vForW, En.wk, vSeqI, vTupI, vRng1, vRng2, vRngD, vFn, vCallL, vOdd, vWays, vEnum, vZip, chkOf, vLcK, vYes, finD, finO, En.wipe, wipeE, En.trim, trimS, dropNone, clr_n, clr_v, clr_k, clr_o, wth, Vl.ret, takeS, startV,  List.map_cons, List.map_nil, List.length_cons, List.length_nil, List.cons_append, List.nil_append, List.replicate, List.getElem?_cons_succ, List.getElem?_cons_zero, List.getElem?_nil, List.set_cons_succ, List.set_cons_zero, List.set_nil, List.all_nil, List.all_cons, Bool.true_and, Option.map_some, Option.map_none, if_true, if_false, decide_eq_true_eq, Bool.false_eq_true, List.take_succ_cons, List.take_zero, List.take_nil, List.drop_succ_cons, List.drop_zero, List.drop_nil, reduceIte, reduceCtorEq]
        rw [if_pos (by rw [decide_eq_false (by omega)]; rfl)]
        simp only [t_Listree_1, flatD, List.any_cons, List.any_nil, eqv_str, eqv_int, eqv_ti, eqv_it, eqv_st, eqv_ts, cut1, Bool.or_false, Bool.or_true, Bool.and_self, Bool.and_true, Bool.and_false, Bool.false_or, Bool.true_or, and_self, ofs_inj, ofs_app, ofs_len, String.reduceEq, String.reduceNe, String.reduceAppend, decide_true, decide_false, Bool.not_true, Bool.not_false, sz0, sz1, sz2, sz3, sz4, sz5, sz6, sz7, sz8, sz9, sz10, sz11, sz12, sz13, sz14, sz15, sz16, sz17, sz18, sz19, sz20, sz21, sz22, sz23, sz24, sz25, cpow1018, true_and, and_true, Nat.reduceAdd, Nat.reduceLT, Nat.reduceSub, Int.reduceNe, Int.reduceEq, Int.reduceLT, Int.reduceLE, Int.reduceToNat, ne_eq, not_false_eq_true, List.length_map, Nat.lt_irrefl, dV_nx, dV_rt, at0, at1, at2, at3, ix20, ix21, vSeq, vIfS, vTest, vTruth, truth, v2, v1, vN, vCons, vNil, vStar, vVar, vC, xIx, Vl.opI0, Vl.opI, pk, vSet, vAug, vAsg, xgSub, vRet, vRetN, vDrop, vBreak, vCont, asD, asDs, opMod, opDiv, opMul2, Vl.opAdd, Vl.opAddO, opSub, opPow, opLt, Vl.opLe, opGt, Vl.opGe, xEq, okEq_str, okEq_int, xIn, okIn, inD, xIsN, isNone_n, isNone_t, isNone_l, isNone_i, isNone_s, isMo, mob, pkm, gModI, gDivI, gSubI, gMulI, gPowI, gGt, gLt, gLe, gGe, vNotT, vAndT, vOrT, vAndV, vOrV, opNot, opNotG, vIfE, opTup, opLst, opLstO, Vl.opLen, Vl.opInt, opList, opListO, opTuple, opII, gMax, gMin, vM, vM0, isT, xPop, Vl.opAppend, opExtend, opJoin, vgName, vgTup, vgCons, vgNil, kOpt_some, kOpn_some, kOps_some, Vl.opSum, Vl.opInsert, Vl.opIndex, opDivmod, vSl, vPart, vNoPart, opSl, opSlO, opRev, opCallK, ownD, ownO, objs, renum, uniq, getS, putS, vCall0, vFor, vForW, En.wk, vSeqI, vTupI, vRng1, vRng2, vRngD, vFn, vCallL, vOdd, vWays, vEnum, vZip, chkOf, vLcK, vYes, finD, finO, En.wipe, wipeE, En.trim, trimS, dropNone, clr_n, clr_v, clr_k, clr_o, wth, Vl.ret, takeS, startV,  List.map_cons, List.map_nil, List.length_cons, List.length_nil, List.cons_append, List.nil_append, List.replicate, List.getElem?_cons_succ, List.getElem?_cons_zero, List.getElem?_nil, List.set_cons_succ, List.set_cons_zero, List.set_nil, List.all_nil, List.all_cons, Bool.true_and, Option.map_some, Option.map_none, if_true, if_false, decide_eq_true_eq, Bool.false_eq_true, List.take_succ_cons, List.take_zero, List.take_nil, List.drop_succ_cons, List.drop_zero, List.drop_nil, reduceIte, reduceCtorEq]
        exact no (hfD_len hl)
    · have ht' : isTp d = false := by simpa using ht
      rw [ht', if_pos (by decide)]
      simp only [t_Listree_1, flatD, List.any_cons, List.any_nil, eqv_str, eqv_int, eqv_ti, eqv_it, eqv_st, eqv_ts, cut1, Bool.or_false, Bool.or_true, Bool.and_self, Bool.and_true, Bool.and_false, Bool.false_or, Bool.true_or, and_self, ofs_inj, ofs_app, ofs_len, String.reduceEq, String.reduceNe, String.reduceAppend, decide_true, decide_false, Bool.not_true, Bool.not_false, sz0, sz1, sz2, sz3, sz4, sz5, sz6, sz7, sz8, sz9, sz10, sz11, sz12, sz13, sz14, sz15, sz16, sz17, sz18, sz19, sz20, sz21, sz22, sz23, sz24, sz25, cpow1018, true_and, and_true, Nat.reduceAdd, Nat.reduceLT, Nat.reduceSub, Int.reduceNe, Int.reduceEq, Int.reduceLT, Int.reduceLE, Int.reduceToNat, ne_eq, not_false_eq_true, List.length_map, Nat.lt_irrefl, dV_nx, dV_rt, at0, at1, at2, at3, ix20, ix21, vSeq, vIfS, vTest, vTruth, truth, v2, v1, vN, vCons, vNil, vStar, vVar, vC, xIx, Vl.opI0, Vl.opI, pk, vSet, vAug, vAsg, xgSub, vRet, vRetN, vDrop, vBreak, vCont, asD, asDs, opMod, opDiv, opMul2, Vl.opAdd, Vl.opAddO, opSub, opPow, opLt, Vl.opLe, opGt, Vl.opGe, xEq, okEq_str, okEq_int, xIn, okIn, inD, xIsN, isNone_n, isNone_t, isNone_l, isNone_i, isNone_s, isMo, mob, pkm, gModI, gDivI, gSubI, gMulI, gPowI, gGt, gLt, gLe, gGe, vNotT, vAndT, vOrT, vAndV, vOrV, opNot, opNotG, vIfE, opTup, opLst, opLstO, Vl.opLen, Vl.opInt, opList, opListO, opTuple, opII, gMax, gMin, vM, vM0, isT, xPop, Vl.opAppend, opExtend, opJoin, vgName, vgTup, vgCons, vgNil, kOpt_some, kOpn_some, kOps_some, Vl.opSum, Vl.opInsert, Vl.opIndex, opDivmod, vSl, vPart, vNoPart, opSl, opSlO, opRev, opCallK, ownD, ownO, objs, renum, uniq, getS, putS, vCall0, vFor, vForW, En.wk, vSeqI, vTupI, vRng1, vRng2, vRngD, vFn, vCallL, vOdd, vWays, vEnum, vZip, chkOf, vLcK, vYes, finD, finO, En.wipe, wipeE, En.trim, trimS, dropNone, clr_n, clr_v, clr_k, clr_o, wth, Vl.ret, takeS, startV,  List.map_cons, List.map_nil, List.length_cons, List.length_nil, List.cons_append, List.nil_append, List.replicate, List.getElem?_cons_succ, List.getElem?_cons_zero, List.getElem?_nil, List.set_cons_succ, List.set_cons_zero, List.set_nil, List.all_nil, List.all_cons, Bool.true_and, Option.map_some, Option.map_none, if_true, if_false, decide_eq_true_eq, Bool.false_eq_true, List.take_succ_cons, List.take_zero, List.take_nil, List.drop_succ_cons, List.drop_zero, List.drop_nil, reduceIte, reduceCtorEq]
      refine no ?_
      unfold hfD
      split
      · cases ht'
      · rfl
def pAllT (N : Nat) : VSp := fun ss st Kp => ∃ (d : D) (n : Nat) (b : List Str), n < N ∧ isTr n b d = true ∧ wn n d ≤ 1000000 ∧ ss = [.val d] ∧ st = [] ∧ ∀ ws : List D, ws.length = wn n d → Kp (.val (.list ws)) []
theorem r_AllT {N : Nat} {ss cs Kp} (h : pAllT (N + 1) ss cs Kp) : t_Lallv4 (pAllT N) (dV cs.length Kp) ⟨startV 3 ss, cs.map some⟩ := by
  obtain ⟨d, n, b, hN, ht, hw, rfl, rfl, q⟩ := h
  obtain ⟨m, ms, ts, rfl, he, h3, h4⟩ := isTr_inv ht
  obtain ⟨rfl, _, _⟩ := hfD_of he
  rw [wn_at he] at hw q
  simp only [t_Lallv4, t_Lallv4_4, t_Lallv4_3, flatD, List.any_cons, List.any_nil, eqv_str, eqv_int, eqv_ti, eqv_it, eqv_st, eqv_ts, cut1, Bool.or_false, Bool.or_true, Bool.and_self, Bool.and_true, Bool.and_false, Bool.false_or, Bool.true_or, and_self, ofs_inj, ofs_app, ofs_len, String.reduceEq, String.reduceNe, String.reduceAppend, decide_true, decide_false, Bool.not_true, Bool.not_false, sz0, sz1, sz2, sz3, sz4, sz5, sz6, sz7, sz8, sz9, sz10, sz11, sz12, sz13, sz14, sz15, sz16, sz17, sz18, sz19, sz20, sz21, sz22, sz23, sz24, sz25, cpow1018, true_and, and_true, Nat.reduceAdd, Nat.reduceLT, Nat.reduceSub, Int.reduceNe, Int.reduceEq, Int.reduceLT, Int.reduceLE, Int.reduceToNat, ne_eq, not_false_eq_true, List.length_map, Nat.lt_irrefl, dV_nx, dV_rt, at0, at1, at2, at3, ix20, ix21, vSeq, vIfS, vTest, vTruth, truth, v2, v1, vN, vCons, vNil, vStar, vVar, vC, xIx, Vl.opI0, Vl.opI, pk, vSet, vAug, vAsg, xgSub, vRet, vRetN, vDrop, vBreak, vCont, asD, asDs, opMod, opDiv, opMul2, Vl.opAdd, Vl.opAddO, opSub, opPow, opLt, Vl.opLe, opGt, Vl.opGe, xEq, okEq_str, okEq_int, xIn, okIn, inD, xIsN, isNone_n, isNone_t, isNone_l, isNone_i, isNone_s, isMo, mob, pkm, gModI, gDivI, gSubI, gMulI, gPowI, gGt, gLt, gLe, gGe, vNotT, vAndT, vOrT, vAndV, vOrV, opNot, opNotG, vIfE, opTup, opLst, opLstO, Vl.opLen, Vl.opInt, opList, opListO, opTuple, opII, gMax, gMin, vM, vM0, isT, xPop, Vl.opAppend, opExtend, opJoin, vgName, vgTup, vgCons, vgNil, kOpt_some, kOpn_some, kOps_some, Vl.opSum, Vl.opInsert, Vl.opIndex, opDivmod, vSl, vPart, vNoPart, opSl, opSlO, opRev, opCallK, ownD, ownO, objs, renum, uniq, getS, putS, vCall0, vFor, vForW, En.wk, vSeqI, vTupI, vRng1, vRng2, vRngD, vFn, vCallL, vOdd, vWays, vEnum, vZip, chkOf, vLcK, vYes, finD, finO, En.wipe, wipeE, En.trim, trimS, dropNone, clr_n, clr_v, clr_k, clr_o, wth, Vl.ret, takeS, startV,  List.map_cons, List.map_nil, List.length_cons, List.length_nil, List.cons_append, List.nil_append, List.replicate, List.getElem?_cons_succ, List.getElem?_cons_zero, List.getElem?_nil, List.set_cons_succ, List.set_cons_zero, List.set_nil, List.all_nil, List.all_cons, Bool.true_and, Option.map_some, Option.map_none, if_true, if_false, decide_eq_true_eq, Bool.false_eq_true, List.take_succ_cons, List.take_zero, List.take_nil, List.drop_succ_cons, List.drop_zero, List.drop_nil, reduceIte, reduceCtorEq]
  have part : ∀ ys zs : List D, ts = ys ++ zs → (ys.map (wn m)).sum ≤ (ts.map (wn m)).sum := fun ys zs h => by
    rw [h, List.map_append, List.sum_append]
    omega
  refine fl_invD (chk := none) ts (fun ys e => ∃ (ws : List D) (x : Option Sl), e = ⟨[some (.val (.tuple [.list (ms.map .str), .list ts])), some (.val (.list ws)), x], []⟩ ∧ ws.length = 1 + (ys.map (wn m)).sum) (fun _ _ _ => trivial) ?_ ?_ ⟨_, _, rfl, rfl⟩
  · rintro ys v zs e Nx2 hys ⟨ws, x, rfl, hl⟩ hk2
    have le := part (ys ++ [v]) zs (by rw [hys]; simp)
    rw [List.map_append, List.sum_append, List.map_singleton, List.sum_singleton] at le
    simp only [t_Lallv4_1, flatD, List.any_cons, List.any_nil, eqv_str, eqv_int, eqv_ti, eqv_it, eqv_st, eqv_ts, cut1, Bool.or_false, Bool.or_true, Bool.and_self, Bool.and_true, Bool.and_false, Bool.false_or, Bool.true_or, and_self, ofs_inj, ofs_app, ofs_len, String.reduceEq, String.reduceNe, String.reduceAppend, decide_true, decide_false, Bool.not_true, Bool.not_false, sz0, sz1, sz2, sz3, sz4, sz5, sz6, sz7, sz8, sz9, sz10, sz11, sz12, sz13, sz14, sz15, sz16, sz17, sz18, sz19, sz20, sz21, sz22, sz23, sz24, sz25, cpow1018, true_and, and_true, Nat.reduceAdd, Nat.reduceLT, Nat.reduceSub, Int.reduceNe, Int.reduceEq, Int.reduceLT, Int.reduceLE, Int.reduceToNat, ne_eq, not_false_eq_true, List.length_map, Nat.lt_irrefl, dV_nx, dV_rt, at0, at1, at2, at3, ix20, ix21, vSeq, vIfS, vTest, vTruth, truth, v2, v1, vN, vCons, vNil, vStar, vVar, vC, xIx, Vl.opI0, Vl.opI, pk, vSet, vAug, vAsg, xgSub, vRet, vRetN, vDrop, vBreak, vCont, asD, asDs, opMod, opDiv, opMul2, Vl.opAdd, Vl.opAddO, opSub, opPow, opLt, Vl.opLe, opGt, Vl.opGe, xEq, okEq_str, okEq_int, xIn, okIn, inD, xIsN, isNone_n, isNone_t, isNone_l, isNone_i, isNone_s, isMo, mob, pkm, gModI, gDivI, gSubI, gMulI, gPowI, gGt, gLt, gLe, gGe, vNotT, vAndT, vOrT, vAndV, vOrV, opNot, opNotG, vIfE, opTup, opLst, opLstO, Vl.opLen, Vl.opInt, opList, opListO, opTuple, opII, gMax, gMin, vM, vM0, isT, xPop, Vl.opAppend, opExtend, opJoin, vgName, vgTup, vgCons, vgNil, kOpt_some, kOpn_some, kOps_some, Vl.opSum, Vl.opInsert, Vl.opIndex, opDivmod, vSl, vPart, vNoPart, opSl, opSlO, opRev, opCallK, ownD, ownO, objs, renum, uniq, getS, putS, vCall0, vFor, vForW, En.wk, vSeqI, vTupI, vRng1, vRng2, vRngD, vFn, vCallL, vOdd, vWays, vEnum, vZip, chkOf, vLcK, vYes, finD, finO, En.wipe, wipeE, En.trim, trimS, dropNone, clr_n, clr_v, clr_k, clr_o, wth, Vl.ret, takeS, startV,  List.map_cons, List.map_nil, List.length_cons, List.length_nil, List.cons_append, List.nil_append, List.replicate, List.getElem?_cons_succ, List.getElem?_cons_zero, List.getElem?_nil, List.set_cons_succ, List.set_cons_zero, List.set_nil, List.all_nil, List.all_cons, Bool.true_and, Option.map_some, Option.map_none, if_true, if_false, decide_eq_true_eq, Bool.false_eq_true, List.take_succ_cons, List.take_zero, List.take_nil, List.drop_succ_cons, List.drop_zero, List.drop_nil, reduceIte, reduceCtorEq]
    refine ⟨v, m, ms, by omega, h4 v (by rw [hys]; simp), by omega, rfl, rfl, fun vs hv => ?_⟩
    simp only [flatD, List.any_cons, List.any_nil, eqv_str, eqv_int, eqv_ti, eqv_it, eqv_st, eqv_ts, cut1, Bool.or_false, Bool.or_true, Bool.and_self, Bool.and_true, Bool.and_false, Bool.false_or, Bool.true_or, and_self, ofs_inj, ofs_app, ofs_len, String.reduceEq, String.reduceNe, String.reduceAppend, decide_true, decide_false, Bool.not_true, Bool.not_false, sz0, sz1, sz2, sz3, sz4, sz5, sz6, sz7, sz8, sz9, sz10, sz11, sz12, sz13, sz14, sz15, sz16, sz17, sz18, sz19, sz20, sz21, sz22, sz23, sz24, sz25, cpow1018, true_and, and_true, Nat.reduceAdd, Nat.reduceLT, Nat.reduceSub, Int.reduceNe, Int.reduceEq, Int.reduceLT, Int.reduceLE, Int.reduceToNat, ne_eq, not_false_eq_true, List.length_map, Nat.lt_irrefl, dV_nx, dV_rt, at0, at1, at2, at3, ix20, ix21, vSeq, vIfS, vTest, vTruth, truth, v2, v1, vN, vCons, vNil, vStar, vVar, vC, xIx, Vl.opI0, Vl.opI, pk, vSet, vAug, vAsg, xgSub, vRet, vRetN, vDrop, vBreak, vCont, asD, asDs, opMod, opDiv, opMul2, Vl.opAdd, Vl.opAddO, opSub, opPow, opLt, Vl.opLe, opGt, Vl.opGe, xEq, okEq_str, okEq_int, xIn, okIn, inD, xIsN, isNone_n, isNone_t, isNone_l, isNone_i, isNone_s, isMo, mob, pkm, gModI, gDivI, gSubI, gMulI, gPowI, gGt, gLt, gLe, gGe, vNotT, vAndT, vOrT, vAndV, vOrV, opNot, opNotG, vIfE, opTup, opLst, opLstO, Vl.opLen, Vl.opInt, opList, opListO, opTuple, opII, gMax, gMin, vM, vM0, isT, xPop, Vl.opAppend, opExtend, opJoin, vgName, vgTup, vgCons, vgNil, kOpt_some, kOpn_some, kOps_some, Vl.opSum, Vl.opInsert, Vl.opIndex, opDivmod, vSl, vPart, vNoPart, opSl, opSlO, opRev, opCallK, ownD, ownO, objs, renum, uniq, getS, putS, vCall0, vFor, vForW, En.wk, vSeqI, vTupI, vRng1, vRng2, vRngD, vFn, vCallL, vOdd, vWays, vEnum, vZip, chkOf, vLcK, vYes, finD, finO, En.wipe, wipeE, En.trim, trimS, dropNone, clr_n, clr_v, clr_k, clr_o, wth, Vl.ret, takeS, startV,  List.map_cons, List.map_nil, List.length_cons, List.length_nil, List.cons_append, List.nil_append, List.replicate, List.getElem?_cons_succ, List.getElem?_cons_zero, List.getElem?_nil, List.set_cons_succ, List.set_cons_zero, List.set_nil, List.all_nil, List.all_cons, Bool.true_and, Option.map_some, Option.map_none, if_true, if_false, decide_eq_true_eq, Bool.false_eq_true, List.take_succ_cons, List.take_zero, List.take_nil, List.drop_succ_cons, List.drop_zero, List.drop_nil, reduceIte, reduceCtorEq]
    refine ⟨big (by omega), hk2 _ 0 [] (Nat.le_refl _) ⟨ws ++ vs, _, rfl, ?_⟩⟩
    rw [List.length_append, List.map_append, List.sum_append, List.map_singleton, List.sum_singleton]
    omega
  · rintro e ⟨ws, x, rfl, hl⟩
    simp only [t_Lallv4_2, flatD, List.any_cons, List.any_nil, eqv_str, eqv_int, eqv_ti, eqv_it, eqv_st, eqv_ts, cut1, Bool.or_false, Bool.or_true, Bool.and_self, Bool.and_true, Bool.and_false, Bool.false_or, Bool.true_or, and_self, ofs_inj, ofs_app, ofs_len, String.reduceEq, String.reduceNe, String.reduceAppend, decide_true, decide_false, Bool.not_true, Bool.not_false, sz0, sz1, sz2, sz3, sz4, sz5, sz6, sz7, sz8, sz9, sz10, sz11, sz12, sz13, sz14, sz15, sz16, sz17, sz18, sz19, sz20, sz21, sz22, sz23, sz24, sz25, cpow1018, true_and, and_true, Nat.reduceAdd, Nat.reduceLT, Nat.reduceSub, Int.reduceNe, Int.reduceEq, Int.reduceLT, Int.reduceLE, Int.reduceToNat, ne_eq, not_false_eq_true, List.length_map, Nat.lt_irrefl, dV_nx, dV_rt, at0, at1, at2, at3, ix20, ix21, vSeq, vIfS, vTest, vTruth, truth, v2, v1, vN, vCons, vNil, vStar, vVar, vC, xIx, Vl.opI0, Vl.opI, pk, vSet, vAug, vAsg, xgSub, vRet, vRetN, vDrop, vBreak, vCont, asD, asDs, opMod, opDiv, opMul2, Vl.opAdd, Vl.opAddO, opSub, opPow, opLt, Vl.opLe, opGt, Vl.opGe, xEq, okEq_str, okEq_int, xIn, okIn, inD, xIsN, isNone_n, isNone_t, isNone_l, isNone_i, isNone_s, isMo, mob, pkm, gModI, gDivI, gSubI, gMulI, gPowI, gGt, gLt, gLe, gGe, vNotT, vAndT, vOrT, vAndV, vOrV, opNot, opNotG, vIfE, opTup, opLst, opLstO, Vl.opLen, Vl.opInt, opList, opListO, opTuple, opII, gMax, gMin, vM, vM0, isT, xPop, Vl.opAppend, opExtend, opJoin, vgName, vgTup, vgCons, vgNil, kOpt_some, kOpn_some, kOps_some, Vl.opSum, Vl.opInsert, Vl.opIndex, opDivmod, vSl, vPart, vNoPart, opSl, opSlO, opRev, opCallK, ownD, ownO, objs, renum, uniq, getS, putS, vCall0, vFor, vForW, En.wk, vSeqI, vTupI, vRng1, vRng2, vRngD, vFn, vCallL, vOdd, vWays, vEnum, vZip, chkOf, vLcK, vYes, finD, finO, En.wipe, wipeE, En.trim, trimS, dropNone, clr_n, clr_v, clr_k, clr_o, wth, Vl.ret, takeS, startV,  List.map_cons, List.map_nil, List.length_cons, List.length_nil, List.cons_append, List.nil_append, List.replicate, List.getElem?_cons_succ, List.getElem?_cons_zero, List.getElem?_nil, List.set_cons_succ, List.set_cons_zero, List.set_nil, List.all_nil, List.all_cons, Bool.true_and, Option.map_some, Option.map_none, if_true, if_false, decide_eq_true_eq, Bool.false_eq_true, List.take_succ_cons, List.take_zero, List.take_nil, List.drop_succ_cons, List.drop_zero, List.drop_nil, reduceIte, reduceCtorEq]
    exact q ws hl
mutual
/-- how deep, of any thing -/
def dpT : D → Nat
  | .list ds => 1 + dpTs ds
  | .tuple ds => 1 + dpTs ds
  | _ => 0
def dpTs : List D → Nat
  | [] => 0
  | d :: ds => max (dpT d) (dpTs ds)
end
theorem dpTs_mem : ∀ {ds : List D} {d : D}, d ∈ ds → dpT d ≤ dpTs ds
  | x :: ds, d, h => by
    unfold dpTs
    rcases List.mem_cons.mp h with rfl | h
    · omega
    · have := dpTs_mem h
      omega
def pCop (N : Nat) : VSp := fun ss st Kp => ∃ d : D, dpT d < N ∧ okT d ∧ ss = [.val d] ∧ st = [] ∧ Kp (.val d) []
theorem r_Cop {N : Nat} {ss cs Kp} (h : pCop (N + 1) ss cs Kp) : t_Lcopied (pCop N) (dV cs.length Kp) ⟨startV 2 ss, cs.map some⟩ := by
  obtain ⟨d, hN, ok, rfl, rfl, q⟩ := h
  simp only [t_Lcopied, t_Lcopied_5, vIsi, flatD, List.any_cons, List.any_nil, eqv_str, eqv_int, eqv_ti, eqv_it, eqv_st, eqv_ts, cut1, Bool.or_false, Bool.or_true, Bool.and_self, Bool.and_true, Bool.and_false, Bool.false_or, Bool.true_or, and_self, ofs_inj, ofs_app, ofs_len, String.reduceEq, String.reduceNe, String.reduceAppend, decide_true, decide_false, Bool.not_true, Bool.not_false, sz0, sz1, sz2, sz3, sz4, sz5, sz6, sz7, sz8, sz9, sz10, sz11, sz12, sz13, sz14, sz15, sz16, sz17, sz18, sz19, sz20, sz21, sz22, sz23, sz24, sz25, cpow1018, true_and, and_true, Nat.reduceAdd, Nat.reduceLT, Nat.reduceSub, Int.reduceNe, Int.reduceEq, Int.reduceLT, Int.reduceLE, Int.reduceToNat, ne_eq, not_false_eq_true, List.length_map, Nat.lt_irrefl, dV_nx, dV_rt, at0, at1, at2, at3, ix20, ix21, vSeq, vIfS, vTest, vTruth, truth, v2, v1, vN, vCons, vNil, vStar, vVar, vC, xIx, Vl.opI0, Vl.opI, pk, vSet, vAug, vAsg, xgSub, vRet, vRetN, vDrop, vBreak, vCont, asD, asDs, opMod, opDiv, opMul2, Vl.opAdd, Vl.opAddO, opSub, opPow, opLt, Vl.opLe, opGt, Vl.opGe, xEq, okEq_str, okEq_int, xIn, okIn, inD, xIsN, isNone_n, isNone_t, isNone_l, isNone_i, isNone_s, isMo, mob, pkm, gModI, gDivI, gSubI, gMulI, gPowI, gGt, gLt, gLe, gGe, vNotT, vAndT, vOrT, vAndV, vOrV, opNot, opNotG, vIfE, opTup, opLst, opLstO, Vl.opLen, Vl.opInt, opList, opListO, opTuple, opII, gMax, gMin, vM, vM0, isT, xPop, Vl.opAppend, opExtend, opJoin, vgName, vgTup, vgCons, vgNil, kOpt_some, kOpn_some, kOps_some, Vl.opSum, Vl.opInsert, Vl.opIndex, opDivmod, vSl, vPart, vNoPart, opSl, opSlO, opRev, opCallK, ownD, ownO, objs, renum, uniq, getS, putS, vCall0, vFor, vForW, En.wk, vSeqI, vTupI, vRng1, vRng2, vRngD, vFn, vCallL, vOdd, vWays, vEnum, vZip, chkOf, vLcK, vYes, finD, finO, En.wipe, wipeE, En.trim, trimS, dropNone, clr_n, clr_v, clr_k, clr_o, wth, Vl.ret, takeS, startV,  List.map_cons, List.map_nil, List.length_cons, List.length_nil, List.cons_append, List.nil_append, List.replicate, List.getElem?_cons_succ, List.getElem?_cons_zero, List.getElem?_nil, List.set_cons_succ, List.set_cons_zero, List.set_nil, List.all_nil, List.all_cons, Bool.true_and, Option.map_some, Option.map_none, if_true, if_false, decide_eq_true_eq, Bool.false_eq_true, List.take_succ_cons, List.take_zero, List.take_nil, List.drop_succ_cons, List.drop_zero, List.drop_nil, reduceIte, reduceCtorEq]
  refine ⟨_, kit_il ok, ?_⟩
  have ok' := ok
  by_cases hl : isLs d = true
  · obtain ⟨ds, rfl⟩ : ∃ ds, d = .list ds := by
      cases d <;> first | exact ⟨_, rfl⟩ | cases hl
    unfold okT at ok'
    unfold dpT at hN
    rw [hl, if_pos rfl]
    simp only [t_Lcopied_1, flatD, List.any_cons, List.any_nil, eqv_str, eqv_int, eqv_ti, eqv_it, eqv_st, eqv_ts, cut1, Bool.or_false, Bool.or_true, Bool.and_self, Bool.and_true, Bool.and_false, Bool.false_or, Bool.true_or, and_self, ofs_inj, ofs_app, ofs_len, String.reduceEq, String.reduceNe, String.reduceAppend, decide_true, decide_false, Bool.not_true, Bool.not_false, sz0, sz1, sz2, sz3, sz4, sz5, sz6, sz7, sz8, sz9, sz10, sz11, sz12, sz13, sz14, sz15, sz16, sz17, sz18, sz19, sz20, sz21, sz22, sz23, sz24, sz25, cpow1018, true_and, and_true, Nat.reduceAdd, Nat.reduceLT, Nat.reduceSub, Int.reduceNe, Int.reduceEq, Int.reduceLT, Int.reduceLE, Int.reduceToNat, ne_eq, not_false_eq_true, List.length_map, Nat.lt_irrefl, dV_nx, dV_rt, at0, at1, at2, at3, ix20, ix21, vSeq, vIfS, vTest, vTruth, truth, v2, v1, vN, vCons, vNil, vStar, vVar, vC, xIx, Vl.opI0, Vl.opI, pk, vSet, vAug, vAsg, xgSub, vRet, vRetN, vDrop, vBreak, vCont, asD, asDs, opMod, opDiv, opMul2, Vl.opAdd, Vl.opAddO, opSub, opPow, opLt, Vl.opLe, opGt, Vl.opGe, xEq, okEq_str, okEq_int, xIn, okIn, inD, xIsN, isNone_n, isNone_t, isNone_l, isNone_i, isNone_s, isMo, mob, pkm, gModI, gDivI, gSubI, gMulI, gPowI, gGt, gLt, gLe, gGe, vNotT, vAndT, vOrT, vAndV, vOrV, opNot, opNotG, vIfE, opTup, opLst, opLstO, Vl.opLen, Vl.opInt, opList, opListO, opTuple, opII, gMax, gMin, vM, vM0, isT, xPop, Vl.opAppend, opExtend, opJoin, vgName, vgTup, vgCons, vgNil, kOpt_some, kOpn_some, kOps_some, Vl.opSum, Vl.opInsert, Vl.opIndex, opDivmod, vSl, vPart, vNoPart, opSl, opSlO, opRev, opCallK, ownD, ownO, objs, renum, uniq, getS, putS, vCall0, vFor, vForW, En.wk, vSeqI, vTupI, vRng1, vRng2, vRngD, vFn, vCallL, vOdd, vWays, vEnum, vZip, chkOf, vLcK, vYes, finD, finO, En.wipe, wipeE, En.trim, trimS, dropNone, clr_n, clr_v, clr_k, clr_o, wth, Vl.ret, takeS, startV,  List.map_cons, List.map_nil, List.length_cons, List.length_nil, List.cons_append, List.nil_append, List.replicate, List.getElem?_cons_succ, List.getElem?_cons_zero, List.getElem?_nil, List.set_cons_succ, List.set_cons_zero, List.set_nil, List.all_nil, List.all_cons, Bool.true_and, Option.map_some, Option.map_none, if_true, if_false, decide_eq_true_eq, Bool.false_eq_true, List.take_succ_cons, List.take_zero, List.take_nil, List.drop_succ_cons, List.drop_zero, List.drop_nil, reduceIte, reduceCtorEq]
    refine cl_map id (by simp only [List.length_nil]; exact big (by omega)) (fun x Kt hx hk => ?_) (by rw [List.map_id, List.nil_append]; exact q)
    simp only [flatD, List.any_cons, List.any_nil, eqv_str, eqv_int, eqv_ti, eqv_it, eqv_st, eqv_ts, cut1, Bool.or_false, Bool.or_true, Bool.and_self, Bool.and_true, Bool.and_false, Bool.false_or, Bool.true_or, and_self, ofs_inj, ofs_app, ofs_len, String.reduceEq, String.reduceNe, String.reduceAppend, decide_true, decide_false, Bool.not_true, Bool.not_false, sz0, sz1, sz2, sz3, sz4, sz5, sz6, sz7, sz8, sz9, sz10, sz11, sz12, sz13, sz14, sz15, sz16, sz17, sz18, sz19, sz20, sz21, sz22, sz23, sz24, sz25, cpow1018, true_and, and_true, Nat.reduceAdd, Nat.reduceLT, Nat.reduceSub, Int.reduceNe, Int.reduceEq, Int.reduceLT, Int.reduceLE, Int.reduceToNat, ne_eq, not_false_eq_true, List.length_map, Nat.lt_irrefl, dV_nx, dV_rt, at0, at1, at2, at3, ix20, ix21, vSeq, vIfS, vTest, vTruth, truth, v2, v1, vN, vCons, vNil, vStar, vVar, vC, xIx, Vl.opI0, Vl.opI, pk, vSet, vAug, vAsg, xgSub, vRet, vRetN, vDrop, vBreak, vCont, asD, asDs, opMod, opDiv, opMul2, Vl.opAdd, Vl.opAddO, opSub, opPow, opLt, Vl.opLe, opGt, Vl.opGe, xEq, okEq_str, okEq_int, xIn, okIn, inD, xIsN, isNone_n, isNone_t, isNone_l, isNone_i, isNone_s, isMo, mob, pkm, gModI, gDivI, gSubI, gMulI, gPowI, gGt, gLt, gLe, gGe, vNotT, vAndT, vOrT, vAndV, vOrV, opNot, opNotG, vIfE, opTup, opLst, opLstO, Vl.opLen, Vl.opInt, opList, opListO, opTuple, opII, gMax, gMin, vM, vM0, isT, xPop, Vl.opAppend, opExtend, opJoin, vgName, vgTup, vgCons, vgNil, kOpt_some, kOpn_some, kOps_some, Vl.opSum, Vl.opInsert, Vl.opIndex, opDivmod, vSl, vPart, vNoPart, opSl, opSlO, opRev, opCallK, ownD, ownO, objs, renum, uniq, getS, putS, vCall0, vFor, vForW, En.wk, vSeqI, vTupI, vRng1, vRng2, vRngD, vFn, vCallL, vOdd, vWays, vEnum, vZip, chkOf, vLcK, vYes, finD, finO, En.wipe, wipeE, En.trim, trimS, dropNone, clr_n, clr_v, clr_k, clr_o, wth, Vl.ret, takeS, startV,  List.map_cons, List.map_nil, List.length_cons, List.length_nil, List.cons_append, List.nil_append, List.replicate, List.getElem?_cons_succ, List.getElem?_cons_zero, List.getElem?_nil, List.set_cons_succ, List.set_cons_zero, List.set_nil, List.all_nil, List.all_cons, Bool.true_and, Option.map_some, Option.map_none, if_true, if_false, decide_eq_true_eq, Bool.false_eq_true, List.take_succ_cons, List.take_zero, List.take_nil, List.drop_succ_cons, List.drop_zero, List.drop_nil, reduceIte, reduceCtorEq]
    have := dpTs_mem hx
    exact ⟨x, by omega, okTs_mem ok'.2 x hx, rfl, rfl, hk _ rfl⟩
  · have hl' : isLs d = false := by simpa using hl
    rw [hl', if_neg (by decide), vNext_mk]
    simp only [t_Lcopied_4, vIsi, flatD, List.any_cons, List.any_nil, eqv_str, eqv_int, eqv_ti, eqv_it, eqv_st, eqv_ts, cut1, Bool.or_false, Bool.or_true, Bool.and_self, Bool.and_true, Bool.and_false, Bool.false_or, Bool.true_or, and_self, ofs_inj, ofs_app, ofs_len, String.reduceEq, String.reduceNe, String.reduceAppend, decide_true, decide_false, Bool.not_true, Bool.not_false, sz0, sz1, sz2, sz3, sz4, sz5, sz6, sz7, sz8, sz9, sz10, sz11, sz12, sz13, sz14, sz15, sz16, sz17, sz18, sz19, sz20, sz21, sz22, sz23, sz24, sz25, cpow1018, true_and, and_true, Nat.reduceAdd, Nat.reduceLT, Nat.reduceSub, Int.reduceNe, Int.reduceEq, Int.reduceLT, Int.reduceLE, Int.reduceToNat, ne_eq, not_false_eq_true, List.length_map, Nat.lt_irrefl, dV_nx, dV_rt, at0, at1, at2, at3, ix20, ix21, vSeq, vIfS, vTest, vTruth, truth, v2, v1, vN, vCons, vNil, vStar, vVar, vC, xIx, Vl.opI0, Vl.opI, pk, vSet, vAug, vAsg, xgSub, vRet, vRetN, vDrop, vBreak, vCont, asD, asDs, opMod, opDiv, opMul2, Vl.opAdd, Vl.opAddO, opSub, opPow, opLt, Vl.opLe, opGt, Vl.opGe, xEq, okEq_str, okEq_int, xIn, okIn, inD, xIsN, isNone_n, isNone_t, isNone_l, isNone_i, isNone_s, isMo, mob, pkm, gModI, gDivI, gSubI, gMulI, gPowI, gGt, gLt, gLe, gGe, vNotT, vAndT, vOrT, vAndV, vOrV, opNot, opNotG, vIfE, opTup, opLst, opLstO, Vl.opLen, Vl.opInt, opList, opListO, opTuple, opII, gMax, gMin, vM, vM0, isT, xPop, Vl.opAppend, opExtend, opJoin, vgName, vgTup, vgCons, vgNil, kOpt_some, kOpn_some, kOps_some, Vl.opSum, Vl.opInsert, Vl.opIndex, opDivmod, vSl, vPart, vNoPart, opSl, opSlO, opRev, opCallK, ownD, ownO, objs, renum, uniq, getS, putS, vCall0, vFor, vForW, En.wk, vSeqI, vTupI, vRng1, vRng2, vRngD, vFn, vCallL, vOdd, vWays, vEnum, vZip, chkOf, vLcK, vYes, finD, finO, En.wipe, wipeE, En.trim, trimS, dropNone, clr_n, clr_v, clr_k, clr_o, wth, Vl.ret, takeS, startV,  List.map_cons, List.map_nil, List.length_cons, List.length_nil, List.cons_append, List.nil_append, List.replicate, List.getElem?_cons_succ, List.getElem?_cons_zero, List.getElem?_nil, List.set_cons_succ, List.set_cons_zero, List.set_nil, List.all_nil, List.all_cons, Bool.true_and, Option.map_some, Option.map_none, if_true, if_false, decide_eq_true_eq, Bool.false_eq_true, List.take_succ_cons, List.take_zero, List.take_nil, List.drop_succ_cons, List.drop_zero, List.drop_nil, reduceIte, reduceCtorEq]
    refine ⟨_, kit_it ok, ?_⟩
    by_cases ht : isTp d = true
    · obtain ⟨ds, rfl⟩ : ∃ ds, d = .tuple ds := by
        cases d <;> first | exact ⟨_, rfl⟩ | cases ht
      unfold okT at ok'
      unfold dpT at hN
      rw [ht, if_pos rfl]
      simp only [t_Lcopied_2, flatD, List.any_cons, List.any_nil, eqv_str, eqv_int, eqv_ti, eqv_it, eqv_st, eqv_ts, cut1, Bool.or_false, Bool.or_true, Bool.and_self, Bool.and_true, Bool.and_false, Bool.false_or, Bool.true_or, and_self, ofs_inj, ofs_app, ofs_len, String.reduceEq, String.reduceNe, String.reduceAppend, decide_true, decide_false, Bool.not_true, Bool.not_false, sz0, sz1, sz2, sz3, sz4, sz5, sz6, sz7, sz8, sz9, sz10, sz11, sz12, sz13, sz14, sz15, sz16, sz17, sz18, sz19, sz20, sz21, sz22, sz23, sz24, sz25, cpow1018, true_and, and_true, Nat.reduceAdd, Nat.reduceLT, Nat.reduceSub, Int.reduceNe, Int.reduceEq, Int.reduceLT, Int.reduceLE, Int.reduceToNat, ne_eq, not_false_eq_true, List.length_map, Nat.lt_irrefl, dV_nx, dV_rt, at0, at1, at2, at3, ix20, ix21, vSeq, vIfS, vTest, vTruth, truth, v2, v1, vN, vCons, vNil, vStar, vVar, vC, xIx, Vl.opI0, Vl.opI, pk, vSet, vAug, vAsg, xgSub, vRet, vRetN, vDrop, vBreak, vCont, asD, asDs, opMod, opDiv, opMul2, Vl.opAdd, Vl.opAddO, opSub, opPow, opLt, Vl.opLe, opGt, Vl.opGe, xEq, okEq_str, okEq_int, xIn, okIn, inD, xIsN, isNone_n, isNone_t, isNone_l, isNone_i, isNone_s, isMo, mob, pkm, gModI, gDivI, gSubI, gMulI, gPowI, gGt, gLt, gLe, gGe, vNotT, vAndT, vOrT, vAndV, vOrV, opNot, opNotG, vIfE, opTup, opLst, opLstO, Vl.opLen, Vl.opInt, opList, opListO, opTuple, opII, gMax, gMin, vM, vM0, isT, xPop, Vl.opAppend, opExtend, opJoin, vgName, vgTup, vgCons, vgNil, kOpt_some, kOpn_some, kOps_some, Vl.opSum, Vl.opInsert, Vl.opIndex, opDivmod, vSl, vPart, vNoPart, opSl, opSlO, opRev, opCallK, ownD, ownO, objs, renum, uniq, getS, putS, vCall0, vFor, vForW, En.wk, vSeqI, vTupI, vRng1, vRng2, vRngD, vFn, vCallL, vOdd, vWays, vEnum, vZip, chkOf, vLcK, vYes, finD, finO, En.wipe, wipeE, En.trim, trimS, dropNone, clr_n, clr_v, clr_k, clr_o, wth, Vl.ret, takeS, startV,  List.map_cons, List.map_nil, List.length_cons, List.length_nil, List.cons_append, List.nil_append, List.replicate, List.getElem?_cons_succ, List.getElem?_cons_zero, List.getElem?_nil, List.set_cons_succ, List.set_cons_zero, List.set_nil, List.all_nil, List.all_cons, Bool.true_and, Option.map_some, Option.map_none, if_true, if_false, decide_eq_true_eq, Bool.false_eq_true, List.take_succ_cons, List.take_zero, List.take_nil, List.drop_succ_cons, List.drop_zero, List.drop_nil, reduceIte, reduceCtorEq]
      refine cl_map id (by simp only [List.length_nil]; exact big (by omega)) (fun x Kt hx hk => ?_) ?_
      · simp only [flatD, List.any_cons, List.any_nil, eqv_str, eqv_int, eqv_ti, eqv_it, eqv_st, eqv_ts, cut1, Bool.or_false, Bool.or_true, Bool.and_self, Bool.and_true, Bool.and_false, Bool.false_or, Bool.true_or, and_self, ofs_inj, ofs_app, ofs_len, String.reduceEq, String.reduceNe, String.reduceAppend, decide_true, decide_false, Bool.not_true, Bool.not_false, sz0, sz1, sz2, sz3, sz4, sz5, sz6, sz7, sz8, sz9, sz10, sz11, sz12, sz13, sz14, sz15, sz16, sz17, sz18, sz19, sz20, sz21, sz22, sz23, sz24, sz25, cpow1018, true_and, and_true, Nat.reduceAdd, Nat.reduceLT, Nat.reduceSub, Int.reduceNe, Int.reduceEq, Int.reduceLT, Int.reduceLE, Int.reduceToNat, ne_eq, not_false_eq_true, List.length_map, Nat.lt_irrefl, dV_nx, dV_rt, at0, at1, at2, at3, ix20, ix21, vSeq, vIfS, vTest, vTruth, truth, v2, v1, vN, vCons, vNil, vStar, vVar, vC, xIx, Vl.opI0, Vl.opI, pk, vSet, vAug, vAsg, xgSub, vRet, vRetN, vDrop, vBreak, vCont, asD, asDs, opMod, opDiv, opMul2, Vl.opAdd, Vl.opAddO, opSub, opPow, opLt, Vl.opLe, opGt, Vl.opGe, xEq, okEq_str, okEq_int, xIn, okIn, inD, xIsN, isNone_n, isNone_t, isNone_l, isNone_i, isNone_s, isMo, mob, pkm, gModI, gDivI, gSubI, gMulI, gPowI, gGt, gLt, gLe, gGe, vNotT, vAndT, vOrT, vAndV, vOrV, opNot, opNotG, vIfE, opTup, opLst, opLstO, Vl.opLen, Vl.opInt, opList, opListO, opTuple, opII, gMax, gMin, vM, vM0, isT, xPop, Vl.opAppend, opExtend, opJoin, vgName, vgTup, vgCons, vgNil, kOpt_some, kOpn_some, kOps_some, Vl.opSum, Vl.opInsert, Vl.opIndex, opDivmod, vSl, vPart, vNoPart, opSl, opSlO, opRev, opCallK, ownD, ownO, objs, renum, uniq, getS, putS, vCall0, vFor, vForW, En.wk, vSeqI, vTupI, vRng1, vRng2, vRngD, vFn, vCallL, vOdd, vWays, vEnum, vZip, chkOf, vLcK, vYes, finD, finO, En.wipe, wipeE, En.trim, trimS, dropNone, clr_n, clr_v, clr_k, clr_o, wth, Vl.ret, takeS, startV,  List.map_cons, List.map_nil, List.length_cons, List.length_nil, List.cons_append, List.nil_append, List.replicate, List.getElem?_cons_succ, List.getElem?_cons_zero, List.getElem?_nil, List.set_cons_succ, List.set_cons_zero, List.set_nil, List.all_nil, List.all_cons, Bool.true_and, Option.map_some, Option.map_none, if_true, if_false, decide_eq_true_eq, Bool.false_eq_true, List.take_succ_cons, List.take_zero, List.take_nil, List.drop_succ_cons, List.drop_zero, List.drop_nil, reduceIte, reduceCtorEq]
        have := dpTs_mem hx
        exact ⟨x, by omega, okTs_mem ok'.2 x hx, rfl, rfl, hk _ rfl⟩
      · rw [List.map_id, List.nil_append]
        exact q
    · have ht' : isTp d = false := by simpa using ht
      rw [ht', if_neg (by decide), vNext_mk]
      simp only [t_Lcopied_3, flatD, List.any_cons, List.any_nil, eqv_str, eqv_int, eqv_ti, eqv_it, eqv_st, eqv_ts, cut1, Bool.or_false, Bool.or_true, Bool.and_self, Bool.and_true, Bool.and_false, Bool.false_or, Bool.true_or, and_self, ofs_inj, ofs_app, ofs_len, String.reduceEq, String.reduceNe, String.reduceAppend, decide_true, decide_false, Bool.not_true, Bool.not_false, sz0, sz1, sz2, sz3, sz4, sz5, sz6, sz7, sz8, sz9, sz10, sz11, sz12, sz13, sz14, sz15, sz16, sz17, sz18, sz19, sz20, sz21, sz22, sz23, sz24, sz25, cpow1018, true_and, and_true, Nat.reduceAdd, Nat.reduceLT, Nat.reduceSub, Int.reduceNe, Int.reduceEq, Int.reduceLT, Int.reduceLE, Int.reduceToNat, ne_eq, not_false_eq_true, List.length_map, Nat.lt_irrefl, dV_nx, dV_rt, at0, at1, at2, at3, ix20, ix21, vSeq, vIfS, vTest, vTruth, truth, v2, v1, vN, vCons, vNil, vStar, vVar, vC, xIx, Vl.opI0, Vl.opI, pk, vSet, vAug, vAsg, xgSub, vRet, vRetN, vDrop, vBreak, vCont, asD, asDs, opMod, opDiv, opMul2, Vl.opAdd, Vl.opAddO, opSub, opPow, opLt, Vl.opLe, opGt, Vl.opGe, xEq, okEq_str, okEq_int, xIn, okIn, inD, xIsN, isNone_n, isNone_t, isNone_l, isNone_i, isNone_s, isMo, mob, pkm, gModI, gDivI, gSubI, gMulI, gPowI, gGt, gLt, gLe, gGe, vNotT, vAndT, vOrT, vAndV, vOrV, opNot, opNotG, vIfE, opTup, opLst, opLstO, Vl.opLen, Vl.opInt, opList, opListO, opTuple, opII, gMax, gMin, vM, vM0, isT, xPop, Vl.opAppend, opExtend, opJoin, vgName, vgTup, vgCons, vgNil, kOpt_some, kOpn_some, kOps_some, Vl.opSum, Vl.opInsert, Vl.opIndex, opDivmod, vSl, vPart, vNoPart, opSl, opSlO, opRev, opCallK, ownD, ownO, objs, renum, uniq, getS, putS, vCall0, vFor, vForW, En.wk, vSeqI, vTupI, vRng1, vRng2, vRngD, vFn, vCallL, vOdd, vWays, vEnum, vZip, chkOf, vLcK, vYes, finD, finO, En.wipe, wipeE, En.trim, trimS, dropNone, clr_n, clr_v, clr_k, clr_o, wth, Vl.ret, takeS, startV,  List.map_cons, List.map_nil, List.length_cons, List.length_nil, List.cons_append, List.nil_append, List.replicate, List.getElem?_cons_succ, List.getElem?_cons_zero, List.getElem?_nil, List.set_cons_succ, List.set_cons_zero, List.set_nil, List.all_nil, List.all_cons, Bool.true_and, Option.map_some, Option.map_none, if_true, if_false, decide_eq_true_eq, Bool.false_eq_true, List.take_succ_cons, List.take_zero, List.take_nil, List.drop_succ_cons, List.drop_zero, List.drop_nil, reduceIte, reduceCtorEq]
      exact q
end Kf
namespace Kf
open PySem L2 Vl PySem.Spec PyProof.Rows
theorem srt_lt : ∀ (l : List Str), sortedS l = true → l.Nodup → l.Pairwise ltS
  | [], _, _ => .nil
  | [x], _, _ => .cons (fun y h => (by cases h)) .nil
  | x :: y :: r, h, n => by
    have h' : (!ltCps y.cps.toList x.cps.toList && risingS y r) = true := h
    rw [Bool.and_eq_true] at h'
    obtain ⟨n1, n2⟩ := List.nodup_cons.mp n
    have ih := srt_lt (y :: r) h'.2 n2
    have xy : ltS x y := by
      have h1 := h'.1
      rw [ltCps_eq] at h1
      exact ltS_of (fun c => by simp [ltS] at c; simp [c] at h1) fun e => n1 (e ▸ List.mem_cons_self)
    refine .cons (fun z hz => ?_) ih
    rcases List.mem_cons.mp hz with rfl | hz
    · exact xy
    · exact ltS_trans xy (List.rel_of_pairwise_cons ih hz)
theorem sset_self {l : List Str} (h : l.Pairwise ltS) : l = sset l := sset_of h fun z => Iff.rfl
theorem mk_is {m : Str} (h : IsMk m) : isMk m = true := by
  have el : m.length = m.cps.size := rfl
  unfold isMk
  rw [decide_eq_true (show 1 ≤ m.cps.size by have := h.lo; omega), decide_eq_true (show m.cps.size ≤ 6 by have := h.hi; omega), Bool.true_and, Bool.true_and, List.all_eq_true]
  intro c hc
  obtain ⟨h1, h2⟩ := h.sg c hc
  have key : ∀ c ∈ List.range 123, 97 ≤ c → inS "abcdefghijklmnopqrstuvwxyz" c = true := by decide +kernel
  exact key c (List.mem_range.mpr (by omega)) h1
theorem mk_ok {m : Str} (h : IsMk m) : okT (.str m) := by
  unfold okT
  have el : m.length = m.cps.size := rfl
  have := h.hi
  exact ⟨by omega, h.ok⟩
theorem okTs_strs {ms : List Str} (h : ∀ m ∈ ms, IsMk m) : okTs (ms.map PyData.str) := okTs_of fun d hd => by
  obtain ⟨m, hm, rfl⟩ := List.mem_map.mp hd
  exact mk_ok (h m hm)
theorem ndTs_strs (ms : List Str) : ndTs (ms.map PyData.str) = ms.length := by
  induction ms with
  | nil => rfl
  | cons m ms ih =>
    rw [List.map_cons]
    unfold ndTs
    rw [ih, List.length_cons]
    show 1 + ms.length = _
    omega
theorem dpTs_strs (ms : List Str) : dpTs (ms.map PyData.str) = 0 := by
  induction ms with
  | nil => rfl
  | cons m ms ih =>
    rw [List.map_cons]
    unfold dpTs
    rw [ih]
    rfl
def ndB : Nat → Nat
  | 0 => 7
  | r + 1 => 7 + 2 * ndB r
theorem hfD_mk {zs : List Str} {ts : List D} (h1 : zs.Pairwise ltS) (h2 : ∀ z ∈ zs, IsMk z) : hfD (.tuple [.list (zs.map .str), .list ts]) = some (zs, ts) := by
  show (hfM (.list (zs.map .str))).map (fun ms => (ms, ts)) = _
  rw [hfM_map zs (List.all_eq_true.mpr fun z hz => mk_is (h2 z hz)), if_pos (sset_self h1)]
  rfl
theorem isTr_mk {zs had : List Str} {ts : List D} {r : Nat} (h1 : zs.Pairwise ltS) (h2 : ∀ z ∈ zs, IsMk z) (h3 : ∀ z ∈ had, z ∈ zs) (h4 : ∀ t ∈ ts, isTr r zs t = true) : isTr (r + 1) had (.tuple [.list (zs.map .str), .list ts]) = true := by
  show (match hfD (.tuple [.list (zs.map .str), .list ts]) with
    | some (ms, ts) => had.all (fun x => decide (x ∈ ms)) && ts.all fun t => isTr r ms t
    | none => false) = true
  rw [hfD_mk h1 h2]
  simp only
  rw [Bool.and_eq_true, List.all_eq_true, List.all_eq_true]
  exact ⟨fun z hz => decide_eq_true (h3 z hz), h4⟩
theorem okT_mk {zs : List Str} {ts : List D} (h2 : ∀ z ∈ zs, IsMk z) (zl : zs.length ≤ 3000) (h5 : ∀ t ∈ ts, okT t) (tl : ts.length ≤ 3000) : okT (.tuple [.list (zs.map .str), .list ts]) := by
  unfold okT
  refine ⟨by simp, ?_⟩
  unfold okTs okTs okTs
  refine ⟨?_, ?_, trivial⟩
  · unfold okT
    exact ⟨by rw [List.length_map]; exact zl, okTs_strs h2⟩
  · unfold okT
    exact ⟨tl, okTs_of h5⟩
theorem ndTs_le {ts : List D} {b : Nat} (h : ∀ t ∈ ts, ndT t ≤ b) : ndTs ts ≤ ts.length * b := by
  induction ts with
  | nil => simp [ndTs]
  | cons t ts ih =>
    unfold ndTs
    have h1 := h t List.mem_cons_self
    have h2 := ih fun x hx => h x (List.mem_cons_of_mem _ hx)
    rw [List.length_cons, Nat.add_mul]
    omega
theorem dpTs_le {ts : List D} {b : Nat} (h : ∀ t ∈ ts, dpT t ≤ b) : dpTs ts ≤ b := by
  induction ts with
  | nil => simp [dpTs]
  | cons t ts ih =>
    unfold dpTs
    have h1 := h t List.mem_cons_self
    have h2 := ih fun x hx => h x (List.mem_cons_of_mem _ hx)
    omega
theorem ndT_mk (zs : List Str) (ts : List D) : ndT (.tuple [.list (zs.map .str), .list ts]) = 3 + zs.length + ndTs ts := by
  simp only [ndT, ndTs, ndTs_strs]
  omega
theorem dpT_mk (zs : List Str) (ts : List D) : dpT (.tuple [.list (zs.map .str), .list ts]) = 2 + dpTs ts := by
  simp only [dpT, dpTs, dpTs_strs]
  omega
theorem mksD_mk {zs : List Str} {ts : List D} (h1 : zs.Pairwise ltS) (h2 : ∀ z ∈ zs, IsMk z) : mksD (.tuple [.list (zs.map .str), .list ts]) = zs := by
  unfold mksD
  rw [hfD_mk h1 h2]
/-- the form of a drawn tree -/
def DnT : Nat → D → Prop
  | 0, _ => False
  | n + 1, d => ∃ (zs : List Str) (ts : List D), d = .tuple [.list (zs.map .str), .list ts] ∧ zs.Pairwise ltS ∧ (∀ z ∈ zs, IsMk z) ∧ zs.length ≤ 4 ∧ ts.length ≤ 2 ∧ ∀ t ∈ ts, DnT n t
def pTree34 (N : Nat) : VSp := fun ss st Kp => ∃ (c n : Int) (ms had : List Str) (r : Nat), r < N ∧ r ≤ 3 ∧ ss = [.obj 0, .val (.list (ms.map .str)), .val (.list (had.map .str)), .val (.int (r : Nat))] ∧ st = [.l [.int c, .int n]] ∧ PoolK n ∧ MarksOk ms ∧ (∀ z ∈ had, z ∈ ms) ∧
  ∀ (d : D) (c' n' : Int), isTr (r + 1) had d = true → okT d → ndT d ≤ ndB r → dpT d ≤ 2 * (r + 1) → (∀ z ∈ mksD d, z ∈ ms) → DnT (r + 1) d → PoolK n' → Kp (.val d) [.l [.int c', .int n']]
theorem r_Tree34 {N : Nat} {ss cs Kp} (h : pTree34 (N + 1) ss cs Kp) : t_Ltree pTake (pTree34 N) (dV cs.length Kp) ⟨startV 8 ss, cs.map some⟩ := by
  obtain ⟨c, n, ms, had, r, hN, hr, rfl, rfl, pn, hm, hh, q⟩ := h
  simp only [t_Ltree, t_Ltree_3, opSortS, flatD, List.any_cons, List.any_nil, eqv_str, eqv_int, eqv_ti, eqv_it, eqv_st, eqv_ts, cut1, Bool.or_false, Bool.or_true, Bool.and_self, Bool.and_true, Bool.and_false, Bool.false_or, Bool.true_or, and_self, ofs_inj, ofs_app, ofs_len, String.reduceEq, String.reduceNe, String.reduceAppend, decide_true, decide_false, Bool.not_true, Bool.not_false, sz0, sz1, sz2, sz3, sz4, sz5, sz6, sz7, sz8, sz9, sz10, sz11, sz12, sz13, sz14, sz15, sz16, sz17, sz18, sz19, sz20, sz21, sz22, sz23, sz24, sz25, cpow1018, true_and, and_true, Nat.reduceAdd, Nat.reduceLT, Nat.reduceSub, Int.reduceNe, Int.reduceEq, Int.reduceLT, Int.reduceLE, Int.reduceToNat, ne_eq, not_false_eq_true, List.length_map, Nat.lt_irrefl, dV_nx, dV_rt, at0, at1, at2, at3, ix20, ix21, vSeq, vIfS, vTest, vTruth, truth, v2, v1, vN, vCons, vNil, vStar, vVar, vC, xIx, Vl.opI0, Vl.opI, pk, vSet, vAug, vAsg, xgSub, vRet, vRetN, vDrop, vBreak, vCont, asD, asDs, opMod, opDiv, opMul2, Vl.opAdd, Vl.opAddO, opSub, opPow, opLt, Vl.opLe, opGt, Vl.opGe, xEq, okEq_str, okEq_int, xIn, okIn, inD, xIsN, isNone_n, isNone_t, isNone_l, isNone_i, isNone_s, isMo, mob, pkm, gModI, gDivI, gSubI, gMulI, gPowI, gGt, gLt, gLe, gGe, vNotT, vAndT, vOrT, vAndV, vOrV, opNot, opNotG, vIfE, opTup, opLst, opLstO, Vl.opLen, Vl.opInt, opList, opListO, opTuple, opII, gMax, gMin, vM, vM0, isT, xPop, Vl.opAppend, opExtend, opJoin, vgName, vgTup, vgCons, vgNil, kOpt_some, kOpn_some, kOps_some, Vl.opSum, Vl.opInsert, Vl.opIndex, opDivmod, vSl, vPart, vNoPart, opSl, opSlO, opRev, opCallK, ownD, ownO, objs, renum, uniq, getS, putS, vCall0, vFor, vForW, En.wk, vSeqI, vTupI, vRng1, vRng2, vRngD, vFn, vCallL, vOdd, vWays, vEnum, vZip, chkOf, vLcK, vYes, finD, finO, En.wipe, wipeE, En.trim, trimS, dropNone, clr_n, clr_v, clr_k, clr_o, wth, Vl.ret, takeS, startV,  List.map_cons, List.map_nil, List.length_cons, List.length_nil, List.cons_append, List.nil_append, List.replicate, List.getElem?_cons_succ, List.getElem?_cons_zero, List.getElem?_nil, List.set_cons_succ, List.set_cons_zero, List.set_nil, List.all_nil, List.all_cons, Bool.true_and, Option.map_some, Option.map_none, if_true, if_false, decide_eq_true_eq, Bool.false_eq_true, List.take_succ_cons, List.take_zero, List.take_nil, List.drop_succ_cons, List.drop_zero, List.drop_nil, reduceIte, reduceCtorEq]
  refine ⟨ms, txts_map ms, by have := hm.hi; omega, fun ys py sy => ?_⟩
  have ylen : ys.length ≤ 4 := by
    rw [py.length_eq]
    exact hm.hi
  have ypw : ys.Pairwise ltS := srt_lt ys sy (py.nodup_iff.mpr hm.nd)
  have ymk : ∀ z ∈ ys, IsMk z := fun z hz => hm.all z (py.mem_iff.mp hz)
  refine cl_inv (chk := none) (fun i acc e => ∃ (zs : List Str) (c n : Int), acc = zs.map .str ∧ zs.Sublist (ys.take i) ∧ (∀ z ∈ ys.take i, z ∈ had → z ∈ zs) ∧ PoolK n ∧ e = ⟨[some (.obj 0), some (.val (.list (ms.map .str))), some (.val (.list (had.map .str))), some (.val (.int (r : Nat))), none, none, none, none], [some (.l [.int c, .int n])]⟩) (fun _ _ _ _ _ => trivial) ?_ ?_ ⟨[], c, n, rfl, by simp, by simp, pn, rfl⟩
  · rintro i d acc e Kt hd ⟨zs, c, n, rfl, sl, hk, pn, rfl⟩ hK
    rw [List.getElem?_map] at hd
    obtain ⟨z, hz, rfl⟩ := Option.map_eq_some_iff.mp hd
    have tk : ys.take (i + 1) = ys.take i ++ [z] := by
      rw [List.take_add_one, hz]
      rfl
    have zl : zs.length ≤ 4 := by
      have h1 := sl.length_le
      rw [List.length_take] at h1
      omega
    have keep : ∀ c' n' : Int, PoolK n' → Kt (zs.map .str ++ [.str z]) ⟨[some (.obj 0), some (.val (.list (ms.map .str))), some (.val (.list (had.map .str))), some (.val (.int (r : Nat))), none, none, none, none], [some (.l [.int c', .int n'])]⟩ := fun c' n' pn' =>
      hK _ _ ⟨zs ++ [z], c', n', by simp, by rw [tk]; exact sl.append (List.Sublist.refl _), fun y hy hyh => by
        rw [tk] at hy
        rcases List.mem_append.mp hy with hy | hy
        · exact List.mem_append_left _ (hk y hy hyh)
        · exact List.mem_append_right _ hy, pn', rfl⟩
    have sz : SeqAt.shaped (PyData.str z) = true := by
      unfold SeqAt.shaped
      rw [can_str, (ymk z (List.mem_of_getElem? hz)).ok, depth_str]
      rfl
    simp only [okIn, flatD, List.any_cons, List.any_nil, eqv_str, eqv_int, eqv_ti, eqv_it, eqv_st, eqv_ts, cut1, Bool.or_false, Bool.or_true, Bool.and_self, Bool.and_true, Bool.and_false, Bool.false_or, Bool.true_or, and_self, ofs_inj, ofs_app, ofs_len, String.reduceEq, String.reduceNe, String.reduceAppend, decide_true, decide_false, Bool.not_true, Bool.not_false, sz0, sz1, sz2, sz3, sz4, sz5, sz6, sz7, sz8, sz9, sz10, sz11, sz12, sz13, sz14, sz15, sz16, sz17, sz18, sz19, sz20, sz21, sz22, sz23, sz24, sz25, cpow1018, true_and, and_true, Nat.reduceAdd, Nat.reduceLT, Nat.reduceSub, Int.reduceNe, Int.reduceEq, Int.reduceLT, Int.reduceLE, Int.reduceToNat, ne_eq, not_false_eq_true, List.length_map, Nat.lt_irrefl, dV_nx, dV_rt, at0, at1, at2, at3, ix20, ix21, vSeq, vIfS, vTest, vTruth, truth, v2, v1, vN, vCons, vNil, vStar, vVar, vC, xIx, Vl.opI0, Vl.opI, pk, vSet, vAug, vAsg, xgSub, vRet, vRetN, vDrop, vBreak, vCont, asD, asDs, opMod, opDiv, opMul2, Vl.opAdd, Vl.opAddO, opSub, opPow, opLt, Vl.opLe, opGt, Vl.opGe, xEq, okEq_str, okEq_int, xIn, okIn, inD, xIsN, isNone_n, isNone_t, isNone_l, isNone_i, isNone_s, isMo, mob, pkm, gModI, gDivI, gSubI, gMulI, gPowI, gGt, gLt, gLe, gGe, vNotT, vAndT, vOrT, vAndV, vOrV, opNot, opNotG, vIfE, opTup, opLst, opLstO, Vl.opLen, Vl.opInt, opList, opListO, opTuple, opII, gMax, gMin, vM, vM0, isT, xPop, Vl.opAppend, opExtend, opJoin, vgName, vgTup, vgCons, vgNil, kOpt_some, kOpn_some, kOps_some, Vl.opSum, Vl.opInsert, Vl.opIndex, opDivmod, vSl, vPart, vNoPart, opSl, opSlO, opRev, opCallK, ownD, ownO, objs, renum, uniq, getS, putS, vCall0, vFor, vForW, En.wk, vSeqI, vTupI, vRng1, vRng2, vRngD, vFn, vCallL, vOdd, vWays, vEnum, vZip, chkOf, vLcK, vYes, finD, finO, En.wipe, wipeE, En.trim, trimS, dropNone, clr_n, clr_v, clr_k, clr_o, wth, Vl.ret, takeS, startV,  List.map_cons, List.map_nil, List.length_cons, List.length_nil, List.cons_append, List.nil_append, List.replicate, List.getElem?_cons_succ, List.getElem?_cons_zero, List.getElem?_nil, List.set_cons_succ, List.set_cons_zero, List.set_nil, List.all_nil, List.all_cons, Bool.true_and, Option.map_some, Option.map_none, if_true, if_false, decide_eq_true_eq, Bool.false_eq_true, List.take_succ_cons, List.take_zero, List.take_nil, List.drop_succ_cons, List.drop_zero, List.drop_nil, reduceIte, reduceCtorEq]
    refine ⟨⟨sz, shdS fun x hx => (hm.all x (hh x hx)).ok⟩, ?_⟩
    have e : (List.any (had.map PyData.str) fun x => x.eqv (.str z)) = decide (z ∈ had) := inD_strs z had
    simp only [inD, e]
    by_cases hin : z ∈ had
    · rw [if_pos (decide_eq_true hin)]
      refine ⟨bigl (by omega), keep c n pn⟩
    · rw [if_neg (by simpa using hin)]
      simp only [pTake, flatD, List.any_cons, List.any_nil, eqv_str, eqv_int, eqv_ti, eqv_it, eqv_st, eqv_ts, cut1, Bool.or_false, Bool.or_true, Bool.and_self, Bool.and_true, Bool.and_false, Bool.false_or, Bool.true_or, and_self, ofs_inj, ofs_app, ofs_len, String.reduceEq, String.reduceNe, String.reduceAppend, decide_true, decide_false, Bool.not_true, Bool.not_false, sz0, sz1, sz2, sz3, sz4, sz5, sz6, sz7, sz8, sz9, sz10, sz11, sz12, sz13, sz14, sz15, sz16, sz17, sz18, sz19, sz20, sz21, sz22, sz23, sz24, sz25, cpow1018, true_and, and_true, Nat.reduceAdd, Nat.reduceLT, Nat.reduceSub, Int.reduceNe, Int.reduceEq, Int.reduceLT, Int.reduceLE, Int.reduceToNat, ne_eq, not_false_eq_true, List.length_map, Nat.lt_irrefl, dV_nx, dV_rt, at0, at1, at2, at3, ix20, ix21, vSeq, vIfS, vTest, vTruth, truth, v2, v1, vN, vCons, vNil, vStar, vVar, vC, xIx, Vl.opI0, Vl.opI, pk, vSet, vAug, vAsg, xgSub, vRet, vRetN, vDrop, vBreak, vCont, asD, asDs, opMod, opDiv, opMul2, Vl.opAdd, Vl.opAddO, opSub, opPow, opLt, Vl.opLe, opGt, Vl.opGe, xEq, okEq_str, okEq_int, xIn, okIn, inD, xIsN, isNone_n, isNone_t, isNone_l, isNone_i, isNone_s, isMo, mob, pkm, gModI, gDivI, gSubI, gMulI, gPowI, gGt, gLt, gLe, gGe, vNotT, vAndT, vOrT, vAndV, vOrV, opNot, opNotG, vIfE, opTup, opLst, opLstO, Vl.opLen, Vl.opInt, opList, opListO, opTuple, opII, gMax, gMin, vM, vM0, isT, xPop, Vl.opAppend, opExtend, opJoin, vgName, vgTup, vgCons, vgNil, kOpt_some, kOpn_some, kOps_some, Vl.opSum, Vl.opInsert, Vl.opIndex, opDivmod, vSl, vPart, vNoPart, opSl, opSlO, opRev, opCallK, ownD, ownO, objs, renum, uniq, getS, putS, vCall0, vFor, vForW, En.wk, vSeqI, vTupI, vRng1, vRng2, vRngD, vFn, vCallL, vOdd, vWays, vEnum, vZip, chkOf, vLcK, vYes, finD, finO, En.wipe, wipeE, En.trim, trimS, dropNone, clr_n, clr_v, clr_k, clr_o, wth, Vl.ret, takeS, startV,  List.map_cons, List.map_nil, List.length_cons, List.length_nil, List.cons_append, List.nil_append, List.replicate, List.getElem?_cons_succ, List.getElem?_cons_zero, List.getElem?_nil, List.set_cons_succ, List.set_cons_zero, List.set_nil, List.all_nil, List.all_cons, Bool.true_and, Option.map_some, Option.map_none, if_true, if_false, decide_eq_true_eq, Bool.false_eq_true, List.take_succ_cons, List.take_zero, List.take_nil, List.drop_succ_cons, List.drop_zero, List.drop_nil, reduceIte, reduceCtorEq]
      refine ⟨pn, fun w c' n' w0 w1 pn' => ?_⟩
      split
      · exact ⟨bigl (by omega), keep c' n' pn'⟩
      · refine hK _ _ ⟨zs, c', n', rfl, ?_, fun y hy hyh => ?_, pn', rfl⟩
        · rw [tk]
          exact sl.trans (List.sublist_append_left _ _)
        · rw [tk] at hy
          rcases List.mem_append.mp hy with hy | hy
          · exact hk y hy hyh
          · rw [List.mem_singleton.mp hy] at hyh
            exact absurd hyh hin
  · rintro acc e ⟨zs, c1, n1, rfl, sl, hk, pn1, rfl⟩
    rw [List.length_map, List.take_length] at sl hk
    have zpw : zs.Pairwise ltS := ypw.sublist sl
    have zmk : ∀ z ∈ zs, IsMk z := fun z hz => ymk z (sl.subset hz)
    have zms : ∀ z ∈ zs, z ∈ ms := fun z hz => py.mem_iff.mp (sl.subset hz)
    have zhad : ∀ z ∈ had, z ∈ zs := fun z hz => hk z (py.mem_iff.mpr (hh z hz)) hz
    have zlen : zs.length ≤ 4 := by
      have := sl.length_le
      omega
    simp only [t_Ltree_2, pTake, flatD, List.any_cons, List.any_nil, eqv_str, eqv_int, eqv_ti, eqv_it, eqv_st, eqv_ts, cut1, Bool.or_false, Bool.or_true, Bool.and_self, Bool.and_true, Bool.and_false, Bool.false_or, Bool.true_or, and_self, ofs_inj, ofs_app, ofs_len, String.reduceEq, String.reduceNe, String.reduceAppend, decide_true, decide_false, Bool.not_true, Bool.not_false, sz0, sz1, sz2, sz3, sz4, sz5, sz6, sz7, sz8, sz9, sz10, sz11, sz12, sz13, sz14, sz15, sz16, sz17, sz18, sz19, sz20, sz21, sz22, sz23, sz24, sz25, cpow1018, true_and, and_true, Nat.reduceAdd, Nat.reduceLT, Nat.reduceSub, Int.reduceNe, Int.reduceEq, Int.reduceLT, Int.reduceLE, Int.reduceToNat, ne_eq, not_false_eq_true, List.length_map, Nat.lt_irrefl, dV_nx, dV_rt, at0, at1, at2, at3, ix20, ix21, vSeq, vIfS, vTest, vTruth, truth, v2, v1, vN, vCons, vNil, vStar, vVar, vC, xIx, Vl.opI0, Vl.opI, pk, vSet, vAug, vAsg, xgSub, vRet, vRetN, vDrop, vBreak, vCont, asD, asDs, opMod, opDiv, opMul2, Vl.opAdd, Vl.opAddO, opSub, opPow, opLt, Vl.opLe, opGt, Vl.opGe, xEq, okEq_str, okEq_int, xIn, okIn, inD, xIsN, isNone_n, isNone_t, isNone_l, isNone_i, isNone_s, isMo, mob, pkm, gModI, gDivI, gSubI, gMulI, gPowI, gGt, gLt, gLe, gGe, vNotT, vAndT, vOrT, vAndV, vOrV, opNot, opNotG, vIfE, opTup, opLst, opLstO, Vl.opLen, Vl.opInt, opList, opListO, opTuple, opII, gMax, gMin, vM, vM0, isT, xPop, Vl.opAppend, opExtend, opJoin, vgName, vgTup, vgCons, vgNil, kOpt_some, kOpn_some, kOps_some, Vl.opSum, Vl.opInsert, Vl.opIndex, opDivmod, vSl, vPart, vNoPart, opSl, opSlO, opRev, opCallK, ownD, ownO, objs, renum, uniq, getS, putS, vCall0, vFor, vForW, En.wk, vSeqI, vTupI, vRng1, vRng2, vRngD, vFn, vCallL, vOdd, vWays, vEnum, vZip, chkOf, vLcK, vYes, finD, finO, En.wipe, wipeE, En.trim, trimS, dropNone, clr_n, clr_v, clr_k, clr_o, wth, Vl.ret, takeS, startV,  List.map_cons, List.map_nil, List.length_cons, List.length_nil, List.cons_append, List.nil_append, List.replicate, List.getElem?_cons_succ, List.getElem?_cons_zero, List.getElem?_nil, List.set_cons_succ, List.set_cons_zero, List.set_nil, List.all_nil, List.all_cons, Bool.true_and, Option.map_some, Option.map_none, if_true, if_false, decide_eq_true_eq, Bool.false_eq_true, List.take_succ_cons, List.take_zero, List.take_nil, List.drop_succ_cons, List.drop_zero, List.drop_nil, reduceIte, reduceCtorEq]
    refine ⟨pn1, fun w c2 n2 w0 w1 pn2 => ?_⟩
    have cm : CMul w (if 0 < (r : Int) then 1 else 0) := cmul_l ⟨by omega, by omega⟩
    refine ⟨cm, ?_⟩
    have fin : ∀ (ts : List D) (c' n' : Int), (∀ t ∈ ts, isTr r zs t = true ∧ okT t ∧ ndT t ≤ ndB (r - 1) ∧ dpT t ≤ 2 * r ∧ DnT r t) → ts.length ≤ 2 → (r = 0 → ts = []) → PoolK n' → Kp (.val (.tuple [.list (zs.map .str), .list ts])) [.l [.int c', .int n']] := fun ts c' n' ht hl h0 pn' => by
      refine q _ c' n' (isTr_mk zpw zmk zhad fun t h => (ht t h).1) (okT_mk zmk (by omega) (fun t h => (ht t h).2.1) (by omega)) ?_ ?_ (by rw [mksD_mk zpw zmk]; exact zms) ⟨zs, ts, rfl, zpw, zmk, zlen, hl, fun t h => (ht t h).2.2.2.2⟩ pn'
      · rw [ndT_mk]
        have h1 := ndTs_le fun t h => (ht t h).2.2.1
        cases r with
        | zero =>
          rw [h0 rfl]
          simp only [ndTs, ndB]
          omega
        | succ r =>
          have h2 : ts.length * ndB r ≤ 2 * ndB r := Nat.mul_le_mul_right _ hl
          simp only [Nat.add_sub_cancel] at h1
          show _ ≤ 7 + 2 * ndB r
          omega
      · rw [dpT_mk]
        have h1 := dpTs_le fun t h => (ht t h).2.2.2.1
        omega
    simp only [t_Ltree_1, flatD, List.any_cons, List.any_nil, eqv_str, eqv_int, eqv_ti, eqv_it, eqv_st, eqv_ts, cut1, Bool.or_false, Bool.or_true, Bool.and_self, Bool.and_true, Bool.and_false, Bool.false_or, Bool.true_or, and_self, ofs_inj, ofs_app, ofs_len, String.reduceEq, String.reduceNe, String.reduceAppend, decide_true, decide_false, Bool.not_true, Bool.not_false, sz0, sz1, sz2, sz3, sz4, sz5, sz6, sz7, sz8, sz9, sz10, sz11, sz12, sz13, sz14, sz15, sz16, sz17, sz18, sz19, sz20, sz21, sz22, sz23, sz24, sz25, cpow1018, true_and, and_true, Nat.reduceAdd, Nat.reduceLT, Nat.reduceSub, Int.reduceNe, Int.reduceEq, Int.reduceLT, Int.reduceLE, Int.reduceToNat, ne_eq, not_false_eq_true, List.length_map, Nat.lt_irrefl, dV_nx, dV_rt, at0, at1, at2, at3, ix20, ix21, vSeq, vIfS, vTest, vTruth, truth, v2, v1, vN, vCons, vNil, vStar, vVar, vC, xIx, Vl.opI0, Vl.opI, pk, vSet, vAug, vAsg, xgSub, vRet, vRetN, vDrop, vBreak, vCont, asD, asDs, opMod, opDiv, opMul2, Vl.opAdd, Vl.opAddO, opSub, opPow, opLt, Vl.opLe, opGt, Vl.opGe, xEq, okEq_str, okEq_int, xIn, okIn, inD, xIsN, isNone_n, isNone_t, isNone_l, isNone_i, isNone_s, isMo, mob, pkm, gModI, gDivI, gSubI, gMulI, gPowI, gGt, gLt, gLe, gGe, vNotT, vAndT, vOrT, vAndV, vOrV, opNot, opNotG, vIfE, opTup, opLst, opLstO, Vl.opLen, Vl.opInt, opList, opListO, opTuple, opII, gMax, gMin, vM, vM0, isT, xPop, Vl.opAppend, opExtend, opJoin, vgName, vgTup, vgCons, vgNil, kOpt_some, kOpn_some, kOps_some, Vl.opSum, Vl.opInsert, Vl.opIndex, opDivmod, vSl, vPart, vNoPart, opSl, opSlO, opRev, opCallK, ownD, ownO, objs, renum, uniq, getS, putS, vCall0, vFor, vForW, En.wk, vSeqI, vTupI, vRng1, vRng2, vRngD, vFn, vCallL, vOdd, vWays, vEnum, vZip, chkOf, vLcK, vYes, finD, finO, En.wipe, wipeE, En.trim, trimS, dropNone, clr_n, clr_v, clr_k, clr_o, wth, Vl.ret, takeS, startV,  List.map_cons, List.map_nil, List.length_cons, List.length_nil, List.cons_append, List.nil_append, List.replicate, List.getElem?_cons_succ, List.getElem?_cons_zero, List.getElem?_nil, List.set_cons_succ, List.set_cons_zero, List.set_nil, List.all_nil, List.all_cons, Bool.true_and, Option.map_some, Option.map_none, if_true, if_false, decide_eq_true_eq, Bool.false_eq_true, List.take_succ_cons, List.take_zero, List.take_nil, List.drop_succ_cons, List.drop_zero, List.drop_nil, reduceIte, reduceCtorEq]
    have hw : (w * if 0 < (r : Int) then 1 else 0).toNat ≤ 2 ∧ (r = 0 → (w * if 0 < (r : Int) then 1 else 0).toNat = 0) := by
      split
      · rename_i hr0
        rw [Int.mul_one]
        exact ⟨by omega, fun h => by omega⟩
      · rw [Int.mul_zero]
        exact ⟨by decide, fun _ => rfl⟩
    generalize hW : (w * if 0 < (r : Int) then 1 else 0) = W at hw ⊢
    have wb : -1 < W ∧ W < 10 := by
      rw [← hW]
      split
      · rw [Int.mul_one]
        omega
      · rw [Int.mul_zero]
        omega
    refine ⟨by omega, by omega, ?_⟩
    refine cl_inv (chk := none) (fun i acc e => ∃ (c n : Int), acc.length = i ∧ (∀ t ∈ acc, isTr r zs t = true ∧ okT t ∧ ndT t ≤ ndB (r - 1) ∧ dpT t ≤ 2 * r ∧ DnT r t) ∧ PoolK n ∧ e = ⟨[some (.obj 0), some (.val (.list (ms.map .str))), some (.val (.list (had.map .str))), some (.val (.int (r : Nat))), some (.val (.list (zs.map .str))), some (.val (.int W)), none, none], [some (.l [.int c, .int n])]⟩) (fun _ _ _ _ _ => trivial) ?_ ?_ ⟨c2, n2, rfl, (fun t h => absurd h List.not_mem_nil), pn2, rfl⟩
    · rintro i d acc e Kt hd ⟨c, n, hl, ht, pn, rfl⟩ hK
      obtain ⟨hi, rfl⟩ := rng_at hd
      have rpos : r = (r - 1) + 1 := by
        rcases Nat.eq_zero_or_pos r with h | h
        · have := hw.2 h
          omega
        · omega
      simp only [flatD, List.any_cons, List.any_nil, eqv_str, eqv_int, eqv_ti, eqv_it, eqv_st, eqv_ts, cut1, Bool.or_false, Bool.or_true, Bool.and_self, Bool.and_true, Bool.and_false, Bool.false_or, Bool.true_or, and_self, ofs_inj, ofs_app, ofs_len, String.reduceEq, String.reduceNe, String.reduceAppend, decide_true, decide_false, Bool.not_true, Bool.not_false, sz0, sz1, sz2, sz3, sz4, sz5, sz6, sz7, sz8, sz9, sz10, sz11, sz12, sz13, sz14, sz15, sz16, sz17, sz18, sz19, sz20, sz21, sz22, sz23, sz24, sz25, cpow1018, true_and, and_true, Nat.reduceAdd, Nat.reduceLT, Nat.reduceSub, Int.reduceNe, Int.reduceEq, Int.reduceLT, Int.reduceLE, Int.reduceToNat, ne_eq, not_false_eq_true, List.length_map, Nat.lt_irrefl, dV_nx, dV_rt, at0, at1, at2, at3, ix20, ix21, vSeq, vIfS, vTest, vTruth, truth, v2, v1, vN, vCons, vNil, vStar, vVar, vC, xIx, Vl.opI0, Vl.opI, pk, vSet, vAug, vAsg, xgSub, vRet, vRetN, vDrop, vBreak, vCont, asD, asDs, opMod, opDiv, opMul2, Vl.opAdd, Vl.opAddO, opSub, opPow, opLt, Vl.opLe, opGt, Vl.opGe, xEq, okEq_str, okEq_int, xIn, okIn, inD, xIsN, isNone_n, isNone_t, isNone_l, isNone_i, isNone_s, isMo, mob, pkm, gModI, gDivI, gSubI, gMulI, gPowI, gGt, gLt, gLe, gGe, vNotT, vAndT, vOrT, vAndV, vOrV, opNot, opNotG, vIfE, opTup, opLst, opLstO, Vl.opLen, Vl.opInt, opList, opListO, opTuple, opII, gMax, gMin, vM, vM0, isT, xPop, Vl.opAppend, opExtend, opJoin, vgName, vgTup, vgCons, vgNil, kOpt_some, kOpn_some, kOps_some, Vl.opSum, Vl.opInsert, Vl.opIndex, opDivmod, vSl, vPart, vNoPart, opSl, opSlO, opRev, opCallK, ownD, ownO, objs, renum, uniq, getS, putS, vCall0, vFor, vForW, En.wk, vSeqI, vTupI, vRng1, vRng2, vRngD, vFn, vCallL, vOdd, vWays, vEnum, vZip, chkOf, vLcK, vYes, finD, finO, En.wipe, wipeE, En.trim, trimS, dropNone, clr_n, clr_v, clr_k, clr_o, wth, Vl.ret, takeS, startV,  List.map_cons, List.map_nil, List.length_cons, List.length_nil, List.cons_append, List.nil_append, List.replicate, List.getElem?_cons_succ, List.getElem?_cons_zero, List.getElem?_nil, List.set_cons_succ, List.set_cons_zero, List.set_nil, List.all_nil, List.all_cons, Bool.true_and, Option.map_some, Option.map_none, if_true, if_false, decide_eq_true_eq, Bool.false_eq_true, List.take_succ_cons, List.take_zero, List.take_nil, List.drop_succ_cons, List.drop_zero, List.drop_nil, reduceIte, reduceCtorEq]
      refine ⟨c, n, ms, zs, r - 1, by omega, by omega, by rw [show ((r : Int) - 1) = ((r - 1 : Nat) : Int) by omega], rfl, pn, hm, zms, fun t c' n' h1 h2 h3 h4 _ h5 pn' => ?_⟩
      simp only [flatD, List.any_cons, List.any_nil, eqv_str, eqv_int, eqv_ti, eqv_it, eqv_st, eqv_ts, cut1, Bool.or_false, Bool.or_true, Bool.and_self, Bool.and_true, Bool.and_false, Bool.false_or, Bool.true_or, and_self, ofs_inj, ofs_app, ofs_len, String.reduceEq, String.reduceNe, String.reduceAppend, decide_true, decide_false, Bool.not_true, Bool.not_false, sz0, sz1, sz2, sz3, sz4, sz5, sz6, sz7, sz8, sz9, sz10, sz11, sz12, sz13, sz14, sz15, sz16, sz17, sz18, sz19, sz20, sz21, sz22, sz23, sz24, sz25, cpow1018, true_and, and_true, Nat.reduceAdd, Nat.reduceLT, Nat.reduceSub, Int.reduceNe, Int.reduceEq, Int.reduceLT, Int.reduceLE, Int.reduceToNat, ne_eq, not_false_eq_true, List.length_map, Nat.lt_irrefl, dV_nx, dV_rt, at0, at1, at2, at3, ix20, ix21, vSeq, vIfS, vTest, vTruth, truth, v2, v1, vN, vCons, vNil, vStar, vVar, vC, xIx, Vl.opI0, Vl.opI, pk, vSet, vAug, vAsg, xgSub, vRet, vRetN, vDrop, vBreak, vCont, asD, asDs, opMod, opDiv, opMul2, Vl.opAdd, Vl.opAddO, opSub, opPow, opLt, Vl.opLe, opGt, Vl.opGe, xEq, okEq_str, okEq_int, xIn, okIn, inD, xIsN, isNone_n, isNone_t, isNone_l, isNone_i, isNone_s, isMo, mob, pkm, gModI, gDivI, gSubI, gMulI, gPowI, gGt, gLt, gLe, gGe, vNotT, vAndT, vOrT, vAndV, vOrV, opNot, opNotG, vIfE, opTup, opLst, opLstO, Vl.opLen, Vl.opInt, opList, opListO, opTuple, opII, gMax, gMin, vM, vM0, isT, xPop, Vl.opAppend, opExtend, opJoin, vgName, vgTup, vgCons, vgNil, kOpt_some, kOpn_some, kOps_some, Vl.opSum, Vl.opInsert, Vl.opIndex, opDivmod, vSl, vPart, vNoPart, opSl, opSlO, opRev, opCallK, ownD, ownO, objs, renum, uniq, getS, putS, vCall0, vFor, vForW, En.wk, vSeqI, vTupI, vRng1, vRng2, vRngD, vFn, vCallL, vOdd, vWays, vEnum, vZip, chkOf, vLcK, vYes, finD, finO, En.wipe, wipeE, En.trim, trimS, dropNone, clr_n, clr_v, clr_k, clr_o, wth, Vl.ret, takeS, startV,  List.map_cons, List.map_nil, List.length_cons, List.length_nil, List.cons_append, List.nil_append, List.replicate, List.getElem?_cons_succ, List.getElem?_cons_zero, List.getElem?_nil, List.set_cons_succ, List.set_cons_zero, List.set_nil, List.all_nil, List.all_cons, Bool.true_and, Option.map_some, Option.map_none, if_true, if_false, decide_eq_true_eq, Bool.false_eq_true, List.take_succ_cons, List.take_zero, List.take_nil, List.drop_succ_cons, List.drop_zero, List.drop_nil, reduceIte, reduceCtorEq]
      refine ⟨bigl (by omega), hK _ _ ⟨c', n', by rw [List.length_append, hl]; rfl, fun x hx => ?_, pn', rfl⟩⟩
      rcases List.mem_append.mp hx with hx | hx
      · exact ht x hx
      · rw [List.mem_singleton.mp hx]
        rw [← rpos] at h1 h5
        exact ⟨h1, h2, h3, by omega, h5⟩
    · rintro acc e ⟨c, n, hl, ht, pn, rfl⟩
      rw [rng_len] at hl
      simp only [flatD, List.any_cons, List.any_nil, eqv_str, eqv_int, eqv_ti, eqv_it, eqv_st, eqv_ts, cut1, Bool.or_false, Bool.or_true, Bool.and_self, Bool.and_true, Bool.and_false, Bool.false_or, Bool.true_or, and_self, ofs_inj, ofs_app, ofs_len, String.reduceEq, String.reduceNe, String.reduceAppend, decide_true, decide_false, Bool.not_true, Bool.not_false, sz0, sz1, sz2, sz3, sz4, sz5, sz6, sz7, sz8, sz9, sz10, sz11, sz12, sz13, sz14, sz15, sz16, sz17, sz18, sz19, sz20, sz21, sz22, sz23, sz24, sz25, cpow1018, true_and, and_true, Nat.reduceAdd, Nat.reduceLT, Nat.reduceSub, Int.reduceNe, Int.reduceEq, Int.reduceLT, Int.reduceLE, Int.reduceToNat, ne_eq, not_false_eq_true, List.length_map, Nat.lt_irrefl, dV_nx, dV_rt, at0, at1, at2, at3, ix20, ix21, vSeq, vIfS, vTest, vTruth, truth, v2, v1, vN, vCons, vNil, vStar, vVar, vC, xIx, Vl.opI0, Vl.opI, pk, vSet, vAug, vAsg, xgSub, vRet, vRetN, vDrop, vBreak, vCont, asD, asDs, opMod, opDiv, opMul2, Vl.opAdd, Vl.opAddO, opSub, opPow, opLt, Vl.opLe, opGt, Vl.opGe, xEq, okEq_str, okEq_int, xIn, okIn, inD, xIsN, isNone_n, isNone_t, isNone_l, isNone_i, isNone_s, isMo, mob, pkm, gModI, gDivI, gSubI, gMulI, gPowI, gGt, gLt, gLe, gGe, vNotT, vAndT, vOrT, vAndV, vOrV, opNot, opNotG, vIfE, opTup, opLst, opLstO, Vl.opLen, Vl.opInt, opList, opListO, opTuple, opII, gMax, gMin, vM, vM0, isT, xPop, Vl.opAppend, opExtend, opJoin, vgName, vgTup, vgCons, vgNil, kOpt_some, kOpn_some, kOps_some, Vl.opSum, Vl.opInsert, Vl.opIndex, opDivmod, vSl, vPart, vNoPart, opSl, opSlO, opRev, opCallK, ownD, ownO, objs, renum, uniq, getS, putS, vCall0, vFor, vForW, En.wk, vSeqI, vTupI, vRng1, vRng2, vRngD, vFn, vCallL, vOdd, vWays, vEnum, vZip, chkOf, vLcK, vYes, finD, finO, En.wipe, wipeE, En.trim, trimS, dropNone, clr_n, clr_v, clr_k, clr_o, wth, Vl.ret, takeS, startV,  List.map_cons, List.map_nil, List.length_cons, List.length_nil, List.cons_append, List.nil_append, List.replicate, List.getElem?_cons_succ, List.getElem?_cons_zero, List.getElem?_nil, List.set_cons_succ, List.set_cons_zero, List.set_nil, List.all_nil, List.all_cons, Bool.true_and, Option.map_some, Option.map_none, if_true, if_false, decide_eq_true_eq, Bool.false_eq_true, List.take_succ_cons, List.take_zero, List.take_nil, List.drop_succ_cons, List.drop_zero, List.drop_nil, reduceIte, reduceCtorEq]
      exact fin acc c n ht (by omega) (fun h => List.eq_nil_of_length_eq_zero (by rw [hl]; exact hw.2 h)) pn
end Kf
namespace Kf
open PySem L2 Vl PySem.Spec PyProof.Rows
inductive KIt where
  | sg (w : Str)
  | kd (k : Kd)
def KIt.enc : KIt → D
  | .sg w => .tuple [.str w]
  | .kd k => k.enc
def KIt.ok : KIt → Prop
  | .sg w => w ∈ (["(", "->", "*"] : List Str)
  | .kd _ => True
end Kf
namespace Kf
open PySem L2 Vl PySem.Spec PyProof.Rows
theorem cut_back {α : Type} (f : α → D) (S : List α) (k : Nat) (hk : 0 < k) : Vl.cut (S.map f) (some (-(k : Int))) none = (S.drop (S.length - k)).map f := by
  unfold Vl.cut
  rw [HT.sIx_none, List.length_map]
  have e : HT.sIx S.length 0 (some (-(k : Int))) = S.length - k := by
    unfold HT.sIx
    simp only
    rw [if_pos (by omega)]
    omega
  rw [e, List.map_drop]
  exact List.take_of_length_le (by rw [List.length_drop, List.length_map]; omega)
def closeK (S : List KIt) : Option (List KIt) := match S.drop (S.length - 4) with
  | [.sg l, .kd a, .sg w, .kd b] => if l = "(" then (if w = "->" then some (S.take (S.length - 4) ++ [.kd (.to a b)]) else if w = "*" then some (S.take (S.length - 4) ++ [.kd (.both a b)]) else none) else none
  | _ => none
def putK (S : List KIt) (w : Str) : Option (List KIt) :=
  if w ∈ (["(", "->", "*"] : List Str) then some (S ++ [.sg w]) else if w = "1" then some (S ++ [.kd .one]) else if isMk w = true then some (S ++ [.kd (.mark w)]) else if w = ")" then closeK S else none
end Kf
namespace Kf
open PySem L2 Vl PySem.Spec PyProof.Rows
abbrev oddL : List D := [.str "A", .str "", .str "a1", .str "abcdefg", .none, .int 5, .tuple [.str "a"], .str "a b", .str "zz"]
/-- any thing of bounded size -/
structure Any3 (a b : Nat) (d : D) : Prop where
  ok : okT d
  dp : dpT d ≤ a
  nd : ndT d ≤ b
theorem odd_any : ∀ d ∈ oddL, Any3 1 2 d := by
  intro d hd
  simp only [oddL, List.mem_cons, List.not_mem_nil, or_false] at hd
  rcases hd with rfl | rfl | rfl | rfl | rfl | rfl | rfl | rfl | rfl
  all_goals first
    | exact ⟨by unfold okT; exact ⟨by decide +kernel, by decide +kernel⟩, by decide +kernel, by decide +kernel⟩
    | exact ⟨by unfold okT; trivial, by decide +kernel, by decide +kernel⟩
    | exact ⟨by unfold okT okTs okTs okT; exact ⟨by decide, ⟨by decide +kernel, by decide +kernel⟩, trivial⟩, by decide +kernel, by decide +kernel⟩
theorem any_list {a b : Nat} {ds : List D} (h : ∀ d ∈ ds, Any3 a b d) (hl : ds.length ≤ 3000) : Any3 (1 + a) (1 + ds.length * b) (.list ds) := by
  refine ⟨?_, ?_, ?_⟩
  · unfold okT
    exact ⟨hl, okTs_of fun d hd => (h d hd).ok⟩
  · unfold dpT
    have := dpTs_le fun d hd => (h d hd).dp
    omega
  · unfold ndT
    have := ndTs_le fun d hd => (h d hd).nd
    omega
theorem any_tup {a b : Nat} {ds : List D} (h : ∀ d ∈ ds, Any3 a b d) (hl : ds.length ≤ 3000) : Any3 (1 + a) (1 + ds.length * b) (.tuple ds) := by
  refine ⟨?_, ?_, ?_⟩
  · unfold okT
    exact ⟨hl, okTs_of fun d hd => (h d hd).ok⟩
  · unfold dpT
    have := dpTs_le fun d hd => (h d hd).dp
    omega
  · unfold ndT
    have := ndTs_le fun d hd => (h d hd).nd
    omega
theorem Any3.le {a b a' b' : Nat} {d : D} (h : Any3 a b d) (ha : a ≤ a') (hb : b ≤ b') : Any3 a' b' d := ⟨h.ok, Nat.le_trans h.dp ha, Nat.le_trans h.nd hb⟩
theorem str_any {m : Str} (h : IsMk m) : Any3 1 2 (.str m) := ⟨mk_ok h, Nat.zero_le _, by show 1 ≤ 2; decide⟩
theorem cut_mem {ds : List D} {lo hi : Option Int} {d : D} (h : d ∈ Vl.cut ds lo hi) : d ∈ ds := List.mem_of_mem_drop (List.mem_of_mem_take h)
theorem cut_le (ds : List D) (lo hi : Option Int) : (Vl.cut ds lo hi).length ≤ ds.length := by
  unfold Vl.cut
  rw [List.length_take, List.length_drop]
  omega
theorem at_mem {ds : List D} {r : Int} (h0 : 0 ≤ r) (h1 : r < ds.length) : ∃ d, atI ds r = some d ∧ d ∈ ds := by
  obtain ⟨n, rfl⟩ : ∃ n : Nat, r = n := ⟨r.toNat, by omega⟩
  have hn : n < ds.length := by omega
  exact ⟨ds[n], atI_nat (List.getElem?_eq_getElem hn), List.getElem_mem hn⟩
def pBm : VSp := fun ss st Kp => ∃ (c n : Int) (ms : List Str), ss = [.val (.list (ms.map .str)), .obj 0] ∧ st = [.l [.int c, .int n]] ∧ PoolK n ∧ ms.length ≤ 4 ∧ (∀ m ∈ ms, IsMk m) ∧ ∀ (d : D) (c' n' : Int), Any3 2 20 d → PoolK n' → Kp (.val d) [.l [.int c', .int n']]
theorem r_Bm {ss cs Kp} (h : pBm ss cs Kp) : t_Lbentmarks pTake (dV cs.length Kp) ⟨startV 5 ss, cs.map some⟩ := by
  obtain ⟨c, n, ms, rfl, rfl, pn, hl, hm, q⟩ := h
  simp only [t_Lbentmarks, t_Lbentmarks_12, pTake, flatD, List.any_cons, List.any_nil, eqv_str, eqv_int, eqv_ti, eqv_it, eqv_st, eqv_ts, cut1, Bool.or_false, Bool.or_true, Bool.and_self, Bool.and_true, Bool.and_false, Bool.false_or, Bool.true_or, and_self, ofs_inj, ofs_app, ofs_len, String.reduceEq, String.reduceNe, String.reduceAppend, decide_true, decide_false, Bool.not_true, Bool.not_false, sz0, sz1, sz2, sz3, sz4, sz5, sz6, sz7, sz8, sz9, sz10, sz11, sz12, sz13, sz14, sz15, sz16, sz17, sz18, sz19, sz20, sz21, sz22, sz23, sz24, sz25, cpow1018, true_and, and_true, Nat.reduceAdd, Nat.reduceLT, Nat.reduceSub, Int.reduceNe, Int.reduceEq, Int.reduceLT, Int.reduceLE, Int.reduceToNat, ne_eq, not_false_eq_true, List.length_map, Nat.lt_irrefl, dV_nx, dV_rt, at0, at1, at2, at3, ix20, ix21, vSeq, vIfS, vTest, vTruth, truth, v2, v1, vN, vCons, vNil, vStar, vVar, vC, xIx, Vl.opI0, Vl.opI, pk, vSet, vAug, vAsg, xgSub, vRet, vRetN, vDrop, vBreak, vCont, asD, asDs, opMod, opDiv, opMul2, Vl.opAdd, Vl.opAddO, opSub, opPow, opLt, Vl.opLe, opGt, Vl.opGe, xEq, okEq_str, okEq_int, xIn, okIn, inD, xIsN, isNone_n, isNone_t, isNone_l, isNone_i, isNone_s, isMo, mob, pkm, gModI, gDivI, gSubI, gMulI, gPowI, gGt, gLt, gLe, gGe, vNotT, vAndT, vOrT, vAndV, vOrV, opNot, opNotG, vIfE, opTup, opLst, opLstO, Vl.opLen, Vl.opInt, opList, opListO, opTuple, opII, gMax, gMin, vM, vM0, isT, xPop, Vl.opAppend, opExtend, opJoin, vgName, vgTup, vgCons, vgNil, kOpt_some, kOpn_some, kOps_some, Vl.opSum, Vl.opInsert, Vl.opIndex, opDivmod, vSl, vPart, vNoPart, opSl, opSlO, opRev, opCallK, ownD, ownO, objs, renum, uniq, getS, putS, vCall0, vFor, vForW, En.wk, vSeqI, vTupI, vRng1, vRng2, vRngD, vFn, vCallL, vOdd, vWays, vEnum, vZip, chkOf, vLcK, vYes, finD, finO, En.wipe, wipeE, En.trim, trimS, dropNone, clr_n, clr_v, clr_k, clr_o, wth, Vl.ret, takeS, startV,  List.map_cons, List.map_nil, List.length_cons, List.length_nil, List.cons_append, List.nil_append, List.replicate, List.getElem?_cons_succ, List.getElem?_cons_zero, List.getElem?_nil, List.set_cons_succ, List.set_cons_zero, List.set_nil, List.all_nil, List.all_cons, Bool.true_and, Option.map_some, Option.map_none, if_true, if_false, decide_eq_true_eq, Bool.false_eq_true, List.take_succ_cons, List.take_zero, List.take_nil, List.drop_succ_cons, List.drop_zero, List.drop_nil, reduceIte, reduceCtorEq]
  refine ⟨pn, by omega, by omega, fun at_ c1 n1 a0 a1 pn1 => ?_⟩
  simp only [t_Lbentmarks_11, t_Lbentmarks_10, pTake, flatD, List.any_cons, List.any_nil, eqv_str, eqv_int, eqv_ti, eqv_it, eqv_st, eqv_ts, cut1, Bool.or_false, Bool.or_true, Bool.and_self, Bool.and_true, Bool.and_false, Bool.false_or, Bool.true_or, and_self, ofs_inj, ofs_app, ofs_len, String.reduceEq, String.reduceNe, String.reduceAppend, decide_true, decide_false, Bool.not_true, Bool.not_false, sz0, sz1, sz2, sz3, sz4, sz5, sz6, sz7, sz8, sz9, sz10, sz11, sz12, sz13, sz14, sz15, sz16, sz17, sz18, sz19, sz20, sz21, sz22, sz23, sz24, sz25, cpow1018, true_and, and_true, Nat.reduceAdd, Nat.reduceLT, Nat.reduceSub, Int.reduceNe, Int.reduceEq, Int.reduceLT, Int.reduceLE, Int.reduceToNat, ne_eq, not_false_eq_true, List.length_map, Nat.lt_irrefl, dV_nx, dV_rt, at0, at1, at2, at3, ix20, ix21, vSeq, vIfS, vTest, vTruth, truth, v2, v1, vN, vCons, vNil, vStar, vVar, vC, xIx, Vl.opI0, Vl.opI, pk, vSet, vAug, vAsg, xgSub, vRet, vRetN, vDrop, vBreak, vCont, asD, asDs, opMod, opDiv, opMul2, Vl.opAdd, Vl.opAddO, opSub, opPow, opLt, Vl.opLe, opGt, Vl.opGe, xEq, okEq_str, okEq_int, xIn, okIn, inD, xIsN, isNone_n, isNone_t, isNone_l, isNone_i, isNone_s, isMo, mob, pkm, gModI, gDivI, gSubI, gMulI, gPowI, gGt, gLt, gLe, gGe, vNotT, vAndT, vOrT, vAndV, vOrV, opNot, opNotG, vIfE, opTup, opLst, opLstO, Vl.opLen, Vl.opInt, opList, opListO, opTuple, opII, gMax, gMin, vM, vM0, isT, xPop, Vl.opAppend, opExtend, opJoin, vgName, vgTup, vgCons, vgNil, kOpt_some, kOpn_some, kOps_some, Vl.opSum, Vl.opInsert, Vl.opIndex, opDivmod, vSl, vPart, vNoPart, opSl, opSlO, opRev, opCallK, ownD, ownO, objs, renum, uniq, getS, putS, vCall0, vFor, vForW, En.wk, vSeqI, vTupI, vRng1, vRng2, vRngD, vFn, vCallL, vOdd, vWays, vEnum, vZip, chkOf, vLcK, vYes, finD, finO, En.wipe, wipeE, En.trim, trimS, dropNone, clr_n, clr_v, clr_k, clr_o, wth, Vl.ret, takeS, startV,  List.map_cons, List.map_nil, List.length_cons, List.length_nil, List.cons_append, List.nil_append, List.replicate, List.getElem?_cons_succ, List.getElem?_cons_zero, List.getElem?_nil, List.set_cons_succ, List.set_cons_zero, List.set_nil, List.all_nil, List.all_cons, Bool.true_and, Option.map_some, Option.map_none, if_true, if_false, decide_eq_true_eq, Bool.false_eq_true, List.take_succ_cons, List.take_zero, List.take_nil, List.drop_succ_cons, List.drop_zero, List.drop_nil, reduceIte, reduceCtorEq]
  refine ⟨pn1, fun w c2 n2 w0 w1 pn2 => ?_⟩
  have fin : ∀ (ds : List D) (c' n' : Int), (∀ d ∈ ds, Any3 1 2 d) → ds.length ≤ 7 → PoolK n' → Kp (.val (.list ds)) [.l [.int c', .int n']] := fun ds c' n' h hl pn' => q _ c' n' ((any_list h (by omega)).le (by omega) (by omega)) pn'
  have am : ∀ d ∈ ms.map PyData.str, Any3 1 2 d := fun d hd => by
    obtain ⟨m, hm', rfl⟩ := List.mem_map.mp hd
    exact str_any (hm m hm')
  have sub : ∀ (xs : List Str), xs.Sublist ms → ∀ d ∈ xs.map PyData.str, Any3 1 2 d := fun xs hs d hd => by
    obtain ⟨m, hm', rfl⟩ := List.mem_map.mp hd
    exact str_any (hm m (hs.subset hm'))
  simp only [t_Lbentmarks_9, flatD, List.any_cons, List.any_nil, eqv_str, eqv_int, eqv_ti, eqv_it, eqv_st, eqv_ts, cut1, Bool.or_false, Bool.or_true, Bool.and_self, Bool.and_true, Bool.and_false, Bool.false_or, Bool.true_or, and_self, ofs_inj, ofs_app, ofs_len, String.reduceEq, String.reduceNe, String.reduceAppend, decide_true, decide_false, Bool.not_true, Bool.not_false, sz0, sz1, sz2, sz3, sz4, sz5, sz6, sz7, sz8, sz9, sz10, sz11, sz12, sz13, sz14, sz15, sz16, sz17, sz18, sz19, sz20, sz21, sz22, sz23, sz24, sz25, cpow1018, true_and, and_true, Nat.reduceAdd, Nat.reduceLT, Nat.reduceSub, Int.reduceNe, Int.reduceEq, Int.reduceLT, Int.reduceLE, Int.reduceToNat, ne_eq, not_false_eq_true, List.length_map, Nat.lt_irrefl, dV_nx, dV_rt, at0, at1, at2, at3, ix20, ix21, vSeq, vIfS, vTest, vTruth, truth, v2, v1, vN, vCons, vNil, vStar, vVar, vC, xIx, Vl.opI0, Vl.opI, pk, vSet, vAug, vAsg, xgSub, vRet, vRetN, vDrop, vBreak, vCont, asD, asDs, opMod, opDiv, opMul2, Vl.opAdd, Vl.opAddO, opSub, opPow, opLt, Vl.opLe, opGt, Vl.opGe, xEq, okEq_str, okEq_int, xIn, okIn, inD, xIsN, isNone_n, isNone_t, isNone_l, isNone_i, isNone_s, isMo, mob, pkm, gModI, gDivI, gSubI, gMulI, gPowI, gGt, gLt, gLe, gGe, vNotT, vAndT, vOrT, vAndV, vOrV, opNot, opNotG, vIfE, opTup, opLst, opLstO, Vl.opLen, Vl.opInt, opList, opListO, opTuple, opII, gMax, gMin, vM, vM0, isT, xPop, Vl.opAppend, opExtend, opJoin, vgName, vgTup, vgCons, vgNil, kOpt_some, kOpn_some, kOps_some, Vl.opSum, Vl.opInsert, Vl.opIndex, opDivmod, vSl, vPart, vNoPart, opSl, opSlO, opRev, opCallK, ownD, ownO, objs, renum, uniq, getS, putS, vCall0, vFor, vForW, En.wk, vSeqI, vTupI, vRng1, vRng2, vRngD, vFn, vCallL, vOdd, vWays, vEnum, vZip, chkOf, vLcK, vYes, finD, finO, En.wipe, wipeE, En.trim, trimS, dropNone, clr_n, clr_v, clr_k, clr_o, wth, Vl.ret, takeS, startV,  List.map_cons, List.map_nil, List.length_cons, List.length_nil, List.cons_append, List.nil_append, List.replicate, List.getElem?_cons_succ, List.getElem?_cons_zero, List.getElem?_nil, List.set_cons_succ, List.set_cons_zero, List.set_nil, List.all_nil, List.all_cons, Bool.true_and, Option.map_some, Option.map_none, if_true, if_false, decide_eq_true_eq, Bool.false_eq_true, List.take_succ_cons, List.take_zero, List.take_nil, List.drop_succ_cons, List.drop_zero, List.drop_nil, reduceIte, reduceCtorEq]
  split
  · simp only [t_Lbentmarks_1, pTake, flatD, List.any_cons, List.any_nil, eqv_str, eqv_int, eqv_ti, eqv_it, eqv_st, eqv_ts, cut1, Bool.or_false, Bool.or_true, Bool.and_self, Bool.and_true, Bool.and_false, Bool.false_or, Bool.true_or, and_self, ofs_inj, ofs_app, ofs_len, String.reduceEq, String.reduceNe, String.reduceAppend, decide_true, decide_false, Bool.not_true, Bool.not_false, sz0, sz1, sz2, sz3, sz4, sz5, sz6, sz7, sz8, sz9, sz10, sz11, sz12, sz13, sz14, sz15, sz16, sz17, sz18, sz19, sz20, sz21, sz22, sz23, sz24, sz25, cpow1018, true_and, and_true, Nat.reduceAdd, Nat.reduceLT, Nat.reduceSub, Int.reduceNe, Int.reduceEq, Int.reduceLT, Int.reduceLE, Int.reduceToNat, ne_eq, not_false_eq_true, List.length_map, Nat.lt_irrefl, dV_nx, dV_rt, at0, at1, at2, at3, ix20, ix21, vSeq, vIfS, vTest, vTruth, truth, v2, v1, vN, vCons, vNil, vStar, vVar, vC, xIx, Vl.opI0, Vl.opI, pk, vSet, vAug, vAsg, xgSub, vRet, vRetN, vDrop, vBreak, vCont, asD, asDs, opMod, opDiv, opMul2, Vl.opAdd, Vl.opAddO, opSub, opPow, opLt, Vl.opLe, opGt, Vl.opGe, xEq, okEq_str, okEq_int, xIn, okIn, inD, xIsN, isNone_n, isNone_t, isNone_l, isNone_i, isNone_s, isMo, mob, pkm, gModI, gDivI, gSubI, gMulI, gPowI, gGt, gLt, gLe, gGe, vNotT, vAndT, vOrT, vAndV, vOrV, opNot, opNotG, vIfE, opTup, opLst, opLstO, Vl.opLen, Vl.opInt, opList, opListO, opTuple, opII, gMax, gMin, vM, vM0, isT, xPop, Vl.opAppend, opExtend, opJoin, vgName, vgTup, vgCons, vgNil, kOpt_some, kOpn_some, kOps_some, Vl.opSum, Vl.opInsert, Vl.opIndex, opDivmod, vSl, vPart, vNoPart, opSl, opSlO, opRev, opCallK, ownD, ownO, objs, renum, uniq, getS, putS, vCall0, vFor, vForW, En.wk, vSeqI, vTupI, vRng1, vRng2, vRngD, vFn, vCallL, vOdd, vWays, vEnum, vZip, chkOf, vLcK, vYes, finD, finO, En.wipe, wipeE, En.trim, trimS, dropNone, clr_n, clr_v, clr_k, clr_o, wth, Vl.ret, takeS, startV,  List.map_cons, List.map_nil, List.length_cons, List.length_nil, List.cons_append, List.nil_append, List.replicate, List.getElem?_cons_succ, List.getElem?_cons_zero, List.getElem?_nil, List.set_cons_succ, List.set_cons_zero, List.set_nil, List.all_nil, List.all_cons, Bool.true_and, Option.map_some, Option.map_none, if_true, if_false, decide_eq_true_eq, Bool.false_eq_true, List.take_succ_cons, List.take_zero, List.take_nil, List.drop_succ_cons, List.drop_zero, List.drop_nil, reduceIte, reduceCtorEq]
    refine ⟨pn2, fun x c3 n3 x0 x1 pn3 => ?_⟩
    obtain ⟨o, ho, hom⟩ := at_mem (ds := oddL) x0 x1
    simp only [ho, kOpt_some]
    have l1 := cut_le (ms.map PyData.str) none (some at_)
    have l2 := cut_le (ms.map PyData.str) (some at_) none
    rw [List.length_map] at l1 l2
    have m1 : ∀ d ∈ Vl.cut (ms.map PyData.str) none (some at_) ++ [o] ++ Vl.cut (ms.map PyData.str) (some at_) none, Any3 1 2 d := fun d hd => by
      rcases List.mem_append.mp hd with hd | hd
      · rcases List.mem_append.mp hd with hd | hd
        · exact am d (cut_mem hd)
        · rw [List.mem_singleton.mp hd]
          exact odd_any o hom
      · exact am d (cut_mem hd)
    refine ⟨big (by omega), big (by rw [List.length_append, List.length_singleton]; omega), q _ _ _ ((any_list m1 (by rw [List.length_append, List.length_append, List.length_singleton]; omega)).le (Nat.le_refl _) ?_) pn3⟩
    have l3 : (Vl.cut (ms.map PyData.str) none (some at_)).length + (Vl.cut (ms.map PyData.str) (some at_) none).length ≤ 6 := by
      have e1 : at_ = ((at_.toNat : Nat) : Int) := by omega
      unfold Vl.cut
      rw [List.length_take, List.length_drop, List.length_take, List.length_drop, List.length_map]
      have h1 : HT.sIx ms.length 0 none = 0 := rfl
      have h2 : HT.sIx ms.length ms.length none = ms.length := rfl
      rw [h1, h2]
      have h3 : HT.sIx ms.length ms.length (some at_) = HT.sIx ms.length 0 (some at_) := rfl
      rw [h3]
      omega
    rw [List.length_append, List.length_append, List.length_singleton]
    omega
  · rw [vNext_mk]
    simp only [t_Lbentmarks_8, flatD, List.any_cons, List.any_nil, eqv_str, eqv_int, eqv_ti, eqv_it, eqv_st, eqv_ts, cut1, Bool.or_false, Bool.or_true, Bool.and_self, Bool.and_true, Bool.and_false, Bool.false_or, Bool.true_or, and_self, ofs_inj, ofs_app, ofs_len, String.reduceEq, String.reduceNe, String.reduceAppend, decide_true, decide_false, Bool.not_true, Bool.not_false, sz0, sz1, sz2, sz3, sz4, sz5, sz6, sz7, sz8, sz9, sz10, sz11, sz12, sz13, sz14, sz15, sz16, sz17, sz18, sz19, sz20, sz21, sz22, sz23, sz24, sz25, cpow1018, true_and, and_true, Nat.reduceAdd, Nat.reduceLT, Nat.reduceSub, Int.reduceNe, Int.reduceEq, Int.reduceLT, Int.reduceLE, Int.reduceToNat, ne_eq, not_false_eq_true, List.length_map, Nat.lt_irrefl, dV_nx, dV_rt, at0, at1, at2, at3, ix20, ix21, vSeq, vIfS, vTest, vTruth, truth, v2, v1, vN, vCons, vNil, vStar, vVar, vC, xIx, Vl.opI0, Vl.opI, pk, vSet, vAug, vAsg, xgSub, vRet, vRetN, vDrop, vBreak, vCont, asD, asDs, opMod, opDiv, opMul2, Vl.opAdd, Vl.opAddO, opSub, opPow, opLt, Vl.opLe, opGt, Vl.opGe, xEq, okEq_str, okEq_int, xIn, okIn, inD, xIsN, isNone_n, isNone_t, isNone_l, isNone_i, isNone_s, isMo, mob, pkm, gModI, gDivI, gSubI, gMulI, gPowI, gGt, gLt, gLe, gGe, vNotT, vAndT, vOrT, vAndV, vOrV, opNot, opNotG, vIfE, opTup, opLst, opLstO, Vl.opLen, Vl.opInt, opList, opListO, opTuple, opII, gMax, gMin, vM, vM0, isT, xPop, Vl.opAppend, opExtend, opJoin, vgName, vgTup, vgCons, vgNil, kOpt_some, kOpn_some, kOps_some, Vl.opSum, Vl.opInsert, Vl.opIndex, opDivmod, vSl, vPart, vNoPart, opSl, opSlO, opRev, opCallK, ownD, ownO, objs, renum, uniq, getS, putS, vCall0, vFor, vForW, En.wk, vSeqI, vTupI, vRng1, vRng2, vRngD, vFn, vCallL, vOdd, vWays, vEnum, vZip, chkOf, vLcK, vYes, finD, finO, En.wipe, wipeE, En.trim, trimS, dropNone, clr_n, clr_v, clr_k, clr_o, wth, Vl.ret, takeS, startV,  List.map_cons, List.map_nil, List.length_cons, List.length_nil, List.cons_append, List.nil_append, List.replicate, List.getElem?_cons_succ, List.getElem?_cons_zero, List.getElem?_nil, List.set_cons_succ, List.set_cons_zero, List.set_nil, List.all_nil, List.all_cons, Bool.true_and, Option.map_some, Option.map_none, if_true, if_false, decide_eq_true_eq, Bool.false_eq_true, List.take_succ_cons, List.take_zero, List.take_nil, List.drop_succ_cons, List.drop_zero, List.drop_nil, reduceIte, reduceCtorEq]
    split
    · simp only [t_Lbentmarks_2, flatD, List.any_cons, List.any_nil, eqv_str, eqv_int, eqv_ti, eqv_it, eqv_st, eqv_ts, cut1, Bool.or_false, Bool.or_true, Bool.and_self, Bool.and_true, Bool.and_false, Bool.false_or, Bool.true_or, and_self, ofs_inj, ofs_app, ofs_len, String.reduceEq, String.reduceNe, String.reduceAppend, decide_true, decide_false, Bool.not_true, Bool.not_false, sz0, sz1, sz2, sz3, sz4, sz5, sz6, sz7, sz8, sz9, sz10, sz11, sz12, sz13, sz14, sz15, sz16, sz17, sz18, sz19, sz20, sz21, sz22, sz23, sz24, sz25, cpow1018, true_and, and_true, Nat.reduceAdd, Nat.reduceLT, Nat.reduceSub, Int.reduceNe, Int.reduceEq, Int.reduceLT, Int.reduceLE, Int.reduceToNat, ne_eq, not_false_eq_true, List.length_map, Nat.lt_irrefl, dV_nx, dV_rt, at0, at1, at2, at3, ix20, ix21, vSeq, vIfS, vTest, vTruth, truth, v2, v1, vN, vCons, vNil, vStar, vVar, vC, xIx, Vl.opI0, Vl.opI, pk, vSet, vAug, vAsg, xgSub, vRet, vRetN, vDrop, vBreak, vCont, asD, asDs, opMod, opDiv, opMul2, Vl.opAdd, Vl.opAddO, opSub, opPow, opLt, Vl.opLe, opGt, Vl.opGe, xEq, okEq_str, okEq_int, xIn, okIn, inD, xIsN, isNone_n, isNone_t, isNone_l, isNone_i, isNone_s, isMo, mob, pkm, gModI, gDivI, gSubI, gMulI, gPowI, gGt, gLt, gLe, gGe, vNotT, vAndT, vOrT, vAndV, vOrV, opNot, opNotG, vIfE, opTup, opLst, opLstO, Vl.opLen, Vl.opInt, opList, opListO, opTuple, opII, gMax, gMin, vM, vM0, isT, xPop, Vl.opAppend, opExtend, opJoin, vgName, vgTup, vgCons, vgNil, kOpt_some, kOpn_some, kOps_some, Vl.opSum, Vl.opInsert, Vl.opIndex, opDivmod, vSl, vPart, vNoPart, opSl, opSlO, opRev, opCallK, ownD, ownO, objs, renum, uniq, getS, putS, vCall0, vFor, vForW, En.wk, vSeqI, vTupI, vRng1, vRng2, vRngD, vFn, vCallL, vOdd, vWays, vEnum, vZip, chkOf, vLcK, vYes, finD, finO, En.wipe, wipeE, En.trim, trimS, dropNone, clr_n, clr_v, clr_k, clr_o, wth, Vl.ret, takeS, startV,  List.map_cons, List.map_nil, List.length_cons, List.length_nil, List.cons_append, List.nil_append, List.replicate, List.getElem?_cons_succ, List.getElem?_cons_zero, List.getElem?_nil, List.set_cons_succ, List.set_cons_zero, List.set_nil, List.all_nil, List.all_cons, Bool.true_and, Option.map_some, Option.map_none, if_true, if_false, decide_eq_true_eq, Bool.false_eq_true, List.take_succ_cons, List.take_zero, List.take_nil, List.drop_succ_cons, List.drop_zero, List.drop_nil, reduceIte, reduceCtorEq]
      have l1 := cut_le (ms.map PyData.str) none (some at_)
      have l2 := cut_le (ms.map PyData.str) (some (at_ + 1)) none
      rw [List.length_map] at l1 l2
      have m1 : ∀ d ∈ Vl.cut (ms.map PyData.str) none (some at_) ++ Vl.cut (ms.map PyData.str) (some (at_ + 1)) none, Any3 1 2 d := fun d hd => by
        rcases List.mem_append.mp hd with hd | hd
        · exact am d (cut_mem hd)
        · exact am d (cut_mem hd)
      refine ⟨big (by omega), q _ _ _ ((any_list m1 (by rw [List.length_append]; omega)).le (Nat.le_refl _) ?_) pn2⟩
      rw [List.length_append]
      omega
    · rw [vNext_mk]
      simp only [t_Lbentmarks_7, flatD, List.any_cons, List.any_nil, eqv_str, eqv_int, eqv_ti, eqv_it, eqv_st, eqv_ts, cut1, Bool.or_false, Bool.or_true, Bool.and_self, Bool.and_true, Bool.and_false, Bool.false_or, Bool.true_or, and_self, ofs_inj, ofs_app, ofs_len, String.reduceEq, String.reduceNe, String.reduceAppend, decide_true, decide_false, Bool.not_true, Bool.not_false, sz0, sz1, sz2, sz3, sz4, sz5, sz6, sz7, sz8, sz9, sz10, sz11, sz12, sz13, sz14, sz15, sz16, sz17, sz18, sz19, sz20, sz21, sz22, sz23, sz24, sz25, cpow1018, true_and, and_true, Nat.reduceAdd, Nat.reduceLT, Nat.reduceSub, Int.reduceNe, Int.reduceEq, Int.reduceLT, Int.reduceLE, Int.reduceToNat, ne_eq, not_false_eq_true, List.length_map, Nat.lt_irrefl, dV_nx, dV_rt, at0, at1, at2, at3, ix20, ix21, vSeq, vIfS, vTest, vTruth, truth, v2, v1, vN, vCons, vNil, vStar, vVar, vC, xIx, Vl.opI0, Vl.opI, pk, vSet, vAug, vAsg, xgSub, vRet, vRetN, vDrop, vBreak, vCont, asD, asDs, opMod, opDiv, opMul2, Vl.opAdd, Vl.opAddO, opSub, opPow, opLt, Vl.opLe, opGt, Vl.opGe, xEq, okEq_str, okEq_int, xIn, okIn, inD, xIsN, isNone_n, isNone_t, isNone_l, isNone_i, isNone_s, isMo, mob, pkm, gModI, gDivI, gSubI, gMulI, gPowI, gGt, gLt, gLe, gGe, vNotT, vAndT, vOrT, vAndV, vOrV, opNot, opNotG, vIfE, opTup, opLst, opLstO, Vl.opLen, Vl.opInt, opList, opListO, opTuple, opII, gMax, gMin, vM, vM0, isT, xPop, Vl.opAppend, opExtend, opJoin, vgName, vgTup, vgCons, vgNil, kOpt_some, kOpn_some, kOps_some, Vl.opSum, Vl.opInsert, Vl.opIndex, opDivmod, vSl, vPart, vNoPart, opSl, opSlO, opRev, opCallK, ownD, ownO, objs, renum, uniq, getS, putS, vCall0, vFor, vForW, En.wk, vSeqI, vTupI, vRng1, vRng2, vRngD, vFn, vCallL, vOdd, vWays, vEnum, vZip, chkOf, vLcK, vYes, finD, finO, En.wipe, wipeE, En.trim, trimS, dropNone, clr_n, clr_v, clr_k, clr_o, wth, Vl.ret, takeS, startV,  List.map_cons, List.map_nil, List.length_cons, List.length_nil, List.cons_append, List.nil_append, List.replicate, List.getElem?_cons_succ, List.getElem?_cons_zero, List.getElem?_nil, List.set_cons_succ, List.set_cons_zero, List.set_nil, List.all_nil, List.all_cons, Bool.true_and, Option.map_some, Option.map_none, if_true, if_false, decide_eq_true_eq, Bool.false_eq_true, List.take_succ_cons, List.take_zero, List.take_nil, List.drop_succ_cons, List.drop_zero, List.drop_nil, reduceIte, reduceCtorEq]
      split
      · simp only [t_Lbentmarks_3, flatD, List.any_cons, List.any_nil, eqv_str, eqv_int, eqv_ti, eqv_it, eqv_st, eqv_ts, cut1, Bool.or_false, Bool.or_true, Bool.and_self, Bool.and_true, Bool.and_false, Bool.false_or, Bool.true_or, and_self, ofs_inj, ofs_app, ofs_len, String.reduceEq, String.reduceNe, String.reduceAppend, decide_true, decide_false, Bool.not_true, Bool.not_false, sz0, sz1, sz2, sz3, sz4, sz5, sz6, sz7, sz8, sz9, sz10, sz11, sz12, sz13, sz14, sz15, sz16, sz17, sz18, sz19, sz20, sz21, sz22, sz23, sz24, sz25, cpow1018, true_and, and_true, Nat.reduceAdd, Nat.reduceLT, Nat.reduceSub, Int.reduceNe, Int.reduceEq, Int.reduceLT, Int.reduceLE, Int.reduceToNat, ne_eq, not_false_eq_true, List.length_map, Nat.lt_irrefl, dV_nx, dV_rt, at0, at1, at2, at3, ix20, ix21, vSeq, vIfS, vTest, vTruth, truth, v2, v1, vN, vCons, vNil, vStar, vVar, vC, xIx, Vl.opI0, Vl.opI, pk, vSet, vAug, vAsg, xgSub, vRet, vRetN, vDrop, vBreak, vCont, asD, asDs, opMod, opDiv, opMul2, Vl.opAdd, Vl.opAddO, opSub, opPow, opLt, Vl.opLe, opGt, Vl.opGe, xEq, okEq_str, okEq_int, xIn, okIn, inD, xIsN, isNone_n, isNone_t, isNone_l, isNone_i, isNone_s, isMo, mob, pkm, gModI, gDivI, gSubI, gMulI, gPowI, gGt, gLt, gLe, gGe, vNotT, vAndT, vOrT, vAndV, vOrV, opNot, opNotG, vIfE, opTup, opLst, opLstO, Vl.opLen, Vl.opInt, opList, opListO, opTuple, opII, gMax, gMin, vM, vM0, isT, xPop, Vl.opAppend, opExtend, opJoin, vgName, vgTup, vgCons, vgNil, kOpt_some, kOpn_some, kOps_some, Vl.opSum, Vl.opInsert, Vl.opIndex, opDivmod, vSl, vPart, vNoPart, opSl, opSlO, opRev, opCallK, ownD, ownO, objs, renum, uniq, getS, putS, vCall0, vFor, vForW, En.wk, vSeqI, vTupI, vRng1, vRng2, vRngD, vFn, vCallL, vOdd, vWays, vEnum, vZip, chkOf, vLcK, vYes, finD, finO, En.wipe, wipeE, En.trim, trimS, dropNone, clr_n, clr_v, clr_k, clr_o, wth, Vl.ret, takeS, startV,  List.map_cons, List.map_nil, List.length_cons, List.length_nil, List.cons_append, List.nil_append, List.replicate, List.getElem?_cons_succ, List.getElem?_cons_zero, List.getElem?_nil, List.set_cons_succ, List.set_cons_zero, List.set_nil, List.all_nil, List.all_cons, Bool.true_and, Option.map_some, Option.map_none, if_true, if_false, decide_eq_true_eq, Bool.false_eq_true, List.take_succ_cons, List.take_zero, List.take_nil, List.drop_succ_cons, List.drop_zero, List.drop_nil, reduceIte, reduceCtorEq]
        have m1 : ∀ d ∈ (ms.map PyData.str).reverse, Any3 1 2 d := fun d hd => am d (List.mem_reverse.mp hd)
        exact q _ _ _ ((any_list m1 (by simp; omega)).le (Nat.le_refl _) (by simp; omega)) pn2
      · rw [vNext_mk]
        simp only [t_Lbentmarks_6, flatD, List.any_cons, List.any_nil, eqv_str, eqv_int, eqv_ti, eqv_it, eqv_st, eqv_ts, cut1, Bool.or_false, Bool.or_true, Bool.and_self, Bool.and_true, Bool.and_false, Bool.false_or, Bool.true_or, and_self, ofs_inj, ofs_app, ofs_len, String.reduceEq, String.reduceNe, String.reduceAppend, decide_true, decide_false, Bool.not_true, Bool.not_false, sz0, sz1, sz2, sz3, sz4, sz5, sz6, sz7, sz8, sz9, sz10, sz11, sz12, sz13, sz14, sz15, sz16, sz17, sz18, sz19, sz20, sz21, sz22, sz23, sz24, sz25, cpow1018, true_and, and_true, Nat.reduceAdd, Nat.reduceLT, Nat.reduceSub, Int.reduceNe, Int.reduceEq, Int.reduceLT, Int.reduceLE, Int.reduceToNat, ne_eq, not_false_eq_true, List.length_map, Nat.lt_irrefl, dV_nx, dV_rt, at0, at1, at2, at3, ix20, ix21, vSeq, vIfS, vTest, vTruth, truth, v2, v1, vN, vCons, vNil, vStar, vVar, vC, xIx, Vl.opI0, Vl.opI, pk, vSet, vAug, vAsg, xgSub, vRet, vRetN, vDrop, vBreak, vCont, asD, asDs, opMod, opDiv, opMul2, Vl.opAdd, Vl.opAddO, opSub, opPow, opLt, Vl.opLe, opGt, Vl.opGe, xEq, okEq_str, okEq_int, xIn, okIn, inD, xIsN, isNone_n, isNone_t, isNone_l, isNone_i, isNone_s, isMo, mob, pkm, gModI, gDivI, gSubI, gMulI, gPowI, gGt, gLt, gLe, gGe, vNotT, vAndT, vOrT, vAndV, vOrV, opNot, opNotG, vIfE, opTup, opLst, opLstO, Vl.opLen, Vl.opInt, opList, opListO, opTuple, opII, gMax, gMin, vM, vM0, isT, xPop, Vl.opAppend, opExtend, opJoin, vgName, vgTup, vgCons, vgNil, kOpt_some, kOpn_some, kOps_some, Vl.opSum, Vl.opInsert, Vl.opIndex, opDivmod, vSl, vPart, vNoPart, opSl, opSlO, opRev, opCallK, ownD, ownO, objs, renum, uniq, getS, putS, vCall0, vFor, vForW, En.wk, vSeqI, vTupI, vRng1, vRng2, vRngD, vFn, vCallL, vOdd, vWays, vEnum, vZip, chkOf, vLcK, vYes, finD, finO, En.wipe, wipeE, En.trim, trimS, dropNone, clr_n, clr_v, clr_k, clr_o, wth, Vl.ret, takeS, startV,  List.map_cons, List.map_nil, List.length_cons, List.length_nil, List.cons_append, List.nil_append, List.replicate, List.getElem?_cons_succ, List.getElem?_cons_zero, List.getElem?_nil, List.set_cons_succ, List.set_cons_zero, List.set_nil, List.all_nil, List.all_cons, Bool.true_and, Option.map_some, Option.map_none, if_true, if_false, decide_eq_true_eq, Bool.false_eq_true, List.take_succ_cons, List.take_zero, List.take_nil, List.drop_succ_cons, List.drop_zero, List.drop_nil, reduceIte, reduceCtorEq]
        split
        · simp only [t_Lbentmarks_4, opNeg, flatD, List.any_cons, List.any_nil, eqv_str, eqv_int, eqv_ti, eqv_it, eqv_st, eqv_ts, cut1, Bool.or_false, Bool.or_true, Bool.and_self, Bool.and_true, Bool.and_false, Bool.false_or, Bool.true_or, and_self, ofs_inj, ofs_app, ofs_len, String.reduceEq, String.reduceNe, String.reduceAppend, decide_true, decide_false, Bool.not_true, Bool.not_false, sz0, sz1, sz2, sz3, sz4, sz5, sz6, sz7, sz8, sz9, sz10, sz11, sz12, sz13, sz14, sz15, sz16, sz17, sz18, sz19, sz20, sz21, sz22, sz23, sz24, sz25, cpow1018, true_and, and_true, Nat.reduceAdd, Nat.reduceLT, Nat.reduceSub, Int.reduceNe, Int.reduceEq, Int.reduceLT, Int.reduceLE, Int.reduceToNat, ne_eq, not_false_eq_true, List.length_map, Nat.lt_irrefl, dV_nx, dV_rt, at0, at1, at2, at3, ix20, ix21, vSeq, vIfS, vTest, vTruth, truth, v2, v1, vN, vCons, vNil, vStar, vVar, vC, xIx, Vl.opI0, Vl.opI, pk, vSet, vAug, vAsg, xgSub, vRet, vRetN, vDrop, vBreak, vCont, asD, asDs, opMod, opDiv, opMul2, Vl.opAdd, Vl.opAddO, opSub, opPow, opLt, Vl.opLe, opGt, Vl.opGe, xEq, okEq_str, okEq_int, xIn, okIn, inD, xIsN, isNone_n, isNone_t, isNone_l, isNone_i, isNone_s, isMo, mob, pkm, gModI, gDivI, gSubI, gMulI, gPowI, gGt, gLt, gLe, gGe, vNotT, vAndT, vOrT, vAndV, vOrV, opNot, opNotG, vIfE, opTup, opLst, opLstO, Vl.opLen, Vl.opInt, opList, opListO, opTuple, opII, gMax, gMin, vM, vM0, isT, xPop, Vl.opAppend, opExtend, opJoin, vgName, vgTup, vgCons, vgNil, kOpt_some, kOpn_some, kOps_some, Vl.opSum, Vl.opInsert, Vl.opIndex, opDivmod, vSl, vPart, vNoPart, opSl, opSlO, opRev, opCallK, ownD, ownO, objs, renum, uniq, getS, putS, vCall0, vFor, vForW, En.wk, vSeqI, vTupI, vRng1, vRng2, vRngD, vFn, vCallL, vOdd, vWays, vEnum, vZip, chkOf, vLcK, vYes, finD, finO, En.wipe, wipeE, En.trim, trimS, dropNone, clr_n, clr_v, clr_k, clr_o, wth, Vl.ret, takeS, startV,  List.map_cons, List.map_nil, List.length_cons, List.length_nil, List.cons_append, List.nil_append, List.replicate, List.getElem?_cons_succ, List.getElem?_cons_zero, List.getElem?_nil, List.set_cons_succ, List.set_cons_zero, List.set_nil, List.all_nil, List.all_cons, Bool.true_and, Option.map_some, Option.map_none, if_true, if_false, decide_eq_true_eq, Bool.false_eq_true, List.take_succ_cons, List.take_zero, List.take_nil, List.drop_succ_cons, List.drop_zero, List.drop_nil, reduceIte, reduceCtorEq]
          have l2 := cut_le (ms.map PyData.str) (some (-1)) none
          rw [List.length_map] at l2
          have m1 : ∀ d ∈ (ms.map PyData.str) ++ Vl.cut (ms.map PyData.str) (some (-1)) none, Any3 1 2 d := fun d hd => by
            rcases List.mem_append.mp hd with hd | hd
            · exact am d hd
            · exact am d (cut_mem hd)
          have l3 : (Vl.cut (ms.map PyData.str) (some (-1)) none).length ≤ 1 := by
            have := cut_back PyData.str ms 1 (by decide)
            rw [show (-((1 : Nat) : Int)) = -1 from rfl] at this
            rw [this, List.length_map, List.length_drop]
            omega
          refine ⟨big (by omega), q _ _ _ ((any_list m1 (by simp; omega)).le (Nat.le_refl _) (by rw [List.length_append, List.length_map]; omega)) pn2⟩
        · rw [vNext_mk]
          simp only [t_Lbentmarks_5, flatD, List.any_cons, List.any_nil, eqv_str, eqv_int, eqv_ti, eqv_it, eqv_st, eqv_ts, cut1, Bool.or_false, Bool.or_true, Bool.and_self, Bool.and_true, Bool.and_false, Bool.false_or, Bool.true_or, and_self, ofs_inj, ofs_app, ofs_len, String.reduceEq, String.reduceNe, String.reduceAppend, decide_true, decide_false, Bool.not_true, Bool.not_false, sz0, sz1, sz2, sz3, sz4, sz5, sz6, sz7, sz8, sz9, sz10, sz11, sz12, sz13, sz14, sz15, sz16, sz17, sz18, sz19, sz20, sz21, sz22, sz23, sz24, sz25, cpow1018, true_and, and_true, Nat.reduceAdd, Nat.reduceLT, Nat.reduceSub, Int.reduceNe, Int.reduceEq, Int.reduceLT, Int.reduceLE, Int.reduceToNat, ne_eq, not_false_eq_true, List.length_map, Nat.lt_irrefl, dV_nx, dV_rt, at0, at1, at2, at3, ix20, ix21, vSeq, vIfS, vTest, vTruth, truth, v2, v1, vN, vCons, vNil, vStar, vVar, vC, xIx, Vl.opI0, Vl.opI, pk, vSet, vAug, vAsg, xgSub, vRet, vRetN, vDrop, vBreak, vCont, asD, asDs, opMod, opDiv, opMul2, Vl.opAdd, Vl.opAddO, opSub, opPow, opLt, Vl.opLe, opGt, Vl.opGe, xEq, okEq_str, okEq_int, xIn, okIn, inD, xIsN, isNone_n, isNone_t, isNone_l, isNone_i, isNone_s, isMo, mob, pkm, gModI, gDivI, gSubI, gMulI, gPowI, gGt, gLt, gLe, gGe, vNotT, vAndT, vOrT, vAndV, vOrV, opNot, opNotG, vIfE, opTup, opLst, opLstO, Vl.opLen, Vl.opInt, opList, opListO, opTuple, opII, gMax, gMin, vM, vM0, isT, xPop, Vl.opAppend, opExtend, opJoin, vgName, vgTup, vgCons, vgNil, kOpt_some, kOpn_some, kOps_some, Vl.opSum, Vl.opInsert, Vl.opIndex, opDivmod, vSl, vPart, vNoPart, opSl, opSlO, opRev, opCallK, ownD, ownO, objs, renum, uniq, getS, putS, vCall0, vFor, vForW, En.wk, vSeqI, vTupI, vRng1, vRng2, vRngD, vFn, vCallL, vOdd, vWays, vEnum, vZip, chkOf, vLcK, vYes, finD, finO, En.wipe, wipeE, En.trim, trimS, dropNone, clr_n, clr_v, clr_k, clr_o, wth, Vl.ret, takeS, startV,  List.map_cons, List.map_nil, List.length_cons, List.length_nil, List.cons_append, List.nil_append, List.replicate, List.getElem?_cons_succ, List.getElem?_cons_zero, List.getElem?_nil, List.set_cons_succ, List.set_cons_zero, List.set_nil, List.all_nil, List.all_cons, Bool.true_and, Option.map_some, Option.map_none, if_true, if_false, decide_eq_true_eq, Bool.false_eq_true, List.take_succ_cons, List.take_zero, List.take_nil, List.drop_succ_cons, List.drop_zero, List.drop_nil, reduceIte, reduceCtorEq]
          exact q _ _ _ ((any_tup am (by simp; omega)).le (Nat.le_refl _) (by rw [List.length_map]; omega)) pn2
def cB : Nat → Nat
  | 0 => 0
  | n + 1 => 60 + 6 * cB n
theorem two_any {a b : Nat} {x y : D} (hx : Any3 a b x) (hy : Any3 a b y) : ∀ d ∈ [x, y], Any3 a b d := fun d hd => by
  rcases List.mem_cons.mp hd with rfl | hd
  · exact hx
  · rw [List.mem_singleton.mp hd]
    exact hy
theorem mks_any {zs : List Str} (h : ∀ z ∈ zs, IsMk z) (hl : zs.length ≤ 4) : Any3 1 9 (.list (zs.map .str)) := by
  refine ⟨?_, ?_, ?_⟩
  · unfold okT
    exact ⟨by rw [List.length_map]; omega, okTs_strs h⟩
  · unfold dpT
    rw [dpTs_strs]
    omega
  · unfold ndT
    rw [ndTs_strs]
    omega
theorem DnT_any : ∀ {n : Nat} {d : D}, DnT n d → Any3 (2 * n) (cB n) d
  | n + 1, d, ⟨zs, ts, e, _, hm, hz, ht, hd⟩ => by
    subst e
    have h1 := any_list (fun t h => DnT_any (hd t h)) (by omega)
    have h2 := mks_any hm hz
    have h3 : ts.length * cB n ≤ 2 * cB n := Nat.mul_le_mul_right _ ht
    have h4 := any_tup (two_any (h2.le (a' := 1 + 2 * n) (b' := 9 + ts.length * cB n) (by omega) (by omega)) (h1.le (by omega) (by omega))) (by simp)
    refine h4.le (by omega) ?_
    simp only [List.length_cons, List.length_nil, cB]
    omega
abbrev junkL : List D := [.none, .str "tree", .int 7, .tuple [], .tuple [.list [], .none], .dict []]
theorem junk_any : ∀ d ∈ junkL, Any3 3 5 d := by
  intro d hd
  simp only [junkL, List.mem_cons, List.not_mem_nil, or_false] at hd
  rcases hd with rfl | rfl | rfl | rfl | rfl | rfl
  · exact ⟨by unfold okT; trivial, by decide +kernel, by decide +kernel⟩
  · exact ⟨by unfold okT; exact ⟨by decide +kernel, by decide +kernel⟩, by decide +kernel, by decide +kernel⟩
  · exact ⟨by unfold okT; trivial, by decide +kernel, by decide +kernel⟩
  · exact ⟨by unfold okT okTs; exact ⟨by decide, trivial⟩, by decide +kernel, by decide +kernel⟩
  · exact ⟨by unfold okT okTs okTs okTs okT okTs; exact ⟨by decide, ⟨by decide, trivial⟩, trivial, trivial⟩, by decide +kernel, by decide +kernel⟩
  · exact ⟨by unfold okT; rfl, by decide +kernel, by decide +kernel⟩
theorem three_any {a b : Nat} {x y z : D} (hx : Any3 a b x) (hy : Any3 a b y) (hz : Any3 a b z) : ∀ d ∈ [x, y, z], Any3 a b d := fun d hd => by
  rcases List.mem_cons.mp hd with rfl | hd
  · exact hx
  · exact two_any hy hz d hd
theorem nil_any : Any3 1 9 (.list []) := ⟨by unfold okT okTs; exact ⟨by decide, trivial⟩, by decide +kernel, by decide +kernel⟩
theorem one_any {a b : Nat} {x : D} (hx : Any3 a b x) : ∀ d ∈ [x], Any3 a b d := fun d hd => by
  rw [List.mem_singleton.mp hd]
  exact hx
theorem canAll_of : ∀ {ds : List D}, (∀ d ∈ ds, PyData.canLay0 d = true) → PyData.canLayAll0 ds = true
  | [], _ => canAll_nil
  | d :: ds, h => by
    rw [canAll_cons, h d List.mem_cons_self, canAll_of fun x hx => h x (List.mem_cons_of_mem _ hx)]
    rfl
theorem depAll_of : ∀ {ds : List D} {k : Nat}, (∀ d ∈ ds, PyData.depth d ≤ k) → PyData.depthAll ds ≤ k
  | [], _, _ => by
    rw [depthAll_nil]
    omega
  | d :: ds, k, h => by
    rw [depthAll_cons]
    have := h d List.mem_cons_self
    have := depAll_of fun x hx => h x (List.mem_cons_of_mem _ hx)
    omega
/-- what may be told in == -/
theorem tree_can {zs : List Str} {ts : List D} {k : Nat} (h : ∀ z ∈ zs, PyData.strOk z = true) (h1 : ∀ t ∈ ts, PyData.canLay0 t = true) (h2 : ∀ t ∈ ts, PyData.depth t ≤ k) : PyData.canLay0 (.tuple [.list (zs.map .str), .list ts]) = true ∧ PyData.depth (.tuple [.list (zs.map .str), .list ts]) ≤ k + 2 := by
  constructor
  · rw [can_tup, canAll_cons, canAll_cons, canAll_nil, can_lst, can_lst, canS h, canAll_of h1]
    rfl
  · rw [depth_tup, depthAll_cons, depthAll_cons, depthAll_nil, depth_lst, depth_lst, depS]
    have := depAll_of h2
    omega
theorem DnT_can : ∀ {n : Nat} {d : D}, DnT n d → PyData.canLay0 d = true ∧ PyData.depth d ≤ 2 * n
  | n + 1, d, ⟨zs, ts, e, _, hm, _, _, hd⟩ => by
    subst e
    have := tree_can (zs := zs) (ts := ts) (k := 2 * n) (fun z hz => (hm z hz).ok) (fun t h => (DnT_can (hd t h)).1) (fun t h => (DnT_can (hd t h)).2)
    exact ⟨this.1, by omega⟩
theorem any_pair {a b c : Nat} {x y : D} (hx : Any3 a b x) (hy : Any3 a c y) : Any3 (1 + a) (1 + b + c) (.tuple [x, y]) := by
  have h1 := hx.nd
  have h2 := hy.nd
  have h3 := hx.dp
  have h4 := hy.dp
  refine ⟨?_, ?_, ?_⟩
  · unfold okT okTs okTs okTs
    exact ⟨by simp, hx.ok, hy.ok, trivial⟩
  · simp only [dpT, dpTs]
    omega
  · simp only [ndT, ndTs]
    omega
def pBent34 (N : Nat) : VSp := fun ss st Kp => ∃ (c n : Int) (d : D) (m : Nat), m < N ∧ m ≤ 6 ∧ ss = [.val d, .obj 0] ∧ st = [.l [.int c, .int n]] ∧ PoolK n ∧ DnT m d ∧ ∀ (d' : D) (c' n' : Int), Any3 (2 * m + 2) (cB m) d' → PoolK n' → Kp (.val d') [.l [.int c', .int n']]
theorem r_Bent34 {N : Nat} {ss cs Kp} (h : pBent34 (N + 1) ss cs Kp) : t_Lbentv6 pTake (pBent34 N) pBm (dV cs.length Kp) ⟨startV 6 ss, cs.map some⟩ := by
  obtain ⟨c, n, d, m, hN, hm6, rfl, rfl, pn, hd, q⟩ := h
  cases m with
  | zero => exact hd.elim
  | succ m =>
    obtain ⟨zs, ts, rfl, zp, zm, zl, tl, td⟩ := hd
    have aM := mks_any zm zl
    have aT : ∀ t ∈ ts, Any3 (2 * m) (cB m) t := fun t h => DnT_any (td t h)
    have aTs := any_list aT (by omega)
    have aTt := any_tup aT (by omega)
    have h3 : ts.length * cB m ≤ 2 * cB m := Nat.mul_le_mul_right _ tl
    have aM' : Any3 (1 + 2 * m) (9 + 2 * cB m) (.list (zs.map .str)) := aM.le (by omega) (by omega)
    have aTs' : Any3 (1 + 2 * m) (9 + 2 * cB m) (.list ts) := aTs.le (by omega) (by omega)
    have aTt' : Any3 (1 + 2 * m) (9 + 2 * cB m) (.tuple ts) := aTt.le (by omega) (by omega)
    have fin : ∀ (d' : D) (c' n' : Int), Any3 (2 * m + 4) (60 + 6 * cB m) d' → PoolK n' → Kp (.val d') [.l [.int c', .int n']] := fun d' c' n' h => q d' c' n' (h.le (by omega) (by simp only [cB]; omega))
    have main : ∀ (c n : Int) (x y : Option Sl), PoolK n → t_Lbentv6_10 pTake (pBent34 N) pBm (dV 1 Kp) ⟨[some (.val (.tuple [.list (zs.map .str), .list ts])), some (.obj 0), some (.val (.list (zs.map .str))), some (.val (.list ts)), x, y], [some (.l [.int c, .int n])]⟩ := fun c n x y pn => by
      simp only [t_Lbentv6_10, pTake, flatD, List.any_cons, List.any_nil, eqv_str, eqv_int, eqv_ti, eqv_it, eqv_st, eqv_ts, cut1, Bool.or_false, Bool.or_true, Bool.and_self, Bool.and_true, Bool.and_false, Bool.false_or, Bool.true_or, and_self, ofs_inj, ofs_app, ofs_len, String.reduceEq, String.reduceNe, String.reduceAppend, decide_true, decide_false, Bool.not_true, Bool.not_false, sz0, sz1, sz2, sz3, sz4, sz5, sz6, sz7, sz8, sz9, sz10, sz11, sz12, sz13, sz14, sz15, sz16, sz17, sz18, sz19, sz20, sz21, sz22, sz23, sz24, sz25, cpow1018, true_and, and_true, Nat.reduceAdd, Nat.reduceLT, Nat.reduceSub, Int.reduceNe, Int.reduceEq, Int.reduceLT, Int.reduceLE, Int.reduceToNat, ne_eq, not_false_eq_true, List.length_map, Nat.lt_irrefl, dV_nx, dV_rt, at0, at1, at2, at3, ix20, ix21, vSeq, vIfS, vTest, vTruth, truth, v2, v1, vN, vCons, vNil, vStar, vVar, vC, xIx, Vl.opI0, Vl.opI, pk, vSet, vAug, vAsg, xgSub, vRet, vRetN, vDrop, vBreak, vCont, asD, asDs, opMod, opDiv, opMul2, Vl.opAdd, Vl.opAddO, opSub, opPow, opLt, Vl.opLe, opGt, Vl.opGe, xEq, okEq_str, okEq_int, xIn, okIn, inD, xIsN, isNone_n, isNone_t, isNone_l, isNone_i, isNone_s, isMo, mob, pkm, gModI, gDivI, gSubI, gMulI, gPowI, gGt, gLt, gLe, gGe, vNotT, vAndT, vOrT, vAndV, vOrV, opNot, opNotG, vIfE, opTup, opLst, opLstO, Vl.opLen, Vl.opInt, opList, opListO, opTuple, opII, gMax, gMin, vM, vM0, isT, xPop, Vl.opAppend, opExtend, opJoin, vgName, vgTup, vgCons, vgNil, kOpt_some, kOpn_some, kOps_some, Vl.opSum, Vl.opInsert, Vl.opIndex, opDivmod, vSl, vPart, vNoPart, opSl, opSlO, opRev, opCallK, ownD, ownO, objs, renum, uniq, getS, putS, vCall0, vFor, vForW, En.wk, vSeqI, vTupI, vRng1, vRng2, vRngD, vFn, vCallL, vOdd, vWays, vEnum, vZip, chkOf, vLcK, vYes, finD, finO, En.wipe, wipeE, En.trim, trimS, dropNone, clr_n, clr_v, clr_k, clr_o, wth, Vl.ret, takeS, startV,  List.map_cons, List.map_nil, List.length_cons, List.length_nil, List.cons_append, List.nil_append, List.replicate, List.getElem?_cons_succ, List.getElem?_cons_zero, List.getElem?_nil, List.set_cons_succ, List.set_cons_zero, List.set_nil, List.all_nil, List.all_cons, Bool.true_and, Option.map_some, Option.map_none, if_true, if_false, decide_eq_true_eq, Bool.false_eq_true, List.take_succ_cons, List.take_zero, List.take_nil, List.drop_succ_cons, List.drop_zero, List.drop_nil, reduceIte, reduceCtorEq]
      refine ⟨pn, fun w c1 n1 w0 w1 pn1 => ?_⟩
      simp only [t_Lbentv6_9, flatD, List.any_cons, List.any_nil, eqv_str, eqv_int, eqv_ti, eqv_it, eqv_st, eqv_ts, cut1, Bool.or_false, Bool.or_true, Bool.and_self, Bool.and_true, Bool.and_false, Bool.false_or, Bool.true_or, and_self, ofs_inj, ofs_app, ofs_len, String.reduceEq, String.reduceNe, String.reduceAppend, decide_true, decide_false, Bool.not_true, Bool.not_false, sz0, sz1, sz2, sz3, sz4, sz5, sz6, sz7, sz8, sz9, sz10, sz11, sz12, sz13, sz14, sz15, sz16, sz17, sz18, sz19, sz20, sz21, sz22, sz23, sz24, sz25, cpow1018, true_and, and_true, Nat.reduceAdd, Nat.reduceLT, Nat.reduceSub, Int.reduceNe, Int.reduceEq, Int.reduceLT, Int.reduceLE, Int.reduceToNat, ne_eq, not_false_eq_true, List.length_map, Nat.lt_irrefl, dV_nx, dV_rt, at0, at1, at2, at3, ix20, ix21, vSeq, vIfS, vTest, vTruth, truth, v2, v1, vN, vCons, vNil, vStar, vVar, vC, xIx, Vl.opI0, Vl.opI, pk, vSet, vAug, vAsg, xgSub, vRet, vRetN, vDrop, vBreak, vCont, asD, asDs, opMod, opDiv, opMul2, Vl.opAdd, Vl.opAddO, opSub, opPow, opLt, Vl.opLe, opGt, Vl.opGe, xEq, okEq_str, okEq_int, xIn, okIn, inD, xIsN, isNone_n, isNone_t, isNone_l, isNone_i, isNone_s, isMo, mob, pkm, gModI, gDivI, gSubI, gMulI, gPowI, gGt, gLt, gLe, gGe, vNotT, vAndT, vOrT, vAndV, vOrV, opNot, opNotG, vIfE, opTup, opLst, opLstO, Vl.opLen, Vl.opInt, opList, opListO, opTuple, opII, gMax, gMin, vM, vM0, isT, xPop, Vl.opAppend, opExtend, opJoin, vgName, vgTup, vgCons, vgNil, kOpt_some, kOpn_some, kOps_some, Vl.opSum, Vl.opInsert, Vl.opIndex, opDivmod, vSl, vPart, vNoPart, opSl, opSlO, opRev, opCallK, ownD, ownO, objs, renum, uniq, getS, putS, vCall0, vFor, vForW, En.wk, vSeqI, vTupI, vRng1, vRng2, vRngD, vFn, vCallL, vOdd, vWays, vEnum, vZip, chkOf, vLcK, vYes, finD, finO, En.wipe, wipeE, En.trim, trimS, dropNone, clr_n, clr_v, clr_k, clr_o, wth, Vl.ret, takeS, startV,  List.map_cons, List.map_nil, List.length_cons, List.length_nil, List.cons_append, List.nil_append, List.replicate, List.getElem?_cons_succ, List.getElem?_cons_zero, List.getElem?_nil, List.set_cons_succ, List.set_cons_zero, List.set_nil, List.all_nil, List.all_cons, Bool.true_and, Option.map_some, Option.map_none, if_true, if_false, decide_eq_true_eq, Bool.false_eq_true, List.take_succ_cons, List.take_zero, List.take_nil, List.drop_succ_cons, List.drop_zero, List.drop_nil, reduceIte, reduceCtorEq]
      split
      · simp only [t_Lbentv6_3, pBm, flatD, List.any_cons, List.any_nil, eqv_str, eqv_int, eqv_ti, eqv_it, eqv_st, eqv_ts, cut1, Bool.or_false, Bool.or_true, Bool.and_self, Bool.and_true, Bool.and_false, Bool.false_or, Bool.true_or, and_self, ofs_inj, ofs_app, ofs_len, String.reduceEq, String.reduceNe, String.reduceAppend, decide_true, decide_false, Bool.not_true, Bool.not_false, sz0, sz1, sz2, sz3, sz4, sz5, sz6, sz7, sz8, sz9, sz10, sz11, sz12, sz13, sz14, sz15, sz16, sz17, sz18, sz19, sz20, sz21, sz22, sz23, sz24, sz25, cpow1018, true_and, and_true, Nat.reduceAdd, Nat.reduceLT, Nat.reduceSub, Int.reduceNe, Int.reduceEq, Int.reduceLT, Int.reduceLE, Int.reduceToNat, ne_eq, not_false_eq_true, List.length_map, Nat.lt_irrefl, dV_nx, dV_rt, at0, at1, at2, at3, ix20, ix21, vSeq, vIfS, vTest, vTruth, truth, v2, v1, vN, vCons, vNil, vStar, vVar, vC, xIx, Vl.opI0, Vl.opI, pk, vSet, vAug, vAsg, xgSub, vRet, vRetN, vDrop, vBreak, vCont, asD, asDs, opMod, opDiv, opMul2, Vl.opAdd, Vl.opAddO, opSub, opPow, opLt, Vl.opLe, opGt, Vl.opGe, xEq, okEq_str, okEq_int, xIn, okIn, inD, xIsN, isNone_n, isNone_t, isNone_l, isNone_i, isNone_s, isMo, mob, pkm, gModI, gDivI, gSubI, gMulI, gPowI, gGt, gLt, gLe, gGe, vNotT, vAndT, vOrT, vAndV, vOrV, opNot, opNotG, vIfE, opTup, opLst, opLstO, Vl.opLen, Vl.opInt, opList, opListO, opTuple, opII, gMax, gMin, vM, vM0, isT, xPop, Vl.opAppend, opExtend, opJoin, vgName, vgTup, vgCons, vgNil, kOpt_some, kOpn_some, kOps_some, Vl.opSum, Vl.opInsert, Vl.opIndex, opDivmod, vSl, vPart, vNoPart, opSl, opSlO, opRev, opCallK, ownD, ownO, objs, renum, uniq, getS, putS, vCall0, vFor, vForW, En.wk, vSeqI, vTupI, vRng1, vRng2, vRngD, vFn, vCallL, vOdd, vWays, vEnum, vZip, chkOf, vLcK, vYes, finD, finO, En.wipe, wipeE, En.trim, trimS, dropNone, clr_n, clr_v, clr_k, clr_o, wth, Vl.ret, takeS, startV,  List.map_cons, List.map_nil, List.length_cons, List.length_nil, List.cons_append, List.nil_append, List.replicate, List.getElem?_cons_succ, List.getElem?_cons_zero, List.getElem?_nil, List.set_cons_succ, List.set_cons_zero, List.set_nil, List.all_nil, List.all_cons, Bool.true_and, Option.map_some, Option.map_none, if_true, if_false, decide_eq_true_eq, Bool.false_eq_true, List.take_succ_cons, List.take_zero, List.take_nil, List.drop_succ_cons, List.drop_zero, List.drop_nil, reduceIte, reduceCtorEq]
        refine ⟨c1, n1, zs, rfl, rfl, pn1, zl, zm, fun d' c2 n2 h2 pn2 => ?_⟩
        refine fin _ _ _ ((any_tup (two_any (h2.le (a' := 2 + 2 * m) (b' := 20 + 2 * cB m) (by omega) (by omega)) (aTs'.le (by omega) (by omega))) (by simp)).le (by omega) ?_) pn2
        simp only [List.length_cons, List.length_nil]
        omega
      · rw [vNext_mk]
        simp only [t_Lbentv6_8, flatD, List.any_cons, List.any_nil, eqv_str, eqv_int, eqv_ti, eqv_it, eqv_st, eqv_ts, cut1, Bool.or_false, Bool.or_true, Bool.and_self, Bool.and_true, Bool.and_false, Bool.false_or, Bool.true_or, and_self, ofs_inj, ofs_app, ofs_len, String.reduceEq, String.reduceNe, String.reduceAppend, decide_true, decide_false, Bool.not_true, Bool.not_false, sz0, sz1, sz2, sz3, sz4, sz5, sz6, sz7, sz8, sz9, sz10, sz11, sz12, sz13, sz14, sz15, sz16, sz17, sz18, sz19, sz20, sz21, sz22, sz23, sz24, sz25, cpow1018, true_and, and_true, Nat.reduceAdd, Nat.reduceLT, Nat.reduceSub, Int.reduceNe, Int.reduceEq, Int.reduceLT, Int.reduceLE, Int.reduceToNat, ne_eq, not_false_eq_true, List.length_map, Nat.lt_irrefl, dV_nx, dV_rt, at0, at1, at2, at3, ix20, ix21, vSeq, vIfS, vTest, vTruth, truth, v2, v1, vN, vCons, vNil, vStar, vVar, vC, xIx, Vl.opI0, Vl.opI, pk, vSet, vAug, vAsg, xgSub, vRet, vRetN, vDrop, vBreak, vCont, asD, asDs, opMod, opDiv, opMul2, Vl.opAdd, Vl.opAddO, opSub, opPow, opLt, Vl.opLe, opGt, Vl.opGe, xEq, okEq_str, okEq_int, xIn, okIn, inD, xIsN, isNone_n, isNone_t, isNone_l, isNone_i, isNone_s, isMo, mob, pkm, gModI, gDivI, gSubI, gMulI, gPowI, gGt, gLt, gLe, gGe, vNotT, vAndT, vOrT, vAndV, vOrV, opNot, opNotG, vIfE, opTup, opLst, opLstO, Vl.opLen, Vl.opInt, opList, opListO, opTuple, opII, gMax, gMin, vM, vM0, isT, xPop, Vl.opAppend, opExtend, opJoin, vgName, vgTup, vgCons, vgNil, kOpt_some, kOpn_some, kOps_some, Vl.opSum, Vl.opInsert, Vl.opIndex, opDivmod, vSl, vPart, vNoPart, opSl, opSlO, opRev, opCallK, ownD, ownO, objs, renum, uniq, getS, putS, vCall0, vFor, vForW, En.wk, vSeqI, vTupI, vRng1, vRng2, vRngD, vFn, vCallL, vOdd, vWays, vEnum, vZip, chkOf, vLcK, vYes, finD, finO, En.wipe, wipeE, En.trim, trimS, dropNone, clr_n, clr_v, clr_k, clr_o, wth, Vl.ret, takeS, startV,  List.map_cons, List.map_nil, List.length_cons, List.length_nil, List.cons_append, List.nil_append, List.replicate, List.getElem?_cons_succ, List.getElem?_cons_zero, List.getElem?_nil, List.set_cons_succ, List.set_cons_zero, List.set_nil, List.all_nil, List.all_cons, Bool.true_and, Option.map_some, Option.map_none, if_true, if_false, decide_eq_true_eq, Bool.false_eq_true, List.take_succ_cons, List.take_zero, List.take_nil, List.drop_succ_cons, List.drop_zero, List.drop_nil, reduceIte, reduceCtorEq]
        split
        · simp only [t_Lbentv6_4, flatD, List.any_cons, List.any_nil, eqv_str, eqv_int, eqv_ti, eqv_it, eqv_st, eqv_ts, cut1, Bool.or_false, Bool.or_true, Bool.and_self, Bool.and_true, Bool.and_false, Bool.false_or, Bool.true_or, and_self, ofs_inj, ofs_app, ofs_len, String.reduceEq, String.reduceNe, String.reduceAppend, decide_true, decide_false, Bool.not_true, Bool.not_false, sz0, sz1, sz2, sz3, sz4, sz5, sz6, sz7, sz8, sz9, sz10, sz11, sz12, sz13, sz14, sz15, sz16, sz17, sz18, sz19, sz20, sz21, sz22, sz23, sz24, sz25, cpow1018, true_and, and_true, Nat.reduceAdd, Nat.reduceLT, Nat.reduceSub, Int.reduceNe, Int.reduceEq, Int.reduceLT, Int.reduceLE, Int.reduceToNat, ne_eq, not_false_eq_true, List.length_map, Nat.lt_irrefl, dV_nx, dV_rt, at0, at1, at2, at3, ix20, ix21, vSeq, vIfS, vTest, vTruth, truth, v2, v1, vN, vCons, vNil, vStar, vVar, vC, xIx, Vl.opI0, Vl.opI, pk, vSet, vAug, vAsg, xgSub, vRet, vRetN, vDrop, vBreak, vCont, asD, asDs, opMod, opDiv, opMul2, Vl.opAdd, Vl.opAddO, opSub, opPow, opLt, Vl.opLe, opGt, Vl.opGe, xEq, okEq_str, okEq_int, xIn, okIn, inD, xIsN, isNone_n, isNone_t, isNone_l, isNone_i, isNone_s, isMo, mob, pkm, gModI, gDivI, gSubI, gMulI, gPowI, gGt, gLt, gLe, gGe, vNotT, vAndT, vOrT, vAndV, vOrV, opNot, opNotG, vIfE, opTup, opLst, opLstO, Vl.opLen, Vl.opInt, opList, opListO, opTuple, opII, gMax, gMin, vM, vM0, isT, xPop, Vl.opAppend, opExtend, opJoin, vgName, vgTup, vgCons, vgNil, kOpt_some, kOpn_some, kOps_some, Vl.opSum, Vl.opInsert, Vl.opIndex, opDivmod, vSl, vPart, vNoPart, opSl, opSlO, opRev, opCallK, ownD, ownO, objs, renum, uniq, getS, putS, vCall0, vFor, vForW, En.wk, vSeqI, vTupI, vRng1, vRng2, vRngD, vFn, vCallL, vOdd, vWays, vEnum, vZip, chkOf, vLcK, vYes, finD, finO, En.wipe, wipeE, En.trim, trimS, dropNone, clr_n, clr_v, clr_k, clr_o, wth, Vl.ret, takeS, startV,  List.map_cons, List.map_nil, List.length_cons, List.length_nil, List.cons_append, List.nil_append, List.replicate, List.getElem?_cons_succ, List.getElem?_cons_zero, List.getElem?_nil, List.set_cons_succ, List.set_cons_zero, List.set_nil, List.all_nil, List.all_cons, Bool.true_and, Option.map_some, Option.map_none, if_true, if_false, decide_eq_true_eq, Bool.false_eq_true, List.take_succ_cons, List.take_zero, List.take_nil, List.drop_succ_cons, List.drop_zero, List.drop_nil, reduceIte, reduceCtorEq]
          refine fin _ _ _ ((any_list (two_any aM' aTs') (by simp)).le (by omega) ?_) pn1
          simp only [List.length_cons, List.length_nil]
          omega
        · rw [vNext_mk]
          simp only [t_Lbentv6_7, flatD, List.any_cons, List.any_nil, eqv_str, eqv_int, eqv_ti, eqv_it, eqv_st, eqv_ts, cut1, Bool.or_false, Bool.or_true, Bool.and_self, Bool.and_true, Bool.and_false, Bool.false_or, Bool.true_or, and_self, ofs_inj, ofs_app, ofs_len, String.reduceEq, String.reduceNe, String.reduceAppend, decide_true, decide_false, Bool.not_true, Bool.not_false, sz0, sz1, sz2, sz3, sz4, sz5, sz6, sz7, sz8, sz9, sz10, sz11, sz12, sz13, sz14, sz15, sz16, sz17, sz18, sz19, sz20, sz21, sz22, sz23, sz24, sz25, cpow1018, true_and, and_true, Nat.reduceAdd, Nat.reduceLT, Nat.reduceSub, Int.reduceNe, Int.reduceEq, Int.reduceLT, Int.reduceLE, Int.reduceToNat, ne_eq, not_false_eq_true, List.length_map, Nat.lt_irrefl, dV_nx, dV_rt, at0, at1, at2, at3, ix20, ix21, vSeq, vIfS, vTest, vTruth, truth, v2, v1, vN, vCons, vNil, vStar, vVar, vC, xIx, Vl.opI0, Vl.opI, pk, vSet, vAug, vAsg, xgSub, vRet, vRetN, vDrop, vBreak, vCont, asD, asDs, opMod, opDiv, opMul2, Vl.opAdd, Vl.opAddO, opSub, opPow, opLt, Vl.opLe, opGt, Vl.opGe, xEq, okEq_str, okEq_int, xIn, okIn, inD, xIsN, isNone_n, isNone_t, isNone_l, isNone_i, isNone_s, isMo, mob, pkm, gModI, gDivI, gSubI, gMulI, gPowI, gGt, gLt, gLe, gGe, vNotT, vAndT, vOrT, vAndV, vOrV, opNot, opNotG, vIfE, opTup, opLst, opLstO, Vl.opLen, Vl.opInt, opList, opListO, opTuple, opII, gMax, gMin, vM, vM0, isT, xPop, Vl.opAppend, opExtend, opJoin, vgName, vgTup, vgCons, vgNil, kOpt_some, kOpn_some, kOps_some, Vl.opSum, Vl.opInsert, Vl.opIndex, opDivmod, vSl, vPart, vNoPart, opSl, opSlO, opRev, opCallK, ownD, ownO, objs, renum, uniq, getS, putS, vCall0, vFor, vForW, En.wk, vSeqI, vTupI, vRng1, vRng2, vRngD, vFn, vCallL, vOdd, vWays, vEnum, vZip, chkOf, vLcK, vYes, finD, finO, En.wipe, wipeE, En.trim, trimS, dropNone, clr_n, clr_v, clr_k, clr_o, wth, Vl.ret, takeS, startV,  List.map_cons, List.map_nil, List.length_cons, List.length_nil, List.cons_append, List.nil_append, List.replicate, List.getElem?_cons_succ, List.getElem?_cons_zero, List.getElem?_nil, List.set_cons_succ, List.set_cons_zero, List.set_nil, List.all_nil, List.all_cons, Bool.true_and, Option.map_some, Option.map_none, if_true, if_false, decide_eq_true_eq, Bool.false_eq_true, List.take_succ_cons, List.take_zero, List.take_nil, List.drop_succ_cons, List.drop_zero, List.drop_nil, reduceIte, reduceCtorEq]
          split
          · simp only [t_Lbentv6_5, pTake, flatD, List.any_cons, List.any_nil, eqv_str, eqv_int, eqv_ti, eqv_it, eqv_st, eqv_ts, cut1, Bool.or_false, Bool.or_true, Bool.and_self, Bool.and_true, Bool.and_false, Bool.false_or, Bool.true_or, and_self, ofs_inj, ofs_app, ofs_len, String.reduceEq, String.reduceNe, String.reduceAppend, decide_true, decide_false, Bool.not_true, Bool.not_false, sz0, sz1, sz2, sz3, sz4, sz5, sz6, sz7, sz8, sz9, sz10, sz11, sz12, sz13, sz14, sz15, sz16, sz17, sz18, sz19, sz20, sz21, sz22, sz23, sz24, sz25, cpow1018, true_and, and_true, Nat.reduceAdd, Nat.reduceLT, Nat.reduceSub, Int.reduceNe, Int.reduceEq, Int.reduceLT, Int.reduceLE, Int.reduceToNat, ne_eq, not_false_eq_true, List.length_map, Nat.lt_irrefl, dV_nx, dV_rt, at0, at1, at2, at3, ix20, ix21, vSeq, vIfS, vTest, vTruth, truth, v2, v1, vN, vCons, vNil, vStar, vVar, vC, xIx, Vl.opI0, Vl.opI, pk, vSet, vAug, vAsg, xgSub, vRet, vRetN, vDrop, vBreak, vCont, asD, asDs, opMod, opDiv, opMul2, Vl.opAdd, Vl.opAddO, opSub, opPow, opLt, Vl.opLe, opGt, Vl.opGe, xEq, okEq_str, okEq_int, xIn, okIn, inD, xIsN, isNone_n, isNone_t, isNone_l, isNone_i, isNone_s, isMo, mob, pkm, gModI, gDivI, gSubI, gMulI, gPowI, gGt, gLt, gLe, gGe, vNotT, vAndT, vOrT, vAndV, vOrV, opNot, opNotG, vIfE, opTup, opLst, opLstO, Vl.opLen, Vl.opInt, opList, opListO, opTuple, opII, gMax, gMin, vM, vM0, isT, xPop, Vl.opAppend, opExtend, opJoin, vgName, vgTup, vgCons, vgNil, kOpt_some, kOpn_some, kOps_some, Vl.opSum, Vl.opInsert, Vl.opIndex, opDivmod, vSl, vPart, vNoPart, opSl, opSlO, opRev, opCallK, ownD, ownO, objs, renum, uniq, getS, putS, vCall0, vFor, vForW, En.wk, vSeqI, vTupI, vRng1, vRng2, vRngD, vFn, vCallL, vOdd, vWays, vEnum, vZip, chkOf, vLcK, vYes, finD, finO, En.wipe, wipeE, En.trim, trimS, dropNone, clr_n, clr_v, clr_k, clr_o, wth, Vl.ret, takeS, startV,  List.map_cons, List.map_nil, List.length_cons, List.length_nil, List.cons_append, List.nil_append, List.replicate, List.getElem?_cons_succ, List.getElem?_cons_zero, List.getElem?_nil, List.set_cons_succ, List.set_cons_zero, List.set_nil, List.all_nil, List.all_cons, Bool.true_and, Option.map_some, Option.map_none, if_true, if_false, decide_eq_true_eq, Bool.false_eq_true, List.take_succ_cons, List.take_zero, List.take_nil, List.drop_succ_cons, List.drop_zero, List.drop_nil, reduceIte, reduceCtorEq]
            refine ⟨pn1, fun v c2 n2 v0 v1 pn2 => ?_⟩
            have four : ∀ d ∈ ([.tuple [.list (zs.map .str), .tuple ts], .tuple [.list (zs.map .str), .list ts, .list []], .tuple [.list (zs.map .str)], .tuple [.list ts, .list (zs.map .str)]] : List D), Any3 (2 * m + 4) (60 + 6 * cB m) d := by
              intro d hd
              simp only [List.mem_cons, List.not_mem_nil, or_false] at hd
              rcases hd with rfl | rfl | rfl | rfl
              · exact (any_tup (two_any aM' aTt') (by simp)).le (by omega) (by simp only [List.length_cons, List.length_nil]; omega)
              · exact (any_tup (three_any aM' aTs' (nil_any.le (by omega) (by omega))) (by simp)).le (by omega) (by simp only [List.length_cons, List.length_nil]; omega)
              · exact (any_tup (one_any aM') (by simp)).le (by omega) (by simp only [List.length_cons, List.length_nil]; omega)
              · exact (any_tup (two_any aTs' aM') (by simp)).le (by omega) (by simp only [List.length_cons, List.length_nil]; omega)
            obtain ⟨o, ho, hom⟩ := at_mem (ds := [.tuple [.list (zs.map .str), .tuple ts], .tuple [.list (zs.map .str), .list ts, .list []], .tuple [.list (zs.map .str)], .tuple [.list ts, .list (zs.map .str)]]) v0 v1
            simp only [ho, kOpt_some]
            exact fin o c2 n2 (four o hom) pn2
          · rw [vNext_mk]
            simp only [t_Lbentv6_6, vDct, pTake, flatD, List.any_cons, List.any_nil, eqv_str, eqv_int, eqv_ti, eqv_it, eqv_st, eqv_ts, cut1, Bool.or_false, Bool.or_true, Bool.and_self, Bool.and_true, Bool.and_false, Bool.false_or, Bool.true_or, and_self, ofs_inj, ofs_app, ofs_len, String.reduceEq, String.reduceNe, String.reduceAppend, decide_true, decide_false, Bool.not_true, Bool.not_false, sz0, sz1, sz2, sz3, sz4, sz5, sz6, sz7, sz8, sz9, sz10, sz11, sz12, sz13, sz14, sz15, sz16, sz17, sz18, sz19, sz20, sz21, sz22, sz23, sz24, sz25, cpow1018, true_and, and_true, Nat.reduceAdd, Nat.reduceLT, Nat.reduceSub, Int.reduceNe, Int.reduceEq, Int.reduceLT, Int.reduceLE, Int.reduceToNat, ne_eq, not_false_eq_true, List.length_map, Nat.lt_irrefl, dV_nx, dV_rt, at0, at1, at2, at3, ix20, ix21, vSeq, vIfS, vTest, vTruth, truth, v2, v1, vN, vCons, vNil, vStar, vVar, vC, xIx, Vl.opI0, Vl.opI, pk, vSet, vAug, vAsg, xgSub, vRet, vRetN, vDrop, vBreak, vCont, asD, asDs, opMod, opDiv, opMul2, Vl.opAdd, Vl.opAddO, opSub, opPow, opLt, Vl.opLe, opGt, Vl.opGe, xEq, okEq_str, okEq_int, xIn, okIn, inD, xIsN, isNone_n, isNone_t, isNone_l, isNone_i, isNone_s, isMo, mob, pkm, gModI, gDivI, gSubI, gMulI, gPowI, gGt, gLt, gLe, gGe, vNotT, vAndT, vOrT, vAndV, vOrV, opNot, opNotG, vIfE, opTup, opLst, opLstO, Vl.opLen, Vl.opInt, opList, opListO, opTuple, opII, gMax, gMin, vM, vM0, isT, xPop, Vl.opAppend, opExtend, opJoin, vgName, vgTup, vgCons, vgNil, kOpt_some, kOpn_some, kOps_some, Vl.opSum, Vl.opInsert, Vl.opIndex, opDivmod, vSl, vPart, vNoPart, opSl, opSlO, opRev, opCallK, ownD, ownO, objs, renum, uniq, getS, putS, vCall0, vFor, vForW, En.wk, vSeqI, vTupI, vRng1, vRng2, vRngD, vFn, vCallL, vOdd, vWays, vEnum, vZip, chkOf, vLcK, vYes, finD, finO, En.wipe, wipeE, En.trim, trimS, dropNone, clr_n, clr_v, clr_k, clr_o, wth, Vl.ret, takeS, startV,  List.map_cons, List.map_nil, List.length_cons, List.length_nil, List.cons_append, List.nil_append, List.replicate, List.getElem?_cons_succ, List.getElem?_cons_zero, List.getElem?_nil, List.set_cons_succ, List.set_cons_zero, List.set_nil, List.all_nil, List.all_cons, Bool.true_and, Option.map_some, Option.map_none, if_true, if_false, decide_eq_true_eq, Bool.false_eq_true, List.take_succ_cons, List.take_zero, List.take_nil, List.drop_succ_cons, List.drop_zero, List.drop_nil, reduceIte, reduceCtorEq]
            refine ⟨pn1, fun v c2 n2 v0 v1 pn2 => ?_⟩
            obtain ⟨o, ho, hom⟩ := at_mem (ds := junkL) v0 v1
            simp only [ho, kOpt_some]
            exact fin o c2 n2 ((junk_any o hom).le (by omega) (by omega)) pn2
    simp only [t_Lbentv6, t_Lbentv6_12, t_Lbentv6_11, flatD, List.any_cons, List.any_nil, eqv_str, eqv_int, eqv_ti, eqv_it, eqv_st, eqv_ts, cut1, Bool.or_false, Bool.or_true, Bool.and_self, Bool.and_true, Bool.and_false, Bool.false_or, Bool.true_or, and_self, ofs_inj, ofs_app, ofs_len, String.reduceEq, String.reduceNe, String.reduceAppend, decide_true, decide_false, Bool.not_true, Bool.not_false, sz0, sz1, sz2, sz3, sz4, sz5, sz6, sz7, sz8, sz9, sz10, sz11, sz12, sz13, sz14, sz15, sz16, sz17, sz18, sz19, sz20, sz21, sz22, sz23, sz24, sz25, cpow1018, true_and, and_true, Nat.reduceAdd, Nat.reduceLT, Nat.reduceSub, Int.reduceNe, Int.reduceEq, Int.reduceLT, Int.reduceLE, Int.reduceToNat, ne_eq, not_false_eq_true, List.length_map, Nat.lt_irrefl, dV_nx, dV_rt, at0, at1, at2, at3, ix20, ix21, vSeq, vIfS, vTest, vTruth, truth, v2, v1, vN, vCons, vNil, vStar, vVar, vC, xIx, Vl.opI0, Vl.opI, pk, vSet, vAug, vAsg, xgSub, vRet, vRetN, vDrop, vBreak, vCont, asD, asDs, opMod, opDiv, opMul2, Vl.opAdd, Vl.opAddO, opSub, opPow, opLt, Vl.opLe, opGt, Vl.opGe, xEq, okEq_str, okEq_int, xIn, okIn, inD, xIsN, isNone_n, isNone_t, isNone_l, isNone_i, isNone_s, isMo, mob, pkm, gModI, gDivI, gSubI, gMulI, gPowI, gGt, gLt, gLe, gGe, vNotT, vAndT, vOrT, vAndV, vOrV, opNot, opNotG, vIfE, opTup, opLst, opLstO, Vl.opLen, Vl.opInt, opList, opListO, opTuple, opII, gMax, gMin, vM, vM0, isT, xPop, Vl.opAppend, opExtend, opJoin, vgName, vgTup, vgCons, vgNil, kOpt_some, kOpn_some, kOps_some, Vl.opSum, Vl.opInsert, Vl.opIndex, opDivmod, vSl, vPart, vNoPart, opSl, opSlO, opRev, opCallK, ownD, ownO, objs, renum, uniq, getS, putS, vCall0, vFor, vForW, En.wk, vSeqI, vTupI, vRng1, vRng2, vRngD, vFn, vCallL, vOdd, vWays, vEnum, vZip, chkOf, vLcK, vYes, finD, finO, En.wipe, wipeE, En.trim, trimS, dropNone, clr_n, clr_v, clr_k, clr_o, wth, Vl.ret, takeS, startV,  List.map_cons, List.map_nil, List.length_cons, List.length_nil, List.cons_append, List.nil_append, List.replicate, List.getElem?_cons_succ, List.getElem?_cons_zero, List.getElem?_nil, List.set_cons_succ, List.set_cons_zero, List.set_nil, List.all_nil, List.all_cons, Bool.true_and, Option.map_some, Option.map_none, if_true, if_false, decide_eq_true_eq, Bool.false_eq_true, List.take_succ_cons, List.take_zero, List.take_nil, List.drop_succ_cons, List.drop_zero, List.drop_nil, reduceIte, reduceCtorEq]
    have sh : Vl.shp (.list ts) = true := by
      unfold Vl.shp
      rw [can_lst, canAll_of fun t h => (DnT_can (td t h)).1, depth_lst]
      have := depAll_of (k := 2 * m) fun t h => (DnT_can (td t h)).2
      rw [decide_eq_true (by omega)]
      rfl
    refine ⟨okEq_of sh (shpS (xs := []) fun x hx => by cases hx), ?_⟩
    rw [eqv_nil]
    cases he : ts.isEmpty with
    | true =>
      rw [if_neg (by decide), vNext_mk]
      exact main c n none none pn
    | false =>
      rw [if_pos (by rfl)]
      simp only [pTake, flatD, List.any_cons, List.any_nil, eqv_str, eqv_int, eqv_ti, eqv_it, eqv_st, eqv_ts, cut1, Bool.or_false, Bool.or_true, Bool.and_self, Bool.and_true, Bool.and_false, Bool.false_or, Bool.true_or, and_self, ofs_inj, ofs_app, ofs_len, String.reduceEq, String.reduceNe, String.reduceAppend, decide_true, decide_false, Bool.not_true, Bool.not_false, sz0, sz1, sz2, sz3, sz4, sz5, sz6, sz7, sz8, sz9, sz10, sz11, sz12, sz13, sz14, sz15, sz16, sz17, sz18, sz19, sz20, sz21, sz22, sz23, sz24, sz25, cpow1018, true_and, and_true, Nat.reduceAdd, Nat.reduceLT, Nat.reduceSub, Int.reduceNe, Int.reduceEq, Int.reduceLT, Int.reduceLE, Int.reduceToNat, ne_eq, not_false_eq_true, List.length_map, Nat.lt_irrefl, dV_nx, dV_rt, at0, at1, at2, at3, ix20, ix21, vSeq, vIfS, vTest, vTruth, truth, v2, v1, vN, vCons, vNil, vStar, vVar, vC, xIx, Vl.opI0, Vl.opI, pk, vSet, vAug, vAsg, xgSub, vRet, vRetN, vDrop, vBreak, vCont, asD, asDs, opMod, opDiv, opMul2, Vl.opAdd, Vl.opAddO, opSub, opPow, opLt, Vl.opLe, opGt, Vl.opGe, xEq, okEq_str, okEq_int, xIn, okIn, inD, xIsN, isNone_n, isNone_t, isNone_l, isNone_i, isNone_s, isMo, mob, pkm, gModI, gDivI, gSubI, gMulI, gPowI, gGt, gLt, gLe, gGe, vNotT, vAndT, vOrT, vAndV, vOrV, opNot, opNotG, vIfE, opTup, opLst, opLstO, Vl.opLen, Vl.opInt, opList, opListO, opTuple, opII, gMax, gMin, vM, vM0, isT, xPop, Vl.opAppend, opExtend, opJoin, vgName, vgTup, vgCons, vgNil, kOpt_some, kOpn_some, kOps_some, Vl.opSum, Vl.opInsert, Vl.opIndex, opDivmod, vSl, vPart, vNoPart, opSl, opSlO, opRev, opCallK, ownD, ownO, objs, renum, uniq, getS, putS, vCall0, vFor, vForW, En.wk, vSeqI, vTupI, vRng1, vRng2, vRngD, vFn, vCallL, vOdd, vWays, vEnum, vZip, chkOf, vLcK, vYes, finD, finO, En.wipe, wipeE, En.trim, trimS, dropNone, clr_n, clr_v, clr_k, clr_o, wth, Vl.ret, takeS, startV,  List.map_cons, List.map_nil, List.length_cons, List.length_nil, List.cons_append, List.nil_append, List.replicate, List.getElem?_cons_succ, List.getElem?_cons_zero, List.getElem?_nil, List.set_cons_succ, List.set_cons_zero, List.set_nil, List.all_nil, List.all_cons, Bool.true_and, Option.map_some, Option.map_none, if_true, if_false, decide_eq_true_eq, Bool.false_eq_true, List.take_succ_cons, List.take_zero, List.take_nil, List.drop_succ_cons, List.drop_zero, List.drop_nil, reduceIte, reduceCtorEq]
      refine ⟨pn, fun w c1 n1 w0 w1 pn1 => ?_⟩
      split
      · have tpos : 0 < ts.length := by
          cases ts with
          | nil => cases he
          | cons t r => simp
        simp only [t_Lbentv6_2, pTake, flatD, List.any_cons, List.any_nil, eqv_str, eqv_int, eqv_ti, eqv_it, eqv_st, eqv_ts, cut1, Bool.or_false, Bool.or_true, Bool.and_self, Bool.and_true, Bool.and_false, Bool.false_or, Bool.true_or, and_self, ofs_inj, ofs_app, ofs_len, String.reduceEq, String.reduceNe, String.reduceAppend, decide_true, decide_false, Bool.not_true, Bool.not_false, sz0, sz1, sz2, sz3, sz4, sz5, sz6, sz7, sz8, sz9, sz10, sz11, sz12, sz13, sz14, sz15, sz16, sz17, sz18, sz19, sz20, sz21, sz22, sz23, sz24, sz25, cpow1018, true_and, and_true, Nat.reduceAdd, Nat.reduceLT, Nat.reduceSub, Int.reduceNe, Int.reduceEq, Int.reduceLT, Int.reduceLE, Int.reduceToNat, ne_eq, not_false_eq_true, List.length_map, Nat.lt_irrefl, dV_nx, dV_rt, at0, at1, at2, at3, ix20, ix21, vSeq, vIfS, vTest, vTruth, truth, v2, v1, vN, vCons, vNil, vStar, vVar, vC, xIx, Vl.opI0, Vl.opI, pk, vSet, vAug, vAsg, xgSub, vRet, vRetN, vDrop, vBreak, vCont, asD, asDs, opMod, opDiv, opMul2, Vl.opAdd, Vl.opAddO, opSub, opPow, opLt, Vl.opLe, opGt, Vl.opGe, xEq, okEq_str, okEq_int, xIn, okIn, inD, xIsN, isNone_n, isNone_t, isNone_l, isNone_i, isNone_s, isMo, mob, pkm, gModI, gDivI, gSubI, gMulI, gPowI, gGt, gLt, gLe, gGe, vNotT, vAndT, vOrT, vAndV, vOrV, opNot, opNotG, vIfE, opTup, opLst, opLstO, Vl.opLen, Vl.opInt, opList, opListO, opTuple, opII, gMax, gMin, vM, vM0, isT, xPop, Vl.opAppend, opExtend, opJoin, vgName, vgTup, vgCons, vgNil, kOpt_some, kOpn_some, kOps_some, Vl.opSum, Vl.opInsert, Vl.opIndex, opDivmod, vSl, vPart, vNoPart, opSl, opSlO, opRev, opCallK, ownD, ownO, objs, renum, uniq, getS, putS, vCall0, vFor, vForW, En.wk, vSeqI, vTupI, vRng1, vRng2, vRngD, vFn, vCallL, vOdd, vWays, vEnum, vZip, chkOf, vLcK, vYes, finD, finO, En.wipe, wipeE, En.trim, trimS, dropNone, clr_n, clr_v, clr_k, clr_o, wth, Vl.ret, takeS, startV,  List.map_cons, List.map_nil, List.length_cons, List.length_nil, List.cons_append, List.nil_append, List.replicate, List.getElem?_cons_succ, List.getElem?_cons_zero, List.getElem?_nil, List.set_cons_succ, List.set_cons_zero, List.set_nil, List.all_nil, List.all_cons, Bool.true_and, Option.map_some, Option.map_none, if_true, if_false, decide_eq_true_eq, Bool.false_eq_true, List.take_succ_cons, List.take_zero, List.take_nil, List.drop_succ_cons, List.drop_zero, List.drop_nil, reduceIte, reduceCtorEq]
        refine ⟨pn1, by omega, by omega, fun v c2 n2 v0 v1 pn2 => ?_⟩
        obtain ⟨o, ho, hom⟩ := at_mem v0 v1
        simp only [t_Lbentv6_1, ho, pBent34, flatD, List.any_cons, List.any_nil, eqv_str, eqv_int, eqv_ti, eqv_it, eqv_st, eqv_ts, cut1, Bool.or_false, Bool.or_true, Bool.and_self, Bool.and_true, Bool.and_false, Bool.false_or, Bool.true_or, and_self, ofs_inj, ofs_app, ofs_len, String.reduceEq, String.reduceNe, String.reduceAppend, decide_true, decide_false, Bool.not_true, Bool.not_false, sz0, sz1, sz2, sz3, sz4, sz5, sz6, sz7, sz8, sz9, sz10, sz11, sz12, sz13, sz14, sz15, sz16, sz17, sz18, sz19, sz20, sz21, sz22, sz23, sz24, sz25, cpow1018, true_and, and_true, Nat.reduceAdd, Nat.reduceLT, Nat.reduceSub, Int.reduceNe, Int.reduceEq, Int.reduceLT, Int.reduceLE, Int.reduceToNat, ne_eq, not_false_eq_true, List.length_map, Nat.lt_irrefl, dV_nx, dV_rt, at0, at1, at2, at3, ix20, ix21, vSeq, vIfS, vTest, vTruth, truth, v2, v1, vN, vCons, vNil, vStar, vVar, vC, xIx, Vl.opI0, Vl.opI, pk, vSet, vAug, vAsg, xgSub, vRet, vRetN, vDrop, vBreak, vCont, asD, asDs, opMod, opDiv, opMul2, Vl.opAdd, Vl.opAddO, opSub, opPow, opLt, Vl.opLe, opGt, Vl.opGe, xEq, okEq_str, okEq_int, xIn, okIn, inD, xIsN, isNone_n, isNone_t, isNone_l, isNone_i, isNone_s, isMo, mob, pkm, gModI, gDivI, gSubI, gMulI, gPowI, gGt, gLt, gLe, gGe, vNotT, vAndT, vOrT, vAndV, vOrV, opNot, opNotG, vIfE, opTup, opLst, opLstO, Vl.opLen, Vl.opInt, opList, opListO, opTuple, opII, gMax, gMin, vM, vM0, isT, xPop, Vl.opAppend, opExtend, opJoin, vgName, vgTup, vgCons, vgNil, kOpt_some, kOpn_some, kOps_some, Vl.opSum, Vl.opInsert, Vl.opIndex, opDivmod, vSl, vPart, vNoPart, opSl, opSlO, opRev, opCallK, ownD, ownO, objs, renum, uniq, getS, putS, vCall0, vFor, vForW, En.wk, vSeqI, vTupI, vRng1, vRng2, vRngD, vFn, vCallL, vOdd, vWays, vEnum, vZip, chkOf, vLcK, vYes, finD, finO, En.wipe, wipeE, En.trim, trimS, dropNone, clr_n, clr_v, clr_k, clr_o, wth, Vl.ret, takeS, startV,  List.map_cons, List.map_nil, List.length_cons, List.length_nil, List.cons_append, List.nil_append, List.replicate, List.getElem?_cons_succ, List.getElem?_cons_zero, List.getElem?_nil, List.set_cons_succ, List.set_cons_zero, List.set_nil, List.all_nil, List.all_cons, Bool.true_and, Option.map_some, Option.map_none, if_true, if_false, decide_eq_true_eq, Bool.false_eq_true, List.take_succ_cons, List.take_zero, List.take_nil, List.drop_succ_cons, List.drop_zero, List.drop_nil, reduceIte, reduceCtorEq]
        refine ⟨c2, n2, o, m, by omega, by omega, rfl, rfl, pn2, td o hom, fun d' c3 n3 h4 pn3 => ?_⟩
        have l1 := cut_le ts none (some v)
        have l2 := cut_le ts (some (v + 1)) none
        have m1 : ∀ d ∈ Vl.cut ts none (some v) ++ [d'] ++ Vl.cut ts (some (v + 1)) none, Any3 (2 * m + 2) (cB m) d := fun d hd => by
          rcases List.mem_append.mp hd with hd | hd
          · rcases List.mem_append.mp hd with hd | hd
            · exact (aT d (cut_mem hd)).le (by omega) (Nat.le_refl _)
            · rw [List.mem_singleton.mp hd]
              exact h4
          · exact (aT d (cut_mem hd)).le (by omega) (Nat.le_refl _)
        have ll : (Vl.cut ts none (some v) ++ [d'] ++ Vl.cut ts (some (v + 1)) none).length ≤ 5 := by
          rw [List.length_append, List.length_append, List.length_singleton]
          omega
        have h5 : (Vl.cut ts none (some v) ++ [d'] ++ Vl.cut ts (some (v + 1)) none).length * cB m ≤ 5 * cB m := Nat.mul_le_mul_right _ ll
        refine ⟨big (by omega), big (by rw [List.length_append, List.length_singleton]; omega), fin _ _ _ ((any_pair (aM.le (a' := 1 + (2 * m + 2)) (by omega) (Nat.le_refl _)) (any_list m1 (by omega))).le (by omega) (by omega)) pn3⟩
      · rw [vNext_mk]
        exact main c1 n1 none none pn1
end Kf
namespace Kf
open PySem L2 Vl PySem.Spec PyProof.Rows
mutual
theorem okSm_of : ∀ {d : D}, okT d → okSm d = true
  | .none, _ => by unfold okSm; rfl
  | .bool _, _ => by unfold okSm; rfl
  | .int _, _ => by unfold okSm; rfl
  | .str _, _ => by unfold okSm; rfl
  | .list ds, h => by
    unfold okT at h
    unfold okSm
    exact okSms_of h.2
  | .tuple ds, h => by
    unfold okT at h
    unfold okSm
    exact okSms_of h.2
  | .dict ds, h => by
    unfold okT at h
    subst h
    unfold okSm
    rfl
theorem okSms_of : ∀ {ds : List D}, okTs ds → okSms ds = true
  | [], _ => by unfold okSms; rfl
  | d :: ds, h => by
    unfold okTs at h
    unfold okSms
    rw [okSm_of h.1, okSms_of h.2]
    rfl
end
mutual
theorem depth_le : ∀ {d : D}, okT d → PyData.depth d ≤ dpT d + 1
  | .none, _ => by rw [PyData.depth]; omega
  | .bool _, _ => by rw [PyData.depth]; omega
  | .int _, _ => by rw [PyData.depth]; omega
  | .str _, _ => by rw [PyData.depth]; omega
  | .list ds, h => by
    unfold okT at h
    rw [depth_lst]
    unfold dpT
    have := depths_le h.2
    omega
  | .tuple ds, h => by
    unfold okT at h
    rw [depth_tup]
    unfold dpT
    have := depths_le h.2
    omega
  | .dict ds, h => by
    unfold okT at h
    subst h
    show PyData.depth (.dict []) ≤ 1
    decide +kernel
theorem depths_le : ∀ {ds : List D}, okTs ds → PyData.depthAll ds ≤ dpTs ds + 1
  | [], _ => by rw [depthAll_nil]; omega
  | d :: ds, h => by
    unfold okTs at h
    rw [depthAll_cons]
    unfold dpTs
    have := depth_le h.1
    have := depths_le h.2
    omega
end
theorem isTr_can : ∀ {n : Nat} {b : List Str} {d : D}, isTr n b d = true → okT d → PyData.canLay0 d = true ∧ PyData.depth d ≤ 2 * n
  | n, b, d, h, ok => by
    obtain ⟨m, ms, ts, rfl, he, h3, h4⟩ := isTr_inv h
    obtain ⟨rfl, _, _⟩ := hfD_of he
    unfold okT at ok
    have ok2 := ok.2
    unfold okTs okTs at ok2
    have okm := ok2.1
    have okts := ok2.2.1
    unfold okT at okm okts
    have := tree_can (zs := ms) (ts := ts) (k := 2 * m) (okS_of okm.2) (fun t ht => (isTr_can (h4 t ht) (okTs_mem okts.2 t ht)).1) (fun t ht => (isTr_can (h4 t ht) (okTs_mem okts.2 t ht)).2)
    exact ⟨this.1, by omega⟩
theorem wn_le : ∀ (n : Nat) (d : D), wn n d ≤ ndT d
  | 0, d => Nat.zero_le _
  | n + 1, d => by
    show (match hfD d with
      | some (_, ts) => 1 + (ts.map (wn n)).sum
      | none => 0) ≤ _
    cases he : hfD d with
    | none => exact Nat.zero_le _
    | some p =>
      obtain ⟨ms, ts⟩ := p
      obtain ⟨rfl, _, _⟩ := hfD_of he
      have : (ts.map (wn n)).sum ≤ ndTs ts := by
        clear he
        induction ts with
        | nil => exact Nat.le_refl _
        | cons t ts ih =>
          rw [List.map_cons, List.sum_cons]
          unfold ndTs
          have := wn_le n t
          omega
      simp only [ndT, ndTs]
      omega
def pRight34 : VSp := fun ss st Kp => ∃ d : D, okT d ∧ ndT d ≤ 1000000 ∧ dpT d ≤ 90 ∧ ss = [.val d] ∧ st = [] ∧ Kp (.val (.bool true)) []
theorem r_Right34 {ss cs Kp} (h : pRight34 ss cs Kp) : t_Lrightv2 (pCop 91) pIsTree (pLisT 41) pWorlds (pAllT 41) (dV cs.length Kp) ⟨startV 4 ss, cs.map some⟩ := by
  obtain ⟨d, ok, hn, hdp, rfl, rfl, q⟩ := h
  simp only [t_Lrightv2, t_Lrightv2_8, flatD, List.any_cons, List.any_nil, eqv_str, eqv_int, eqv_ti, eqv_it, eqv_st, eqv_ts, cut1, Bool.or_false, Bool.or_true, Bool.and_self, Bool.and_true, Bool.and_false, Bool.false_or, Bool.true_or, and_self, ofs_inj, ofs_app, ofs_len, String.reduceEq, String.reduceNe, String.reduceAppend, decide_true, decide_false, Bool.not_true, Bool.not_false, sz0, sz1, sz2, sz3, sz4, sz5, sz6, sz7, sz8, sz9, sz10, sz11, sz12, sz13, sz14, sz15, sz16, sz17, sz18, sz19, sz20, sz21, sz22, sz23, sz24, sz25, cpow1018, true_and, and_true, Nat.reduceAdd, Nat.reduceLT, Nat.reduceSub, Int.reduceNe, Int.reduceEq, Int.reduceLT, Int.reduceLE, Int.reduceToNat, ne_eq, not_false_eq_true, List.length_map, Nat.lt_irrefl, dV_nx, dV_rt, at0, at1, at2, at3, ix20, ix21, vSeq, vIfS, vTest, vTruth, truth, v2, v1, vN, vCons, vNil, vStar, vVar, vC, xIx, Vl.opI0, Vl.opI, pk, vSet, vAug, vAsg, xgSub, vRet, vRetN, vDrop, vBreak, vCont, asD, asDs, opMod, opDiv, opMul2, Vl.opAdd, Vl.opAddO, opSub, opPow, opLt, Vl.opLe, opGt, Vl.opGe, xEq, okEq_str, okEq_int, xIn, okIn, inD, xIsN, isNone_n, isNone_t, isNone_l, isNone_i, isNone_s, isMo, mob, pkm, gModI, gDivI, gSubI, gMulI, gPowI, gGt, gLt, gLe, gGe, vNotT, vAndT, vOrT, vAndV, vOrV, opNot, opNotG, vIfE, opTup, opLst, opLstO, Vl.opLen, Vl.opInt, opList, opListO, opTuple, opII, gMax, gMin, vM, vM0, isT, xPop, Vl.opAppend, opExtend, opJoin, vgName, vgTup, vgCons, vgNil, kOpt_some, kOpn_some, kOps_some, Vl.opSum, Vl.opInsert, Vl.opIndex, opDivmod, vSl, vPart, vNoPart, opSl, opSlO, opRev, opCallK, ownD, ownO, objs, renum, uniq, getS, putS, vCall0, vFor, vForW, En.wk, vSeqI, vTupI, vRng1, vRng2, vRngD, vFn, vCallL, vOdd, vWays, vEnum, vZip, chkOf, vLcK, vYes, finD, finO, En.wipe, wipeE, En.trim, trimS, dropNone, clr_n, clr_v, clr_k, clr_o, wth, Vl.ret, takeS, startV,  List.map_cons, List.map_nil, List.length_cons, List.length_nil, List.cons_append, List.nil_append, List.replicate, List.getElem?_cons_succ, List.getElem?_cons_zero, List.getElem?_nil, List.set_cons_succ, List.set_cons_zero, List.set_nil, List.all_nil, List.all_cons, Bool.true_and, Option.map_some, Option.map_none, if_true, if_false, decide_eq_true_eq, Bool.false_eq_true, List.take_succ_cons, List.take_zero, List.take_nil, List.drop_succ_cons, List.drop_zero, List.drop_nil, reduceIte, reduceCtorEq]
  refine ⟨d, by omega, ok, rfl, rfl, ?_⟩
  simp only [t_Lrightv2_7, flatD, List.any_cons, List.any_nil, eqv_str, eqv_int, eqv_ti, eqv_it, eqv_st, eqv_ts, cut1, Bool.or_false, Bool.or_true, Bool.and_self, Bool.and_true, Bool.and_false, Bool.false_or, Bool.true_or, and_self, ofs_inj, ofs_app, ofs_len, String.reduceEq, String.reduceNe, String.reduceAppend, decide_true, decide_false, Bool.not_true, Bool.not_false, sz0, sz1, sz2, sz3, sz4, sz5, sz6, sz7, sz8, sz9, sz10, sz11, sz12, sz13, sz14, sz15, sz16, sz17, sz18, sz19, sz20, sz21, sz22, sz23, sz24, sz25, cpow1018, true_and, and_true, Nat.reduceAdd, Nat.reduceLT, Nat.reduceSub, Int.reduceNe, Int.reduceEq, Int.reduceLT, Int.reduceLE, Int.reduceToNat, ne_eq, not_false_eq_true, List.length_map, Nat.lt_irrefl, dV_nx, dV_rt, at0, at1, at2, at3, ix20, ix21, vSeq, vIfS, vTest, vTruth, truth, v2, v1, vN, vCons, vNil, vStar, vVar, vC, xIx, Vl.opI0, Vl.opI, pk, vSet, vAug, vAsg, xgSub, vRet, vRetN, vDrop, vBreak, vCont, asD, asDs, opMod, opDiv, opMul2, Vl.opAdd, Vl.opAddO, opSub, opPow, opLt, Vl.opLe, opGt, Vl.opGe, xEq, okEq_str, okEq_int, xIn, okIn, inD, xIsN, isNone_n, isNone_t, isNone_l, isNone_i, isNone_s, isMo, mob, pkm, gModI, gDivI, gSubI, gMulI, gPowI, gGt, gLt, gLe, gGe, vNotT, vAndT, vOrT, vAndV, vOrV, opNot, opNotG, vIfE, opTup, opLst, opLstO, Vl.opLen, Vl.opInt, opList, opListO, opTuple, opII, gMax, gMin, vM, vM0, isT, xPop, Vl.opAppend, opExtend, opJoin, vgName, vgTup, vgCons, vgNil, kOpt_some, kOpn_some, kOps_some, Vl.opSum, Vl.opInsert, Vl.opIndex, opDivmod, vSl, vPart, vNoPart, opSl, opSlO, opRev, opCallK, ownD, ownO, objs, renum, uniq, getS, putS, vCall0, vFor, vForW, En.wk, vSeqI, vTupI, vRng1, vRng2, vRngD, vFn, vCallL, vOdd, vWays, vEnum, vZip, chkOf, vLcK, vYes, finD, finO, En.wipe, wipeE, En.trim, trimS, dropNone, clr_n, clr_v, clr_k, clr_o, wth, Vl.ret, takeS, startV,  List.map_cons, List.map_nil, List.length_cons, List.length_nil, List.cons_append, List.nil_append, List.replicate, List.getElem?_cons_succ, List.getElem?_cons_zero, List.getElem?_nil, List.set_cons_succ, List.set_cons_zero, List.set_nil, List.all_nil, List.all_cons, Bool.true_and, Option.map_some, Option.map_none, if_true, if_false, decide_eq_true_eq, Bool.false_eq_true, List.take_succ_cons, List.take_zero, List.take_nil, List.drop_succ_cons, List.drop_zero, List.drop_nil, reduceIte, reduceCtorEq]
  refine ⟨d, ok, hn, rfl, rfl, ?_⟩
  simp only [t_Lrightv2_6, vIsi, ySm, dat, flatD, List.any_cons, List.any_nil, eqv_str, eqv_int, eqv_ti, eqv_it, eqv_st, eqv_ts, cut1, Bool.or_false, Bool.or_true, Bool.and_self, Bool.and_true, Bool.and_false, Bool.false_or, Bool.true_or, and_self, ofs_inj, ofs_app, ofs_len, String.reduceEq, String.reduceNe, String.reduceAppend, decide_true, decide_false, Bool.not_true, Bool.not_false, sz0, sz1, sz2, sz3, sz4, sz5, sz6, sz7, sz8, sz9, sz10, sz11, sz12, sz13, sz14, sz15, sz16, sz17, sz18, sz19, sz20, sz21, sz22, sz23, sz24, sz25, cpow1018, true_and, and_true, Nat.reduceAdd, Nat.reduceLT, Nat.reduceSub, Int.reduceNe, Int.reduceEq, Int.reduceLT, Int.reduceLE, Int.reduceToNat, ne_eq, not_false_eq_true, List.length_map, Nat.lt_irrefl, dV_nx, dV_rt, at0, at1, at2, at3, ix20, ix21, vSeq, vIfS, vTest, vTruth, truth, v2, v1, vN, vCons, vNil, vStar, vVar, vC, xIx, Vl.opI0, Vl.opI, pk, vSet, vAug, vAsg, xgSub, vRet, vRetN, vDrop, vBreak, vCont, asD, asDs, opMod, opDiv, opMul2, Vl.opAdd, Vl.opAddO, opSub, opPow, opLt, Vl.opLe, opGt, Vl.opGe, xEq, okEq_str, okEq_int, xIn, okIn, inD, xIsN, isNone_n, isNone_t, isNone_l, isNone_i, isNone_s, isMo, mob, pkm, gModI, gDivI, gSubI, gMulI, gPowI, gGt, gLt, gLe, gGe, vNotT, vAndT, vOrT, vAndV, vOrV, opNot, opNotG, vIfE, opTup, opLst, opLstO, Vl.opLen, Vl.opInt, opList, opListO, opTuple, opII, gMax, gMin, vM, vM0, isT, xPop, Vl.opAppend, opExtend, opJoin, vgName, vgTup, vgCons, vgNil, kOpt_some, kOpn_some, kOps_some, Vl.opSum, Vl.opInsert, Vl.opIndex, opDivmod, vSl, vPart, vNoPart, opSl, opSlO, opRev, opCallK, ownD, ownO, objs, renum, uniq, getS, putS, vCall0, vFor, vForW, En.wk, vSeqI, vTupI, vRng1, vRng2, vRngD, vFn, vCallL, vOdd, vWays, vEnum, vZip, chkOf, vLcK, vYes, finD, finO, En.wipe, wipeE, En.trim, trimS, dropNone, clr_n, clr_v, clr_k, clr_o, wth, Vl.ret, takeS, startV,  List.map_cons, List.map_nil, List.length_cons, List.length_nil, List.cons_append, List.nil_append, List.replicate, List.getElem?_cons_succ, List.getElem?_cons_zero, List.getElem?_nil, List.set_cons_succ, List.set_cons_zero, List.set_nil, List.all_nil, List.all_cons, Bool.true_and, Option.map_some, Option.map_none, if_true, if_false, decide_eq_true_eq, Bool.false_eq_true, List.take_succ_cons, List.take_zero, List.take_nil, List.drop_succ_cons, List.drop_zero, List.drop_nil, reduceIte, reduceCtorEq]
  refine ⟨true, by show kitB "bool" "bool" = some true; decide +kernel, ?_⟩
  rw [if_neg (by decide)]
  refine ⟨d, 40, by decide, by decide, ok, rfl, rfl, ?_⟩
  simp only [flatD, List.any_cons, List.any_nil, eqv_str, eqv_int, eqv_ti, eqv_it, eqv_st, eqv_ts, cut1, Bool.or_false, Bool.or_true, Bool.and_self, Bool.and_true, Bool.and_false, Bool.false_or, Bool.true_or, and_self, ofs_inj, ofs_app, ofs_len, String.reduceEq, String.reduceNe, String.reduceAppend, decide_true, decide_false, Bool.not_true, Bool.not_false, sz0, sz1, sz2, sz3, sz4, sz5, sz6, sz7, sz8, sz9, sz10, sz11, sz12, sz13, sz14, sz15, sz16, sz17, sz18, sz19, sz20, sz21, sz22, sz23, sz24, sz25, cpow1018, true_and, and_true, Nat.reduceAdd, Nat.reduceLT, Nat.reduceSub, Int.reduceNe, Int.reduceEq, Int.reduceLT, Int.reduceLE, Int.reduceToNat, ne_eq, not_false_eq_true, List.length_map, Nat.lt_irrefl, dV_nx, dV_rt, at0, at1, at2, at3, ix20, ix21, vSeq, vIfS, vTest, vTruth, truth, v2, v1, vN, vCons, vNil, vStar, vVar, vC, xIx, Vl.opI0, Vl.opI, pk, vSet, vAug, vAsg, xgSub, vRet, vRetN, vDrop, vBreak, vCont, asD, asDs, opMod, opDiv, opMul2, Vl.opAdd, Vl.opAddO, opSub, opPow, opLt, Vl.opLe, opGt, Vl.opGe, xEq, okEq_str, okEq_int, xIn, okIn, inD, xIsN, isNone_n, isNone_t, isNone_l, isNone_i, isNone_s, isMo, mob, pkm, gModI, gDivI, gSubI, gMulI, gPowI, gGt, gLt, gLe, gGe, vNotT, vAndT, vOrT, vAndV, vOrV, opNot, opNotG, vIfE, opTup, opLst, opLstO, Vl.opLen, Vl.opInt, opList, opListO, opTuple, opII, gMax, gMin, vM, vM0, isT, xPop, Vl.opAppend, opExtend, opJoin, vgName, vgTup, vgCons, vgNil, kOpt_some, kOpn_some, kOps_some, Vl.opSum, Vl.opInsert, Vl.opIndex, opDivmod, vSl, vPart, vNoPart, opSl, opSlO, opRev, opCallK, ownD, ownO, objs, renum, uniq, getS, putS, vCall0, vFor, vForW, En.wk, vSeqI, vTupI, vRng1, vRng2, vRngD, vFn, vCallL, vOdd, vWays, vEnum, vZip, chkOf, vLcK, vYes, finD, finO, En.wipe, wipeE, En.trim, trimS, dropNone, clr_n, clr_v, clr_k, clr_o, wth, Vl.ret, takeS, startV,  List.map_cons, List.map_nil, List.length_cons, List.length_nil, List.cons_append, List.nil_append, List.replicate, List.getElem?_cons_succ, List.getElem?_cons_zero, List.getElem?_nil, List.set_cons_succ, List.set_cons_zero, List.set_nil, List.all_nil, List.all_cons, Bool.true_and, Option.map_some, Option.map_none, if_true, if_false, decide_eq_true_eq, Bool.false_eq_true, List.take_succ_cons, List.take_zero, List.take_nil, List.drop_succ_cons, List.drop_zero, List.drop_nil, reduceIte, reduceCtorEq]
  have eL : isL 40 d = isTr 40 [] d := by
    rw [isTr_L]
    simp
  rw [eL]
  have bb : ∀ b : Bool, PyData.eqv (.bool b) (.bool b) = true := fun b => by cases b <;> decide +kernel
  refine ⟨okEq_of (by cases isTr 40 [] d <;> decide +kernel) (by cases isTr 40 [] d <;> decide +kernel), ?_⟩
  rw [bb, if_neg (by decide)]
  refine ⟨okSm_of ok, by have := depth_le ok; omega, ?_⟩
  rw [vNext_mk]
  simp only [t_Lrightv2_5, truth, flatD, List.any_cons, List.any_nil, eqv_str, eqv_int, eqv_ti, eqv_it, eqv_st, eqv_ts, cut1, Bool.or_false, Bool.or_true, Bool.and_self, Bool.and_true, Bool.and_false, Bool.false_or, Bool.true_or, and_self, ofs_inj, ofs_app, ofs_len, String.reduceEq, String.reduceNe, String.reduceAppend, decide_true, decide_false, Bool.not_true, Bool.not_false, sz0, sz1, sz2, sz3, sz4, sz5, sz6, sz7, sz8, sz9, sz10, sz11, sz12, sz13, sz14, sz15, sz16, sz17, sz18, sz19, sz20, sz21, sz22, sz23, sz24, sz25, cpow1018, true_and, and_true, Nat.reduceAdd, Nat.reduceLT, Nat.reduceSub, Int.reduceNe, Int.reduceEq, Int.reduceLT, Int.reduceLE, Int.reduceToNat, ne_eq, not_false_eq_true, List.length_map, Nat.lt_irrefl, dV_nx, dV_rt, at0, at1, at2, at3, ix20, ix21, vSeq, vIfS, vTest, vTruth, truth, v2, v1, vN, vCons, vNil, vStar, vVar, vC, xIx, Vl.opI0, Vl.opI, pk, vSet, vAug, vAsg, xgSub, vRet, vRetN, vDrop, vBreak, vCont, asD, asDs, opMod, opDiv, opMul2, Vl.opAdd, Vl.opAddO, opSub, opPow, opLt, Vl.opLe, opGt, Vl.opGe, xEq, okEq_str, okEq_int, xIn, okIn, inD, xIsN, isNone_n, isNone_t, isNone_l, isNone_i, isNone_s, isMo, mob, pkm, gModI, gDivI, gSubI, gMulI, gPowI, gGt, gLt, gLe, gGe, vNotT, vAndT, vOrT, vAndV, vOrV, opNot, opNotG, vIfE, opTup, opLst, opLstO, Vl.opLen, Vl.opInt, opList, opListO, opTuple, opII, gMax, gMin, vM, vM0, isT, xPop, Vl.opAppend, opExtend, opJoin, vgName, vgTup, vgCons, vgNil, kOpt_some, kOpn_some, kOps_some, Vl.opSum, Vl.opInsert, Vl.opIndex, opDivmod, vSl, vPart, vNoPart, opSl, opSlO, opRev, opCallK, ownD, ownO, objs, renum, uniq, getS, putS, vCall0, vFor, vForW, En.wk, vSeqI, vTupI, vRng1, vRng2, vRngD, vFn, vCallL, vOdd, vWays, vEnum, vZip, chkOf, vLcK, vYes, finD, finO, En.wipe, wipeE, En.trim, trimS, dropNone, clr_n, clr_v, clr_k, clr_o, wth, Vl.ret, takeS, startV,  List.map_cons, List.map_nil, List.length_cons, List.length_nil, List.cons_append, List.nil_append, List.replicate, List.getElem?_cons_succ, List.getElem?_cons_zero, List.getElem?_nil, List.set_cons_succ, List.set_cons_zero, List.set_nil, List.all_nil, List.all_cons, Bool.true_and, Option.map_some, Option.map_none, if_true, if_false, decide_eq_true_eq, Bool.false_eq_true, List.take_succ_cons, List.take_zero, List.take_nil, List.drop_succ_cons, List.drop_zero, List.drop_nil, reduceIte, reduceCtorEq]
  cases ht : isTr 40 [] d with
  | false =>
    rw [if_pos (by rfl)]
    simp only [t_Lrightv2_2, flatD, List.any_cons, List.any_nil, eqv_str, eqv_int, eqv_ti, eqv_it, eqv_st, eqv_ts, cut1, Bool.or_false, Bool.or_true, Bool.and_self, Bool.and_true, Bool.and_false, Bool.false_or, Bool.true_or, and_self, ofs_inj, ofs_app, ofs_len, String.reduceEq, String.reduceNe, String.reduceAppend, decide_true, decide_false, Bool.not_true, Bool.not_false, sz0, sz1, sz2, sz3, sz4, sz5, sz6, sz7, sz8, sz9, sz10, sz11, sz12, sz13, sz14, sz15, sz16, sz17, sz18, sz19, sz20, sz21, sz22, sz23, sz24, sz25, cpow1018, true_and, and_true, Nat.reduceAdd, Nat.reduceLT, Nat.reduceSub, Int.reduceNe, Int.reduceEq, Int.reduceLT, Int.reduceLE, Int.reduceToNat, ne_eq, not_false_eq_true, List.length_map, Nat.lt_irrefl, dV_nx, dV_rt, at0, at1, at2, at3, ix20, ix21, vSeq, vIfS, vTest, vTruth, truth, v2, v1, vN, vCons, vNil, vStar, vVar, vC, xIx, Vl.opI0, Vl.opI, pk, vSet, vAug, vAsg, xgSub, vRet, vRetN, vDrop, vBreak, vCont, asD, asDs, opMod, opDiv, opMul2, Vl.opAdd, Vl.opAddO, opSub, opPow, opLt, Vl.opLe, opGt, Vl.opGe, xEq, okEq_str, okEq_int, xIn, okIn, inD, xIsN, isNone_n, isNone_t, isNone_l, isNone_i, isNone_s, isMo, mob, pkm, gModI, gDivI, gSubI, gMulI, gPowI, gGt, gLt, gLe, gGe, vNotT, vAndT, vOrT, vAndV, vOrV, opNot, opNotG, vIfE, opTup, opLst, opLstO, Vl.opLen, Vl.opInt, opList, opListO, opTuple, opII, gMax, gMin, vM, vM0, isT, xPop, Vl.opAppend, opExtend, opJoin, vgName, vgTup, vgCons, vgNil, kOpt_some, kOpn_some, kOps_some, Vl.opSum, Vl.opInsert, Vl.opIndex, opDivmod, vSl, vPart, vNoPart, opSl, opSlO, opRev, opCallK, ownD, ownO, objs, renum, uniq, getS, putS, vCall0, vFor, vForW, En.wk, vSeqI, vTupI, vRng1, vRng2, vRngD, vFn, vCallL, vOdd, vWays, vEnum, vZip, chkOf, vLcK, vYes, finD, finO, En.wipe, wipeE, En.trim, trimS, dropNone, clr_n, clr_v, clr_k, clr_o, wth, Vl.ret, takeS, startV,  List.map_cons, List.map_nil, List.length_cons, List.length_nil, List.cons_append, List.nil_append, List.replicate, List.getElem?_cons_succ, List.getElem?_cons_zero, List.getElem?_nil, List.set_cons_succ, List.set_cons_zero, List.set_nil, List.all_nil, List.all_cons, Bool.true_and, Option.map_some, Option.map_none, if_true, if_false, decide_eq_true_eq, Bool.false_eq_true, List.take_succ_cons, List.take_zero, List.take_nil, List.drop_succ_cons, List.drop_zero, List.drop_nil, reduceIte, reduceCtorEq]
    exact q
  | true =>
    rw [if_neg (by decide), vNext_mk]
    simp only [t_Lrightv2_4, flatD, List.any_cons, List.any_nil, eqv_str, eqv_int, eqv_ti, eqv_it, eqv_st, eqv_ts, cut1, Bool.or_false, Bool.or_true, Bool.and_self, Bool.and_true, Bool.and_false, Bool.false_or, Bool.true_or, and_self, ofs_inj, ofs_app, ofs_len, String.reduceEq, String.reduceNe, String.reduceAppend, decide_true, decide_false, Bool.not_true, Bool.not_false, sz0, sz1, sz2, sz3, sz4, sz5, sz6, sz7, sz8, sz9, sz10, sz11, sz12, sz13, sz14, sz15, sz16, sz17, sz18, sz19, sz20, sz21, sz22, sz23, sz24, sz25, cpow1018, true_and, and_true, Nat.reduceAdd, Nat.reduceLT, Nat.reduceSub, Int.reduceNe, Int.reduceEq, Int.reduceLT, Int.reduceLE, Int.reduceToNat, ne_eq, not_false_eq_true, List.length_map, Nat.lt_irrefl, dV_nx, dV_rt, at0, at1, at2, at3, ix20, ix21, vSeq, vIfS, vTest, vTruth, truth, v2, v1, vN, vCons, vNil, vStar, vVar, vC, xIx, Vl.opI0, Vl.opI, pk, vSet, vAug, vAsg, xgSub, vRet, vRetN, vDrop, vBreak, vCont, asD, asDs, opMod, opDiv, opMul2, Vl.opAdd, Vl.opAddO, opSub, opPow, opLt, Vl.opLe, opGt, Vl.opGe, xEq, okEq_str, okEq_int, xIn, okIn, inD, xIsN, isNone_n, isNone_t, isNone_l, isNone_i, isNone_s, isMo, mob, pkm, gModI, gDivI, gSubI, gMulI, gPowI, gGt, gLt, gLe, gGe, vNotT, vAndT, vOrT, vAndV, vOrV, opNot, opNotG, vIfE, opTup, opLst, opLstO, Vl.opLen, Vl.opInt, opList, opListO, opTuple, opII, gMax, gMin, vM, vM0, isT, xPop, Vl.opAppend, opExtend, opJoin, vgName, vgTup, vgCons, vgNil, kOpt_some, kOpn_some, kOps_some, Vl.opSum, Vl.opInsert, Vl.opIndex, opDivmod, vSl, vPart, vNoPart, opSl, opSlO, opRev, opCallK, ownD, ownO, objs, renum, uniq, getS, putS, vCall0, vFor, vForW, En.wk, vSeqI, vTupI, vRng1, vRng2, vRngD, vFn, vCallL, vOdd, vWays, vEnum, vZip, chkOf, vLcK, vYes, finD, finO, En.wipe, wipeE, En.trim, trimS, dropNone, clr_n, clr_v, clr_k, clr_o, wth, Vl.ret, takeS, startV,  List.map_cons, List.map_nil, List.length_cons, List.length_nil, List.cons_append, List.nil_append, List.replicate, List.getElem?_cons_succ, List.getElem?_cons_zero, List.getElem?_nil, List.set_cons_succ, List.set_cons_zero, List.set_nil, List.all_nil, List.all_cons, Bool.true_and, Option.map_some, Option.map_none, if_true, if_false, decide_eq_true_eq, Bool.false_eq_true, List.take_succ_cons, List.take_zero, List.take_nil, List.drop_succ_cons, List.drop_zero, List.drop_nil, reduceIte, reduceCtorEq]
    refine ⟨d, 40, [], ht, hn, rfl, rfl, ?_⟩
    simp only [t_Lrightv2_3, vIsi, flatD, List.any_cons, List.any_nil, eqv_str, eqv_int, eqv_ti, eqv_it, eqv_st, eqv_ts, cut1, Bool.or_false, Bool.or_true, Bool.and_self, Bool.and_true, Bool.and_false, Bool.false_or, Bool.true_or, and_self, ofs_inj, ofs_app, ofs_len, String.reduceEq, String.reduceNe, String.reduceAppend, decide_true, decide_false, Bool.not_true, Bool.not_false, sz0, sz1, sz2, sz3, sz4, sz5, sz6, sz7, sz8, sz9, sz10, sz11, sz12, sz13, sz14, sz15, sz16, sz17, sz18, sz19, sz20, sz21, sz22, sz23, sz24, sz25, cpow1018, true_and, and_true, Nat.reduceAdd, Nat.reduceLT, Nat.reduceSub, Int.reduceNe, Int.reduceEq, Int.reduceLT, Int.reduceLE, Int.reduceToNat, ne_eq, not_false_eq_true, List.length_map, Nat.lt_irrefl, dV_nx, dV_rt, at0, at1, at2, at3, ix20, ix21, vSeq, vIfS, vTest, vTruth, truth, v2, v1, vN, vCons, vNil, vStar, vVar, vC, xIx, Vl.opI0, Vl.opI, pk, vSet, vAug, vAsg, xgSub, vRet, vRetN, vDrop, vBreak, vCont, asD, asDs, opMod, opDiv, opMul2, Vl.opAdd, Vl.opAddO, opSub, opPow, opLt, Vl.opLe, opGt, Vl.opGe, xEq, okEq_str, okEq_int, xIn, okIn, inD, xIsN, isNone_n, isNone_t, isNone_l, isNone_i, isNone_s, isMo, mob, pkm, gModI, gDivI, gSubI, gMulI, gPowI, gGt, gLt, gLe, gGe, vNotT, vAndT, vOrT, vAndV, vOrV, opNot, opNotG, vIfE, opTup, opLst, opLstO, Vl.opLen, Vl.opInt, opList, opListO, opTuple, opII, gMax, gMin, vM, vM0, isT, xPop, Vl.opAppend, opExtend, opJoin, vgName, vgTup, vgCons, vgNil, kOpt_some, kOpn_some, kOps_some, Vl.opSum, Vl.opInsert, Vl.opIndex, opDivmod, vSl, vPart, vNoPart, opSl, opSlO, opRev, opCallK, ownD, ownO, objs, renum, uniq, getS, putS, vCall0, vFor, vForW, En.wk, vSeqI, vTupI, vRng1, vRng2, vRngD, vFn, vCallL, vOdd, vWays, vEnum, vZip, chkOf, vLcK, vYes, finD, finO, En.wipe, wipeE, En.trim, trimS, dropNone, clr_n, clr_v, clr_k, clr_o, wth, Vl.ret, takeS, startV,  List.map_cons, List.map_nil, List.length_cons, List.length_nil, List.cons_append, List.nil_append, List.replicate, List.getElem?_cons_succ, List.getElem?_cons_zero, List.getElem?_nil, List.set_cons_succ, List.set_cons_zero, List.set_nil, List.all_nil, List.all_cons, Bool.true_and, Option.map_some, Option.map_none, if_true, if_false, decide_eq_true_eq, Bool.false_eq_true, List.take_succ_cons, List.take_zero, List.take_nil, List.drop_succ_cons, List.drop_zero, List.drop_nil, reduceIte, reduceCtorEq]
    have kn : ∀ k : Nat, kitB (tyD (.int (k : Int))) "int" = some true := fun k => kit_ii
    have kb : ∀ k : Nat, kitB (tyD (.int (k : Int))) "bool" = some false := fun k => kit_ib
    refine ⟨true, kn _, ?_⟩
    rw [if_pos rfl]
    refine ⟨false, kb _, trivial, ?_⟩
    rw [if_pos (by rfl)]
    have wl := wn_le 40 d
    refine ⟨d, 40, [], by decide, ht, by omega, rfl, rfl, fun ws hw => ?_⟩
    simp only [flatD, List.any_cons, List.any_nil, eqv_str, eqv_int, eqv_ti, eqv_it, eqv_st, eqv_ts, cut1, Bool.or_false, Bool.or_true, Bool.and_self, Bool.and_true, Bool.and_false, Bool.false_or, Bool.true_or, and_self, ofs_inj, ofs_app, ofs_len, String.reduceEq, String.reduceNe, String.reduceAppend, decide_true, decide_false, Bool.not_true, Bool.not_false, sz0, sz1, sz2, sz3, sz4, sz5, sz6, sz7, sz8, sz9, sz10, sz11, sz12, sz13, sz14, sz15, sz16, sz17, sz18, sz19, sz20, sz21, sz22, sz23, sz24, sz25, cpow1018, true_and, and_true, Nat.reduceAdd, Nat.reduceLT, Nat.reduceSub, Int.reduceNe, Int.reduceEq, Int.reduceLT, Int.reduceLE, Int.reduceToNat, ne_eq, not_false_eq_true, List.length_map, Nat.lt_irrefl, dV_nx, dV_rt, at0, at1, at2, at3, ix20, ix21, vSeq, vIfS, vTest, vTruth, truth, v2, v1, vN, vCons, vNil, vStar, vVar, vC, xIx, Vl.opI0, Vl.opI, pk, vSet, vAug, vAsg, xgSub, vRet, vRetN, vDrop, vBreak, vCont, asD, asDs, opMod, opDiv, opMul2, Vl.opAdd, Vl.opAddO, opSub, opPow, opLt, Vl.opLe, opGt, Vl.opGe, xEq, okEq_str, okEq_int, xIn, okIn, inD, xIsN, isNone_n, isNone_t, isNone_l, isNone_i, isNone_s, isMo, mob, pkm, gModI, gDivI, gSubI, gMulI, gPowI, gGt, gLt, gLe, gGe, vNotT, vAndT, vOrT, vAndV, vOrV, opNot, opNotG, vIfE, opTup, opLst, opLstO, Vl.opLen, Vl.opInt, opList, opListO, opTuple, opII, gMax, gMin, vM, vM0, isT, xPop, Vl.opAppend, opExtend, opJoin, vgName, vgTup, vgCons, vgNil, kOpt_some, kOpn_some, kOps_some, Vl.opSum, Vl.opInsert, Vl.opIndex, opDivmod, vSl, vPart, vNoPart, opSl, opSlO, opRev, opCallK, ownD, ownO, objs, renum, uniq, getS, putS, vCall0, vFor, vForW, En.wk, vSeqI, vTupI, vRng1, vRng2, vRngD, vFn, vCallL, vOdd, vWays, vEnum, vZip, chkOf, vLcK, vYes, finD, finO, En.wipe, wipeE, En.trim, trimS, dropNone, clr_n, clr_v, clr_k, clr_o, wth, Vl.ret, takeS, startV,  List.map_cons, List.map_nil, List.length_cons, List.length_nil, List.cons_append, List.nil_append, List.replicate, List.getElem?_cons_succ, List.getElem?_cons_zero, List.getElem?_nil, List.set_cons_succ, List.set_cons_zero, List.set_nil, List.all_nil, List.all_cons, Bool.true_and, Option.map_some, Option.map_none, if_true, if_false, decide_eq_true_eq, Bool.false_eq_true, List.take_succ_cons, List.take_zero, List.take_nil, List.drop_succ_cons, List.drop_zero, List.drop_nil, reduceIte, reduceCtorEq]
    rw [if_pos (by rw [hw])]
    obtain ⟨c1, c2⟩ := isTr_can ht ok
    have sh : Vl.shp d = true := by
      unfold Vl.shp
      rw [c1, decide_eq_true (by omega)]
      rfl
    refine ⟨okEq_of sh sh, ?_⟩
    rw [SeqAt.eqv_refl d c1]
    exact q
theorem isTr_up : ∀ {n : Nat} {b : List Str} {d : D}, isTr n b d = true → isTr (n + 1) b d = true
  | n, b, d, h => by
    obtain ⟨m, ms, ts, rfl, he, h3, h4⟩ := isTr_inv h
    show (match hfD d with
      | some (ms, ts) => b.all (fun x => decide (x ∈ ms)) && ts.all fun t => isTr (m + 1) ms t
      | none => false) = true
    rw [he]
    simp only
    rw [Bool.and_eq_true, List.all_eq_true, List.all_eq_true]
    exact ⟨fun x hx => decide_eq_true (h3 x hx), fun t ht => isTr_up (h4 t ht)⟩
theorem isTr_le {n m : Nat} {b : List Str} {d : D} (h : isTr n b d = true) (hm : n ≤ m) : isTr m b d = true := by
  induction m with
  | zero =>
    obtain rfl : n = 0 := by omega
    exact h
  | succ m ih =>
    rcases Nat.lt_or_ge m n with q | q
    · obtain rfl : n = m + 1 := by omega
      exact h
    · exact isTr_up (ih q)
theorem isTr_own {n : Nat} {b : List Str} {d : D} (h : isTr n b d = true) : isTr n (mksD d) d = true := by
  rw [isTr_L] at h ⊢
  rw [Bool.and_eq_true] at h
  rw [h.1, Bool.true_and, List.all_eq_true]
  exact fun z hz => decide_eq_true hz
/-- a chain of so many trees above one -/
def chn (zs : List Str) : Nat → D
  | 0 => .tuple [.list (zs.map .str), .list []]
  | k + 1 => .tuple [.list (zs.map .str), .list [chn zs k]]
theorem chn_no {zs : List Str} (h1 : zs.Pairwise ltS) (h2 : ∀ z ∈ zs, IsMk z) : ∀ (n : Nat) (b : List Str) (k : Nat), n ≤ k → isTr n b (chn zs k) = false
  | 0, _, _, _ => rfl
  | n + 1, b, 0, h => absurd h (by omega)
  | n + 1, b, k + 1, h => by
    show (match hfD (.tuple [.list (zs.map .str), .list [chn zs k]]) with
      | some (ms, ts) => b.all (fun x => decide (x ∈ ms)) && ts.all fun t => isTr n ms t
      | none => false) = false
    rw [hfD_mk h1 h2]
    simp only [List.all_cons]
    rw [chn_no h1 h2 n zs k (by omega), Bool.false_and, Bool.and_false]
theorem chn_any {zs : List Str} (h2 : ∀ z ∈ zs, IsMk z) (hl : zs.length ≤ 4) : ∀ k, Any3 (2 * k + 2) (12 * k + 20) (chn zs k)
  | 0 => (any_pair (mks_any h2 hl) nil_any).le (by omega) (by omega)
  | k + 1 => by
    have h := chn_any h2 hl k
    have h3 := any_list (one_any h) (by simp)
    refine (any_pair ((mks_any h2 hl).le (a' := 1 + (2 * k + 2)) (by omega) (Nat.le_refl _)) h3).le (by omega) ?_
    simp only [List.length_cons, List.length_nil]
    omega
theorem law34c {ns : List Int} {zs ms : List Str} {o T : D} {ts : List D} {c n : Int} {i : Nat} (zp : zs.Pairwise ltS) (zm : ∀ z ∈ zs, IsMk z) (zl : zs.length ≤ 4) {Nx B : En → Prop} {Kp : Sl → List Ob → Prop}
    (hk : ∀ (e' : En) (q : Nat) (fs : List Nat), 0 ≤ q → (e'.wk q fs = ⟨[some (.kn (ns.map .int)), none, none, none, none, none, none, none, none], []⟩) → Nx e') :
    t_lawk34_7 pPool pMarks (pTree34 4) pRight34 (pBent34 5) pIsTree pWorlds (pAllT 41) { nx := Nx, rt := (dV 0 Kp).rt, bk := B, ct := Nx, ex := (dV 0 Kp).ex } ⟨[some (.kn (ns.map .int)), some (.val (.int (0 + (i : Nat)))), some (.obj 0), some (.val (.list (ms.map .str))), some (.val (.tuple [.list (zs.map .str), .list ts])), some (.val o), some (.val T), none, none], [some (.l [.int c, .int n])]⟩ := by
  simp only [t_lawk34_7, flatD, List.any_cons, List.any_nil, eqv_str, eqv_int, eqv_ti, eqv_it, eqv_st, eqv_ts, cut1, Bool.or_false, Bool.or_true, Bool.and_self, Bool.and_true, Bool.and_false, Bool.false_or, Bool.true_or, and_self, ofs_inj, ofs_app, ofs_len, String.reduceEq, String.reduceNe, String.reduceAppend, decide_true, decide_false, Bool.not_true, Bool.not_false, sz0, sz1, sz2, sz3, sz4, sz5, sz6, sz7, sz8, sz9, sz10, sz11, sz12, sz13, sz14, sz15, sz16, sz17, sz18, sz19, sz20, sz21, sz22, sz23, sz24, sz25, cpow1018, true_and, and_true, Nat.reduceAdd, Nat.reduceLT, Nat.reduceSub, Int.reduceNe, Int.reduceEq, Int.reduceLT, Int.reduceLE, Int.reduceToNat, ne_eq, not_false_eq_true, List.length_map, Nat.lt_irrefl, dV_nx, dV_rt, at0, at1, at2, at3, ix20, ix21, vSeq, vIfS, vTest, vTruth, truth, v2, v1, vN, vCons, vNil, vStar, vVar, vC, xIx, Vl.opI0, Vl.opI, pk, vSet, vAug, vAsg, xgSub, vRet, vRetN, vDrop, vBreak, vCont, asD, asDs, opMod, opDiv, opMul2, Vl.opAdd, Vl.opAddO, opSub, opPow, opLt, Vl.opLe, opGt, Vl.opGe, xEq, okEq_str, okEq_int, xIn, okIn, inD, xIsN, isNone_n, isNone_t, isNone_l, isNone_i, isNone_s, isMo, mob, pkm, gModI, gDivI, gSubI, gMulI, gPowI, gGt, gLt, gLe, gGe, vNotT, vAndT, vOrT, vAndV, vOrV, opNot, opNotG, vIfE, opTup, opLst, opLstO, Vl.opLen, Vl.opInt, opList, opListO, opTuple, opII, gMax, gMin, vM, vM0, isT, xPop, Vl.opAppend, opExtend, opJoin, vgName, vgTup, vgCons, vgNil, kOpt_some, kOpn_some, kOps_some, Vl.opSum, Vl.opInsert, Vl.opIndex, opDivmod, vSl, vPart, vNoPart, opSl, opSlO, opRev, opCallK, ownD, ownO, objs, renum, uniq, getS, putS, vCall0, vFor, vForW, En.wk, vSeqI, vTupI, vRng1, vRng2, vRngD, vFn, vCallL, vOdd, vWays, vEnum, vZip, chkOf, vLcK, vYes, finD, finO, En.wipe, wipeE, En.trim, trimS, dropNone, clr_n, clr_v, clr_k, clr_o, wth, Vl.ret, takeS, startV,  List.map_cons, List.map_nil, List.length_cons, List.length_nil, List.cons_append, List.nil_append, List.replicate, List.getElem?_cons_succ, List.getElem?_cons_zero, List.getElem?_nil, List.set_cons_succ, List.set_cons_zero, List.set_nil, List.all_nil, List.all_cons, Bool.true_and, Option.map_some, Option.map_none, if_true, if_false, decide_eq_true_eq, Bool.false_eq_true, List.take_succ_cons, List.take_zero, List.take_nil, List.drop_succ_cons, List.drop_zero, List.drop_nil, reduceIte, reduceCtorEq]
  simp only [t_lawk34_6, flatD, List.any_cons, List.any_nil, eqv_str, eqv_int, eqv_ti, eqv_it, eqv_st, eqv_ts, cut1, Bool.or_false, Bool.or_true, Bool.and_self, Bool.and_true, Bool.and_false, Bool.false_or, Bool.true_or, and_self, ofs_inj, ofs_app, ofs_len, String.reduceEq, String.reduceNe, String.reduceAppend, decide_true, decide_false, Bool.not_true, Bool.not_false, sz0, sz1, sz2, sz3, sz4, sz5, sz6, sz7, sz8, sz9, sz10, sz11, sz12, sz13, sz14, sz15, sz16, sz17, sz18, sz19, sz20, sz21, sz22, sz23, sz24, sz25, cpow1018, true_and, and_true, Nat.reduceAdd, Nat.reduceLT, Nat.reduceSub, Int.reduceNe, Int.reduceEq, Int.reduceLT, Int.reduceLE, Int.reduceToNat, ne_eq, not_false_eq_true, List.length_map, Nat.lt_irrefl, dV_nx, dV_rt, at0, at1, at2, at3, ix20, ix21, vSeq, vIfS, vTest, vTruth, truth, v2, v1, vN, vCons, vNil, vStar, vVar, vC, xIx, Vl.opI0, Vl.opI, pk, vSet, vAug, vAsg, xgSub, vRet, vRetN, vDrop, vBreak, vCont, asD, asDs, opMod, opDiv, opMul2, Vl.opAdd, Vl.opAddO, opSub, opPow, opLt, Vl.opLe, opGt, Vl.opGe, xEq, okEq_str, okEq_int, xIn, okIn, inD, xIsN, isNone_n, isNone_t, isNone_l, isNone_i, isNone_s, isMo, mob, pkm, gModI, gDivI, gSubI, gMulI, gPowI, gGt, gLt, gLe, gGe, vNotT, vAndT, vOrT, vAndV, vOrV, opNot, opNotG, vIfE, opTup, opLst, opLstO, Vl.opLen, Vl.opInt, opList, opListO, opTuple, opII, gMax, gMin, vM, vM0, isT, xPop, Vl.opAppend, opExtend, opJoin, vgName, vgTup, vgCons, vgNil, kOpt_some, kOpn_some, kOps_some, Vl.opSum, Vl.opInsert, Vl.opIndex, opDivmod, vSl, vPart, vNoPart, opSl, opSlO, opRev, opCallK, ownD, ownO, objs, renum, uniq, getS, putS, vCall0, vFor, vForW, En.wk, vSeqI, vTupI, vRng1, vRng2, vRngD, vFn, vCallL, vOdd, vWays, vEnum, vZip, chkOf, vLcK, vYes, finD, finO, En.wipe, wipeE, En.trim, trimS, dropNone, clr_n, clr_v, clr_k, clr_o, wth, Vl.ret, takeS, startV,  List.map_cons, List.map_nil, List.length_cons, List.length_nil, List.cons_append, List.nil_append, List.replicate, List.getElem?_cons_succ, List.getElem?_cons_zero, List.getElem?_nil, List.set_cons_succ, List.set_cons_zero, List.set_nil, List.all_nil, List.all_cons, Bool.true_and, Option.map_some, Option.map_none, if_true, if_false, decide_eq_true_eq, Bool.false_eq_true, List.take_succ_cons, List.take_zero, List.take_nil, List.drop_succ_cons, List.drop_zero, List.drop_nil, reduceIte, reduceCtorEq]
  refine ⟨by decide, by decide, ?_⟩
  rw [rng_eq]
  refine fl_invW (chk := none) (fun (i : Nat) => PyData.int (0 + (i : Nat))) _ (fun ys e => ∃ x, e = ⟨[some (.kn (ns.map .int)), some (.val (.int (0 + (i : Nat)))), some (.obj 0), some (.val (.list (ms.map .str))), some (.val (.tuple [.list (zs.map .str), .list ts])), some (.val o), some (.val T), some (.val (chn zs ys.length)), x], [some (.l [.int c, .int n])]⟩) (fun _ _ _ => trivial) ?_ ?_ ⟨none, rfl⟩
  · rintro ys i zs' e Nx2 hys ⟨x, rfl⟩ hk2
    simp only [t_lawk34_3, flatD, List.any_cons, List.any_nil, eqv_str, eqv_int, eqv_ti, eqv_it, eqv_st, eqv_ts, cut1, Bool.or_false, Bool.or_true, Bool.and_self, Bool.and_true, Bool.and_false, Bool.false_or, Bool.true_or, and_self, ofs_inj, ofs_app, ofs_len, String.reduceEq, String.reduceNe, String.reduceAppend, decide_true, decide_false, Bool.not_true, Bool.not_false, sz0, sz1, sz2, sz3, sz4, sz5, sz6, sz7, sz8, sz9, sz10, sz11, sz12, sz13, sz14, sz15, sz16, sz17, sz18, sz19, sz20, sz21, sz22, sz23, sz24, sz25, cpow1018, true_and, and_true, Nat.reduceAdd, Nat.reduceLT, Nat.reduceSub, Int.reduceNe, Int.reduceEq, Int.reduceLT, Int.reduceLE, Int.reduceToNat, ne_eq, not_false_eq_true, List.length_map, Nat.lt_irrefl, dV_nx, dV_rt, at0, at1, at2, at3, ix20, ix21, vSeq, vIfS, vTest, vTruth, truth, v2, v1, vN, vCons, vNil, vStar, vVar, vC, xIx, Vl.opI0, Vl.opI, pk, vSet, vAug, vAsg, xgSub, vRet, vRetN, vDrop, vBreak, vCont, asD, asDs, opMod, opDiv, opMul2, Vl.opAdd, Vl.opAddO, opSub, opPow, opLt, Vl.opLe, opGt, Vl.opGe, xEq, okEq_str, okEq_int, xIn, okIn, inD, xIsN, isNone_n, isNone_t, isNone_l, isNone_i, isNone_s, isMo, mob, pkm, gModI, gDivI, gSubI, gMulI, gPowI, gGt, gLt, gLe, gGe, vNotT, vAndT, vOrT, vAndV, vOrV, opNot, opNotG, vIfE, opTup, opLst, opLstO, Vl.opLen, Vl.opInt, opList, opListO, opTuple, opII, gMax, gMin, vM, vM0, isT, xPop, Vl.opAppend, opExtend, opJoin, vgName, vgTup, vgCons, vgNil, kOpt_some, kOpn_some, kOps_some, Vl.opSum, Vl.opInsert, Vl.opIndex, opDivmod, vSl, vPart, vNoPart, opSl, opSlO, opRev, opCallK, ownD, ownO, objs, renum, uniq, getS, putS, vCall0, vFor, vForW, En.wk, vSeqI, vTupI, vRng1, vRng2, vRngD, vFn, vCallL, vOdd, vWays, vEnum, vZip, chkOf, vLcK, vYes, finD, finO, En.wipe, wipeE, En.trim, trimS, dropNone, clr_n, clr_v, clr_k, clr_o, wth, Vl.ret, takeS, startV,  List.map_cons, List.map_nil, List.length_cons, List.length_nil, List.cons_append, List.nil_append, List.replicate, List.getElem?_cons_succ, List.getElem?_cons_zero, List.getElem?_nil, List.set_cons_succ, List.set_cons_zero, List.set_nil, List.all_nil, List.all_cons, Bool.true_and, Option.map_some, Option.map_none, if_true, if_false, decide_eq_true_eq, Bool.false_eq_true, List.take_succ_cons, List.take_zero, List.take_nil, List.drop_succ_cons, List.drop_zero, List.drop_nil, reduceIte, reduceCtorEq]
    refine hk2 _ 1 [] (Nat.le_refl _) ⟨some (.val (.int (0 + (i : Nat)))), ?_⟩
    rw [List.length_append, List.length_singleton]
    rfl
  · rintro e ⟨x, rfl⟩
    rw [List.length_range]
    have a1 := chn_any zm zl 39
    have a2 := chn_any zm zl 40
    simp only [t_lawk34_5, flatD, List.any_cons, List.any_nil, eqv_str, eqv_int, eqv_ti, eqv_it, eqv_st, eqv_ts, cut1, Bool.or_false, Bool.or_true, Bool.and_self, Bool.and_true, Bool.and_false, Bool.false_or, Bool.true_or, and_self, ofs_inj, ofs_app, ofs_len, String.reduceEq, String.reduceNe, String.reduceAppend, decide_true, decide_false, Bool.not_true, Bool.not_false, sz0, sz1, sz2, sz3, sz4, sz5, sz6, sz7, sz8, sz9, sz10, sz11, sz12, sz13, sz14, sz15, sz16, sz17, sz18, sz19, sz20, sz21, sz22, sz23, sz24, sz25, cpow1018, true_and, and_true, Nat.reduceAdd, Nat.reduceLT, Nat.reduceSub, Int.reduceNe, Int.reduceEq, Int.reduceLT, Int.reduceLE, Int.reduceToNat, ne_eq, not_false_eq_true, List.length_map, Nat.lt_irrefl, dV_nx, dV_rt, at0, at1, at2, at3, ix20, ix21, vSeq, vIfS, vTest, vTruth, truth, v2, v1, vN, vCons, vNil, vStar, vVar, vC, xIx, Vl.opI0, Vl.opI, pk, vSet, vAug, vAsg, xgSub, vRet, vRetN, vDrop, vBreak, vCont, asD, asDs, opMod, opDiv, opMul2, Vl.opAdd, Vl.opAddO, opSub, opPow, opLt, Vl.opLe, opGt, Vl.opGe, xEq, okEq_str, okEq_int, xIn, okIn, inD, xIsN, isNone_n, isNone_t, isNone_l, isNone_i, isNone_s, isMo, mob, pkm, gModI, gDivI, gSubI, gMulI, gPowI, gGt, gLt, gLe, gGe, vNotT, vAndT, vOrT, vAndV, vOrV, opNot, opNotG, vIfE, opTup, opLst, opLstO, Vl.opLen, Vl.opInt, opList, opListO, opTuple, opII, gMax, gMin, vM, vM0, isT, xPop, Vl.opAppend, opExtend, opJoin, vgName, vgTup, vgCons, vgNil, kOpt_some, kOpn_some, kOps_some, Vl.opSum, Vl.opInsert, Vl.opIndex, opDivmod, vSl, vPart, vNoPart, opSl, opSlO, opRev, opCallK, ownD, ownO, objs, renum, uniq, getS, putS, vCall0, vFor, vForW, En.wk, vSeqI, vTupI, vRng1, vRng2, vRngD, vFn, vCallL, vOdd, vWays, vEnum, vZip, chkOf, vLcK, vYes, finD, finO, En.wipe, wipeE, En.trim, trimS, dropNone, clr_n, clr_v, clr_k, clr_o, wth, Vl.ret, takeS, startV,  List.map_cons, List.map_nil, List.length_cons, List.length_nil, List.cons_append, List.nil_append, List.replicate, List.getElem?_cons_succ, List.getElem?_cons_zero, List.getElem?_nil, List.set_cons_succ, List.set_cons_zero, List.set_nil, List.all_nil, List.all_cons, Bool.true_and, Option.map_some, Option.map_none, if_true, if_false, decide_eq_true_eq, Bool.false_eq_true, List.take_succ_cons, List.take_zero, List.take_nil, List.drop_succ_cons, List.drop_zero, List.drop_nil, reduceIte, reduceCtorEq]
    refine ⟨chn zs 39, a1.ok, Nat.le_trans a1.nd (by decide), Nat.le_trans a1.dp (by decide), rfl, rfl, ?_⟩
    simp only [truth, flatD, List.any_cons, List.any_nil, eqv_str, eqv_int, eqv_ti, eqv_it, eqv_st, eqv_ts, cut1, Bool.or_false, Bool.or_true, Bool.and_self, Bool.and_true, Bool.and_false, Bool.false_or, Bool.true_or, and_self, ofs_inj, ofs_app, ofs_len, String.reduceEq, String.reduceNe, String.reduceAppend, decide_true, decide_false, Bool.not_true, Bool.not_false, sz0, sz1, sz2, sz3, sz4, sz5, sz6, sz7, sz8, sz9, sz10, sz11, sz12, sz13, sz14, sz15, sz16, sz17, sz18, sz19, sz20, sz21, sz22, sz23, sz24, sz25, cpow1018, true_and, and_true, Nat.reduceAdd, Nat.reduceLT, Nat.reduceSub, Int.reduceNe, Int.reduceEq, Int.reduceLT, Int.reduceLE, Int.reduceToNat, ne_eq, not_false_eq_true, List.length_map, Nat.lt_irrefl, dV_nx, dV_rt, at0, at1, at2, at3, ix20, ix21, vSeq, vIfS, vTest, vTruth, truth, v2, v1, vN, vCons, vNil, vStar, vVar, vC, xIx, Vl.opI0, Vl.opI, pk, vSet, vAug, vAsg, xgSub, vRet, vRetN, vDrop, vBreak, vCont, asD, asDs, opMod, opDiv, opMul2, Vl.opAdd, Vl.opAddO, opSub, opPow, opLt, Vl.opLe, opGt, Vl.opGe, xEq, okEq_str, okEq_int, xIn, okIn, inD, xIsN, isNone_n, isNone_t, isNone_l, isNone_i, isNone_s, isMo, mob, pkm, gModI, gDivI, gSubI, gMulI, gPowI, gGt, gLt, gLe, gGe, vNotT, vAndT, vOrT, vAndV, vOrV, opNot, opNotG, vIfE, opTup, opLst, opLstO, Vl.opLen, Vl.opInt, opList, opListO, opTuple, opII, gMax, gMin, vM, vM0, isT, xPop, Vl.opAppend, opExtend, opJoin, vgName, vgTup, vgCons, vgNil, kOpt_some, kOpn_some, kOps_some, Vl.opSum, Vl.opInsert, Vl.opIndex, opDivmod, vSl, vPart, vNoPart, opSl, opSlO, opRev, opCallK, ownD, ownO, objs, renum, uniq, getS, putS, vCall0, vFor, vForW, En.wk, vSeqI, vTupI, vRng1, vRng2, vRngD, vFn, vCallL, vOdd, vWays, vEnum, vZip, chkOf, vLcK, vYes, finD, finO, En.wipe, wipeE, En.trim, trimS, dropNone, clr_n, clr_v, clr_k, clr_o, wth, Vl.ret, takeS, startV,  List.map_cons, List.map_nil, List.length_cons, List.length_nil, List.cons_append, List.nil_append, List.replicate, List.getElem?_cons_succ, List.getElem?_cons_zero, List.getElem?_nil, List.set_cons_succ, List.set_cons_zero, List.set_nil, List.all_nil, List.all_cons, Bool.true_and, Option.map_some, Option.map_none, if_true, if_false, decide_eq_true_eq, Bool.false_eq_true, List.take_succ_cons, List.take_zero, List.take_nil, List.drop_succ_cons, List.drop_zero, List.drop_nil, reduceIte, reduceCtorEq]
    refine ⟨chn zs 40, a2.ok, Nat.le_trans a2.nd (by decide), rfl, rfl, ?_⟩
    simp only [xIsB, chn_no zp zm 40 [] 40 (Nat.le_refl _), flatD, List.any_cons, List.any_nil, eqv_str, eqv_int, eqv_ti, eqv_it, eqv_st, eqv_ts, cut1, Bool.or_false, Bool.or_true, Bool.and_self, Bool.and_true, Bool.and_false, Bool.false_or, Bool.true_or, and_self, ofs_inj, ofs_app, ofs_len, String.reduceEq, String.reduceNe, String.reduceAppend, decide_true, decide_false, Bool.not_true, Bool.not_false, sz0, sz1, sz2, sz3, sz4, sz5, sz6, sz7, sz8, sz9, sz10, sz11, sz12, sz13, sz14, sz15, sz16, sz17, sz18, sz19, sz20, sz21, sz22, sz23, sz24, sz25, cpow1018, true_and, and_true, Nat.reduceAdd, Nat.reduceLT, Nat.reduceSub, Int.reduceNe, Int.reduceEq, Int.reduceLT, Int.reduceLE, Int.reduceToNat, ne_eq, not_false_eq_true, List.length_map, Nat.lt_irrefl, dV_nx, dV_rt, at0, at1, at2, at3, ix20, ix21, vSeq, vIfS, vTest, vTruth, truth, v2, v1, vN, vCons, vNil, vStar, vVar, vC, xIx, Vl.opI0, Vl.opI, pk, vSet, vAug, vAsg, xgSub, vRet, vRetN, vDrop, vBreak, vCont, asD, asDs, opMod, opDiv, opMul2, Vl.opAdd, Vl.opAddO, opSub, opPow, opLt, Vl.opLe, opGt, Vl.opGe, xEq, okEq_str, okEq_int, xIn, okIn, inD, xIsN, isNone_n, isNone_t, isNone_l, isNone_i, isNone_s, isMo, mob, pkm, gModI, gDivI, gSubI, gMulI, gPowI, gGt, gLt, gLe, gGe, vNotT, vAndT, vOrT, vAndV, vOrV, opNot, opNotG, vIfE, opTup, opLst, opLstO, Vl.opLen, Vl.opInt, opList, opListO, opTuple, opII, gMax, gMin, vM, vM0, isT, xPop, Vl.opAppend, opExtend, opJoin, vgName, vgTup, vgCons, vgNil, kOpt_some, kOpn_some, kOps_some, Vl.opSum, Vl.opInsert, Vl.opIndex, opDivmod, vSl, vPart, vNoPart, opSl, opSlO, opRev, opCallK, ownD, ownO, objs, renum, uniq, getS, putS, vCall0, vFor, vForW, En.wk, vSeqI, vTupI, vRng1, vRng2, vRngD, vFn, vCallL, vOdd, vWays, vEnum, vZip, chkOf, vLcK, vYes, finD, finO, En.wipe, wipeE, En.trim, trimS, dropNone, clr_n, clr_v, clr_k, clr_o, wth, Vl.ret, takeS, startV,  List.map_cons, List.map_nil, List.length_cons, List.length_nil, List.cons_append, List.nil_append, List.replicate, List.getElem?_cons_succ, List.getElem?_cons_zero, List.getElem?_nil, List.set_cons_succ, List.set_cons_zero, List.set_nil, List.all_nil, List.all_cons, Bool.true_and, Option.map_some, Option.map_none, if_true, if_false, decide_eq_true_eq, Bool.false_eq_true, List.take_succ_cons, List.take_zero, List.take_nil, List.drop_succ_cons, List.drop_zero, List.drop_nil, reduceIte, reduceCtorEq]
    rw [vNext_mk]
    exact hk _ 0 [1, 2, 3, 4, 5, 6, 7, 8] (Nat.le_refl _) rfl
theorem law34b {ns : List Int} {N : Int} (hN1 : 0 ≤ N ∧ N ≤ 20) (hl : ns.length ≤ 63) {d : D} {ms : List Str} {c n : Int} {i : Nat} (h1 : isTr (3 + 1) [] d = true) (h2 : okT d) (h3 : ndT d ≤ ndB 3) (h4 : dpT d ≤ 2 * (3 + 1)) (h5 : ∀ z ∈ mksD d, z ∈ ms) (h6 : DnT (3 + 1) d) (hm : MarksOk ms) (pn : PoolK n) {Nx B : En → Prop} {Kp : Sl → List Ob → Prop}
    (hk : ∀ (e' : En) (q : Nat) (fs : List Nat), 0 ≤ q → (e'.wk q fs = ⟨[some (.kn (ns.map .int)), none, none, none, none, none, none, none, none], []⟩) → Nx e') :
    t_lawk34_10 pPool pMarks (pTree34 4) pRight34 (pBent34 5) pIsTree pWorlds (pAllT 41) { nx := Nx, rt := (dV 0 Kp).rt, bk := B, ct := Nx, ex := (dV 0 Kp).ex } ⟨[some (.kn (ns.map .int)), some (.val (.int (0 + (i : Nat)))), some (.obj 0), some (.val (.list (ms.map .str))), some (.val d), none, none, none, none], [some (.l [.int c, .int n])]⟩ := by
  obtain ⟨zs, ts, rfl, zp, zm, zl, tl, td⟩ := h6
  have em : mksD (.tuple [.list (zs.map .str), .list ts]) = zs := mksD_mk zp zm
  rw [em] at h5
  simp only [t_lawk34_10, flatD, List.any_cons, List.any_nil, eqv_str, eqv_int, eqv_ti, eqv_it, eqv_st, eqv_ts, cut1, Bool.or_false, Bool.or_true, Bool.and_self, Bool.and_true, Bool.and_false, Bool.false_or, Bool.true_or, and_self, ofs_inj, ofs_app, ofs_len, String.reduceEq, String.reduceNe, String.reduceAppend, decide_true, decide_false, Bool.not_true, Bool.not_false, sz0, sz1, sz2, sz3, sz4, sz5, sz6, sz7, sz8, sz9, sz10, sz11, sz12, sz13, sz14, sz15, sz16, sz17, sz18, sz19, sz20, sz21, sz22, sz23, sz24, sz25, cpow1018, true_and, and_true, Nat.reduceAdd, Nat.reduceLT, Nat.reduceSub, Int.reduceNe, Int.reduceEq, Int.reduceLT, Int.reduceLE, Int.reduceToNat, ne_eq, not_false_eq_true, List.length_map, Nat.lt_irrefl, dV_nx, dV_rt, at0, at1, at2, at3, ix20, ix21, vSeq, vIfS, vTest, vTruth, truth, v2, v1, vN, vCons, vNil, vStar, vVar, vC, xIx, Vl.opI0, Vl.opI, pk, vSet, vAug, vAsg, xgSub, vRet, vRetN, vDrop, vBreak, vCont, asD, asDs, opMod, opDiv, opMul2, Vl.opAdd, Vl.opAddO, opSub, opPow, opLt, Vl.opLe, opGt, Vl.opGe, xEq, okEq_str, okEq_int, xIn, okIn, inD, xIsN, isNone_n, isNone_t, isNone_l, isNone_i, isNone_s, isMo, mob, pkm, gModI, gDivI, gSubI, gMulI, gPowI, gGt, gLt, gLe, gGe, vNotT, vAndT, vOrT, vAndV, vOrV, opNot, opNotG, vIfE, opTup, opLst, opLstO, Vl.opLen, Vl.opInt, opList, opListO, opTuple, opII, gMax, gMin, vM, vM0, isT, xPop, Vl.opAppend, opExtend, opJoin, vgName, vgTup, vgCons, vgNil, kOpt_some, kOpn_some, kOps_some, Vl.opSum, Vl.opInsert, Vl.opIndex, opDivmod, vSl, vPart, vNoPart, opSl, opSlO, opRev, opCallK, ownD, ownO, objs, renum, uniq, getS, putS, vCall0, vFor, vForW, En.wk, vSeqI, vTupI, vRng1, vRng2, vRngD, vFn, vCallL, vOdd, vWays, vEnum, vZip, chkOf, vLcK, vYes, finD, finO, En.wipe, wipeE, En.trim, trimS, dropNone, clr_n, clr_v, clr_k, clr_o, wth, Vl.ret, takeS, startV,  List.map_cons, List.map_nil, List.length_cons, List.length_nil, List.cons_append, List.nil_append, List.replicate, List.getElem?_cons_succ, List.getElem?_cons_zero, List.getElem?_nil, List.set_cons_succ, List.set_cons_zero, List.set_nil, List.all_nil, List.all_cons, Bool.true_and, Option.map_some, Option.map_none, if_true, if_false, decide_eq_true_eq, Bool.false_eq_true, List.take_succ_cons, List.take_zero, List.take_nil, List.drop_succ_cons, List.drop_zero, List.drop_nil, reduceIte, reduceCtorEq]
  refine ⟨c, n, ms, zs, 2, by decide, by decide, rfl, rfl, pn, hm, h5, fun o c2 n2 g1 g2 g3 g4 g5 g6 pn2 => ?_⟩
  simp only [t_lawk34_9, flatD, List.any_cons, List.any_nil, eqv_str, eqv_int, eqv_ti, eqv_it, eqv_st, eqv_ts, cut1, Bool.or_false, Bool.or_true, Bool.and_self, Bool.and_true, Bool.and_false, Bool.false_or, Bool.true_or, and_self, ofs_inj, ofs_app, ofs_len, String.reduceEq, String.reduceNe, String.reduceAppend, decide_true, decide_false, Bool.not_true, Bool.not_false, sz0, sz1, sz2, sz3, sz4, sz5, sz6, sz7, sz8, sz9, sz10, sz11, sz12, sz13, sz14, sz15, sz16, sz17, sz18, sz19, sz20, sz21, sz22, sz23, sz24, sz25, cpow1018, true_and, and_true, Nat.reduceAdd, Nat.reduceLT, Nat.reduceSub, Int.reduceNe, Int.reduceEq, Int.reduceLT, Int.reduceLE, Int.reduceToNat, ne_eq, not_false_eq_true, List.length_map, Nat.lt_irrefl, dV_nx, dV_rt, at0, at1, at2, at3, ix20, ix21, vSeq, vIfS, vTest, vTruth, truth, v2, v1, vN, vCons, vNil, vStar, vVar, vC, xIx, Vl.opI0, Vl.opI, pk, vSet, vAug, vAsg, xgSub, vRet, vRetN, vDrop, vBreak, vCont, asD, asDs, opMod, opDiv, opMul2, Vl.opAdd, Vl.opAddO, opSub, opPow, opLt, Vl.opLe, opGt, Vl.opGe, xEq, okEq_str, okEq_int, xIn, okIn, inD, xIsN, isNone_n, isNone_t, isNone_l, isNone_i, isNone_s, isMo, mob, pkm, gModI, gDivI, gSubI, gMulI, gPowI, gGt, gLt, gLe, gGe, vNotT, vAndT, vOrT, vAndV, vOrV, opNot, opNotG, vIfE, opTup, opLst, opLstO, Vl.opLen, Vl.opInt, opList, opListO, opTuple, opII, gMax, gMin, vM, vM0, isT, xPop, Vl.opAppend, opExtend, opJoin, vgName, vgTup, vgCons, vgNil, kOpt_some, kOpn_some, kOps_some, Vl.opSum, Vl.opInsert, Vl.opIndex, opDivmod, vSl, vPart, vNoPart, opSl, opSlO, opRev, opCallK, ownD, ownO, objs, renum, uniq, getS, putS, vCall0, vFor, vForW, En.wk, vSeqI, vTupI, vRng1, vRng2, vRngD, vFn, vCallL, vOdd, vWays, vEnum, vZip, chkOf, vLcK, vYes, finD, finO, En.wipe, wipeE, En.trim, trimS, dropNone, clr_n, clr_v, clr_k, clr_o, wth, Vl.ret, takeS, startV,  List.map_cons, List.map_nil, List.length_cons, List.length_nil, List.cons_append, List.nil_append, List.replicate, List.getElem?_cons_succ, List.getElem?_cons_zero, List.getElem?_nil, List.set_cons_succ, List.set_cons_zero, List.set_nil, List.all_nil, List.all_cons, Bool.true_and, Option.map_some, Option.map_none, if_true, if_false, decide_eq_true_eq, Bool.false_eq_true, List.take_succ_cons, List.take_zero, List.take_nil, List.drop_succ_cons, List.drop_zero, List.drop_nil, reduceIte, reduceCtorEq]
  generalize hT : (PyData.tuple [PyData.list (zs.map .str), .list [o, .tuple [.list (zs.map .str), .list ts], o]] : D) = T
  have i1 : isTr 4 zs (.tuple [.list (zs.map .str), .list ts]) = true := by
    have := isTr_own h1
    rw [em] at this
    exact this
  have i2 : isTr 5 [] T = true := by
    rw [← hT]
    exact isTr_mk zp zm (fun z hz => by cases hz) fun t ht => by
      simp only [List.mem_cons, List.not_mem_nil, or_false] at ht
      rcases ht with rfl | rfl | rfl
      · exact isTr_up g1
      · exact i1
      · exact isTr_up g1
  have aT : okT T ∧ ndT T ≤ 1000000 := by
    rw [← hT]
    constructor
    · refine okT_mk zm (by omega) (fun t ht => ?_) (by simp)
      simp only [List.mem_cons, List.not_mem_nil, or_false] at ht
      rcases ht with rfl | rfl | rfl
      · exact g2
      · exact h2
      · exact g2
    · rw [ndT_mk]
      simp only [ndTs]
      have : ndB 3 = 105 := rfl
      have : ndB 2 = 49 := rfl
      omega
  have i40 : isTr 40 [] T = true := isTr_le i2 (by decide)
  have wl := wn_le 5 T
  simp only [t_lawk34_8, flatD, List.any_cons, List.any_nil, eqv_str, eqv_int, eqv_ti, eqv_it, eqv_st, eqv_ts, cut1, Bool.or_false, Bool.or_true, Bool.and_self, Bool.and_true, Bool.and_false, Bool.false_or, Bool.true_or, and_self, ofs_inj, ofs_app, ofs_len, String.reduceEq, String.reduceNe, String.reduceAppend, decide_true, decide_false, Bool.not_true, Bool.not_false, sz0, sz1, sz2, sz3, sz4, sz5, sz6, sz7, sz8, sz9, sz10, sz11, sz12, sz13, sz14, sz15, sz16, sz17, sz18, sz19, sz20, sz21, sz22, sz23, sz24, sz25, cpow1018, true_and, and_true, Nat.reduceAdd, Nat.reduceLT, Nat.reduceSub, Int.reduceNe, Int.reduceEq, Int.reduceLT, Int.reduceLE, Int.reduceToNat, ne_eq, not_false_eq_true, List.length_map, Nat.lt_irrefl, dV_nx, dV_rt, at0, at1, at2, at3, ix20, ix21, vSeq, vIfS, vTest, vTruth, truth, v2, v1, vN, vCons, vNil, vStar, vVar, vC, xIx, Vl.opI0, Vl.opI, pk, vSet, vAug, vAsg, xgSub, vRet, vRetN, vDrop, vBreak, vCont, asD, asDs, opMod, opDiv, opMul2, Vl.opAdd, Vl.opAddO, opSub, opPow, opLt, Vl.opLe, opGt, Vl.opGe, xEq, okEq_str, okEq_int, xIn, okIn, inD, xIsN, isNone_n, isNone_t, isNone_l, isNone_i, isNone_s, isMo, mob, pkm, gModI, gDivI, gSubI, gMulI, gPowI, gGt, gLt, gLe, gGe, vNotT, vAndT, vOrT, vAndV, vOrV, opNot, opNotG, vIfE, opTup, opLst, opLstO, Vl.opLen, Vl.opInt, opList, opListO, opTuple, opII, gMax, gMin, vM, vM0, isT, xPop, Vl.opAppend, opExtend, opJoin, vgName, vgTup, vgCons, vgNil, kOpt_some, kOpn_some, kOps_some, Vl.opSum, Vl.opInsert, Vl.opIndex, opDivmod, vSl, vPart, vNoPart, opSl, opSlO, opRev, opCallK, ownD, ownO, objs, renum, uniq, getS, putS, vCall0, vFor, vForW, En.wk, vSeqI, vTupI, vRng1, vRng2, vRngD, vFn, vCallL, vOdd, vWays, vEnum, vZip, chkOf, vLcK, vYes, finD, finO, En.wipe, wipeE, En.trim, trimS, dropNone, clr_n, clr_v, clr_k, clr_o, wth, Vl.ret, takeS, startV,  List.map_cons, List.map_nil, List.length_cons, List.length_nil, List.cons_append, List.nil_append, List.replicate, List.getElem?_cons_succ, List.getElem?_cons_zero, List.getElem?_nil, List.set_cons_succ, List.set_cons_zero, List.set_nil, List.all_nil, List.all_cons, Bool.true_and, Option.map_some, Option.map_none, if_true, if_false, decide_eq_true_eq, Bool.false_eq_true, List.take_succ_cons, List.take_zero, List.take_nil, List.drop_succ_cons, List.drop_zero, List.drop_nil, reduceIte, reduceCtorEq]
  refine ⟨T, aT.1, aT.2, rfl, rfl, ?_⟩
  simp only [xIsB, i40, flatD, List.any_cons, List.any_nil, eqv_str, eqv_int, eqv_ti, eqv_it, eqv_st, eqv_ts, cut1, Bool.or_false, Bool.or_true, Bool.and_self, Bool.and_true, Bool.and_false, Bool.false_or, Bool.true_or, and_self, ofs_inj, ofs_app, ofs_len, String.reduceEq, String.reduceNe, String.reduceAppend, decide_true, decide_false, Bool.not_true, Bool.not_false, sz0, sz1, sz2, sz3, sz4, sz5, sz6, sz7, sz8, sz9, sz10, sz11, sz12, sz13, sz14, sz15, sz16, sz17, sz18, sz19, sz20, sz21, sz22, sz23, sz24, sz25, cpow1018, true_and, and_true, Nat.reduceAdd, Nat.reduceLT, Nat.reduceSub, Int.reduceNe, Int.reduceEq, Int.reduceLT, Int.reduceLE, Int.reduceToNat, ne_eq, not_false_eq_true, List.length_map, Nat.lt_irrefl, dV_nx, dV_rt, at0, at1, at2, at3, ix20, ix21, vSeq, vIfS, vTest, vTruth, truth, v2, v1, vN, vCons, vNil, vStar, vVar, vC, xIx, Vl.opI0, Vl.opI, pk, vSet, vAug, vAsg, xgSub, vRet, vRetN, vDrop, vBreak, vCont, asD, asDs, opMod, opDiv, opMul2, Vl.opAdd, Vl.opAddO, opSub, opPow, opLt, Vl.opLe, opGt, Vl.opGe, xEq, okEq_str, okEq_int, xIn, okIn, inD, xIsN, isNone_n, isNone_t, isNone_l, isNone_i, isNone_s, isMo, mob, pkm, gModI, gDivI, gSubI, gMulI, gPowI, gGt, gLt, gLe, gGe, vNotT, vAndT, vOrT, vAndV, vOrV, opNot, opNotG, vIfE, opTup, opLst, opLstO, Vl.opLen, Vl.opInt, opList, opListO, opTuple, opII, gMax, gMin, vM, vM0, isT, xPop, Vl.opAppend, opExtend, opJoin, vgName, vgTup, vgCons, vgNil, kOpt_some, kOpn_some, kOps_some, Vl.opSum, Vl.opInsert, Vl.opIndex, opDivmod, vSl, vPart, vNoPart, opSl, opSlO, opRev, opCallK, ownD, ownO, objs, renum, uniq, getS, putS, vCall0, vFor, vForW, En.wk, vSeqI, vTupI, vRng1, vRng2, vRngD, vFn, vCallL, vOdd, vWays, vEnum, vZip, chkOf, vLcK, vYes, finD, finO, En.wipe, wipeE, En.trim, trimS, dropNone, clr_n, clr_v, clr_k, clr_o, wth, Vl.ret, takeS, startV,  List.map_cons, List.map_nil, List.length_cons, List.length_nil, List.cons_append, List.nil_append, List.replicate, List.getElem?_cons_succ, List.getElem?_cons_zero, List.getElem?_nil, List.set_cons_succ, List.set_cons_zero, List.set_nil, List.all_nil, List.all_cons, Bool.true_and, Option.map_some, Option.map_none, if_true, if_false, decide_eq_true_eq, Bool.false_eq_true, List.take_succ_cons, List.take_zero, List.take_nil, List.drop_succ_cons, List.drop_zero, List.drop_nil, reduceIte, reduceCtorEq]
  refine ⟨T, 5, [], i2, aT.2, rfl, rfl, ?_⟩
  simp only [flatD, List.any_cons, List.any_nil, eqv_str, eqv_int, eqv_ti, eqv_it, eqv_st, eqv_ts, cut1, Bool.or_false, Bool.or_true, Bool.and_self, Bool.and_true, Bool.and_false, Bool.false_or, Bool.true_or, and_self, ofs_inj, ofs_app, ofs_len, String.reduceEq, String.reduceNe, String.reduceAppend, decide_true, decide_false, Bool.not_true, Bool.not_false, sz0, sz1, sz2, sz3, sz4, sz5, sz6, sz7, sz8, sz9, sz10, sz11, sz12, sz13, sz14, sz15, sz16, sz17, sz18, sz19, sz20, sz21, sz22, sz23, sz24, sz25, cpow1018, true_and, and_true, Nat.reduceAdd, Nat.reduceLT, Nat.reduceSub, Int.reduceNe, Int.reduceEq, Int.reduceLT, Int.reduceLE, Int.reduceToNat, ne_eq, not_false_eq_true, List.length_map, Nat.lt_irrefl, dV_nx, dV_rt, at0, at1, at2, at3, ix20, ix21, vSeq, vIfS, vTest, vTruth, truth, v2, v1, vN, vCons, vNil, vStar, vVar, vC, xIx, Vl.opI0, Vl.opI, pk, vSet, vAug, vAsg, xgSub, vRet, vRetN, vDrop, vBreak, vCont, asD, asDs, opMod, opDiv, opMul2, Vl.opAdd, Vl.opAddO, opSub, opPow, opLt, Vl.opLe, opGt, Vl.opGe, xEq, okEq_str, okEq_int, xIn, okIn, inD, xIsN, isNone_n, isNone_t, isNone_l, isNone_i, isNone_s, isMo, mob, pkm, gModI, gDivI, gSubI, gMulI, gPowI, gGt, gLt, gLe, gGe, vNotT, vAndT, vOrT, vAndV, vOrV, opNot, opNotG, vIfE, opTup, opLst, opLstO, Vl.opLen, Vl.opInt, opList, opListO, opTuple, opII, gMax, gMin, vM, vM0, isT, xPop, Vl.opAppend, opExtend, opJoin, vgName, vgTup, vgCons, vgNil, kOpt_some, kOpn_some, kOps_some, Vl.opSum, Vl.opInsert, Vl.opIndex, opDivmod, vSl, vPart, vNoPart, opSl, opSlO, opRev, opCallK, ownD, ownO, objs, renum, uniq, getS, putS, vCall0, vFor, vForW, En.wk, vSeqI, vTupI, vRng1, vRng2, vRngD, vFn, vCallL, vOdd, vWays, vEnum, vZip, chkOf, vLcK, vYes, finD, finO, En.wipe, wipeE, En.trim, trimS, dropNone, clr_n, clr_v, clr_k, clr_o, wth, Vl.ret, takeS, startV,  List.map_cons, List.map_nil, List.length_cons, List.length_nil, List.cons_append, List.nil_append, List.replicate, List.getElem?_cons_succ, List.getElem?_cons_zero, List.getElem?_nil, List.set_cons_succ, List.set_cons_zero, List.set_nil, List.all_nil, List.all_cons, Bool.true_and, Option.map_some, Option.map_none, if_true, if_false, decide_eq_true_eq, Bool.false_eq_true, List.take_succ_cons, List.take_zero, List.take_nil, List.drop_succ_cons, List.drop_zero, List.drop_nil, reduceIte, reduceCtorEq]
  refine ⟨T, 5, [], by decide, i2, by omega, rfl, rfl, fun ws hw => ?_⟩
  simp only [flatD, List.any_cons, List.any_nil, eqv_str, eqv_int, eqv_ti, eqv_it, eqv_st, eqv_ts, cut1, Bool.or_false, Bool.or_true, Bool.and_self, Bool.and_true, Bool.and_false, Bool.false_or, Bool.true_or, and_self, ofs_inj, ofs_app, ofs_len, String.reduceEq, String.reduceNe, String.reduceAppend, decide_true, decide_false, Bool.not_true, Bool.not_false, sz0, sz1, sz2, sz3, sz4, sz5, sz6, sz7, sz8, sz9, sz10, sz11, sz12, sz13, sz14, sz15, sz16, sz17, sz18, sz19, sz20, sz21, sz22, sz23, sz24, sz25, cpow1018, true_and, and_true, Nat.reduceAdd, Nat.reduceLT, Nat.reduceSub, Int.reduceNe, Int.reduceEq, Int.reduceLT, Int.reduceLE, Int.reduceToNat, ne_eq, not_false_eq_true, List.length_map, Nat.lt_irrefl, dV_nx, dV_rt, at0, at1, at2, at3, ix20, ix21, vSeq, vIfS, vTest, vTruth, truth, v2, v1, vN, vCons, vNil, vStar, vVar, vC, xIx, Vl.opI0, Vl.opI, pk, vSet, vAug, vAsg, xgSub, vRet, vRetN, vDrop, vBreak, vCont, asD, asDs, opMod, opDiv, opMul2, Vl.opAdd, Vl.opAddO, opSub, opPow, opLt, Vl.opLe, opGt, Vl.opGe, xEq, okEq_str, okEq_int, xIn, okIn, inD, xIsN, isNone_n, isNone_t, isNone_l, isNone_i, isNone_s, isMo, mob, pkm, gModI, gDivI, gSubI, gMulI, gPowI, gGt, gLt, gLe, gGe, vNotT, vAndT, vOrT, vAndV, vOrV, opNot, opNotG, vIfE, opTup, opLst, opLstO, Vl.opLen, Vl.opInt, opList, opListO, opTuple, opII, gMax, gMin, vM, vM0, isT, xPop, Vl.opAppend, opExtend, opJoin, vgName, vgTup, vgCons, vgNil, kOpt_some, kOpn_some, kOps_some, Vl.opSum, Vl.opInsert, Vl.opIndex, opDivmod, vSl, vPart, vNoPart, opSl, opSlO, opRev, opCallK, ownD, ownO, objs, renum, uniq, getS, putS, vCall0, vFor, vForW, En.wk, vSeqI, vTupI, vRng1, vRng2, vRngD, vFn, vCallL, vOdd, vWays, vEnum, vZip, chkOf, vLcK, vYes, finD, finO, En.wipe, wipeE, En.trim, trimS, dropNone, clr_n, clr_v, clr_k, clr_o, wth, Vl.ret, takeS, startV,  List.map_cons, List.map_nil, List.length_cons, List.length_nil, List.cons_append, List.nil_append, List.replicate, List.getElem?_cons_succ, List.getElem?_cons_zero, List.getElem?_nil, List.set_cons_succ, List.set_cons_zero, List.set_nil, List.all_nil, List.all_cons, Bool.true_and, Option.map_some, Option.map_none, if_true, if_false, decide_eq_true_eq, Bool.false_eq_true, List.take_succ_cons, List.take_zero, List.take_nil, List.drop_succ_cons, List.drop_zero, List.drop_nil, reduceIte, reduceCtorEq]
  rw [if_neg (by rw [hw]; simp), vNext_mk]
  exact law34c zp zm zl hk
theorem law34a {ns : List Int} {N : Int} (hN1 : 0 ≤ N ∧ N ≤ 20) (hl : ns.length ≤ 63) {d : D} {ms : List Str} {c n : Int} {i : Nat} (h1 : isTr (3 + 1) [] d = true) (h2 : okT d) (h3 : ndT d ≤ ndB 3) (h4 : dpT d ≤ 2 * (3 + 1)) (h5 : ∀ z ∈ mksD d, z ∈ ms) (h6 : DnT (3 + 1) d) (hm : MarksOk ms) (pn : PoolK n) {Nx B : En → Prop} {Kp : Sl → List Ob → Prop}
    (hk : ∀ (e' : En) (q : Nat) (fs : List Nat), 0 ≤ q → (e'.wk q fs = ⟨[some (.kn (ns.map .int)), none, none, none, none, none, none, none, none], []⟩) → Nx e') :
    t_lawk34_11 pPool pMarks (pTree34 4) pRight34 (pBent34 5) pIsTree pWorlds (pAllT 41) { nx := Nx, rt := (dV 0 Kp).rt, bk := B, ct := Nx, ex := (dV 0 Kp).ex } ⟨[some (.kn (ns.map .int)), some (.val (.int (0 + (i : Nat)))), some (.obj 0), some (.val (.list (ms.map .str))), some (.val d), none, none, none, none], [some (.l [.int c, .int n])]⟩ := by
  simp only [t_lawk34_11, flatD, List.any_cons, List.any_nil, eqv_str, eqv_int, eqv_ti, eqv_it, eqv_st, eqv_ts, cut1, Bool.or_false, Bool.or_true, Bool.and_self, Bool.and_true, Bool.and_false, Bool.false_or, Bool.true_or, and_self, ofs_inj, ofs_app, ofs_len, String.reduceEq, String.reduceNe, String.reduceAppend, decide_true, decide_false, Bool.not_true, Bool.not_false, sz0, sz1, sz2, sz3, sz4, sz5, sz6, sz7, sz8, sz9, sz10, sz11, sz12, sz13, sz14, sz15, sz16, sz17, sz18, sz19, sz20, sz21, sz22, sz23, sz24, sz25, cpow1018, true_and, and_true, Nat.reduceAdd, Nat.reduceLT, Nat.reduceSub, Int.reduceNe, Int.reduceEq, Int.reduceLT, Int.reduceLE, Int.reduceToNat, ne_eq, not_false_eq_true, List.length_map, Nat.lt_irrefl, dV_nx, dV_rt, at0, at1, at2, at3, ix20, ix21, vSeq, vIfS, vTest, vTruth, truth, v2, v1, vN, vCons, vNil, vStar, vVar, vC, xIx, Vl.opI0, Vl.opI, pk, vSet, vAug, vAsg, xgSub, vRet, vRetN, vDrop, vBreak, vCont, asD, asDs, opMod, opDiv, opMul2, Vl.opAdd, Vl.opAddO, opSub, opPow, opLt, Vl.opLe, opGt, Vl.opGe, xEq, okEq_str, okEq_int, xIn, okIn, inD, xIsN, isNone_n, isNone_t, isNone_l, isNone_i, isNone_s, isMo, mob, pkm, gModI, gDivI, gSubI, gMulI, gPowI, gGt, gLt, gLe, gGe, vNotT, vAndT, vOrT, vAndV, vOrV, opNot, opNotG, vIfE, opTup, opLst, opLstO, Vl.opLen, Vl.opInt, opList, opListO, opTuple, opII, gMax, gMin, vM, vM0, isT, xPop, Vl.opAppend, opExtend, opJoin, vgName, vgTup, vgCons, vgNil, kOpt_some, kOpn_some, kOps_some, Vl.opSum, Vl.opInsert, Vl.opIndex, opDivmod, vSl, vPart, vNoPart, opSl, opSlO, opRev, opCallK, ownD, ownO, objs, renum, uniq, getS, putS, vCall0, vFor, vForW, En.wk, vSeqI, vTupI, vRng1, vRng2, vRngD, vFn, vCallL, vOdd, vWays, vEnum, vZip, chkOf, vLcK, vYes, finD, finO, En.wipe, wipeE, En.trim, trimS, dropNone, clr_n, clr_v, clr_k, clr_o, wth, Vl.ret, takeS, startV,  List.map_cons, List.map_nil, List.length_cons, List.length_nil, List.cons_append, List.nil_append, List.replicate, List.getElem?_cons_succ, List.getElem?_cons_zero, List.getElem?_nil, List.set_cons_succ, List.set_cons_zero, List.set_nil, List.all_nil, List.all_cons, Bool.true_and, Option.map_some, Option.map_none, if_true, if_false, decide_eq_true_eq, Bool.false_eq_true, List.take_succ_cons, List.take_zero, List.take_nil, List.drop_succ_cons, List.drop_zero, List.drop_nil, reduceIte, reduceCtorEq]
  have a1 := DnT_any h6
  refine ⟨d, h2, Nat.le_trans h3 (by decide), by omega, rfl, rfl, ?_⟩
  simp only [truth, flatD, List.any_cons, List.any_nil, eqv_str, eqv_int, eqv_ti, eqv_it, eqv_st, eqv_ts, cut1, Bool.or_false, Bool.or_true, Bool.and_self, Bool.and_true, Bool.and_false, Bool.false_or, Bool.true_or, and_self, ofs_inj, ofs_app, ofs_len, String.reduceEq, String.reduceNe, String.reduceAppend, decide_true, decide_false, Bool.not_true, Bool.not_false, sz0, sz1, sz2, sz3, sz4, sz5, sz6, sz7, sz8, sz9, sz10, sz11, sz12, sz13, sz14, sz15, sz16, sz17, sz18, sz19, sz20, sz21, sz22, sz23, sz24, sz25, cpow1018, true_and, and_true, Nat.reduceAdd, Nat.reduceLT, Nat.reduceSub, Int.reduceNe, Int.reduceEq, Int.reduceLT, Int.reduceLE, Int.reduceToNat, ne_eq, not_false_eq_true, List.length_map, Nat.lt_irrefl, dV_nx, dV_rt, at0, at1, at2, at3, ix20, ix21, vSeq, vIfS, vTest, vTruth, truth, v2, v1, vN, vCons, vNil, vStar, vVar, vC, xIx, Vl.opI0, Vl.opI, pk, vSet, vAug, vAsg, xgSub, vRet, vRetN, vDrop, vBreak, vCont, asD, asDs, opMod, opDiv, opMul2, Vl.opAdd, Vl.opAddO, opSub, opPow, opLt, Vl.opLe, opGt, Vl.opGe, xEq, okEq_str, okEq_int, xIn, okIn, inD, xIsN, isNone_n, isNone_t, isNone_l, isNone_i, isNone_s, isMo, mob, pkm, gModI, gDivI, gSubI, gMulI, gPowI, gGt, gLt, gLe, gGe, vNotT, vAndT, vOrT, vAndV, vOrV, opNot, opNotG, vIfE, opTup, opLst, opLstO, Vl.opLen, Vl.opInt, opList, opListO, opTuple, opII, gMax, gMin, vM, vM0, isT, xPop, Vl.opAppend, opExtend, opJoin, vgName, vgTup, vgCons, vgNil, kOpt_some, kOpn_some, kOps_some, Vl.opSum, Vl.opInsert, Vl.opIndex, opDivmod, vSl, vPart, vNoPart, opSl, opSlO, opRev, opCallK, ownD, ownO, objs, renum, uniq, getS, putS, vCall0, vFor, vForW, En.wk, vSeqI, vTupI, vRng1, vRng2, vRngD, vFn, vCallL, vOdd, vWays, vEnum, vZip, chkOf, vLcK, vYes, finD, finO, En.wipe, wipeE, En.trim, trimS, dropNone, clr_n, clr_v, clr_k, clr_o, wth, Vl.ret, takeS, startV,  List.map_cons, List.map_nil, List.length_cons, List.length_nil, List.cons_append, List.nil_append, List.replicate, List.getElem?_cons_succ, List.getElem?_cons_zero, List.getElem?_nil, List.set_cons_succ, List.set_cons_zero, List.set_nil, List.all_nil, List.all_cons, Bool.true_and, Option.map_some, Option.map_none, if_true, if_false, decide_eq_true_eq, Bool.false_eq_true, List.take_succ_cons, List.take_zero, List.take_nil, List.drop_succ_cons, List.drop_zero, List.drop_nil, reduceIte, reduceCtorEq]
  refine ⟨c, n, d, 4, by decide, by decide, rfl, rfl, pn, h6, fun d' c3 n3 a2 pn3 => ?_⟩
  refine ⟨d', a2.ok, Nat.le_trans a2.nd (by decide), Nat.le_trans a2.dp (by decide), rfl, rfl, ?_⟩
  simp only [truth, flatD, List.any_cons, List.any_nil, eqv_str, eqv_int, eqv_ti, eqv_it, eqv_st, eqv_ts, cut1, Bool.or_false, Bool.or_true, Bool.and_self, Bool.and_true, Bool.and_false, Bool.false_or, Bool.true_or, and_self, ofs_inj, ofs_app, ofs_len, String.reduceEq, String.reduceNe, String.reduceAppend, decide_true, decide_false, Bool.not_true, Bool.not_false, sz0, sz1, sz2, sz3, sz4, sz5, sz6, sz7, sz8, sz9, sz10, sz11, sz12, sz13, sz14, sz15, sz16, sz17, sz18, sz19, sz20, sz21, sz22, sz23, sz24, sz25, cpow1018, true_and, and_true, Nat.reduceAdd, Nat.reduceLT, Nat.reduceSub, Int.reduceNe, Int.reduceEq, Int.reduceLT, Int.reduceLE, Int.reduceToNat, ne_eq, not_false_eq_true, List.length_map, Nat.lt_irrefl, dV_nx, dV_rt, at0, at1, at2, at3, ix20, ix21, vSeq, vIfS, vTest, vTruth, truth, v2, v1, vN, vCons, vNil, vStar, vVar, vC, xIx, Vl.opI0, Vl.opI, pk, vSet, vAug, vAsg, xgSub, vRet, vRetN, vDrop, vBreak, vCont, asD, asDs, opMod, opDiv, opMul2, Vl.opAdd, Vl.opAddO, opSub, opPow, opLt, Vl.opLe, opGt, Vl.opGe, xEq, okEq_str, okEq_int, xIn, okIn, inD, xIsN, isNone_n, isNone_t, isNone_l, isNone_i, isNone_s, isMo, mob, pkm, gModI, gDivI, gSubI, gMulI, gPowI, gGt, gLt, gLe, gGe, vNotT, vAndT, vOrT, vAndV, vOrV, opNot, opNotG, vIfE, opTup, opLst, opLstO, Vl.opLen, Vl.opInt, opList, opListO, opTuple, opII, gMax, gMin, vM, vM0, isT, xPop, Vl.opAppend, opExtend, opJoin, vgName, vgTup, vgCons, vgNil, kOpt_some, kOpn_some, kOps_some, Vl.opSum, Vl.opInsert, Vl.opIndex, opDivmod, vSl, vPart, vNoPart, opSl, opSlO, opRev, opCallK, ownD, ownO, objs, renum, uniq, getS, putS, vCall0, vFor, vForW, En.wk, vSeqI, vTupI, vRng1, vRng2, vRngD, vFn, vCallL, vOdd, vWays, vEnum, vZip, chkOf, vLcK, vYes, finD, finO, En.wipe, wipeE, En.trim, trimS, dropNone, clr_n, clr_v, clr_k, clr_o, wth, Vl.ret, takeS, startV,  List.map_cons, List.map_nil, List.length_cons, List.length_nil, List.cons_append, List.nil_append, List.replicate, List.getElem?_cons_succ, List.getElem?_cons_zero, List.getElem?_nil, List.set_cons_succ, List.set_cons_zero, List.set_nil, List.all_nil, List.all_cons, Bool.true_and, Option.map_some, Option.map_none, if_true, if_false, decide_eq_true_eq, Bool.false_eq_true, List.take_succ_cons, List.take_zero, List.take_nil, List.drop_succ_cons, List.drop_zero, List.drop_nil, reduceIte, reduceCtorEq]
  rw [vNext_mk]
  exact law34b hN1 hl h1 h2 h3 h4 h5 h6 hm pn3 hk
theorem r_lawk34 {ss cs Kp} (h : pLaw ss cs Kp) : t_lawk34 pPool pMarks (pTree34 4) pRight34 (pBent34 5) pIsTree pWorlds (pAllT 41) (dV cs.length Kp) ⟨startV 9 ss, cs.map some⟩ := by
  obtain ⟨ns, rfl, rfl, hl, k⟩ := h
  simp only [t_lawk34, t_lawk34_16, flatD, List.any_cons, List.any_nil, eqv_str, eqv_int, eqv_ti, eqv_it, eqv_st, eqv_ts, cut1, Bool.or_false, Bool.or_true, Bool.and_self, Bool.and_true, Bool.and_false, Bool.false_or, Bool.true_or, and_self, ofs_inj, ofs_app, ofs_len, String.reduceEq, String.reduceNe, String.reduceAppend, decide_true, decide_false, Bool.not_true, Bool.not_false, sz0, sz1, sz2, sz3, sz4, sz5, sz6, sz7, sz8, sz9, sz10, sz11, sz12, sz13, sz14, sz15, sz16, sz17, sz18, sz19, sz20, sz21, sz22, sz23, sz24, sz25, cpow1018, true_and, and_true, Nat.reduceAdd, Nat.reduceLT, Nat.reduceSub, Int.reduceNe, Int.reduceEq, Int.reduceLT, Int.reduceLE, Int.reduceToNat, ne_eq, not_false_eq_true, List.length_map, Nat.lt_irrefl, dV_nx, dV_rt, at0, at1, at2, at3, ix20, ix21, vSeq, vIfS, vTest, vTruth, truth, v2, v1, vN, vCons, vNil, vStar, vVar, vC, xIx, Vl.opI0, Vl.opI, pk, vSet, vAug, vAsg, xgSub, vRet, vRetN, vDrop, vBreak, vCont, asD, asDs, opMod, opDiv, opMul2, Vl.opAdd, Vl.opAddO, opSub, opPow, opLt, Vl.opLe, opGt, Vl.opGe, xEq, okEq_str, okEq_int, xIn, okIn, inD, xIsN, isNone_n, isNone_t, isNone_l, isNone_i, isNone_s, isMo, mob, pkm, gModI, gDivI, gSubI, gMulI, gPowI, gGt, gLt, gLe, gGe, vNotT, vAndT, vOrT, vAndV, vOrV, opNot, opNotG, vIfE, opTup, opLst, opLstO, Vl.opLen, Vl.opInt, opList, opListO, opTuple, opII, gMax, gMin, vM, vM0, isT, xPop, Vl.opAppend, opExtend, opJoin, vgName, vgTup, vgCons, vgNil, kOpt_some, kOpn_some, kOps_some, Vl.opSum, Vl.opInsert, Vl.opIndex, opDivmod, vSl, vPart, vNoPart, opSl, opSlO, opRev, opCallK, ownD, ownO, objs, renum, uniq, getS, putS, vCall0, vFor, vForW, En.wk, vSeqI, vTupI, vRng1, vRng2, vRngD, vFn, vCallL, vOdd, vWays, vEnum, vZip, chkOf, vLcK, vYes, finD, finO, En.wipe, wipeE, En.trim, trimS, dropNone, clr_n, clr_v, clr_k, clr_o, wth, Vl.ret, takeS, startV,  List.map_cons, List.map_nil, List.length_cons, List.length_nil, List.cons_append, List.nil_append, List.replicate, List.getElem?_cons_succ, List.getElem?_cons_zero, List.getElem?_nil, List.set_cons_succ, List.set_cons_zero, List.set_nil, List.all_nil, List.all_cons, Bool.true_and, Option.map_some, Option.map_none, if_true, if_false, decide_eq_true_eq, Bool.false_eq_true, List.take_succ_cons, List.take_zero, List.take_nil, List.drop_succ_cons, List.drop_zero, List.drop_nil, reduceIte, reduceCtorEq]
  generalize hN : (if (if (20 : Int) < (ns.length : Nat) then (20 : Int) else (ns.length : Nat)) > 1 then (if (20 : Int) < (ns.length : Nat) then (20 : Int) else (ns.length : Nat)) else 1) = N
  have hN1 : 0 ≤ N ∧ N ≤ 20 := by
    rw [← hN]
    split <;> split <;> omega
  refine ⟨by omega, by omega, ?_⟩
  rw [rng_eq]
  refine fl_invW (chk := none) (fun (i : Nat) => PyData.int (0 + (i : Nat))) _ (fun ys e => e = ⟨[some (.kn (ns.map .int)), none, none, none, none, none, none, none, none], []⟩) (fun _ _ _ => trivial) ?_ ?_ rfl
  · rintro ys i zs e Nx hys rfl hk
    have hi : i < N.toNat := List.mem_range.mp (by rw [hys]; simp)
    simp only [t_lawk34_14, flatD, List.any_cons, List.any_nil, eqv_str, eqv_int, eqv_ti, eqv_it, eqv_st, eqv_ts, cut1, Bool.or_false, Bool.or_true, Bool.and_self, Bool.and_true, Bool.and_false, Bool.false_or, Bool.true_or, and_self, ofs_inj, ofs_app, ofs_len, String.reduceEq, String.reduceNe, String.reduceAppend, decide_true, decide_false, Bool.not_true, Bool.not_false, sz0, sz1, sz2, sz3, sz4, sz5, sz6, sz7, sz8, sz9, sz10, sz11, sz12, sz13, sz14, sz15, sz16, sz17, sz18, sz19, sz20, sz21, sz22, sz23, sz24, sz25, cpow1018, true_and, and_true, Nat.reduceAdd, Nat.reduceLT, Nat.reduceSub, Int.reduceNe, Int.reduceEq, Int.reduceLT, Int.reduceLE, Int.reduceToNat, ne_eq, not_false_eq_true, List.length_map, Nat.lt_irrefl, dV_nx, dV_rt, at0, at1, at2, at3, ix20, ix21, vSeq, vIfS, vTest, vTruth, truth, v2, v1, vN, vCons, vNil, vStar, vVar, vC, xIx, Vl.opI0, Vl.opI, pk, vSet, vAug, vAsg, xgSub, vRet, vRetN, vDrop, vBreak, vCont, asD, asDs, opMod, opDiv, opMul2, Vl.opAdd, Vl.opAddO, opSub, opPow, opLt, Vl.opLe, opGt, Vl.opGe, xEq, okEq_str, okEq_int, xIn, okIn, inD, xIsN, isNone_n, isNone_t, isNone_l, isNone_i, isNone_s, isMo, mob, pkm, gModI, gDivI, gSubI, gMulI, gPowI, gGt, gLt, gLe, gGe, vNotT, vAndT, vOrT, vAndV, vOrV, opNot, opNotG, vIfE, opTup, opLst, opLstO, Vl.opLen, Vl.opInt, opList, opListO, opTuple, opII, gMax, gMin, vM, vM0, isT, xPop, Vl.opAppend, opExtend, opJoin, vgName, vgTup, vgCons, vgNil, kOpt_some, kOpn_some, kOps_some, Vl.opSum, Vl.opInsert, Vl.opIndex, opDivmod, vSl, vPart, vNoPart, opSl, opSlO, opRev, opCallK, ownD, ownO, objs, renum, uniq, getS, putS, vCall0, vFor, vForW, En.wk, vSeqI, vTupI, vRng1, vRng2, vRngD, vFn, vCallL, vOdd, vWays, vEnum, vZip, chkOf, vLcK, vYes, finD, finO, En.wipe, wipeE, En.trim, trimS, dropNone, clr_n, clr_v, clr_k, clr_o, wth, Vl.ret, takeS, startV,  List.map_cons, List.map_nil, List.length_cons, List.length_nil, List.cons_append, List.nil_append, List.replicate, List.getElem?_cons_succ, List.getElem?_cons_zero, List.getElem?_nil, List.set_cons_succ, List.set_cons_zero, List.set_nil, List.all_nil, List.all_cons, Bool.true_and, Option.map_some, Option.map_none, if_true, if_false, decide_eq_true_eq, Bool.false_eq_true, List.take_succ_cons, List.take_zero, List.take_nil, List.drop_succ_cons, List.drop_zero, List.drop_nil, reduceIte, reduceCtorEq]
    refine ⟨ns, i, by rw [Int.zero_add], rfl, hl, by omega, fun c n pn => ?_⟩
    simp only [t_lawk34_13, flatD, List.any_cons, List.any_nil, eqv_str, eqv_int, eqv_ti, eqv_it, eqv_st, eqv_ts, cut1, Bool.or_false, Bool.or_true, Bool.and_self, Bool.and_true, Bool.and_false, Bool.false_or, Bool.true_or, and_self, ofs_inj, ofs_app, ofs_len, String.reduceEq, String.reduceNe, String.reduceAppend, decide_true, decide_false, Bool.not_true, Bool.not_false, sz0, sz1, sz2, sz3, sz4, sz5, sz6, sz7, sz8, sz9, sz10, sz11, sz12, sz13, sz14, sz15, sz16, sz17, sz18, sz19, sz20, sz21, sz22, sz23, sz24, sz25, cpow1018, true_and, and_true, Nat.reduceAdd, Nat.reduceLT, Nat.reduceSub, Int.reduceNe, Int.reduceEq, Int.reduceLT, Int.reduceLE, Int.reduceToNat, ne_eq, not_false_eq_true, List.length_map, Nat.lt_irrefl, dV_nx, dV_rt, at0, at1, at2, at3, ix20, ix21, vSeq, vIfS, vTest, vTruth, truth, v2, v1, vN, vCons, vNil, vStar, vVar, vC, xIx, Vl.opI0, Vl.opI, pk, vSet, vAug, vAsg, xgSub, vRet, vRetN, vDrop, vBreak, vCont, asD, asDs, opMod, opDiv, opMul2, Vl.opAdd, Vl.opAddO, opSub, opPow, opLt, Vl.opLe, opGt, Vl.opGe, xEq, okEq_str, okEq_int, xIn, okIn, inD, xIsN, isNone_n, isNone_t, isNone_l, isNone_i, isNone_s, isMo, mob, pkm, gModI, gDivI, gSubI, gMulI, gPowI, gGt, gLt, gLe, gGe, vNotT, vAndT, vOrT, vAndV, vOrV, opNot, opNotG, vIfE, opTup, opLst, opLstO, Vl.opLen, Vl.opInt, opList, opListO, opTuple, opII, gMax, gMin, vM, vM0, isT, xPop, Vl.opAppend, opExtend, opJoin, vgName, vgTup, vgCons, vgNil, kOpt_some, kOpn_some, kOps_some, Vl.opSum, Vl.opInsert, Vl.opIndex, opDivmod, vSl, vPart, vNoPart, opSl, opSlO, opRev, opCallK, ownD, ownO, objs, renum, uniq, getS, putS, vCall0, vFor, vForW, En.wk, vSeqI, vTupI, vRng1, vRng2, vRngD, vFn, vCallL, vOdd, vWays, vEnum, vZip, chkOf, vLcK, vYes, finD, finO, En.wipe, wipeE, En.trim, trimS, dropNone, clr_n, clr_v, clr_k, clr_o, wth, Vl.ret, takeS, startV,  List.map_cons, List.map_nil, List.length_cons, List.length_nil, List.cons_append, List.nil_append, List.replicate, List.getElem?_cons_succ, List.getElem?_cons_zero, List.getElem?_nil, List.set_cons_succ, List.set_cons_zero, List.set_nil, List.all_nil, List.all_cons, Bool.true_and, Option.map_some, Option.map_none, if_true, if_false, decide_eq_true_eq, Bool.false_eq_true, List.take_succ_cons, List.take_zero, List.take_nil, List.drop_succ_cons, List.drop_zero, List.drop_nil, reduceIte, reduceCtorEq]
    refine ⟨c, n, rfl, rfl, pn, fun ms c1 n1 hm pn1 => ?_⟩
    simp only [t_lawk34_12, flatD, List.any_cons, List.any_nil, eqv_str, eqv_int, eqv_ti, eqv_it, eqv_st, eqv_ts, cut1, Bool.or_false, Bool.or_true, Bool.and_self, Bool.and_true, Bool.and_false, Bool.false_or, Bool.true_or, and_self, ofs_inj, ofs_app, ofs_len, String.reduceEq, String.reduceNe, String.reduceAppend, decide_true, decide_false, Bool.not_true, Bool.not_false, sz0, sz1, sz2, sz3, sz4, sz5, sz6, sz7, sz8, sz9, sz10, sz11, sz12, sz13, sz14, sz15, sz16, sz17, sz18, sz19, sz20, sz21, sz22, sz23, sz24, sz25, cpow1018, true_and, and_true, Nat.reduceAdd, Nat.reduceLT, Nat.reduceSub, Int.reduceNe, Int.reduceEq, Int.reduceLT, Int.reduceLE, Int.reduceToNat, ne_eq, not_false_eq_true, List.length_map, Nat.lt_irrefl, dV_nx, dV_rt, at0, at1, at2, at3, ix20, ix21, vSeq, vIfS, vTest, vTruth, truth, v2, v1, vN, vCons, vNil, vStar, vVar, vC, xIx, Vl.opI0, Vl.opI, pk, vSet, vAug, vAsg, xgSub, vRet, vRetN, vDrop, vBreak, vCont, asD, asDs, opMod, opDiv, opMul2, Vl.opAdd, Vl.opAddO, opSub, opPow, opLt, Vl.opLe, opGt, Vl.opGe, xEq, okEq_str, okEq_int, xIn, okIn, inD, xIsN, isNone_n, isNone_t, isNone_l, isNone_i, isNone_s, isMo, mob, pkm, gModI, gDivI, gSubI, gMulI, gPowI, gGt, gLt, gLe, gGe, vNotT, vAndT, vOrT, vAndV, vOrV, opNot, opNotG, vIfE, opTup, opLst, opLstO, Vl.opLen, Vl.opInt, opList, opListO, opTuple, opII, gMax, gMin, vM, vM0, isT, xPop, Vl.opAppend, opExtend, opJoin, vgName, vgTup, vgCons, vgNil, kOpt_some, kOpn_some, kOps_some, Vl.opSum, Vl.opInsert, Vl.opIndex, opDivmod, vSl, vPart, vNoPart, opSl, opSlO, opRev, opCallK, ownD, ownO, objs, renum, uniq, getS, putS, vCall0, vFor, vForW, En.wk, vSeqI, vTupI, vRng1, vRng2, vRngD, vFn, vCallL, vOdd, vWays, vEnum, vZip, chkOf, vLcK, vYes, finD, finO, En.wipe, wipeE, En.trim, trimS, dropNone, clr_n, clr_v, clr_k, clr_o, wth, Vl.ret, takeS, startV,  List.map_cons, List.map_nil, List.length_cons, List.length_nil, List.cons_append, List.nil_append, List.replicate, List.getElem?_cons_succ, List.getElem?_cons_zero, List.getElem?_nil, List.set_cons_succ, List.set_cons_zero, List.set_nil, List.all_nil, List.all_cons, Bool.true_and, Option.map_some, Option.map_none, if_true, if_false, decide_eq_true_eq, Bool.false_eq_true, List.take_succ_cons, List.take_zero, List.take_nil, List.drop_succ_cons, List.drop_zero, List.drop_nil, reduceIte, reduceCtorEq]
    refine ⟨c1, n1, ms, [], 3, by decide, by decide, rfl, rfl, pn1, hm, by simp, fun d c2 n2 h1 h2 h3 h4 h5 h6 pn2 => ?_⟩
    exact law34a hN1 hl h1 h2 h3 h4 h5 h6 hm pn2 hk
  · rintro e rfl
    simp only [t_lawk34_15, flatD, List.any_cons, List.any_nil, eqv_str, eqv_int, eqv_ti, eqv_it, eqv_st, eqv_ts, cut1, Bool.or_false, Bool.or_true, Bool.and_self, Bool.and_true, Bool.and_false, Bool.false_or, Bool.true_or, and_self, ofs_inj, ofs_app, ofs_len, String.reduceEq, String.reduceNe, String.reduceAppend, decide_true, decide_false, Bool.not_true, Bool.not_false, sz0, sz1, sz2, sz3, sz4, sz5, sz6, sz7, sz8, sz9, sz10, sz11, sz12, sz13, sz14, sz15, sz16, sz17, sz18, sz19, sz20, sz21, sz22, sz23, sz24, sz25, cpow1018, true_and, and_true, Nat.reduceAdd, Nat.reduceLT, Nat.reduceSub, Int.reduceNe, Int.reduceEq, Int.reduceLT, Int.reduceLE, Int.reduceToNat, ne_eq, not_false_eq_true, List.length_map, Nat.lt_irrefl, dV_nx, dV_rt, at0, at1, at2, at3, ix20, ix21, vSeq, vIfS, vTest, vTruth, truth, v2, v1, vN, vCons, vNil, vStar, vVar, vC, xIx, Vl.opI0, Vl.opI, pk, vSet, vAug, vAsg, xgSub, vRet, vRetN, vDrop, vBreak, vCont, asD, asDs, opMod, opDiv, opMul2, Vl.opAdd, Vl.opAddO, opSub, opPow, opLt, Vl.opLe, opGt, Vl.opGe, xEq, okEq_str, okEq_int, xIn, okIn, inD, xIsN, isNone_n, isNone_t, isNone_l, isNone_i, isNone_s, isMo, mob, pkm, gModI, gDivI, gSubI, gMulI, gPowI, gGt, gLt, gLe, gGe, vNotT, vAndT, vOrT, vAndV, vOrV, opNot, opNotG, vIfE, opTup, opLst, opLstO, Vl.opLen, Vl.opInt, opList, opListO, opTuple, opII, gMax, gMin, vM, vM0, isT, xPop, Vl.opAppend, opExtend, opJoin, vgName, vgTup, vgCons, vgNil, kOpt_some, kOpn_some, kOps_some, Vl.opSum, Vl.opInsert, Vl.opIndex, opDivmod, vSl, vPart, vNoPart, opSl, opSlO, opRev, opCallK, ownD, ownO, objs, renum, uniq, getS, putS, vCall0, vFor, vForW, En.wk, vSeqI, vTupI, vRng1, vRng2, vRngD, vFn, vCallL, vOdd, vWays, vEnum, vZip, chkOf, vLcK, vYes, finD, finO, En.wipe, wipeE, En.trim, trimS, dropNone, clr_n, clr_v, clr_k, clr_o, wth, Vl.ret, takeS, startV,  List.map_cons, List.map_nil, List.length_cons, List.length_nil, List.cons_append, List.nil_append, List.replicate, List.getElem?_cons_succ, List.getElem?_cons_zero, List.getElem?_nil, List.set_cons_succ, List.set_cons_zero, List.set_nil, List.all_nil, List.all_cons, Bool.true_and, Option.map_some, Option.map_none, if_true, if_false, decide_eq_true_eq, Bool.false_eq_true, List.take_succ_cons, List.take_zero, List.take_nil, List.drop_succ_cons, List.drop_zero, List.drop_nil, reduceIte, reduceCtorEq]
    exact k
end Kf
namespace Kf
open PySem L2 Vl PySem.Spec PyProof.Rows
set_option maxHeartbeats 800000
def top (i : Nat) : Stmt := PySem.Challenge.pw_kindfill_k34_trees_or_none.main.body.getD i (.Pass ⟨0, 0, 0, 0⟩)
abbrev sismark : Stmt := top 3
abbrev nismark : List Str := ["text"]
theorem scismark : FnScope nismark ["text"] (defScope sismark) := ⟨rfl, rfl, rfl, by decide +kernel, rfl, by decide +kernel, by decide +kernel⟩
theorem bd_ismark {P : Program} {w : World} {K : PySem.W.Frag} {mg : Str → Option Value} {base : Heap} {k : Nat} (h_1 : 1 ≤ k) (c_LETTERS : VConst K mg "LETTERS" (.str "abcdefghijklmnopqrstuvwxyz")) (c_LONGEST : VConst K mg "LONGEST" (.int 6)) (B : Blt mg) {f : Addr} {cG PG : Addr} (TB : GxR.TabB base mg cG PG) (tk : TbK K PG) {A : Around} {outer : List Env} {s : Shared} {H : Hp} {E : XK}
    (hr : Room k (A.deeper (envOfC "is_mark" (defScope sismark) s.heap.objs.size f (.ref cG)))) : VSs (cxOf CX0 P w K mg base nismark "is_mark" (defScope sismark) f (.ref cG) A outer s H E).nox (defBody sismark) (t_ismark) := by
  have h : VSs (cxOf CX0 P w K mg base nismark "is_mark" (defScope sismark) f (.ref cG) A outer s H E).nox (defBody sismark) (vSeq (vIfS (vOrT (vNotT (vTest (vIsi "str" (vVar 0)))) (vNotT (vTest (vChain opLe opLe (vC (.int 1)) (vN opLen (vCons (vVar 0) vNil)) (vC (.int 6)))))) ((vRet (vC (.bool false)))) vNext) ((vRet (vAG true (vStrI (vVar 0)) [none] [0] (vgName 0) (v2 (opInS false) (vVar 0) (vC (.str "abcdefghijklmnopqrstuvwxyz"))))))) := (vss_cons (vs_if (VW.vt (vw_or (vt_not (vt_val (ve_isi (T := "str") (by decide) rfl B.isinstance rfl B.str (by decide +kernel) (vp 0)))) (vw_or1 (vt_not (vt_chain (p_i0 (g := gLe) fun _ _ _ => .bl _) (p_i0 (g := gLe) fun _ _ _ => .bl _) op_le op_le ve_int (ve_len rfl B.len (va_cons (vp 0) va_nil)) (ve_const c_LONGEST rfl)))))) (vss_one (vs_ret ve_bl)) vss_nil)
    (vss_one (vs_ret (ve_allG (N := ["sign"]) (caps := [none]) (vs := [0]) hr h_1 rfl B.all TB tk rfl (gsc_by (sn := (defScope sismark).names) rfl rfl rfl rfl (by decide +kernel)) (caps_by (XN := nismark) rfl (by decide +kernel)) (vi_str (vp 0)) (fun _ _ _ _ _ _ hr => have hu := u190 hr; (vg_name (i := 0) (GNd.mk (N := ["sign"]) (by decide)).nd rfl (Or.inl rfl))) (fun _ _ _ _ _ _ hr => have hu := u190 hr; (ve_inS (vp 0) (ve_const c_LETTERS rfl)))))))
  exact h
theorem ok_ismark {P : Program} {w : World} {K : PySem.W.Frag} {mg : Str → Option Value} {base : Heap} {k : Nat} {p : VSp} {cG PG : Addr} (Fd : DfC K mg base "is_mark" sismark ["text"] cG PG) (h_1 : 1 ≤ k) (c_LETTERS : VConst K mg "LETTERS" (.str "abcdefghijklmnopqrstuvwxyz")) (c_LONGEST : VConst K mg "LONGEST" (.int 6)) (B : Blt mg)
    (len : ∀ ss st Kp, p ss st Kp → ss.length = 1) (rd : ∀ ss cs Kp, p ss cs Kp → t_ismark (dV cs.length Kp) ⟨startV 1 ss, cs.map some⟩) : VFn P w K mg base (k + 1) "is_mark" ["text"] p :=
  okFC Fd scismark len (fun hr => bd_ismark h_1 c_LETTERS c_LONGEST B Fd.TB Fd.tk hr) rd
abbrev shasformv4 : Stmt := top 7
abbrev nhasformv4 : List Str := ["thing", "marks", "trees"]
theorem schasformv4 : FnScope nhasformv4 ["thing"] (defScope shasformv4) := ⟨rfl, rfl, rfl, by decide +kernel, rfl, by decide +kernel, by decide +kernel⟩
theorem bd_hasformv4 {P : Program} {w : World} {K : PySem.W.Frag} {mg : Str → Option Value} {base : Heap} {k : Nat} {k_ismark : Nat} {p_ismark : VSp} (G_ismark : VFn P w K mg base k_ismark "is_mark" ["text"] p_ismark) (h_ismark : k_ismark ≤ k) (h_1 : 1 ≤ k) (h1_ismark : k_ismark ≤ k - 1) (B : Blt mg) {f : Addr} {cG PG : Addr} (TB : GxR.TabB base mg cG PG) (tk : TbK K PG) {A : Around} {outer : List Env} {s : Shared} {H : Hp} {E : XK}
    (hr : Room k (A.deeper (envOfC "has_form" (defScope shasformv4) s.heap.objs.size f (.ref cG)))) : VSs (cxOf CX0 P w K mg base nhasformv4 "has_form" (defScope shasformv4) f (.ref cG) A outer s H E).nox (defBody shasformv4) (t_hasformv4 p_ismark) := by
  have hu := u190 hr
  have h : VSs (cxOf CX0 P w K mg base nhasformv4 "has_form" (defScope shasformv4) f (.ref cG) A outer s H E).nox (defBody shasformv4) (vSeq (vIfS (vOrT (vNotT (vTest (vIsi "tuple" (vVar 0)))) (vTest (v2 (xEq true) (vN opLen (vCons (vVar 0) vNil)) (vC (.int 2))))) ((vRet (vC (.bool false)))) vNext) (vSeq (vAsg (vVar 0) (vgTup 2 (vgCons (vgName 1) (vgCons (vgName 2) vgNil)))) (vSeq (vIfS (vOrT (vNotT (vTest (vIsi "list" (vVar 1)))) (vNotT (vTest (vIsi "list" (vVar 2))))) ((vRet (vC (.bool false)))) vNext) (vSeq (vIfS (vNotT (vTest (vAG true (vSeqI (vVar 1)) [none] [0] (vgName 0) (vN (opCallK ownD p_ismark) (vCons (vVar 0) vNil))))) ((vRet (vC (.bool false)))) vNext) ((vRet (v2 (xEq false) (vVar 1) (v1 opSSet (vVar 1))))))))) := (vss_cons (vs_if (VW.vt (vw_or (vt_not (vt_val (ve_isi (T := "tuple") (by decide) rfl B.isinstance rfl B.tuple (by decide +kernel) (vp 0)))) (vw_or1 (vt_xne hu (ve_len rfl B.len (va_cons (vp 0) va_nil)) ve_int)))) (vss_one (vs_ret ve_bl)) vss_nil)
    (vss_cons (vs_asg (vp 0) (vg_tup rfl (vgs_cons (vg_name (i := 1) schasformv4.nd rfl (Or.inl rfl)) (vgs_cons (vg_name (i := 2) schasformv4.nd rfl (Or.inl rfl)) vgs_nil))))
    (vss_cons (vs_if (VW.vt (vw_or (vt_not (vt_val (ve_isi (T := "list") (by decide) rfl B.isinstance rfl B.list (by decide +kernel) (vp 1)))) (vw_or1 (vt_not (vt_val (ve_isi (T := "list") (by decide) rfl B.isinstance rfl B.list (by decide +kernel) (vp 2))))))) (vss_one (vs_ret ve_bl)) vss_nil)
    (vss_cons (vs_if (vt_not (vt_val (ve_allG (N := ["mark"]) (caps := [none]) (vs := [0]) hr h_1 rfl B.all TB tk rfl (gsc_by (sn := (defScope shasformv4).names) rfl rfl rfl rfl (by decide +kernel)) (caps_by (XN := nhasformv4) rfl (by decide +kernel)) (vi_list (vp 1)) (fun _ _ _ _ _ _ hr => have hu := u190 hr; (vg_name (i := 0) (GNd.mk (N := ["mark"]) (by decide)).nd rfl (Or.inl rfl))) (fun _ _ _ _ _ _ hr => have hu := u190 hr; (ve_call finW_D G_ismark hr h1_ismark rfl (va_cons (vp 0) va_nil)))))) (vss_one (vs_ret ve_bl)) vss_nil)
    (vss_one (vs_ret (ve_xeq hu (vp 1) (ve_sset rfl hu rfl B.sorted rfl B.set (vp 1)))))))))
  exact h
theorem ok_hasformv4 {P : Program} {w : World} {K : PySem.W.Frag} {mg : Str → Option Value} {base : Heap} {k : Nat} {p : VSp} {cG PG : Addr} (Fd : DfC K mg base "has_form" shasformv4 ["thing"] cG PG) {k_ismark : Nat} {p_ismark : VSp} (G_ismark : VFn P w K mg base k_ismark "is_mark" ["text"] p_ismark) (h_ismark : k_ismark ≤ k) (h_1 : 1 ≤ k) (h1_ismark : k_ismark ≤ k - 1) (B : Blt mg)
    (len : ∀ ss st Kp, p ss st Kp → ss.length = 1) (rd : ∀ ss cs Kp, p ss cs Kp → t_hasformv4 p_ismark (dV cs.length Kp) ⟨startV 3 ss, cs.map some⟩) : VFn P w K mg base (k + 1) "has_form" ["thing"] p :=
  okFC Fd schasformv4 len (fun hr => bd_hasformv4 G_ismark h_ismark h_1 h1_ismark B Fd.TB Fd.tk hr) rd
abbrev sistree : Stmt := top 6
abbrev nistree : List Str := ["thing", "todo", "tree", "below", "depth", "trees", "inner", "marks"]
theorem scistree : FnScope nistree ["thing"] (defScope sistree) := ⟨rfl, rfl, rfl, by decide +kernel, rfl, by decide +kernel, by decide +kernel⟩
theorem bd_istree {P : Program} {w : World} {K : PySem.W.Frag} {mg : Str → Option Value} {base : Heap} {k : Nat} {k_hasformv4 : Nat} {p_hasformv4 : VSp} (G_hasformv4 : VFn P w K mg base k_hasformv4 "has_form" ["thing"] p_hasformv4) (h_hasformv4 : k_hasformv4 ≤ k) (h_1 : 1 ≤ k) (c_DEEPEST : VConst K mg "DEEPEST" (.int 40)) (B : Blt mg) {f : Addr} {cG PG : Addr} (TB : GxR.TabB base mg cG PG) (tk : TbK K PG) {A : Around} {outer : List Env} {s : Shared} {H : Hp} {E : XK}
    (hr : Room k (A.deeper (envOfC "is_tree" (defScope sistree) s.heap.objs.size f (.ref cG)))) : VSs (cxOf CX0 P w K mg base nistree "is_tree" (defScope sistree) f (.ref cG) A outer s H E).nox (defBody sistree) (t_istree p_hasformv4) := by
  have hu := u190 hr
  have h : VSs (cxOf CX0 P w K mg base nistree "is_tree" (defScope sistree) f (.ref cG) A outer s H E).nox (defBody sistree) (vSeq (vSet 1 (vN opLstO (vCons (vN opTup (vCons (vVar 0) (vCons (vN opLst vNil) (vCons (vC (.int 1)) vNil)))) vNil))) (vSeq (vWhileW (vTruth (vVar 1))
      (vSeq (vAsg (vM0 "list" xPop (vVar 1)) (vgTup 3 (vgCons (vgName 2) (vgCons (vgName 3) (vgCons (vgName 4) vgNil))))) (vSeq (vIfS (vOrT (vTest (v2 opGt (vVar 4) (vC (.int 40)))) (vNotT (vTruth (vN (opCallK ownD p_hasformv4) (vCons (vVar 2) vNil))))) ((vRet (vC (.bool false)))) vNext) (vSeq (vAsg (vVar 2) (vgTup 2 (vgCons (vgName 7) (vgCons (vgName 5) vgNil)))) (vSeq (vIfS (vNotT (vTest (vAG true (vSeqI (vVar 3)) [none, some 7] [0] (vgName 0) (v2 (xIn false) (vVar 0) (vVar 1))))) ((vRet (vC (.bool false)))) vNext) ((vForW (vSeqI (vVar 5)) (vgName 6)
        ((vDrop (vM "list" opAppend (vVar 1) (vCons (vN opTup (vCons (vVar 6) (vCons (vVar 7) (vCons (v2 opAdd (vVar 4) (vC (.int 1))) vNil)))) vNil))))))))))) ((vRet (vC (.bool true)))))) := (vss_cons (vs_set (i := 1) scistree.nd rfl (Or.inl rfl) (ve_lstO (va_cons (ve_tup (va_cons (vp 0) (va_cons (ve_lst va_nil) (va_cons ve_int va_nil)))) va_nil)))
    (vss_cons (vs_whileW PassesOwn.never (vt_truth (vp 1))
      (vss_cons (vs_asg (ve_xpop (vp 1)) (vg_tup rfl (vgs_cons (vg_name (i := 2) scistree.nd rfl (Or.inl rfl)) (vgs_cons (vg_name (i := 3) scistree.nd rfl (Or.inl rfl)) (vgs_cons (vg_name (i := 4) scistree.nd rfl (Or.inl rfl)) vgs_nil)))))
      (vss_cons (vs_if (VW.vt (vw_or (vt_gt (vp 4) (ve_const c_DEEPEST rfl)) (vw_or1 (vt_not (vt_truth (ve_call finW_D G_hasformv4 hr h_hasformv4 rfl (va_cons (vp 2) va_nil))))))) (vss_one (vs_ret ve_bl)) vss_nil)
      (vss_cons (vs_asg (vp 2) (vg_tup rfl (vgs_cons (vg_name (i := 7) scistree.nd rfl (Or.inr rfl)) (vgs_cons (vg_name (i := 5) scistree.nd rfl (Or.inl rfl)) vgs_nil))))
      (vss_cons (vs_if (vt_not (vt_val (ve_allG (N := ["mark", "marks"]) (caps := [none, some 7]) (vs := [0]) hr h_1 rfl B.all TB tk rfl (gsc_by (sn := (defScope sistree).names) rfl rfl rfl rfl (by decide +kernel)) (caps_by (XN := nistree) rfl (by decide +kernel)) (vi_list (vp 3)) (fun _ _ _ _ _ _ hr => have hu := u190 hr; (vg_name (i := 0) (GNd.mk (N := ["mark", "marks"]) (by decide)).nd rfl (Or.inl rfl))) (fun _ _ _ _ _ _ hr => have hu := u190 hr; (ve_xin hu (vp 0) (vp 1)))))) (vss_one (vs_ret ve_bl)) vss_nil)
      (vss_one (vs_forW (vi_list (vp 5)) (vg_name (i := 6) scistree.nd rfl (Or.inl rfl))
        (vss_one (vs_expr (ve_append (vp 1) (va_cons (ve_tup (va_cons (vp 6) (va_cons (vp 7) (va_cons (ve_add (vp 4) ve_int) va_nil)))) va_nil)))) (fun a b c => ps_for PassesOwn.never rfl a b c))))))))
    (vss_one (vs_ret ve_bl))))
  exact h
theorem ok_istree {P : Program} {w : World} {K : PySem.W.Frag} {mg : Str → Option Value} {base : Heap} {k : Nat} {p : VSp} {cG PG : Addr} (Fd : DfC K mg base "is_tree" sistree ["thing"] cG PG) {k_hasformv4 : Nat} {p_hasformv4 : VSp} (G_hasformv4 : VFn P w K mg base k_hasformv4 "has_form" ["thing"] p_hasformv4) (h_hasformv4 : k_hasformv4 ≤ k) (h_1 : 1 ≤ k) (c_DEEPEST : VConst K mg "DEEPEST" (.int 40)) (B : Blt mg)
    (len : ∀ ss st Kp, p ss st Kp → ss.length = 1) (rd : ∀ ss cs Kp, p ss cs Kp → t_istree p_hasformv4 (dV cs.length Kp) ⟨startV 8 ss, cs.map some⟩) : VFn P w K mg base (k + 1) "is_tree" ["thing"] p :=
  okFC Fd scistree len (fun hr => bd_istree G_hasformv4 h_hasformv4 h_1 c_DEEPEST B Fd.TB Fd.tk hr) rd
abbrev slaidout : Stmt := top 9
abbrev nlaidout : List Str := ["tree", "worlds", "todo", "world", "below", "inner"]
theorem sclaidout : FnScope nlaidout ["tree"] (defScope slaidout) := ⟨rfl, rfl, rfl, by decide +kernel, rfl, by decide +kernel, by decide +kernel⟩
theorem bd_laidout {P : Program} {w : World} {K : PySem.W.Frag} {mg : Str → Option Value} {base : Heap} {k : Nat} (B : Blt mg) {f : Addr} {cdv : Value} {A : Around} {outer : List Env} {s : Shared} {H : Hp} {E : XK}
    (hr : Room k (A.deeper (envOfC "laid_out" (defScope slaidout) s.heap.objs.size f cdv))) : VSs (cxOf CX0 P w K mg base nlaidout "laid_out" (defScope slaidout) f cdv A outer s H E).nox (defBody slaidout) (t_laidout) := by
  have h : VSs (cxOf CX0 P w K mg base nlaidout "laid_out" (defScope slaidout) f cdv A outer s H E).nox (defBody slaidout) (vSeq (vSet 1 (vN opLstO vNil)) (vSeq (vSet 2 (vN opLstO (vCons (vN opTup (vCons (vVar 0) (vCons (v1 opNeg (vC (.int 1))) vNil))) vNil))) (vSeq (vWhileW (vTruth (vVar 2))
      (vSeq (vAsg (vM0 "list" xPop (vVar 2)) (vgTup 2 (vgCons (vgName 3) (vgCons (vgName 4) vgNil)))) (vSeq (vForW (vSeqI (v2 xIx (vVar 3) (vC (.int 1)))) (vgName 5)
        ((vDrop (vM "list" opAppend (vVar 2) (vCons (vN opTup (vCons (vVar 5) (vCons (vN opLen (vCons (vVar 1) vNil)) vNil))) vNil))))) ((vDrop (vM "list" opAppend (vVar 1) (vCons (vN opTup (vCons (v2 xIx (vVar 3) (vC (.int 0))) (vCons (vVar 4) vNil))) vNil))))))) ((vRet (vVar 1)))))) := (vss_cons (vs_set (i := 1) sclaidout.nd rfl (Or.inl rfl) (ve_lstO va_nil))
    (vss_cons (vs_set (i := 2) sclaidout.nd rfl (Or.inl rfl) (ve_lstO (va_cons (ve_tup (va_cons (vp 0) (va_cons (ve_neg ve_int) va_nil))) va_nil)))
    (vss_cons (vs_whileW PassesOwn.never (vt_truth (vp 2))
      (vss_cons (vs_asg (ve_xpop (vp 2)) (vg_tup rfl (vgs_cons (vg_name (i := 3) sclaidout.nd rfl (Or.inl rfl)) (vgs_cons (vg_name (i := 4) sclaidout.nd rfl (Or.inl rfl)) vgs_nil))))
      (vss_cons (vs_forW (vi_list (ve_xix (vp 3) ve_int)) (vg_name (i := 5) sclaidout.nd rfl (Or.inl rfl))
        (vss_one (vs_expr (ve_append (vp 2) (va_cons (ve_tup (va_cons (vp 5) (va_cons (ve_len rfl B.len (va_cons (vp 1) va_nil)) va_nil))) va_nil)))) (fun a b c => ps_for PassesOwn.never rfl a b c))
      (vss_one (vs_expr (ve_append (vp 1) (va_cons (ve_tup (va_cons (ve_xix (vp 3) ve_int) (va_cons (vp 4) va_nil))) va_nil)))))))
    (vss_one (vs_ret (vp 1))))))
  exact h
theorem ok_laidout {P : Program} {w : World} {K : PySem.W.Frag} {mg : Str → Option Value} {base : Heap} {k : Nat} {p : VSp} (Fd : Df K mg "laid_out" slaidout ["tree"]) (B : Blt mg)
    (len : ∀ ss st Kp, p ss st Kp → ss.length = 1) (rd : ∀ ss cs Kp, p ss cs Kp → t_laidout (dV cs.length Kp) ⟨startV 6 ss, cs.map some⟩) : VFn P w K mg base (k + 1) "laid_out" ["tree"] p :=
  okF Fd sclaidout len (fun hr => bd_laidout B hr) rd
abbrev sworldsof : Stmt := top 8
abbrev nworldsof : List Str := ["tree"]
theorem scworldsof : FnScope nworldsof ["tree"] (defScope sworldsof) := ⟨rfl, rfl, rfl, by decide +kernel, rfl, by decide +kernel, by decide +kernel⟩
theorem bd_worldsof {P : Program} {w : World} {K : PySem.W.Frag} {mg : Str → Option Value} {base : Heap} {k : Nat} {k_laidout : Nat} {p_laidout : VSp} (G_laidout : VFn P w K mg base k_laidout "laid_out" ["tree"] p_laidout) (h_laidout : k_laidout ≤ k) (B : Blt mg) {f : Addr} {cdv : Value} {A : Around} {outer : List Env} {s : Shared} {H : Hp} {E : XK}
    (hr : Room k (A.deeper (envOfC "worlds_of" (defScope sworldsof) s.heap.objs.size f cdv))) : VSs (cxOf CX0 P w K mg base nworldsof "worlds_of" (defScope sworldsof) f cdv A outer s H E).nox (defBody sworldsof) (t_worldsof p_laidout) := by
  have h : VSs (cxOf CX0 P w K mg base nworldsof "worlds_of" (defScope sworldsof) f cdv A outer s H E).nox (defBody sworldsof) ((vRet (vN opLen (vCons (vN (opCallK ownD p_laidout) (vCons (vVar 0) vNil)) vNil)))) := (vss_one (vs_ret (ve_len rfl B.len (va_cons (ve_call finW_D G_laidout hr h_laidout rfl (va_cons (vp 0) va_nil)) va_nil))))
  exact h
theorem ok_worldsof {P : Program} {w : World} {K : PySem.W.Frag} {mg : Str → Option Value} {base : Heap} {k : Nat} {p : VSp} (Fd : Df K mg "worlds_of" sworldsof ["tree"]) {k_laidout : Nat} {p_laidout : VSp} (G_laidout : VFn P w K mg base k_laidout "laid_out" ["tree"] p_laidout) (h_laidout : k_laidout ≤ k) (B : Blt mg)
    (len : ∀ ss st Kp, p ss st Kp → ss.length = 1) (rd : ∀ ss cs Kp, p ss cs Kp → t_worldsof p_laidout (dV cs.length Kp) ⟨startV 1 ss, cs.map some⟩) : VFn P w K mg base (k + 1) "worlds_of" ["tree"] p :=
  okF Fd scworldsof len (fun hr => bd_worldsof G_laidout h_laidout B hr) rd
abbrev sLpool : Stmt := top 11
abbrev nLpool : List Str := ["_law_script", "_law_k", "_law_cell", "_law_number"]
theorem scLpool : FnScope nLpool ["_law_script", "_law_k"] (defScope sLpool) := ⟨rfl, rfl, rfl, by decide +kernel, rfl, by decide +kernel, by decide +kernel⟩
theorem bd_Lpool {P : Program} {w : World} {K : PySem.W.Frag} {mg : Str → Option Value} {base : Heap} {k : Nat} (B : Blt mg) {f : Addr} {cdv : Value} {A : Around} {outer : List Env} {s : Shared} {H : Hp} {E : XK}
    (hr : Room k (A.deeper (envOfC "_law_pool" (defScope sLpool) s.heap.objs.size f cdv))) : VSs (cxOf CX0 P w K mg base nLpool "_law_pool" (defScope sLpool) f cdv A outer s H E).nox (defBody sLpool) (t_Lpool) := by
  have h : VSs (cxOf CX0 P w K mg base nLpool "_law_pool" (defScope sLpool) f cdv A outer s H E).nox (defBody sLpool) (vSeq (vSet 2 (vC (.int 0))) (vSeq (vIfS (vTest (v2 opLt (vVar 1) (vN opLen (vCons (vVar 0) vNil)))) ((vSet 2 (v2 xIx (vVar 0) (vVar 1)))) vNext) (vSeq (vSet 3 (v2 opMod (v2 opPow (v2 opAdd (v2 opAdd (v2 opMod (vVar 2) (vC (.int 2147483629))) (v2 opMul2 (v2 opMul2 (vC (.int 104729)) (vVar 1)) (vVar 1))) (vC (.int 11))) (vC (.int 3))) (vC (.int 2147483647)))) (vSeq (vIfS (vTest (v2 opLt (vVar 2) (v2 opPow (vC (.int 10)) (vC (.int 18))))) ((vSet 2 (vC (.int 0)))) vNext) ((vRet (vN opLstO (vCons (vVar 2) (vCons (vVar 3) vNil))))))))) := (vss_cons (vs_set (i := 2) scLpool.nd rfl (Or.inl rfl) ve_int)
    (vss_cons (vs_if (vt_lt (vp 1) (ve_len rfl B.len (va_cons (vp 0) va_nil))) (vss_one (vs_set (i := 2) scLpool.nd rfl (Or.inl rfl) (ve_xix (vp 0) (vp 1)))) vss_nil)
    (vss_cons (vs_set (i := 3) scLpool.nd rfl (Or.inl rfl) (ve_mod (ve_pow (ve_add (ve_add (ve_mod (vp 2) ve_int) (ve_mul2 (ve_mul2 ve_int (vp 1)) (vp 1))) ve_int) ve_int) ve_int))
    (vss_cons (vs_if (vt_lt (vp 2) (ve_pow ve_int ve_int)) (vss_one (vs_set (i := 2) scLpool.nd rfl (Or.inl rfl) ve_int)) vss_nil)
    (vss_one (vs_ret (ve_lstO (va_cons (vp 2) (va_cons (vp 3) va_nil)))))))))
  exact h
theorem ok_Lpool {P : Program} {w : World} {K : PySem.W.Frag} {mg : Str → Option Value} {base : Heap} {k : Nat} {p : VSp} (Fd : Df K mg "_law_pool" sLpool ["_law_script", "_law_k"]) (B : Blt mg)
    (len : ∀ ss st Kp, p ss st Kp → ss.length = 2) (rd : ∀ ss cs Kp, p ss cs Kp → t_Lpool (dV cs.length Kp) ⟨startV 4 ss, cs.map some⟩) : VFn P w K mg base (k + 1) "_law_pool" ["_law_script", "_law_k"] p :=
  okF Fd scLpool len (fun hr => bd_Lpool B hr) rd
abbrev sLtake : Stmt := top 12
abbrev nLtake : List Str := ["_law_pool_here", "_law_many", "_law_found"]
theorem scLtake : FnScope nLtake ["_law_pool_here", "_law_many"] (defScope sLtake) := ⟨rfl, rfl, rfl, by decide +kernel, rfl, by decide +kernel, by decide +kernel⟩
theorem bd_Ltake {P : Program} {w : World} {K : PySem.W.Frag} {mg : Str → Option Value} {base : Heap} {k : Nat} {f : Addr} {cdv : Value} {A : Around} {outer : List Env} {s : Shared} {H : Hp} {E : XK}
    (hr : Room k (A.deeper (envOfC "_law_take" (defScope sLtake) s.heap.objs.size f cdv))) : VSs (cxOf CX0 P w K mg base nLtake "_law_take" (defScope sLtake) f cdv A outer s H E).nox (defBody sLtake) (t_Ltake) := by
  have h : VSs (cxOf CX0 P w K mg base nLtake "_law_take" (defScope sLtake) f cdv A outer s H E).nox (defBody sLtake) (vSeq (vIfS (vTest (v2 opGt (v2 xIx (vVar 0) (vC (.int 0))) (vC (.int 0)))) (vSeq (vSet 2 (v2 opMod (v2 xIx (vVar 0) (vC (.int 0))) (vVar 1))) (vSeq (vAsg (v2 opDiv (v2 xIx (vVar 0) (vC (.int 0))) (vVar 1)) (xgSub (vVar 0) (vC (.int 0)))) ((vRet (vVar 2))))) vNext) (vSeq (vAsg (v2 opMod (v2 opAdd (v2 opMul2 (v2 xIx (vVar 0) (vC (.int 1))) (vC (.int 48271))) (vC (.int 11))) (vC (.int 2147483647))) (xgSub (vVar 0) (vC (.int 1)))) ((vRet (v2 opMod (v2 opDiv (v2 opMod (v2 opMul2 (v2 xIx (vVar 0) (vC (.int 1))) (v2 xIx (vVar 0) (vC (.int 1)))) (vC (.int 2147483629))) (vC (.int 64))) (vVar 1)))))) := (vss_cons (vs_if (vt_gt (ve_xix (vp 0) ve_int) ve_int) (vss_cons (vs_set (i := 2) scLtake.nd rfl (Or.inl rfl) (ve_mod (ve_xix (vp 0) ve_int) (vp 1)))
      (vss_cons (vs_asg (ve_div (ve_xix (vp 0) ve_int) (vp 1)) (vg_xsub (mono_var 0) (mono_c _) (vp 0) ve_int (fun a b => pg_sub a b set_list)))
      (vss_one (vs_ret (vp 2))))) vss_nil)
    (vss_cons (vs_asg (ve_mod (ve_add (ve_mul2 (ve_xix (vp 0) ve_int) ve_int) ve_int) ve_int) (vg_xsub (mono_var 0) (mono_c _) (vp 0) ve_int (fun a b => pg_sub a b set_list)))
    (vss_one (vs_ret (ve_mod (ve_div (ve_mod (ve_mul2 (ve_xix (vp 0) ve_int) (ve_xix (vp 0) ve_int)) ve_int) ve_int) (vp 1))))))
  exact h
theorem ok_Ltake {P : Program} {w : World} {K : PySem.W.Frag} {mg : Str → Option Value} {base : Heap} {k : Nat} {p : VSp} (Fd : Df K mg "_law_take" sLtake ["_law_pool_here", "_law_many"])
    (len : ∀ ss st Kp, p ss st Kp → ss.length = 2) (rd : ∀ ss cs Kp, p ss cs Kp → t_Ltake (dV cs.length Kp) ⟨startV 3 ss, cs.map some⟩) : VFn P w K mg base (k + 1) "_law_take" ["_law_pool_here", "_law_many"] p :=
  okF Fd scLtake len (fun hr => bd_Ltake hr) rd
abbrev sLmarks : Stmt := top 13
abbrev nLmarks : List Str := ["_law_pool_here", "_law_size", "_law_at", "_law_signs", "_law_found", "_law_k", "_law_places", "_law_j", "_law_place"]
theorem scLmarks : FnScope nLmarks ["_law_pool_here"] (defScope sLmarks) := ⟨rfl, rfl, rfl, by decide +kernel, rfl, by decide +kernel, by decide +kernel⟩
theorem bd_Lmarks {P : Program} {w : World} {K : PySem.W.Frag} {mg : Str → Option Value} {base : Heap} {k : Nat} {k_Ltake : Nat} {p_Ltake : VSp} (G_Ltake : VFn P w K mg base k_Ltake "_law_take" ["_law_pool_here", "_law_many"] p_Ltake) (h_Ltake : k_Ltake ≤ k) (B : Blt mg) {f : Addr} {cdv : Value} {A : Around} {outer : List Env} {s : Shared} {H : Hp} {E : XK}
    (hr : Room k (A.deeper (envOfC "_law_marks" (defScope sLmarks) s.heap.objs.size f cdv))) : VSs (cxOf CX0 P w K mg base nLmarks "_law_marks" (defScope sLmarks) f cdv A outer s H E).nox (defBody sLmarks) (t_Lmarks p_Ltake) := by
  have hu := u190 hr
  have h : VSs (cxOf CX0 P w K mg base nLmarks "_law_marks" (defScope sLmarks) f cdv A outer s H E).nox (defBody sLmarks) (vSeq (vSet 1 (v2 opAdd (vC (.int 1)) (vN (opCallK ownD p_Ltake) (vCons (vVar 0) (vCons (vC (.int 6)) vNil))))) (vSeq (vSet 2 (vN (opCallK ownD p_Ltake) (vCons (vVar 0) (vCons (vVar 1) vNil)))) (vSeq (vSet 3 (vLcK (vRng1 (vCons (vVar 1) vNil)) (vgName 7) vYes (vN (opCallK ownD p_Ltake) (vCons (vVar 0) (vCons (vC (.int 26)) vNil))) [7] finD)) (vSeq (vSet 4 (vN opLstO vNil)) (vSeq (vForW (vRng1 (vCons (v2 opAdd (vC (.int 1)) (vN (opCallK ownD p_Ltake) (vCons (vVar 0) (vCons (vC (.int 4)) vNil)))) vNil)) (vgName 5)
      (vSeq (vSet 6 (vLcK (vRng1 (vCons (vVar 1) vNil)) (vgName 7) vYes (v2 opMod (v2 opAdd (v2 xIx (vVar 3) (vVar 7)) (v2 opMul2 (v2 opMul2 (vC (.int 5)) (vVar 5)) (vN opInt (vCons (v2 (xEq false) (vVar 7) (vVar 2)) vNil)))) (vC (.int 26))) [7] finD)) ((vDrop (vM "list" opAppend (vVar 4) (vCons (vM "str" opJoin (vC (.str "")) (vCons (vLcK (vSeqI (vVar 6)) (vgName 8) vYes (v2 xIx (vC (.str "abcdefghijklmnopqrstuvwxyz")) (vVar 8)) [8] finD) vNil)) vNil)))))) ((vRet (vVar 4)))))))) := (vss_cons (vs_set (i := 1) scLmarks.nd rfl (Or.inl rfl) (ve_add ve_int (ve_call finW_D G_Ltake hr h_Ltake rfl (va_cons (vp 0) (va_cons ve_int va_nil)))))
    (vss_cons (vs_set (i := 2) scLmarks.nd rfl (Or.inr rfl) (ve_call finW_D G_Ltake hr h_Ltake rfl (va_cons (vp 0) (va_cons (vp 1) va_nil))))
    (vss_cons (vs_set (i := 3) scLmarks.nd rfl (Or.inr rfl) (ve_lcK (own := [("_law_j", 7)]) finD_ok rfl scLmarks.nd (vi_range1 rfl B.range (va_cons (vp 1) va_nil)) (blkOk_by (N := nLmarks) (sc := defScope sLmarks) (own := [("_law_j", 7)]) (by decide +kernel)) (by decide) (fun _ _ _ _ _ => (vg_name (i := 7) scLmarks.nd rfl (Or.inl rfl))) (fun _ _ _ _ _ => vts_nil) (fun _ _ _ _ _ => (ve_call finW_D G_Ltake hr h_Ltake rfl (va_cons (vp 0) (va_cons ve_int va_nil))))))
    (vss_cons (vs_set (i := 4) scLmarks.nd rfl (Or.inl rfl) (ve_lstO va_nil))
    (vss_cons (vs_forW (vi_range1 rfl B.range (va_cons (ve_add ve_int (ve_call finW_D G_Ltake hr h_Ltake rfl (va_cons (vp 0) (va_cons ve_int va_nil)))) va_nil)) (vg_name (i := 5) scLmarks.nd rfl (Or.inr rfl))
      (vss_cons (vs_setLcK (i := 6) (own := [("_law_j", 7)]) finD_ok rfl scLmarks.nd rfl rfl (sw_true rfl rfl rfl (by decide +kernel)) (vi_range1 rfl B.range (va_cons (vp 1) va_nil)) (blkOk_by (N := nLmarks) (sc := defScope sLmarks) (own := [("_law_j", 7)]) (by decide +kernel)) (by decide) (fun _ _ _ _ _ => (vg_name (i := 7) scLmarks.nd rfl (Or.inl rfl))) (fun _ _ _ _ _ => vts_nil) (fun _ _ _ _ _ => (ve_mod (ve_add (ve_xix (vp 3) (vp 7)) (ve_mul2 (ve_mul2 ve_int (vp 5)) (ve_intB rfl B.int (va_cons (ve_xeq hu (vp 7) (vp 2)) va_nil)))) ve_int)))
      (vss_one (vs_expr (ve_append (vp 4) (va_cons (ve_m p_join PySem.F.plainAttrs_str PySem.F.slot_str_join PySem.F.type_str_join mt_join ve_str (va_cons (ve_lcK (own := [("_law_place", 8)]) finD_ok rfl scLmarks.nd (vi_list (vp 6)) (blkOk_by (N := nLmarks) (sc := defScope sLmarks) (own := [("_law_place", 8)]) (by decide +kernel)) (by decide) (fun _ _ _ _ _ => (vg_name (i := 8) scLmarks.nd rfl (Or.inl rfl))) (fun _ _ _ _ _ => vts_nil) (fun _ _ _ _ _ => (ve_xix ve_str (vp 8)))) va_nil)) va_nil))))) (fun a b c => ps_for PassesOwn.never rfl a b c))
    (vss_one (vs_ret (vp 4))))))))
  exact h
theorem ok_Lmarks {P : Program} {w : World} {K : PySem.W.Frag} {mg : Str → Option Value} {base : Heap} {k : Nat} {p : VSp} (Fd : Df K mg "_law_marks" sLmarks ["_law_pool_here"]) {k_Ltake : Nat} {p_Ltake : VSp} (G_Ltake : VFn P w K mg base k_Ltake "_law_take" ["_law_pool_here", "_law_many"] p_Ltake) (h_Ltake : k_Ltake ≤ k) (B : Blt mg)
    (len : ∀ ss st Kp, p ss st Kp → ss.length = 1) (rd : ∀ ss cs Kp, p ss cs Kp → t_Lmarks p_Ltake (dV cs.length Kp) ⟨startV 9 ss, cs.map some⟩) : VFn P w K mg base (k + 1) "_law_marks" ["_law_pool_here"] p :=
  okF Fd scLmarks len (fun hr => bd_Lmarks G_Ltake h_Ltake B hr) rd
abbrev sLtree : Stmt := top 14
abbrev nLtree : List Str := ["_law_pool_here", "_law_marks_here", "_law_had", "_law_room", "_law_own", "_law_many", "_law_mark", "_law_k"]
theorem scLtree : FnScope nLtree ["_law_pool_here", "_law_marks_here", "_law_had", "_law_room"] (defScope sLtree) := ⟨rfl, rfl, rfl, by decide +kernel, rfl, by decide +kernel, by decide +kernel⟩
theorem bd_Ltree {P : Program} {w : World} {K : PySem.W.Frag} {mg : Str → Option Value} {base : Heap} {k : Nat} {k_Ltake : Nat} {p_Ltake : VSp} (G_Ltake : VFn P w K mg base k_Ltake "_law_take" ["_law_pool_here", "_law_many"] p_Ltake) (h_Ltake : k_Ltake ≤ k) {k_Ltree : Nat} {p_Ltree : VSp} (G_Ltree : VFn P w K mg base k_Ltree "_law_tree" ["_law_pool_here", "_law_marks_here", "_law_had", "_law_room"] p_Ltree) (h_Ltree : k_Ltree ≤ k) (B : Blt mg) {f : Addr} {cdv : Value} {A : Around} {outer : List Env} {s : Shared} {H : Hp} {E : XK}
    (hr : Room k (A.deeper (envOfC "_law_tree" (defScope sLtree) s.heap.objs.size f cdv))) : VSs (cxOf CX0 P w K mg base nLtree "_law_tree" (defScope sLtree) f cdv A outer s H E).nox (defBody sLtree) (t_Ltree p_Ltake p_Ltree) := by
  have hu := u190 hr
  have h : VSs (cxOf CX0 P w K mg base nLtree "_law_tree" (defScope sLtree) f cdv A outer s H E).nox (defBody sLtree) (vSeq (vSet 4 (vLcK (vSeqI (vN opSortS (vCons (vVar 1) vNil))) (vgName 6) (vOrT (vTest (v2 (xIn false) (vVar 6) (vVar 2))) (vTest (v2 (xEq false) (vN (opCallK ownD p_Ltake) (vCons (vVar 0) (vCons (vC (.int 3)) vNil))) (vC (.int 0))))) (vVar 6) [6] finD)) (vSeq (vSet 5 (v2 opMul2 (vN (opCallK ownD p_Ltake) (vCons (vVar 0) (vCons (vC (.int 3)) vNil))) (vN opInt (vCons (v2 opGt (vVar 3) (vC (.int 0))) vNil)))) ((vRet (vN opTup (vCons (vVar 4) (vCons (vLcK (vRng1 (vCons (vVar 5) vNil)) (vgName 7) vYes (vN (opCallK ownD p_Ltree) (vCons (vVar 0) (vCons (vVar 1) (vCons (vVar 4) (vCons (v2 opSub (vVar 3) (vC (.int 1))) vNil))))) [7] finD) vNil))))))) := (vss_cons (vs_set (i := 4) scLtree.nd rfl (Or.inr rfl) (ve_lcK (own := [("_law_mark", 6)]) finD_ok rfl scLtree.nd (vi_list (ve_sortS rfl B.sorted (va_cons (vp 1) va_nil))) (blkOk_by (N := nLtree) (sc := defScope sLtree) (own := [("_law_mark", 6)]) (by decide +kernel)) (by decide) (fun _ _ _ _ _ => (vg_name (i := 6) scLtree.nd rfl (Or.inl rfl))) (fun _ _ _ _ _ => (vts_one (VW.vt (vw_or (vt_xin hu (vp 6) (vp 2)) (vw_or1 (vt_xeq hu (ve_call finW_D G_Ltake hr h_Ltake rfl (va_cons (vp 0) (va_cons ve_int va_nil))) ve_int)))))) (fun _ _ _ _ _ => (vp 6))))
    (vss_cons (vs_set (i := 5) scLtree.nd rfl (Or.inl rfl) (ve_mul2 (ve_call finW_D G_Ltake hr h_Ltake rfl (va_cons (vp 0) (va_cons ve_int va_nil))) (ve_intB rfl B.int (va_cons (ve_gt (vp 3) ve_int) va_nil))))
    (vss_one (vs_ret (ve_tup (va_cons (vp 4) (va_cons (ve_lcK (own := [("_law_k", 7)]) finD_ok rfl scLtree.nd (vi_range1 rfl B.range (va_cons (vp 5) va_nil)) (blkOk_by (N := nLtree) (sc := defScope sLtree) (own := [("_law_k", 7)]) (by decide +kernel)) (by decide) (fun _ _ _ _ _ => (vg_name (i := 7) scLtree.nd rfl (Or.inl rfl))) (fun _ _ _ _ _ => vts_nil) (fun _ _ _ _ _ => (ve_call finW_D G_Ltree hr h_Ltree rfl (va_cons (vp 0) (va_cons (vp 1) (va_cons (vp 4) (va_cons (ve_sub (vp 3) ve_int) va_nil))))))) va_nil)))))))
  exact h
theorem ok_Ltree {P : Program} {w : World} {K : PySem.W.Frag} {mg : Str → Option Value} {base : Heap} {k : Nat} {p : VSp} (Fd : Df K mg "_law_tree" sLtree ["_law_pool_here", "_law_marks_here", "_law_had", "_law_room"]) {k_Ltake : Nat} {p_Ltake : VSp} (G_Ltake : VFn P w K mg base k_Ltake "_law_take" ["_law_pool_here", "_law_many"] p_Ltake) (h_Ltake : k_Ltake ≤ k) {k_Ltree : Nat} {p_Ltree : VSp} (G_Ltree : VFn P w K mg base k_Ltree "_law_tree" ["_law_pool_here", "_law_marks_here", "_law_had", "_law_room"] p_Ltree) (h_Ltree : k_Ltree ≤ k) (B : Blt mg)
    (len : ∀ ss st Kp, p ss st Kp → ss.length = 4) (rd : ∀ ss cs Kp, p ss cs Kp → t_Ltree p_Ltake p_Ltree (dV cs.length Kp) ⟨startV 8 ss, cs.map some⟩) : VFn P w K mg base (k + 1) "_law_tree" ["_law_pool_here", "_law_marks_here", "_law_had", "_law_room"] p :=
  okF Fd scLtree len (fun hr => bd_Ltree G_Ltake h_Ltake G_Ltree h_Ltree B hr) rd
abbrev sLaremarks : Stmt := top 16
abbrev nLaremarks : List Str := ["_law_thing", "_law_mark", "_law_sign"]
theorem scLaremarks : FnScope nLaremarks ["_law_thing"] (defScope sLaremarks) := ⟨rfl, rfl, rfl, by decide +kernel, rfl, by decide +kernel, by decide +kernel⟩
theorem bd_Laremarks {P : Program} {w : World} {K : PySem.W.Frag} {mg : Str → Option Value} {base : Heap} {k : Nat} (B : Blt mg) {f : Addr} {cdv : Value} {A : Around} {outer : List Env} {s : Shared} {H : Hp} {E : XK}
    (hr : Room k (A.deeper (envOfC "_law_are_marks" (defScope sLaremarks) s.heap.objs.size f cdv))) : VSs (cxOf CX0 P w K mg base nLaremarks "_law_are_marks" (defScope sLaremarks) f cdv A outer s H E).nox (defBody sLaremarks) (t_Laremarks) := by
  have hu := u190 hr
  have h : VSs (cxOf CX0 P w K mg base nLaremarks "_law_are_marks" (defScope sLaremarks) f cdv A outer s H E).nox (defBody sLaremarks) (vSeq (vIfS (vNotT (vTest (vIsi "list" (vVar 0)))) ((vRet (vC (.bool false)))) vNext) (vSeq (vForW (vSeqI (vVar 0)) (vgName 1)
      (vSeq (vIfS (vOrT (vNotT (vTest (vIsi "str" (vVar 1)))) (vNotT (vTest (vChain opLe opLe (vC (.int 1)) (vN opLen (vCons (vVar 1) vNil)) (vC (.int 6)))))) ((vRet (vC (.bool false)))) vNext) ((vIfS (vTest (v2 (xEq true) (vLcK (vStrI (vVar 1)) (vgName 2) (vTest (v2 (opInS true) (vVar 2) (vC (.str "abcdefghijklmnopqrstuvwxyz")))) (vVar 2) [2] finD) (vN opLst vNil))) ((vRet (vC (.bool false)))) vNext)))) ((vRet (v2 (xEq false) (vVar 0) (v1 opSSet (vVar 0))))))) := (vss_cons (vs_if (vt_not (vt_val (ve_isi (T := "list") (by decide) rfl B.isinstance rfl B.list (by decide +kernel) (vp 0)))) (vss_one (vs_ret ve_bl)) vss_nil)
    (vss_cons (vs_forW (vi_list (vp 0)) (vg_name (i := 1) scLaremarks.nd rfl (Or.inl rfl))
      (vss_cons (vs_if (VW.vt (vw_or (vt_not (vt_val (ve_isi (T := "str") (by decide) rfl B.isinstance rfl B.str (by decide +kernel) (vp 1)))) (vw_or1 (vt_not (vt_chain (p_i0 (g := gLe) fun _ _ _ => .bl _) (p_i0 (g := gLe) fun _ _ _ => .bl _) op_le op_le ve_int (ve_len rfl B.len (va_cons (vp 1) va_nil)) ve_int))))) (vss_one (vs_ret ve_bl)) vss_nil)
      (vss_one (vs_if (vt_xne hu (ve_lcK (own := [("_law_sign", 2)]) finD_ok rfl scLaremarks.nd (vi_str (vp 1)) (blkOk_by (N := nLaremarks) (sc := defScope sLaremarks) (own := [("_law_sign", 2)]) (by decide +kernel)) (by decide) (fun _ _ _ _ _ => (vg_name (i := 2) scLaremarks.nd rfl (Or.inl rfl))) (fun _ _ _ _ _ => (vts_one (vt_notInS (vp 2) ve_str))) (fun _ _ _ _ _ => (vp 2))) (ve_lst va_nil)) (vss_one (vs_ret ve_bl)) vss_nil))) (fun a b c => ps_for PassesOwn.never rfl a b c))
    (vss_one (vs_ret (ve_xeq hu (vp 0) (ve_sset rfl hu rfl B.sorted rfl B.set (vp 0)))))))
  exact h
theorem ok_Laremarks {P : Program} {w : World} {K : PySem.W.Frag} {mg : Str → Option Value} {base : Heap} {k : Nat} {p : VSp} (Fd : Df K mg "_law_are_marks" sLaremarks ["_law_thing"]) (B : Blt mg)
    (len : ∀ ss st Kp, p ss st Kp → ss.length = 1) (rd : ∀ ss cs Kp, p ss cs Kp → t_Laremarks (dV cs.length Kp) ⟨startV 3 ss, cs.map some⟩) : VFn P w K mg base (k + 1) "_law_are_marks" ["_law_thing"] p :=
  okF Fd scLaremarks len (fun hr => bd_Laremarks B hr) rd
abbrev sListree : Stmt := top 17
abbrev nListree : List Str := ["_law_thing", "_law_room", "_law_one", "_law_mark"]
theorem scListree : FnScope nListree ["_law_thing", "_law_room"] (defScope sListree) := ⟨rfl, rfl, rfl, by decide +kernel, rfl, by decide +kernel, by decide +kernel⟩
theorem bd_Listree {P : Program} {w : World} {K : PySem.W.Frag} {mg : Str → Option Value} {base : Heap} {k : Nat} {k_Laremarks : Nat} {p_Laremarks : VSp} (G_Laremarks : VFn P w K mg base k_Laremarks "_law_are_marks" ["_law_thing"] p_Laremarks) (h_Laremarks : k_Laremarks ≤ k) {k_Listree : Nat} {p_Listree : VSp} (G_Listree : VFn P w K mg base k_Listree "_law_is_tree" ["_law_thing", "_law_room"] p_Listree) (h_Listree : k_Listree ≤ k) (B : Blt mg) {f : Addr} {cdv : Value} {A : Around} {outer : List Env} {s : Shared} {H : Hp} {E : XK}
    (hr : Room k (A.deeper (envOfC "_law_is_tree" (defScope sListree) s.heap.objs.size f cdv))) : VSs (cxOf CX0 P w K mg base nListree "_law_is_tree" (defScope sListree) f cdv A outer s H E).nox (defBody sListree) (t_Listree p_Laremarks p_Listree) := by
  have hu := u190 hr
  have h : VSs (cxOf CX0 P w K mg base nListree "_law_is_tree" (defScope sListree) f cdv A outer s H E).nox (defBody sListree) (vSeq (vIfS (vOrT (vTest (v2 (xEq false) (vVar 1) (vC (.int 0)))) (vOrT (vNotT (vTest (vIsi "tuple" (vVar 0)))) (vOrT (vTest (v2 (xEq true) (vN opLen (vCons (vVar 0) vNil)) (vC (.int 2)))) (vNotT (vTruth (vN (opCallK ownD p_Laremarks) (vCons (v2 xIx (vVar 0) (vC (.int 0))) vNil))))))) ((vRet (vC (.bool false)))) vNext) (vSeq (vIfS (vNotT (vTest (vIsi "list" (v2 xIx (vVar 0) (vC (.int 1)))))) ((vRet (vC (.bool false)))) vNext) (vSeq (vForW (vSeqI (v2 xIx (vVar 0) (vC (.int 1)))) (vgName 2)
      ((vIfS (vOrT (vNotT (vTruth (vN (opCallK ownD p_Listree) (vCons (vVar 2) (vCons (v2 opSub (vVar 1) (vC (.int 1))) vNil))))) (vTest (v2 (xEq true) (vLcK (vSeqI (v2 xIx (vVar 0) (vC (.int 0)))) (vgName 3) (vTest (v2 (xIn true) (vVar 3) (v2 xIx (vVar 2) (vC (.int 0))))) (vVar 3) [3] finD) (vN opLst vNil)))) ((vRet (vC (.bool false)))) vNext))) ((vRet (vC (.bool true))))))) := (vss_cons (vs_if (VW.vt (vw_or (vt_xeq hu (vp 1) ve_int) (vw_or (vt_not (vt_val (ve_isi (T := "tuple") (by decide) rfl B.isinstance rfl B.tuple (by decide +kernel) (vp 0)))) (vw_or (vt_xne hu (ve_len rfl B.len (va_cons (vp 0) va_nil)) ve_int) (vw_or1 (vt_not (vt_truth (ve_call finW_D G_Laremarks hr h_Laremarks rfl (va_cons (ve_xix (vp 0) ve_int) va_nil))))))))) (vss_one (vs_ret ve_bl)) vss_nil)
    (vss_cons (vs_if (vt_not (vt_val (ve_isi (T := "list") (by decide) rfl B.isinstance rfl B.list (by decide +kernel) (ve_xix (vp 0) ve_int)))) (vss_one (vs_ret ve_bl)) vss_nil)
    (vss_cons (vs_forW (vi_list (ve_xix (vp 0) ve_int)) (vg_name (i := 2) scListree.nd rfl (Or.inr rfl))
      (vss_one (vs_if (VW.vt (vw_or (vt_not (vt_truth (ve_call finW_D G_Listree hr h_Listree rfl (va_cons (vp 2) (va_cons (ve_sub (vp 1) ve_int) va_nil))))) (vw_or1 (vt_xne hu (ve_lcK (own := [("_law_mark", 3)]) finD_ok rfl scListree.nd (vi_list (ve_xix (vp 0) ve_int)) (blkOk_by (N := nListree) (sc := defScope sListree) (own := [("_law_mark", 3)]) (by decide +kernel)) (by decide) (fun _ _ _ _ _ => (vg_name (i := 3) scListree.nd rfl (Or.inl rfl))) (fun _ _ _ _ _ => (vts_one (vt_xnotIn hu (vp 3) (ve_xix (vp 2) ve_int)))) (fun _ _ _ _ _ => (vp 3))) (ve_lst va_nil))))) (vss_one (vs_ret ve_bl)) vss_nil)) (fun a b c => ps_for PassesOwn.never rfl a b c))
    (vss_one (vs_ret ve_bl)))))
  exact h
theorem ok_Listree {P : Program} {w : World} {K : PySem.W.Frag} {mg : Str → Option Value} {base : Heap} {k : Nat} {p : VSp} (Fd : Df K mg "_law_is_tree" sListree ["_law_thing", "_law_room"]) {k_Laremarks : Nat} {p_Laremarks : VSp} (G_Laremarks : VFn P w K mg base k_Laremarks "_law_are_marks" ["_law_thing"] p_Laremarks) (h_Laremarks : k_Laremarks ≤ k) {k_Listree : Nat} {p_Listree : VSp} (G_Listree : VFn P w K mg base k_Listree "_law_is_tree" ["_law_thing", "_law_room"] p_Listree) (h_Listree : k_Listree ≤ k) (B : Blt mg)
    (len : ∀ ss st Kp, p ss st Kp → ss.length = 2) (rd : ∀ ss cs Kp, p ss cs Kp → t_Listree p_Laremarks p_Listree (dV cs.length Kp) ⟨startV 4 ss, cs.map some⟩) : VFn P w K mg base (k + 1) "_law_is_tree" ["_law_thing", "_law_room"] p :=
  okF Fd scListree len (fun hr => bd_Listree G_Laremarks h_Laremarks G_Listree h_Listree B hr) rd
abbrev sLallv4 : Stmt := top 15
abbrev nLallv4 : List Str := ["_law_tree_here", "_law_found", "_law_one"]
theorem scLallv4 : FnScope nLallv4 ["_law_tree_here"] (defScope sLallv4) := ⟨rfl, rfl, rfl, by decide +kernel, rfl, by decide +kernel, by decide +kernel⟩
theorem bd_Lallv4 {P : Program} {w : World} {K : PySem.W.Frag} {mg : Str → Option Value} {base : Heap} {k : Nat} {k_Lallv4 : Nat} {p_Lallv4 : VSp} (G_Lallv4 : VFn P w K mg base k_Lallv4 "_law_all" ["_law_tree_here"] p_Lallv4) (h_Lallv4 : k_Lallv4 ≤ k) {f : Addr} {cdv : Value} {A : Around} {outer : List Env} {s : Shared} {H : Hp} {E : XK}
    (hr : Room k (A.deeper (envOfC "_law_all" (defScope sLallv4) s.heap.objs.size f cdv))) : VSs (cxOf CX0 P w K mg base nLallv4 "_law_all" (defScope sLallv4) f cdv A outer s H E).nox (defBody sLallv4) (t_Lallv4 p_Lallv4) := by
  have h : VSs (cxOf CX0 P w K mg base nLallv4 "_law_all" (defScope sLallv4) f cdv A outer s H E).nox (defBody sLallv4) (vSeq (vSet 1 (vN opLst (vCons (vVar 0) vNil))) (vSeq (vForW (vSeqI (v2 xIx (vVar 0) (vC (.int 1)))) (vgName 2)
      ((vSet 1 (v2 opAdd (vVar 1) (vN (opCallK ownD p_Lallv4) (vCons (vVar 2) vNil)))))) ((vRet (vVar 1))))) := (vss_cons (vs_set (i := 1) scLallv4.nd rfl (Or.inl rfl) (ve_lst (va_cons (vp 0) va_nil)))
    (vss_cons (vs_forW (vi_list (ve_xix (vp 0) ve_int)) (vg_name (i := 2) scLallv4.nd rfl (Or.inl rfl))
      (vss_one (vs_set (i := 1) scLallv4.nd rfl (Or.inl rfl) (ve_add (vp 1) (ve_call finW_D G_Lallv4 hr h_Lallv4 rfl (va_cons (vp 2) va_nil))))) (fun a b c => ps_for PassesOwn.never rfl a b c))
    (vss_one (vs_ret (vp 1)))))
  exact h
theorem ok_Lallv4 {P : Program} {w : World} {K : PySem.W.Frag} {mg : Str → Option Value} {base : Heap} {k : Nat} {p : VSp} (Fd : Df K mg "_law_all" sLallv4 ["_law_tree_here"]) {k_Lallv4 : Nat} {p_Lallv4 : VSp} (G_Lallv4 : VFn P w K mg base k_Lallv4 "_law_all" ["_law_tree_here"] p_Lallv4) (h_Lallv4 : k_Lallv4 ≤ k)
    (len : ∀ ss st Kp, p ss st Kp → ss.length = 1) (rd : ∀ ss cs Kp, p ss cs Kp → t_Lallv4 p_Lallv4 (dV cs.length Kp) ⟨startV 3 ss, cs.map some⟩) : VFn P w K mg base (k + 1) "_law_all" ["_law_tree_here"] p :=
  okF Fd scLallv4 len (fun hr => bd_Lallv4 G_Lallv4 h_Lallv4 hr) rd
abbrev sLbentmarks : Stmt := top 18
abbrev nLbentmarks : List Str := ["_law_marks_here", "_law_pool_here", "_law_at", "_law_odd", "_law_way"]
theorem scLbentmarks : FnScope nLbentmarks ["_law_marks_here", "_law_pool_here"] (defScope sLbentmarks) := ⟨rfl, rfl, rfl, by decide +kernel, rfl, by decide +kernel, by decide +kernel⟩
theorem bd_Lbentmarks {P : Program} {w : World} {K : PySem.W.Frag} {mg : Str → Option Value} {base : Heap} {k : Nat} {k_Ltake : Nat} {p_Ltake : VSp} (G_Ltake : VFn P w K mg base k_Ltake "_law_take" ["_law_pool_here", "_law_many"] p_Ltake) (h_Ltake : k_Ltake ≤ k) (B : Blt mg) {f : Addr} {cdv : Value} {A : Around} {outer : List Env} {s : Shared} {H : Hp} {E : XK}
    (hr : Room k (A.deeper (envOfC "_law_bent_marks" (defScope sLbentmarks) s.heap.objs.size f cdv))) : VSs (cxOf CX0 P w K mg base nLbentmarks "_law_bent_marks" (defScope sLbentmarks) f cdv A outer s H E).nox (defBody sLbentmarks) (t_Lbentmarks p_Ltake) := by
  have hu := u190 hr
  have h : VSs (cxOf CX0 P w K mg base nLbentmarks "_law_bent_marks" (defScope sLbentmarks) f cdv A outer s H E).nox (defBody sLbentmarks) (vSeq (vSet 2 (vN (opCallK ownD p_Ltake) (vCons (vVar 1) (vCons (v2 opAdd (vN opLen (vCons (vVar 0) vNil)) (vC (.int 1))) vNil)))) (vSeq (vSet 3 (vN opLst (vCons (vC (.str "A")) (vCons (vC (.str "")) (vCons (vC (.str "a1")) (vCons (vC (.str "abcdefg")) (vCons (vC .none) (vCons (vC (.int 5)) (vCons (vN opTup (vCons (vC (.str "a")) vNil)) (vCons (vC (.str "a b")) (vCons (vC (.str "zz")) vNil))))))))))) (vSeq (vSet 4 (vN (opCallK ownD p_Ltake) (vCons (vVar 1) (vCons (vC (.int 5)) vNil)))) (vSeq (vIfS (vTest (v2 (xEq false) (vVar 4) (vC (.int 0)))) ((vRet (v2 opAdd (v2 opAdd (vSl opSl (vVar 0) vNoPart (vPart (vVar 2))) (vN opLst (vCons (v2 xIx (vVar 3) (vN (opCallK ownD p_Ltake) (vCons (vVar 1) (vCons (vC (.int 9)) vNil)))) vNil))) (vSl opSl (vVar 0) (vPart (vVar 2)) vNoPart)))) vNext) (vSeq (vIfS (vTest (v2 (xEq false) (vVar 4) (vC (.int 1)))) ((vRet (v2 opAdd (vSl opSl (vVar 0) vNoPart (vPart (vVar 2))) (vSl opSl (vVar 0) (vPart (v2 opAdd (vVar 2) (vC (.int 1)))) vNoPart)))) vNext) (vSeq (vIfS (vTest (v2 (xEq false) (vVar 4) (vC (.int 2)))) ((vRet (v1 opRev (vVar 0)))) vNext) (vSeq (vIfS (vTest (v2 (xEq false) (vVar 4) (vC (.int 3)))) ((vRet (v2 opAdd (vVar 0) (vSl opSl (vVar 0) (vPart (v1 opNeg (vC (.int 1)))) vNoPart)))) vNext) ((vRet (vN opTuple (vCons (vVar 0) vNil))))))))))) := (vss_cons (vs_set (i := 2) scLbentmarks.nd rfl (Or.inl rfl) (ve_call finW_D G_Ltake hr h_Ltake rfl (va_cons (vp 1) (va_cons (ve_add (ve_len rfl B.len (va_cons (vp 0) va_nil)) ve_int) va_nil))))
    (vss_cons (vs_set (i := 3) scLbentmarks.nd rfl (Or.inl rfl) (ve_lst (va_cons ve_str (va_cons ve_str (va_cons ve_str (va_cons ve_str (va_cons ve_non (va_cons ve_int (va_cons (ve_tup (va_cons ve_str va_nil)) (va_cons ve_str (va_cons ve_str va_nil)))))))))))
    (vss_cons (vs_set (i := 4) scLbentmarks.nd rfl (Or.inl rfl) (ve_call finW_D G_Ltake hr h_Ltake rfl (va_cons (vp 1) (va_cons ve_int va_nil))))
    (vss_cons (vs_if (vt_xeq hu (vp 4) ve_int) (vss_one (vs_ret (ve_add (ve_add (ve_slice (vp 0) vo_none (vo_some (vp 2))) (ve_lst (va_cons (ve_xix (vp 3) (ve_call finW_D G_Ltake hr h_Ltake rfl (va_cons (vp 1) (va_cons ve_int va_nil)))) va_nil))) (ve_slice (vp 0) (vo_some (vp 2)) vo_none)))) vss_nil)
    (vss_cons (vs_if (vt_xeq hu (vp 4) ve_int) (vss_one (vs_ret (ve_add (ve_slice (vp 0) vo_none (vo_some (vp 2))) (ve_slice (vp 0) (vo_some (ve_add (vp 2) ve_int)) vo_none)))) vss_nil)
    (vss_cons (vs_if (vt_xeq hu (vp 4) ve_int) (vss_one (vs_ret (ve_rev (vp 0)))) vss_nil)
    (vss_cons (vs_if (vt_xeq hu (vp 4) ve_int) (vss_one (vs_ret (ve_add (vp 0) (ve_slice (vp 0) (vo_some (ve_neg ve_int)) vo_none)))) vss_nil)
    (vss_one (vs_ret (ve_tuple rfl B.tuple (va_cons (vp 0) va_nil)))))))))))
  exact h
theorem ok_Lbentmarks {P : Program} {w : World} {K : PySem.W.Frag} {mg : Str → Option Value} {base : Heap} {k : Nat} {p : VSp} (Fd : Df K mg "_law_bent_marks" sLbentmarks ["_law_marks_here", "_law_pool_here"]) {k_Ltake : Nat} {p_Ltake : VSp} (G_Ltake : VFn P w K mg base k_Ltake "_law_take" ["_law_pool_here", "_law_many"] p_Ltake) (h_Ltake : k_Ltake ≤ k) (B : Blt mg)
    (len : ∀ ss st Kp, p ss st Kp → ss.length = 2) (rd : ∀ ss cs Kp, p ss cs Kp → t_Lbentmarks p_Ltake (dV cs.length Kp) ⟨startV 5 ss, cs.map some⟩) : VFn P w K mg base (k + 1) "_law_bent_marks" ["_law_marks_here", "_law_pool_here"] p :=
  okF Fd scLbentmarks len (fun hr => bd_Lbentmarks G_Ltake h_Ltake B hr) rd
abbrev sLbentv6 : Stmt := top 19
abbrev nLbentv6 : List Str := ["_law_tree_here", "_law_pool_here", "_law_marks_here", "_law_trees", "_law_at", "_law_way"]
theorem scLbentv6 : FnScope nLbentv6 ["_law_tree_here", "_law_pool_here"] (defScope sLbentv6) := ⟨rfl, rfl, rfl, by decide +kernel, rfl, by decide +kernel, by decide +kernel⟩
theorem bd_Lbentv6 {P : Program} {w : World} {K : PySem.W.Frag} {mg : Str → Option Value} {base : Heap} {k : Nat} {k_Ltake : Nat} {p_Ltake : VSp} (G_Ltake : VFn P w K mg base k_Ltake "_law_take" ["_law_pool_here", "_law_many"] p_Ltake) (h_Ltake : k_Ltake ≤ k) {k_Lbentv6 : Nat} {p_Lbentv6 : VSp} (G_Lbentv6 : VFn P w K mg base k_Lbentv6 "_law_bent" ["_law_tree_here", "_law_pool_here"] p_Lbentv6) (h_Lbentv6 : k_Lbentv6 ≤ k) {k_Lbentmarks : Nat} {p_Lbentmarks : VSp} (G_Lbentmarks : VFn P w K mg base k_Lbentmarks "_law_bent_marks" ["_law_marks_here", "_law_pool_here"] p_Lbentmarks) (h_Lbentmarks : k_Lbentmarks ≤ k) (B : Blt mg) {f : Addr} {cdv : Value} {A : Around} {outer : List Env} {s : Shared} {H : Hp} {E : XK}
    (hr : Room k (A.deeper (envOfC "_law_bent" (defScope sLbentv6) s.heap.objs.size f cdv))) : VSs (cxOf CX0 P w K mg base nLbentv6 "_law_bent" (defScope sLbentv6) f cdv A outer s H E).nox (defBody sLbentv6) (t_Lbentv6 p_Ltake p_Lbentv6 p_Lbentmarks) := by
  have hu := u190 hr
  have h : VSs (cxOf CX0 P w K mg base nLbentv6 "_law_bent" (defScope sLbentv6) f cdv A outer s H E).nox (defBody sLbentv6) (vSeq (vAsg (vVar 0) (vgTup 2 (vgCons (vgName 2) (vgCons (vgName 3) vgNil)))) (vSeq (vIfS (vAndT (vTest (v2 (xEq true) (vVar 3) (vN opLst vNil))) (vTest (v2 opGt (vN (opCallK ownD p_Ltake) (vCons (vVar 1) (vCons (vC (.int 3)) vNil))) (vC (.int 0))))) (vSeq (vSet 4 (vN (opCallK ownD p_Ltake) (vCons (vVar 1) (vCons (vN opLen (vCons (vVar 3) vNil)) vNil)))) ((vRet (vN opTup (vCons (vVar 2) (vCons (v2 opAdd (v2 opAdd (vSl opSl (vVar 3) vNoPart (vPart (vVar 4))) (vN opLst (vCons (vN (opCallK ownD p_Lbentv6) (vCons (v2 xIx (vVar 3) (vVar 4)) (vCons (vVar 1) vNil))) vNil))) (vSl opSl (vVar 3) (vPart (v2 opAdd (vVar 4) (vC (.int 1)))) vNoPart)) vNil)))))) vNext) (vSeq (vSet 5 (vN (opCallK ownD p_Ltake) (vCons (vVar 1) (vCons (vC (.int 6)) vNil)))) (vSeq (vIfS (vTest (v2 opLt (vVar 5) (vC (.int 3)))) ((vRet (vN opTup (vCons (vN (opCallK ownD p_Lbentmarks) (vCons (vVar 2) (vCons (vVar 1) vNil))) (vCons (vVar 3) vNil))))) vNext) (vSeq (vIfS (vTest (v2 (xEq false) (vVar 5) (vC (.int 3)))) ((vRet (vN opLst (vCons (vVar 2) (vCons (vVar 3) vNil))))) vNext) (vSeq (vIfS (vTest (v2 (xEq false) (vVar 5) (vC (.int 4)))) ((vRet (v2 xIx (vN opLst (vCons (vN opTup (vCons (vVar 2) (vCons (vN opTuple (vCons (vVar 3) vNil)) vNil))) (vCons (vN opTup (vCons (vVar 2) (vCons (vVar 3) (vCons (vN opLst vNil) vNil)))) (vCons (vN opTup (vCons (vVar 2) vNil)) (vCons (vN opTup (vCons (vVar 3) (vCons (vVar 2) vNil))) vNil))))) (vN (opCallK ownD p_Ltake) (vCons (vVar 1) (vCons (vC (.int 4)) vNil)))))) vNext) ((vRet (v2 xIx (vN opLst (vCons (vC .none) (vCons (vC (.str "tree")) (vCons (vC (.int 7)) (vCons (vN opTup vNil) (vCons (vN opTup (vCons (vN opLst vNil) (vCons (vC .none) vNil))) (vCons vDct vNil))))))) (vN (opCallK ownD p_Ltake) (vCons (vVar 1) (vCons (vC (.int 6)) vNil)))))))))))) := (vss_cons (vs_asg (vp 0) (vg_tup rfl (vgs_cons (vg_name (i := 2) scLbentv6.nd rfl (Or.inl rfl)) (vgs_cons (vg_name (i := 3) scLbentv6.nd rfl (Or.inl rfl)) vgs_nil))))
    (vss_cons (vs_if (VW.vt (vw_and (vt_xne hu (vp 3) (ve_lst va_nil)) (vw_and1 (vt_gt (ve_call finW_D G_Ltake hr h_Ltake rfl (va_cons (vp 1) (va_cons ve_int va_nil))) ve_int)))) (vss_cons (vs_set (i := 4) scLbentv6.nd rfl (Or.inl rfl) (ve_call finW_D G_Ltake hr h_Ltake rfl (va_cons (vp 1) (va_cons (ve_len rfl B.len (va_cons (vp 3) va_nil)) va_nil))))
      (vss_one (vs_ret (ve_tup (va_cons (vp 2) (va_cons (ve_add (ve_add (ve_slice (vp 3) vo_none (vo_some (vp 4))) (ve_lst (va_cons (ve_call finW_D G_Lbentv6 hr h_Lbentv6 rfl (va_cons (ve_xix (vp 3) (vp 4)) (va_cons (vp 1) va_nil))) va_nil))) (ve_slice (vp 3) (vo_some (ve_add (vp 4) ve_int)) vo_none)) va_nil)))))) vss_nil)
    (vss_cons (vs_set (i := 5) scLbentv6.nd rfl (Or.inl rfl) (ve_call finW_D G_Ltake hr h_Ltake rfl (va_cons (vp 1) (va_cons ve_int va_nil))))
    (vss_cons (vs_if (vt_lt (vp 5) ve_int) (vss_one (vs_ret (ve_tup (va_cons (ve_call finW_D G_Lbentmarks hr h_Lbentmarks rfl (va_cons (vp 2) (va_cons (vp 1) va_nil))) (va_cons (vp 3) va_nil))))) vss_nil)
    (vss_cons (vs_if (vt_xeq hu (vp 5) ve_int) (vss_one (vs_ret (ve_lst (va_cons (vp 2) (va_cons (vp 3) va_nil))))) vss_nil)
    (vss_cons (vs_if (vt_xeq hu (vp 5) ve_int) (vss_one (vs_ret (ve_xix (ve_lst (va_cons (ve_tup (va_cons (vp 2) (va_cons (ve_tuple rfl B.tuple (va_cons (vp 3) va_nil)) va_nil))) (va_cons (ve_tup (va_cons (vp 2) (va_cons (vp 3) (va_cons (ve_lst va_nil) va_nil)))) (va_cons (ve_tup (va_cons (vp 2) va_nil)) (va_cons (ve_tup (va_cons (vp 3) (va_cons (vp 2) va_nil))) va_nil))))) (ve_call finW_D G_Ltake hr h_Ltake rfl (va_cons (vp 1) (va_cons ve_int va_nil)))))) vss_nil)
    (vss_one (vs_ret (ve_xix (ve_lst (va_cons ve_non (va_cons ve_str (va_cons ve_int (va_cons (ve_tup va_nil) (va_cons (ve_tup (va_cons (ve_lst va_nil) (va_cons ve_non va_nil))) (va_cons ve_dct va_nil))))))) (ve_call finW_D G_Ltake hr h_Ltake rfl (va_cons (vp 1) (va_cons ve_int va_nil))))))))))))
  exact h
theorem ok_Lbentv6 {P : Program} {w : World} {K : PySem.W.Frag} {mg : Str → Option Value} {base : Heap} {k : Nat} {p : VSp} (Fd : Df K mg "_law_bent" sLbentv6 ["_law_tree_here", "_law_pool_here"]) {k_Ltake : Nat} {p_Ltake : VSp} (G_Ltake : VFn P w K mg base k_Ltake "_law_take" ["_law_pool_here", "_law_many"] p_Ltake) (h_Ltake : k_Ltake ≤ k) {k_Lbentv6 : Nat} {p_Lbentv6 : VSp} (G_Lbentv6 : VFn P w K mg base k_Lbentv6 "_law_bent" ["_law_tree_here", "_law_pool_here"] p_Lbentv6) (h_Lbentv6 : k_Lbentv6 ≤ k) {k_Lbentmarks : Nat} {p_Lbentmarks : VSp} (G_Lbentmarks : VFn P w K mg base k_Lbentmarks "_law_bent_marks" ["_law_marks_here", "_law_pool_here"] p_Lbentmarks) (h_Lbentmarks : k_Lbentmarks ≤ k) (B : Blt mg)
    (len : ∀ ss st Kp, p ss st Kp → ss.length = 2) (rd : ∀ ss cs Kp, p ss cs Kp → t_Lbentv6 p_Ltake p_Lbentv6 p_Lbentmarks (dV cs.length Kp) ⟨startV 6 ss, cs.map some⟩) : VFn P w K mg base (k + 1) "_law_bent" ["_law_tree_here", "_law_pool_here"] p :=
  okF Fd scLbentv6 len (fun hr => bd_Lbentv6 G_Ltake h_Ltake G_Lbentv6 h_Lbentv6 G_Lbentmarks h_Lbentmarks B hr) rd
abbrev sLcopied : Stmt := top 20
abbrev nLcopied : List Str := ["_law_thing", "_law_one"]
theorem scLcopied : FnScope nLcopied ["_law_thing"] (defScope sLcopied) := ⟨rfl, rfl, rfl, by decide +kernel, rfl, by decide +kernel, by decide +kernel⟩
theorem bd_Lcopied {P : Program} {w : World} {K : PySem.W.Frag} {mg : Str → Option Value} {base : Heap} {k : Nat} {k_Lcopied : Nat} {p_Lcopied : VSp} (G_Lcopied : VFn P w K mg base k_Lcopied "_law_copied" ["_law_thing"] p_Lcopied) (h_Lcopied : k_Lcopied ≤ k) (B : Blt mg) {f : Addr} {cdv : Value} {A : Around} {outer : List Env} {s : Shared} {H : Hp} {E : XK}
    (hr : Room k (A.deeper (envOfC "_law_copied" (defScope sLcopied) s.heap.objs.size f cdv))) : VSs (cxOf CX0 P w K mg base nLcopied "_law_copied" (defScope sLcopied) f cdv A outer s H E).nox (defBody sLcopied) (t_Lcopied p_Lcopied) := by
  have h : VSs (cxOf CX0 P w K mg base nLcopied "_law_copied" (defScope sLcopied) f cdv A outer s H E).nox (defBody sLcopied) (vSeq (vIfS (vTest (vIsi "list" (vVar 0))) ((vRet (vLcK (vSeqI (vVar 0)) (vgName 1) vYes (vN (opCallK ownD p_Lcopied) (vCons (vVar 1) vNil)) [1] finD))) vNext) (vSeq (vIfS (vTest (vIsi "tuple" (vVar 0))) ((vRet (vN opTuple (vCons (vLcK (vTupI (vVar 0)) (vgName 1) vYes (vN (opCallK ownD p_Lcopied) (vCons (vVar 1) vNil)) [1] finD) vNil)))) vNext) ((vRet (vVar 0))))) := (vss_cons (vs_if (vt_val (ve_isi (T := "list") (by decide) rfl B.isinstance rfl B.list (by decide +kernel) (vp 0))) (vss_one (vs_ret (ve_lcK (own := [("_law_one", 1)]) finD_ok rfl scLcopied.nd (vi_list (vp 0)) (blkOk_by (N := nLcopied) (sc := defScope sLcopied) (own := [("_law_one", 1)]) (by decide +kernel)) (by decide) (fun _ _ _ _ _ => (vg_name (i := 1) scLcopied.nd rfl (Or.inl rfl))) (fun _ _ _ _ _ => vts_nil) (fun _ _ _ _ _ => (ve_call finW_D G_Lcopied hr h_Lcopied rfl (va_cons (vp 1) va_nil)))))) vss_nil)
    (vss_cons (vs_if (vt_val (ve_isi (T := "tuple") (by decide) rfl B.isinstance rfl B.tuple (by decide +kernel) (vp 0))) (vss_one (vs_ret (ve_tuple rfl B.tuple (va_cons (ve_lcK (own := [("_law_one", 1)]) finD_ok rfl scLcopied.nd (vi_tup (vp 0)) (blkOk_by (N := nLcopied) (sc := defScope sLcopied) (own := [("_law_one", 1)]) (by decide +kernel)) (by decide) (fun _ _ _ _ _ => (vg_name (i := 1) scLcopied.nd rfl (Or.inl rfl))) (fun _ _ _ _ _ => vts_nil) (fun _ _ _ _ _ => (ve_call finW_D G_Lcopied hr h_Lcopied rfl (va_cons (vp 1) va_nil)))) va_nil)))) vss_nil)
    (vss_one (vs_ret (vp 0)))))
  exact h
theorem ok_Lcopied {P : Program} {w : World} {K : PySem.W.Frag} {mg : Str → Option Value} {base : Heap} {k : Nat} {p : VSp} (Fd : Df K mg "_law_copied" sLcopied ["_law_thing"]) {k_Lcopied : Nat} {p_Lcopied : VSp} (G_Lcopied : VFn P w K mg base k_Lcopied "_law_copied" ["_law_thing"] p_Lcopied) (h_Lcopied : k_Lcopied ≤ k) (B : Blt mg)
    (len : ∀ ss st Kp, p ss st Kp → ss.length = 1) (rd : ∀ ss cs Kp, p ss cs Kp → t_Lcopied p_Lcopied (dV cs.length Kp) ⟨startV 2 ss, cs.map some⟩) : VFn P w K mg base (k + 1) "_law_copied" ["_law_thing"] p :=
  okF Fd scLcopied len (fun hr => bd_Lcopied G_Lcopied h_Lcopied B hr) rd
abbrev sLrightv2 : Stmt := top 21
abbrev nLrightv2 : List Str := ["_law_thing", "_law_handed", "_law_found", "_law_many"]
theorem scLrightv2 : FnScope nLrightv2 ["_law_thing"] (defScope sLrightv2) := ⟨rfl, rfl, rfl, by decide +kernel, rfl, by decide +kernel, by decide +kernel⟩
theorem bd_Lrightv2 {P : Program} {w : World} {K : PySem.W.Frag} {mg : Str → Option Value} {base : Heap} {k : Nat} {k_Lcopied : Nat} {p_Lcopied : VSp} (G_Lcopied : VFn P w K mg base k_Lcopied "_law_copied" ["_law_thing"] p_Lcopied) (h_Lcopied : k_Lcopied ≤ k) {k_istree : Nat} {p_istree : VSp} (G_istree : VFn P w K mg base k_istree "is_tree" ["thing"] p_istree) (h_istree : k_istree ≤ k) {k_Listree : Nat} {p_Listree : VSp} (G_Listree : VFn P w K mg base k_Listree "_law_is_tree" ["_law_thing", "_law_room"] p_Listree) (h_Listree : k_Listree ≤ k) {k_worldsof : Nat} {p_worldsof : VSp} (G_worldsof : VFn P w K mg base k_worldsof "worlds_of" ["tree"] p_worldsof) (h_worldsof : k_worldsof ≤ k) {k_Lallv4 : Nat} {p_Lallv4 : VSp} (G_Lallv4 : VFn P w K mg base k_Lallv4 "_law_all" ["_law_tree_here"] p_Lallv4) (h_Lallv4 : k_Lallv4 ≤ k) (B : Blt mg) {f : Addr} {cdv : Value} {A : Around} {outer : List Env} {s : Shared} {H : Hp} {E : XK}
    (hr : Room k (A.deeper (envOfC "_law_right" (defScope sLrightv2) s.heap.objs.size f cdv))) : VSs (cxOf CX0 P w K mg base nLrightv2 "_law_right" (defScope sLrightv2) f cdv A outer s H E).nox (defBody sLrightv2) (t_Lrightv2 p_Lcopied p_istree p_Listree p_worldsof p_Lallv4) := by
  have hu := u190 hr
  have h : VSs (cxOf CX0 P w K mg base nLrightv2 "_law_right" (defScope sLrightv2) f cdv A outer s H E).nox (defBody sLrightv2) (vSeq (vSet 1 (vN (opCallK ownD p_Lcopied) (vCons (vVar 0) vNil))) (vSeq (vSet 2 (vN (opCallK ownD p_istree) (vCons (vVar 1) vNil))) (vSeq (vIfS (vOrT (vNotT (vTest (vIsi "bool" (vVar 2)))) (vOrT (vTest (v2 (xEq true) (vVar 2) (vN (opCallK ownD p_Listree) (vCons (vVar 0) (vCons (vC (.int 40)) vNil))))) (vTest (v2 ySm (vVar 1) (vVar 0))))) ((vRet (vC (.bool false)))) vNext) (vSeq (vIfS (vNotT (vTruth (vVar 2))) ((vRet (vC (.bool true)))) vNext) (vSeq (vSet 3 (vN (opCallK ownD p_worldsof) (vCons (vVar 1) vNil))) ((vRet (vAndV (vIsi "int" (vVar 3)) (vAndV (v1 opNotG (vIsi "bool" (vVar 3))) (vAndV (v2 (xEq false) (vVar 3) (vN opLen (vCons (vN (opCallK ownD p_Lallv4) (vCons (vVar 0) vNil)) vNil))) (v2 (xEq false) (vVar 1) (vVar 0)))))))))))) := (vss_cons (vs_set (i := 1) scLrightv2.nd rfl (Or.inl rfl) (ve_call finW_D G_Lcopied hr h_Lcopied rfl (va_cons (vp 0) va_nil)))
    (vss_cons (vs_set (i := 2) scLrightv2.nd rfl (Or.inl rfl) (ve_call finW_D G_istree hr h_istree rfl (va_cons (vp 1) va_nil)))
    (vss_cons (vs_if (VW.vt (vw_or (vt_not (vt_val (ve_isi (T := "bool") (by decide) rfl B.isinstance rfl B.bool (by decide +kernel) (vp 2)))) (vw_or (vt_xne hu (vp 2) (ve_call finW_D G_Listree hr h_Listree rfl (va_cons (vp 0) (va_cons ve_int va_nil)))) (vw_or1 (vt_ysm hu (vp 1) (vp 0)))))) (vss_one (vs_ret ve_bl)) vss_nil)
    (vss_cons (vs_if (vt_not (vt_truth (vp 2))) (vss_one (vs_ret ve_bl)) vss_nil)
    (vss_cons (vs_set (i := 3) scLrightv2.nd rfl (Or.inl rfl) (ve_call finW_D G_worldsof hr h_worldsof rfl (va_cons (vp 1) va_nil)))
    (vss_one (vs_ret (ve_and (ve_isi (T := "int") (by decide) rfl B.isinstance rfl B.int (by decide +kernel) (vp 3)) (ve_and (ve_notG (ve_isi (T := "bool") (by decide) rfl B.isinstance rfl B.bool (by decide +kernel) (vp 3))) (ve_and (ve_xeq hu (vp 3) (ve_len rfl B.len (va_cons (ve_call finW_D G_Lallv4 hr h_Lallv4 rfl (va_cons (vp 0) va_nil)) va_nil))) (ve_one (ve_xeq hu (vp 1) (vp 0)))))))))))))
  exact h
theorem ok_Lrightv2 {P : Program} {w : World} {K : PySem.W.Frag} {mg : Str → Option Value} {base : Heap} {k : Nat} {p : VSp} (Fd : Df K mg "_law_right" sLrightv2 ["_law_thing"]) {k_Lcopied : Nat} {p_Lcopied : VSp} (G_Lcopied : VFn P w K mg base k_Lcopied "_law_copied" ["_law_thing"] p_Lcopied) (h_Lcopied : k_Lcopied ≤ k) {k_istree : Nat} {p_istree : VSp} (G_istree : VFn P w K mg base k_istree "is_tree" ["thing"] p_istree) (h_istree : k_istree ≤ k) {k_Listree : Nat} {p_Listree : VSp} (G_Listree : VFn P w K mg base k_Listree "_law_is_tree" ["_law_thing", "_law_room"] p_Listree) (h_Listree : k_Listree ≤ k) {k_worldsof : Nat} {p_worldsof : VSp} (G_worldsof : VFn P w K mg base k_worldsof "worlds_of" ["tree"] p_worldsof) (h_worldsof : k_worldsof ≤ k) {k_Lallv4 : Nat} {p_Lallv4 : VSp} (G_Lallv4 : VFn P w K mg base k_Lallv4 "_law_all" ["_law_tree_here"] p_Lallv4) (h_Lallv4 : k_Lallv4 ≤ k) (B : Blt mg)
    (len : ∀ ss st Kp, p ss st Kp → ss.length = 1) (rd : ∀ ss cs Kp, p ss cs Kp → t_Lrightv2 p_Lcopied p_istree p_Listree p_worldsof p_Lallv4 (dV cs.length Kp) ⟨startV 4 ss, cs.map some⟩) : VFn P w K mg base (k + 1) "_law_right" ["_law_thing"] p :=
  okF Fd scLrightv2 len (fun hr => bd_Lrightv2 G_Lcopied h_Lcopied G_istree h_istree G_Listree h_Listree G_worldsof h_worldsof G_Lallv4 h_Lallv4 B hr) rd
abbrev slawk34 : Stmt := top 22
abbrev nlawk34 : List Str := ["_law_script", "_law_k", "_law_pool_here", "_law_marks_here", "_law_tree_here", "_law_one", "_law_thing", "_law_chain", "_law_turn"]
theorem sclawk34 : FnScope nlawk34 ["_law_script"] (defScope slawk34) := ⟨rfl, rfl, rfl, by decide +kernel, rfl, by decide +kernel, by decide +kernel⟩
theorem bd_lawk34 {P : Program} {w : World} {K : PySem.W.Frag} {mg : Str → Option Value} {base : Heap} {k : Nat} {k_Lpool : Nat} {p_Lpool : VSp} (G_Lpool : VFn P w K mg base k_Lpool "_law_pool" ["_law_script", "_law_k"] p_Lpool) (h_Lpool : k_Lpool ≤ k) {k_Lmarks : Nat} {p_Lmarks : VSp} (G_Lmarks : VFn P w K mg base k_Lmarks "_law_marks" ["_law_pool_here"] p_Lmarks) (h_Lmarks : k_Lmarks ≤ k) {k_Ltree : Nat} {p_Ltree : VSp} (G_Ltree : VFn P w K mg base k_Ltree "_law_tree" ["_law_pool_here", "_law_marks_here", "_law_had", "_law_room"] p_Ltree) (h_Ltree : k_Ltree ≤ k) {k_Lrightv2 : Nat} {p_Lrightv2 : VSp} (G_Lrightv2 : VFn P w K mg base k_Lrightv2 "_law_right" ["_law_thing"] p_Lrightv2) (h_Lrightv2 : k_Lrightv2 ≤ k) {k_Lbentv6 : Nat} {p_Lbentv6 : VSp} (G_Lbentv6 : VFn P w K mg base k_Lbentv6 "_law_bent" ["_law_tree_here", "_law_pool_here"] p_Lbentv6) (h_Lbentv6 : k_Lbentv6 ≤ k) {k_istree : Nat} {p_istree : VSp} (G_istree : VFn P w K mg base k_istree "is_tree" ["thing"] p_istree) (h_istree : k_istree ≤ k) {k_worldsof : Nat} {p_worldsof : VSp} (G_worldsof : VFn P w K mg base k_worldsof "worlds_of" ["tree"] p_worldsof) (h_worldsof : k_worldsof ≤ k) {k_Lallv4 : Nat} {p_Lallv4 : VSp} (G_Lallv4 : VFn P w K mg base k_Lallv4 "_law_all" ["_law_tree_here"] p_Lallv4) (h_Lallv4 : k_Lallv4 ≤ k) (B : Blt mg) {f : Addr} {cdv : Value} {A : Around} {outer : List Env} {s : Shared} {H : Hp} {E : XK}
    (hr : Room k (A.deeper (envOfC "law" (defScope slawk34) s.heap.objs.size f cdv))) : VSs (cxOf CX0 P w K mg base nlawk34 "law" (defScope slawk34) f cdv A outer s H E).nox (defBody slawk34) (t_lawk34 p_Lpool p_Lmarks p_Ltree p_Lrightv2 p_Lbentv6 p_istree p_worldsof p_Lallv4) := by
  have hu := u190 hr
  have h : VSs (cxOf CX0 P w K mg base nlawk34 "law" (defScope slawk34) f cdv A outer s H E).nox (defBody slawk34) (vSeq (vForW (vRng1 (vCons (vN (opII gMax) (vCons (vC (.int 1)) (vCons (vN (opII gMin) (vCons (vN opLen (vCons (vVar 0) vNil)) (vCons (vC (.int 20)) vNil))) vNil))) vNil)) (vgName 1)
      (vSeq (vSet 2 (vN (opCallK ownO p_Lpool) (vCons (vVar 0) (vCons (vVar 1) vNil)))) (vSeq (vSet 3 (vN (opCallK ownD p_Lmarks) (vCons (vVar 2) vNil))) (vSeq (vSet 4 (vN (opCallK ownD p_Ltree) (vCons (vVar 2) (vCons (vVar 3) (vCons (vN opLst vNil) (vCons (vC (.int 3)) vNil)))))) (vSeq (vIfS (vOrT (vNotT (vTruth (vN (opCallK ownD p_Lrightv2) (vCons (vVar 4) vNil)))) (vNotT (vTruth (vN (opCallK ownD p_Lrightv2) (vCons (vN (opCallK ownD p_Lbentv6) (vCons (vVar 4) (vCons (vVar 2) vNil))) vNil))))) ((vRet (vC (.bool false)))) vNext) (vSeq (vSet 5 (vN (opCallK ownD p_Ltree) (vCons (vVar 2) (vCons (vVar 3) (vCons (v2 xIx (vVar 4) (vC (.int 0))) (vCons (vC (.int 2)) vNil)))))) (vSeq (vSet 6 (vN opTup (vCons (vN opList (vCons (v2 xIx (vVar 4) (vC (.int 0))) vNil)) (vCons (vN opLst (vCons (vVar 5) (vCons (vVar 4) (vCons (vVar 5) vNil)))) vNil)))) (vSeq (vIfS (vOrT (vTest (v2 (xIsB true) (vN (opCallK ownD p_istree) (vCons (vVar 6) vNil)) (vC (.bool true)))) (vTest (v2 (xEq true) (vN (opCallK ownD p_worldsof) (vCons (vVar 6) vNil)) (vN opLen (vCons (vN (opCallK ownD p_Lallv4) (vCons (vVar 6) vNil)) vNil))))) ((vRet (vC (.bool false)))) vNext) (vSeq (vSet 7 (vN opTup (vCons (vN opList (vCons (v2 xIx (vVar 4) (vC (.int 0))) vNil)) (vCons (vN opLst vNil) vNil)))) (vSeq (vForW (vRng1 (vCons (vC (.int 39)) vNil)) (vgName 8)
        ((vSet 7 (vN opTup (vCons (vN opList (vCons (v2 xIx (vVar 4) (vC (.int 0))) vNil)) (vCons (vN opLst (vCons (vVar 7) vNil)) vNil)))))) ((vIfS (vOrT (vNotT (vTruth (vN (opCallK ownD p_Lrightv2) (vCons (vVar 7) vNil)))) (vTest (v2 (xIsB true) (vN (opCallK ownD p_istree) (vCons (vN opTup (vCons (vN opList (vCons (v2 xIx (vVar 4) (vC (.int 0))) vNil)) (vCons (vN opLst (vCons (vVar 7) vNil)) vNil))) vNil)) (vC (.bool false))))) ((vRet (vC (.bool false)))) vNext)))))))))))) ((vRet (vC (.bool true))))) := (vss_cons (vs_forW (vi_range1 rfl B.range (va_cons (ve_max rfl rfl B.max (va_cons ve_int (va_cons (ve_min rfl rfl B.min (va_cons (ve_len rfl B.len (va_cons (vp 0) va_nil)) (va_cons ve_int va_nil))) va_nil))) va_nil)) (vg_name (i := 1) sclawk34.nd rfl (Or.inl rfl))
      (vss_cons (vs_set (i := 2) sclawk34.nd rfl (Or.inl rfl) (ve_call finW_O G_Lpool hr h_Lpool rfl (va_cons (vp 0) (va_cons (vp 1) va_nil))))
      (vss_cons (vs_set (i := 3) sclawk34.nd rfl (Or.inl rfl) (ve_call finW_D G_Lmarks hr h_Lmarks rfl (va_cons (vp 2) va_nil)))
      (vss_cons (vs_set (i := 4) sclawk34.nd rfl (Or.inl rfl) (ve_call finW_D G_Ltree hr h_Ltree rfl (va_cons (vp 2) (va_cons (vp 3) (va_cons (ve_lst va_nil) (va_cons ve_int va_nil))))))
      (vss_cons (vs_if (VW.vt (vw_or (vt_not (vt_truth (ve_call finW_D G_Lrightv2 hr h_Lrightv2 rfl (va_cons (vp 4) va_nil)))) (vw_or1 (vt_not (vt_truth (ve_call finW_D G_Lrightv2 hr h_Lrightv2 rfl (va_cons (ve_call finW_D G_Lbentv6 hr h_Lbentv6 rfl (va_cons (vp 4) (va_cons (vp 2) va_nil))) va_nil))))))) (vss_one (vs_ret ve_bl)) vss_nil)
      (vss_cons (vs_set (i := 5) sclawk34.nd rfl (Or.inl rfl) (ve_call finW_D G_Ltree hr h_Ltree rfl (va_cons (vp 2) (va_cons (vp 3) (va_cons (ve_xix (vp 4) ve_int) (va_cons ve_int va_nil))))))
      (vss_cons (vs_set (i := 6) sclawk34.nd rfl (Or.inl rfl) (ve_tup (va_cons (ve_list rfl B.list (va_cons (ve_xix (vp 4) ve_int) va_nil)) (va_cons (ve_lst (va_cons (vp 5) (va_cons (vp 4) (va_cons (vp 5) va_nil)))) va_nil))))
      (vss_cons (vs_if (VW.vt (vw_or (vt_notB (ve_call finW_D G_istree hr h_istree rfl (va_cons (vp 6) va_nil)) ve_bl) (vw_or1 (vt_xne hu (ve_call finW_D G_worldsof hr h_worldsof rfl (va_cons (vp 6) va_nil)) (ve_len rfl B.len (va_cons (ve_call finW_D G_Lallv4 hr h_Lallv4 rfl (va_cons (vp 6) va_nil)) va_nil)))))) (vss_one (vs_ret ve_bl)) vss_nil)
      (vss_cons (vs_set (i := 7) sclawk34.nd rfl (Or.inl rfl) (ve_tup (va_cons (ve_list rfl B.list (va_cons (ve_xix (vp 4) ve_int) va_nil)) (va_cons (ve_lst va_nil) va_nil))))
      (vss_cons (vs_forW (vi_range1 rfl B.range (va_cons ve_int va_nil)) (vg_name (i := 8) sclawk34.nd rfl (Or.inl rfl))
        (vss_one (vs_set (i := 7) sclawk34.nd rfl (Or.inl rfl) (ve_tup (va_cons (ve_list rfl B.list (va_cons (ve_xix (vp 4) ve_int) va_nil)) (va_cons (ve_lst (va_cons (vp 7) va_nil)) va_nil))))) (fun a b c => ps_for PassesOwn.never rfl a b c))
      (vss_one (vs_if (VW.vt (vw_or (vt_not (vt_truth (ve_call finW_D G_Lrightv2 hr h_Lrightv2 rfl (va_cons (vp 7) va_nil)))) (vw_or1 (vt_notB (ve_call finW_D G_istree hr h_istree rfl (va_cons (ve_tup (va_cons (ve_list rfl B.list (va_cons (ve_xix (vp 4) ve_int) va_nil)) (va_cons (ve_lst (va_cons (vp 7) va_nil)) va_nil))) va_nil)) ve_bl)))) (vss_one (vs_ret ve_bl)) vss_nil))))))))))) (fun a b c => ps_for PassesOwn.never rfl a b c))
    (vss_one (vs_ret ve_bl)))
  exact h
set_option maxHeartbeats 8000000 in
theorem all_mk {l : PySem.W.OpenLaw} {q : Program} {w : World} {K : PySem.W.Frag} {h : Heap} {mg : Str → Option Value} {fa f0 f1 f2 f3 f4 f5 f6 f7 f8 f9 f10 f11 f12 f13 f14 f15 f16 : Addr} (X : K.In h) (G : h.Ns mainGlobals mg) (hfa : mg "law" = some (.ref fa)) (T : Told q mg h)
    {cG1 P1 cG2 P2 cG3 P3 : Addr} {dd1 dd2 dd3 : Option Addr} {e1 e2 e3 : Value} {v1 v2 v3 : Array Value} {sx1 sx2 sx3 : Array (Option Value)}
    {od0 an0 od1 an1 od2 an2 od3 an3 od4 an4 od5 an5 od6 an6 od7 an7 od8 an8 od9 an9 od10 an10 od11 an11 od12 an12 od13 an13 od14 an14 od15 an15 od16 an16 : Option Addr}
    {sl0 sl1 sl2 sl3 sl4 sl5 sl6 sl7 sl8 sl9 sl10 sl11 sl12 sl13 sl14 sl15 sl16 : Array (Option Value)} {oc0 kV0 dc0 pm0 cd0 ct0 oc1 kV1 dc1 pm1 ct1 oc2 kV2 dc2 pm2 ct2 oc3 kV3 dc3 pm3 ct3 oc4 kV4 dc4 pm4 cd4 ct4 oc5 kV5 dc5 pm5 cd5 ct5 oc6 kV6 dc6 pm6 cd6 ct6 oc7 kV7 dc7 pm7 cd7 ct7 oc8 kV8 dc8 pm8 cd8 ct8 oc9 kV9 dc9 pm9 cd9 ct9 oc10 kV10 dc10 pm10 cd10 ct10 oc11 kV11 dc11 pm11 cd11 ct11 oc12 kV12 dc12 pm12 cd12 ct12 oc13 kV13 dc13 pm13 cd13 ct13 oc14 kV14 dc14 pm14 cd14 ct14 oc15 kV15 dc15 pm15 cd15 ct15 oc16 kV16 dc16 pm16 cd16 ct16 : Value}
    {u0 u1 u2 : Tok}
    (a0 : PySem.W.nsIn K mainGlobals "law" = some (some (.ref f0)))
    (l0 : K.lookup f0 = some ⟨oc0, od0, .func (PySem.W.fnOf "law" "law" (defArgs slawk34) (defBody slawk34) (defScope slawk34) .none kV0 dc0 pm0 an0 cd0 ct0), sl0⟩)
    (c0 : PySem.W.codeIn K cd0 "law" = true) (k0 : PySem.W.keepIn K (.ref f0) = true)
    (a1 : PySem.W.nsIn K mainGlobals "is_mark" = some (some (.ref f1)))
    (l1 : K.lookup f1 = some ⟨oc1, od1, .func (PySem.W.fnOf "is_mark" "is_mark" (defArgs sismark) (defBody sismark) (defScope sismark) .none kV1 dc1 pm1 an1 (.ref cG1) ct1), sl1⟩)
    (c1 : PySem.W.codeIn K (.ref cG1) "is_mark" = true) (k1 : PySem.W.keepIn K (.ref f1) = true)
    (r1 : ((PyProof.Rows.recsOf q).any fun e => e.name == ("is_mark" : Str)) = true) (d1 : K.lookup cG1 = some ⟨e1, dd1, .fields v1, sx1⟩) (j1 : v1[11]? = some (.ref P1)) (n1 : K.lookup P1 = none)
    (a2 : PySem.W.nsIn K mainGlobals "has_form" = some (some (.ref f2)))
    (l2 : K.lookup f2 = some ⟨oc2, od2, .func (PySem.W.fnOf "has_form" "has_form" (defArgs shasformv4) (defBody shasformv4) (defScope shasformv4) .none kV2 dc2 pm2 an2 (.ref cG2) ct2), sl2⟩)
    (c2 : PySem.W.codeIn K (.ref cG2) "has_form" = true) (k2 : PySem.W.keepIn K (.ref f2) = true)
    (r2 : ((PyProof.Rows.recsOf q).any fun e => e.name == ("has_form" : Str)) = true) (d2 : K.lookup cG2 = some ⟨e2, dd2, .fields v2, sx2⟩) (j2 : v2[11]? = some (.ref P2)) (n2 : K.lookup P2 = none)
    (a3 : PySem.W.nsIn K mainGlobals "is_tree" = some (some (.ref f3)))
    (l3 : K.lookup f3 = some ⟨oc3, od3, .func (PySem.W.fnOf "is_tree" "is_tree" (defArgs sistree) (defBody sistree) (defScope sistree) .none kV3 dc3 pm3 an3 (.ref cG3) ct3), sl3⟩)
    (c3 : PySem.W.codeIn K (.ref cG3) "is_tree" = true) (k3 : PySem.W.keepIn K (.ref f3) = true)
    (r3 : ((PyProof.Rows.recsOf q).any fun e => e.name == ("is_tree" : Str)) = true) (d3 : K.lookup cG3 = some ⟨e3, dd3, .fields v3, sx3⟩) (j3 : v3[11]? = some (.ref P3)) (n3 : K.lookup P3 = none)
    (a4 : PySem.W.nsIn K mainGlobals "laid_out" = some (some (.ref f4)))
    (l4 : K.lookup f4 = some ⟨oc4, od4, .func (PySem.W.fnOf "laid_out" "laid_out" (defArgs slaidout) (defBody slaidout) (defScope slaidout) .none kV4 dc4 pm4 an4 cd4 ct4), sl4⟩)
    (c4 : PySem.W.codeIn K cd4 "laid_out" = true) (k4 : PySem.W.keepIn K (.ref f4) = true)
    (a5 : PySem.W.nsIn K mainGlobals "worlds_of" = some (some (.ref f5)))
    (l5 : K.lookup f5 = some ⟨oc5, od5, .func (PySem.W.fnOf "worlds_of" "worlds_of" (defArgs sworldsof) (defBody sworldsof) (defScope sworldsof) .none kV5 dc5 pm5 an5 cd5 ct5), sl5⟩)
    (c5 : PySem.W.codeIn K cd5 "worlds_of" = true) (k5 : PySem.W.keepIn K (.ref f5) = true)
    (a6 : PySem.W.nsIn K mainGlobals "_law_pool" = some (some (.ref f6)))
    (l6 : K.lookup f6 = some ⟨oc6, od6, .func (PySem.W.fnOf "_law_pool" "_law_pool" (defArgs sLpool) (defBody sLpool) (defScope sLpool) .none kV6 dc6 pm6 an6 cd6 ct6), sl6⟩)
    (c6 : PySem.W.codeIn K cd6 "_law_pool" = true) (k6 : PySem.W.keepIn K (.ref f6) = true)
    (a7 : PySem.W.nsIn K mainGlobals "_law_take" = some (some (.ref f7)))
    (l7 : K.lookup f7 = some ⟨oc7, od7, .func (PySem.W.fnOf "_law_take" "_law_take" (defArgs sLtake) (defBody sLtake) (defScope sLtake) .none kV7 dc7 pm7 an7 cd7 ct7), sl7⟩)
    (c7 : PySem.W.codeIn K cd7 "_law_take" = true) (k7 : PySem.W.keepIn K (.ref f7) = true)
    (a8 : PySem.W.nsIn K mainGlobals "_law_marks" = some (some (.ref f8)))
    (l8 : K.lookup f8 = some ⟨oc8, od8, .func (PySem.W.fnOf "_law_marks" "_law_marks" (defArgs sLmarks) (defBody sLmarks) (defScope sLmarks) .none kV8 dc8 pm8 an8 cd8 ct8), sl8⟩)
    (c8 : PySem.W.codeIn K cd8 "_law_marks" = true) (k8 : PySem.W.keepIn K (.ref f8) = true)
    (a9 : PySem.W.nsIn K mainGlobals "_law_tree" = some (some (.ref f9)))
    (l9 : K.lookup f9 = some ⟨oc9, od9, .func (PySem.W.fnOf "_law_tree" "_law_tree" (defArgs sLtree) (defBody sLtree) (defScope sLtree) .none kV9 dc9 pm9 an9 cd9 ct9), sl9⟩)
    (c9 : PySem.W.codeIn K cd9 "_law_tree" = true) (k9 : PySem.W.keepIn K (.ref f9) = true)
    (a10 : PySem.W.nsIn K mainGlobals "_law_are_marks" = some (some (.ref f10)))
    (l10 : K.lookup f10 = some ⟨oc10, od10, .func (PySem.W.fnOf "_law_are_marks" "_law_are_marks" (defArgs sLaremarks) (defBody sLaremarks) (defScope sLaremarks) .none kV10 dc10 pm10 an10 cd10 ct10), sl10⟩)
    (c10 : PySem.W.codeIn K cd10 "_law_are_marks" = true) (k10 : PySem.W.keepIn K (.ref f10) = true)
    (a11 : PySem.W.nsIn K mainGlobals "_law_is_tree" = some (some (.ref f11)))
    (l11 : K.lookup f11 = some ⟨oc11, od11, .func (PySem.W.fnOf "_law_is_tree" "_law_is_tree" (defArgs sListree) (defBody sListree) (defScope sListree) .none kV11 dc11 pm11 an11 cd11 ct11), sl11⟩)
    (c11 : PySem.W.codeIn K cd11 "_law_is_tree" = true) (k11 : PySem.W.keepIn K (.ref f11) = true)
    (a12 : PySem.W.nsIn K mainGlobals "_law_all" = some (some (.ref f12)))
    (l12 : K.lookup f12 = some ⟨oc12, od12, .func (PySem.W.fnOf "_law_all" "_law_all" (defArgs sLallv4) (defBody sLallv4) (defScope sLallv4) .none kV12 dc12 pm12 an12 cd12 ct12), sl12⟩)
    (c12 : PySem.W.codeIn K cd12 "_law_all" = true) (k12 : PySem.W.keepIn K (.ref f12) = true)
    (a13 : PySem.W.nsIn K mainGlobals "_law_bent_marks" = some (some (.ref f13)))
    (l13 : K.lookup f13 = some ⟨oc13, od13, .func (PySem.W.fnOf "_law_bent_marks" "_law_bent_marks" (defArgs sLbentmarks) (defBody sLbentmarks) (defScope sLbentmarks) .none kV13 dc13 pm13 an13 cd13 ct13), sl13⟩)
    (c13 : PySem.W.codeIn K cd13 "_law_bent_marks" = true) (k13 : PySem.W.keepIn K (.ref f13) = true)
    (a14 : PySem.W.nsIn K mainGlobals "_law_bent" = some (some (.ref f14)))
    (l14 : K.lookup f14 = some ⟨oc14, od14, .func (PySem.W.fnOf "_law_bent" "_law_bent" (defArgs sLbentv6) (defBody sLbentv6) (defScope sLbentv6) .none kV14 dc14 pm14 an14 cd14 ct14), sl14⟩)
    (c14 : PySem.W.codeIn K cd14 "_law_bent" = true) (k14 : PySem.W.keepIn K (.ref f14) = true)
    (a15 : PySem.W.nsIn K mainGlobals "_law_copied" = some (some (.ref f15)))
    (l15 : K.lookup f15 = some ⟨oc15, od15, .func (PySem.W.fnOf "_law_copied" "_law_copied" (defArgs sLcopied) (defBody sLcopied) (defScope sLcopied) .none kV15 dc15 pm15 an15 cd15 ct15), sl15⟩)
    (c15 : PySem.W.codeIn K cd15 "_law_copied" = true) (k15 : PySem.W.keepIn K (.ref f15) = true)
    (a16 : PySem.W.nsIn K mainGlobals "_law_right" = some (some (.ref f16)))
    (l16 : K.lookup f16 = some ⟨oc16, od16, .func (PySem.W.fnOf "_law_right" "_law_right" (defArgs sLrightv2) (defBody sLrightv2) (defScope sLrightv2) .none kV16 dc16 pm16 an16 cd16 ct16), sl16⟩)
    (c16 : PySem.W.codeIn K cd16 "_law_right" = true) (k16 : PySem.W.keepIn K (.ref f16) = true)
    (zg_is_numbered : PySem.W.nsIn K mainGlobals "is_numbered" = some none)
    (zg_read_spot : PySem.W.nsIn K mainGlobals "read_spot" = some none)
    (zg_which_live : PySem.W.nsIn K mainGlobals "which_live" = some none)
    (zg_row_lives : PySem.W.nsIn K mainGlobals "row_lives" = some none)
    (zg_bars_by : PySem.W.nsIn K mainGlobals "bars_by" = some none)
    (zg_room_above : PySem.W.nsIn K mainGlobals "room_above" = some none)
    (zg_sum_with : PySem.W.nsIn K mainGlobals "sum_with" = some none)
    (zg_is_place : PySem.W.nsIn K mainGlobals "is_place" = some none)
    (zg_is_formed : PySem.W.nsIn K mainGlobals "is_formed" = some none)
    (zg_stand_once : PySem.W.nsIn K mainGlobals "stand_once" = some none)
    (zg_drop_name : PySem.W.nsIn K mainGlobals "drop_name" = some none)
    (zg_read_row : PySem.W.nsIn K mainGlobals "read_row" = some none)
    (zg_is_number : PySem.W.nsIn K mainGlobals "is_number" = some none)
    (z0 : PySem.W.nsIn K mainGlobals "len" = some none)
    (z1 : PySem.W.nsIn K mainGlobals "max" = some none)
    (z2 : PySem.W.nsIn K mainGlobals "min" = some none)
    (z3 : PySem.W.nsIn K mainGlobals "range" = some none)
    (z4 : PySem.W.nsIn K mainGlobals "int" = some none)
    (z5 : PySem.W.nsIn K mainGlobals "str" = some none)
    (z6 : PySem.W.nsIn K mainGlobals "list" = some none)
    (z7 : PySem.W.nsIn K mainGlobals "tuple" = some none)
    (z8 : PySem.W.nsIn K mainGlobals "bool" = some none)
    (z9 : PySem.W.nsIn K mainGlobals "sorted" = some none)
    (z10 : PySem.W.nsIn K mainGlobals "enumerate" = some none)
    (z11 : PySem.W.nsIn K mainGlobals "zip" = some none)
    (z12 : PySem.W.nsIn K mainGlobals "isinstance" = some none)
    (z13 : PySem.W.nsIn K mainGlobals "all" = some none)
    (z14 : PySem.W.nsIn K mainGlobals "any" = some none)
    (z15 : PySem.W.nsIn K mainGlobals "sum" = some none)
    (z16 : PySem.W.nsIn K mainGlobals "dict" = some none)
    (z17 : PySem.W.nsIn K mainGlobals "set" = some none)
    (z18 : PySem.W.nsIn K mainGlobals "divmod" = some none)
    (z19 : PySem.W.nsIn K mainGlobals "reversed" = some none)
    (z20 : PySem.W.nsIn K mainGlobals "repr" = some none)
    (y0 : PySem.W.nsIn K mainGlobals "DEEPEST" = some (some (.int 40 u0)))
    (y1 : PySem.W.nsIn K mainGlobals "LETTERS" = some (some (.str "abcdefghijklmnopqrstuvwxyz" u1)))
    (y2 : PySem.W.nsIn K mainGlobals "LONGEST" = some (some (.int 6 u2))) :
    LamX.LawAtS l w K CX0 100 63 "_law_script" mg fa h := by
  have e := hfa.symm.trans (PySem.W.mg_of X G a0)
  cases e
  have F0 := fun_mk (st := slawk34) l0 c0 k0
  have FC1 : Vl.FunC K "is_mark" "is_mark" sismark f1 _ cG1 := ⟨⟨_, _, _, _, _, _, _, _, rfl, l1, c1⟩, k1⟩
  have F1 := FC1.fun
  have b1 := F1.binds (ps := ["text"]) fun _ _ _ _ _ _ us hl => match us, hl with | [_], _ => rfl
  have g1 := PySem.W.mg_of X G a1
  have T1 := T.tab X r1 g1 l1 rfl d1 j1
  have FC2 : Vl.FunC K "has_form" "has_form" shasformv4 f2 _ cG2 := ⟨⟨_, _, _, _, _, _, _, _, rfl, l2, c2⟩, k2⟩
  have F2 := FC2.fun
  have b2 := F2.binds (ps := ["thing"]) fun _ _ _ _ _ _ us hl => match us, hl with | [_], _ => rfl
  have g2 := PySem.W.mg_of X G a2
  have T2 := T.tab X r2 g2 l2 rfl d2 j2
  have FC3 : Vl.FunC K "is_tree" "is_tree" sistree f3 _ cG3 := ⟨⟨_, _, _, _, _, _, _, _, rfl, l3, c3⟩, k3⟩
  have F3 := FC3.fun
  have b3 := F3.binds (ps := ["thing"]) fun _ _ _ _ _ _ us hl => match us, hl with | [_], _ => rfl
  have g3 := PySem.W.mg_of X G a3
  have T3 := T.tab X r3 g3 l3 rfl d3 j3
  have F4 := fun_mk (st := slaidout) l4 c4 k4
  have b4 := F4.binds (ps := ["tree"]) fun _ _ _ _ _ _ us hl => match us, hl with | [_], _ => rfl
  have g4 := PySem.W.mg_of X G a4
  have F5 := fun_mk (st := sworldsof) l5 c5 k5
  have b5 := F5.binds (ps := ["tree"]) fun _ _ _ _ _ _ us hl => match us, hl with | [_], _ => rfl
  have g5 := PySem.W.mg_of X G a5
  have F6 := fun_mk (st := sLpool) l6 c6 k6
  have b6 := F6.binds (ps := ["_law_script", "_law_k"]) fun _ _ _ _ _ _ us hl => match us, hl with | [_, _], _ => rfl
  have g6 := PySem.W.mg_of X G a6
  have F7 := fun_mk (st := sLtake) l7 c7 k7
  have b7 := F7.binds (ps := ["_law_pool_here", "_law_many"]) fun _ _ _ _ _ _ us hl => match us, hl with | [_, _], _ => rfl
  have g7 := PySem.W.mg_of X G a7
  have F8 := fun_mk (st := sLmarks) l8 c8 k8
  have b8 := F8.binds (ps := ["_law_pool_here"]) fun _ _ _ _ _ _ us hl => match us, hl with | [_], _ => rfl
  have g8 := PySem.W.mg_of X G a8
  have F9 := fun_mk (st := sLtree) l9 c9 k9
  have b9 := F9.binds (ps := ["_law_pool_here", "_law_marks_here", "_law_had", "_law_room"]) fun _ _ _ _ _ _ us hl => match us, hl with | [_, _, _, _], _ => rfl
  have g9 := PySem.W.mg_of X G a9
  have F10 := fun_mk (st := sLaremarks) l10 c10 k10
  have b10 := F10.binds (ps := ["_law_thing"]) fun _ _ _ _ _ _ us hl => match us, hl with | [_], _ => rfl
  have g10 := PySem.W.mg_of X G a10
  have F11 := fun_mk (st := sListree) l11 c11 k11
  have b11 := F11.binds (ps := ["_law_thing", "_law_room"]) fun _ _ _ _ _ _ us hl => match us, hl with | [_, _], _ => rfl
  have g11 := PySem.W.mg_of X G a11
  have F12 := fun_mk (st := sLallv4) l12 c12 k12
  have b12 := F12.binds (ps := ["_law_tree_here"]) fun _ _ _ _ _ _ us hl => match us, hl with | [_], _ => rfl
  have g12 := PySem.W.mg_of X G a12
  have F13 := fun_mk (st := sLbentmarks) l13 c13 k13
  have b13 := F13.binds (ps := ["_law_marks_here", "_law_pool_here"]) fun _ _ _ _ _ _ us hl => match us, hl with | [_, _], _ => rfl
  have g13 := PySem.W.mg_of X G a13
  have F14 := fun_mk (st := sLbentv6) l14 c14 k14
  have b14 := F14.binds (ps := ["_law_tree_here", "_law_pool_here"]) fun _ _ _ _ _ _ us hl => match us, hl with | [_, _], _ => rfl
  have g14 := PySem.W.mg_of X G a14
  have F15 := fun_mk (st := sLcopied) l15 c15 k15
  have b15 := F15.binds (ps := ["_law_thing"]) fun _ _ _ _ _ _ us hl => match us, hl with | [_], _ => rfl
  have g15 := PySem.W.mg_of X G a15
  have F16 := fun_mk (st := sLrightv2) l16 c16 k16
  have b16 := F16.binds (ps := ["_law_thing"]) fun _ _ _ _ _ _ us hl => match us, hl with | [_], _ => rfl
  have g16 := PySem.W.mg_of X G a16
  have m0 := PySem.W.mg_none_of X G z0
  have m1 := PySem.W.mg_none_of X G z1
  have m2 := PySem.W.mg_none_of X G z2
  have m3 := PySem.W.mg_none_of X G z3
  have m4 := PySem.W.mg_none_of X G z4
  have m5 := PySem.W.mg_none_of X G z5
  have m6 := PySem.W.mg_none_of X G z6
  have m7 := PySem.W.mg_none_of X G z7
  have m8 := PySem.W.mg_none_of X G z8
  have m9 := PySem.W.mg_none_of X G z9
  have m10 := PySem.W.mg_none_of X G z10
  have m11 := PySem.W.mg_none_of X G z11
  have m12 := PySem.W.mg_none_of X G z12
  have m13 := PySem.W.mg_none_of X G z13
  have m14 := PySem.W.mg_none_of X G z14
  have m15 := PySem.W.mg_none_of X G z15
  have m16 := PySem.W.mg_none_of X G z16
  have m17 := PySem.W.mg_none_of X G z17
  have m18 := PySem.W.mg_none_of X G z18
  have m19 := PySem.W.mg_none_of X G z19
  have m20 := PySem.W.mg_none_of X G z20
  have x0 := PySem.W.mg_of X G y0
  have x1 := PySem.W.mg_of X G y1
  have x2 := PySem.W.mg_of X G y2
  have tg : ∀ H : Hp, (∀ p ∈ ([(cG1, P1), (cG2, P2), (cG3, P3)] : List (Addr × Addr)), H p.2 = some (.tbl #[])) → ∀ P, TbK K P → GxR.TabG H P := fun H hT P ⟨nm, hm, gq, c, ht⟩ => by
    simp only [genNames, List.mem_cons, List.not_mem_nil, or_false] at hm
    rcases hm with rfl | rfl | rfl | rfl | rfl | rfl | rfl | rfl | rfl | rfl | rfl | rfl | rfl | rfl | rfl | rfl
    · rw [tbAt_one a1 l1 rfl d1 j1 ht]
      exact tabG_of (hT (cG1, P1) List.mem_cons_self)
    · exact absurd ht (tbAt_no zg_is_numbered)
    · exact absurd ht (tbAt_no zg_read_spot)
    · rw [tbAt_one a3 l3 rfl d3 j3 ht]
      exact tabG_of (hT (cG3, P3) (List.mem_cons_of_mem _ (List.mem_cons_of_mem _ List.mem_cons_self)))
    · rw [tbAt_one a2 l2 rfl d2 j2 ht]
      exact tabG_of (hT (cG2, P2) (List.mem_cons_of_mem _ List.mem_cons_self))
    · exact absurd ht (tbAt_no zg_which_live)
    · exact absurd ht (tbAt_no zg_row_lives)
    · exact absurd ht (tbAt_no zg_bars_by)
    · exact absurd ht (tbAt_no zg_room_above)
    · exact absurd ht (tbAt_no zg_sum_with)
    · exact absurd ht (tbAt_no zg_is_place)
    · exact absurd ht (tbAt_no zg_is_formed)
    · exact absurd ht (tbAt_no zg_stand_once)
    · exact absurd ht (tbAt_no zg_drop_name)
    · exact absurd ht (tbAt_no zg_read_row)
    · exact absurd ht (tbAt_no zg_is_number)
  refine ⟨PySem.W.fnOf "law" "law" (defArgs slawk34) (defBody slawk34) (defScope slawk34) .none kV0 dc0 pm0 an0 cd0 ct0, [(cG1, P1), (cG2, P2), (cG3, P3)], spLaw K, ?_, ?_, ?_, fun s v => .of_eq rfl, fun H a ns hl _ hT hS => ⟨a, ns, rfl, hS, hl, tg H hT, fun _ => rfl⟩, fun base _ _ hB => by
    have D_ismark : DfC K mg base "is_mark" sismark ["text"] cG1 P1 := ⟨⟨_, _, FC1, b1, g1⟩, tb_conv (hB (cG1, P1) (by simp)), ⟨"is_mark", by simp [genNames], fun h => absurd h (by decide +kernel), cG1, _, _, _, _, _, _, _, _, _, a1, l1, rfl, d1, j1⟩⟩
    have D_hasformv4 : DfC K mg base "has_form" shasformv4 ["thing"] cG2 P2 := ⟨⟨_, _, FC2, b2, g2⟩, tb_conv (hB (cG2, P2) (by simp)), ⟨"has_form", by simp [genNames], fun _ => ⟨_, a3⟩, cG2, _, _, _, _, _, _, _, _, _, a2, l2, rfl, d2, j2⟩⟩
    have D_istree : DfC K mg base "is_tree" sistree ["thing"] cG3 P3 := ⟨⟨_, _, FC3, b3, g3⟩, tb_conv (hB (cG3, P3) (by simp)), ⟨"is_tree", by simp [genNames], fun h => absurd h (by decide +kernel), cG3, _, _, _, _, _, _, _, _, _, a3, l3, rfl, d3, j3⟩⟩
    have D_laidout : Df K mg "laid_out" slaidout ["tree"] := ⟨_, _, F4, b4, g4⟩
    have D_worldsof : Df K mg "worlds_of" sworldsof ["tree"] := ⟨_, _, F5, b5, g5⟩
    have D_Lpool : Df K mg "_law_pool" sLpool ["_law_script", "_law_k"] := ⟨_, _, F6, b6, g6⟩
    have D_Ltake : Df K mg "_law_take" sLtake ["_law_pool_here", "_law_many"] := ⟨_, _, F7, b7, g7⟩
    have D_Lmarks : Df K mg "_law_marks" sLmarks ["_law_pool_here"] := ⟨_, _, F8, b8, g8⟩
    have D_Ltree : Df K mg "_law_tree" sLtree ["_law_pool_here", "_law_marks_here", "_law_had", "_law_room"] := ⟨_, _, F9, b9, g9⟩
    have D_Laremarks : Df K mg "_law_are_marks" sLaremarks ["_law_thing"] := ⟨_, _, F10, b10, g10⟩
    have D_Listree : Df K mg "_law_is_tree" sListree ["_law_thing", "_law_room"] := ⟨_, _, F11, b11, g11⟩
    have D_Lallv4 : Df K mg "_law_all" sLallv4 ["_law_tree_here"] := ⟨_, _, F12, b12, g12⟩
    have D_Lbentmarks : Df K mg "_law_bent_marks" sLbentmarks ["_law_marks_here", "_law_pool_here"] := ⟨_, _, F13, b13, g13⟩
    have D_Lbentv6 : Df K mg "_law_bent" sLbentv6 ["_law_tree_here", "_law_pool_here"] := ⟨_, _, F14, b14, g14⟩
    have D_Lcopied : Df K mg "_law_copied" sLcopied ["_law_thing"] := ⟨_, _, F15, b15, g15⟩
    have D_Lrightv2 : Df K mg "_law_right" sLrightv2 ["_law_thing"] := ⟨_, _, F16, b16, g16⟩
    have B : Blt mg := ⟨m0, m1, m2, m3, m4, m5, m6, m7, m8, m9, m10, m11, m12, m13, m14, m15, m16, m17, m18, m19, m20⟩
    have C_DEEPEST : VConst K mg "DEEPEST" (.int 40) := ⟨(.int 40), _, x0, ⟨_, rfl⟩, fun _ => .int _⟩
    have C_LETTERS : VConst K mg "LETTERS" (.str "abcdefghijklmnopqrstuvwxyz") := ⟨(.str "abcdefghijklmnopqrstuvwxyz"), _, x1, ⟨_, rfl⟩, fun _ => .str _⟩
    have C_LONGEST : VConst K mg "LONGEST" (.int 6) := ⟨(.int 6), _, x2, ⟨_, rfl⟩, fun _ => .int _⟩
    have G_ismark : VFn l.prog w K mg base 2 "is_mark" ["text"] pMkD := ok_ismark D_ismark (by omega) C_LETTERS C_LONGEST B (fun ss st Kp h => by first | (obtain ⟨h, _⟩ := h; rw [h]; rfl) | (obtain ⟨_, h, _⟩ := h; rw [h]; rfl) | (obtain ⟨_, _, h, _⟩ := h; rw [h]; rfl) | (obtain ⟨_, _, _, h, _⟩ := h; rw [h]; rfl) | (obtain ⟨_, _, _, _, h, _⟩ := h; rw [h]; rfl) | (obtain ⟨_, _, _, _, _, h, _⟩ := h; rw [h]; rfl) | (obtain ⟨_, _, _, _, _, _, h, _⟩ := h; rw [h]; rfl) | (obtain ⟨_, _, _, _, _, _, _, h, _⟩ := h; rw [h]; rfl) | (obtain ⟨_, _, _, _, _, _, _, _, h, _⟩ := h; rw [h]; rfl) | (obtain ⟨_, _, _, _, _, _, _, _, _, h, _⟩ := h; rw [h]; rfl) | (obtain ⟨_, _, _, _, _, _, _, _, _, _, h, _⟩ := h; rw [h]; rfl) | (obtain ⟨_, _, _, _, _, _, _, _, _, _, _, h, _⟩ := h; rw [h]; rfl) | (obtain ⟨_, _, _, _, _, _, _, _, _, _, _, _, h, _⟩ := h; rw [h]; rfl) | (obtain ⟨_, _, _, _, _, _, _, _, _, _, _, _, _, h, _⟩ := h; rw [h]; rfl) | (obtain ⟨_, _, _, h, _⟩ := i_take h; rw [h]; rfl)) (fun ss cs Kp h => r_mkD h)
    have G_hasformv4 : VFn l.prog w K mg base 4 "has_form" ["thing"] pHfD := ok_hasformv4 D_hasformv4 G_ismark (by omega) (by omega) (by omega) B (fun ss st Kp h => by first | (obtain ⟨h, _⟩ := h; rw [h]; rfl) | (obtain ⟨_, h, _⟩ := h; rw [h]; rfl) | (obtain ⟨_, _, h, _⟩ := h; rw [h]; rfl) | (obtain ⟨_, _, _, h, _⟩ := h; rw [h]; rfl) | (obtain ⟨_, _, _, _, h, _⟩ := h; rw [h]; rfl) | (obtain ⟨_, _, _, _, _, h, _⟩ := h; rw [h]; rfl) | (obtain ⟨_, _, _, _, _, _, h, _⟩ := h; rw [h]; rfl) | (obtain ⟨_, _, _, _, _, _, _, h, _⟩ := h; rw [h]; rfl) | (obtain ⟨_, _, _, _, _, _, _, _, h, _⟩ := h; rw [h]; rfl) | (obtain ⟨_, _, _, _, _, _, _, _, _, h, _⟩ := h; rw [h]; rfl) | (obtain ⟨_, _, _, _, _, _, _, _, _, _, h, _⟩ := h; rw [h]; rfl) | (obtain ⟨_, _, _, _, _, _, _, _, _, _, _, h, _⟩ := h; rw [h]; rfl) | (obtain ⟨_, _, _, _, _, _, _, _, _, _, _, _, h, _⟩ := h; rw [h]; rfl) | (obtain ⟨_, _, _, _, _, _, _, _, _, _, _, _, _, h, _⟩ := h; rw [h]; rfl) | (obtain ⟨_, _, _, h, _⟩ := i_take h; rw [h]; rfl)) (fun ss cs Kp h => r_hfD h)
    have G_istree : VFn l.prog w K mg base 5 "is_tree" ["thing"] pIsTree := ok_istree D_istree G_hasformv4 (by omega) (by omega) C_DEEPEST B (fun ss st Kp h => by first | (obtain ⟨h, _⟩ := h; rw [h]; rfl) | (obtain ⟨_, h, _⟩ := h; rw [h]; rfl) | (obtain ⟨_, _, h, _⟩ := h; rw [h]; rfl) | (obtain ⟨_, _, _, h, _⟩ := h; rw [h]; rfl) | (obtain ⟨_, _, _, _, h, _⟩ := h; rw [h]; rfl) | (obtain ⟨_, _, _, _, _, h, _⟩ := h; rw [h]; rfl) | (obtain ⟨_, _, _, _, _, _, h, _⟩ := h; rw [h]; rfl) | (obtain ⟨_, _, _, _, _, _, _, h, _⟩ := h; rw [h]; rfl) | (obtain ⟨_, _, _, _, _, _, _, _, h, _⟩ := h; rw [h]; rfl) | (obtain ⟨_, _, _, _, _, _, _, _, _, h, _⟩ := h; rw [h]; rfl) | (obtain ⟨_, _, _, _, _, _, _, _, _, _, h, _⟩ := h; rw [h]; rfl) | (obtain ⟨_, _, _, _, _, _, _, _, _, _, _, h, _⟩ := h; rw [h]; rfl) | (obtain ⟨_, _, _, _, _, _, _, _, _, _, _, _, h, _⟩ := h; rw [h]; rfl) | (obtain ⟨_, _, _, _, _, _, _, _, _, _, _, _, _, h, _⟩ := h; rw [h]; rfl) | (obtain ⟨_, _, _, h, _⟩ := i_take h; rw [h]; rfl)) (fun ss cs Kp h => r_istree h)
    have G_laidout : VFn l.prog w K mg base 1 "laid_out" ["tree"] pLaid := ok_laidout D_laidout B (fun ss st Kp h => by first | (obtain ⟨h, _⟩ := h; rw [h]; rfl) | (obtain ⟨_, h, _⟩ := h; rw [h]; rfl) | (obtain ⟨_, _, h, _⟩ := h; rw [h]; rfl) | (obtain ⟨_, _, _, h, _⟩ := h; rw [h]; rfl) | (obtain ⟨_, _, _, _, h, _⟩ := h; rw [h]; rfl) | (obtain ⟨_, _, _, _, _, h, _⟩ := h; rw [h]; rfl) | (obtain ⟨_, _, _, _, _, _, h, _⟩ := h; rw [h]; rfl) | (obtain ⟨_, _, _, _, _, _, _, h, _⟩ := h; rw [h]; rfl) | (obtain ⟨_, _, _, _, _, _, _, _, h, _⟩ := h; rw [h]; rfl) | (obtain ⟨_, _, _, _, _, _, _, _, _, h, _⟩ := h; rw [h]; rfl) | (obtain ⟨_, _, _, _, _, _, _, _, _, _, h, _⟩ := h; rw [h]; rfl) | (obtain ⟨_, _, _, _, _, _, _, _, _, _, _, h, _⟩ := h; rw [h]; rfl) | (obtain ⟨_, _, _, _, _, _, _, _, _, _, _, _, h, _⟩ := h; rw [h]; rfl) | (obtain ⟨_, _, _, _, _, _, _, _, _, _, _, _, _, h, _⟩ := h; rw [h]; rfl) | (obtain ⟨_, _, _, h, _⟩ := i_take h; rw [h]; rfl)) (fun ss cs Kp h => r_laid h)
    have G_worldsof : VFn l.prog w K mg base 2 "worlds_of" ["tree"] pWorlds := ok_worldsof D_worldsof G_laidout (by omega) B (fun ss st Kp h => by first | (obtain ⟨h, _⟩ := h; rw [h]; rfl) | (obtain ⟨_, h, _⟩ := h; rw [h]; rfl) | (obtain ⟨_, _, h, _⟩ := h; rw [h]; rfl) | (obtain ⟨_, _, _, h, _⟩ := h; rw [h]; rfl) | (obtain ⟨_, _, _, _, h, _⟩ := h; rw [h]; rfl) | (obtain ⟨_, _, _, _, _, h, _⟩ := h; rw [h]; rfl) | (obtain ⟨_, _, _, _, _, _, h, _⟩ := h; rw [h]; rfl) | (obtain ⟨_, _, _, _, _, _, _, h, _⟩ := h; rw [h]; rfl) | (obtain ⟨_, _, _, _, _, _, _, _, h, _⟩ := h; rw [h]; rfl) | (obtain ⟨_, _, _, _, _, _, _, _, _, h, _⟩ := h; rw [h]; rfl) | (obtain ⟨_, _, _, _, _, _, _, _, _, _, h, _⟩ := h; rw [h]; rfl) | (obtain ⟨_, _, _, _, _, _, _, _, _, _, _, h, _⟩ := h; rw [h]; rfl) | (obtain ⟨_, _, _, _, _, _, _, _, _, _, _, _, h, _⟩ := h; rw [h]; rfl) | (obtain ⟨_, _, _, _, _, _, _, _, _, _, _, _, _, h, _⟩ := h; rw [h]; rfl) | (obtain ⟨_, _, _, h, _⟩ := i_take h; rw [h]; rfl)) (fun ss cs Kp h => r_worlds h)
    have G_Lpool : VFn l.prog w K mg base 1 "_law_pool" ["_law_script", "_law_k"] pPool := ok_Lpool D_Lpool B (fun ss st Kp h => by first | (obtain ⟨h, _⟩ := h; rw [h]; rfl) | (obtain ⟨_, h, _⟩ := h; rw [h]; rfl) | (obtain ⟨_, _, h, _⟩ := h; rw [h]; rfl) | (obtain ⟨_, _, _, h, _⟩ := h; rw [h]; rfl) | (obtain ⟨_, _, _, _, h, _⟩ := h; rw [h]; rfl) | (obtain ⟨_, _, _, _, _, h, _⟩ := h; rw [h]; rfl) | (obtain ⟨_, _, _, _, _, _, h, _⟩ := h; rw [h]; rfl) | (obtain ⟨_, _, _, _, _, _, _, h, _⟩ := h; rw [h]; rfl) | (obtain ⟨_, _, _, _, _, _, _, _, h, _⟩ := h; rw [h]; rfl) | (obtain ⟨_, _, _, _, _, _, _, _, _, h, _⟩ := h; rw [h]; rfl) | (obtain ⟨_, _, _, _, _, _, _, _, _, _, h, _⟩ := h; rw [h]; rfl) | (obtain ⟨_, _, _, _, _, _, _, _, _, _, _, h, _⟩ := h; rw [h]; rfl) | (obtain ⟨_, _, _, _, _, _, _, _, _, _, _, _, h, _⟩ := h; rw [h]; rfl) | (obtain ⟨_, _, _, _, _, _, _, _, _, _, _, _, _, h, _⟩ := h; rw [h]; rfl) | (obtain ⟨_, _, _, h, _⟩ := i_take h; rw [h]; rfl)) (fun ss cs Kp h => r_pool h)
    have G_Ltake : VFn l.prog w K mg base 1 "_law_take" ["_law_pool_here", "_law_many"] pTake := ok_Ltake D_Ltake (fun ss st Kp h => by first | (obtain ⟨h, _⟩ := h; rw [h]; rfl) | (obtain ⟨_, h, _⟩ := h; rw [h]; rfl) | (obtain ⟨_, _, h, _⟩ := h; rw [h]; rfl) | (obtain ⟨_, _, _, h, _⟩ := h; rw [h]; rfl) | (obtain ⟨_, _, _, _, h, _⟩ := h; rw [h]; rfl) | (obtain ⟨_, _, _, _, _, h, _⟩ := h; rw [h]; rfl) | (obtain ⟨_, _, _, _, _, _, h, _⟩ := h; rw [h]; rfl) | (obtain ⟨_, _, _, _, _, _, _, h, _⟩ := h; rw [h]; rfl) | (obtain ⟨_, _, _, _, _, _, _, _, h, _⟩ := h; rw [h]; rfl) | (obtain ⟨_, _, _, _, _, _, _, _, _, h, _⟩ := h; rw [h]; rfl) | (obtain ⟨_, _, _, _, _, _, _, _, _, _, h, _⟩ := h; rw [h]; rfl) | (obtain ⟨_, _, _, _, _, _, _, _, _, _, _, h, _⟩ := h; rw [h]; rfl) | (obtain ⟨_, _, _, _, _, _, _, _, _, _, _, _, h, _⟩ := h; rw [h]; rfl) | (obtain ⟨_, _, _, _, _, _, _, _, _, _, _, _, _, h, _⟩ := h; rw [h]; rfl) | (obtain ⟨_, _, _, h, _⟩ := i_take h; rw [h]; rfl)) (fun ss cs Kp h => r_take h)
    have G_Lmarks : VFn l.prog w K mg base 2 "_law_marks" ["_law_pool_here"] pMarks := ok_Lmarks D_Lmarks G_Ltake (by omega) B (fun ss st Kp h => by first | (obtain ⟨h, _⟩ := h; rw [h]; rfl) | (obtain ⟨_, h, _⟩ := h; rw [h]; rfl) | (obtain ⟨_, _, h, _⟩ := h; rw [h]; rfl) | (obtain ⟨_, _, _, h, _⟩ := h; rw [h]; rfl) | (obtain ⟨_, _, _, _, h, _⟩ := h; rw [h]; rfl) | (obtain ⟨_, _, _, _, _, h, _⟩ := h; rw [h]; rfl) | (obtain ⟨_, _, _, _, _, _, h, _⟩ := h; rw [h]; rfl) | (obtain ⟨_, _, _, _, _, _, _, h, _⟩ := h; rw [h]; rfl) | (obtain ⟨_, _, _, _, _, _, _, _, h, _⟩ := h; rw [h]; rfl) | (obtain ⟨_, _, _, _, _, _, _, _, _, h, _⟩ := h; rw [h]; rfl) | (obtain ⟨_, _, _, _, _, _, _, _, _, _, h, _⟩ := h; rw [h]; rfl) | (obtain ⟨_, _, _, _, _, _, _, _, _, _, _, h, _⟩ := h; rw [h]; rfl) | (obtain ⟨_, _, _, _, _, _, _, _, _, _, _, _, h, _⟩ := h; rw [h]; rfl) | (obtain ⟨_, _, _, _, _, _, _, _, _, _, _, _, _, h, _⟩ := h; rw [h]; rfl) | (obtain ⟨_, _, _, h, _⟩ := i_take h; rw [h]; rfl)) (fun ss cs Kp h => r_marks h)
    have R_Ltree : ∀ N : Nat, VFn l.prog w K mg base (N + 1) "_law_tree" ["_law_pool_here", "_law_marks_here", "_law_had", "_law_room"] (pTree34 N) := by
      intro N
      induction N with
      | zero => exact vacF D_Ltree scLtree (fun ss st Kp ⟨_, _, _, _, _, h, _⟩ => by omega)
      | succ N ih => exact ok_Ltree D_Ltree G_Ltake (by omega) ih (by omega) B (fun ss st Kp h => by first | (obtain ⟨h, _⟩ := h; rw [h]; rfl) | (obtain ⟨_, h, _⟩ := h; rw [h]; rfl) | (obtain ⟨_, _, h, _⟩ := h; rw [h]; rfl) | (obtain ⟨_, _, _, h, _⟩ := h; rw [h]; rfl) | (obtain ⟨_, _, _, _, h, _⟩ := h; rw [h]; rfl) | (obtain ⟨_, _, _, _, _, h, _⟩ := h; rw [h]; rfl) | (obtain ⟨_, _, _, _, _, _, h, _⟩ := h; rw [h]; rfl) | (obtain ⟨_, _, _, _, _, _, _, h, _⟩ := h; rw [h]; rfl) | (obtain ⟨_, _, _, _, _, _, _, _, h, _⟩ := h; rw [h]; rfl) | (obtain ⟨_, _, _, _, _, _, _, _, _, h, _⟩ := h; rw [h]; rfl) | (obtain ⟨_, _, _, _, _, _, _, _, _, _, h, _⟩ := h; rw [h]; rfl) | (obtain ⟨_, _, _, _, _, _, _, _, _, _, _, h, _⟩ := h; rw [h]; rfl) | (obtain ⟨_, _, _, _, _, _, _, _, _, _, _, _, h, _⟩ := h; rw [h]; rfl) | (obtain ⟨_, _, _, _, _, _, _, _, _, _, _, _, _, h, _⟩ := h; rw [h]; rfl) | (obtain ⟨_, _, _, h, _⟩ := i_take h; rw [h]; rfl)) (fun ss cs Kp h => r_Tree34 h)
    have G_Ltree := R_Ltree 4
    have G_Laremarks : VFn l.prog w K mg base 1 "_law_are_marks" ["_law_thing"] pAre := ok_Laremarks D_Laremarks B (fun ss st Kp h => by first | (obtain ⟨h, _⟩ := h; rw [h]; rfl) | (obtain ⟨_, h, _⟩ := h; rw [h]; rfl) | (obtain ⟨_, _, h, _⟩ := h; rw [h]; rfl) | (obtain ⟨_, _, _, h, _⟩ := h; rw [h]; rfl) | (obtain ⟨_, _, _, _, h, _⟩ := h; rw [h]; rfl) | (obtain ⟨_, _, _, _, _, h, _⟩ := h; rw [h]; rfl) | (obtain ⟨_, _, _, _, _, _, h, _⟩ := h; rw [h]; rfl) | (obtain ⟨_, _, _, _, _, _, _, h, _⟩ := h; rw [h]; rfl) | (obtain ⟨_, _, _, _, _, _, _, _, h, _⟩ := h; rw [h]; rfl) | (obtain ⟨_, _, _, _, _, _, _, _, _, h, _⟩ := h; rw [h]; rfl) | (obtain ⟨_, _, _, _, _, _, _, _, _, _, h, _⟩ := h; rw [h]; rfl) | (obtain ⟨_, _, _, _, _, _, _, _, _, _, _, h, _⟩ := h; rw [h]; rfl) | (obtain ⟨_, _, _, _, _, _, _, _, _, _, _, _, h, _⟩ := h; rw [h]; rfl) | (obtain ⟨_, _, _, _, _, _, _, _, _, _, _, _, _, h, _⟩ := h; rw [h]; rfl) | (obtain ⟨_, _, _, h, _⟩ := i_take h; rw [h]; rfl)) (fun ss cs Kp h => r_are h)
    have R_Listree : ∀ N : Nat, VFn l.prog w K mg base (N + 1) "_law_is_tree" ["_law_thing", "_law_room"] (pLisT N) := by
      intro N
      induction N with
      | zero => exact vacF D_Listree scListree (fun ss st Kp ⟨_, _, h, _⟩ => by omega)
      | succ N ih => exact ok_Listree D_Listree G_Laremarks (by omega) ih (by omega) B (fun ss st Kp h => by first | (obtain ⟨h, _⟩ := h; rw [h]; rfl) | (obtain ⟨_, h, _⟩ := h; rw [h]; rfl) | (obtain ⟨_, _, h, _⟩ := h; rw [h]; rfl) | (obtain ⟨_, _, _, h, _⟩ := h; rw [h]; rfl) | (obtain ⟨_, _, _, _, h, _⟩ := h; rw [h]; rfl) | (obtain ⟨_, _, _, _, _, h, _⟩ := h; rw [h]; rfl) | (obtain ⟨_, _, _, _, _, _, h, _⟩ := h; rw [h]; rfl) | (obtain ⟨_, _, _, _, _, _, _, h, _⟩ := h; rw [h]; rfl) | (obtain ⟨_, _, _, _, _, _, _, _, h, _⟩ := h; rw [h]; rfl) | (obtain ⟨_, _, _, _, _, _, _, _, _, h, _⟩ := h; rw [h]; rfl) | (obtain ⟨_, _, _, _, _, _, _, _, _, _, h, _⟩ := h; rw [h]; rfl) | (obtain ⟨_, _, _, _, _, _, _, _, _, _, _, h, _⟩ := h; rw [h]; rfl) | (obtain ⟨_, _, _, _, _, _, _, _, _, _, _, _, h, _⟩ := h; rw [h]; rfl) | (obtain ⟨_, _, _, _, _, _, _, _, _, _, _, _, _, h, _⟩ := h; rw [h]; rfl) | (obtain ⟨_, _, _, h, _⟩ := i_take h; rw [h]; rfl)) (fun ss cs Kp h => r_LisT h)
    have G_Listree := R_Listree 41
    have R_Lallv4 : ∀ N : Nat, VFn l.prog w K mg base (N + 1) "_law_all" ["_law_tree_here"] (pAllT N) := by
      intro N
      induction N with
      | zero => exact vacF D_Lallv4 scLallv4 (fun ss st Kp ⟨_, _, _, h, _⟩ => by omega)
      | succ N ih => exact ok_Lallv4 D_Lallv4 ih (by omega) (fun ss st Kp h => by first | (obtain ⟨h, _⟩ := h; rw [h]; rfl) | (obtain ⟨_, h, _⟩ := h; rw [h]; rfl) | (obtain ⟨_, _, h, _⟩ := h; rw [h]; rfl) | (obtain ⟨_, _, _, h, _⟩ := h; rw [h]; rfl) | (obtain ⟨_, _, _, _, h, _⟩ := h; rw [h]; rfl) | (obtain ⟨_, _, _, _, _, h, _⟩ := h; rw [h]; rfl) | (obtain ⟨_, _, _, _, _, _, h, _⟩ := h; rw [h]; rfl) | (obtain ⟨_, _, _, _, _, _, _, h, _⟩ := h; rw [h]; rfl) | (obtain ⟨_, _, _, _, _, _, _, _, h, _⟩ := h; rw [h]; rfl) | (obtain ⟨_, _, _, _, _, _, _, _, _, h, _⟩ := h; rw [h]; rfl) | (obtain ⟨_, _, _, _, _, _, _, _, _, _, h, _⟩ := h; rw [h]; rfl) | (obtain ⟨_, _, _, _, _, _, _, _, _, _, _, h, _⟩ := h; rw [h]; rfl) | (obtain ⟨_, _, _, _, _, _, _, _, _, _, _, _, h, _⟩ := h; rw [h]; rfl) | (obtain ⟨_, _, _, _, _, _, _, _, _, _, _, _, _, h, _⟩ := h; rw [h]; rfl) | (obtain ⟨_, _, _, h, _⟩ := i_take h; rw [h]; rfl)) (fun ss cs Kp h => r_AllT h)
    have G_Lallv4 := R_Lallv4 41
    have G_Lbentmarks : VFn l.prog w K mg base 2 "_law_bent_marks" ["_law_marks_here", "_law_pool_here"] pBm := ok_Lbentmarks D_Lbentmarks G_Ltake (by omega) B (fun ss st Kp h => by first | (obtain ⟨h, _⟩ := h; rw [h]; rfl) | (obtain ⟨_, h, _⟩ := h; rw [h]; rfl) | (obtain ⟨_, _, h, _⟩ := h; rw [h]; rfl) | (obtain ⟨_, _, _, h, _⟩ := h; rw [h]; rfl) | (obtain ⟨_, _, _, _, h, _⟩ := h; rw [h]; rfl) | (obtain ⟨_, _, _, _, _, h, _⟩ := h; rw [h]; rfl) | (obtain ⟨_, _, _, _, _, _, h, _⟩ := h; rw [h]; rfl) | (obtain ⟨_, _, _, _, _, _, _, h, _⟩ := h; rw [h]; rfl) | (obtain ⟨_, _, _, _, _, _, _, _, h, _⟩ := h; rw [h]; rfl) | (obtain ⟨_, _, _, _, _, _, _, _, _, h, _⟩ := h; rw [h]; rfl) | (obtain ⟨_, _, _, _, _, _, _, _, _, _, h, _⟩ := h; rw [h]; rfl) | (obtain ⟨_, _, _, _, _, _, _, _, _, _, _, h, _⟩ := h; rw [h]; rfl) | (obtain ⟨_, _, _, _, _, _, _, _, _, _, _, _, h, _⟩ := h; rw [h]; rfl) | (obtain ⟨_, _, _, _, _, _, _, _, _, _, _, _, _, h, _⟩ := h; rw [h]; rfl) | (obtain ⟨_, _, _, h, _⟩ := i_take h; rw [h]; rfl)) (fun ss cs Kp h => r_Bm h)
    have R_Lbentv6 : ∀ N : Nat, VFn l.prog w K mg base (N + 2) "_law_bent" ["_law_tree_here", "_law_pool_here"] (pBent34 N) := by
      intro N
      induction N with
      | zero => exact vacF D_Lbentv6 scLbentv6 (fun ss st Kp ⟨_, _, _, _, h, _⟩ => by omega)
      | succ N ih => exact ok_Lbentv6 D_Lbentv6 G_Ltake (by omega) ih (by omega) G_Lbentmarks (by omega) B (fun ss st Kp h => by first | (obtain ⟨h, _⟩ := h; rw [h]; rfl) | (obtain ⟨_, h, _⟩ := h; rw [h]; rfl) | (obtain ⟨_, _, h, _⟩ := h; rw [h]; rfl) | (obtain ⟨_, _, _, h, _⟩ := h; rw [h]; rfl) | (obtain ⟨_, _, _, _, h, _⟩ := h; rw [h]; rfl) | (obtain ⟨_, _, _, _, _, h, _⟩ := h; rw [h]; rfl) | (obtain ⟨_, _, _, _, _, _, h, _⟩ := h; rw [h]; rfl) | (obtain ⟨_, _, _, _, _, _, _, h, _⟩ := h; rw [h]; rfl) | (obtain ⟨_, _, _, _, _, _, _, _, h, _⟩ := h; rw [h]; rfl) | (obtain ⟨_, _, _, _, _, _, _, _, _, h, _⟩ := h; rw [h]; rfl) | (obtain ⟨_, _, _, _, _, _, _, _, _, _, h, _⟩ := h; rw [h]; rfl) | (obtain ⟨_, _, _, _, _, _, _, _, _, _, _, h, _⟩ := h; rw [h]; rfl) | (obtain ⟨_, _, _, _, _, _, _, _, _, _, _, _, h, _⟩ := h; rw [h]; rfl) | (obtain ⟨_, _, _, _, _, _, _, _, _, _, _, _, _, h, _⟩ := h; rw [h]; rfl) | (obtain ⟨_, _, _, h, _⟩ := i_take h; rw [h]; rfl)) (fun ss cs Kp h => r_Bent34 h)
    have G_Lbentv6 := R_Lbentv6 5
    have R_Lcopied : ∀ N : Nat, VFn l.prog w K mg base (N + 1) "_law_copied" ["_law_thing"] (pCop N) := by
      intro N
      induction N with
      | zero => exact vacF D_Lcopied scLcopied (fun ss st Kp ⟨_, h, _⟩ => by omega)
      | succ N ih => exact ok_Lcopied D_Lcopied ih (by omega) B (fun ss st Kp h => by first | (obtain ⟨h, _⟩ := h; rw [h]; rfl) | (obtain ⟨_, h, _⟩ := h; rw [h]; rfl) | (obtain ⟨_, _, h, _⟩ := h; rw [h]; rfl) | (obtain ⟨_, _, _, h, _⟩ := h; rw [h]; rfl) | (obtain ⟨_, _, _, _, h, _⟩ := h; rw [h]; rfl) | (obtain ⟨_, _, _, _, _, h, _⟩ := h; rw [h]; rfl) | (obtain ⟨_, _, _, _, _, _, h, _⟩ := h; rw [h]; rfl) | (obtain ⟨_, _, _, _, _, _, _, h, _⟩ := h; rw [h]; rfl) | (obtain ⟨_, _, _, _, _, _, _, _, h, _⟩ := h; rw [h]; rfl) | (obtain ⟨_, _, _, _, _, _, _, _, _, h, _⟩ := h; rw [h]; rfl) | (obtain ⟨_, _, _, _, _, _, _, _, _, _, h, _⟩ := h; rw [h]; rfl) | (obtain ⟨_, _, _, _, _, _, _, _, _, _, _, h, _⟩ := h; rw [h]; rfl) | (obtain ⟨_, _, _, _, _, _, _, _, _, _, _, _, h, _⟩ := h; rw [h]; rfl) | (obtain ⟨_, _, _, _, _, _, _, _, _, _, _, _, _, h, _⟩ := h; rw [h]; rfl) | (obtain ⟨_, _, _, h, _⟩ := i_take h; rw [h]; rfl)) (fun ss cs Kp h => r_Cop h)
    have G_Lcopied := R_Lcopied 91
    have G_Lrightv2 : VFn l.prog w K mg base 95 "_law_right" ["_law_thing"] pRight34 := ok_Lrightv2 D_Lrightv2 G_Lcopied (by omega) G_istree (by omega) G_Listree (by omega) G_worldsof (by omega) G_Lallv4 (by omega) B (fun ss st Kp h => by first | (obtain ⟨h, _⟩ := h; rw [h]; rfl) | (obtain ⟨_, h, _⟩ := h; rw [h]; rfl) | (obtain ⟨_, _, h, _⟩ := h; rw [h]; rfl) | (obtain ⟨_, _, _, h, _⟩ := h; rw [h]; rfl) | (obtain ⟨_, _, _, _, h, _⟩ := h; rw [h]; rfl) | (obtain ⟨_, _, _, _, _, h, _⟩ := h; rw [h]; rfl) | (obtain ⟨_, _, _, _, _, _, h, _⟩ := h; rw [h]; rfl) | (obtain ⟨_, _, _, _, _, _, _, h, _⟩ := h; rw [h]; rfl) | (obtain ⟨_, _, _, _, _, _, _, _, h, _⟩ := h; rw [h]; rfl) | (obtain ⟨_, _, _, _, _, _, _, _, _, h, _⟩ := h; rw [h]; rfl) | (obtain ⟨_, _, _, _, _, _, _, _, _, _, h, _⟩ := h; rw [h]; rfl) | (obtain ⟨_, _, _, _, _, _, _, _, _, _, _, h, _⟩ := h; rw [h]; rfl) | (obtain ⟨_, _, _, _, _, _, _, _, _, _, _, _, h, _⟩ := h; rw [h]; rfl) | (obtain ⟨_, _, _, _, _, _, _, _, _, _, _, _, _, h, _⟩ := h; rw [h]; rfl) | (obtain ⟨_, _, _, h, _⟩ := i_take h; rw [h]; rfl)) (fun ss cs Kp h => r_Right34 h)
    exact (okV F0 sclawk34 (fun ss st Kp h => by first | (obtain ⟨h, _⟩ := h; rw [h]; rfl) | (obtain ⟨_, h, _⟩ := h; rw [h]; rfl) | (obtain ⟨_, _, h, _⟩ := h; rw [h]; rfl) | (obtain ⟨_, _, _, h, _⟩ := h; rw [h]; rfl) | (obtain ⟨_, _, _, _, h, _⟩ := h; rw [h]; rfl) | (obtain ⟨_, _, _, _, _, h, _⟩ := h; rw [h]; rfl) | (obtain ⟨_, _, _, _, _, _, h, _⟩ := h; rw [h]; rfl) | (obtain ⟨_, _, _, _, _, _, _, h, _⟩ := h; rw [h]; rfl) | (obtain ⟨_, _, _, _, _, _, _, _, h, _⟩ := h; rw [h]; rfl) | (obtain ⟨_, _, _, _, _, _, _, _, _, h, _⟩ := h; rw [h]; rfl) | (obtain ⟨_, _, _, _, _, _, _, _, _, _, h, _⟩ := h; rw [h]; rfl) | (obtain ⟨_, _, _, _, _, _, _, _, _, _, _, h, _⟩ := h; rw [h]; rfl) | (obtain ⟨_, _, _, _, _, _, _, _, _, _, _, _, h, _⟩ := h; rw [h]; rfl) | (obtain ⟨_, _, _, _, _, _, _, _, _, _, _, _, _, h, _⟩ := h; rw [h]; rfl)) fun cdv A outer s H E hr => ⟨_, bd_lawk34 G_Lpool (by omega) G_Lmarks (by omega) G_Ltree (by omega) G_Lrightv2 (by omega) G_Lbentv6 (by omega) G_istree (by omega) G_worldsof (by omega) G_Lallv4 (by omega) B hr, fun ss cs Kp h => r_lawk34 h⟩).imp law_sp⟩
  · exact fun p hp => by
      simp only [List.mem_cons, List.not_mem_nil, or_false] at hp
      rcases hp with rfl | rfl | rfl
      · exact T1.2
      · exact T2.2
      · exact T3.2
  · exact fun p hp => by
      simp only [List.mem_cons, List.not_mem_nil, or_false] at hp
      rcases hp with rfl | rfl | rfl
      · exact n1
      · exact n2
      · exact n3
  · exact fun p hp => by
      simp only [List.mem_cons, List.not_mem_nil, or_false] at hp
      rcases hp with rfl | rfl | rfl
      · exact T1.1
      · exact T2.1
      · exact T3.1
end Kf
open PySem PySem.W PyProof.Rows
set_option maxRecDepth 100000 in
set_option maxHeartbeats 0 in
theorem PySem.Challenge.cw_kindfill_k34_trees_or_none_holds : PySem.Challenge.rw_kindfill_k34_trees_or_none.Holds := by
  w_on; o_law; k_head; (case hw => w_witness2)
  k_fill
  refine Vl.walk_tabs (l := PySem.Challenge.rw_kindfill_k34_trees_or_none) (n := 63) (k := 100) (CX := fun _ => L2.CX0) (x := "_law_script") rfl (by decide) rfl ⟨rfl, by decide, by decide⟩ (fun w h Y => PySem.W.kIn_of Y) ?F (fun _ _ _ _ _ z => z)
  case F =>
    intro w mg fa h KX G hmg T
    refine' Kf.all_mk KX G hmg T ?a0 ?l0 ?c0 ?k0 ?a1 ?l1 ?c1 ?k1 ?r1 ?d1 ?j1 ?n1 ?a2 ?l2 ?c2 ?k2 ?r2 ?d2 ?j2 ?n2 ?a3 ?l3 ?c3 ?k3 ?r3 ?d3 ?j3 ?n3 ?a4 ?l4 ?c4 ?k4 ?a5 ?l5 ?c5 ?k5 ?a6 ?l6 ?c6 ?k6 ?a7 ?l7 ?c7 ?k7 ?a8 ?l8 ?c8 ?k8 ?a9 ?l9 ?c9 ?k9 ?a10 ?l10 ?c10 ?k10 ?a11 ?l11 ?c11 ?k11 ?a12 ?l12 ?c12 ?k12 ?a13 ?l13 ?c13 ?k13 ?a14 ?l14 ?c14 ?k14 ?a15 ?l15 ?c15 ?k15 ?a16 ?l16 ?c16 ?k16 ?zg_is_numbered ?zg_read_spot ?zg_which_live ?zg_row_lives ?zg_bars_by ?zg_room_above ?zg_sum_with ?zg_is_place ?zg_is_formed ?zg_stand_once ?zg_drop_name ?zg_read_row ?zg_is_number ?z0 ?z1 ?z2 ?z3 ?z4 ?z5 ?z6 ?z7 ?z8 ?z9 ?z10 ?z11 ?z12 ?z13 ?z14 ?z15 ?z16 ?z17 ?z18 ?z19 ?z20 ?y0 ?y1 ?y2
    (case a0 => k_is)
    (case l0 => k_is)
    (case c0 => k_is)
    (case k0 => k_is)
    (case a1 => k_is)
    (case l1 => k_is)
    (case c1 => k_is)
    (case k1 => k_is)
    (case r1 => first | decide +kernel | kernel_rfl)
    (case d1 => k_is)
    (case j1 => exact rfl)
    (case n1 => first | exact rfl | kernel_rfl | decide +kernel)
    (case a2 => k_is)
    (case l2 => k_is)
    (case c2 => k_is)
    (case k2 => k_is)
    (case r2 => first | decide +kernel | kernel_rfl)
    (case d2 => k_is)
    (case j2 => exact rfl)
    (case n2 => first | exact rfl | kernel_rfl | decide +kernel)
    (case a3 => k_is)
    (case l3 => k_is)
    (case c3 => k_is)
    (case k3 => k_is)
    (case r3 => first | decide +kernel | kernel_rfl)
    (case d3 => k_is)
    (case j3 => exact rfl)
    (case n3 => first | exact rfl | kernel_rfl | decide +kernel)
    (case a4 => k_is)
    (case l4 => k_is)
    (case c4 => k_is)
    (case k4 => k_is)
    (case a5 => k_is)
    (case l5 => k_is)
    (case c5 => k_is)
    (case k5 => k_is)
    (case a6 => k_is)
    (case l6 => k_is)
    (case c6 => k_is)
    (case k6 => k_is)
    (case a7 => k_is)
    (case l7 => k_is)
    (case c7 => k_is)
    (case k7 => k_is)
    (case a8 => k_is)
    (case l8 => k_is)
    (case c8 => k_is)
    (case k8 => k_is)
    (case a9 => k_is)
    (case l9 => k_is)
    (case c9 => k_is)
    (case k9 => k_is)
    (case a10 => k_is)
    (case l10 => k_is)
    (case c10 => k_is)
    (case k10 => k_is)
    (case a11 => k_is)
    (case l11 => k_is)
    (case c11 => k_is)
    (case k11 => k_is)
    (case a12 => k_is)
    (case l12 => k_is)
    (case c12 => k_is)
    (case k12 => k_is)
    (case a13 => k_is)
    (case l13 => k_is)
    (case c13 => k_is)
    (case k13 => k_is)
    (case a14 => k_is)
    (case l14 => k_is)
    (case c14 => k_is)
    (case k14 => k_is)
    (case a15 => k_is)
    (case l15 => k_is)
    (case c15 => k_is)
    (case k15 => k_is)
    (case a16 => k_is)
    (case l16 => k_is)
    (case c16 => k_is)
    (case k16 => k_is)
    (case zg_is_numbered => k_is)
    (case zg_read_spot => k_is)
    (case zg_which_live => k_is)
    (case zg_row_lives => k_is)
    (case zg_bars_by => k_is)
    (case zg_room_above => k_is)
    (case zg_sum_with => k_is)
    (case zg_is_place => k_is)
    (case zg_is_formed => k_is)
    (case zg_stand_once => k_is)
    (case zg_drop_name => k_is)
    (case zg_read_row => k_is)
    (case zg_is_number => k_is)
    (case z0 => k_is)
    (case z1 => k_is)
    (case z2 => k_is)
    (case z3 => k_is)
    (case z4 => k_is)
    (case z5 => k_is)
    (case z6 => k_is)
    (case z7 => k_is)
    (case z8 => k_is)
    (case z9 => k_is)
    (case z10 => k_is)
    (case z11 => k_is)
    (case z12 => k_is)
    (case z13 => k_is)
    (case z14 => k_is)
    (case z15 => k_is)
    (case z16 => k_is)
    (case z17 => k_is)
    (case z18 => k_is)
    (case z19 => k_is)
    (case z20 => k_is)
    (case y0 => k_is)
    (case y1 => k_is)
    (case y2 => k_is)
