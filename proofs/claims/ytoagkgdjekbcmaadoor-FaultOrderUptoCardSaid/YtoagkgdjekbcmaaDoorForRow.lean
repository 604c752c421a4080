/- FaultOrder returns true for every error that is made of a code, a text and wrappers, and every two wrappers more, and leaves what it read as it was: on the conditions that what it reads is of bulk at most 1048576, and that package fault's sixteen errors and the type that errors.As asks for, which the card ties to the program's text, stand in their variables when the call begins. -/
import Derived.Test.YtoagkgdjekbcmaaDoorFor
import Derived.Test.YtoagkgdjekbcmaaDoorTie
import Derived.Test.YtoagkgdjekbcmaaDoorCards
import Derived.SevenTiedAt
import Derived.Deep.DeepWitnessRowRef
namespace Go.Proofs.YtoagkgdjekbcmaaDoor
open Go Go.ChangeShapes Go.WideShapes Go.ChangeAt Go.RowKit
theorem fo_mem : ∀ k, k < 16 → (snm.getD k "", sdat k) ∈ (Rows.faultOrderUptoRow.laid.filter fun x => x.2.handleName?.isNone)
  | 0, _ => List.mem_of_getElem? (i := 0) (by kernel_rfl)
  | 1, _ => List.mem_of_getElem? (i := 1) (by kernel_rfl)
  | 2, _ => List.mem_of_getElem? (i := 2) (by kernel_rfl)
  | 3, _ => List.mem_of_getElem? (i := 3) (by kernel_rfl)
  | 4, _ => List.mem_of_getElem? (i := 4) (by kernel_rfl)
  | 5, _ => List.mem_of_getElem? (i := 5) (by kernel_rfl)
  | 6, _ => List.mem_of_getElem? (i := 6) (by kernel_rfl)
  | 7, _ => List.mem_of_getElem? (i := 7) (by kernel_rfl)
  | 8, _ => List.mem_of_getElem? (i := 8) (by kernel_rfl)
  | 9, _ => List.mem_of_getElem? (i := 9) (by kernel_rfl)
  | 10, _ => List.mem_of_getElem? (i := 10) (by kernel_rfl)
  | 11, _ => List.mem_of_getElem? (i := 11) (by kernel_rfl)
  | 12, _ => List.mem_of_getElem? (i := 12) (by kernel_rfl)
  | 13, _ => List.mem_of_getElem? (i := 13) (by kernel_rfl)
  | 14, _ => List.mem_of_getElem? (i := 14) (by kernel_rfl)
  | 15, _ => List.mem_of_getElem? (i := 15) (by kernel_rfl)
  | n + 16, h => by omega
theorem fo_known {W : World} (h : laidMetH Tryd.prog Rows.faultOrderUptoRow.laid W) : ∃ ea, Known W ea := by
  have h' : laidMet Tryd.prog (Rows.faultOrderUptoRow.laid.filter fun x => x.2.handleName?.isNone) W ∧ handlesMet Tryd.prog [("errors.errorType", Rows.laid_errors_errorType)] W := h
  obtain ⟨ea, h1, h2⟩ := errs_of_laid h'.1 fo_mem
  exact ⟨ea, h1, errT_of_laid h'.2, h2 1 (by omega)⟩
theorem fo_met (os : Os) (args : Array Value) : laidMetH Tryd.prog Rows.faultOrderUptoRow.laid ((World.doorLaid Tryd.prog 400 os).forCall (fun _ _ => 0) ⟨#[], args, []⟩).memory :=
  laidMetH_of_parts (laidMet_of_run' 8 (by kernel_rfl) (by kernel_rfl)) (by kernel_rfl)
theorem nine_of {α : Type} {l : List α} (h : l.length = 9) : ∃ x0 x1 x2 x3 x4 x5 x6 x7 x8, l = [x0, x1, x2, x3, x4, x5, x6, x7, x8] :=
  match l, h with
  | [x0, x1, x2, x3, x4, x5, x6, x7, x8], _ => ⟨x0, x1, x2, x3, x4, x5, x6, x7, x8, rfl⟩
theorem open_two {H : Type} {enc : TypeId × Value → H} {w : World} {k : Nat} {cs : List Value} {y : DataW H × List MemPlace} (h : DataW.trod enc Tryd.prog w 0 (fun _ => true) true k 36 cs = some y) (hw : ∀ n ∈ y.1.weights Tryd.prog 36, n ≤ reachBytes) :
    ∃ (c : Int) (s : ByteArray) (x : Value) (l : List WD) (ka na : Int) (xa : Value) (la : List ByteArray) (kb nb : Int) (xb : Value) (lb : List ByteArray), cs = [.int .i64 c, .string s, x, .int .i64 ka, .int .i64 na, xa, .int .i64 kb, .int .i64 nb, xb] ∧ (-9223372036854775808 ≤ c ∧ c ≤ 9223372036854775807) ∧ Wrs w x l ∧ Texts w xa la ∧ Texts w xb lb := by
  have c9 : Tryd.prog.cellsOf 36 = 9 := by kernel_rfl
  have c3 : Tryd.prog.cellsOf 24 = 3 := by kernel_rfl
  have c3' : Tryd.prog.cellsOf 34 = 3 := by kernel_rfl
  obtain ⟨y0, y1, y2, n, hx, hl, h0, h1, h2⟩ := Deep.trod_struct3 Tryd.underlying36 h
  rw [c9] at hl
  obtain ⟨x0, x1, x2, x3, x4, x5, x6, x7, x8, rfl⟩ := nine_of hl
  simp only [c3, c3', List.drop_zero, List.drop_succ_cons, List.take_succ_cons, List.take_zero] at h0 h1 h2
  have hww : ∀ (j : Nat) (t : TypeId) (d : DataW H), [24, 34, 34][j]? = some t → [y0.1, y1.1, y2.1][j]? = some d → ∀ m ∈ d.weights Tryd.prog t, m ≤ reachBytes := by
    intro j t d ht hd m hm
    apply hw
    rw [hx]
    simp only [DataW.weights, Tryd.underlying36]
    exact DataW.weights_mem_each (ts := [24, 34, 34]) (ds := [y0.1, y1.1, y2.1]) ht hd m hm
  obtain ⟨c, s, x, l, e0, hc, _, hl0⟩ := open_err h0 (hww 0 _ _ rfl rfl)
  obtain ⟨ka, na, xa, la, e1, hl1⟩ := open_wrap h1 (hww 1 _ _ rfl rfl)
  obtain ⟨kb, nb, xb, lb, e2, hl2⟩ := open_wrap h2 (hww 2 _ _ rfl rfl)
  simp only [List.cons.injEq, and_true] at e0 e1 e2
  obtain ⟨rfl, rfl, rfl⟩ := e0
  obtain ⟨rfl, rfl, rfl⟩ := e1
  obtain ⟨rfl, rfl, rfl⟩ := e2
  exact ⟨c, s, _, l, ka, na, _, la, kb, nb, _, lb, rfl, hc, hl0, hl1, hl2⟩
set_option maxRecDepth 100000 in
theorem fo_contract {H : Type} {enc : TypeId × Value → H} (F : Stop.Interp) (W : World) (base : Nat) (args : Array Value) (ds gs : List (DataW H)) (before : List MemPlace)
    (hval0 : ∀ (j : Nat) t v, Tryd.f4.params[j]? = some t → args[j]? = some v → Value.okWide Tryd.prog W .any base t v)
    (hW : DataW.Whole enc Tryd.prog Tryd.f4.params.toList (Rows.OpenSpec.upto Rows.faultOrderSpec).vars false W args.toList ds gs before)
    (hsz : (DataW.weightsEach Tryd.prog (Tryd.f4.params.toList ++ (Rows.OpenSpec.upto Rows.faultOrderSpec).bare.plain.varTypes Tryd.prog) (ds ++ gs)).all (· ≤ reachBytes) = true)
    (hL : laidMetH Tryd.prog Rows.faultOrderUptoRow.laid W) :
    Calls Tryd.prog 4 args W fun e W' => ∃ v, e = .returned v ∧ ((Rows.OpenSpec.upto Rows.faultOrderSpec).at F).post enc Tryd.prog Tryd.f4 false true false false W args v W' := by
  have hval : ∀ (j : Nat) t v, Tryd.f4.params[j]? = some t → args[j]? = some v → Value.okWide Tryd.prog W .any base t v := hval0
  have hW' := hW
  obtain ⟨p, q, hA0, hV, rfl, hfz, hnd⟩ := hW
  have hA : DataW.TrodAll enc Tryd.prog W 0 (fun _ => true) true Tryd.f4.params.toList args.toList ds p := hA0
  rw [Tryd.params4] at hA hval
  obtain ⟨v0, vs0, d0, ds0, p0, q0, hargs, rfl, rfl, h0, r0⟩ := trodAll_cons hA
  obtain ⟨rfl, rfl, rfl⟩ := trodAll_nil r0
  obtain rfl : args = #[v0] := by cases args; simp_all
  obtain ⟨rfl, rfl⟩ := trodVars_none hV
  obtain ⟨ea, hK⟩ := fo_known hL
  have hw : ∀ n ∈ d0.weights Tryd.prog 36, n ≤ reachBytes := fun n hn => by simpa using List.all_eq_true.1 hsz n (DataW.weights_mem_each (j := 0) rfl rfl n hn)
  obtain ⟨⟨cs⟩, rfl, hcl⟩ := okWide_struct Tryd.underlying36 (hval 0 _ v0 rfl rfl)
  have h0' := h0
  obtain ⟨fuel, hf⟩ := h0
  obtain ⟨c, s, x, l, ka, na, xa, la, kb, nb, xb, lb, hcs, hc, hx, hxa, hxb⟩ := open_two hf hw
  simp only [Value.cells] at hcs
  subst hcs
  simp only [List.append_nil] at hW'
  have hlt : ∀ y ∈ p0 ++ [], y.block < W.heap.size := fun y hy => hW'.lt y (by simpa using hy)
  refine (faultorder_any ea c s x l ka na xa la kb nb xb lb W hK hx hxa hxb hc).mono fun e W' ⟨he, hB⟩ => ?_
  subst he
  have e1 : ((Rows.OpenSpec.upto Rows.faultOrderSpec).at F).fn H ([d0] ++ []) = { results := [.lit (.bool true)], args := [d0] } := rfl
  refine ⟨_, rfl, _, _, _, [], p0 ++ [], [], hW', ?_, ?_, ?_, hB.frame _, fun h => by cases h⟩
  · rw [e1]; exact trodAll_mk1 (shut_bool Tryd.underlying4 true)
  · rw [e1, List.append_nil]; exact trodAll_mk1 (Below.trod laidOut (by kernel_rfl) (of_decide_eq_true (by kernel_rfl)) h0' hB (fun y hy => hlt y (by simpa using hy)))
  · rw [e1]; rfl
abbrev foArg : Value := .agg #[.int .i64 0, .string .empty, .slice none 0 0, .int .i64 0, .int .i64 0, .slice none 0 0, .int .i64 0, .int .i64 0, .slice none 0 0]
set_option maxRecDepth 100000 in
theorem fo_lifted (os : Os) (started : os.Started) (H : Type) (enc : TypeId × Value → H) (F : Stop.Interp) :
    ReturnsInHanded {} Tryd.checked os 4 .any ((Rows.OpenSpec.upto Rows.faultOrderSpec).preRow enc Tryd.prog Tryd.f4 Rows.faultOrderUptoRow.domain false Rows.faultOrderUptoRow.laid) (((Rows.OpenSpec.upto Rows.faultOrderSpec).at F).post enc Tryd.prog Tryd.f4 false true false false) := by
  have hx : DataW.whole enc Tryd.prog ((World.doorLaid Tryd.prog 400 os).forCall (fun _ _ => 0) ⟨#[], #[foArg], []⟩).memory Tryd.f4.params.toList (Rows.OpenSpec.upto Rows.faultOrderSpec).vars false #[foArg].toList 8 = some ([.agg [.agg [.lit (.int .i64 0), .lit (.string []), .nil], .agg [.lit (.int .i64 0), .lit (.int .i64 0), .nil], .agg [.lit (.int .i64 0), .lit (.int .i64 0), .nil]]], [], []) := by kernel_rfl
  refine returnsInHanded_of_row (C := Tryd.checked) (s := Rows.OpenSpec.upto Rows.faultOrderSpec) own started (by kernel_rfl) Tryd.func4
    (witness_row_atRef (enc := enc) (C := Tryd.checked) false (World.doorLaid Tryd.prog 400 os) #[foArg] rfl (by kernel_rfl) (by kernel_rfl) (by kernel_rfl)
      (OpenSpec.preRow_of_cond 8 hx (by kernel_rfl) (fun k hk => by cases hk; kernel_rfl) (by kernel_rfl) (fo_met os _))) ?_
  intro W base args ds gs before hval hW _ _ hsz hL _ _
  exact fo_contract F W base args ds gs before hval hW hsz hL
theorem fo_row : Rows.FaultOrderUptoSaid :=
  OpenClaim.holds_of_cond 4 Tryd.f4 rfl rfl rfl rfl rfl rfl rfl ⟨rfl, rfl, rfl, rfl, rfl⟩ rfl rfl rfl rfl rfl (by kernel_rfl) Tryd.func4 (by kernel_rfl)
    (of_decide_eq_true (by kernel_rfl)) (by unfold Func.isWrapper; rw [if_neg (of_decide_eq_false (by kernel_rfl))]; exact ⟨rfl, rfl⟩)
    (fun os started H enc _ F => by rw [OpenClaim.pre_eq_preRow]; exact fo_lifted os started H enc F)
theorem fo_holds : Rows.FaultOrderUptoCardSaid :=
  Claim7.holds_tied_plain_at .later [] _ _ Rows.faultOrderUptoCard.stood.harness Rows.faultOrderUptoCard.stood.looks
    fo_row (fun _ h => by cases h) (by kernel_rfl) (fun _ h => by cases h) faultOrderUpto_row_tie rfl ⟨rfl, rfl⟩ (by kernel_rfl) rfl
    (fun f fn hf hfn => by
      obtain rfl : f = 4 := Option.some.inj ((show Tryd.prog.funcNamed Rows.faultOrderUptoRow.func = some 4 by kernel_rfl).symm.trans hf) |>.symm
      obtain rfl : fn = Tryd.f4 := (Option.some.inj (Tryd.func4.symm.trans hfn)).symm
      exact ⟨by kernel_rfl, fun j t ht => by
        rw [Tryd.params4] at ht
        have hm : t ∈ [36] := by simpa using Array.mem_of_getElem? ht
        have hall : ([36].all fun u => !Tryd.prog.wantsStandIn u) = true := by kernel_rfl
        exact (show Tryd.prog.wantsStandIn t = false by simpa using List.all_eq_true.1 hall t hm)⟩)
    (by kernel_rfl)
#print axioms fo_holds
end Go.Proofs.YtoagkgdjekbcmaaDoor
