/- FaultIs returns true for every error that is made of a code, a text and wrappers, and leaves what it read as it was: on the conditions that what it reads is of bulk at most 1048576, and that package fault's sixteen errors and the type that errors.As asks for, which the card ties to the program's text, stand in their variables when the call begins. -/
import Derived.Test.YtoagkgdjekbcmaaDoorFis
import Derived.Test.YtoagkgdjekbcmaaDoorTie
import Derived.Test.YtoagkgdjekbcmaaDoorCards
import Derived.SevenTiedAt
import Derived.Deep.DeepWitnessRowRef
namespace Go.Proofs.YtoagkgdjekbcmaaDoor
open Go Go.ChangeShapes Go.WideShapes Go.ChangeAt Go.RowKit
theorem fis_mem : ∀ k, k < 16 → (snm.getD k "", sdat k) ∈ (Rows.faultIsUptoRow.laid.filter fun x => x.2.handleName?.isNone)
  | 0, _ => List.mem_of_getElem? (i := 0) (by kernel_rfl)
  | 1, _ => List.mem_of_getElem? (i := 1) (by kernel_rfl)
  | 2, _ => List.mem_of_getElem? (i := 2) (by kernel_rfl)
  | 3, _ => List.mem_of_getElem? (i := 3) (by kernel_rfl)
  | 4, _ => List.mem_of_getElem? (i := 4) (by kernel_rfl)
  | 5, _ => List.mem_of_getElem? (i := 5) (by kernel_rfl)
  | 6, _ => List.mem_of_getElem? (i := 6) (by kernel_rfl)
  | 7, _ => List.mem_of_getElem? (i := 7) (by kernel_rfl)
  | 8, _ => List.mem_of_getElem? (i := 8) (by kernel_rfl)
  | 9, _ => List.mem_of_getElem? (i := 9) (by kernel_rfl)
  | 10, _ => List.mem_of_getElem? (i := 10) (by kernel_rfl)
  | 11, _ => List.mem_of_getElem? (i := 11) (by kernel_rfl)
  | 12, _ => List.mem_of_getElem? (i := 12) (by kernel_rfl)
  | 13, _ => List.mem_of_getElem? (i := 13) (by kernel_rfl)
  | 14, _ => List.mem_of_getElem? (i := 14) (by kernel_rfl)
  | 15, _ => List.mem_of_getElem? (i := 15) (by kernel_rfl)
  | n + 16, h => by omega
theorem fis_known {W : World} (h : laidMetH Tryd.prog Rows.faultIsUptoRow.laid W) : ∃ ea, Known W ea := by
  have h' : laidMet Tryd.prog (Rows.faultIsUptoRow.laid.filter fun x => x.2.handleName?.isNone) W ∧ handlesMet Tryd.prog [("errors.errorType", Rows.laid_errors_errorType)] W := h
  obtain ⟨ea, h1, h2⟩ := errs_of_laid h'.1 fis_mem
  exact ⟨ea, h1, errT_of_laid h'.2, h2 1 (by omega)⟩
theorem fis_met (os : Os) (args : Array Value) : laidMetH Tryd.prog Rows.faultIsUptoRow.laid ((World.doorLaid Tryd.prog 400 os).forCall (fun _ _ => 0) ⟨#[], args, []⟩).memory :=
  laidMetH_of_parts (laidMet_of_run' 8 (by kernel_rfl) (by kernel_rfl)) (by kernel_rfl)
set_option maxRecDepth 100000 in
theorem fis_contract {H : Type} {enc : TypeId × Value → H} (F : Stop.Interp) (W : World) (base : Nat) (args : Array Value) (ds gs : List (DataW H)) (before : List MemPlace)
    (hval0 : ∀ (j : Nat) t v, Tryd.f3.params[j]? = some t → args[j]? = some v → Value.okWide Tryd.prog W .any base t v)
    (hW : DataW.Whole enc Tryd.prog Tryd.f3.params.toList (Rows.OpenSpec.upto Rows.faultIsSpec).vars false W args.toList ds gs before)
    (hsz : (DataW.weightsEach Tryd.prog (Tryd.f3.params.toList ++ (Rows.OpenSpec.upto Rows.faultIsSpec).bare.plain.varTypes Tryd.prog) (ds ++ gs)).all (· ≤ reachBytes) = true)
    (hL : laidMetH Tryd.prog Rows.faultIsUptoRow.laid W) :
    Calls Tryd.prog 3 args W fun e W' => ∃ v, e = .returned v ∧ ((Rows.OpenSpec.upto Rows.faultIsSpec).at F).post enc Tryd.prog Tryd.f3 false true false false W args v W' := by
  have hval : ∀ (j : Nat) t v, Tryd.f3.params[j]? = some t → args[j]? = some v → Value.okWide Tryd.prog W .any base t v := hval0
  have hW' := hW
  obtain ⟨p, q, hA0, hV, rfl, hfz, hnd⟩ := hW
  have hA : DataW.TrodAll enc Tryd.prog W 0 (fun _ => true) true Tryd.f3.params.toList args.toList ds p := hA0
  rw [Tryd.params3] at hA hval
  obtain ⟨v0, vs0, d0, ds0, p0, q0, hargs, rfl, rfl, h0, r0⟩ := trodAll_cons hA
  obtain ⟨rfl, rfl, rfl⟩ := trodAll_nil r0
  obtain rfl : args = #[v0] := by cases args; simp_all
  obtain ⟨rfl, rfl⟩ := trodVars_none hV
  obtain ⟨ea, hK⟩ := fis_known hL
  have hw : ∀ n ∈ d0.weights Tryd.prog 24, n ≤ reachBytes := fun n hn => by simpa using List.all_eq_true.1 hsz n (DataW.weights_mem_each (j := 0) rfl rfl n hn)
  obtain ⟨⟨cs⟩, rfl, hcl⟩ := okWide_struct Tryd.underlying24 (hval 0 _ v0 rfl rfl)
  have h0' := h0
  obtain ⟨fuel, hf⟩ := h0
  obtain ⟨c, s, x, l, hcs, hc, _, hx⟩ := open_err hf hw
  simp only [Value.cells] at hcs
  subst hcs
  simp only [List.append_nil] at hW'
  have hlt : ∀ y ∈ p0 ++ [], y.block < W.heap.size := fun y hy => hW'.lt y (by simpa using hy)
  refine (faultis_any ea c s x l W hK hx hc).mono fun e W' ⟨he, hB⟩ => ?_
  subst he
  have e1 : ((Rows.OpenSpec.upto Rows.faultIsSpec).at F).fn H ([d0] ++ []) = { results := [.lit (.bool true)], args := [d0] } := rfl
  refine ⟨_, rfl, _, _, _, [], p0 ++ [], [], hW', ?_, ?_, ?_, hB.frame _, fun h => by cases h⟩
  · rw [e1]; exact trodAll_mk1 (shut_bool Tryd.underlying4 true)
  · rw [e1, List.append_nil]; exact trodAll_mk1 (Below.trod laidOut (by kernel_rfl) (of_decide_eq_true (by kernel_rfl)) h0' hB (fun y hy => hlt y (by simpa using hy)))
  · rw [e1]; rfl
abbrev fisArg : Value := .agg #[.int .i64 0, .string .empty, .slice none 0 0]
set_option maxRecDepth 100000 in
theorem fis_lifted (os : Os) (started : os.Started) (H : Type) (enc : TypeId × Value → H) (F : Stop.Interp) :
    ReturnsInHanded {} Tryd.checked os 3 .any ((Rows.OpenSpec.upto Rows.faultIsSpec).preRow enc Tryd.prog Tryd.f3 Rows.faultIsUptoRow.domain false Rows.faultIsUptoRow.laid) (((Rows.OpenSpec.upto Rows.faultIsSpec).at F).post enc Tryd.prog Tryd.f3 false true false false) := by
  have hx : DataW.whole enc Tryd.prog ((World.doorLaid Tryd.prog 400 os).forCall (fun _ _ => 0) ⟨#[], #[fisArg], []⟩).memory Tryd.f3.params.toList (Rows.OpenSpec.upto Rows.faultIsSpec).vars false #[fisArg].toList 8 = some ([.agg [.lit (.int .i64 0), .lit (.string []), .nil]], [], []) := by kernel_rfl
  refine returnsInHanded_of_row (C := Tryd.checked) (s := Rows.OpenSpec.upto Rows.faultIsSpec) own started (by kernel_rfl) Tryd.func3
    (witness_row_atRef (enc := enc) (C := Tryd.checked) false (World.doorLaid Tryd.prog 400 os) #[fisArg] rfl (by kernel_rfl) (by kernel_rfl) (by kernel_rfl)
      (OpenSpec.preRow_of_cond 8 hx (by kernel_rfl) (fun k hk => by cases hk; kernel_rfl) (by kernel_rfl) (fis_met os _))) ?_
  intro W base args ds gs before hval hW _ _ hsz hL _ _
  exact fis_contract F W base args ds gs before hval hW hsz hL
theorem fis_row : Rows.FaultIsUptoSaid :=
  OpenClaim.holds_of_cond 3 Tryd.f3 rfl rfl rfl rfl rfl rfl rfl ⟨rfl, rfl, rfl, rfl, rfl⟩ rfl rfl rfl rfl rfl (by kernel_rfl) Tryd.func3 (by kernel_rfl)
    (of_decide_eq_true (by kernel_rfl)) (by unfold Func.isWrapper; rw [if_neg (of_decide_eq_false (by kernel_rfl))]; exact ⟨rfl, rfl⟩)
    (fun os started H enc _ F => by rw [OpenClaim.pre_eq_preRow]; exact fis_lifted os started H enc F)
theorem fis_holds : Rows.FaultIsUptoCardSaid :=
  Claim7.holds_tied_plain_at .later [] _ _ Rows.faultIsUptoCard.stood.harness Rows.faultIsUptoCard.stood.looks
    fis_row (fun _ h => by cases h) (by kernel_rfl) (fun _ h => by cases h) faultIsUpto_row_tie rfl ⟨rfl, rfl⟩ (by kernel_rfl) rfl
    (fun f fn hf hfn => by
      obtain rfl : f = 3 := Option.some.inj ((show Tryd.prog.funcNamed Rows.faultIsUptoRow.func = some 3 by kernel_rfl).symm.trans hf) |>.symm
      obtain rfl : fn = Tryd.f3 := (Option.some.inj (Tryd.func3.symm.trans hfn)).symm
      exact ⟨by kernel_rfl, fun j t ht => by
        rw [Tryd.params3] at ht
        have hm : t ∈ [24] := by simpa using Array.mem_of_getElem? ht
        have hall : ([24].all fun u => !Tryd.prog.wantsStandIn u) = true := by kernel_rfl
        exact (show Tryd.prog.wantsStandIn t = false by simpa using List.all_eq_true.1 hall t hm)⟩)
    (by kernel_rfl)
#print axioms fis_holds
end Go.Proofs.YtoagkgdjekbcmaaDoor
