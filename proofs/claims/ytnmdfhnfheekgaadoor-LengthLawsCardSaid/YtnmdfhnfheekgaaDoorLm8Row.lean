/- LengthLaws returns true for every two expressions, and leaves what it read as it was: on the conditions that the errors which the card ties to the program's text stand in their variables when the call begins. -/
import Derived.Test.YtnmdfhnfheekgaaDoorLm8
import Derived.Test.YtnmdfhnfheekgaaDoorAgk
namespace Go.Proofs.YtnmdfhnfheekgaaDoor
open Go Go.ChangeShapes Go.WideShapes Go.ChangeAt Go.RowKit
theorem open_two {H : Type} {enc : TypeId × Value → H} {w : World} {k : Nat} {cs : List Value} {y : DataW H × List MemPlace} (h : DataW.trod enc Tryd.prog w 0 (fun _ => true) true k 59 cs = some y) :
    ∃ A B a c a' c', cs = tcs A B a c a' c' ∧ Xok A ∧ Xok B ∧ Xat w w.heap.size a c A.args ∧ Xat w w.heap.size a' c' B.args := by
  have c20 : Tryd.prog.cellsOf 59 = 20 := by kernel_rfl
  have c10 : Tryd.prog.cellsOf 28 = 10 := by kernel_rfl
  obtain ⟨y0, y1, n, hx, hl, h0, h1⟩ := trod_struct2 Tryd.underlying59 h
  rw [c20] at hl
  simp only [c10, List.drop_zero] at h0 h1
  obtain ⟨A, a, c, e0, k0, x0⟩ := open_xp _ _ _ h0
  obtain ⟨B, a', c', e1, k1, x1⟩ := open_xp _ _ _ h1
  refine ⟨A, B, a, c, a', c', ?_, k0, k1, x0, x1⟩
  rw [← List.take_append_drop 10 cs, e0]
  have : (cs.drop 10).take 10 = cs.drop 10 := List.take_of_length_le (by simp; omega)
  rw [← this, e1]
  rfl
theorem lengthLaws_met (os : Os) (args : Array Value) : laidMetH Tryd.prog Rows.lengthLawsRow.laid ((World.doorLaid Tryd.prog 400 os).forCall (fun _ _ => 0) ⟨#[], args, []⟩).memory :=
  laidMetH_of_parts (laidMet_of_run' 8 (by kernel_rfl) (by kernel_rfl)) (by kernel_rfl)
set_option maxRecDepth 100000 in
theorem lengthLaws_contract {H : Type} {enc : TypeId × Value → H} (F : Stop.Interp) (W : World) (base : Nat) (args : Array Value) (ds gs : List (DataW H)) (before : List MemPlace)
    (hval0 : ∀ (j : Nat) t v, Tryd.f5.params[j]? = some t → args[j]? = some v → Value.okWide Tryd.prog W .any base t v)
    (hW : DataW.Whole enc Tryd.prog Tryd.f5.params.toList (OpenSpec.ofChange Rows.lengthLawsSpec).vars false W args.toList ds gs before)
    (hsz : (DataW.weightsEach Tryd.prog (Tryd.f5.params.toList ++ (OpenSpec.ofChange Rows.lengthLawsSpec).bare.plain.varTypes Tryd.prog) (ds ++ gs)).all (· ≤ reachBytes) = true)
    (hL : laidMetH Tryd.prog Rows.lengthLawsRow.laid W) (hsh : W.ShapedOpen Tryd.prog) :
    Calls Tryd.prog 5 args W fun e W' => ∃ v, e = .returned v ∧ ((OpenSpec.ofChange Rows.lengthLawsSpec).at F).post enc Tryd.prog Tryd.f5 false true false false W args v W' := by
  have hval : ∀ (j : Nat) t v, Tryd.f5.params[j]? = some t → args[j]? = some v → Value.okWide Tryd.prog W .any base t v := hval0
  have hW' := hW
  obtain ⟨p, q, hA0, hV, rfl, hfz, hnd⟩ := hW
  have hA : DataW.TrodAll enc Tryd.prog W 0 (fun _ => true) true Tryd.f5.params.toList args.toList ds p := hA0
  rw [Tryd.params5] at hA hval
  obtain ⟨v0, d0, rfl, rfl, h0⟩ := trodAll_one hA
  obtain ⟨rfl, rfl⟩ := trodVars_none hV
  have hlt : ∀ x ∈ p, x.block < W.heap.size := fun x hx => hW'.lt x (by simp [hx])
  have hwt : ∀ n ∈ d0.weights Tryd.prog 59, n ≤ reachBytes := fun n hn => by simpa using List.all_eq_true.1 hsz n (DataW.weights_mem_each (j := 0) rfl rfl n hn)
  have _ := hsh; rw [MakeChecks.laidMetH_plain _ _ _ (by kernel_rfl)] at hL; obtain ⟨aA, aT, hAg⟩ := ag_of hL (List.mem_of_getElem? (i := 1) (by kernel_rfl)) (List.mem_of_getElem? (i := 0) (by kernel_rfl))
  obtain ⟨⟨cs⟩, rfl, hcl⟩ := okWide_struct Tryd.underlying59 (hval 0 _ v0 rfl rfl); obtain ⟨A, B, a1, c1, a2, c2, rfl, kA, kB, xA, xB⟩ : ∃ A B a c a' c', cs = tcs A B a c a' c' ∧ Xok A ∧ Xok B ∧ Xat W W.heap.size a c A.args ∧ Xat W W.heap.size a' c' B.args := (by obtain ⟨fuel, hf⟩ := h0; exact open_two hf)
  refine (laws_any A B a1 c1 a2 c2 aA aT W kA kB xA xB hAg).mono fun e W' ⟨he, hB⟩ => ?_
  subst he
  have e1 : ((OpenSpec.ofChange Rows.lengthLawsSpec).at F).fn H ([d0] ++ []) = { results := [.lit (.bool true)], args := [d0] } := rfl
  refine ⟨_, rfl, _, _, _, [], p, [], hW', ?_, ?_, ?_, hB.frame _, fun h => by cases h⟩
  · rw [e1]; exact trodAll_mk1 (shut_bool Tryd.underlying4 true)
  · rw [e1]; exact trodAll_mk1 (Below.trod laidOut (by kernel_rfl) (of_decide_eq_true (by kernel_rfl)) h0 hB hlt)
  · rw [e1]; rfl
set_option maxRecDepth 100000 in
theorem lengthLaws_lifted (os : Os) (started : os.Started) (H : Type) (enc : TypeId × Value → H) (F : Stop.Interp) :
    ReturnsInHanded {} Tryd.checked os 5 .any ((OpenSpec.ofChange Rows.lengthLawsSpec).preRow enc Tryd.prog Tryd.f5 Rows.lengthLawsRow.domain false Rows.lengthLawsRow.laid) (((OpenSpec.ofChange Rows.lengthLawsSpec).at F).post enc Tryd.prog Tryd.f5 false true false false) := by
  have hx : DataW.whole enc Tryd.prog ((World.doorLaid Tryd.prog 400 os).forCall (fun _ _ => 0) ⟨#[], #[.agg #[.int .i64 0, .int .i64 0, .int .u64 0, .int .u64 0, .int .u64 0, .int .u64 0, .string .empty, .int .i64 0, .int .i64 0, .slice none 0 0, .int .i64 0, .int .i64 0, .int .u64 0, .int .u64 0, .int .u64 0, .int .u64 0, .string .empty, .int .i64 0, .int .i64 0, .slice none 0 0]], []⟩).memory Tryd.f5.params.toList (OpenSpec.ofChange Rows.lengthLawsSpec).vars false (#[.agg #[.int .i64 0, .int .i64 0, .int .u64 0, .int .u64 0, .int .u64 0, .int .u64 0, .string .empty, .int .i64 0, .int .i64 0, .slice none 0 0, .int .i64 0, .int .i64 0, .int .u64 0, .int .u64 0, .int .u64 0, .int .u64 0, .string .empty, .int .i64 0, .int .i64 0, .slice none 0 0]] : Array Value).toList 8 = some ([.agg [.agg [.lit (.int .i64 0), .lit (.int .i64 0), .agg [.lit (.int .u64 0), .lit (.int .u64 0), .lit (.int .u64 0), .lit (.int .u64 0)], .lit (.string []), .lit (.int .i64 0), .lit (.int .i64 0), .nil], .agg [.lit (.int .i64 0), .lit (.int .i64 0), .agg [.lit (.int .u64 0), .lit (.int .u64 0), .lit (.int .u64 0), .lit (.int .u64 0)], .lit (.string []), .lit (.int .i64 0), .lit (.int .i64 0), .nil]]], [], []) := by kernel_rfl
  refine returnsInHanded_of_row (C := Tryd.checked) (s := OpenSpec.ofChange Rows.lengthLawsSpec) own started (by kernel_rfl) Tryd.func5
    (witness_row_atRef (enc := enc) (C := Tryd.checked) false (World.doorLaid Tryd.prog 400 os) #[.agg #[.int .i64 0, .int .i64 0, .int .u64 0, .int .u64 0, .int .u64 0, .int .u64 0, .string .empty, .int .i64 0, .int .i64 0, .slice none 0 0, .int .i64 0, .int .i64 0, .int .u64 0, .int .u64 0, .int .u64 0, .int .u64 0, .string .empty, .int .i64 0, .int .i64 0, .slice none 0 0]] rfl (by kernel_rfl) (by kernel_rfl) (by kernel_rfl)
      (OpenSpec.preRow_of_cond 8 hx (by kernel_rfl) (fun k hk => by cases hk) (by kernel_rfl) (lengthLaws_met os _))) ?_
  intro W base args ds gs before hval hW _ _ hsz hL hsh _
  exact lengthLaws_contract F W base args ds gs before hval hW hsz hL hsh
theorem lengthLaws_row : Rows.LengthLawsSaid :=
  OpenClaim.holds_of_cond 5 Tryd.f5 rfl rfl rfl rfl rfl rfl rfl ⟨rfl, rfl, rfl, rfl, rfl⟩ rfl rfl rfl rfl rfl (by kernel_rfl) Tryd.func5 (by kernel_rfl)
    (of_decide_eq_true (by kernel_rfl)) (by unfold Func.isWrapper; rw [if_neg (of_decide_eq_false (by kernel_rfl))]; exact ⟨rfl, rfl⟩)
    (fun os started H enc _ F => by rw [OpenClaim.pre_eq_preRow]; exact lengthLaws_lifted os started H enc F)
theorem lengthLaws_holds : Rows.LengthLawsCardSaid :=
  Claim7.holds_tied_plain_at .later [] _ _ Rows.lengthLawsCard.stood.harness Rows.lengthLawsCard.stood.looks
    lengthLaws_row (fun _ h => by cases h) (by kernel_rfl) (fun _ h => by cases h) lengthLaws_row_tie rfl ⟨rfl, rfl⟩ (by kernel_rfl) rfl
    (fun f fn hf hfn => by
      obtain rfl : f = 5 := Option.some.inj ((show Tryd.prog.funcNamed Rows.lengthLawsRow.func = some 5 by kernel_rfl).symm.trans hf) |>.symm
      obtain rfl : fn = Tryd.f5 := (Option.some.inj (Tryd.func5.symm.trans hfn)).symm
      exact ⟨by kernel_rfl, fun j t ht => by
        rw [Tryd.params5] at ht
        have hm : t ∈ [59] := by simpa using Array.mem_of_getElem? ht
        have hall : ([59].all fun u => !Tryd.prog.wantsStandIn u) = true := by kernel_rfl
        exact (show Tryd.prog.wantsStandIn t = false by simpa using List.all_eq_true.1 hall t hm)⟩)
    (by kernel_rfl)
#print axioms lengthLaws_holds
end Go.Proofs.YtnmdfhnfheekgaaDoor
