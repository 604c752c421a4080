/- ClassEscapes returns true: on the conditions that the errors and the tables which the card ties to the program's text stand in their variables when the call begins. -/
import Derived.Test.YtgfbbblbglpccaaDoorEcp
import Derived.Test.YtgfbbblbglpccaaDoorSnc
import Derived.Test.YtgfbbblbglpccaaDoorTie
import Derived.Test.YtgfbbblbglpccaaDoorCards
import Derived.SevenTiedAt
import Derived.Deep.DeepWitnessRowRef
import Derived.Deep.DeepHandedRow
namespace Go.Proofs.YtgfbbblbglpccaaDoor
open Go Go.ChangeShapes Go.WideShapes Go.ChangeAt Go.RowKit
theorem ec_known {W : World} (h : laidMetH Tryd.prog Rows.classEscapesRow.laid W) (hs : W.ShapedOpen Tryd.prog) : Tab W ∧ ∃ es ed, Kn W es ed := by
  rw [MakeChecks.laidMetH_plain _ _ _ (by kernel_rfl)] at h
  exact ⟨laid_tab h (List.mem_of_getElem? (i := 1) (by kernel_rfl)), known_of h hs (List.mem_of_getElem? (i := 5) (by kernel_rfl)) (List.mem_of_getElem? (i := 6) (by kernel_rfl)) (List.mem_of_getElem? (i := 4) (by kernel_rfl))⟩
theorem ec_met (os : Os) (args : Array Value) : laidMetH Tryd.prog Rows.classEscapesRow.laid ((World.doorLaid Tryd.prog 400 os).forCall (fun _ _ => 0) ⟨#[], args, []⟩).memory :=
  laidMetH_of_parts (laidMet_of_run' 8 (by kernel_rfl) (by kernel_rfl)) (by kernel_rfl)
set_option maxRecDepth 100000 in
theorem ec_lifted (os : Os) (started : os.Started) (H : Type) (enc : TypeId × Value → H) (F : Stop.Interp) :
    ReturnsInHanded {} Tryd.checked os 6 .any ((OpenSpec.ofChange Rows.classEscapesSpec).preRow enc Tryd.prog Tryd.f6 Rows.classEscapesRow.domain false Rows.classEscapesRow.laid) (((OpenSpec.ofChange Rows.classEscapesSpec).at F).post enc Tryd.prog Tryd.f6 false true false false) := by
  have hx : DataW.whole enc Tryd.prog ((World.doorLaid Tryd.prog 400 os).forCall (fun _ _ => 0) ⟨#[], #[], []⟩).memory Tryd.f6.params.toList (OpenSpec.ofChange Rows.classEscapesSpec).vars false (#[] : Array Value).toList 8 = some ([], [], []) := by kernel_rfl
  refine returnsInHanded_of_row (C := Tryd.checked) (s := OpenSpec.ofChange Rows.classEscapesSpec) own started (by kernel_rfl) Tryd.func6
    (witness_row_atRef (enc := enc) (C := Tryd.checked) false (World.doorLaid Tryd.prog 400 os) #[] rfl (by kernel_rfl) (by kernel_rfl) (by kernel_rfl)
      (OpenSpec.preRow_of_cond 8 hx (by kernel_rfl) (fun k hk => by cases hk) (by kernel_rfl) (ec_met os _))) ?_
  intro W base args ds gs before hval0 hW _ _ _hsz0 hL hsh _
  have hW' := hW
  obtain ⟨p, q, hA0, hV, rfl, hfz, hnd⟩ := hW
  have hA : DataW.TrodAll enc Tryd.prog W 0 (fun _ => true) true Tryd.f6.params.toList args.toList ds p := hA0
  rw [Tryd.params6] at hA
  obtain ⟨ha, rfl, rfl⟩ := trodAll_nil hA
  obtain rfl : args = #[] := by cases args; simp_all
  obtain ⟨rfl, rfl⟩ := trodVars_none hV
  obtain ⟨hT, es, ed, hK⟩ := ec_known hL hsh
  refine (escapes_any es ed W hT hK).mono fun e W' ⟨he, hB⟩ => ?_
  subst he
  have e1 : ((OpenSpec.ofChange Rows.classEscapesSpec).at F).fn H ([] ++ []) = { results := [.lit (.bool true)], args := [] } := rfl
  refine ⟨_, rfl, _, _, _, [], [], [], hW', ?_, ?_, ?_, hB.frame _, fun h => by cases h⟩
  · rw [e1]; exact trodAll_mk1 (shut_bool Tryd.underlying4 true)
  · rw [e1]; exact hA0
  · rw [e1]; rfl
theorem ec_row : Rows.ClassEscapesSaid :=
  OpenClaim.holds_of_cond 6 Tryd.f6 rfl rfl rfl rfl rfl rfl rfl ⟨rfl, rfl, rfl, rfl, rfl⟩ rfl rfl rfl rfl rfl (by kernel_rfl) Tryd.func6 (by kernel_rfl)
    (of_decide_eq_true (by kernel_rfl)) (by unfold Func.isWrapper; rw [if_neg (of_decide_eq_false (by kernel_rfl))]; exact ⟨rfl, rfl⟩)
    (fun os started H enc _ F => by rw [OpenClaim.pre_eq_preRow]; exact ec_lifted os started H enc F)
theorem ec_holds : Rows.ClassEscapesCardSaid :=
  Claim7.holds_tied_plain_at .later [] _ _ Rows.classEscapesCard.stood.harness Rows.classEscapesCard.stood.looks
    ec_row (fun _ h => by cases h) (by kernel_rfl) (fun _ h => by cases h) classEscapes_row_tie rfl ⟨rfl, rfl⟩ (by kernel_rfl) rfl
    (fun f fn hf hfn => by
      obtain rfl : f = 6 := Option.some.inj ((show Tryd.prog.funcNamed Rows.classEscapesRow.func = some 6 by kernel_rfl).symm.trans hf) |>.symm
      obtain rfl : fn = Tryd.f6 := (Option.some.inj (Tryd.func6.symm.trans hfn)).symm
      exact ⟨by kernel_rfl, fun j t ht => by
        rw [Tryd.params6] at ht
        simp at ht⟩)
    (by kernel_rfl)
#print axioms ec_holds
end Go.Proofs.YtgfbbblbglpccaaDoor
