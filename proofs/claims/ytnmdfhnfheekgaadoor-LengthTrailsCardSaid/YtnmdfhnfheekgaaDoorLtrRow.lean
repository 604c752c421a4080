/- LengthTrails returns true for every list of pairs of expressions, and leaves what it read as it was: on the conditions that the errors which the card ties to the program's text stand in their variables when the call begins. -/
import Derived.Test.YtnmdfhnfheekgaaDoorLtr
import Derived.Test.YtnmdfhnfheekgaaDoorXl
namespace Go.Proofs.YtnmdfhnfheekgaaDoor
open Go Go.ChangeShapes Go.WideShapes Go.ChangeAt Go.RowKit
theorem open_tat {H : Type} {enc : TypeId × Value → H} {w : World} {k : Nat} {v : Value} {y : DataW H × List MemPlace} (h : DataW.trod enc Tryd.prog w 0 (fun _ => true) true k 62 [v] = some y) :
    ∃ a c L, v = .slice a (L : List (Xp × Xp)).length c ∧ Tat w w.heap.size a L ∧ L.length ≤ maxLen := by
  rcases open_twos h with ⟨a, c, rfl⟩ | ⟨b, off, c, L, rfl, h1, h2, h3⟩
  · exact ⟨a, c, [], rfl, .inl rfl, by decide⟩
  · exact ⟨_, c, L, rfl, .inr ⟨b, off, rfl, h3⟩, Nat.le_trans h1 h2⟩
theorem lengthTrails_met (os : Os) (args : Array Value) : laidMetH Tryd.prog Rows.lengthTrailsRow.laid ((World.doorLaid Tryd.prog 400 os).forCall (fun _ _ => 0) ⟨#[], args, []⟩).memory :=
  laidMetH_of_parts (laidMet_of_run' 8 (by kernel_rfl) (by kernel_rfl)) (by kernel_rfl)
set_option maxRecDepth 100000 in
theorem lengthTrails_contract {H : Type} {enc : TypeId × Value → H} (F : Stop.Interp) (W : World) (base : Nat) (args : Array Value) (ds gs : List (DataW H)) (before : List MemPlace)
    (hval0 : ∀ (j : Nat) t v, Tryd.f6.params[j]? = some t → args[j]? = some v → Value.okWide Tryd.prog W .any base t v)
    (hW : DataW.Whole enc Tryd.prog Tryd.f6.params.toList (OpenSpec.ofChange Rows.lengthTrailsSpec).vars false W args.toList ds gs before)
    (hsz : (DataW.weightsEach Tryd.prog (Tryd.f6.params.toList ++ (OpenSpec.ofChange Rows.lengthTrailsSpec).bare.plain.varTypes Tryd.prog) (ds ++ gs)).all (· ≤ reachBytes) = true)
    (hL : laidMetH Tryd.prog Rows.lengthTrailsRow.laid W) (hsh : W.ShapedOpen Tryd.prog) :
    Calls Tryd.prog 6 args W fun e W' => ∃ v, e = .returned v ∧ ((OpenSpec.ofChange Rows.lengthTrailsSpec).at F).post enc Tryd.prog Tryd.f6 false true false false W args v W' := by
  have hval : ∀ (j : Nat) t v, Tryd.f6.params[j]? = some t → args[j]? = some v → Value.okWide Tryd.prog W .any base t v := hval0
  have hW' := hW
  obtain ⟨p, q, hA0, hV, rfl, hfz, hnd⟩ := hW
  have hA : DataW.TrodAll enc Tryd.prog W 0 (fun _ => true) true Tryd.f6.params.toList args.toList ds p := hA0
  rw [Tryd.params6] at hA hval
  obtain ⟨v0, d0, rfl, rfl, h0⟩ := trodAll_one hA
  obtain ⟨rfl, rfl⟩ := trodVars_none hV
  have hlt : ∀ x ∈ p, x.block < W.heap.size := fun x hx => hW'.lt x (by simp [hx])
  have hwt : ∀ n ∈ d0.weights Tryd.prog 62, n ≤ reachBytes := fun n hn => by simpa using List.all_eq_true.1 hsz n (DataW.weights_mem_each (j := 0) rfl rfl n hn)
  have _ := hsh; obtain ⟨ea, hSn, hEt, hAg⟩ := known_lengthTrails hL
  obtain ⟨a0, n0, c0, rfl⟩ := okWide_slice Tryd.underlying62 (hval 0 _ v0 rfl rfl); obtain ⟨a1, c1, L, hv1, hxl, hlen⟩ : ∃ a c L, Value.slice a0 n0 c0 = .slice a (L : List (Xp × Xp)).length c ∧ Tat W W.heap.size a L ∧ L.length ≤ maxLen := (by obtain ⟨fuel, hf⟩ := h0; exact open_tat hf); cases hv1
  refine (trails_round L a0 c0 ea W hxl hlen hSn hEt hAg).mono fun e W' ⟨he, hB⟩ => ?_
  subst he
  have e1 : ((OpenSpec.ofChange Rows.lengthTrailsSpec).at F).fn H ([d0] ++ []) = { results := [.lit (.bool true)], args := [d0] } := rfl
  refine ⟨_, rfl, _, _, _, [], p, [], hW', ?_, ?_, ?_, hB.frame _, fun h => by cases h⟩
  · rw [e1]; exact trodAll_mk1 (shut_bool Tryd.underlying4 true)
  · rw [e1]; exact trodAll_mk1 (Below.trod laidOut (by kernel_rfl) (of_decide_eq_true (by kernel_rfl)) h0 hB hlt)
  · rw [e1]; rfl
set_option maxRecDepth 100000 in
theorem lengthTrails_lifted (os : Os) (started : os.Started) (H : Type) (enc : TypeId × Value → H) (F : Stop.Interp) :
    ReturnsInHanded {} Tryd.checked os 6 .any ((OpenSpec.ofChange Rows.lengthTrailsSpec).preRow enc Tryd.prog Tryd.f6 Rows.lengthTrailsRow.domain false Rows.lengthTrailsRow.laid) (((OpenSpec.ofChange Rows.lengthTrailsSpec).at F).post enc Tryd.prog Tryd.f6 false true false false) := by
  have hx : DataW.whole enc Tryd.prog ((World.doorLaid Tryd.prog 400 os).forCall (fun _ _ => 0) ⟨#[], #[.slice none 0 0], []⟩).memory Tryd.f6.params.toList (OpenSpec.ofChange Rows.lengthTrailsSpec).vars false (#[.slice none 0 0] : Array Value).toList 8 = some ([.nil], [], []) := by kernel_rfl
  refine returnsInHanded_of_row (C := Tryd.checked) (s := OpenSpec.ofChange Rows.lengthTrailsSpec) own started (by kernel_rfl) Tryd.func6
    (witness_row_atRef (enc := enc) (C := Tryd.checked) false (World.doorLaid Tryd.prog 400 os) #[.slice none 0 0] rfl (by kernel_rfl) (by kernel_rfl) (by kernel_rfl)
      (OpenSpec.preRow_of_cond 8 hx (by kernel_rfl) (fun k hk => by cases hk) (by kernel_rfl) (lengthTrails_met os _))) ?_
  intro W base args ds gs before hval hW _ _ hsz hL hsh _
  exact lengthTrails_contract F W base args ds gs before hval hW hsz hL hsh
theorem lengthTrails_row : Rows.LengthTrailsSaid :=
  OpenClaim.holds_of_cond 6 Tryd.f6 rfl rfl rfl rfl rfl rfl rfl ⟨rfl, rfl, rfl, rfl, rfl⟩ rfl rfl rfl rfl rfl (by kernel_rfl) Tryd.func6 (by kernel_rfl)
    (of_decide_eq_true (by kernel_rfl)) (by unfold Func.isWrapper; rw [if_neg (of_decide_eq_false (by kernel_rfl))]; exact ⟨rfl, rfl⟩)
    (fun os started H enc _ F => by rw [OpenClaim.pre_eq_preRow]; exact lengthTrails_lifted os started H enc F)
theorem lengthTrails_holds : Rows.LengthTrailsCardSaid :=
  Claim7.holds_tied_plain_at .later [] _ _ Rows.lengthTrailsCard.stood.harness Rows.lengthTrailsCard.stood.looks
    lengthTrails_row (fun _ h => by cases h) (by kernel_rfl) (fun _ h => by cases h) lengthTrails_row_tie rfl ⟨rfl, rfl⟩ (by kernel_rfl) rfl
    (fun f fn hf hfn => by
      obtain rfl : f = 6 := Option.some.inj ((show Tryd.prog.funcNamed Rows.lengthTrailsRow.func = some 6 by kernel_rfl).symm.trans hf) |>.symm
      obtain rfl : fn = Tryd.f6 := (Option.some.inj (Tryd.func6.symm.trans hfn)).symm
      exact ⟨by kernel_rfl, fun j t ht => by
        rw [Tryd.params6] at ht
        have hm : t ∈ [62] := by simpa using Array.mem_of_getElem? ht
        have hall : ([62].all fun u => !Tryd.prog.wantsStandIn u) = true := by kernel_rfl
        exact (show Tryd.prog.wantsStandIn t = false by simpa using List.all_eq_true.1 hall t hm)⟩)
    (by kernel_rfl)
#print axioms lengthTrails_holds
end Go.Proofs.YtnmdfhnfheekgaaDoor
