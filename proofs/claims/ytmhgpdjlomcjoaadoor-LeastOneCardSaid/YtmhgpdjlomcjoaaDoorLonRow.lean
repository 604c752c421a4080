/- LeastOne returns true for every automaton, with numbers and copies, and leaves what it read as it was: on the condition that the error which the card ties to the program's text stands in its variable when the call begins. -/
import Derived.Test.YtmhgpdjlomcjoaaDoorLon
import Derived.Test.YtmhgpdjlomcjoaaDoorRpl
namespace Go.Proofs.YtmhgpdjlomcjoaaDoor
open Go Go.ChangeShapes Go.WideShapes Go.ChangeAt Go.RowKit
theorem four_ofq {α : Type} {l : List α} (h : l.length = 4) : ∃ a b c d, l = [a, b, c, d] :=
  match l, h with
  | [a, b, c, d], _ => ⟨a, b, c, d, rfl⟩
theorem open_turned {H : Type} {enc : TypeId × Value → H} {w : World} {k : Nat} {cs : List Value} {y : DataW H × List MemPlace} (h : DataW.trod enc Tryd.prog w 0 (fun _ => true) true k 56 cs = some y) (hw : ∀ n ∈ y.1.weights Tryd.prog 56, n ≤ reachBytes) :
    ∃ (a b t u : Value) (d : Dd) (LB LC : List Int), cs = [a, b, t, u] ∧ Rws w a d.nx ∧ Ints w b d.lb ∧ Ints w t LB ∧ Ints w u LC := by
  have c2 : Tryd.prog.cellsOf 26 = 2 := by kernel_rfl
  have c1 : Tryd.prog.cellsOf 24 = 1 := by kernel_rfl
  have c4 : Tryd.prog.cellsOf 56 = 4 := by kernel_rfl
  obtain ⟨xs, n, hn, hx, hl, hlen, hf⟩ := DataW.trod_struct Tryd.underlying56 h
  rw [c4] at hl
  obtain ⟨x0, x1, x2, x3, rfl⟩ := four_ofq hl
  obtain ⟨z0, z1, z2, rfl⟩ : ∃ z0 z1 z2, xs = [z0, z1, z2] := by
    match xs, hlen with
    | [z0, z1, z2], _ => exact ⟨z0, z1, z2, rfl⟩
  have e0 : DataW.trod enc Tryd.prog w 0 (fun _ => true) true n 26 (([x0, x1, x2, x3].drop 0).take (Tryd.prog.cellsOf 26)) = some z0 := hf 0 _ rfl
  have e1 : DataW.trod enc Tryd.prog w 0 (fun _ => true) true n 24 (([x0, x1, x2, x3].drop 2).take (Tryd.prog.cellsOf 24)) = some z1 := hf 1 _ rfl
  have e2 : DataW.trod enc Tryd.prog w 0 (fun _ => true) true n 24 (([x0, x1, x2, x3].drop 3).take (Tryd.prog.cellsOf 24)) = some z2 := hf 2 _ rfl
  simp only [c2, c1, List.drop_zero, List.drop_succ_cons, List.take_succ_cons, List.take_zero] at e0 e1 e2
  have hww : ∀ (j : Nat) (t : TypeId) (d : DataW H), [26, 24, 24][j]? = some t → [z0.1, z1.1, z2.1][j]? = some d → ∀ m ∈ d.weights Tryd.prog t, m ≤ reachBytes := by
    intro j t d ht hd m hm
    refine hw m ?_
    rw [hx]
    simp only [DataW.weights, Tryd.underlying56]
    exact DataW.weights_mem_each (ts := [26, 24, 24]) (ds := [z0.1, z1.1, z2.1]) ht hd m hm
  obtain ⟨a, b, d, e, hR, hI⟩ := open_dense e0 (hww 0 _ _ rfl rfl)
  cases e
  obtain ⟨LB, hB⟩ := open_intsq e1 (hww 1 _ _ rfl rfl)
  obtain ⟨LC, hC⟩ := open_intsq e2 (hww 2 _ _ rfl rfl)
  exact ⟨_, _, _, _, d, LB, LC, rfl, hR, hI, hB, hC⟩
theorem leastOne_met (os : Os) (args : Array Value) : laidMetH Tryd.prog Rows.leastOneRow.laid ((World.doorLaid Tryd.prog 400 os).forCall (fun _ _ => 0) ⟨#[], args, []⟩).memory :=
  laidMetH_of_parts (laidMet_of_run' 8 (by kernel_rfl) (by kernel_rfl)) (by kernel_rfl)
set_option maxRecDepth 100000 in
theorem leastOne_contract {H : Type} {enc : TypeId × Value → H} (F : Stop.Interp) (W : World) (base : Nat) (args : Array Value) (ds gs : List (DataW H)) (before : List MemPlace)
    (hval0 : ∀ (j : Nat) t v, Tryd.f6.params[j]? = some t → args[j]? = some v → Value.okWide Tryd.prog W .any base t v)
    (hW : DataW.Whole enc Tryd.prog Tryd.f6.params.toList (OpenSpec.ofChange Rows.leastOneSpec).vars false W args.toList ds gs before)
    (hsz : (DataW.weightsEach Tryd.prog (Tryd.f6.params.toList ++ (OpenSpec.ofChange Rows.leastOneSpec).bare.plain.varTypes Tryd.prog) (ds ++ gs)).all (· ≤ reachBytes) = true)
    (hL : laidMetH Tryd.prog Rows.leastOneRow.laid W) (hsh : W.ShapedOpen Tryd.prog) :
    Calls Tryd.prog 6 args W fun e W' => ∃ v, e = .returned v ∧ ((OpenSpec.ofChange Rows.leastOneSpec).at F).post enc Tryd.prog Tryd.f6 false true false false W args v W' := by
  have hval : ∀ (j : Nat) t v, Tryd.f6.params[j]? = some t → args[j]? = some v → Value.okWide Tryd.prog W .any base t v := hval0
  have hW' := hW
  obtain ⟨p, q, hA0, hV, rfl, hfz, hnd⟩ := hW
  have hA : DataW.TrodAll enc Tryd.prog W 0 (fun _ => true) true Tryd.f6.params.toList args.toList ds p := hA0
  rw [Tryd.params6] at hA hval
  obtain ⟨v0, d0, rfl, rfl, h0⟩ := trodAll_one hA
  obtain ⟨rfl, rfl⟩ := trodVars_none hV
  have hlt : ∀ x ∈ p, x.block < W.heap.size := fun x hx => hW'.lt x (by simp [hx])
  have hwt : ∀ n ∈ d0.weights Tryd.prog 56, n ≤ reachBytes := fun n hn => by simpa using List.all_eq_true.1 hsz n (DataW.weights_mem_each (j := 0) rfl rfl n hn)
  have _ := hsh; have _ := hL
  obtain ⟨⟨cs⟩, rfl, hcl⟩ := okWide_struct Tryd.underlying56 (hval 0 _ v0 rfl rfl); obtain ⟨a, b, t, u, d, LB, LC, rfl, hR, hI, hB, hC⟩ : ∃ (a b t u : Value) (d : Dd) (LB LC : List Int), cs = [a, b, t, u] ∧ Rws W a d.nx ∧ Ints W b d.lb ∧ Ints W t LB ∧ Ints W u LC := (by obtain ⟨fuel, hf⟩ := h0; exact open_turned hf hwt)
  refine (one_any d LB LC a b t u W hR hI hB hC).mono fun e W' ⟨he, hB⟩ => ?_
  subst he
  have e1 : ((OpenSpec.ofChange Rows.leastOneSpec).at F).fn H ([d0] ++ []) = { results := [.lit (.bool true)], args := [d0] } := rfl
  refine ⟨_, rfl, _, _, _, [], p, [], hW', ?_, ?_, ?_, hB.frame _, fun h => by cases h⟩
  · rw [e1]; exact trodAll_mk1 (shut_bool Tryd.underlying4 true)
  · rw [e1]; exact trodAll_mk1 (Below.trod laidOut (by kernel_rfl) (of_decide_eq_true (by kernel_rfl)) h0 hB hlt)
  · rw [e1]; rfl
set_option maxRecDepth 100000 in
theorem leastOne_lifted (os : Os) (started : os.Started) (H : Type) (enc : TypeId × Value → H) (F : Stop.Interp) :
    ReturnsInHanded {} Tryd.checked os 6 .any ((OpenSpec.ofChange Rows.leastOneSpec).preRow enc Tryd.prog Tryd.f6 Rows.leastOneRow.domain false Rows.leastOneRow.laid) (((OpenSpec.ofChange Rows.leastOneSpec).at F).post enc Tryd.prog Tryd.f6 false true false false) := by
  have hx : DataW.whole enc Tryd.prog ((World.doorLaid Tryd.prog 400 os).forCall (fun _ _ => 0) ⟨#[], #[.agg #[.slice none 0 0, .slice none 0 0, .slice none 0 0, .slice none 0 0]], []⟩).memory Tryd.f6.params.toList (OpenSpec.ofChange Rows.leastOneSpec).vars false (#[.agg #[.slice none 0 0, .slice none 0 0, .slice none 0 0, .slice none 0 0]] : Array Value).toList 8 = some ([.agg [.agg [.nil, .nil], .nil, .nil]], [], []) := by kernel_rfl
  refine returnsInHanded_of_row (C := Tryd.checked) (s := OpenSpec.ofChange Rows.leastOneSpec) own started (by kernel_rfl) Tryd.func6
    (witness_row_atRef (enc := enc) (C := Tryd.checked) false (World.doorLaid Tryd.prog 400 os) #[.agg #[.slice none 0 0, .slice none 0 0, .slice none 0 0, .slice none 0 0]] rfl (by kernel_rfl) (by kernel_rfl) (by kernel_rfl)
      (OpenSpec.preRow_of_cond 8 hx (by kernel_rfl) (fun k hk => by cases hk) (by kernel_rfl) (leastOne_met os _))) ?_
  intro W base args ds gs before hval hW _ _ hsz hL hsh _
  exact leastOne_contract F W base args ds gs before hval hW hsz hL hsh
theorem leastOne_row : Rows.LeastOneSaid :=
  OpenClaim.holds_of_cond 6 Tryd.f6 rfl rfl rfl rfl rfl rfl rfl ⟨rfl, rfl, rfl, rfl, rfl⟩ rfl rfl rfl rfl rfl (by kernel_rfl) Tryd.func6 (by kernel_rfl)
    (of_decide_eq_true (by kernel_rfl)) (by unfold Func.isWrapper; rw [if_neg (of_decide_eq_false (by kernel_rfl))]; exact ⟨rfl, rfl⟩)
    (fun os started H enc _ F => by rw [OpenClaim.pre_eq_preRow]; exact leastOne_lifted os started H enc F)
theorem leastOne_holds : Rows.LeastOneCardSaid :=
  Claim7.holds_tied_plain_at .later [] _ _ Rows.leastOneCard.stood.harness Rows.leastOneCard.stood.looks
    leastOne_row (fun _ h => by cases h) (by kernel_rfl) (fun _ h => by cases h) leastOne_row_tie rfl ⟨rfl, rfl⟩ (by kernel_rfl) rfl
    (fun f fn hf hfn => by
      obtain rfl : f = 6 := Option.some.inj ((show Tryd.prog.funcNamed Rows.leastOneRow.func = some 6 by kernel_rfl).symm.trans hf) |>.symm
      obtain rfl : fn = Tryd.f6 := (Option.some.inj (Tryd.func6.symm.trans hfn)).symm
      exact ⟨by kernel_rfl, fun j t ht => by
        rw [Tryd.params6] at ht
        have hm : t ∈ [56] := by simpa using Array.mem_of_getElem? ht
        have hall : ([56].all fun u => !Tryd.prog.wantsStandIn u) = true := by kernel_rfl
        exact (show Tryd.prog.wantsStandIn t = false by simpa using List.all_eq_true.1 hall t hm)⟩)
    (by kernel_rfl)
#print axioms leastOne_holds
end Go.Proofs.YtmhgpdjlomcjoaaDoor
