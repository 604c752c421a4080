/- RowsApart returns true for every list of automata, and leaves what it read as it was: on the conditions that what it reads is of bulk at most 1048576, and that the error which the card ties to the program's text stands in its variable when the call begins. -/
import Derived.Test.YtgcjclglhijchaaDoorApt15
import Derived.Test.YtgcjclglhijchaaDoorRpl
import Derived.Test.YtgcjclglhijchaaDoorDnr
namespace Go.Proofs.YtgcjclglhijchaaDoor
open Go Go.ChangeShapes Go.WideShapes Go.ChangeAt Go.RowKit
theorem open_capd {H : Type} {enc : TypeId × Value → H} {w : World} {k : Nat} {a : Option Addr} {n c : Nat} {y : DataW H × List MemPlace} (h : DataW.trod enc Tryd.prog w 0 (fun _ => true) true k 24 [.slice a n c] = some y) : n ≤ c ∧ c ≤ maxLen := by
  rcases DataW.trod_slice Tryd.underlying24 h with ⟨hcs, _⟩ | ⟨a', len, cap, elems, rest, m, hm, hcs, hxe, hb, hle, hcm, _⟩
  · simp only [List.cons.injEq, and_true, Value.slice.injEq] at hcs
    obtain ⟨-, rfl, rfl⟩ := hcs
    exact ⟨Nat.le_refl _, by unfold maxLen; omega⟩
  · simp only [List.cons.injEq, and_true, Value.slice.injEq] at hcs
    obtain ⟨-, rfl, rfl⟩ := hcs
    exact ⟨hle, hcm⟩
theorem rowsApart_met (os : Os) (args : Array Value) : laidMetH Tryd.prog Rows.rowsApartUptoRow.laid ((World.doorLaid Tryd.prog 400 os).forCall (fun _ _ => 0) ⟨#[], args, []⟩).memory :=
  laidMetH_of_parts (laidMet_of_run' 8 (by kernel_rfl) (by kernel_rfl)) (by kernel_rfl)
set_option maxRecDepth 100000 in
theorem rowsApart_contract {H : Type} {enc : TypeId × Value → H} (F : Stop.Interp) (W : World) (base : Nat) (args : Array Value) (ds gs : List (DataW H)) (before : List MemPlace)
    (hval0 : ∀ (j : Nat) t v, Tryd.f6.params[j]? = some t → args[j]? = some v → Value.okWide Tryd.prog W .any base t v)
    (hW : DataW.Whole enc Tryd.prog Tryd.f6.params.toList (Rows.OpenSpec.upto Rows.rowsApartSpec).vars false W args.toList ds gs before)
    (hsz : (DataW.weightsEach Tryd.prog (Tryd.f6.params.toList ++ (Rows.OpenSpec.upto Rows.rowsApartSpec).bare.plain.varTypes Tryd.prog) (ds ++ gs)).all (· ≤ reachBytes) = true)
    (hL : laidMetH Tryd.prog Rows.rowsApartUptoRow.laid W) (hsh : W.ShapedOpen Tryd.prog) :
    Calls Tryd.prog 6 args W fun e W' => ∃ v, e = .returned v ∧ ((Rows.OpenSpec.upto Rows.rowsApartSpec).at F).post enc Tryd.prog Tryd.f6 false true false false W args v W' := by
  have hval : ∀ (j : Nat) t v, Tryd.f6.params[j]? = some t → args[j]? = some v → Value.okWide Tryd.prog W .any base t v := hval0
  have hW' := hW
  obtain ⟨p, q, hA0, hV, rfl, hfz, hnd⟩ := hW
  have hA : DataW.TrodAll enc Tryd.prog W 0 (fun _ => true) true Tryd.f6.params.toList args.toList ds p := hA0
  rw [Tryd.params6] at hA hval
  obtain ⟨v0, d0, rfl, rfl, h0⟩ := trodAll_one hA
  obtain ⟨rfl, rfl⟩ := trodVars_none hV
  have hlt : ∀ x ∈ p, x.block < W.heap.size := fun x hx => hW'.lt x (by simp [hx])
  have hwt : ∀ n ∈ d0.weights Tryd.prog 24, n ≤ reachBytes := fun n hn => by simpa using List.all_eq_true.1 hsz n (DataW.weights_mem_each (j := 0) rfl rfl n hn)
  have _ := hsh; have _ := hL
  obtain ⟨a0, n0, c0, rfl⟩ := okWide_slice Tryd.underlying24 (hval 0 _ v0 rfl rfl); obtain ⟨a1, c1, L, hv1, hl1, hd1, hw1, hc1, hm1⟩ : ∃ a c L, Value.slice a0 n0 c0 = .slice a (L : List Dd).length c ∧ L.length ≤ 140737488355328 ∧ Dls W a L ∧ (∀ d ∈ L, Wee d) ∧ L.length ≤ c ∧ c ≤ maxLen := (by obtain ⟨fuel, hf⟩ := h0; obtain ⟨a, c, L, e, p1, p2, p3⟩ := open_denses hf hwt; rw [e] at hf; exact ⟨a, c, L, e, p1, p2, p3, (open_capd hf).1, (open_capd hf).2⟩); cases hv1
  refine (apt15_any L a0 c0 W hd1 hl1 hc1 hm1).mono fun e W' ⟨he, hB⟩ => ?_
  subst he
  have e1 : ((Rows.OpenSpec.upto Rows.rowsApartSpec).at F).fn H ([d0] ++ []) = { results := [.lit (.bool true)], args := [d0] } := rfl
  refine ⟨_, rfl, _, _, _, [], p, [], hW', ?_, ?_, ?_, hB.frame _, fun h => by cases h⟩
  · rw [e1]; exact trodAll_mk1 (shut_bool Tryd.underlying4 true)
  · rw [e1]; exact trodAll_mk1 (Below.trod laidOut (by kernel_rfl) (of_decide_eq_true (by kernel_rfl)) h0 hB hlt)
  · rw [e1]; rfl
set_option maxRecDepth 100000 in
theorem rowsApart_lifted (os : Os) (started : os.Started) (H : Type) (enc : TypeId × Value → H) (F : Stop.Interp) :
    ReturnsInHanded {} Tryd.checked os 6 .any ((Rows.OpenSpec.upto Rows.rowsApartSpec).preRow enc Tryd.prog Tryd.f6 Rows.rowsApartUptoRow.domain false Rows.rowsApartUptoRow.laid) (((Rows.OpenSpec.upto Rows.rowsApartSpec).at F).post enc Tryd.prog Tryd.f6 false true false false) := by
  have hx : DataW.whole enc Tryd.prog ((World.doorLaid Tryd.prog 400 os).forCall (fun _ _ => 0) ⟨#[], #[.slice none 0 0], []⟩).memory Tryd.f6.params.toList (Rows.OpenSpec.upto Rows.rowsApartSpec).vars false (#[.slice none 0 0] : Array Value).toList 8 = some ([.nil], [], []) := by kernel_rfl
  refine returnsInHanded_of_row (C := Tryd.checked) (s := Rows.OpenSpec.upto Rows.rowsApartSpec) own started (by kernel_rfl) Tryd.func6
    (witness_row_atRef (enc := enc) (C := Tryd.checked) false (World.doorLaid Tryd.prog 400 os) #[.slice none 0 0] rfl (by kernel_rfl) (by kernel_rfl) (by kernel_rfl)
      (OpenSpec.preRow_of_cond 8 hx (by kernel_rfl) (fun k hk => by cases hk; kernel_rfl) (by kernel_rfl) (rowsApart_met os _))) ?_
  intro W base args ds gs before hval hW _ _ hsz hL hsh _
  exact rowsApart_contract F W base args ds gs before hval hW hsz hL hsh
theorem rowsApart_row : Rows.RowsApartUptoSaid :=
  OpenClaim.holds_of_cond 6 Tryd.f6 rfl rfl rfl rfl rfl rfl rfl ⟨rfl, rfl, rfl, rfl, rfl⟩ rfl rfl rfl rfl rfl (by kernel_rfl) Tryd.func6 (by kernel_rfl)
    (of_decide_eq_true (by kernel_rfl)) (by unfold Func.isWrapper; rw [if_neg (of_decide_eq_false (by kernel_rfl))]; exact ⟨rfl, rfl⟩)
    (fun os started H enc _ F => by rw [OpenClaim.pre_eq_preRow]; exact rowsApart_lifted os started H enc F)
theorem rowsApart_holds : Rows.RowsApartUptoCardSaid :=
  Claim7.holds_tied_plain_at .later [] _ _ Rows.rowsApartUptoCard.stood.harness Rows.rowsApartUptoCard.stood.looks
    rowsApart_row (fun _ h => by cases h) (by kernel_rfl) (fun _ h => by cases h) rowsApartUpto_row_tie rfl ⟨rfl, rfl⟩ (by kernel_rfl) rfl
    (fun f fn hf hfn => by
      obtain rfl : f = 6 := Option.some.inj ((show Tryd.prog.funcNamed Rows.rowsApartUptoRow.func = some 6 by kernel_rfl).symm.trans hf) |>.symm
      obtain rfl : fn = Tryd.f6 := (Option.some.inj (Tryd.func6.symm.trans hfn)).symm
      exact ⟨by kernel_rfl, fun j t ht => by
        rw [Tryd.params6] at ht
        have hm : t ∈ [24] := by simpa using Array.mem_of_getElem? ht
        have hall : ([24].all fun u => !Tryd.prog.wantsStandIn u) = true := by kernel_rfl
        exact (show Tryd.prog.wantsStandIn t = false by simpa using List.all_eq_true.1 hall t hm)⟩)
    (by kernel_rfl)
#print axioms rowsApart_holds
end Go.Proofs.YtgcjclglhijchaaDoor
