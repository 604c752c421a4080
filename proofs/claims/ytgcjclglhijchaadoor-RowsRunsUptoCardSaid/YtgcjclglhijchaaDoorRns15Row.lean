/- RowsRuns returns true for every list of automata and every list of texts, and leaves what it read as it was: on the conditions that what it reads is of bulk at most 1048576, and that the error which the card ties to the program's text stands in its variable when the call begins. -/
import Derived.Test.YtgcjclglhijchaaDoorDnt
import Derived.Test.YtgcjclglhijchaaDoorRpl
namespace Go.Proofs.YtgcjclglhijchaaDoor
open Go Go.ChangeShapes Go.WideShapes Go.ChangeAt Go.RowKit
theorem open_texts15 {H : Type} {enc : TypeId × Value → H} {w : World} {k : Nat} {cs : List Value} {y : DataW H × List MemPlace} (h : DataW.trod enc Tryd.prog w 0 (fun _ => true) true k 58 cs = some y) (hw : ∀ n ∈ y.1.weights Tryd.prog 58, n ≤ reachBytes) :
    ∃ (a : Option Addr) (c : Nat) (L : List Dd) (t : Value) (T : List (List UInt8)), cs = [.slice a L.length c, t] ∧ L.length ≤ 140737488355328 ∧ Dls w a L ∧ Txs w t T := by
  have c2 : Tryd.prog.cellsOf 24 = 1 := by kernel_rfl
  have c1 : Tryd.prog.cellsOf 56 = 1 := by kernel_rfl
  have c3 : Tryd.prog.cellsOf 58 = 2 := by kernel_rfl
  obtain ⟨z0, z1, m, hx0, hl0, g0, g1⟩ := trod_struct2 Tryd.underlying58 h
  rw [c3] at hl0
  obtain ⟨x0, x1, rfl⟩ := two_ofq hl0
  simp only [c2, c1, List.drop_zero, List.drop_succ_cons, List.take_succ_cons, List.take_zero] at g0 g1
  have hww : ∀ (j : Nat) (t : TypeId) (d : DataW H), [24, 56][j]? = some t → [z0.1, z1.1][j]? = some d → ∀ m ∈ d.weights Tryd.prog t, m ≤ reachBytes := by
    intro j t d ht hd m hm
    refine hw m ?_
    rw [hx0]
    simp only [DataW.weights, Tryd.underlying58]
    exact DataW.weights_mem_each (ts := [24, 56]) (ds := [z0.1, z1.1]) ht hd m hm
  obtain ⟨a, c, L, rfl, hl, hd, _⟩ := open_denses g0 (hww 0 _ _ rfl rfl)
  obtain ⟨T, hT⟩ := open_txsq g1 (hww 1 _ _ rfl rfl)
  exact ⟨a, c, L, _, T, rfl, hl, hd, hT⟩
theorem rowsRuns_met (os : Os) (args : Array Value) : laidMetH Tryd.prog Rows.rowsRunsUptoRow.laid ((World.doorLaid Tryd.prog 400 os).forCall (fun _ _ => 0) ⟨#[], args, []⟩).memory :=
  laidMetH_of_parts (laidMet_of_run' 8 (by kernel_rfl) (by kernel_rfl)) (by kernel_rfl)
set_option maxRecDepth 100000 in
theorem rowsRuns_contract {H : Type} {enc : TypeId × Value → H} (F : Stop.Interp) (W : World) (base : Nat) (args : Array Value) (ds gs : List (DataW H)) (before : List MemPlace)
    (hval0 : ∀ (j : Nat) t v, Tryd.f7.params[j]? = some t → args[j]? = some v → Value.okWide Tryd.prog W .any base t v)
    (hW : DataW.Whole enc Tryd.prog Tryd.f7.params.toList (Rows.OpenSpec.upto Rows.rowsRunsSpec).vars false W args.toList ds gs before)
    (hsz : (DataW.weightsEach Tryd.prog (Tryd.f7.params.toList ++ (Rows.OpenSpec.upto Rows.rowsRunsSpec).bare.plain.varTypes Tryd.prog) (ds ++ gs)).all (· ≤ reachBytes) = true)
    (hL : laidMetH Tryd.prog Rows.rowsRunsUptoRow.laid W) (hsh : W.ShapedOpen Tryd.prog) :
    Calls Tryd.prog 7 args W fun e W' => ∃ v, e = .returned v ∧ ((Rows.OpenSpec.upto Rows.rowsRunsSpec).at F).post enc Tryd.prog Tryd.f7 false true false false W args v W' := by
  have hval : ∀ (j : Nat) t v, Tryd.f7.params[j]? = some t → args[j]? = some v → Value.okWide Tryd.prog W .any base t v := hval0
  have hW' := hW
  obtain ⟨p, q, hA0, hV, rfl, hfz, hnd⟩ := hW
  have hA : DataW.TrodAll enc Tryd.prog W 0 (fun _ => true) true Tryd.f7.params.toList args.toList ds p := hA0
  rw [Tryd.params7] at hA hval
  obtain ⟨v0, d0, rfl, rfl, h0⟩ := trodAll_one hA
  obtain ⟨rfl, rfl⟩ := trodVars_none hV
  have hlt : ∀ x ∈ p, x.block < W.heap.size := fun x hx => hW'.lt x (by simp [hx])
  have hwt : ∀ n ∈ d0.weights Tryd.prog 58, n ≤ reachBytes := fun n hn => by simpa using List.all_eq_true.1 hsz n (DataW.weights_mem_each (j := 0) rfl rfl n hn)
  have _ := hsh; have _ := hL
  obtain ⟨⟨cs⟩, rfl, hcl⟩ := okWide_struct Tryd.underlying58 (hval 0 _ v0 rfl rfl); obtain ⟨a, c, L, t, T, rfl, hl, hD, hT⟩ : ∃ (a : Option Addr) (c : Nat) (L : List Dd) (t : Value) (T : List (List UInt8)), cs = [.slice a L.length c, t] ∧ L.length ≤ 140737488355328 ∧ Dls W a L ∧ Txs W t T := (by obtain ⟨fuel, hf⟩ := h0; exact open_texts15 hf hwt)
  refine (rowsruns_any L a c t T W hD hl hT).mono fun e W' ⟨he, hB⟩ => ?_
  subst he
  have e1 : ((Rows.OpenSpec.upto Rows.rowsRunsSpec).at F).fn H ([d0] ++ []) = { results := [.lit (.bool true)], args := [d0] } := rfl
  refine ⟨_, rfl, _, _, _, [], p, [], hW', ?_, ?_, ?_, hB.frame _, fun h => by cases h⟩
  · rw [e1]; exact trodAll_mk1 (shut_bool Tryd.underlying4 true)
  · rw [e1]; exact trodAll_mk1 (Below.trod laidOut (by kernel_rfl) (of_decide_eq_true (by kernel_rfl)) h0 hB hlt)
  · rw [e1]; rfl
set_option maxRecDepth 100000 in
theorem rowsRuns_lifted (os : Os) (started : os.Started) (H : Type) (enc : TypeId × Value → H) (F : Stop.Interp) :
    ReturnsInHanded {} Tryd.checked os 7 .any ((Rows.OpenSpec.upto Rows.rowsRunsSpec).preRow enc Tryd.prog Tryd.f7 Rows.rowsRunsUptoRow.domain false Rows.rowsRunsUptoRow.laid) (((Rows.OpenSpec.upto Rows.rowsRunsSpec).at F).post enc Tryd.prog Tryd.f7 false true false false) := by
  have hx : DataW.whole enc Tryd.prog ((World.doorLaid Tryd.prog 400 os).forCall (fun _ _ => 0) ⟨#[], #[.agg #[.slice none 0 0, .slice none 0 0]], []⟩).memory Tryd.f7.params.toList (Rows.OpenSpec.upto Rows.rowsRunsSpec).vars false (#[.agg #[.slice none 0 0, .slice none 0 0]] : Array Value).toList 8 = some ([.agg [.nil, .nil]], [], []) := by kernel_rfl
  refine returnsInHanded_of_row (C := Tryd.checked) (s := Rows.OpenSpec.upto Rows.rowsRunsSpec) own started (by kernel_rfl) Tryd.func7
    (witness_row_atRef (enc := enc) (C := Tryd.checked) false (World.doorLaid Tryd.prog 400 os) #[.agg #[.slice none 0 0, .slice none 0 0]] rfl (by kernel_rfl) (by kernel_rfl) (by kernel_rfl)
      (OpenSpec.preRow_of_cond 8 hx (by kernel_rfl) (fun k hk => by cases hk; kernel_rfl) (by kernel_rfl) (rowsRuns_met os _))) ?_
  intro W base args ds gs before hval hW _ _ hsz hL hsh _
  exact rowsRuns_contract F W base args ds gs before hval hW hsz hL hsh
theorem rowsRuns_row : Rows.RowsRunsUptoSaid :=
  OpenClaim.holds_of_cond 7 Tryd.f7 rfl rfl rfl rfl rfl rfl rfl ⟨rfl, rfl, rfl, rfl, rfl⟩ rfl rfl rfl rfl rfl (by kernel_rfl) Tryd.func7 (by kernel_rfl)
    (of_decide_eq_true (by kernel_rfl)) (by unfold Func.isWrapper; rw [if_neg (of_decide_eq_false (by kernel_rfl))]; exact ⟨rfl, rfl⟩)
    (fun os started H enc _ F => by rw [OpenClaim.pre_eq_preRow]; exact rowsRuns_lifted os started H enc F)
theorem rowsRuns_holds : Rows.RowsRunsUptoCardSaid :=
  Claim7.holds_tied_plain_at .later [] _ _ Rows.rowsRunsUptoCard.stood.harness Rows.rowsRunsUptoCard.stood.looks
    rowsRuns_row (fun _ h => by cases h) (by kernel_rfl) (fun _ h => by cases h) rowsRunsUpto_row_tie rfl ⟨rfl, rfl⟩ (by kernel_rfl) rfl
    (fun f fn hf hfn => by
      obtain rfl : f = 7 := Option.some.inj ((show Tryd.prog.funcNamed Rows.rowsRunsUptoRow.func = some 7 by kernel_rfl).symm.trans hf) |>.symm
      obtain rfl : fn = Tryd.f7 := (Option.some.inj (Tryd.func7.symm.trans hfn)).symm
      exact ⟨by kernel_rfl, fun j t ht => by
        rw [Tryd.params7] at ht
        have hm : t ∈ [58] := by simpa using Array.mem_of_getElem? ht
        have hall : ([58].all fun u => !Tryd.prog.wantsStandIn u) = true := by kernel_rfl
        exact (show Tryd.prog.wantsStandIn t = false by simpa using List.all_eq_true.1 hall t hm)⟩)
    (by kernel_rfl)
#print axioms rowsRuns_holds
end Go.Proofs.YtgcjclglhijchaaDoor
