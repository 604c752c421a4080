/- ClassBack returns true for every lists of sets and of texts and every two texts to stand ahead and behind, and leaves what it read as it was: on the conditions that the errors and the tables which the card ties to the program's text stand in their variables when the call begins. -/
import Derived.Test.YtgcfilgobclcjaaDoorBak
import Derived.Test.YtgcfilgobclcjaaDoorKno
namespace Go.Proofs.YtgcfilgobclcjaaDoor
open Go Go.ChangeShapes Go.WideShapes Go.ChangeAt Go.RowKit
theorem open_round {H : Type} {enc : TypeId × Value → H} {w : World} {k : Nat} {cs : List Value} {y : DataW H × List MemPlace} (h : DataW.trod enc Tryd.prog w 0 (fun _ => true) true k 34 cs = some y) (hw : ∀ n ∈ y.1.weights Tryd.prog 34, n ≤ reachBytes) :
    ∃ vs vt A M LS LT, cs = [vs, vt, .string A, .string M] ∧ A.size ≤ 140737488355328 ∧ M.size ≤ 140737488355328 ∧ SetsIn w vs LS ∧ StrsIn w vt LT := by
  have c4 : Tryd.prog.cellsOf 34 = 4 := by kernel_rfl
  have c2 : Tryd.prog.cellsOf 25 = 2 := by kernel_rfl
  have c1 : Tryd.prog.cellsOf 9 = 1 := by kernel_rfl
  have c1a : Tryd.prog.cellsOf 22 = 1 := by kernel_rfl
  have c1b : Tryd.prog.cellsOf 23 = 1 := by kernel_rfl
  obtain ⟨y0, y1, y2, n, hx, hl, h0, h1, h2⟩ := Deep.trod_struct3 Tryd.underlying34 h
  rw [c4] at hl
  obtain ⟨x0, x1, x2, x3, rfl⟩ := four_of hl
  simp only [c2, c1, List.drop_zero, List.drop_succ_cons, List.take_succ_cons, List.take_zero] at h0 h1 h2
  obtain ⟨z0, z1, m, hx0, hl0, g0, g1⟩ := trod_struct2 Tryd.underlying25 h0
  simp only [c1a, c1b, List.drop_zero, List.drop_succ_cons, List.take_succ_cons, List.take_zero] at g0 g1
  obtain ⟨LS, hS⟩ := open_sets g0
  obtain ⟨LT, hT⟩ := open_strsIn g1
  obtain ⟨A, e1, e1', _⟩ := DataW.trod_string Tryd.underlying9 h1
  obtain ⟨M, e2, e2', _⟩ := DataW.trod_string Tryd.underlying9 h2
  have hww : ∀ (j : Nat) (t : TypeId) (d : DataW H), [25, 9, 9][j]? = some t → [y0.1, y1.1, y2.1][j]? = some d → ∀ m ∈ d.weights Tryd.prog t, m ≤ reachBytes := by
    intro j t d ht hd m hm
    apply hw
    rw [hx]
    simp only [DataW.weights, Tryd.underlying34]
    exact DataW.weights_mem_each (ts := [25, 9, 9]) (ds := [y0.1, y1.1, y2.1]) ht hd m hm
  have w1 := hww 1 _ _ rfl rfl A.data.toList.length (by rw [e1']; simp [DataW.weights])
  have w2 := hww 2 _ _ rfl rfl M.data.toList.length (by rw [e2']; simp [DataW.weights])
  rw [← len_list] at w1 w2
  simp only [reachBytes] at w1 w2
  simp only [List.cons.injEq, and_true] at e1 e2
  subst e1 e2
  exact ⟨x0, x1, A, M, LS, LT, rfl, by omega, by omega, hS, hT⟩
theorem classBack_met (os : Os) (args : Array Value) : laidMetH Tryd.prog Rows.classBackRow.laid ((World.doorLaid Tryd.prog 400 os).forCall (fun _ _ => 0) ⟨#[], args, []⟩).memory :=
  laidMetH_of_parts (laidMet_of_run' 8 (by kernel_rfl) (by kernel_rfl)) (by kernel_rfl)
set_option maxRecDepth 100000 in
theorem classBack_contract {H : Type} {enc : TypeId × Value → H} (F : Stop.Interp) (W : World) (base : Nat) (args : Array Value) (ds gs : List (DataW H)) (before : List MemPlace)
    (hval0 : ∀ (j : Nat) t v, Tryd.f4.params[j]? = some t → args[j]? = some v → Value.okWide Tryd.prog W .any base t v)
    (hW : DataW.Whole enc Tryd.prog Tryd.f4.params.toList (OpenSpec.ofChange Rows.classBackSpec).vars false W args.toList ds gs before)
    (hsz : (DataW.weightsEach Tryd.prog (Tryd.f4.params.toList ++ (OpenSpec.ofChange Rows.classBackSpec).bare.plain.varTypes Tryd.prog) (ds ++ gs)).all (· ≤ reachBytes) = true)
    (hL : laidMetH Tryd.prog Rows.classBackRow.laid W) (hsh : W.ShapedOpen Tryd.prog) :
    Calls Tryd.prog 4 args W fun e W' => ∃ v, e = .returned v ∧ ((OpenSpec.ofChange Rows.classBackSpec).at F).post enc Tryd.prog Tryd.f4 false true false false W args v W' := by
  have hval : ∀ (j : Nat) t v, Tryd.f4.params[j]? = some t → args[j]? = some v → Value.okWide Tryd.prog W .any base t v := hval0
  have hW' := hW
  obtain ⟨p, q, hA0, hV, rfl, hfz, hnd⟩ := hW
  have hA : DataW.TrodAll enc Tryd.prog W 0 (fun _ => true) true Tryd.f4.params.toList args.toList ds p := hA0
  rw [Tryd.params4] at hA hval
  obtain ⟨v0, d0, rfl, rfl, h0⟩ := trodAll_one hA
  obtain ⟨rfl, rfl⟩ := trodVars_none hV
  have hlt : ∀ x ∈ p, x.block < W.heap.size := fun x hx => hW'.lt x (by simp [hx])
  have hwt : ∀ n ∈ d0.weights Tryd.prog 34, n ≤ reachBytes := fun n hn => by simpa using List.all_eq_true.1 hsz n (DataW.weights_mem_each (j := 0) rfl rfl n hn)
  obtain ⟨hT, es, ed, hK⟩ := known_door hL (by kernel_rfl) hsh (List.mem_of_getElem? (i := 1) (by kernel_rfl)) (List.mem_of_getElem? (i := 5) (by kernel_rfl)) (List.mem_of_getElem? (i := 6) (by kernel_rfl)) (List.mem_of_getElem? (i := 4) (by kernel_rfl))
  obtain ⟨⟨cs⟩, rfl, hcl⟩ := okWide_struct Tryd.underlying34 (hval 0 _ v0 rfl rfl); obtain ⟨vs, vt, A, M, LS, LT, rfl, hA1, hM1, hS, hV⟩ : ∃ vs vt A M LS LT, cs = [vs, vt, .string A, .string M] ∧ A.size ≤ 140737488355328 ∧ M.size ≤ 140737488355328 ∧ SetsIn W vs LS ∧ StrsIn W vt LT := (by obtain ⟨fuel, hf⟩ := h0; exact open_round hf hwt)
  refine (back_any vs vt A M LS LT es ed W hA1 hM1 hS hV hT hK).mono fun e W' ⟨he, hB⟩ => ?_
  subst he
  have e1 : ((OpenSpec.ofChange Rows.classBackSpec).at F).fn H ([d0] ++ []) = { results := [.lit (.bool true)], args := [d0] } := rfl
  refine ⟨_, rfl, _, _, _, [], p, [], hW', ?_, ?_, ?_, hB.frame _, fun h => by cases h⟩
  · rw [e1]; exact trodAll_mk1 (shut_bool Tryd.underlying4 true)
  · rw [e1]; exact trodAll_mk1 (Below.trod laidOut (by kernel_rfl) (of_decide_eq_true (by kernel_rfl)) h0 hB hlt)
  · rw [e1]; rfl
set_option maxRecDepth 100000 in
theorem classBack_lifted (os : Os) (started : os.Started) (H : Type) (enc : TypeId × Value → H) (F : Stop.Interp) :
    ReturnsInHanded {} Tryd.checked os 4 .any ((OpenSpec.ofChange Rows.classBackSpec).preRow enc Tryd.prog Tryd.f4 Rows.classBackRow.domain false Rows.classBackRow.laid) (((OpenSpec.ofChange Rows.classBackSpec).at F).post enc Tryd.prog Tryd.f4 false true false false) := by
  have hx : DataW.whole enc Tryd.prog ((World.doorLaid Tryd.prog 400 os).forCall (fun _ _ => 0) ⟨#[], #[.agg #[.slice none 0 0, .slice none 0 0, .string .empty, .string .empty]], []⟩).memory Tryd.f4.params.toList (OpenSpec.ofChange Rows.classBackSpec).vars false (#[.agg #[.slice none 0 0, .slice none 0 0, .string .empty, .string .empty]] : Array Value).toList 8 = some ([.agg [.agg [.nil, .nil], .lit (.string []), .lit (.string [])]], [], []) := by kernel_rfl
  refine returnsInHanded_of_row (C := Tryd.checked) (s := OpenSpec.ofChange Rows.classBackSpec) own started (by kernel_rfl) Tryd.func4
    (witness_row_atRef (enc := enc) (C := Tryd.checked) false (World.doorLaid Tryd.prog 400 os) #[.agg #[.slice none 0 0, .slice none 0 0, .string .empty, .string .empty]] rfl (by kernel_rfl) (by kernel_rfl) (by kernel_rfl)
      (OpenSpec.preRow_of_cond 8 hx (by kernel_rfl) (fun k hk => by cases hk) (by kernel_rfl) (classBack_met os _))) ?_
  intro W base args ds gs before hval hW _ _ hsz hL hsh _
  exact classBack_contract F W base args ds gs before hval hW hsz hL hsh
theorem classBack_row : Rows.ClassBackSaid :=
  OpenClaim.holds_of_cond 4 Tryd.f4 rfl rfl rfl rfl rfl rfl rfl ⟨rfl, rfl, rfl, rfl, rfl⟩ rfl rfl rfl rfl rfl (by kernel_rfl) Tryd.func4 (by kernel_rfl)
    (of_decide_eq_true (by kernel_rfl)) (by unfold Func.isWrapper; rw [if_neg (of_decide_eq_false (by kernel_rfl))]; exact ⟨rfl, rfl⟩)
    (fun os started H enc _ F => by rw [OpenClaim.pre_eq_preRow]; exact classBack_lifted os started H enc F)
theorem classBack_holds : Rows.ClassBackCardSaid :=
  Claim7.holds_tied_plain_at .later [] _ _ Rows.classBackCard.stood.harness Rows.classBackCard.stood.looks
    classBack_row (fun _ h => by cases h) (by kernel_rfl) (fun _ h => by cases h) classBack_row_tie rfl ⟨rfl, rfl⟩ (by kernel_rfl) rfl
    (fun f fn hf hfn => by
      obtain rfl : f = 4 := Option.some.inj ((show Tryd.prog.funcNamed Rows.classBackRow.func = some 4 by kernel_rfl).symm.trans hf) |>.symm
      obtain rfl : fn = Tryd.f4 := (Option.some.inj (Tryd.func4.symm.trans hfn)).symm
      exact ⟨by kernel_rfl, fun j t ht => by
        rw [Tryd.params4] at ht
        have hm : t ∈ [34] := by simpa using Array.mem_of_getElem? ht
        have hall : ([34].all fun u => !Tryd.prog.wantsStandIn u) = true := by kernel_rfl
        exact (show Tryd.prog.wantsStandIn t = false by simpa using List.all_eq_true.1 hall t hm)⟩)
    (by kernel_rfl)
#print axioms classBack_holds
end Go.Proofs.YtgcfilgobclcjaaDoor
