/- CensusBack returns true for every automaton, label and list of places, and leaves what it read as it was: on the condition that the error which the card ties to the program's text stands in its variable when the call begins. -/
import Derived.Test.YtniamfaiamgncaaDoorKbk
import Derived.Test.YtniamfaiamgncaaDoorDnr
import Derived.Test.YtniamfaiamgncaaDoorRpl
namespace Go.Proofs.YtniamfaiamgncaaDoor
open Go Go.ChangeShapes Go.WideShapes Go.ChangeAt Go.RowKit
theorem u64_ofq {n : Int} (h : (Lit.int .u64 n).wf = true) : ∃ m : Nat, n = (m : Int) ∧ m < T64 := by
  simp only [Lit.wf, IntKind.min, IntKind.max, IntKind.signed, IntKind.bits, Bool.and_eq_true] at h
  simp at h
  refine ⟨n.toNat, by omega, ?_⟩
  unfold T64
  omega
section
variable {H : Type} {enc : TypeId × Value → H} {w : World}
theorem open_u64s {k : Nat} {v : Value} {y : DataW H × List MemPlace} (h : DataW.trod enc Tryd.prog w 0 (fun _ => true) true k 64 [v] = some y) (hw : ∀ n ∈ y.1.weights Tryd.prog 64, n ≤ reachBytes) : ∃ L : List Nat, Slc w v L.length (L.map u64v) ∧ (∀ x ∈ L, x < T64) ∧ L.length * 8 ≤ 140737488355328 := by
  have c1 : Tryd.prog.cellsOf 70 = 1 := by kernel_rfl
  have b8 : Tryd.prog.bytesOf 70 = 8 := by kernel_rfl
  rcases DataW.trod_slice Tryd.underlying64 h with ⟨hcs, _⟩ | ⟨a, len, cap, elems, rest, m, hm, hcs, hxe, hb, hle, hcm, helen, hel, hsp, hns⟩
  · simp only [List.cons.injEq, and_true] at hcs
    subst hcs
    exact ⟨[], Slc.nil w, (fun x hx => by cases hx), by simp⟩
  · simp only [List.cons.injEq, and_true] at hcs
    subst hcs
    have hS : ∀ i, ∃ n : Nat, i < len → w.cell? (a.add i) = some (u64v n) ∧ n < T64 := by
      intro i
      by_cases hi : i < len
      · have hi2 := hel i hi
        rw [List.getElem?_eq_getElem (by omega), c1] at hi2
        obtain ⟨cs', h1, h2⟩ := Option.bind_eq_some_iff.1 hi2
        obtain ⟨n, rfl, _, hn⟩ := DataW.trod_int Tryd.underlying70 h2
        obtain ⟨_, _, hc⟩ := World.cells?_some h1
        have := hc 0 (by omega)
        obtain ⟨m, rfl, hm⟩ := u64_ofq hn
        exact ⟨m, fun _ => ⟨by simpa [Addr.add] using this, hm⟩⟩
      · exact ⟨0, fun h => absurd h hi⟩
    obtain ⟨X, hX⟩ := Classical.axiomOfChoice hS
    have hwl := hw ((elems.length + rest.length) * 8) (by rw [hxe]; simp [DataW.weights, Tryd.underlying64, b8])
    simp only [reachBytes] at hwl
    refine ⟨(List.range len).map X, ⟨some a, cap, by simp, by simpa using hle, ⟨by simp; omega, hcm⟩, ?_⟩, fun x hx => ?_, by simp; omega⟩
    · by_cases h0 : len = 0
      · subst h0; exact .inl rfl
      · obtain ⟨b, off, spot⟩ := a
        have h00 := (hX 0 (by omega)).1
        have hspot : spot = none := by simpa [Addr.add] using World.cell?_spot h00
        subst hspot
        simp only [addr_addq] at hX h00
        refine .inr ⟨b, off, rfl, World.block_lt_of_cell? w (⟨b, off + 0, none⟩ : Addr) h00, fun i hi => ?_⟩
        have hi' : i < len := by simpa using hi
        rw [(hX i hi').1]
        simp [hi']
    · obtain ⟨i, hi, rfl⟩ := List.mem_map.1 hx
      exact (hX i (List.mem_range.1 hi)).2
end
theorem four_ofq {α : Type} {l : List α} (h : l.length = 4) : ∃ a b c d, l = [a, b, c, d] :=
  match l, h with
  | [a, b, c, d], _ => ⟨a, b, c, d, rfl⟩
theorem open_places14 {H : Type} {enc : TypeId × Value → H} {w : World} {k : Nat} {cs : List Value} {y : DataW H × List MemPlace} (h : DataW.trod enc Tryd.prog w 0 (fun _ => true) true k 74 cs = some y) (hw : ∀ n ∈ y.1.weights Tryd.prog 74, n ≤ reachBytes) :
    ∃ (a b u : Value) (x : Int) (d : Dd) (ks : List Nat), cs = [a, b, .int .i64 x, u] ∧ Rws w a d.nx ∧ Ints w b d.lb ∧ x ≤ 9223372036854775807 ∧ Slc w u ks.length (ks.map u64v) ∧ (∀ k ∈ ks, k < T64) := by
  have c2 : Tryd.prog.cellsOf 25 = 2 := by kernel_rfl
  have c1 : Tryd.prog.cellsOf 64 = 1 := by kernel_rfl
  have ci : Tryd.prog.cellsOf 3 = 1 := by kernel_rfl
  have c4 : Tryd.prog.cellsOf 74 = 4 := by kernel_rfl
  obtain ⟨xs, n, hn, hx, hl, hlen, hf⟩ := DataW.trod_struct Tryd.underlying74 h
  rw [c4] at hl
  obtain ⟨x0, x1, x2, x3, rfl⟩ := four_ofq hl
  obtain ⟨z0, z1, z2, rfl⟩ : ∃ z0 z1 z2, xs = [z0, z1, z2] := by
    match xs, hlen with
    | [z0, z1, z2], _ => exact ⟨z0, z1, z2, rfl⟩
  have e0 : DataW.trod enc Tryd.prog w 0 (fun _ => true) true n 25 (([x0, x1, x2, x3].drop 0).take (Tryd.prog.cellsOf 25)) = some z0 := hf 0 _ rfl
  have e1 : DataW.trod enc Tryd.prog w 0 (fun _ => true) true n 3 (([x0, x1, x2, x3].drop 2).take (Tryd.prog.cellsOf 3)) = some z1 := hf 1 _ rfl
  have e2 : DataW.trod enc Tryd.prog w 0 (fun _ => true) true n 64 (([x0, x1, x2, x3].drop 3).take (Tryd.prog.cellsOf 64)) = some z2 := hf 2 _ rfl
  simp only [c2, c1, ci, List.drop_zero, List.drop_succ_cons, List.take_succ_cons, List.take_zero] at e0 e1 e2
  have hww : ∀ (j : Nat) (t : TypeId) (d : DataW H), [25, 3, 64][j]? = some t → [z0.1, z1.1, z2.1][j]? = some d → ∀ m ∈ d.weights Tryd.prog t, m ≤ reachBytes := by
    intro j t d ht hd m hm
    refine hw m ?_
    rw [hx]
    simp only [DataW.weights, Tryd.underlying74]
    exact DataW.weights_mem_each (ts := [25, 3, 64]) (ds := [z0.1, z1.1, z2.1]) ht hd m hm
  obtain ⟨a, b, d, e, hR, hI⟩ := open_dense e0 (hww 0 _ _ rfl rfl)
  cases e
  obtain ⟨x, hx2, _, hxw⟩ := DataW.trod_int Tryd.underlying3 e1
  cases hx2
  obtain ⟨ks, hK, hK64, _⟩ := open_u64s e2 (hww 2 _ _ rfl rfl)
  exact ⟨_, _, _, x, d, ks, rfl, hR, hI, (i64_ofq hxw).2, hK, hK64⟩
theorem censusBack_met (os : Os) (args : Array Value) : laidMetH Tryd.prog Rows.censusBackRow.laid ((World.doorLaid Tryd.prog 400 os).forCall (fun _ _ => 0) ⟨#[], args, []⟩).memory :=
  laidMetH_of_parts (laidMet_of_run' 8 (by kernel_rfl) (by kernel_rfl)) (by kernel_rfl)
set_option maxRecDepth 100000 in
theorem censusBack_contract {H : Type} {enc : TypeId × Value → H} (F : Stop.Interp) (W : World) (base : Nat) (args : Array Value) (ds gs : List (DataW H)) (before : List MemPlace)
    (hval0 : ∀ (j : Nat) t v, Tryd.f9.params[j]? = some t → args[j]? = some v → Value.okWide Tryd.prog W .any base t v)
    (hW : DataW.Whole enc Tryd.prog Tryd.f9.params.toList (OpenSpec.ofChange Rows.censusBackSpec).vars false W args.toList ds gs before)
    (hsz : (DataW.weightsEach Tryd.prog (Tryd.f9.params.toList ++ (OpenSpec.ofChange Rows.censusBackSpec).bare.plain.varTypes Tryd.prog) (ds ++ gs)).all (· ≤ reachBytes) = true)
    (hL : laidMetH Tryd.prog Rows.censusBackRow.laid W) (hsh : W.ShapedOpen Tryd.prog) :
    Calls Tryd.prog 9 args W fun e W' => ∃ v, e = .returned v ∧ ((OpenSpec.ofChange Rows.censusBackSpec).at F).post enc Tryd.prog Tryd.f9 false true false false W args v W' := by
  have hval : ∀ (j : Nat) t v, Tryd.f9.params[j]? = some t → args[j]? = some v → Value.okWide Tryd.prog W .any base t v := hval0
  have hW' := hW
  obtain ⟨p, q, hA0, hV, rfl, hfz, hnd⟩ := hW
  have hA : DataW.TrodAll enc Tryd.prog W 0 (fun _ => true) true Tryd.f9.params.toList args.toList ds p := hA0
  rw [Tryd.params9] at hA hval
  obtain ⟨v0, d0, rfl, rfl, h0⟩ := trodAll_one hA
  obtain ⟨rfl, rfl⟩ := trodVars_none hV
  have hlt : ∀ x ∈ p, x.block < W.heap.size := fun x hx => hW'.lt x (by simp [hx])
  have hwt : ∀ n ∈ d0.weights Tryd.prog 74, n ≤ reachBytes := fun n hn => by simpa using List.all_eq_true.1 hsz n (DataW.weights_mem_each (j := 0) rfl rfl n hn)
  have _ := hsh; have _ := hL
  obtain ⟨⟨cs⟩, rfl, hcl⟩ := okWide_struct Tryd.underlying74 (hval 0 _ v0 rfl rfl); obtain ⟨a, b, u, x, d, ks, rfl, hR, hI, hx2, hK, hK64⟩ : ∃ (a b u : Value) (x : Int) (d : Dd) (ks : List Nat), cs = [a, b, .int .i64 x, u] ∧ Rws W a d.nx ∧ Ints W b d.lb ∧ x ≤ 9223372036854775807 ∧ Slc W u ks.length (ks.map u64v) ∧ (∀ k ∈ ks, k < T64) := (by obtain ⟨fuel, hf⟩ := h0; exact open_places14 hf hwt)
  refine (back_any d a b u x ks W hR hI hK hK64 hx2).mono fun e W' ⟨he, hB⟩ => ?_
  subst he
  have e1 : ((OpenSpec.ofChange Rows.censusBackSpec).at F).fn H ([d0] ++ []) = { results := [.lit (.bool true)], args := [d0] } := rfl
  refine ⟨_, rfl, _, _, _, [], p, [], hW', ?_, ?_, ?_, hB.frame _, fun h => by cases h⟩
  · rw [e1]; exact trodAll_mk1 (shut_bool Tryd.underlying4 true)
  · rw [e1]; exact trodAll_mk1 (Below.trod laidOut (by kernel_rfl) (of_decide_eq_true (by kernel_rfl)) h0 hB hlt)
  · rw [e1]; rfl
set_option maxRecDepth 100000 in
theorem censusBack_lifted (os : Os) (started : os.Started) (H : Type) (enc : TypeId × Value → H) (F : Stop.Interp) :
    ReturnsInHanded {} Tryd.checked os 9 .any ((OpenSpec.ofChange Rows.censusBackSpec).preRow enc Tryd.prog Tryd.f9 Rows.censusBackRow.domain false Rows.censusBackRow.laid) (((OpenSpec.ofChange Rows.censusBackSpec).at F).post enc Tryd.prog Tryd.f9 false true false false) := by
  have hx : DataW.whole enc Tryd.prog ((World.doorLaid Tryd.prog 400 os).forCall (fun _ _ => 0) ⟨#[], #[.agg #[.slice none 0 0, .slice none 0 0, .int .i64 0, .slice none 0 0]], []⟩).memory Tryd.f9.params.toList (OpenSpec.ofChange Rows.censusBackSpec).vars false (#[.agg #[.slice none 0 0, .slice none 0 0, .int .i64 0, .slice none 0 0]] : Array Value).toList 8 = some ([.agg [.agg [.nil, .nil], .lit (.int .i64 0), .nil]], [], []) := by kernel_rfl
  refine returnsInHanded_of_row (C := Tryd.checked) (s := OpenSpec.ofChange Rows.censusBackSpec) own started (by kernel_rfl) Tryd.func9
    (witness_row_atRef (enc := enc) (C := Tryd.checked) false (World.doorLaid Tryd.prog 400 os) #[.agg #[.slice none 0 0, .slice none 0 0, .int .i64 0, .slice none 0 0]] rfl (by kernel_rfl) (by kernel_rfl) (by kernel_rfl)
      (OpenSpec.preRow_of_cond 8 hx (by kernel_rfl) (fun k hk => by cases hk) (by kernel_rfl) (censusBack_met os _))) ?_
  intro W base args ds gs before hval hW _ _ hsz hL hsh _
  exact censusBack_contract F W base args ds gs before hval hW hsz hL hsh
theorem censusBack_row : Rows.CensusBackSaid :=
  OpenClaim.holds_of_cond 9 Tryd.f9 rfl rfl rfl rfl rfl rfl rfl ⟨rfl, rfl, rfl, rfl, rfl⟩ rfl rfl rfl rfl rfl (by kernel_rfl) Tryd.func9 (by kernel_rfl)
    (of_decide_eq_true (by kernel_rfl)) (by unfold Func.isWrapper; rw [if_neg (of_decide_eq_false (by kernel_rfl))]; exact ⟨rfl, rfl⟩)
    (fun os started H enc _ F => by rw [OpenClaim.pre_eq_preRow]; exact censusBack_lifted os started H enc F)
theorem censusBack_holds : Rows.CensusBackCardSaid :=
  Claim7.holds_tied_plain_at .later [] _ _ Rows.censusBackCard.stood.harness Rows.censusBackCard.stood.looks
    censusBack_row (fun _ h => by cases h) (by kernel_rfl) (fun _ h => by cases h) censusBack_row_tie rfl ⟨rfl, rfl⟩ (by kernel_rfl) rfl
    (fun f fn hf hfn => by
      obtain rfl : f = 9 := Option.some.inj ((show Tryd.prog.funcNamed Rows.censusBackRow.func = some 9 by kernel_rfl).symm.trans hf) |>.symm
      obtain rfl : fn = Tryd.f9 := (Option.some.inj (Tryd.func9.symm.trans hfn)).symm
      exact ⟨by kernel_rfl, fun j t ht => by
        rw [Tryd.params9] at ht
        have hm : t ∈ [74] := by simpa using Array.mem_of_getElem? ht
        have hall : ([74].all fun u => !Tryd.prog.wantsStandIn u) = true := by kernel_rfl
        exact (show Tryd.prog.wantsStandIn t = false by simpa using List.all_eq_true.1 hall t hm)⟩)
    (by kernel_rfl)
#print axioms censusBack_holds
end Go.Proofs.YtniamfaiamgncaaDoor
