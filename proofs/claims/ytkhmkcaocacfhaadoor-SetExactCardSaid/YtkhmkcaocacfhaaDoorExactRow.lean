/- SetExact returns true for every list of pairs, and leaves what it read as it was: on the condition that the table of math/bits, which the card ties to the program's text, stands in its variable when the call begins. -/
import Derived.Test.YtkhmkcaocacfhaaDoorExact
import Derived.Test.YtkhmkcaocacfhaaDoorOpen
import Derived.Test.YtkhmkcaocacfhaaDoorTie
import Derived.Test.YtkhmkcaocacfhaaDoorCards
import Derived.SevenTiedAt
namespace Go.Proofs.YtkhmkcaocacfhaaDoor
open Go Go.ChangeShapes Go.WideShapes Go.ChangeAt Go.RowKit
set_option maxHeartbeats 1000000 in
set_option maxRecDepth 100000 in
theorem exact_zero (a : Option Addr) (cap : Nat) (w : World) (hT : Tab w) :
    Calls Tryd.prog 3 #[.slice a 0 cap] w fun e w' => e = .returned (.bool true) ∧ Below w.heap.size w w' := by
  have HT := Lib.hid hT
  clear hT
  go_enter Tryd.func3, Tryd.ntmps3
  go_wp2_with fail
  refine wp_loop_rounds 1 ?_
  rw [rounds_succ]
  go_wp2_with (go_at_call 38; refine (wakes_any _ HT.out).mono ?_; rintro e w2 ⟨rfl, hb2⟩)
  go_ret
  exact ⟨rfl, hb2⟩
set_option maxRecDepth 100000 in
theorem open_elem {H : Type} {enc : TypeId × Value → H} {w : World} {k b o i : Nat} {cs : List Value} {y : DataW H × List MemPlace} (hc : w.cells? 0 ((⟨b, o, none⟩ : Addr).add (i * 10)) 10 = some cs)
    (h : DataW.trod enc Tryd.prog w 0 (fun _ => true) true k 29 cs = some y) (hw : ∀ n ∈ y.1.weights Tryd.prog 29, n ≤ reachBytes) :
    ∃ A B vb vs bs ss, Elem w b o i A B vb vs bs ss := by
  obtain ⟨_, hlen, hcell⟩ := World.cells?_some hc
  obtain ⟨xs, n, _, hy, _, hxl, hf⟩ := DataW.trod_struct Tryd.underlying29 h
  obtain ⟨x0, x1, x2, x3, x4, x5, x6, x7, x8, x9, rfl⟩ := ten_of hlen
  obtain ⟨y0, y1, y2, y3, rfl⟩ := four_of hxl
  have c4 : Tryd.prog.cellsOf 25 = 4 := by kernel_rfl
  have c1 : Tryd.prog.cellsOf 26 = 1 := by kernel_rfl
  have c1' : Tryd.prog.cellsOf 27 = 1 := by kernel_rfl
  have g0 : DataW.trod enc Tryd.prog w 0 (fun _ => true) true n 25 (([x0, x1, x2, x3, x4, x5, x6, x7, x8, x9].drop 0).take (Tryd.prog.cellsOf 25)) = [y0, y1, y2, y3][0]? := hf 0 _ rfl
  have g1 : DataW.trod enc Tryd.prog w 0 (fun _ => true) true n 25 (([x0, x1, x2, x3, x4, x5, x6, x7, x8, x9].drop 4).take (Tryd.prog.cellsOf 25)) = [y0, y1, y2, y3][1]? := hf 1 _ rfl
  have g2 : DataW.trod enc Tryd.prog w 0 (fun _ => true) true n 26 (([x0, x1, x2, x3, x4, x5, x6, x7, x8, x9].drop 8).take (Tryd.prog.cellsOf 26)) = [y0, y1, y2, y3][2]? := hf 2 _ rfl
  have g3 : DataW.trod enc Tryd.prog w 0 (fun _ => true) true n 27 (([x0, x1, x2, x3, x4, x5, x6, x7, x8, x9].drop 9).take (Tryd.prog.cellsOf 27)) = [y0, y1, y2, y3][3]? := hf 3 _ rfl
  rw [c4] at g0 g1
  rw [c1] at g2
  rw [c1'] at g3
  replace g0 : DataW.trod enc Tryd.prog w 0 (fun _ => true) true n 25 [x0, x1, x2, x3] = some y0 := g0
  replace g1 : DataW.trod enc Tryd.prog w 0 (fun _ => true) true n 25 [x4, x5, x6, x7] = some y1 := g1
  replace g2 : DataW.trod enc Tryd.prog w 0 (fun _ => true) true n 26 [x8] = some y2 := g2
  replace g3 : DataW.trod enc Tryd.prog w 0 (fun _ => true) true n 27 [x9] = some y3 := g3
  have hws : ∀ (j : Nat) (t : TypeId) (d : DataW H), [25, 25, 26, 27][j]? = some t → [y0.1, y1.1, y2.1, y3.1][j]? = some d → ∀ m ∈ d.weights Tryd.prog t, m ≤ reachBytes := by
    intro j t d ht hd m hm
    apply hw
    rw [show y.1 = .agg [y0.1, y1.1, y2.1, y3.1] by rw [hy]; rfl]
    simp only [DataW.weights, Tryd.underlying29]
    exact DataW.weights_mem_each (ts := [25, 25, 26, 27]) (ds := [y0.1, y1.1, y2.1, y3.1]) ht hd m hm
  obtain ⟨A, hA, _⟩ := set_trod g0
  obtain ⟨B, hB, _⟩ := set_trod g1
  simp only [List.cons.injEq, and_true] at hA hB
  obtain ⟨rfl, rfl, rfl, rfl⟩ := hA
  obtain ⟨rfl, rfl, rfl, rfl⟩ := hB
  obtain ⟨bs, hbs, hbn⟩ := open_bytes g2 (hws 2 _ _ rfl rfl)
  have hsp : ∃ ss, Spans w x9 ss ∧ (x9 = .slice none 0 0 ∨ ∃ a n c, x9 = .slice (some a) n c) ∧ ss.length * 2 ≤ 140737488355328 := by
    have hby : Tryd.prog.bytesOf 39 = 2 := by kernel_rfl
    have hw3 := hws 3 _ _ rfl rfl
    rcases Deep.open_slice Tryd.underlying27 g3 with ⟨e, _⟩ | ⟨a, len, cap, m, n', D, Pl, e, _, hl, hm, hmm, hx, _⟩
    · simp only [List.cons.injEq, and_true] at e
      subst e
      exact ⟨[], Slc.nil w, .inl rfl, by simp⟩
    · simp only [List.cons.injEq, and_true] at e
      subst e
      simp only [if_true] at hmm
      have hr2 := hw3 ((((List.range len).map D).length + ((List.range (m - len)).map fun j => D (len + j)).length) * 2) (by rw [hx]; simp [DataW.weights, Tryd.underlying27, hby])
      simp only [List.length_map, List.length_range, reachBytes] at hr2
      obtain ⟨a', n2, cap2, e2, _, hs⟩ := open_spans ⟨some a, len, cap, rfl⟩ ⟨_, by simpa [Value.cells] using g3⟩
      simp only [Value.slice.injEq] at e2
      obtain ⟨_, rfl, _⟩ := e2
      obtain ⟨l, hl1, hl2⟩ := hs (by omega)
      exact ⟨l, hl1, .inr ⟨a, len, cap, rfl⟩, by omega⟩
  obtain ⟨ss, hss, hsn, hsz⟩ := hsp
  have hc' : ∀ j, j < 10 → w.cell? ⟨b, o + i * 10 + j, none⟩ = [Value.int .u64 (wd A 0), .int .u64 (wd A 1), .int .u64 (wd A 2), .int .u64 (wd A 3), .int .u64 (wd B 0), .int .u64 (wd B 1), .int .u64 (wd B 2), .int .u64 (wd B 3), x8, x9][j]? := by
    intro j hj
    have := hcell j hj
    rw [addr_add, addr_add] at this
    exact this
  exact ⟨A, B, x8, x9, bs, ss, ⟨hc' 0 (by omega), hc' 1 (by omega), hc' 2 (by omega), hc' 3 (by omega), hc' 4 (by omega), hc' 5 (by omega), hc' 6 (by omega), hc' 7 (by omega), hc' 8 (by omega), hc' 9 (by omega), hbs, hss, hbn, hsn, hsz⟩⟩
theorem exact_any {H : Type} {enc : TypeId × Value → H} {w : World} {d : DataW H} {p : List MemPlace} {v : Value} (hv : ∃ a len cap, v = .slice a len cap) (h : DataW.Trod enc Tryd.prog w 0 (fun _ => true) true 22 v d p)
    (hw : ∀ n ∈ d.weights Tryd.prog 22, n ≤ reachBytes) (hT : Tab w) :
    Calls Tryd.prog 3 #[v] w fun e w' => e = .returned (.bool true) ∧ Below w.heap.size w w' := by
  obtain ⟨a0, n0, cap0, rfl⟩ := hv
  obtain ⟨fuel, hf⟩ := h
  have c10 : Tryd.prog.cellsOf 29 = 10 := by kernel_rfl
  by_cases h0 : n0 = 0
  · subst h0; exact exact_zero a0 cap0 w hT
  · rcases Deep.open_slice Tryd.underlying22 hf with ⟨hcs, _⟩ | ⟨a, len, cap, m, n, D, Pl, hcs, _, hl, hm, hmm, hx, hel⟩
    · simp [Value.cells] at hcs
      exact absurd hcs.2.1 h0
    · simp [Value.cells] at hcs
      obtain ⟨rfl, rfl, rfl⟩ := hcs
      simp only [if_true] at hmm
      rw [c10] at hel
      obtain ⟨b, off, spot⟩ := a
      obtain ⟨cs0, hc0, _⟩ := hel 0 (by omega)
      obtain ⟨_, hlen0, hcell0⟩ := World.cells?_some hc0
      have h00 := hcell0 0 (by omega)
      rw [Deep.add_add] at h00
      have hsome : ∃ u, cs0[0]? = some u := ⟨_, List.getElem?_eq_getElem (by omega)⟩
      obtain ⟨u, hu⟩ := hsome
      rw [hu] at h00
      have h01 : w.cell? (⟨b, off, spot⟩ : Addr) = some u := h00
      have hspot : spot = none := World.cell?_spot h01
      subst hspot
      refine exact_some b off n0 cap0 w hT (World.block_lt_of_cell? w (⟨b, off, none⟩ : Addr) h01) (by unfold maxLen at hm; omega) fun i hi => ?_
      obtain ⟨cs', hc', ht⟩ := hel i (by omega)
      refine open_elem hc' ht fun x hxw => hw x ?_
      simp only [Prod.mk.injEq] at hx
      rw [hx.1]
      simp only [DataW.weights, Tryd.underlying22, List.mem_cons, List.mem_append]
      exact .inr (.inl (weights_all (List.mem_map.2 ⟨i, List.mem_range.2 hi, rfl⟩) x hxw))
set_option maxRecDepth 100000 in
theorem setExact_lifted (os : Os) (started : os.Started) (H : Type) (enc : TypeId × Value → H) :
    ReturnsInHanded {} Tryd.checked os 3 .any (fun w args => (Rows.setExactSpec.pre enc Tryd.prog Tryd.f3 [] false w args ∧ laidMetH Tryd.prog laidTab w) ∧ sizedMet enc Tryd.prog Tryd.f3 (OpenSpec.ofChange Rows.setExactSpec) false w args)
      (Rows.setExactSpec.post enc Tryd.prog Tryd.f3 false true false false) := by
  refine returnsInHanded_of_change_and (C := Tryd.checked) (X := fun w _ => laidMetH Tryd.prog laidTab w) (fun _ _ _ hh h => h.of_heap hh) own started (by kernel_rfl) Tryd.func3
    (ChangeSpec.witness_shaped (enc := enc) (C := Tryd.checked) (os := os) (X := fun w _ => laidMetH Tryd.prog laidTab w) false (World.doorLaid Tryd.prog 400 os) #[.slice none 0 0] 8 rfl (World.shaped_of_RefB (by kernel_rfl) (by kernel_rfl)) (by kernel_rfl) (by kernel_rfl) (by kernel_rfl) (door_met os _)) ?_
  intro W base args ds gs before hval0 hW _ _hsz0 hL _
  have hval : ∀ (j : Nat) t v, Tryd.f3.params[j]? = some t → args[j]? = some v → Value.okWide Tryd.prog W .any base t v := hval0
  have hW' := hW
  obtain ⟨p, q, hA0, hV, rfl, hfz, hnd⟩ := hW
  have hA : DataW.TrodAll enc Tryd.prog W 0 (fun _ => true) true Tryd.f3.params.toList args.toList ds p := hA0
  rw [Tryd.params3] at hA hval
  obtain ⟨v0, d0, rfl, rfl, h0⟩ := trodAll_one hA
  obtain ⟨rfl, rfl⟩ := trodVars_none hV
  have hTab := tab_of_laid hL
  have hsl := okWide_slice Tryd.underlying22 (hval 0 _ v0 rfl rfl)
  have hlt : ∀ x ∈ p, x.block < W.heap.size := fun x hx => hW'.lt x (by simp [hx])
  clear hA0 hval0 hA hV
  refine (exact_any hsl h0 (fun n hn => by simpa using List.all_eq_true.1 _hsz0 n (DataW.weights_mem_each (j := 0) rfl rfl n hn)) hTab).mono fun e W' ⟨he, hB⟩ => ?_
  subst he
  have e1 : Rows.setExactSpec.fn H ([d0] ++ []) = { results := [.lit (.bool true)], args := [d0] } := by simp [Rows.setExactSpec]
  refine ⟨_, rfl, _, _, _, [], p, [], hW', ?_, ?_, ?_, hB.frame _, fun h => by cases h⟩
  · rw [e1]; exact trodAll_mk1 (shut_bool Tryd.underlying4 true)
  · rw [e1]; exact trodAll_mk1 (Below.trod laidOut (by kernel_rfl) (of_decide_eq_true (by kernel_rfl)) h0 hB hlt)
  · rw [e1]; rfl
theorem setExact_row : Rows.SetExactSaid :=
  OpenClaim.holds_of_wide 3 Tryd.f3 rfl rfl rfl rfl rfl rfl rfl ⟨rfl, rfl, rfl, rfl, rfl⟩ rfl rfl rfl rfl rfl (by kernel_rfl) Tryd.func3 (by kernel_rfl)
    (of_decide_eq_true (by kernel_rfl)) (by unfold Func.isWrapper; rw [if_neg (of_decide_eq_false (by kernel_rfl))]; exact ⟨rfl, rfl⟩)
    (fun os started H enc _ => setExact_lifted os started H enc)
theorem setExact_holds : Rows.SetExactCardSaid :=
  Claim7.holds_tied_plain_at .later [] [.data] true Rows.setExactCard.stood.harness Rows.setExactCard.stood.looks
    setExact_row (fun _ h => by cases h) (by kernel_rfl) (fun _ h => by cases h) setExact_row_tie rfl ⟨rfl, rfl⟩ (by kernel_rfl) rfl
    (fun f fn hf hfn => by
      obtain rfl : f = 3 := Option.some.inj ((show Tryd.prog.funcNamed Rows.setExactRow.func = some 3 by kernel_rfl).symm.trans hf) |>.symm
      obtain rfl : fn = Tryd.f3 := (Option.some.inj (Tryd.func3.symm.trans hfn)).symm
      exact ⟨by kernel_rfl, fun j t ht => by
        rw [Tryd.params3] at ht
        have hm : t ∈ [22] := by simpa using Array.mem_of_getElem? ht
        have hall : ([22].all fun u => !Tryd.prog.wantsStandIn u) = true := by kernel_rfl
        exact (show Tryd.prog.wantsStandIn t = false by simpa using List.all_eq_true.1 hall t hm)⟩)
    (by kernel_rfl)
#print axioms setExact_holds
end Go.Proofs.YtkhmkcaocacfhaaDoor
