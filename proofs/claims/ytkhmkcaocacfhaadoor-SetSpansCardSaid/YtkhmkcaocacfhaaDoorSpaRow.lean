/- SetSpans returns true for every list of spans, and leaves what it read as it was: on the condition that the table of math/bits, which the card ties to the program's text, stands in its variable when the call begins. -/
import Derived.Test.YtkhmkcaocacfhaaDoorSpa
import Derived.Test.YtkhmkcaocacfhaaDoorRow
import Derived.Test.YtkhmkcaocacfhaaDoorTie
import Derived.Test.YtkhmkcaocacfhaaDoorCards
import Derived.SevenTiedAt
import Derived.Deep.SlicePairs
namespace Go.Proofs.YtkhmkcaocacfhaaDoor
open Go Go.ChangeShapes Go.WideShapes Go.ChangeAt Go.RowKit
def b8 (v : Value) : UInt8 := UInt8.ofNat (intOf v).toNat
theorem ub_b8 {H : Type} {enc : TypeId × Value → H} {w : World} {base : Nat} {sp : Nat → Bool} {held : Bool} {n : Nat} {v : Value} {x : DataW H × List MemPlace} (h : DataW.trod enc Tryd.prog w base sp held n 5 [v] = some x) : v = ub (b8 v) := by
  obtain ⟨k, f, _, hw⟩ := DataW.trod_int Tryd.underlying5 h
  simp only [List.cons.injEq, and_true] at f
  subst f
  simp only [Lit.wf, IntKind.min, IntKind.max, IntKind.signed, IntKind.bits, Bool.and_eq_true] at hw
  simp at hw
  simp only [ub, b8, intOf]
  rw [u8n _ (by omega)]
  congr 1
  omega
theorem open_spans {H : Type} {enc : TypeId × Value → H} {w : World} {d : DataW H} {p : List MemPlace} {v : Value} (hv : ∃ a len cap, v = .slice a len cap) (h : DataW.Trod enc Tryd.prog w 0 (fun _ => true) true 27 v d p) :
    ∃ a n cap, v = .slice a n cap ∧ n ≤ maxLen ∧ (n ≤ 140737488355328 → ∃ l, Spans w v l ∧ l.length = n) := by
  obtain ⟨a0, n0, cap0, rfl⟩ := hv
  obtain ⟨fuel, hf⟩ := h
  rcases Deep.open_slice_pairs Tryd.underlying27 Tryd.underlying39 (by kernel_rfl) rfl rfl (by kernel_rfl) (by kernel_rfl) hf with ⟨hcs, hx⟩ | ⟨a, len, cap, m, n, V0, V1, D0, D1, P0, P1, hcs, _, hl, hm, hmm, hx, hel⟩
  · simp [Value.cells] at hcs
    obtain ⟨rfl, rfl, rfl⟩ := hcs
    exact ⟨none, 0, 0, rfl, by unfold maxLen; omega, fun _ => ⟨[], Slc.nil w, rfl⟩⟩
  · simp [Value.cells] at hcs
    obtain ⟨rfl, rfl, rfl⟩ := hcs
    refine ⟨some a, n0, cap0, rfl, by omega, fun hn => ?_⟩
    simp only [if_true] at hmm
    refine ⟨(List.range n0).map fun i => (b8 (V0 i), b8 (V1 i)), ?_, by simp⟩
    unfold Spans
    rw [List.length_map, List.length_range]
    refine ⟨some a, cap0, rfl, hl, ⟨hn, hm⟩, ?_⟩
    by_cases h0 : n0 = 0
    · subst h0; exact .inl rfl
    · obtain ⟨b, off, spot⟩ := a
      have hspot : spot = none := by simpa [Addr.add] using World.cell?_spot (hel 0 (by omega)).1
      subst hspot
      have hadd : ∀ i, (⟨b, off, none⟩ : Addr).add i = ⟨b, off + i, none⟩ := fun i => by unfold Addr.add; split <;> simp_all
      refine .inr ⟨b, off, rfl, World.block_lt_of_cell? w (⟨b, off, none⟩ : Addr) (by simpa [hadd] using (hel 0 (by omega)).1), fun i hi => ?_⟩
      have hlen : (scells ((List.range n0).map fun i => (b8 (V0 i), b8 (V1 i)))).length = 2 * n0 := by rw [scells_len]; simp
      rw [hlen] at hi
      have hat := scells_at ((List.range n0).map fun i => (b8 (V0 i), b8 (V1 i))) (i / 2) (by simp; omega)
      obtain ⟨e0, e1, t0, t1⟩ := hel (i / 2) (by omega)
      rw [hadd] at e0 e1
      have hg : ((List.range n0).map fun i => (b8 (V0 i), b8 (V1 i)))[i / 2]? = some (b8 (V0 (i / 2)), b8 (V1 (i / 2))) := by
        rw [List.getElem?_map, List.getElem?_range (by omega)]; rfl
      simp only [slo, shi, List.getD_eq_getElem?_getD, hg, Option.getD_some] at hat
      rw [← ub_b8 t0, ← ub_b8 t1] at hat
      by_cases hp : i % 2 = 0
      · have e : i = 2 * (i / 2) := by omega
        rw [e, hat.1, show off + 2 * (i / 2) = off + i / 2 * 2 by omega]
        exact e0
      · have e : i = 2 * (i / 2) + 1 := by omega
        rw [e, hat.2, show off + (2 * (i / 2) + 1) = off + (i / 2 * 2 + 1) by omega]
        exact e1
theorem spa_any {H : Type} {enc : TypeId × Value → H} {w : World} {d : DataW H} {p : List MemPlace} {v : Value} (hv : ∃ a len cap, v = .slice a len cap) (h : DataW.Trod enc Tryd.prog w 0 (fun _ => true) true 27 v d p) (hT : Tab w) :
    Calls Tryd.prog 5 #[v] w fun e w' => e = .returned (.bool true) ∧ Below w.heap.size w w' := by
  obtain ⟨a, n, cap, rfl, hm, hs⟩ := open_spans hv h
  by_cases hn : n ≤ 300
  · obtain ⟨l, hl, hlen⟩ := hs (by omega)
    exact spa_small _ l w hT hl (by omega)
  · exact spa_big a n cap w hT (by omega) hm
set_option maxRecDepth 100000 in
theorem setSpans_lifted (os : Os) (started : os.Started) (H : Type) (enc : TypeId × Value → H) :
    ReturnsInHanded {} Tryd.checked os 5 .any (fun w args => (Rows.setSpansSpec.pre enc Tryd.prog Tryd.f5 [] false w args ∧ laidMetH Tryd.prog laidTab w) ∧ sizedMet enc Tryd.prog Tryd.f5 (OpenSpec.ofChange Rows.setSpansSpec) false w args)
      (Rows.setSpansSpec.post enc Tryd.prog Tryd.f5 false true false false) := by
  refine returnsInHanded_of_change_and (C := Tryd.checked) (X := fun w _ => laidMetH Tryd.prog laidTab w) (fun _ _ _ hh h => h.of_heap hh) own started (by kernel_rfl) Tryd.func5
    (ChangeSpec.witness_shaped (enc := enc) (C := Tryd.checked) (os := os) (X := fun w _ => laidMetH Tryd.prog laidTab w) false (World.doorLaid Tryd.prog 400 os) #[.slice none 0 0] 8 rfl (World.shaped_of_RefB (by kernel_rfl) (by kernel_rfl)) (by kernel_rfl) (by kernel_rfl) (by kernel_rfl) (door_met os _)) ?_
  intro W base args ds gs before hval0 hW _ _ hL _
  have hval : ∀ (j : Nat) t v, Tryd.f5.params[j]? = some t → args[j]? = some v → Value.okWide Tryd.prog W .any base t v := hval0
  have hW' := hW
  obtain ⟨p, q, hA0, hV, rfl, hfz, hnd⟩ := hW
  have hA : DataW.TrodAll enc Tryd.prog W 0 (fun _ => true) true Tryd.f5.params.toList args.toList ds p := hA0
  rw [Tryd.params5] at hA hval
  obtain ⟨v0, d0, rfl, rfl, h0⟩ := trodAll_one hA
  obtain ⟨rfl, rfl⟩ := trodVars_none hV
  have hTab := tab_of_laid hL
  have hsl := okWide_slice Tryd.underlying27 (hval 0 _ v0 rfl rfl)
  have hlt : ∀ x ∈ p, x.block < W.heap.size := fun x hx => hW'.lt x (by simp [hx])
  clear hA0 hval0 hA hV
  refine (spa_any hsl h0 hTab).mono fun e W' ⟨he, hB⟩ => ?_
  subst he
  have e1 : Rows.setSpansSpec.fn H ([d0] ++ []) = { results := [.lit (.bool true)], args := [d0] } := by simp [Rows.setSpansSpec]
  refine ⟨_, rfl, _, _, _, [], p, [], hW', ?_, ?_, ?_, hB.frame _, fun h => by cases h⟩
  · rw [e1]; exact trodAll_mk1 (shut_bool Tryd.underlying4 true)
  · rw [e1]; exact trodAll_mk1 (Below.trod laidOut (by kernel_rfl) (of_decide_eq_true (by kernel_rfl)) h0 hB hlt)
  · rw [e1]; rfl
theorem setSpans_row : Rows.SetSpansSaid :=
  OpenClaim.holds_of_wide 5 Tryd.f5 rfl rfl rfl rfl rfl rfl rfl ⟨rfl, rfl, rfl, rfl, rfl⟩ rfl rfl rfl rfl rfl (by kernel_rfl) Tryd.func5 (by kernel_rfl)
    (of_decide_eq_true (by kernel_rfl)) (by unfold Func.isWrapper; rw [if_neg (of_decide_eq_false (by kernel_rfl))]; exact ⟨rfl, rfl⟩)
    (fun os started H enc _ => setSpans_lifted os started H enc)
theorem setSpans_holds : Rows.SetSpansCardSaid :=
  Claim7.holds_tied_plain_at .later [] [.data] true Rows.setSpansCard.stood.harness Rows.setSpansCard.stood.looks
    setSpans_row (fun _ h => by cases h) (by kernel_rfl) (fun _ h => by cases h) setSpans_row_tie rfl ⟨rfl, rfl⟩ (by kernel_rfl) rfl
    (fun f fn hf hfn => by
      obtain rfl : f = 5 := Option.some.inj ((show Tryd.prog.funcNamed Rows.setSpansRow.func = some 5 by kernel_rfl).symm.trans hf) |>.symm
      obtain rfl : fn = Tryd.f5 := (Option.some.inj (Tryd.func5.symm.trans hfn)).symm
      exact ⟨by kernel_rfl, fun j t ht => by
        rw [Tryd.params5] at ht
        have hm : t ∈ [27] := by simpa using Array.mem_of_getElem? ht
        have hall : ([27].all fun u => !Tryd.prog.wantsStandIn u) = true := by kernel_rfl
        exact (show Tryd.prog.wantsStandIn t = false by simpa using List.all_eq_true.1 hall t hm)⟩)
    (by kernel_rfl)
#print axioms setSpans_holds
end Go.Proofs.YtkhmkcaocacfhaaDoor
