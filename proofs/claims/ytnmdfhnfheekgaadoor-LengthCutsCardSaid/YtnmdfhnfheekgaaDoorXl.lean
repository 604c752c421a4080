/- From a row's condition to a list of expressions in memory; what the rows with all errors hand on. -/
import Derived.Test.YtnmdfhnfheekgaaDoorAgk
namespace Go.Proofs.YtnmdfhnfheekgaaDoor
open Go Go.ChangeShapes Go.WideShapes Go.ChangeAt Go.RowKit
theorem open_xps {H : Type} {enc : TypeId × Value → H} {w : World} {k : Nat} {v : Value} {y : DataW H × List MemPlace} (h : DataW.trod enc Tryd.prog w 0 (fun _ => true) true k 22 [v] = some y) : ∃ a c L, v = .slice a (L : List Xp).length c ∧ Xat w w.heap.size a c L := by
  have c10 : Tryd.prog.cellsOf 28 = 10 := by kernel_rfl
  rcases DataW.trod_slice Tryd.underlying22 h with ⟨hcs, _⟩ | ⟨a, len, cap, elems, rest, m, hm, hcs, _, hb, hle, hcm, helen, hel, hsp, hns⟩
  · simp only [List.cons.injEq, and_true] at hcs
    subst hcs
    exact ⟨none, 0, [], rfl, .nil _ _ (by unfold maxLen; omega)⟩
  · simp only [List.cons.injEq, and_true] at hcs
    subst hcs
    have hS : ∀ i, ∃ (x : Xp) (a' : Option Addr) (c' : Nat), i < len → (∀ j, j < 10 → w.cell? ((a.add (i * 10)).add j) = (xcs x a' c')[j]?) ∧ Xok x ∧ Xat w w.heap.size a' c' x.args := by
      intro i
      by_cases hi : i < len
      · have hi2 := hel i hi
        rw [List.getElem?_eq_getElem (by omega), c10] at hi2
        obtain ⟨cs', h1, h2⟩ := Option.bind_eq_some_iff.1 hi2
        obtain ⟨x, a', c', rfl, hk, hx⟩ := open_xp m cs' _ h2
        obtain ⟨_, _, hc⟩ := World.cells?_some h1
        exact ⟨x, a', c', fun _ => ⟨fun j hj => hc j hj, hk, hx⟩⟩
      · exact ⟨.mk 0 0 0#256 .empty 0 0 [], none, 0, fun h => absurd h hi⟩
    obtain ⟨X, hX⟩ := Classical.axiomOfChoice hS
    obtain ⟨ga, hga⟩ := Classical.axiomOfChoice hX
    obtain ⟨gc, hgc⟩ := Classical.axiomOfChoice hga
    refine ⟨some a, cap, (List.range len).map X, by simp, ?_⟩
    by_cases h0 : len = 0
    · subst h0; exact .nil _ _ hcm
    · obtain ⟨b, off, spot⟩ := a
      have h00 := (hgc 0 (by omega)).1 0 (by decide)
      have hspot : spot = none := by
        have : (xcs (X 0) (ga 0) (gc 0))[0]? = some (.int .i64 (X 0).op) := rfl
        rw [this] at h00
        simpa [Addr.add] using World.cell?_spot h00
      subst hspot
      simp only [addr_add] at hgc h00
      refine .put b off cap _ ga gc (by simpa using hle) hcm (World.block_lt_of_cell? w (⟨b, off + 0 * 10 + 0, none⟩ : Addr) h00) (fun y hy => ?_) (fun i hi j hj => ?_) (fun i hi => ?_)
      · obtain ⟨i, hi, rfl⟩ := List.mem_map.1 hy
        exact (hgc i (List.mem_range.1 hi)).2.1
      · have hi' : i < len := by simpa using hi
        simp only [List.getElem_map, List.getElem_range]
        exact (hgc i hi').1 j hj
      · have hi' : i < len := by simpa using hi
        simp only [List.getElem_map, List.getElem_range]
        exact (hgc i hi').2.2
theorem ag_sent {W : World} {ea : Nat → Addr} (h : Sent W ea) : Ag W (ea 13) (ea 8) :=
  ⟨h.held 13 (by omega), h.held 8 (by omega), h.glo 13 (by omega), h.glo 8 (by omega), h.row 8 (by omega)⟩
abbrev laid_lengthExact : List (String × DataW Unit) := Rows.lengthExactRow.laid.filter fun x => x.2.handleName?.isNone
theorem mem_lengthExact : ∀ k, k < 16 → (snm.getD k "", sdat k) ∈ laid_lengthExact
  | 0, _ => List.mem_of_getElem? (i := 0) (by kernel_rfl)
  | 1, _ => List.mem_of_getElem? (i := 1) (by kernel_rfl)
  | 2, _ => List.mem_of_getElem? (i := 2) (by kernel_rfl)
  | 3, _ => List.mem_of_getElem? (i := 3) (by kernel_rfl)
  | 4, _ => List.mem_of_getElem? (i := 4) (by kernel_rfl)
  | 5, _ => List.mem_of_getElem? (i := 5) (by kernel_rfl)
  | 6, _ => List.mem_of_getElem? (i := 6) (by kernel_rfl)
  | 7, _ => List.mem_of_getElem? (i := 7) (by kernel_rfl)
  | 8, _ => List.mem_of_getElem? (i := 8) (by kernel_rfl)
  | 9, _ => List.mem_of_getElem? (i := 9) (by kernel_rfl)
  | 10, _ => List.mem_of_getElem? (i := 10) (by kernel_rfl)
  | 11, _ => List.mem_of_getElem? (i := 11) (by kernel_rfl)
  | 12, _ => List.mem_of_getElem? (i := 12) (by kernel_rfl)
  | 13, _ => List.mem_of_getElem? (i := 13) (by kernel_rfl)
  | 14, _ => List.mem_of_getElem? (i := 14) (by kernel_rfl)
  | 15, _ => List.mem_of_getElem? (i := 15) (by kernel_rfl)
  | n + 16, h => by omega
theorem known_lengthExact {W : World} (h : laidMetH Tryd.prog Rows.lengthExactRow.laid W) : ∃ ea, Sent W ea ∧ ErrT W ∧ Ag W (ea 13) (ea 8) := by
  have h' : laidMet Tryd.prog laid_lengthExact W ∧ handlesMet Tryd.prog [("errors.errorType", Rows.laid_errors_errorType)] W := h
  obtain ⟨ea, h1, _⟩ := errs_of_laid h'.1 mem_lengthExact
  exact ⟨ea, h1, errT_of_laid h'.2, ag_sent h1⟩
abbrev laid_lengthCuts : List (String × DataW Unit) := Rows.lengthCutsRow.laid.filter fun x => x.2.handleName?.isNone
theorem mem_lengthCuts : ∀ k, k < 16 → (snm.getD k "", sdat k) ∈ laid_lengthCuts
  | 0, _ => List.mem_of_getElem? (i := 0) (by kernel_rfl)
  | 1, _ => List.mem_of_getElem? (i := 1) (by kernel_rfl)
  | 2, _ => List.mem_of_getElem? (i := 2) (by kernel_rfl)
  | 3, _ => List.mem_of_getElem? (i := 3) (by kernel_rfl)
  | 4, _ => List.mem_of_getElem? (i := 4) (by kernel_rfl)
  | 5, _ => List.mem_of_getElem? (i := 5) (by kernel_rfl)
  | 6, _ => List.mem_of_getElem? (i := 6) (by kernel_rfl)
  | 7, _ => List.mem_of_getElem? (i := 7) (by kernel_rfl)
  | 8, _ => List.mem_of_getElem? (i := 8) (by kernel_rfl)
  | 9, _ => List.mem_of_getElem? (i := 9) (by kernel_rfl)
  | 10, _ => List.mem_of_getElem? (i := 10) (by kernel_rfl)
  | 11, _ => List.mem_of_getElem? (i := 11) (by kernel_rfl)
  | 12, _ => List.mem_of_getElem? (i := 12) (by kernel_rfl)
  | 13, _ => List.mem_of_getElem? (i := 13) (by kernel_rfl)
  | 14, _ => List.mem_of_getElem? (i := 14) (by kernel_rfl)
  | 15, _ => List.mem_of_getElem? (i := 15) (by kernel_rfl)
  | n + 16, h => by omega
theorem known_lengthCuts {W : World} (h : laidMetH Tryd.prog Rows.lengthCutsRow.laid W) : ∃ ea, Sent W ea ∧ ErrT W ∧ Ag W (ea 13) (ea 8) := by
  have h' : laidMet Tryd.prog laid_lengthCuts W ∧ handlesMet Tryd.prog [("errors.errorType", Rows.laid_errors_errorType)] W := h
  obtain ⟨ea, h1, _⟩ := errs_of_laid h'.1 mem_lengthCuts
  exact ⟨ea, h1, errT_of_laid h'.2, ag_sent h1⟩
abbrev laid_lengthTrails : List (String × DataW Unit) := Rows.lengthTrailsRow.laid.filter fun x => x.2.handleName?.isNone
theorem mem_lengthTrails : ∀ k, k < 16 → (snm.getD k "", sdat k) ∈ laid_lengthTrails
  | 0, _ => List.mem_of_getElem? (i := 0) (by kernel_rfl)
  | 1, _ => List.mem_of_getElem? (i := 1) (by kernel_rfl)
  | 2, _ => List.mem_of_getElem? (i := 2) (by kernel_rfl)
  | 3, _ => List.mem_of_getElem? (i := 3) (by kernel_rfl)
  | 4, _ => List.mem_of_getElem? (i := 4) (by kernel_rfl)
  | 5, _ => List.mem_of_getElem? (i := 5) (by kernel_rfl)
  | 6, _ => List.mem_of_getElem? (i := 6) (by kernel_rfl)
  | 7, _ => List.mem_of_getElem? (i := 7) (by kernel_rfl)
  | 8, _ => List.mem_of_getElem? (i := 8) (by kernel_rfl)
  | 9, _ => List.mem_of_getElem? (i := 9) (by kernel_rfl)
  | 10, _ => List.mem_of_getElem? (i := 10) (by kernel_rfl)
  | 11, _ => List.mem_of_getElem? (i := 11) (by kernel_rfl)
  | 12, _ => List.mem_of_getElem? (i := 12) (by kernel_rfl)
  | 13, _ => List.mem_of_getElem? (i := 13) (by kernel_rfl)
  | 14, _ => List.mem_of_getElem? (i := 14) (by kernel_rfl)
  | 15, _ => List.mem_of_getElem? (i := 15) (by kernel_rfl)
  | n + 16, h => by omega
theorem known_lengthTrails {W : World} (h : laidMetH Tryd.prog Rows.lengthTrailsRow.laid W) : ∃ ea, Sent W ea ∧ ErrT W ∧ Ag W (ea 13) (ea 8) := by
  have h' : laidMet Tryd.prog laid_lengthTrails W ∧ handlesMet Tryd.prog [("errors.errorType", Rows.laid_errors_errorType)] W := h
  obtain ⟨ea, h1, _⟩ := errs_of_laid h'.1 mem_lengthTrails
  exact ⟨ea, h1, errT_of_laid h'.2, ag_sent h1⟩
end Go.Proofs.YtnmdfhnfheekgaaDoor
