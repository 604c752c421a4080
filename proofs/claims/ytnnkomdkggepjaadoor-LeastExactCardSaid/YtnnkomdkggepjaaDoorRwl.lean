/- bolterlaw12.row: all bytes lead to one state. -/
import Derived.Test.YtnnkomdkggepjaaDoorLst2
namespace Go.Proofs.YtnnkomdkggepjaaDoor
open Go Go.RowKit
theorem rep_set {n i : Nat} {y : Int} (h : i < n) : ((List.replicate i y ++ List.replicate (n - i) (0 : Int)).set i y) = List.replicate (i + 1) y ++ List.replicate (n - (i + 1)) 0 := by
  rw [List.set_append_right _ _ (by simp), List.length_replicate, Nat.sub_self, show n - i = (n - (i + 1)) + 1 by omega, List.replicate_succ, List.set_cons_zero, List.replicate_succ', List.append_assoc]
  rfl
set_option maxHeartbeats 1000000 in
set_option maxRecDepth 20000 in
theorem row_any (y : Int) (w : World) :
    Calls Tryd.prog 26 #[.int .i64 y] w fun e w' => ∃ g, e = .returned (.slice (some ⟨g, 0, none⟩) 256 256) ∧ w'.ownsRow w.heap.size 3 1 (.slice (some ⟨g, 0, none⟩) 256 256) 256 ((List.replicate 256 y).map iv) ∧ Ext w w' := by
  obtain ⟨i0, hi, hz0, hz1, hz2⟩ := info_parts info_int
  go_enter Tryd.func26, Tryd.ntmps26
  go_wp2_with (at_make; refine wpList_make_full _ rfl _ _ 24 rfl w.heap.size 3 i0 (.int .i64 0) 1 Tryd.underlying24 hi hz0 hz1 .i64 .i64 _ _ 256 rfl rfl rfl rfl (by rw [hz2]; omega) (by unfold maxLen; omega) (by omega) ?_; intro wm hown hgm)
  have z3 := toList_madeCells_one (.int .i64 0) 256
  have hown2 : wm.ownsRow w.heap.size 3 1 (.slice (some ⟨w.heap.size, 0, none⟩) 256 256) 256 ((List.replicate 0 y ++ List.replicate (256 - 0) 0).map iv) := by
    rw [List.replicate_zero, List.nil_append, Nat.sub_zero, List.map_replicate, show iv 0 = Value.int .i64 0 from rfl, ← z3]; simpa [Value.cells] using hown
  have HO := Lib.hid hown2
  have HE := Lib.hid (show Ext w wm from ⟨hgm.os, hgm.tape, hgm.output, hgm.size, fun k hk => hgm.block k hk (by simp)⟩)
  obtain ⟨g, hg⟩ : ∃ g, w.heap.size = g := ⟨_, rfl⟩
  have HG := Lib.hid hg
  simp only [hg] at HO ⊢
  clear hown hown2 hgm z3 hg
  go_loopw [4] (fun i wr => ∃ k : Nat, k ≤ 256 ∧ i = .int .i64 k ∧ Hid (wr.ownsRow g 3 1 (.slice (some ⟨g, 0, none⟩) 256 256) 256 ((List.replicate k y ++ List.replicate (256 - k) 0).map iv)) ∧ Hid (Ext w wr)) (fun i _ => 256 - (intOf i).toNat)
  case atStart => exact ⟨0, Nat.zero_le _, rfl, HO, HE⟩
  case round =>
    clear HO HE
    obtain ⟨k, hk, rfl, hO, hE⟩ := hrel
    by_cases hkl : k < 256
    · obtain ⟨y0, y1⟩ : ∃ u, wr.cell? ⟨g, k, none⟩ = some u := ⟨_, by rw [hO.out.cellAt k (by omega)]; exact List.getElem?_eq_getElem (by rw [hO.out.1]; omega)⟩
      have y2 := hO.out.frozenAt k
      have O9 := (hO.out.stored k (iv y)).1
      rw [← List.map_set, rep_set hkl] at O9
      have O9 := Lib.hid O9
      have E9 := Lib.hid (hE.out.setCell (p := ⟨g, k, none⟩) (by show w.heap.size ≤ g; have := HG.out; omega) (iv y))
      go_wp2_with fail
      go_roundw
      case rel => exact ⟨k + 1, by omega, by go_num, O9, E9⟩
      case measure => simp [intOf]; omega
    · obtain rfl : k = 256 := by omega
      have O9 := hO.out
      rw [Nat.sub_self, List.replicate_zero, List.append_nil] at O9
      have O9 := Lib.hid O9
      go_wp2_with fail
      go_ret
      exact ⟨g, rfl, O9.out.mono (Nat.le_of_eq HG.out), hE.out⟩
end Go.Proofs.YtnnkomdkggepjaaDoor
