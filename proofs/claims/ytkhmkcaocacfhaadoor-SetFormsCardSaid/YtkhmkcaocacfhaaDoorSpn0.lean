/- The empty set has no spans: what package byteset lists then is nil. -/
import Derived.Test.YtkhmkcaocacfhaaDoorLks
namespace Go.Proofs.YtkhmkcaocacfhaaDoor
open Go Go.RowKit
theorem lst_empty : lstN 0#256 4 = [] := by decide +kernel
theorem spn_empty : spn 0#256 = [] := by unfold spn; rw [lst_empty]; rfl
set_option maxHeartbeats 1000000 in
theorem spans_zero (w : World) (hT : Tab w) :
    Calls Tryd.prog 42 #[sv 0#256] w fun e w' => e = .returned (.slice none 0 0) ∧ Below w.heap.size w w' := by
  have hT1 := Lib.hid (hT.ext (Below.alloc (Below.refl _ _) (Nat.le_refl _) (.cells (svs 0#256) 25)))
  clear hT
  obtain ⟨s, hs⟩ : ∃ s, 0#256 = s := ⟨_, rfl⟩
  rw [hs]
  rw [hs] at hT1
  have HS := Lib.hid hs
  clear hs
  go_enter Tryd.func42, Tryd.ntmps42
  go_wp2_with fail
  refine (list_own s _ hT1.out).mono ?_
  rintro e w1 ⟨v, rfl, hown, hb1⟩
  have hB : Below w.heap.size w w1 := (Below.alloc (Below.refl _ _) (Nat.le_refl _) _).trans (hb1.mono (by simp))
  have hv : ∃ ao cap, v = .slice ao 0 cap := by
    rw [← HS.out, lst_empty] at hown
    obtain ⟨_, ⟨h, _⟩ | ⟨g, cap, cur, h, _⟩⟩ := hown
    · exact ⟨none, 0, h⟩
    · exact ⟨_, cap, h⟩
  obtain ⟨ao, cap, rfl⟩ := hv
  clear hown hb1
  go_wp2
  refine wp_loop_rounds 1 ?_
  rw [rounds_succ]
  go_wp2
  go_ret
  exact ⟨rfl, hB⟩
end Go.Proofs.YtkhmkcaocacfhaaDoor
