/- What each call of package byteset does: ranges, and sets that are asked. -/
import Derived.Test.YtnecafokkhhhhaaDoorByteset
namespace Go.Proofs.YtnecafokkhhhhaaDoor
open Go Go.RowKit
theorem compl_zero (w : World) :
    Calls Tryd.prog 34 #[sv0] w fun e w' => e = .returned (sv full) ∧ Below w.heap.size w w' := by
  rw [← sv_zero]; exact compl_any _ _
set_option maxHeartbeats 1000000 in
theorem all_any (w : World) :
    Calls Tryd.prog 64 #[] w fun e w' => e = .returned (sv full) ∧ Below w.heap.size w w' := by
  go_enter Tryd.func64, Tryd.ntmps64
  go_wp2_with (go_at_call 34; refine (compl_zero _).mono ?_; rintro e w' ⟨rfl, hb⟩; obtain ⟨hc, hf⟩ := bcell hb)
  refine bodyPost_ret (v := sv full) ?_ rfl ⟨rfl, by (repeat' (first | (with_reducible exact Below.refl _ _) | (with_reducible assumption) | (with_reducible refine below_drewN ?_ _) | (with_reducible refine Below.alloc ?_ ?_ _) | (with_reducible refine Below.drew ?_) | (with_reducible refine Below.setCell ?_ ?_ _) | (with_reducible refine Below.trans ?_ (Below.mono (by with_reducible assumption) ?_)) | go_size))⟩
  simp [results, Tryd.results64, go_sem, hc]
set_option maxHeartbeats 1000000 in
theorem below_any (b : Int) (w : World) (h0 : 0 ≤ b) (h1 : b ≤ 255) :
    Calls Tryd.prog 57 #[.int .u8 b] w fun e w' => e = .returned (sv (low b)) ∧ Below w.heap.size w w' := by
  have hc : b / 64 = 0 ∨ b / 64 = 1 ∨ b / 64 = 2 ∨ b / 64 = 3 := by omega
  have o0 := fun i k => low_word_lt b i k h1
  have o1 := fun i k => low_word_gt b i k h1
  have o2 := fun k => low_word_eq b k h0 h1
  have HO := Lib.hid (And.intro o0 (And.intro o1 o2))
  clear o0 o1 o2
  rcases hc with hc | hc | hc | hc
  all_goals
    go_enter Tryd.func57, Tryd.ntmps57
    go_wp2
    refine wp_loop_rounds 4 ?_
    repeat (rw [rounds_succ]; go_wp2_with (go_at_call 66; refine (bit_any _ _ (by omega) (by omega)).mono ?_; rintro e w' ⟨rfl, rfl⟩))
    refine bodyPost_ret (v := sv (low b)) ?_ rfl ⟨rfl, by (repeat' (first | (with_reducible exact Below.refl _ _) | (with_reducible assumption) | (with_reducible refine below_drewN ?_ _) | (with_reducible refine Below.alloc ?_ ?_ _) | (with_reducible refine Below.drew ?_) | (with_reducible refine Below.setCell ?_ ?_ _) | (with_reducible refine Below.trans ?_ (Below.mono (by with_reducible assumption) ?_)) | go_size))⟩
    simp [results, Tryd.results57, go_sem]
    obtain ⟨o0, o1, o2⟩ := HO.out
    simp [o0 _ _ hc, o1 _ _ hc, o2 _ hc]
set_option maxHeartbeats 1000000 in
theorem range_any (lo hi : Int) (w : World) (h0 : 0 ≤ lo) (h1 : lo ≤ 255) (g0 : 0 ≤ hi) (g1 : hi ≤ 255) :
    Calls Tryd.prog 49 #[.int .u8 lo, .int .u8 hi] w fun e w' => e = .returned (sv (rng lo hi)) ∧ Below w.heap.size w w' := by
  go_enter Tryd.func49, Tryd.ntmps49
  go_wp2_with fail
  refine (below_any _ _ g0 g1).mono ?_; rintro e w1 ⟨rfl, hb1⟩
  obtain ⟨hc1, hf1⟩ := bcell hb1
  have hs1 := hb1.size
  try simp at hs1
  have hz1_0 : w.heap.size < w1.heap.size := by omega
  go_wp2_with fail
  refine (with_any _ _ _ g0 g1).mono ?_; rintro e w2 ⟨rfl, hb2⟩
  obtain ⟨hc2, hf2⟩ := bcell hb2
  have hs2 := hb2.size
  try simp at hs2
  have hz2_0 : w.heap.size < w2.heap.size := by omega
  go_wp2_with fail
  refine (below_any _ _ h0 h1).mono ?_; rintro e w3 ⟨rfl, hb3⟩
  obtain ⟨hc3, hf3⟩ := bcell hb3
  have hs3 := hb3.size
  try simp at hs3
  have hz3_0 : w.heap.size < w3.heap.size := by omega
  go_wp2_with fail
  refine (minus_any _ _ _).mono ?_; rintro e w4 ⟨rfl, hb4⟩
  obtain ⟨hc4, hf4⟩ := bcell hb4
  have hs4 := hb4.size
  try simp at hs4
  have hz4_0 : w.heap.size < w4.heap.size := by omega
  go_wp2
  refine bodyPost_ret (v := sv (rng lo hi)) ?_ rfl ⟨rfl, by (repeat' (first | (with_reducible exact Below.refl _ _) | (with_reducible assumption) | (with_reducible refine below_drewN ?_ _) | (with_reducible refine Below.alloc ?_ ?_ _) | (with_reducible refine Below.drew ?_) | (with_reducible refine Below.setCell ?_ ?_ _) | (with_reducible refine Below.trans ?_ (Below.mono (by with_reducible assumption) ?_)) | go_size))⟩
  simp [results, Tryd.results49, go_sem, rng, *]
end Go.Proofs.YtnecafokkhhhhaaDoor
