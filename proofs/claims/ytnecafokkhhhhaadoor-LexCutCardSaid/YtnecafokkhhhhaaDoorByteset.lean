/- What each call of package byteset does, said of sets as numbers of 256 bits. -/
import Derived.Test.YtnecafokkhhhhaaDoorRows
import Derived.Test.YtnecafokkhhhhaaDoorSets
import Derived.Test.YtnecafokkhhhhaaDoorStab2
import Derived.Test.YtnecafokkhhhhaaDoorStabD
import Derived.WalkKit
import Derived.WalkSpells
import Derived.WalkLawsBesides
import Derived.RegionTactic
import Derived.BigRegion
import Derived.Handy
import Derived.Lib.Hide
import Derived.Deep.RegionWith
import Derived.StillTailTactics
namespace Go.Proofs.YtnecafokkhhhhaaDoor
open Go Go.RowKit

theorem ret_v {a b : Value} (h : a = b) : Ending.returned a = .returned b := by rw [h]

set_option maxHeartbeats 1000000 in
theorem union_any (s t : BitVec 256) (w : World) :
    Calls Tryd.prog 42 #[sv s, sv t] w fun e w' => e = .returned (sv (s ||| t)) ∧ Below w.heap.size w w' := by
  go_enter Tryd.func42, Tryd.ntmps42
  go_wp2
  refine wp_loop_rounds 5 ?_
  iterate 4 (rw [rounds_succ]; go_wp2; go_region; go_wp2)
  rw [rounds_succ]; go_wp2
  refine bodyPost_ret (v := sv (s ||| t)) ?_ rfl ⟨rfl, by go_grown⟩
  simp [results, Tryd.results42, go_sem]
  simp [wd_or]

set_option maxHeartbeats 1000000 in
theorem inter_any (s t : BitVec 256) (w : World) :
    Calls Tryd.prog 44 #[sv s, sv t] w fun e w' => e = .returned (sv (s &&& t)) ∧ Below w.heap.size w w' := by
  go_enter Tryd.func44, Tryd.ntmps44
  go_wp2
  refine wp_loop_rounds 5 ?_
  iterate 4 (rw [rounds_succ]; go_wp2; go_region; go_wp2)
  rw [rounds_succ]; go_wp2
  refine bodyPost_ret (v := sv (s &&& t)) ?_ rfl ⟨rfl, by go_grown⟩
  simp [results, Tryd.results44, go_sem]
  simp [wd_and]

set_option maxHeartbeats 1000000 in
theorem minus_any (s t : BitVec 256) (w : World) :
    Calls Tryd.prog 43 #[sv s, sv t] w fun e w' => e = .returned (sv (s &&& ~~~t)) ∧ Below w.heap.size w w' := by
  go_enter Tryd.func43, Tryd.ntmps43
  go_wp2
  refine wp_loop_rounds 5 ?_
  iterate 4 (rw [rounds_succ]; go_wp2; go_region; go_wp2)
  rw [rounds_succ]; go_wp2
  refine bodyPost_ret (v := sv (s &&& ~~~t)) ?_ rfl ⟨rfl, by go_grown⟩
  simp [results, Tryd.results43, go_sem]
  simp [wd_andNot]

set_option maxHeartbeats 1000000 in
theorem compl_any (s : BitVec 256) (w : World) :
    Calls Tryd.prog 34 #[sv s] w fun e w' => e = .returned (sv (~~~s)) ∧ Below w.heap.size w w' := by
  go_enter Tryd.func34, Tryd.ntmps34
  go_wp2
  refine wp_loop_rounds 5 ?_
  iterate 4 (rw [rounds_succ]; go_wp2; try go_region; go_wp2)
  rw [rounds_succ]; go_wp2
  refine bodyPost_ret (v := sv (~~~s)) ?_ rfl ⟨rfl, by go_grown⟩
  simp [results, Tryd.results34, go_sem]
  simp [wd_compl]
theorem bit_any (b : Int) (w : World) (h0 : 0 ≤ b) (h1 : b ≤ 255) :
    Calls Tryd.prog 66 #[.int .u8 b] w fun e w' => e = .returned (.int .u64 (IntKind.u64.wrap (2 ^ (b % 64).toNat))) ∧ w = w' := by
  go_enter Tryd.func66, Tryd.ntmps66
  go_wp2
  go_ret
  exact ⟨rfl, rfl⟩
set_option maxHeartbeats 1000000 in
theorem has_any (s : BitVec 256) (b : Int) (w : World) (h0 : 0 ≤ b) (h1 : b ≤ 255) :
    Calls Tryd.prog 53 #[sv s, .int .u8 b] w fun e w' => e = .returned (.bool (s.getLsbD b.toNat)) ∧ Below w.heap.size w w' := by
  have hc : b / 64 = 0 ∨ b / 64 = 1 ∨ b / 64 = 2 ∨ b / 64 = 3 := by omega
  rcases hc with hc | hc | hc | hc
  all_goals
    go_enter Tryd.func53, Tryd.ntmps53
    go_wp2_with fail
    refine wp_region_stab (fun _ => none) (by kernel_rfl) (by kernel_rfl) (fun _ _ h => by cases h) (fun hex => ?_)
    iterate 9
      (refine wpS_one (A := ?_) hex rfl rfl (by simp) ?_ ?_ ?_
       rotate_left 2
       · intro w' hC K hK
         obtain ⟨hcell, hfrz⟩ := bcell hC.1.ext
         go_wp2_with (go_at_call 66; refine (bit_any _ _ (by omega) (by omega)).mono ?_; rintro e w' ⟨rfl, rfl⟩)
         refine hK _ ?_
         first | exact Gr.refl _ _ | exact Gr.of_ext (by assumption) hC.1.1.size
       rotate_left 1
       · rfl
       clear hex; intro hex)
    refine wpS_nil fun w1 hE => ?_
    replace hE := hE.1.ext
    obtain ⟨hcell_w1, hfrz_w1⟩ := bcell hE
    go_wp2
    go_ret
    refine ⟨ret_v ?_, (Below.alloc (Below.refl _ _) (Nat.le_refl _) _).trans (hE.mono (by simp))⟩
    simp [has_word s b _ h0 hc]
set_option maxHeartbeats 1000000 in
theorem with_any (s : BitVec 256) (b : Int) (w : World) (h0 : 0 ≤ b) (h1 : b ≤ 255) :
    Calls Tryd.prog 56 #[sv s, .int .u8 b] w fun e w' => e = .returned (sv (s ||| 1#256 <<< b.toNat)) ∧ Below w.heap.size w w' := by
  have hc : b / 64 = 0 ∨ b / 64 = 1 ∨ b / 64 = 2 ∨ b / 64 = 3 := by omega
  rcases hc with hc | hc | hc | hc
  all_goals
    have o0 := with_other s b 0 h0
    have o1 := with_other s b 1 h0
    have o2 := with_other s b 2 h0
    have o3 := with_other s b 3 h0
    have wk := fun k => with_word s b k h0
    have HO := Lib.hid (And.intro o0 (And.intro o1 (And.intro o2 (And.intro o3 wk))))
    clear o0 o1 o2 o3 wk
    go_enter Tryd.func56, Tryd.ntmps56
    go_wp2
    refine D.wp_region_tail (fun _ => none) 8 (by kernel_rfl) (by kernel_rfl) (fun _ _ h => by cases h) (fun hex => ?_)
    simp only [List.take_succ_cons, List.take_zero, List.drop_succ_cons, List.drop_zero]
    iterate 8
      (refine D.wpS_one (A := ?_) hex rfl rfl (by simp) ?_ ?_ ?_
       rotate_left 2
       · intro w' hC K hK
         obtain ⟨nq, rfl⟩ := hC.1
         go_wp2_with (go_at_call 66; refine (bit_any _ _ (by omega) (by omega)).mono ?_; rintro e w' ⟨rfl, rfl⟩)
         refine hK _ ?_
         first | exact D.Gr.refl _ _ | exact ⟨_, rfl⟩
       rotate_left 1
       · rfl
       clear hex; intro hex)
    refine D.wpS_nil fun _ hE => ?_
    obtain ⟨nq, rfl⟩ := hE.1
    clear hE hex
    go_wp2
    refine bodyPost_ret (v := sv (s ||| 1#256 <<< b.toNat)) ?_ rfl ⟨rfl, by (repeat' (first | (with_reducible exact Below.refl _ _) | (with_reducible assumption) | (with_reducible refine below_drewN ?_ _) | (with_reducible refine Below.alloc ?_ ?_ _) | (with_reducible refine Below.drew ?_) | (with_reducible refine Below.setCell ?_ ?_ _) | (with_reducible refine Below.trans ?_ (Below.mono (by with_reducible assumption) ?_)) | go_size))⟩
    simp [results, Tryd.results56, go_sem]
    obtain ⟨o0, o1, o2, o3, wk⟩ := HO.out
    first
    | exact ⟨wk 0 hc (by omega), (o1 (by omega)).symm, (o2 (by omega)).symm, (o3 (by omega)).symm⟩
    | exact ⟨(o0 (by omega)).symm, wk 1 hc (by omega), (o2 (by omega)).symm, (o3 (by omega)).symm⟩
    | exact ⟨(o0 (by omega)).symm, (o1 (by omega)).symm, wk 2 hc (by omega), (o3 (by omega)).symm⟩
    | exact ⟨(o0 (by omega)).symm, (o1 (by omega)).symm, (o2 (by omega)).symm, wk 3 hc (by omega)⟩
end Go.Proofs.YtnecafokkhhhhaaDoor
