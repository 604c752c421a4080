/- The least one of a word, by the table of math/bits; sets that are counted and asked. -/
import Derived.Test.YtecjodcaeldidaaGreatDoorBits
import Derived.Test.YtecjodcaeldidaaGreatDoorEq
import Derived.Test.YtecjodcaeldidaaGreatDoorLst
import Derived.Test.YtecjodcaeldidaaGreatDoorBlk
namespace Go.Proofs.YtecjodcaeldidaaGreatDoor
open Go Go.RowKit
/-- The table of math/bits stands in its variable. -/
def Tab (w : World) : Prop := 17 < w.heap.size ∧ ∀ j, j < 64 → w.cell? ⟨17, j, none⟩ = some (.int .u8 (Lib.deBruijn64tab.getD j 0 : Nat))
theorem Tab.ext {w w' : World} (h : Tab w) (hx : Ext w w') : Tab w' :=
  ⟨Nat.lt_of_lt_of_le h.1 hx.size, fun j hj => (hx.cell (p := ⟨_, j, none⟩) h.1).trans (h.2 j hj)⟩
theorem Tab.below {B : Nat} {w w' : World} (h : Tab w) (hB : 17 < B) (hx : Below B w w') : Tab w' :=
  ⟨Nat.lt_of_lt_of_le h.1 hx.size, fun j hj => (hx.cell (p := ⟨_, j, none⟩) hB).trans (h.2 j hj)⟩
theorem tz_key (x a : Nat) (hx : x < 18446744073709551616) (hx0 : x ≠ 0) (hlow : x &&& (18446744073709551616 - x) = a) :
    IntKind.u64.wrap (bits BinOp.and IntKind.u64 (x : Int) (IntKind.u64.wrap (-(x : Int))) * 285870213051353865) / 288230376151711744 = ((a * 285870213051353865 % 18446744073709551616 / 288230376151711744 : Nat) : Int) := by
  have e1 : IntKind.u64.wrap (-(x : Int)) = ((18446744073709551616 - x : Nat) : Int) := by rw [IntKind.wrap_u64]; omega
  rw [e1, bits_and_u64_nat x _ hx (by omega), hlow, IntKind.wrap_u64]
  omega
set_option maxHeartbeats 1000000 in
theorem tz_core (x k idx : Nat) (w : World) (hx0 : ((x : Int) == 0) = false)
    (key : IntKind.u64.wrap (bits BinOp.and IntKind.u64 (x : Int) (IntKind.u64.wrap (-(x : Int))) * 285870213051353865) / 288230376151711744 = (idx : Int))
    (hi : idx < 64) (hk : k < 64) (hcell : w.cell? ⟨17, idx, none⟩ = some (.int .u8 k)) :
    Calls Tryz.prog 111 #[.int .u64 x] w fun e w' => e = .returned (.int .i64 k) ∧ w = w' := by
  go_enter Tryz.func111, Tryz.ntmps111
  go_wp2_with (simp only [key])
  go_ret
  exact ⟨rfl, rfl⟩
set_option maxHeartbeats 1000000 in
theorem tz_any (x : Nat) (hx : x < 18446744073709551616) (h0 : x ≠ 0) (w : World) (hT : Tab w) :
    Calls Tryz.prog 111 #[.int .u64 x] w fun e w' => e = .returned (.int .i64 (Lib.ctz 64 x : Nat)) ∧ w = w' := by
  obtain ⟨hlow, hk⟩ := Lib.lowest_bit 64 x h0 hx
  obtain ⟨hi, htab⟩ := Lib.deBruijn64_at _ hk
  have hcell := hT.2 _ hi
  rw [htab] at hcell
  exact tz_core x _ _ w (by simp; omega) (tz_key x _ hx h0 hlow) hi hk hcell
theorem tz_eq (x z : Nat) (hx : x < 18446744073709551616) (h0 : ¬ x = 0) (hz : Lib.ctz 64 x = z) (w : World) (hT : Tab w) :
    Calls Tryz.prog 111 #[.int .u64 x] w fun e w' => e = .returned (.int .i64 (z : Nat)) ∧ w = w' := by
  subst hz; exact tz_any x hx h0 w hT
/-- How many bytes are in a set. -/
def cnt (s : BitVec 256) : Nat := ones 64 (word s 0) + ones 64 (word s 1) + ones 64 (word s 2) + ones 64 (word s 3)
theorem cnt_le (s : BitVec 256) : cnt s ≤ 256 := by
  have h0 := ones_le 64 (word s 0); have h1 := ones_le 64 (word s 1); have h2 := ones_le 64 (word s 2); have h3 := ones_le 64 (word s 3)
  unfold cnt; omega
theorem ones_wd (s : BitVec 256) (k : Nat) (w : World) :
    Calls Tryz.prog 131 #[.int .u64 (wd s k)] w fun e w' => e = .returned (.int .i64 (ones 64 (word s k) : Nat)) ∧ w = w' := ones_any _ w (word_lt s k)
set_option maxHeartbeats 1000000 in
theorem count_any (s : BitVec 256) (w : World) :
    Calls Tryz.prog 110 #[sv s] w fun e w' => e = .returned (.int .i64 (cnt s : Nat)) ∧ Below w.heap.size w w' := by
  have h0 := ones_le 64 (word s 0); have h1 := ones_le 64 (word s 1); have h2 := ones_le 64 (word s 2); have h3 := ones_le 64 (word s 3)
  go_enter Tryz.func110, Tryz.ntmps110
  go_wp2
  refine wp_loop_rounds 5 ?_
  have i0 : ∀ w, (Instr.index 27 (sv s) (.int .i64 0)).run Tryz.prog w = .ok (.int .u64 (wd s 0)) w := fun _ => by kernel_rfl
  have i1 : ∀ w, (Instr.index 27 (sv s) (.int .i64 1)).run Tryz.prog w = .ok (.int .u64 (wd s 1)) w := fun _ => by kernel_rfl
  have i2 : ∀ w, (Instr.index 27 (sv s) (.int .i64 2)).run Tryz.prog w = .ok (.int .u64 (wd s 2)) w := fun _ => by kernel_rfl
  have i3 : ∀ w, (Instr.index 27 (sv s) (.int .i64 3)).run Tryz.prog w = .ok (.int .u64 (wd s 3)) w := fun _ => by kernel_rfl
  iterate 5 (rw [rounds_succ]; go_wp2_with (go_at_call 131; refine (ones_wd s _ _).mono ?_; rintro e w' ⟨rfl, rfl⟩))
  go_ret
  refine ⟨ret_v ?_, by (repeat' (first | (with_reducible exact Below.refl _ _) | (with_reducible assumption) | (with_reducible refine below_drewN ?_ _) | (with_reducible refine Below.alloc ?_ ?_ _) | (with_reducible refine Below.drew ?_) | (with_reducible refine Below.setCell ?_ ?_ _) | (with_reducible refine Below.trans ?_ (Below.mono (by with_reducible assumption) ?_)) | go_size))⟩
  simp [cnt]
end Go.Proofs.YtecjodcaeldidaaGreatDoor
