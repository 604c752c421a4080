/- The least one of a word, by the table of math/bits; sets that are counted and asked. -/
import Derived.Test.YtnecafokkhhhhaaDoorBits
import Derived.Test.YtnecafokkhhhhaaDoorEq
import Derived.Test.YtnecafokkhhhhaaDoorLst
import Derived.Test.YtnecafokkhhhhaaDoorBlk
namespace Go.Proofs.YtnecafokkhhhhaaDoor
open Go Go.RowKit
/-- The table of math/bits stands in its variable. -/
def Tab (w : World) : Prop := 8 < w.heap.size ∧ ∀ j, j < 64 → w.cell? ⟨8, j, none⟩ = some (.int .u8 (Lib.deBruijn64tab.getD j 0 : Nat))
theorem Tab.ext {w w' : World} (h : Tab w) (hx : Ext w w') : Tab w' :=
  ⟨Nat.lt_of_lt_of_le h.1 hx.size, fun j hj => (hx.cell (p := ⟨_, j, none⟩) h.1).trans (h.2 j hj)⟩
theorem Tab.below {B : Nat} {w w' : World} (h : Tab w) (hB : 8 < B) (hx : Below B w w') : Tab w' :=
  ⟨Nat.lt_of_lt_of_le h.1 hx.size, fun j hj => (hx.cell (p := ⟨_, j, none⟩) hB).trans (h.2 j hj)⟩
theorem tz_key (x a : Nat) (hx : x < 18446744073709551616) (hx0 : x ≠ 0) (hlow : x &&& (18446744073709551616 - x) = a) :
    IntKind.u64.wrap (bits BinOp.and IntKind.u64 (x : Int) (IntKind.u64.wrap (-(x : Int))) * 285870213051353865) / 288230376151711744 = ((a * 285870213051353865 % 18446744073709551616 / 288230376151711744 : Nat) : Int) := by
  have e1 : IntKind.u64.wrap (-(x : Int)) = ((18446744073709551616 - x : Nat) : Int) := by rw [IntKind.wrap_u64]; omega
  rw [e1, bits_and_u64_nat x _ hx (by omega), hlow, IntKind.wrap_u64]
  omega
set_option maxHeartbeats 1000000 in
theorem tz_core (x k idx : Nat) (w : World) (hx0 : ((x : Int) == 0) = false)
    (key : IntKind.u64.wrap (bits BinOp.and IntKind.u64 (x : Int) (IntKind.u64.wrap (-(x : Int))) * 285870213051353865) / 288230376151711744 = (idx : Int))
    (hi : idx < 64) (hk : k < 64) (hcell : w.cell? ⟨8, idx, none⟩ = some (.int .u8 k)) :
    Calls Tryd.prog 94 #[.int .u64 x] w fun e w' => e = .returned (.int .i64 k) ∧ w = w' := by
  go_enter Tryd.func94, Tryd.ntmps94
  go_wp2_with (simp only [key])
  go_ret
  exact ⟨rfl, rfl⟩
set_option maxHeartbeats 1000000 in
theorem tz_any (x : Nat) (hx : x < 18446744073709551616) (h0 : x ≠ 0) (w : World) (hT : Tab w) :
    Calls Tryd.prog 94 #[.int .u64 x] w fun e w' => e = .returned (.int .i64 (Lib.ctz 64 x : Nat)) ∧ w = w' := by
  obtain ⟨hlow, hk⟩ := Lib.lowest_bit 64 x h0 hx
  obtain ⟨hi, htab⟩ := Lib.deBruijn64_at _ hk
  have hcell := hT.2 _ hi
  rw [htab] at hcell
  exact tz_core x _ _ w (by simp; omega) (tz_key x _ hx h0 hlow) hi hk hcell
theorem tz_eq (x z : Nat) (hx : x < 18446744073709551616) (h0 : ¬ x = 0) (hz : Lib.ctz 64 x = z) (w : World) (hT : Tab w) :
    Calls Tryd.prog 94 #[.int .u64 x] w fun e w' => e = .returned (.int .i64 (z : Nat)) ∧ w = w' := by
  subst hz; exact tz_any x hx h0 w hT
/-- How many bytes are in a set. -/
def cnt (s : BitVec 256) : Nat := ones 64 (word s 0) + ones 64 (word s 1) + ones 64 (word s 2) + ones 64 (word s 3)
theorem cnt_le (s : BitVec 256) : cnt s ≤ 256 := by
  have h0 := ones_le 64 (word s 0); have h1 := ones_le 64 (word s 1); have h2 := ones_le 64 (word s 2); have h3 := ones_le 64 (word s 3)
  unfold cnt; omega
end Go.Proofs.YtnecafokkhhhhaaDoor
