/- A set's bytes, as package byteset lists them. -/
import Derived.Test.YtnecafokkhhhhaaDoorBits2
import Derived.OwnWalk
namespace Go.Proofs.YtnecafokkhhhhaaDoor
open Go Go.RowKit
theorem info_u8 : (Tryd.prog.info? 5).map (fun i => (i.zero, i.size, i.bytes)) = some (some (.int .u8 0), 1, 1) := by kernel_rfl
theorem own_app {w : World} {b e n i : Nat} {v : Value} {A : List Value} {x : Int} (h : w.ownsRow b e 1 v (n + 1) (A ++ [.int .u8 x])) (hx : x = (i : Int)) : w.ownsRow b e 1 v (n + 1) (A ++ [nb i]) := by subst hx; exact h
theorem cnt_len (s : BitVec 256) : cnt s = (lstN s 4).length := by
  simp only [lstN_succ, lstN_zero, List.length_append, List.length_map, bitsOf_len, cnt, List.length_nil, Nat.zero_add]
theorem lstN_mono (s : BitVec 256) (k x : Nat) (L : List Nat) (hx : x ≠ 0) (hx2 : x < 18446744073709551616) (h : L ++ (bitsOf x).map (64 * k + ·) = lstN s (k + 1)) :
    (L ++ [64 * k + Lib.ctz 64 x]) ++ (bitsOf (x &&& (x - 1))).map (64 * k + ·) = lstN s (k + 1) := by
  rw [← h, (bitsOf_step x hx hx2).2]; simp
theorem and_dec (x : Nat) (hx : x < 18446744073709551616) (h0 : x ≠ 0) : bits BinOp.and IntKind.u64 (x : Int) (IntKind.u64.wrap ((x : Int) - 1)) = ((x &&& (x - 1) : Nat) : Int) := by
  have e : IntKind.u64.wrap ((x : Int) - 1) = ((x - 1 : Nat) : Int) := by rw [IntKind.wrap_u64]; omega
  rw [e, bits_and_u64_nat x _ hx (by omega)]
theorem and_dec_lt (x : Nat) (hx : x < 18446744073709551616) : (x &&& (x - 1)) < 18446744073709551616 := by
  have : x &&& (x - 1) < 2 ^ 64 := Nat.and_lt_two_pow _ (by omega)
  omega
theorem Bytes.of_own {w : World} {base e : Nat} {v : Value} {L : List Nat} (h : w.ownsRow base e 1 v L.length (L.map nb)) (hL : L.length ≤ 140737488355328) (hs : ∀ x ∈ L, x < 256) : Bytes w v (L.map UInt8.ofNat) := by
  have e1 : (L.map UInt8.ofNat).map ub = L.map nb := by
    rw [List.map_map]
    apply List.map_congr_left
    intro i hi
    have := hs i hi
    simp only [Function.comp, ub, nb]
    rw [UInt8.toNat_ofNat_of_lt' (by omega)]
  unfold Bytes
  rw [e1, List.length_map]
  exact Slc.of_own h hL
end Go.Proofs.YtnecafokkhhhhaaDoor
