/- What math/bits does where sets are counted and their least byte is asked for. -/
import Derived.Test.YtnecafokkhhhhaaDoorByteset2
import Derived.Test.YtnecafokkhhhhaaDoorPop
import Derived.Laws.Bits64b
namespace Go.Proofs.YtnecafokkhhhhaaDoor
open Go Go.RowKit
theorem m1 : mask 1 32 = 6148914691236517205 := by decide +kernel
theorem m2 : mask 2 16 = 3689348814741910323 := by decide +kernel
theorem m3 : mask 4 8 = 1085102592571150095 := by decide +kernel
theorem step1 (x : Nat) (hx : x < 18446744073709551616) : IntKind.u64.wrap (bits BinOp.and IntKind.u64 ((x : Int) / 2) 6148914691236517205 + bits BinOp.and IntKind.u64 (x : Int) 6148914691236517205) = ((pstep 1 32 x : Nat) : Int) := by
  have h := pstep_lt 1 32 x (by omega)
  have e1 : bits BinOp.and IntKind.u64 ((x : Int) / 2) 6148914691236517205 = ((x / 2 &&& 6148914691236517205 : Nat) : Int) := by
    have := bits_and_u64_nat (x / 2) 6148914691236517205 (by omega) (by omega)
    simpa using this
  have e2 : bits BinOp.and IntKind.u64 (x : Int) 6148914691236517205 = ((x &&& 6148914691236517205 : Nat) : Int) := by
    have := bits_and_u64_nat x 6148914691236517205 (by omega) (by omega)
    simpa using this
  rw [e1, e2, IntKind.wrap_u64]
  unfold pstep at *
  rw [m1] at *
  simp only [Nat.reduceMul, Nat.reducePow] at *
  omega
theorem step2 (x : Nat) (hx : x < 18446744073709551616) : IntKind.u64.wrap (bits BinOp.and IntKind.u64 ((x : Int) / 4) 3689348814741910323 + bits BinOp.and IntKind.u64 (x : Int) 3689348814741910323) = ((pstep 2 16 x : Nat) : Int) := by
  have h := pstep_lt 2 16 x (by omega)
  have e1 : bits BinOp.and IntKind.u64 ((x : Int) / 4) 3689348814741910323 = ((x / 4 &&& 3689348814741910323 : Nat) : Int) := by
    have := bits_and_u64_nat (x / 4) 3689348814741910323 (by omega) (by omega)
    simpa using this
  have e2 : bits BinOp.and IntKind.u64 (x : Int) 3689348814741910323 = ((x &&& 3689348814741910323 : Nat) : Int) := by
    have := bits_and_u64_nat x 3689348814741910323 (by omega) (by omega)
    simpa using this
  rw [e1, e2, IntKind.wrap_u64]
  unfold pstep at *
  rw [m2] at *
  simp only [Nat.reduceMul, Nat.reducePow] at *
  omega
theorem step3 (x : Nat) (hx : x < 18446744073709551616) (hs : x / 16 + x < 18446744073709551616) : bits BinOp.and IntKind.u64 (IntKind.u64.wrap ((x : Int) / 16 + (x : Int))) 1085102592571150095 = ((fold3 8 x : Nat) : Int) := by
  have e0 : IntKind.u64.wrap ((x : Int) / 16 + (x : Int)) = ((x / 16 + x : Nat) : Int) := by rw [IntKind.wrap_u64]; omega
  rw [e0]
  have := bits_and_u64_nat (x / 16 + x) 1085102592571150095 hs (by omega)
  unfold fold3
  rw [m3]
  simpa using this
theorem step4_256 (x : Nat) : IntKind.u64.wrap ((x : Int) + (x : Int) / 256) = (((x + x / 256) % 18446744073709551616 : Nat) : Int) := by
  rw [IntKind.wrap_u64]; omega
theorem step4_65536 (x : Nat) : IntKind.u64.wrap ((x : Int) + (x : Int) / 65536) = (((x + x / 65536) % 18446744073709551616 : Nat) : Int) := by
  rw [IntKind.wrap_u64]; omega
theorem step4_4294967296 (x : Nat) : IntKind.u64.wrap ((x : Int) + (x : Int) / 4294967296) = (((x + x / 4294967296) % 18446744073709551616 : Nat) : Int) := by
  rw [IntKind.wrap_u64]; omega
theorem low7 (n : Nat) (h : n < 18446744073709551616) : bits BinOp.and IntKind.i64 (wrap64 (n : Int)) 127 = ((n % 128 : Nat) : Int) := by
  show IntKind.i64.wrap ((BitVec.ofInt 64 (wrap64 (n : Int)) &&& BitVec.ofInt 64 127).toNat : Int) = _
  have e1 : (BitVec.ofInt 64 (wrap64 (n : Int))).toNat = n := by
    rw [BitVec.toNat_ofInt]; unfold wrap64; omega
  have e2 : (BitVec.ofInt 64 127).toNat = 2 ^ 7 - 1 := by decide
  rw [BitVec.toNat_and, e1, e2, Nat.and_two_pow_sub_one_eq_mod]
  simp only [Nat.reducePow]
  have : n % 128 < 128 := Nat.mod_lt _ (by omega)
  generalize n % 128 = m at *
  rw [IntKind.wrap_i64]
  omega
end Go.Proofs.YtnecafokkhhhhaaDoor
