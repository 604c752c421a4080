/- Counting the bits of a word by adding neighbours: plain arithmetic. -/
import Derived.Test.YtnecafokkhhhhaaDoorSets
namespace Go.Proofs.YtnecafokkhhhhaaDoor
open Go Go.RowKit

theorem and_split (k a b c d : Nat) (ha : a < 2 ^ k) (hc : c < 2 ^ k) : (2 ^ k * b + a) &&& (2 ^ k * d + c) = 2 ^ k * (b &&& d) + (a &&& c) := by
  have hac : a &&& c < 2 ^ k := Nat.and_lt_two_pow _ hc
  apply Nat.eq_of_testBit_eq
  intro j
  rw [Nat.testBit_and, Nat.testBit_two_pow_mul_add _ ha, Nat.testBit_two_pow_mul_add _ hc, Nat.testBit_two_pow_mul_add _ hac]
  by_cases h : j < k <;> simp [h, Nat.testBit_and]
/-- The sum of the lowest n digits to a base. -/
def dsum (B : Nat) : Nat → Nat → Nat
  | 0, _ => 0
  | n + 1, y => y % B + dsum B n (y / B)
def mask (h : Nat) : Nat → Nat
  | 0 => 0
  | n + 1 => 2 ^ (2 * h) * mask h n + (2 ^ h - 1)
def pstep (h n x : Nat) : Nat := (x / 2 ^ h &&& mask h n) + (x &&& mask h n)
theorem and_mask (h n y : Nat) : y &&& mask h (n + 1) = 2 ^ (2 * h) * (y / 2 ^ (2 * h) &&& mask h n) + y % 2 ^ h := by
  have hp : 0 < 2 ^ (2 * h) := Nat.pow_pos (by omega)
  have hle : 2 ^ h ≤ 2 ^ (2 * h) := Nat.pow_le_pow_right (by omega) (by omega)
  have hq : 0 < 2 ^ h := Nat.pow_pos (by omega)
  have e : y = 2 ^ (2 * h) * (y / 2 ^ (2 * h)) + y % 2 ^ (2 * h) := (Nat.div_add_mod _ _).symm
  have key := and_split (2 * h) (y % 2 ^ (2 * h)) (y / 2 ^ (2 * h)) (2 ^ h - 1) (mask h n) (Nat.mod_lt _ hp) (by omega)
  rw [← e] at key
  rw [mask, key, Nat.and_two_pow_sub_one_eq_mod]
  congr 1
  rw [Nat.mod_mod_of_dvd _ (Nat.pow_dvd_pow 2 (by omega))]
theorem pstep_succ (h n x : Nat) : pstep h (n + 1) x = 2 ^ (2 * h) * pstep h n (x / 2 ^ (2 * h)) + ((x / 2 ^ h) % 2 ^ h + x % 2 ^ h) := by
  unfold pstep
  rw [and_mask, and_mask, Nat.div_div_eq_div_mul, Nat.div_div_eq_div_mul, Nat.mul_comm (2 ^ h), Nat.mul_add]
  omega
theorem dsum_pstep (h : Nat) (hh : 0 < h) : ∀ n x, dsum (2 ^ (2 * h)) n (pstep h n x) = dsum (2 ^ h) (2 * n) x
  | 0, _ => rfl
  | n + 1, x => by
    have hq : 2 ≤ 2 ^ h := by have := Nat.pow_le_pow_right (show 1 ≤ 2 by omega) hh; simpa using this
    have e2 : 2 ^ (2 * h) = 2 ^ h * 2 ^ h := by rw [← Nat.pow_add]; congr 1; omega
    have h1 := Nat.mod_lt (x / 2 ^ h) (show 2 ^ h > 0 by omega)
    have h2 := Nat.mod_lt x (show 2 ^ h > 0 by omega)
    have hd : (x / 2 ^ h) % 2 ^ h + x % 2 ^ h < 2 ^ (2 * h) := by
      rw [e2]
      have := Nat.mul_le_mul hq (Nat.le_refl (2 ^ h))
      omega
    have ih := dsum_pstep h hh n (x / 2 ^ (2 * h))
    rw [show 2 * (n + 1) = 2 * n + 1 + 1 by omega, pstep_succ]
    simp only [dsum]
    rw [Nat.mul_add_mod, Nat.mod_eq_of_lt hd, Nat.mul_add_div (by omega), Nat.div_eq_of_lt hd, Nat.add_zero, ih, Nat.div_div_eq_div_mul, ← e2]
    omega
/-- All of the lowest n digits to base 16 are 4 at most. -/
def small : Nat → Nat → Prop
  | 0, z => z = 0
  | n + 1, z => z % 16 ≤ 4 ∧ small n (z / 16)
def fold3 (n z : Nat) : Nat := (z / 16 + z) &&& mask 4 n
theorem fold3_eq : ∀ n z, small (2 * n) z → fold3 n z = pstep 4 n z
  | 0, z, _ => by simp [fold3, pstep, mask]
  | n + 1, z, hz => by
    rw [show 2 * (n + 1) = 2 * n + 1 + 1 by omega] at hz
    obtain ⟨h1, h2, h3⟩ := hz
    rw [Nat.div_div_eq_div_mul] at h3
    have ih := fold3_eq n (z / 256) h3
    have h4 : z / 256 % 16 ≤ 4 := by
      cases n with
      | zero => have : z / 256 = 0 := h3; omega
      | succ m => rw [show 2 * (m + 1) = 2 * m + 1 + 1 by omega] at h3; exact h3.1
    rw [pstep_succ]
    unfold fold3 at *
    rw [and_mask]
    simp only [Nat.reduceMul, Nat.reducePow] at *
    rw [← ih]
    have e0 : z / 16 / 16 = z / 256 := Nat.div_div_eq_div_mul ..
    have e1 : (z / 16 + z) / 256 = z / 256 / 16 + z / 256 := by omega
    have e2 : (z / 16 + z) % 16 = z / 16 % 16 + z % 16 := by omega
    rw [e1, e2]
theorem pstep2_small : ∀ n x, small n (pstep 2 n (pstep 1 (2 * n) x))
  | 0, x => by simp [small, pstep, mask]
  | n + 1, x => by
    have ih := pstep2_small n (x / 16)
    rw [pstep_succ]
    have e : pstep 1 (2 * (n + 1)) x / 2 ^ (2 * 2) = pstep 1 (2 * n) (x / 16) := by
      rw [show 2 * (n + 1) = 2 * n + 1 + 1 by omega, pstep_succ, pstep_succ, Nat.div_div_eq_div_mul]
      simp only [Nat.reduceMul, Nat.reducePow]
      omega
    rw [e]
    have e2 : pstep 1 (2 * (n + 1)) x = 16 * pstep 1 (2 * n) (x / 16) + (4 * ((x / 4 / 2) % 2 + (x / 4) % 2) + ((x / 2) % 2 + x % 2)) := by
      rw [show 2 * (n + 1) = 2 * n + 1 + 1 by omega, pstep_succ, pstep_succ, Nat.div_div_eq_div_mul]
      simp only [Nat.reduceMul, Nat.reducePow]
      omega
    rw [e2]
    generalize pstep 1 (2 * n) (x / 16) = y at *
    have hp : (x / 4 / 2) % 2 + (x / 4) % 2 ≤ 2 := by omega
    have hq : (x / 2) % 2 + x % 2 ≤ 2 := by omega
    generalize (x / 4 / 2) % 2 + (x / 4) % 2 = p at *
    generalize (x / 2) % 2 + x % 2 = q at *
    simp only [Nat.reduceMul, Nat.reducePow]
    have e4 : (16 * y + (4 * p + q)) / 4 % 4 = p := by omega
    have e5 : (16 * y + (4 * p + q)) % 4 = q := by omega
    rw [e4, e5]
    clear e4 e5
    unfold small
    exact ⟨by rw [Nat.mul_add_mod]; exact Nat.le_trans (Nat.mod_le _ _) (by omega), by rw [Nat.mul_add_div (by omega), Nat.div_eq_of_lt (by omega : p + q < 16)]; exact ih⟩
theorem small_le : ∀ n z, small n z → dsum 16 n z ≤ 4 * n
  | 0, _, _ => Nat.le_refl _
  | n + 1, z, h => by
    have := small_le n (z / 16) h.2
    have := h.1
    simp only [dsum]; omega
theorem small_bound : ∀ n z, small n z → 15 * z + 4 ≤ 4 * 16 ^ n
  | 0, z, h => by have h : z = 0 := h; subst h; simp
  | n + 1, z, h => by
    have := small_bound n (z / 16) h.2
    have := h.1
    rw [Nat.pow_succ]; omega
/-- How many of the lowest n bits are 1. -/
def ones (n x : Nat) : Nat := dsum 2 n x
theorem ones_le : ∀ n x, ones n x ≤ n
  | 0, _ => Nat.le_refl _
  | n + 1, x => by
    have := ones_le n (x / 2)
    unfold ones at *
    simp only [dsum]; omega
theorem pstep_lt (h n x : Nat) (hh : 0 < h) : pstep h n x < 2 ^ (2 * h * n) := by
  induction n generalizing x with
  | zero => simp [pstep, mask]
  | succ n ih =>
    rw [pstep_succ]
    have := ih (x / 2 ^ (2 * h))
    have hq : 2 ≤ 2 ^ h := by have := Nat.pow_le_pow_right (show 1 ≤ 2 by omega) hh; simpa using this
    have e2 : 2 ^ (2 * h) = 2 ^ h * 2 ^ h := by rw [← Nat.pow_add]; congr 1; omega
    have h1 := Nat.mod_lt (x / 2 ^ h) (show 2 ^ h > 0 by omega)
    have h2 := Nat.mod_lt x (show 2 ^ h > 0 by omega)
    have h3 := Nat.mul_le_mul hq (Nat.le_refl (2 ^ h))
    rw [Nat.mul_add, Nat.pow_add, Nat.mul_one, Nat.mul_comm]
    have : 2 ^ (2 * h) * (pstep h n (x / 2 ^ (2 * h)) + 1) ≤ 2 ^ (2 * h) * 2 ^ (2 * h * n) := Nat.mul_le_mul_left _ this
    rw [Nat.mul_add, Nat.mul_one] at this
    rw [Nat.mul_comm (2 ^ (2 * h * n))]
    rw [Nat.mul_comm (pstep h n (x / 2 ^ (2 * h)))]
    omega
theorem fold1 (a0 a1 a2 a3 a4 a5 a6 a7 t : Nat) (hs : a0 + a1 + a2 + a3 + a4 + a5 + a6 + a7 ≤ 64) (ht : t = a0 + 256 * a1 + 65536 * a2 + 16777216 * a3 + 4294967296 * a4 + 1099511627776 * a5 + 281474976710656 * a6 + 72057594037927936 * a7) :
    (t + t / 256) % 18446744073709551616 = (a0 + a1) + 256 * (a1 + a2) + 65536 * (a2 + a3) + 16777216 * (a3 + a4) + 4294967296 * (a4 + a5) + 1099511627776 * (a5 + a6) + 281474976710656 * (a6 + a7) + 72057594037927936 * a7 := by
  have d : t / 256 = a1 + 256 * a2 + 65536 * a3 + 16777216 * a4 + 4294967296 * a5 + 1099511627776 * a6 + 281474976710656 * a7 := by subst ht; omega
  rw [d, Nat.mod_eq_of_lt (by omega)]; omega
theorem fold2 (a0 a1 a2 a3 a4 a5 a6 a7 u : Nat) (hs : a0 + a1 + a2 + a3 + a4 + a5 + a6 + a7 ≤ 64)
    (hu : u = (a0 + a1) + 256 * (a1 + a2) + 65536 * (a2 + a3) + 16777216 * (a3 + a4) + 4294967296 * (a4 + a5) + 1099511627776 * (a5 + a6) + 281474976710656 * (a6 + a7) + 72057594037927936 * a7) :
    ∃ r, (u + u / 65536) % 18446744073709551616 = (a0 + a1 + a2 + a3) + 256 * (a1 + a2 + a3 + a4) + 65536 * (a2 + a3 + a4 + a5) + 16777216 * (a3 + a4 + a5 + a6) + 4294967296 * (a4 + a5 + a6 + a7) + 1099511627776 * r ∧ r < 8388608 := by
  have d : u / 65536 = (a2 + a3) + 256 * (a3 + a4) + 65536 * (a4 + a5) + 16777216 * (a5 + a6) + 4294967296 * (a6 + a7) + 1099511627776 * a7 := by subst hu; omega
  refine ⟨(a5 + a6 + a7) + 256 * (a6 + a7) + 65536 * a7, ?_, by omega⟩
  rw [d, Nat.mod_eq_of_lt (by omega)]; omega
theorem fold3' (b0 b1 b2 b3 b4 r v : Nat) (hb : b0 + b4 ≤ 64) (h1 : b1 ≤ 64) (h2 : b2 ≤ 64) (h3 : b3 ≤ 64) (hr : r < 8388608) (hv : v = b0 + 256 * b1 + 65536 * b2 + 16777216 * b3 + 4294967296 * b4 + 1099511627776 * r) :
    (v + v / 4294967296) % 18446744073709551616 % 128 = b0 + b4 := by
  have d : v / 4294967296 = b4 + 256 * r := by subst hv; omega
  rw [d]; clear d
  have m : (v + (b4 + 256 * r)) % 18446744073709551616 = v + (b4 + 256 * r) := Nat.mod_eq_of_lt (by omega)
  rw [m]; omega
theorem bytes_of (t : Nat) (ht : t < 18446744073709551616) : ∃ a0 a1 a2 a3 a4 a5 a6 a7, t = a0 + 256 * a1 + 65536 * a2 + 16777216 * a3 + 4294967296 * a4 + 1099511627776 * a5 + 281474976710656 * a6 + 72057594037927936 * a7 ∧ dsum 256 8 t = a0 + a1 + a2 + a3 + a4 + a5 + a6 + a7 := by
  refine ⟨t % 256, t / 256 % 256, t / 65536 % 256, t / 16777216 % 256, t / 4294967296 % 256, t / 1099511627776 % 256, t / 281474976710656 % 256, t / 72057594037927936 % 256, by omega, ?_⟩
  simp only [dsum, Nat.div_div_eq_div_mul, Nat.reduceMul, Nat.add_zero]
  omega
theorem fold_bytes (t : Nat) (ht : t < 18446744073709551616) (hs : dsum 256 8 t ≤ 64) (u v : Nat) (hu : u = (t + t / 256) % 18446744073709551616) (hv : v = (u + u / 65536) % 18446744073709551616) :
    (v + v / 4294967296) % 18446744073709551616 % 128 = dsum 256 8 t := by
  obtain ⟨a0, a1, a2, a3, a4, a5, a6, a7, e, hd⟩ := bytes_of t ht
  have hs' : a0 + a1 + a2 + a3 + a4 + a5 + a6 + a7 ≤ 64 := by rw [← hd]; exact hs
  obtain ⟨r, e2, hr⟩ := fold2 a0 a1 a2 a3 a4 a5 a6 a7 u hs' (hu.trans (fold1 a0 a1 a2 a3 a4 a5 a6 a7 t hs' e))
  clear e hs hu
  refine (fold3' (a0 + a1 + a2 + a3) (a1 + a2 + a3 + a4) (a2 + a3 + a4 + a5) (a3 + a4 + a5 + a6) (a4 + a5 + a6 + a7) r v (by omega) (by omega) (by omega) (by omega) hr (hv.trans e2)).trans ?_
  rw [hd]; omega
theorem ones_go (x : Nat) : ∃ t, t < 18446744073709551616 ∧ t = fold3 8 (pstep 2 16 (pstep 1 32 x)) ∧ dsum 256 8 t = ones 64 x ∧ pstep 2 16 (pstep 1 32 x) / 16 + pstep 2 16 (pstep 1 32 x) < 18446744073709551616 := by
  have hsm : small (2 * 8) (pstep 2 16 (pstep 1 32 x)) := pstep2_small 16 x
  have e3 := fold3_eq 8 _ hsm
  refine ⟨_, ?_, rfl, ?_, ?_⟩
  · rw [e3]
    have := pstep_lt 4 8 (pstep 2 16 (pstep 1 32 x)) (by omega)
    simp only [Nat.reduceMul, Nat.reducePow] at this
    exact this
  · rw [e3]
    have d1 := dsum_pstep 4 (by omega) 8 (pstep 2 16 (pstep 1 32 x))
    have d2 := dsum_pstep 2 (by omega) 16 (pstep 1 32 x)
    have d3 := dsum_pstep 1 (by omega) 32 x
    simp only [Nat.reduceMul, Nat.reducePow] at d1 d2 d3
    rw [d1, d2, d3]; rfl
  · have hb := small_bound 16 _ hsm
    simp only [Nat.reducePow, Nat.reduceMul] at hb
    omega
end Go.Proofs.YtnecafokkhhhhaaDoor
