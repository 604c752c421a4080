/- The bytes of a set, rising, word by word: plain arithmetic. -/
import Derived.Test.YtnecafokkhhhhaaDoorPop
import Derived.Test.YtnecafokkhhhhaaDoorBlk
import Derived.Lib.TrailingZeros
namespace Go.Proofs.YtnecafokkhhhhaaDoor
open Go Go.RowKit
def word (s : BitVec 256) (k : Nat) : Nat := (s.extractLsb' (64 * k) 64).toNat
theorem wd_word (s : BitVec 256) (k : Nat) : wd s k = (word s k : Int) := rfl
theorem word_lt (s : BitVec 256) (k : Nat) : word s k < 18446744073709551616 := (s.extractLsb' (64 * k) 64).isLt
theorem word_bit (s : BitVec 256) (k i : Nat) (hi : i < 64) : (word s k).testBit i = s.getLsbD (64 * k + i) := by
  unfold word
  rw [BitVec.testBit_toNat]
  simp [hi]
/-- The places of a word's ones, rising. -/
def bitsOf (x : Nat) : List Nat := (List.range 64).filter fun i => x.testBit i
theorem ones_len : ∀ n x, ones n x = ((List.range n).filter fun i => x.testBit i).length
  | 0, _ => rfl
  | n + 1, x => by
    have ih := ones_len n (x / 2)
    unfold ones at *
    rw [dsum, ih, List.range_succ_eq_map, List.filter_cons, List.filter_map]
    have e : (fun i => x.testBit i) ∘ Nat.succ = fun i => (x / 2).testBit i := by funext i; simp [Function.comp, Nat.testBit_succ]
    rw [e]
    by_cases h : x % 2 = 1
    · have hb : x.testBit 0 = true := by simp [Nat.testBit_zero, h]
      rw [if_pos hb]; simp; omega
    · have hb : x.testBit 0 = false := by simp [Nat.testBit_zero]; omega
      rw [if_neg (by rw [hb]; simp)]; simp; omega
theorem bitsOf_len (x : Nat) : (bitsOf x).length = ones 64 x := (ones_len 64 x).symm
theorem bitsOf_zero : bitsOf 0 = [] := by simp [bitsOf]
theorem filter_first (p q : Nat → Bool) (c : Nat) (hc : c < 64) (hp : ∀ i, p i = (decide (i = c) || q i)) (hq : ∀ i, i ≤ c → q i = false) : (List.range 64).filter p = c :: (List.range 64).filter q := by
  have e : List.range 64 = List.range (c + 1) ++ (List.range (63 - c)).map (c + 1 + ·) := by
    rw [← List.range_add]; congr 1; omega
  rw [e, List.filter_append, List.filter_append]
  have h1 : (List.range (c + 1)).filter p = [c] := by
    rw [List.range_succ, List.filter_append]
    have a : (List.range c).filter p = [] := by
      rw [List.filter_eq_nil_iff]
      intro i hi
      have hi := List.mem_range.1 hi
      rw [hp, hq i (by omega)]
      simp; omega
    have b : p c = true := by rw [hp]; simp
    rw [a]; simp [b]
  have h2 : (List.range (c + 1)).filter q = [] := by
    rw [List.filter_eq_nil_iff]
    intro i hi
    have hi := List.mem_range.1 hi
    rw [hq i (by omega)]; simp
  have h3 : ((List.range (63 - c)).map (c + 1 + ·)).filter p = ((List.range (63 - c)).map (c + 1 + ·)).filter q := by
    apply List.filter_congr
    intro i hi
    obtain ⟨j, _, rfl⟩ := List.mem_map.1 hi
    rw [hp]
    have : decide (c + 1 + j = c) = false := by simp; omega
    rw [this]; rfl
  rw [h1, h2, h3]; rfl
theorem bitsOf_step (x : Nat) (h0 : x ≠ 0) (hx : x < 2 ^ 64) : Lib.ctz 64 x < 64 ∧ bitsOf x = Lib.ctz 64 x :: bitsOf (x &&& (x - 1)) := by
  have hc : Lib.ctz 64 x = Lib.ctzFrom 64 x := by simp [Lib.ctz, h0]
  obtain ⟨m, hm, hk⟩ := Lib.ctzFrom_spec 64 x (by omega) hx
  rw [← hc] at hm hk
  generalize Lib.ctz 64 x = c at *
  refine ⟨hk, ?_⟩
  have hp : 0 < 2 ^ c := Nat.pow_pos (by omega)
  have e1 : x = 2 ^ c * (2 * m + 1) + 0 := by omega
  have e2 : x - 1 = 2 ^ c * (2 * m) + (2 ^ c - 1) := by
    have : 2 ^ c * (2 * m + 1) = 2 ^ c * (2 * m) + 2 ^ c := by rw [Nat.mul_add, Nat.mul_one]
    omega
  have bx : ∀ i, x.testBit i = if i < c then false else (2 * m + 1).testBit (i - c) := fun i => by
    rw [e1, Nat.testBit_two_pow_mul_add _ hp]; simp
  have by1 : ∀ i, (x - 1).testBit i = if i < c then true else (2 * m).testBit (i - c) := fun i => by
    rw [e2, Nat.testBit_two_pow_mul_add _ (by omega)]
    by_cases h : i < c
    · simp [h, Nat.testBit_two_pow_sub_one]
    · simp [h]
  unfold bitsOf
  apply filter_first _ _ c hk
  · intro i
    rw [Nat.testBit_and, bx, by1]
    by_cases h : i < c
    · have : ¬ i = c := by omega
      simp [h, this]
    · by_cases h2 : i = c
      · subst h2; simp
      · obtain ⟨j, hj⟩ : ∃ j, i - c = j + 1 := ⟨i - c - 1, by omega⟩
        simp only [h, h2, if_false, hj, Nat.testBit_succ]
        have e3 : (2 * m + 1) / 2 = m := by omega
        have e4 : (2 * m) / 2 = m := by omega
        rw [e3, e4]; simp
  · intro i hi
    rw [Nat.testBit_and, bx, by1]
    by_cases h : i < c
    · simp [h]
    · have : i - c = 0 := by omega
      simp [h, this]
/-- The bytes of a set's first k words, rising. -/
def lstN (s : BitVec 256) (k : Nat) : List Nat := (List.range (64 * k)).filter fun i => s.getLsbD i
theorem lstN_zero (s : BitVec 256) : lstN s 0 = [] := rfl
theorem lstN_succ (s : BitVec 256) (k : Nat) : lstN s (k + 1) = lstN s k ++ (bitsOf (word s k)).map (64 * k + ·) := by
  unfold lstN bitsOf
  rw [show 64 * (k + 1) = 64 * k + 64 by omega, List.range_add, List.filter_append, List.filter_map]
  congr 2
  apply List.filter_congr
  intro i hi
  have hi := List.mem_range.1 hi
  rw [word_bit s k i hi]; rfl
theorem lstN_lt (s : BitVec 256) (k i : Nat) (h : i ∈ lstN s k) : i < 64 * k := List.mem_range.1 (List.mem_filter.1 h).1
theorem lstN_len (s : BitVec 256) : ∀ k, (lstN s k).length ≤ 64 * k := fun k => by
  have := List.length_filter_le (fun i => s.getLsbD i) (List.range (64 * k))
  rw [List.length_range] at this
  exact this
abbrev nb (i : Nat) : Value := .int .u8 (i : Int)
/-- A set's bytes, rising. -/
def lst (s : BitVec 256) : List UInt8 := (lstN s 4).map UInt8.ofNat
theorem lst_cells (s : BitVec 256) : (lst s).map ub = (lstN s 4).map nb := by
  unfold lst
  rw [List.map_map]
  apply List.map_congr_left
  intro i hi
  have := lstN_lt s 4 i hi
  simp only [Function.comp, ub, nb]
  rw [UInt8.toNat_ofNat_of_lt' (by omega)]
theorem lst_len (s : BitVec 256) : (lst s).length = (lstN s 4).length := by simp [lst]
end Go.Proofs.YtnecafokkhhhhaaDoor
