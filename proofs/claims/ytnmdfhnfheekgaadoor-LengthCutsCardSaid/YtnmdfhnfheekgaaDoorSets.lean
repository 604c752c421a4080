/- Plain facts on sets of bytes as numbers of 256 bits: no program is named here. -/
import Derived.WalkKit
import Derived.Lib.TrailingZeros
namespace Go.Proofs.YtnmdfhnfheekgaaDoor
open Go Go.RowKit

/-- Word k of a set, as the program holds it. -/
def wd (s : BitVec 256) (k : Nat) : Int := ((s.extractLsb' (64 * k) 64).toNat : Int)
abbrev sv (s : BitVec 256) : Value := .agg #[.int .u64 (wd s 0), .int .u64 (wd s 1), .int .u64 (wd s 2), .int .u64 (wd s 3)]

theorem wd_nn (s : BitVec 256) (k : Nat) : 0 ≤ wd s k := Int.natCast_nonneg _
theorem wd_lt (s : BitVec 256) (k : Nat) : wd s k < 18446744073709551616 := by
  have := (s.extractLsb' (64 * k) 64).isLt
  unfold wd; omega
theorem wd_le (s : BitVec 256) (k : Nat) : wd s k ≤ 18446744073709551615 := by
  have := wd_lt s k; omega
theorem u64_bv (x : BitVec 64) : BitVec.ofInt 64 (x.toNat : Int) = x := by
  rw [BitVec.ofInt_natCast, BitVec.ofNat_toNat]; simp
theorem u64_wrap_bv (x : BitVec 64) : IntKind.u64.wrap (x.toNat : Int) = (x.toNat : Int) := by
  have := x.isLt
  rw [IntKind.wrap_u64]; omega
theorem bits_or_bv (x y : BitVec 64) : bits .or .u64 (x.toNat : Int) (y.toNat : Int) = ((x ||| y).toNat : Int) := by
  show IntKind.u64.wrap ((BitVec.ofInt 64 (x.toNat : Int) ||| BitVec.ofInt 64 (y.toNat : Int)).toNat : Int) = _
  rw [u64_bv, u64_bv, u64_wrap_bv]
theorem bits_and_bv (x y : BitVec 64) : bits .and .u64 (x.toNat : Int) (y.toNat : Int) = ((x &&& y).toNat : Int) := by
  show IntKind.u64.wrap ((BitVec.ofInt 64 (x.toNat : Int) &&& BitVec.ofInt 64 (y.toNat : Int)).toNat : Int) = _
  rw [u64_bv, u64_bv, u64_wrap_bv]
theorem bits_andNot_bv (x y : BitVec 64) : bits .andNot .u64 (x.toNat : Int) (y.toNat : Int) = ((x &&& ~~~y).toNat : Int) := by
  show IntKind.u64.wrap ((BitVec.ofInt 64 (x.toNat : Int) &&& ~~~(BitVec.ofInt 64 (y.toNat : Int))).toNat : Int) = _
  rw [u64_bv, u64_bv, u64_wrap_bv]
theorem bits_xor_bv (x y : BitVec 64) : bits .xor .u64 (x.toNat : Int) (y.toNat : Int) = ((x ^^^ y).toNat : Int) := by
  show IntKind.u64.wrap ((BitVec.ofInt 64 (x.toNat : Int) ^^^ (BitVec.ofInt 64 (y.toNat : Int))).toNat : Int) = _
  rw [u64_bv, u64_bv, u64_wrap_bv]
theorem wd_or (s t : BitVec 256) (k : Nat) : bits .or .u64 (wd s k) (wd t k) = wd (s ||| t) k := by
  unfold wd; rw [bits_or_bv]; congr 2; ext i; simp
theorem wd_and (s t : BitVec 256) (k : Nat) : bits .and .u64 (wd s k) (wd t k) = wd (s &&& t) k := by
  unfold wd; rw [bits_and_bv]; congr 2; ext i; simp
theorem wd_andNot (s t : BitVec 256) (k : Nat) (hk : k < 4) : bits .andNot .u64 (wd s k) (wd t k) = wd (s &&& ~~~t) k := by
  unfold wd; rw [bits_andNot_bv]; congr 2; ext i hi
  simp only [BitVec.getElem_and, BitVec.getElem_not, BitVec.getElem_extractLsb', BitVec.getLsbD_and, BitVec.getLsbD_not]
  have : 64 * k + i < 256 := by omega
  simp [this]
theorem wd_compl (s : BitVec 256) (k : Nat) (hk : k < 4) : bits .xor .u64 IntKind.u64.max (wd s k) = wd (~~~s) k := by
  have e : IntKind.u64.max = ((BitVec.allOnes 64).toNat : Int) := by decide
  unfold wd; rw [e, bits_xor_bv]; congr 2; ext i hi
  simp only [BitVec.getElem_xor, BitVec.getElem_extractLsb', BitVec.getLsbD_not, BitVec.getElem_allOnes]
  have : 64 * k + i < 256 := by omega
  simp [this]
theorem wd_ext {s t : BitVec 256} (h0 : wd s 0 = wd t 0) (h1 : wd s 1 = wd t 1) (h2 : wd s 2 = wd t 2) (h3 : wd s 3 = wd t 3) : s = t := by
  have key : ∀ k, wd s k = wd t k → ∀ i, i < 64 → s.getLsbD (64 * k + i) = t.getLsbD (64 * k + i) := by
    intro k h i hi
    have e : s.extractLsb' (64 * k) 64 = t.extractLsb' (64 * k) 64 := BitVec.eq_of_toNat_eq (by unfold wd at h; omega)
    have := congrArg (fun x : BitVec 64 => x.getLsbD i) e
    simpa [hi] using this
  apply BitVec.eq_of_getLsbD_eq
  intro i hi
  by_cases a : i < 64
  · have := key 0 h0 i a; simpa using this
  by_cases b : i < 128
  · have := key 1 h1 (i - 64) (by omega); rw [show 64 * 1 + (i - 64) = i by omega] at this; exact this
  by_cases c : i < 192
  · have := key 2 h2 (i - 128) (by omega); rw [show 64 * 2 + (i - 128) = i by omega] at this; exact this
  · have := key 3 h3 (i - 192) (by omega); rw [show 64 * 3 + (i - 192) = i by omega] at this; exact this
theorem sv_inj {s t : BitVec 256} : sv s = sv t ↔ s = t := by
  constructor
  · intro h
    simp at h
    exact wd_ext h.1 h.2.1 h.2.2.1 h.2.2.2
  · rintro rfl; rfl
theorem wd_zero (k : Nat) : wd 0#256 k = 0 := by
  have e : BitVec.extractLsb' (64 * k) 64 0#256 = 0#64 := by ext i; simp
  unfold wd; rw [e]; rfl
abbrev sv0 : Value := .agg #[.int .u64 0, .int .u64 0, .int .u64 0, .int .u64 0]
theorem sv_zero : sv 0#256 = sv0 := by simp [wd_zero]
/-- All bytes. -/
def full : BitVec 256 := ~~~0#256
/-- Four words make a set. -/
theorem wd_make (a b c d : Int) (ha : 0 ≤ a ∧ a ≤ 18446744073709551615) (hb : 0 ≤ b ∧ b ≤ 18446744073709551615) (hc : 0 ≤ c ∧ c ≤ 18446744073709551615) (hd : 0 ≤ d ∧ d ≤ 18446744073709551615) :
    ∃ s : BitVec 256, wd s 0 = a ∧ wd s 1 = b ∧ wd s 2 = c ∧ wd s 3 = d := by
  refine ⟨BitVec.ofNat 256 (a.toNat + 2 ^ 64 * (b.toNat + 2 ^ 64 * (c.toNat + 2 ^ 64 * d.toNat))), ?_, ?_, ?_, ?_⟩ <;>
  · unfold wd
    rw [BitVec.extractLsb'_toNat, BitVec.toNat_ofNat]
    simp only [Nat.shiftRight_eq_div_pow]
    omega
theorem bit_word (j : Nat) : IntKind.u64.wrap (2 ^ j) = (((1#64 <<< j : BitVec 64)).toNat : Int) := by
  rw [IntKind.wrap_u64, BitVec.toNat_shiftLeft, Nat.shiftLeft_eq]
  simp
theorem has_word (s : BitVec 256) (b : Int) (k : Nat) (h0 : 0 ≤ b) (hk : b / 64 = k) : (bits .and .u64 (wd s k) (IntKind.u64.wrap (2 ^ (b % 64).toNat)) != 0) = s.getLsbD b.toNat := by
  have hj : (b % 64).toNat < 64 := by omega
  have e : b.toNat = 64 * k + (b % 64).toNat := by omega
  rw [bit_word, e]
  generalize (b % 64).toNat = j at *
  unfold wd
  rw [bits_and_bv]
  generalize hx : s.extractLsb' (64 * k) 64 = x
  have e2 : s.getLsbD (64 * k + j) = x.getLsbD j := by rw [← hx]; simp [hj]
  rw [e2, Bool.eq_iff_iff]
  simp only [bne_iff_ne, ne_eq, Int.natCast_eq_zero]
  constructor
  · intro h
    cases hb : x.getLsbD j with
    | true => rfl
    | false =>
      exfalso; apply h
      have : x &&& 1#64 <<< j = 0#64 := by
        ext i hi
        simp only [BitVec.getElem_and, BitVec.getElem_shiftLeft, BitVec.getElem_zero]
        by_cases hij : i = j
        · subst hij; simp [← BitVec.getLsbD_eq_getElem, hb]
        · by_cases hlt : i < j
          · simp [hlt]
          · have : i - j ≠ 0 := by omega
            simp [hlt, this]
      rw [this]; rfl
  · intro h hz
    have hz' : x &&& 1#64 <<< j = 0#64 := BitVec.eq_of_toNat_eq hz
    have := congrArg (fun y : BitVec 64 => y.getLsbD j) hz'
    simp [hj] at this
    rw [BitVec.getLsbD_eq_getElem hj, this] at h
    cases h
theorem with_word (s : BitVec 256) (b : Int) (k : Nat) (h0 : 0 ≤ b) (hk : b / 64 = k) (h4 : k < 4) : bits .or .u64 (wd s k) (IntKind.u64.wrap (2 ^ (b % 64).toNat)) = wd (s ||| 1#256 <<< b.toNat) k := by
  have hj : (b % 64).toNat < 64 := by omega
  have e : b.toNat = 64 * k + (b % 64).toNat := by omega
  rw [bit_word, e]
  generalize (b % 64).toNat = j at *
  unfold wd
  rw [bits_or_bv]
  congr 2
  ext i hi
  simp only [BitVec.getElem_or, BitVec.getElem_shiftLeft, BitVec.getElem_extractLsb', BitVec.getLsbD_or, BitVec.getLsbD_shiftLeft, BitVec.getLsbD_one]
  congr 1
  have h1 : 64 * k + i < 256 := by omega
  by_cases hlt : i < j
  · have : 64 * k + i < 64 * k + j := by omega
    simp [hlt, this]
  · have : ¬ 64 * k + i < 64 * k + j := by omega
    have e3 : 64 * k + i - (64 * k + j) = i - j := by omega
    simp [hlt, h1, e3]
theorem with_other (s : BitVec 256) (b : Int) (k : Nat) (h0 : 0 ≤ b) (hk : b / 64 ≠ k) : wd (s ||| 1#256 <<< b.toNat) k = wd s k := by
  unfold wd
  congr 2
  ext i hi
  simp only [BitVec.getElem_extractLsb', BitVec.getLsbD_or, BitVec.getLsbD_shiftLeft, BitVec.getLsbD_one]
  have : ¬ (¬ 64 * k + i < b.toNat ∧ 64 * k + i - b.toNat = 0) := by omega
  by_cases h1 : 64 * k + i < b.toNat
  · simp [h1]
  · have h2 : ¬ 64 * k + i - b.toNat = 0 := fun h => this ⟨h1, h⟩
    simp [h2]
/-- All bytes below b. -/
def low (b : Int) : BitVec 256 := BitVec.ofNat 256 (2 ^ b.toNat - 1)
theorem low_bit (b : Int) (i : Nat) (h1 : b ≤ 256) : (low b).getLsbD i = decide (i < b.toNat) := by
  unfold low
  rw [BitVec.getLsbD_ofNat, Nat.testBit_two_pow_sub_one]
  by_cases h : i < b.toNat
  · have : i < 256 := by omega
    simp [h, this]
  · simp [h]
theorem low_word_lt (b : Int) (i k : Nat) (h1 : b ≤ 255) (hk : b / 64 = k) (hi : i < k) : wd (low b) i = 18446744073709551615 := by
  have e : (low b).extractLsb' (64 * i) 64 = BitVec.allOnes 64 := by
    ext j hj
    rw [BitVec.getElem_extractLsb', low_bit b _ (by omega), BitVec.getElem_allOnes]
    simp; omega
  unfold wd; rw [e]; rfl
theorem low_word_gt (b : Int) (i k : Nat) (h1 : b ≤ 255) (hk : b / 64 = k) (hi : k < i) : wd (low b) i = 0 := by
  have e : (low b).extractLsb' (64 * i) 64 = 0#64 := by
    ext j hj
    rw [BitVec.getElem_extractLsb', low_bit b _ (by omega), BitVec.getElem_zero]
    simp; omega
  unfold wd; rw [e]; rfl
theorem low_word_eq (b : Int) (k : Nat) (h0 : 0 ≤ b) (h1 : b ≤ 255) (hk : b / 64 = k) : wd (low b) k = IntKind.u64.wrap (IntKind.u64.wrap (2 ^ (b % 64).toNat) - 1) := by
  have hj : (b % 64).toNat < 64 := by omega
  have hb : b.toNat = 64 * k + (b % 64).toNat := by omega
  have e : (low b).extractLsb' (64 * k) 64 = BitVec.ofNat 64 (2 ^ (b % 64).toNat - 1) := by
    ext j hj2
    rw [BitVec.getElem_extractLsb', low_bit b _ (by omega), ← BitVec.getLsbD_eq_getElem, BitVec.getLsbD_ofNat, Nat.testBit_two_pow_sub_one]
    rw [hb]; simp [hj2]
  have hp : (2 : Nat) ^ (b % 64).toNat < 2 ^ 64 := Nat.pow_lt_pow_right (by omega) hj
  have hp0 : 0 < (2 : Nat) ^ (b % 64).toNat := Nat.pow_pos (by omega)
  have ei : ((2 : Int) ^ (b % 64).toNat) = ((2 ^ (b % 64).toNat : Nat) : Int) := by simp
  unfold wd; rw [e, BitVec.toNat_ofNat, IntKind.wrap_u64, IntKind.wrap_u64, ei]
  generalize 2 ^ (b % 64).toNat = p at *
  omega
/-- All bytes from lo to hi, both too. -/
def rng (lo hi : Int) : BitVec 256 := (low hi ||| 1#256 <<< hi.toNat) &&& ~~~(low lo)
theorem rng_bit (lo hi : Int) (i : Nat) (_h0 : 0 ≤ lo) (h1 : lo ≤ 255) (g0 : 0 ≤ hi) (g1 : hi ≤ 255) : (rng lo hi).getLsbD i = decide (lo ≤ i ∧ (i : Int) ≤ hi) := by
  unfold rng
  rw [BitVec.getLsbD_and, BitVec.getLsbD_or, BitVec.getLsbD_not, low_bit _ _ (by omega), low_bit _ _ (by omega), BitVec.getLsbD_shiftLeft, BitVec.getLsbD_one]
  by_cases a : i < 256
  · by_cases b : (lo ≤ i ∧ (i : Int) ≤ hi)
    · rw [decide_eq_true b]
      by_cases c : i < hi.toNat
      · simp [a, c]; omega
      · have : i - hi.toNat = 0 := by omega
        simp [a, c, this]; omega
    · rw [decide_eq_false b]
      by_cases c : i < hi.toNat
      · simp [a, c]; omega
      · by_cases d : i - hi.toNat = 0
        · simp [a, c, d]; omega
        · simp [a, c, d]
  · have : ¬ (lo ≤ i ∧ (i : Int) ≤ hi) := by omega
    simp [a, this]
/-- Is byte i in the set? -/
abbrev mem (s : BitVec 256) (i : Nat) : Bool := s.getLsbD i
end Go.Proofs.YtnmdfhnfheekgaaDoor
