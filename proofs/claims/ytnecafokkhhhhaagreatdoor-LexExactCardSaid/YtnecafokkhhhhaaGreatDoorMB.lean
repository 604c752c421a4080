/- A set's bytes, as package byteset lists them. -/
import Derived.WalkKit
import Derived.Lib.TrailingZeros
import Derived.Test.YtnecafokkhhhhaaGreatDoorRows
import Derived.Test.YtnecafokkhhhhaaGreatDoorMA
import Derived.WalkSpells
import Derived.WalkLawsBesides
import Derived.RegionTactic
import Derived.BigRegion
import Derived.Handy
import Derived.Lib.Hide
import Derived.Deep.RegionWith
import Derived.StillTailTactics
import Derived.LoopTactic
import Derived.Laws.Bits64b
import Derived.ChangeKeysEq
import Derived.OwnWalk
namespace Go.Proofs.YtnecafokkhhhhaaGreatDoor
open Go Go.RowKit

/-- Word k of a set, as the program holds it. -/
def wd (s : BitVec 256) (k : Nat) : Int := ((s.extractLsb' (64 * k) 64).toNat : Int)
abbrev sv (s : BitVec 256) : Value := .agg #[.int .u64 (wd s 0), .int .u64 (wd s 1), .int .u64 (wd s 2), .int .u64 (wd s 3)]

theorem wd_nn (s : BitVec 256) (k : Nat) : 0 ≤ wd s k := Int.natCast_nonneg _
theorem wd_lt (s : BitVec 256) (k : Nat) : wd s k < 18446744073709551616 := by
  have := (s.extractLsb' (64 * k) 64).isLt
  unfold wd; omega
theorem wd_le (s : BitVec 256) (k : Nat) : wd s k ≤ 18446744073709551615 := by
  have := wd_lt s k; omega
theorem u64_bv (x : BitVec 64) : BitVec.ofInt 64 (x.toNat : Int) = x := by
  rw [BitVec.ofInt_natCast, BitVec.ofNat_toNat]; simp
theorem u64_wrap_bv (x : BitVec 64) : IntKind.u64.wrap (x.toNat : Int) = (x.toNat : Int) := by
  have := x.isLt
  rw [IntKind.wrap_u64]; omega
theorem bits_or_bv (x y : BitVec 64) : bits .or .u64 (x.toNat : Int) (y.toNat : Int) = ((x ||| y).toNat : Int) := by
  show IntKind.u64.wrap ((BitVec.ofInt 64 (x.toNat : Int) ||| BitVec.ofInt 64 (y.toNat : Int)).toNat : Int) = _
  rw [u64_bv, u64_bv, u64_wrap_bv]
theorem bits_and_bv (x y : BitVec 64) : bits .and .u64 (x.toNat : Int) (y.toNat : Int) = ((x &&& y).toNat : Int) := by
  show IntKind.u64.wrap ((BitVec.ofInt 64 (x.toNat : Int) &&& BitVec.ofInt 64 (y.toNat : Int)).toNat : Int) = _
  rw [u64_bv, u64_bv, u64_wrap_bv]
theorem bits_andNot_bv (x y : BitVec 64) : bits .andNot .u64 (x.toNat : Int) (y.toNat : Int) = ((x &&& ~~~y).toNat : Int) := by
  show IntKind.u64.wrap ((BitVec.ofInt 64 (x.toNat : Int) &&& ~~~(BitVec.ofInt 64 (y.toNat : Int))).toNat : Int) = _
  rw [u64_bv, u64_bv, u64_wrap_bv]
theorem bits_xor_bv (x y : BitVec 64) : bits .xor .u64 (x.toNat : Int) (y.toNat : Int) = ((x ^^^ y).toNat : Int) := by
  show IntKind.u64.wrap ((BitVec.ofInt 64 (x.toNat : Int) ^^^ (BitVec.ofInt 64 (y.toNat : Int))).toNat : Int) = _
  rw [u64_bv, u64_bv, u64_wrap_bv]
theorem wd_or (s t : BitVec 256) (k : Nat) : bits .or .u64 (wd s k) (wd t k) = wd (s ||| t) k := by
  unfold wd; rw [bits_or_bv]; congr 2; ext i; simp
theorem wd_and (s t : BitVec 256) (k : Nat) : bits .and .u64 (wd s k) (wd t k) = wd (s &&& t) k := by
  unfold wd; rw [bits_and_bv]; congr 2; ext i; simp
theorem wd_andNot (s t : BitVec 256) (k : Nat) (hk : k < 4) : bits .andNot .u64 (wd s k) (wd t k) = wd (s &&& ~~~t) k := by
  unfold wd; rw [bits_andNot_bv]; congr 2; ext i hi
  simp only [BitVec.getElem_and, BitVec.getElem_not, BitVec.getElem_extractLsb', BitVec.getLsbD_and, BitVec.getLsbD_not]
  have : 64 * k + i < 256 := by omega
  simp [this]
theorem wd_compl (s : BitVec 256) (k : Nat) (hk : k < 4) : bits .xor .u64 IntKind.u64.max (wd s k) = wd (~~~s) k := by
  have e : IntKind.u64.max = ((BitVec.allOnes 64).toNat : Int) := by decide
  unfold wd; rw [e, bits_xor_bv]; congr 2; ext i hi
  simp only [BitVec.getElem_xor, BitVec.getElem_extractLsb', BitVec.getLsbD_not, BitVec.getElem_allOnes]
  have : 64 * k + i < 256 := by omega
  simp [this]
theorem wd_ext {s t : BitVec 256} (h0 : wd s 0 = wd t 0) (h1 : wd s 1 = wd t 1) (h2 : wd s 2 = wd t 2) (h3 : wd s 3 = wd t 3) : s = t := by
  have key : ∀ k, wd s k = wd t k → ∀ i, i < 64 → s.getLsbD (64 * k + i) = t.getLsbD (64 * k + i) := by
    intro k h i hi
    have e : s.extractLsb' (64 * k) 64 = t.extractLsb' (64 * k) 64 := BitVec.eq_of_toNat_eq (by unfold wd at h; omega)
    have := congrArg (fun x : BitVec 64 => x.getLsbD i) e
    simpa [hi] using this
  apply BitVec.eq_of_getLsbD_eq
  intro i hi
  by_cases a : i < 64
  · have := key 0 h0 i a; simpa using this
  by_cases b : i < 128
  · have := key 1 h1 (i - 64) (by omega); rw [show 64 * 1 + (i - 64) = i by omega] at this; exact this
  by_cases c : i < 192
  · have := key 2 h2 (i - 128) (by omega); rw [show 64 * 2 + (i - 128) = i by omega] at this; exact this
  · have := key 3 h3 (i - 192) (by omega); rw [show 64 * 3 + (i - 192) = i by omega] at this; exact this
theorem sv_inj {s t : BitVec 256} : sv s = sv t ↔ s = t := by
  constructor
  · intro h
    simp at h
    exact wd_ext h.1 h.2.1 h.2.2.1 h.2.2.2
  · rintro rfl; rfl
theorem wd_zero (k : Nat) : wd 0#256 k = 0 := by
  have e : BitVec.extractLsb' (64 * k) 64 0#256 = 0#64 := by ext i; simp
  unfold wd; rw [e]; rfl
abbrev sv0 : Value := .agg #[.int .u64 0, .int .u64 0, .int .u64 0, .int .u64 0]
theorem sv_zero : sv 0#256 = sv0 := by simp [wd_zero]
/-- All bytes. -/
def full : BitVec 256 := ~~~0#256
/-- Four words make a set. -/
theorem wd_make (a b c d : Int) (ha : 0 ≤ a ∧ a ≤ 18446744073709551615) (hb : 0 ≤ b ∧ b ≤ 18446744073709551615) (hc : 0 ≤ c ∧ c ≤ 18446744073709551615) (hd : 0 ≤ d ∧ d ≤ 18446744073709551615) :
    ∃ s : BitVec 256, wd s 0 = a ∧ wd s 1 = b ∧ wd s 2 = c ∧ wd s 3 = d := by
  refine ⟨BitVec.ofNat 256 (a.toNat + 2 ^ 64 * (b.toNat + 2 ^ 64 * (c.toNat + 2 ^ 64 * d.toNat))), ?_, ?_, ?_, ?_⟩ <;>
  · unfold wd
    rw [BitVec.extractLsb'_toNat, BitVec.toNat_ofNat]
    simp only [Nat.shiftRight_eq_div_pow]
    omega
theorem bit_word (j : Nat) : IntKind.u64.wrap (2 ^ j) = (((1#64 <<< j : BitVec 64)).toNat : Int) := by
  rw [IntKind.wrap_u64, BitVec.toNat_shiftLeft, Nat.shiftLeft_eq]
  simp
theorem has_word (s : BitVec 256) (b : Int) (k : Nat) (h0 : 0 ≤ b) (hk : b / 64 = k) : (bits .and .u64 (wd s k) (IntKind.u64.wrap (2 ^ (b % 64).toNat)) != 0) = s.getLsbD b.toNat := by
  have hj : (b % 64).toNat < 64 := by omega
  have e : b.toNat = 64 * k + (b % 64).toNat := by omega
  rw [bit_word, e]
  generalize (b % 64).toNat = j at *
  unfold wd
  rw [bits_and_bv]
  generalize hx : s.extractLsb' (64 * k) 64 = x
  have e2 : s.getLsbD (64 * k + j) = x.getLsbD j := by rw [← hx]; simp [hj]
  rw [e2, Bool.eq_iff_iff]
  simp only [bne_iff_ne, ne_eq, Int.natCast_eq_zero]
  constructor
  · intro h
    cases hb : x.getLsbD j with
    | true => rfl
    | false =>
      exfalso; apply h
      have : x &&& 1#64 <<< j = 0#64 := by
        ext i hi
        simp only [BitVec.getElem_and, BitVec.getElem_shiftLeft, BitVec.getElem_zero]
        by_cases hij : i = j
        · subst hij; simp [← BitVec.getLsbD_eq_getElem, hb]
        · by_cases hlt : i < j
          · simp [hlt]
          · have : i - j ≠ 0 := by omega
            simp [hlt, this]
      rw [this]; rfl
  · intro h hz
    have hz' : x &&& 1#64 <<< j = 0#64 := BitVec.eq_of_toNat_eq hz
    have := congrArg (fun y : BitVec 64 => y.getLsbD j) hz'
    simp [hj] at this
    rw [BitVec.getLsbD_eq_getElem hj, this] at h
    cases h
theorem with_word (s : BitVec 256) (b : Int) (k : Nat) (h0 : 0 ≤ b) (hk : b / 64 = k) (h4 : k < 4) : bits .or .u64 (wd s k) (IntKind.u64.wrap (2 ^ (b % 64).toNat)) = wd (s ||| 1#256 <<< b.toNat) k := by
  have hj : (b % 64).toNat < 64 := by omega
  have e : b.toNat = 64 * k + (b % 64).toNat := by omega
  rw [bit_word, e]
  generalize (b % 64).toNat = j at *
  unfold wd
  rw [bits_or_bv]
  congr 2
  ext i hi
  simp only [BitVec.getElem_or, BitVec.getElem_shiftLeft, BitVec.getElem_extractLsb', BitVec.getLsbD_or, BitVec.getLsbD_shiftLeft, BitVec.getLsbD_one]
  congr 1
  have h1 : 64 * k + i < 256 := by omega
  by_cases hlt : i < j
  · have : 64 * k + i < 64 * k + j := by omega
    simp [hlt, this]
  · have : ¬ 64 * k + i < 64 * k + j := by omega
    have e3 : 64 * k + i - (64 * k + j) = i - j := by omega
    simp [hlt, h1, e3]
theorem with_other (s : BitVec 256) (b : Int) (k : Nat) (h0 : 0 ≤ b) (hk : b / 64 ≠ k) : wd (s ||| 1#256 <<< b.toNat) k = wd s k := by
  unfold wd
  congr 2
  ext i hi
  simp only [BitVec.getElem_extractLsb', BitVec.getLsbD_or, BitVec.getLsbD_shiftLeft, BitVec.getLsbD_one]
  have : ¬ (¬ 64 * k + i < b.toNat ∧ 64 * k + i - b.toNat = 0) := by omega
  by_cases h1 : 64 * k + i < b.toNat
  · simp [h1]
  · have h2 : ¬ 64 * k + i - b.toNat = 0 := fun h => this ⟨h1, h⟩
    simp [h2]
/-- All bytes below b. -/
def low (b : Int) : BitVec 256 := BitVec.ofNat 256 (2 ^ b.toNat - 1)
theorem low_bit (b : Int) (i : Nat) (h1 : b ≤ 256) : (low b).getLsbD i = decide (i < b.toNat) := by
  unfold low
  rw [BitVec.getLsbD_ofNat, Nat.testBit_two_pow_sub_one]
  by_cases h : i < b.toNat
  · have : i < 256 := by omega
    simp [h, this]
  · simp [h]
theorem low_word_lt (b : Int) (i k : Nat) (h1 : b ≤ 255) (hk : b / 64 = k) (hi : i < k) : wd (low b) i = 18446744073709551615 := by
  have e : (low b).extractLsb' (64 * i) 64 = BitVec.allOnes 64 := by
    ext j hj
    rw [BitVec.getElem_extractLsb', low_bit b _ (by omega), BitVec.getElem_allOnes]
    simp; omega
  unfold wd; rw [e]; rfl
theorem low_word_gt (b : Int) (i k : Nat) (h1 : b ≤ 255) (hk : b / 64 = k) (hi : k < i) : wd (low b) i = 0 := by
  have e : (low b).extractLsb' (64 * i) 64 = 0#64 := by
    ext j hj
    rw [BitVec.getElem_extractLsb', low_bit b _ (by omega), BitVec.getElem_zero]
    simp; omega
  unfold wd; rw [e]; rfl
theorem low_word_eq (b : Int) (k : Nat) (h0 : 0 ≤ b) (h1 : b ≤ 255) (hk : b / 64 = k) : wd (low b) k = IntKind.u64.wrap (IntKind.u64.wrap (2 ^ (b % 64).toNat) - 1) := by
  have hj : (b % 64).toNat < 64 := by omega
  have hb : b.toNat = 64 * k + (b % 64).toNat := by omega
  have e : (low b).extractLsb' (64 * k) 64 = BitVec.ofNat 64 (2 ^ (b % 64).toNat - 1) := by
    ext j hj2
    rw [BitVec.getElem_extractLsb', low_bit b _ (by omega), ← BitVec.getLsbD_eq_getElem, BitVec.getLsbD_ofNat, Nat.testBit_two_pow_sub_one]
    rw [hb]; simp [hj2]
  have hp : (2 : Nat) ^ (b % 64).toNat < 2 ^ 64 := Nat.pow_lt_pow_right (by omega) hj
  have hp0 : 0 < (2 : Nat) ^ (b % 64).toNat := Nat.pow_pos (by omega)
  have ei : ((2 : Int) ^ (b % 64).toNat) = ((2 ^ (b % 64).toNat : Nat) : Int) := by simp
  unfold wd; rw [e, BitVec.toNat_ofNat, IntKind.wrap_u64, IntKind.wrap_u64, ei]
  generalize 2 ^ (b % 64).toNat = p at *
  omega
/-- All bytes from lo to hi, both too. -/
def rng (lo hi : Int) : BitVec 256 := (low hi ||| 1#256 <<< hi.toNat) &&& ~~~(low lo)
theorem rng_bit (lo hi : Int) (i : Nat) (_h0 : 0 ≤ lo) (h1 : lo ≤ 255) (g0 : 0 ≤ hi) (g1 : hi ≤ 255) : (rng lo hi).getLsbD i = decide (lo ≤ i ∧ (i : Int) ≤ hi) := by
  unfold rng
  rw [BitVec.getLsbD_and, BitVec.getLsbD_or, BitVec.getLsbD_not, low_bit _ _ (by omega), low_bit _ _ (by omega), BitVec.getLsbD_shiftLeft, BitVec.getLsbD_one]
  by_cases a : i < 256
  · by_cases b : (lo ≤ i ∧ (i : Int) ≤ hi)
    · rw [decide_eq_true b]
      by_cases c : i < hi.toNat
      · simp [a, c]; omega
      · have : i - hi.toNat = 0 := by omega
        simp [a, c, this]; omega
    · rw [decide_eq_false b]
      by_cases c : i < hi.toNat
      · simp [a, c]; omega
      · by_cases d : i - hi.toNat = 0
        · simp [a, c, d]; omega
        · simp [a, c, d]
  · have : ¬ (lo ≤ i ∧ (i : Int) ≤ hi) := by omega
    simp [a, this]
/-- Is byte i in the set? -/
abbrev mem (s : BitVec 256) (i : Nat) : Bool := s.getLsbD i
end Go.Proofs.YtnecafokkhhhhaaGreatDoor
namespace Go.Proofs.YtnecafokkhhhhaaGreatDoor
open Go Go.RowKit

theorem ret_v {a b : Value} (h : a = b) : Ending.returned a = .returned b := by rw [h]

set_option maxHeartbeats 1000000 in
theorem union_any (s t : BitVec 256) (w : World) :
    Calls Tryz.prog 94 #[sv s, sv t] w fun e w' => e = .returned (sv (s ||| t)) ∧ Below w.heap.size w w' := by
  go_enter Tryz.func94, Tryz.ntmps94
  go_wp2
  refine wp_loop_rounds 5 ?_
  iterate 4 (rw [rounds_succ]; go_wp2; go_region; go_wp2)
  rw [rounds_succ]; go_wp2
  refine bodyPost_ret (v := sv (s ||| t)) ?_ rfl ⟨rfl, by go_grown⟩
  simp [results, Tryz.results94, go_sem]
  simp [wd_or]

set_option maxHeartbeats 1000000 in
theorem inter_any (s t : BitVec 256) (w : World) :
    Calls Tryz.prog 96 #[sv s, sv t] w fun e w' => e = .returned (sv (s &&& t)) ∧ Below w.heap.size w w' := by
  go_enter Tryz.func96, Tryz.ntmps96
  go_wp2
  refine wp_loop_rounds 5 ?_
  iterate 4 (rw [rounds_succ]; go_wp2; go_region; go_wp2)
  rw [rounds_succ]; go_wp2
  refine bodyPost_ret (v := sv (s &&& t)) ?_ rfl ⟨rfl, by go_grown⟩
  simp [results, Tryz.results96, go_sem]
  simp [wd_and]

set_option maxHeartbeats 1000000 in
theorem minus_any (s t : BitVec 256) (w : World) :
    Calls Tryz.prog 95 #[sv s, sv t] w fun e w' => e = .returned (sv (s &&& ~~~t)) ∧ Below w.heap.size w w' := by
  go_enter Tryz.func95, Tryz.ntmps95
  go_wp2
  refine wp_loop_rounds 5 ?_
  iterate 4 (rw [rounds_succ]; go_wp2; go_region; go_wp2)
  rw [rounds_succ]; go_wp2
  refine bodyPost_ret (v := sv (s &&& ~~~t)) ?_ rfl ⟨rfl, by go_grown⟩
  simp [results, Tryz.results95, go_sem]
  simp [wd_andNot]

set_option maxHeartbeats 1000000 in
theorem compl_any (s : BitVec 256) (w : World) :
    Calls Tryz.prog 77 #[sv s] w fun e w' => e = .returned (sv (~~~s)) ∧ Below w.heap.size w w' := by
  go_enter Tryz.func77, Tryz.ntmps77
  go_wp2
  refine wp_loop_rounds 5 ?_
  iterate 4 (rw [rounds_succ]; go_wp2; try go_region; go_wp2)
  rw [rounds_succ]; go_wp2
  refine bodyPost_ret (v := sv (~~~s)) ?_ rfl ⟨rfl, by go_grown⟩
  simp [results, Tryz.results77, go_sem]
  simp [wd_compl]
theorem bit_any (b : Int) (w : World) (h0 : 0 ≤ b) (h1 : b ≤ 255) :
    Calls Tryz.prog 122 #[.int .u8 b] w fun e w' => e = .returned (.int .u64 (IntKind.u64.wrap (2 ^ (b % 64).toNat))) ∧ w = w' := by
  go_enter Tryz.func122, Tryz.ntmps122
  go_wp2
  go_ret
  exact ⟨rfl, rfl⟩
set_option maxHeartbeats 1000000 in
theorem has_any (s : BitVec 256) (b : Int) (w : World) (h0 : 0 ≤ b) (h1 : b ≤ 255) :
    Calls Tryz.prog 109 #[sv s, .int .u8 b] w fun e w' => e = .returned (.bool (s.getLsbD b.toNat)) ∧ Below w.heap.size w w' := by
  have hc : b / 64 = 0 ∨ b / 64 = 1 ∨ b / 64 = 2 ∨ b / 64 = 3 := by omega
  rcases hc with hc | hc | hc | hc
  all_goals
    go_enter Tryz.func109, Tryz.ntmps109
    go_wp2_with fail
    refine wp_region_stab (fun _ => none) (by kernel_rfl) (by kernel_rfl) (fun _ _ h => by cases h) (fun hex => ?_)
    iterate 9
      (refine wpS_one (A := ?_) hex rfl rfl (by simp) ?_ ?_ ?_
       rotate_left 2
       · intro w' hC K hK
         obtain ⟨hcell, hfrz⟩ := bcell hC.1.ext
         go_wp2_with (go_at_call 122; refine (bit_any _ _ (by omega) (by omega)).mono ?_; rintro e w' ⟨rfl, rfl⟩)
         refine hK _ ?_
         first | exact Gr.refl _ _ | exact Gr.of_ext (by assumption) hC.1.1.size
       rotate_left 1
       · rfl
       clear hex; intro hex)
    refine wpS_nil fun w1 hE => ?_
    replace hE := hE.1.ext
    obtain ⟨hcell_w1, hfrz_w1⟩ := bcell hE
    go_wp2
    go_ret
    refine ⟨ret_v ?_, (Below.alloc (Below.refl _ _) (Nat.le_refl _) _).trans (hE.mono (by simp))⟩
    simp [has_word s b _ h0 hc]
set_option maxHeartbeats 1000000 in
theorem with_any (s : BitVec 256) (b : Int) (w : World) (h0 : 0 ≤ b) (h1 : b ≤ 255) :
    Calls Tryz.prog 112 #[sv s, .int .u8 b] w fun e w' => e = .returned (sv (s ||| 1#256 <<< b.toNat)) ∧ Below w.heap.size w w' := by
  have hc : b / 64 = 0 ∨ b / 64 = 1 ∨ b / 64 = 2 ∨ b / 64 = 3 := by omega
  rcases hc with hc | hc | hc | hc
  all_goals
    have o0 := with_other s b 0 h0
    have o1 := with_other s b 1 h0
    have o2 := with_other s b 2 h0
    have o3 := with_other s b 3 h0
    have wk := fun k => with_word s b k h0
    have HO := Lib.hid (And.intro o0 (And.intro o1 (And.intro o2 (And.intro o3 wk))))
    clear o0 o1 o2 o3 wk
    go_enter Tryz.func112, Tryz.ntmps112
    go_wp2
    refine D.wp_region_tail (fun _ => none) 8 (by kernel_rfl) (by kernel_rfl) (fun _ _ h => by cases h) (fun hex => ?_)
    simp only [List.take_succ_cons, List.take_zero, List.drop_succ_cons, List.drop_zero]
    iterate 8
      (refine D.wpS_one (A := ?_) hex rfl rfl (by simp) ?_ ?_ ?_
       rotate_left 2
       · intro w' hC K hK
         obtain ⟨nq, rfl⟩ := hC.1
         go_wp2_with (go_at_call 122; refine (bit_any _ _ (by omega) (by omega)).mono ?_; rintro e w' ⟨rfl, rfl⟩)
         refine hK _ ?_
         first | exact D.Gr.refl _ _ | exact ⟨_, rfl⟩
       rotate_left 1
       · rfl
       clear hex; intro hex)
    refine D.wpS_nil fun _ hE => ?_
    obtain ⟨nq, rfl⟩ := hE.1
    clear hE hex
    go_wp2
    refine bodyPost_ret (v := sv (s ||| 1#256 <<< b.toNat)) ?_ rfl ⟨rfl, by (repeat' (first | (with_reducible exact Below.refl _ _) | (with_reducible assumption) | (with_reducible refine below_drewN ?_ _) | (with_reducible refine Below.alloc ?_ ?_ _) | (with_reducible refine Below.drew ?_) | (with_reducible refine Below.setCell ?_ ?_ _) | (with_reducible refine Below.trans ?_ (Below.mono (by with_reducible assumption) ?_)) | go_size))⟩
    simp [results, Tryz.results112, go_sem]
    obtain ⟨o0, o1, o2, o3, wk⟩ := HO.out
    first
    | exact ⟨wk 0 hc (by omega), (o1 (by omega)).symm, (o2 (by omega)).symm, (o3 (by omega)).symm⟩
    | exact ⟨(o0 (by omega)).symm, wk 1 hc (by omega), (o2 (by omega)).symm, (o3 (by omega)).symm⟩
    | exact ⟨(o0 (by omega)).symm, (o1 (by omega)).symm, wk 2 hc (by omega), (o3 (by omega)).symm⟩
    | exact ⟨(o0 (by omega)).symm, (o1 (by omega)).symm, (o2 (by omega)).symm, wk 3 hc (by omega)⟩
end Go.Proofs.YtnecafokkhhhhaaGreatDoor
namespace Go.Proofs.YtnecafokkhhhhaaGreatDoor
open Go Go.RowKit
theorem compl_zero (w : World) :
    Calls Tryz.prog 77 #[sv0] w fun e w' => e = .returned (sv full) ∧ Below w.heap.size w w' := by
  rw [← sv_zero]; exact compl_any _ _
set_option maxHeartbeats 1000000 in
theorem all_any (w : World) :
    Calls Tryz.prog 120 #[] w fun e w' => e = .returned (sv full) ∧ Below w.heap.size w w' := by
  go_enter Tryz.func120, Tryz.ntmps120
  go_wp2_with (go_at_call 77; refine (compl_zero _).mono ?_; rintro e w' ⟨rfl, hb⟩; obtain ⟨hc, hf⟩ := bcell hb)
  refine bodyPost_ret (v := sv full) ?_ rfl ⟨rfl, by (repeat' (first | (with_reducible exact Below.refl _ _) | (with_reducible assumption) | (with_reducible refine below_drewN ?_ _) | (with_reducible refine Below.alloc ?_ ?_ _) | (with_reducible refine Below.drew ?_) | (with_reducible refine Below.setCell ?_ ?_ _) | (with_reducible refine Below.trans ?_ (Below.mono (by with_reducible assumption) ?_)) | go_size))⟩
  simp [results, Tryz.results120, go_sem, hc]
set_option maxHeartbeats 1000000 in
theorem below_any (b : Int) (w : World) (h0 : 0 ≤ b) (h1 : b ≤ 255) :
    Calls Tryz.prog 113 #[.int .u8 b] w fun e w' => e = .returned (sv (low b)) ∧ Below w.heap.size w w' := by
  have hc : b / 64 = 0 ∨ b / 64 = 1 ∨ b / 64 = 2 ∨ b / 64 = 3 := by omega
  have o0 := fun i k => low_word_lt b i k h1
  have o1 := fun i k => low_word_gt b i k h1
  have o2 := fun k => low_word_eq b k h0 h1
  have HO := Lib.hid (And.intro o0 (And.intro o1 o2))
  clear o0 o1 o2
  rcases hc with hc | hc | hc | hc
  all_goals
    go_enter Tryz.func113, Tryz.ntmps113
    go_wp2
    refine wp_loop_rounds 4 ?_
    repeat (rw [rounds_succ]; go_wp2_with (go_at_call 122; refine (bit_any _ _ (by omega) (by omega)).mono ?_; rintro e w' ⟨rfl, rfl⟩))
    refine bodyPost_ret (v := sv (low b)) ?_ rfl ⟨rfl, by (repeat' (first | (with_reducible exact Below.refl _ _) | (with_reducible assumption) | (with_reducible refine below_drewN ?_ _) | (with_reducible refine Below.alloc ?_ ?_ _) | (with_reducible refine Below.drew ?_) | (with_reducible refine Below.setCell ?_ ?_ _) | (with_reducible refine Below.trans ?_ (Below.mono (by with_reducible assumption) ?_)) | go_size))⟩
    simp [results, Tryz.results113, go_sem]
    obtain ⟨o0, o1, o2⟩ := HO.out
    simp [o0 _ _ hc, o1 _ _ hc, o2 _ hc]
set_option maxHeartbeats 1000000 in
theorem range_any (lo hi : Int) (w : World) (h0 : 0 ≤ lo) (h1 : lo ≤ 255) (g0 : 0 ≤ hi) (g1 : hi ≤ 255) :
    Calls Tryz.prog 105 #[.int .u8 lo, .int .u8 hi] w fun e w' => e = .returned (sv (rng lo hi)) ∧ Below w.heap.size w w' := by
  go_enter Tryz.func105, Tryz.ntmps105
  go_wp2_with fail
  refine (below_any _ _ g0 g1).mono ?_; rintro e w1 ⟨rfl, hb1⟩
  obtain ⟨hc1, hf1⟩ := bcell hb1
  have hs1 := hb1.size
  try simp at hs1
  have hz1_0 : w.heap.size < w1.heap.size := by omega
  go_wp2_with fail
  refine (with_any _ _ _ g0 g1).mono ?_; rintro e w2 ⟨rfl, hb2⟩
  obtain ⟨hc2, hf2⟩ := bcell hb2
  have hs2 := hb2.size
  try simp at hs2
  have hz2_0 : w.heap.size < w2.heap.size := by omega
  go_wp2_with fail
  refine (below_any _ _ h0 h1).mono ?_; rintro e w3 ⟨rfl, hb3⟩
  obtain ⟨hc3, hf3⟩ := bcell hb3
  have hs3 := hb3.size
  try simp at hs3
  have hz3_0 : w.heap.size < w3.heap.size := by omega
  go_wp2_with fail
  refine (minus_any _ _ _).mono ?_; rintro e w4 ⟨rfl, hb4⟩
  obtain ⟨hc4, hf4⟩ := bcell hb4
  have hs4 := hb4.size
  try simp at hs4
  have hz4_0 : w.heap.size < w4.heap.size := by omega
  go_wp2
  refine bodyPost_ret (v := sv (rng lo hi)) ?_ rfl ⟨rfl, by (repeat' (first | (with_reducible exact Below.refl _ _) | (with_reducible assumption) | (with_reducible refine below_drewN ?_ _) | (with_reducible refine Below.alloc ?_ ?_ _) | (with_reducible refine Below.drew ?_) | (with_reducible refine Below.setCell ?_ ?_ _) | (with_reducible refine Below.trans ?_ (Below.mono (by with_reducible assumption) ?_)) | go_size))⟩
  simp [results, Tryz.results105, go_sem, rng, *]
end Go.Proofs.YtnecafokkhhhhaaGreatDoor
namespace Go.Proofs.YtnecafokkhhhhaaGreatDoor
open Go Go.RowKit
/-- The set of these bytes. -/
def ofl (l : List UInt8) : BitVec 256 := l.foldl (fun s x => s ||| 1#256 <<< x.toNat) 0#256
theorem ofl_take (l : List UInt8) (k : Nat) (h : k < l.length) : ofl (l.take (k + 1)) = ofl (l.take k) ||| 1#256 <<< ((nth l k).toNat : Int).toNat := by
  unfold ofl
  rw [List.take_succ_eq_append_getElem h, List.foldl_append]
  simp [nth_eq h]
abbrev svs (s : BitVec 256) : Array Value := #[.int .u64 (wd s 0), .int .u64 (wd s 1), .int .u64 (wd s 2), .int .u64 (wd s 3)]
set_option maxHeartbeats 1000000 in
theorem of_any (v : Value) (l : List UInt8) (w : World) (hv : Bytes w v l) :
    Calls Tryz.prog 104 #[v] w fun e w' => e = .returned (sv (ofl l)) ∧ Below w.heap.size w w' := by
  obtain ⟨hlen, ⟨rfl, a, cap, rfl⟩ | ⟨b, o, cap, rfl, hcap, hcap2, hpos, hb, hcells⟩⟩ := hv.open
  · go_enter Tryz.func104, Tryz.ntmps104
    go_wp2
    refine wp_loop_rounds 1 ?_
    rw [rounds_succ]
    go_wp2
    refine bodyPost_ret (v := sv (ofl [])) ?_ rfl ⟨rfl, by (repeat' (first | (with_reducible exact Below.refl _ _) | (with_reducible assumption) | (with_reducible refine below_drewN ?_ _) | (with_reducible refine Below.alloc ?_ ?_ _) | (with_reducible refine Below.drew ?_) | (with_reducible refine Below.setCell ?_ ?_ _) | (with_reducible refine Below.trans ?_ (Below.mono (by with_reducible assumption) ?_)) | go_size))⟩
    simp [results, Tryz.results104, go_sem, ofl, wd_zero]
  · have HC := Lib.hid hcells
    clear hcells
    go_enter Tryz.func104, Tryz.ntmps104
    go_wp2
    go_loopw [8] (fun i wr => ∃ k : Nat, k ≤ l.length ∧ i = .int .i64 k ∧ Blk wr w.heap.size #[.int .u64 0, .int .u64 0, .int .u64 0, .int .u64 0] 36 ∧ Blk wr (w.heap.size + 1) (svs (ofl (l.take k))) 36 ∧ Below w.heap.size w wr) (fun i _ => l.length - (intOf i).toNat)
    case atStart => exact ⟨0, Nat.zero_le _, rfl, (Blk.new w _ _).alloc _, by simpa [svs, ofl, wd_zero] using Blk.new (w.alloc _) _ _, by (repeat' (first | (with_reducible exact Below.refl _ _) | (with_reducible assumption) | (with_reducible refine below_drewN ?_ _) | (with_reducible refine Below.alloc ?_ ?_ _) | (with_reducible refine Below.drew ?_) | (with_reducible refine Below.setCell ?_ ?_ _) | (with_reducible refine Below.trans ?_ (Below.mono (by with_reducible assumption) ?_)) | go_size))⟩
    case round =>
      obtain ⟨k, hk, rfl, hB0, hB1, hbel⟩ := hrel
      obtain ⟨c0, c1, c2, c3⟩ := hB1.cells4
      by_cases hlt : k < l.length
      · have hsrc : wr.cell? ⟨b, o + k, none⟩ = some (ub (nth l k)) := by rw [hbel.cell (p := ⟨b, o + k, none⟩) hb]; exact HC.out k hlt
        have hr0 := nth_lo l k
        have hr1 := nth_hi l k
        have HT := Lib.hid (ofl_take l k hlt)
        go_wp2_with fail
        refine (with_any _ _ _ hr0 hr1).mono ?_; rintro e w2 ⟨rfl, hb2⟩
        have hB0' := hB0.ext hb2
        have hB1' := hB1.ext hb2
        have hbel2 : Below w.heap.size w w2 := hbel.trans (hb2.mono hbel.size)
        clear c0 c1 c2 c3 hsrc hB0 hB1
        obtain ⟨c0, c1, c2, c3⟩ := hB1'.cells4
        have hfr := hB1'.free
        go_wp2
        go_roundw
        case rel => exact ⟨k + 1, by omega, by go_num, hB0'.other4 (by omega) _ _ _ _, by rw [HT.out]; exact hB1'.store4 _ _ _ _, by (repeat' (first | (with_reducible exact Below.refl _ _) | (with_reducible assumption) | (with_reducible refine below_drewN ?_ _) | (with_reducible refine Below.alloc ?_ ?_ _) | (with_reducible refine Below.drew ?_) | (with_reducible refine Below.setCell ?_ ?_ _) | (with_reducible refine Below.trans ?_ (Below.mono (by with_reducible assumption) ?_)) | go_size))⟩
        case measure => simp [intOf]; omega
      · obtain rfl : k = l.length := by omega
        obtain ⟨d0, d1, d2, d3⟩ := hB0.cells4
        have hfr := hB0.free
        go_wp2
        refine bodyPost_ret (v := sv (ofl l)) ?_ rfl ⟨rfl, by (repeat' (first | (with_reducible exact Below.refl _ _) | (with_reducible assumption) | (with_reducible refine below_drewN ?_ _) | (with_reducible refine Below.alloc ?_ ?_ _) | (with_reducible refine Below.drew ?_) | (with_reducible refine Below.setCell ?_ ?_ _) | (with_reducible refine Below.trans ?_ (Below.mono (by with_reducible assumption) ?_)) | go_size))⟩
        simp [results, Tryz.results104, go_sem, *]
/-- The set of all bytes of these spans. -/
def ofs (l : List (UInt8 × UInt8)) : BitVec 256 := l.foldl (fun s p => s ||| rng (p.1.toNat : Int) (p.2.toNat : Int)) 0#256
theorem ofs_take (l : List (UInt8 × UInt8)) (k : Nat) (h : k < l.length) : ofs (l.take (k + 1)) = ofs (l.take k) ||| rng ((slo l k).toNat : Int) ((shi l k).toNat : Int) := by
  unfold ofs
  rw [List.take_succ_eq_append_getElem h, List.foldl_append]
  simp [slo, shi, List.getD_eq_getElem?_getD, h]
end Go.Proofs.YtnecafokkhhhhaaGreatDoor
namespace Go.Proofs.YtnecafokkhhhhaaGreatDoor
open Go Go.RowKit

theorem and_split (k a b c d : Nat) (ha : a < 2 ^ k) (hc : c < 2 ^ k) : (2 ^ k * b + a) &&& (2 ^ k * d + c) = 2 ^ k * (b &&& d) + (a &&& c) := by
  have hac : a &&& c < 2 ^ k := Nat.and_lt_two_pow _ hc
  apply Nat.eq_of_testBit_eq
  intro j
  rw [Nat.testBit_and, Nat.testBit_two_pow_mul_add _ ha, Nat.testBit_two_pow_mul_add _ hc, Nat.testBit_two_pow_mul_add _ hac]
  by_cases h : j < k <;> simp [h, Nat.testBit_and]
/-- The sum of the lowest n digits to a base. -/
def dsum (B : Nat) : Nat → Nat → Nat
  | 0, _ => 0
  | n + 1, y => y % B + dsum B n (y / B)
def mask (h : Nat) : Nat → Nat
  | 0 => 0
  | n + 1 => 2 ^ (2 * h) * mask h n + (2 ^ h - 1)
def pstep (h n x : Nat) : Nat := (x / 2 ^ h &&& mask h n) + (x &&& mask h n)
theorem and_mask (h n y : Nat) : y &&& mask h (n + 1) = 2 ^ (2 * h) * (y / 2 ^ (2 * h) &&& mask h n) + y % 2 ^ h := by
  have hp : 0 < 2 ^ (2 * h) := Nat.pow_pos (by omega)
  have hle : 2 ^ h ≤ 2 ^ (2 * h) := Nat.pow_le_pow_right (by omega) (by omega)
  have hq : 0 < 2 ^ h := Nat.pow_pos (by omega)
  have e : y = 2 ^ (2 * h) * (y / 2 ^ (2 * h)) + y % 2 ^ (2 * h) := (Nat.div_add_mod _ _).symm
  have key := and_split (2 * h) (y % 2 ^ (2 * h)) (y / 2 ^ (2 * h)) (2 ^ h - 1) (mask h n) (Nat.mod_lt _ hp) (by omega)
  rw [← e] at key
  rw [mask, key, Nat.and_two_pow_sub_one_eq_mod]
  congr 1
  rw [Nat.mod_mod_of_dvd _ (Nat.pow_dvd_pow 2 (by omega))]
theorem pstep_succ (h n x : Nat) : pstep h (n + 1) x = 2 ^ (2 * h) * pstep h n (x / 2 ^ (2 * h)) + ((x / 2 ^ h) % 2 ^ h + x % 2 ^ h) := by
  unfold pstep
  rw [and_mask, and_mask, Nat.div_div_eq_div_mul, Nat.div_div_eq_div_mul, Nat.mul_comm (2 ^ h), Nat.mul_add]
  omega
theorem dsum_pstep (h : Nat) (hh : 0 < h) : ∀ n x, dsum (2 ^ (2 * h)) n (pstep h n x) = dsum (2 ^ h) (2 * n) x
  | 0, _ => rfl
  | n + 1, x => by
    have hq : 2 ≤ 2 ^ h := by have := Nat.pow_le_pow_right (show 1 ≤ 2 by omega) hh; simpa using this
    have e2 : 2 ^ (2 * h) = 2 ^ h * 2 ^ h := by rw [← Nat.pow_add]; congr 1; omega
    have h1 := Nat.mod_lt (x / 2 ^ h) (show 2 ^ h > 0 by omega)
    have h2 := Nat.mod_lt x (show 2 ^ h > 0 by omega)
    have hd : (x / 2 ^ h) % 2 ^ h + x % 2 ^ h < 2 ^ (2 * h) := by
      rw [e2]
      have := Nat.mul_le_mul hq (Nat.le_refl (2 ^ h))
      omega
    have ih := dsum_pstep h hh n (x / 2 ^ (2 * h))
    rw [show 2 * (n + 1) = 2 * n + 1 + 1 by omega, pstep_succ]
    simp only [dsum]
    rw [Nat.mul_add_mod, Nat.mod_eq_of_lt hd, Nat.mul_add_div (by omega), Nat.div_eq_of_lt hd, Nat.add_zero, ih, Nat.div_div_eq_div_mul, ← e2]
    omega
/-- All of the lowest n digits to base 16 are 4 at most. -/
def small : Nat → Nat → Prop
  | 0, z => z = 0
  | n + 1, z => z % 16 ≤ 4 ∧ small n (z / 16)
def fold3 (n z : Nat) : Nat := (z / 16 + z) &&& mask 4 n
theorem fold3_eq : ∀ n z, small (2 * n) z → fold3 n z = pstep 4 n z
  | 0, z, _ => by simp [fold3, pstep, mask]
  | n + 1, z, hz => by
    rw [show 2 * (n + 1) = 2 * n + 1 + 1 by omega] at hz
    obtain ⟨h1, h2, h3⟩ := hz
    rw [Nat.div_div_eq_div_mul] at h3
    have ih := fold3_eq n (z / 256) h3
    have h4 : z / 256 % 16 ≤ 4 := by
      cases n with
      | zero => have : z / 256 = 0 := h3; omega
      | succ m => rw [show 2 * (m + 1) = 2 * m + 1 + 1 by omega] at h3; exact h3.1
    rw [pstep_succ]
    unfold fold3 at *
    rw [and_mask]
    simp only [Nat.reduceMul, Nat.reducePow] at *
    rw [← ih]
    have e0 : z / 16 / 16 = z / 256 := Nat.div_div_eq_div_mul ..
    have e1 : (z / 16 + z) / 256 = z / 256 / 16 + z / 256 := by omega
    have e2 : (z / 16 + z) % 16 = z / 16 % 16 + z % 16 := by omega
    rw [e1, e2]
theorem pstep2_small : ∀ n x, small n (pstep 2 n (pstep 1 (2 * n) x))
  | 0, x => by simp [small, pstep, mask]
  | n + 1, x => by
    have ih := pstep2_small n (x / 16)
    rw [pstep_succ]
    have e : pstep 1 (2 * (n + 1)) x / 2 ^ (2 * 2) = pstep 1 (2 * n) (x / 16) := by
      rw [show 2 * (n + 1) = 2 * n + 1 + 1 by omega, pstep_succ, pstep_succ, Nat.div_div_eq_div_mul]
      simp only [Nat.reduceMul, Nat.reducePow]
      omega
    rw [e]
    have e2 : pstep 1 (2 * (n + 1)) x = 16 * pstep 1 (2 * n) (x / 16) + (4 * ((x / 4 / 2) % 2 + (x / 4) % 2) + ((x / 2) % 2 + x % 2)) := by
      rw [show 2 * (n + 1) = 2 * n + 1 + 1 by omega, pstep_succ, pstep_succ, Nat.div_div_eq_div_mul]
      simp only [Nat.reduceMul, Nat.reducePow]
      omega
    rw [e2]
    generalize pstep 1 (2 * n) (x / 16) = y at *
    have hp : (x / 4 / 2) % 2 + (x / 4) % 2 ≤ 2 := by omega
    have hq : (x / 2) % 2 + x % 2 ≤ 2 := by omega
    generalize (x / 4 / 2) % 2 + (x / 4) % 2 = p at *
    generalize (x / 2) % 2 + x % 2 = q at *
    simp only [Nat.reduceMul, Nat.reducePow]
    have e4 : (16 * y + (4 * p + q)) / 4 % 4 = p := by omega
    have e5 : (16 * y + (4 * p + q)) % 4 = q := by omega
    rw [e4, e5]
    clear e4 e5
    unfold small
    exact ⟨by rw [Nat.mul_add_mod]; exact Nat.le_trans (Nat.mod_le _ _) (by omega), by rw [Nat.mul_add_div (by omega), Nat.div_eq_of_lt (by omega : p + q < 16)]; exact ih⟩
theorem small_le : ∀ n z, small n z → dsum 16 n z ≤ 4 * n
  | 0, _, _ => Nat.le_refl _
  | n + 1, z, h => by
    have := small_le n (z / 16) h.2
    have := h.1
    simp only [dsum]; omega
theorem small_bound : ∀ n z, small n z → 15 * z + 4 ≤ 4 * 16 ^ n
  | 0, z, h => by have h : z = 0 := h; subst h; simp
  | n + 1, z, h => by
    have := small_bound n (z / 16) h.2
    have := h.1
    rw [Nat.pow_succ]; omega
/-- How many of the lowest n bits are 1. -/
def ones (n x : Nat) : Nat := dsum 2 n x
theorem ones_le : ∀ n x, ones n x ≤ n
  | 0, _ => Nat.le_refl _
  | n + 1, x => by
    have := ones_le n (x / 2)
    unfold ones at *
    simp only [dsum]; omega
theorem pstep_lt (h n x : Nat) (hh : 0 < h) : pstep h n x < 2 ^ (2 * h * n) := by
  induction n generalizing x with
  | zero => simp [pstep, mask]
  | succ n ih =>
    rw [pstep_succ]
    have := ih (x / 2 ^ (2 * h))
    have hq : 2 ≤ 2 ^ h := by have := Nat.pow_le_pow_right (show 1 ≤ 2 by omega) hh; simpa using this
    have e2 : 2 ^ (2 * h) = 2 ^ h * 2 ^ h := by rw [← Nat.pow_add]; congr 1; omega
    have h1 := Nat.mod_lt (x / 2 ^ h) (show 2 ^ h > 0 by omega)
    have h2 := Nat.mod_lt x (show 2 ^ h > 0 by omega)
    have h3 := Nat.mul_le_mul hq (Nat.le_refl (2 ^ h))
    rw [Nat.mul_add, Nat.pow_add, Nat.mul_one, Nat.mul_comm]
    have : 2 ^ (2 * h) * (pstep h n (x / 2 ^ (2 * h)) + 1) ≤ 2 ^ (2 * h) * 2 ^ (2 * h * n) := Nat.mul_le_mul_left _ this
    rw [Nat.mul_add, Nat.mul_one] at this
    rw [Nat.mul_comm (2 ^ (2 * h * n))]
    rw [Nat.mul_comm (pstep h n (x / 2 ^ (2 * h)))]
    omega
theorem fold1 (a0 a1 a2 a3 a4 a5 a6 a7 t : Nat) (hs : a0 + a1 + a2 + a3 + a4 + a5 + a6 + a7 ≤ 64) (ht : t = a0 + 256 * a1 + 65536 * a2 + 16777216 * a3 + 4294967296 * a4 + 1099511627776 * a5 + 281474976710656 * a6 + 72057594037927936 * a7) :
    (t + t / 256) % 18446744073709551616 = (a0 + a1) + 256 * (a1 + a2) + 65536 * (a2 + a3) + 16777216 * (a3 + a4) + 4294967296 * (a4 + a5) + 1099511627776 * (a5 + a6) + 281474976710656 * (a6 + a7) + 72057594037927936 * a7 := by
  have d : t / 256 = a1 + 256 * a2 + 65536 * a3 + 16777216 * a4 + 4294967296 * a5 + 1099511627776 * a6 + 281474976710656 * a7 := by subst ht; omega
  rw [d, Nat.mod_eq_of_lt (by omega)]; omega
theorem fold2 (a0 a1 a2 a3 a4 a5 a6 a7 u : Nat) (hs : a0 + a1 + a2 + a3 + a4 + a5 + a6 + a7 ≤ 64)
    (hu : u = (a0 + a1) + 256 * (a1 + a2) + 65536 * (a2 + a3) + 16777216 * (a3 + a4) + 4294967296 * (a4 + a5) + 1099511627776 * (a5 + a6) + 281474976710656 * (a6 + a7) + 72057594037927936 * a7) :
    ∃ r, (u + u / 65536) % 18446744073709551616 = (a0 + a1 + a2 + a3) + 256 * (a1 + a2 + a3 + a4) + 65536 * (a2 + a3 + a4 + a5) + 16777216 * (a3 + a4 + a5 + a6) + 4294967296 * (a4 + a5 + a6 + a7) + 1099511627776 * r ∧ r < 8388608 := by
  have d : u / 65536 = (a2 + a3) + 256 * (a3 + a4) + 65536 * (a4 + a5) + 16777216 * (a5 + a6) + 4294967296 * (a6 + a7) + 1099511627776 * a7 := by subst hu; omega
  refine ⟨(a5 + a6 + a7) + 256 * (a6 + a7) + 65536 * a7, ?_, by omega⟩
  rw [d, Nat.mod_eq_of_lt (by omega)]; omega
theorem fold3' (b0 b1 b2 b3 b4 r v : Nat) (hb : b0 + b4 ≤ 64) (h1 : b1 ≤ 64) (h2 : b2 ≤ 64) (h3 : b3 ≤ 64) (hr : r < 8388608) (hv : v = b0 + 256 * b1 + 65536 * b2 + 16777216 * b3 + 4294967296 * b4 + 1099511627776 * r) :
    (v + v / 4294967296) % 18446744073709551616 % 128 = b0 + b4 := by
  have d : v / 4294967296 = b4 + 256 * r := by subst hv; omega
  rw [d]; clear d
  have m : (v + (b4 + 256 * r)) % 18446744073709551616 = v + (b4 + 256 * r) := Nat.mod_eq_of_lt (by omega)
  rw [m]; omega
theorem bytes_of (t : Nat) (ht : t < 18446744073709551616) : ∃ a0 a1 a2 a3 a4 a5 a6 a7, t = a0 + 256 * a1 + 65536 * a2 + 16777216 * a3 + 4294967296 * a4 + 1099511627776 * a5 + 281474976710656 * a6 + 72057594037927936 * a7 ∧ dsum 256 8 t = a0 + a1 + a2 + a3 + a4 + a5 + a6 + a7 := by
  refine ⟨t % 256, t / 256 % 256, t / 65536 % 256, t / 16777216 % 256, t / 4294967296 % 256, t / 1099511627776 % 256, t / 281474976710656 % 256, t / 72057594037927936 % 256, by omega, ?_⟩
  simp only [dsum, Nat.div_div_eq_div_mul, Nat.reduceMul, Nat.add_zero]
  omega
theorem fold_bytes (t : Nat) (ht : t < 18446744073709551616) (hs : dsum 256 8 t ≤ 64) (u v : Nat) (hu : u = (t + t / 256) % 18446744073709551616) (hv : v = (u + u / 65536) % 18446744073709551616) :
    (v + v / 4294967296) % 18446744073709551616 % 128 = dsum 256 8 t := by
  obtain ⟨a0, a1, a2, a3, a4, a5, a6, a7, e, hd⟩ := bytes_of t ht
  have hs' : a0 + a1 + a2 + a3 + a4 + a5 + a6 + a7 ≤ 64 := by rw [← hd]; exact hs
  obtain ⟨r, e2, hr⟩ := fold2 a0 a1 a2 a3 a4 a5 a6 a7 u hs' (hu.trans (fold1 a0 a1 a2 a3 a4 a5 a6 a7 t hs' e))
  clear e hs hu
  refine (fold3' (a0 + a1 + a2 + a3) (a1 + a2 + a3 + a4) (a2 + a3 + a4 + a5) (a3 + a4 + a5 + a6) (a4 + a5 + a6 + a7) r v (by omega) (by omega) (by omega) (by omega) hr (hv.trans e2)).trans ?_
  rw [hd]; omega
theorem ones_go (x : Nat) : ∃ t, t < 18446744073709551616 ∧ t = fold3 8 (pstep 2 16 (pstep 1 32 x)) ∧ dsum 256 8 t = ones 64 x ∧ pstep 2 16 (pstep 1 32 x) / 16 + pstep 2 16 (pstep 1 32 x) < 18446744073709551616 := by
  have hsm : small (2 * 8) (pstep 2 16 (pstep 1 32 x)) := pstep2_small 16 x
  have e3 := fold3_eq 8 _ hsm
  refine ⟨_, ?_, rfl, ?_, ?_⟩
  · rw [e3]
    have := pstep_lt 4 8 (pstep 2 16 (pstep 1 32 x)) (by omega)
    simp only [Nat.reduceMul, Nat.reducePow] at this
    exact this
  · rw [e3]
    have d1 := dsum_pstep 4 (by omega) 8 (pstep 2 16 (pstep 1 32 x))
    have d2 := dsum_pstep 2 (by omega) 16 (pstep 1 32 x)
    have d3 := dsum_pstep 1 (by omega) 32 x
    simp only [Nat.reduceMul, Nat.reducePow] at d1 d2 d3
    rw [d1, d2, d3]; rfl
  · have hb := small_bound 16 _ hsm
    simp only [Nat.reducePow, Nat.reduceMul] at hb
    omega
end Go.Proofs.YtnecafokkhhhhaaGreatDoor
namespace Go.Proofs.YtnecafokkhhhhaaGreatDoor
open Go Go.RowKit
theorem m1 : mask 1 32 = 6148914691236517205 := by decide +kernel
theorem m2 : mask 2 16 = 3689348814741910323 := by decide +kernel
theorem m3 : mask 4 8 = 1085102592571150095 := by decide +kernel
theorem step1 (x : Nat) (hx : x < 18446744073709551616) : IntKind.u64.wrap (bits BinOp.and IntKind.u64 ((x : Int) / 2) 6148914691236517205 + bits BinOp.and IntKind.u64 (x : Int) 6148914691236517205) = ((pstep 1 32 x : Nat) : Int) := by
  have h := pstep_lt 1 32 x (by omega)
  have e1 : bits BinOp.and IntKind.u64 ((x : Int) / 2) 6148914691236517205 = ((x / 2 &&& 6148914691236517205 : Nat) : Int) := by
    have := bits_and_u64_nat (x / 2) 6148914691236517205 (by omega) (by omega)
    simpa using this
  have e2 : bits BinOp.and IntKind.u64 (x : Int) 6148914691236517205 = ((x &&& 6148914691236517205 : Nat) : Int) := by
    have := bits_and_u64_nat x 6148914691236517205 (by omega) (by omega)
    simpa using this
  rw [e1, e2, IntKind.wrap_u64]
  unfold pstep at *
  rw [m1] at *
  simp only [Nat.reduceMul, Nat.reducePow] at *
  omega
theorem step2 (x : Nat) (hx : x < 18446744073709551616) : IntKind.u64.wrap (bits BinOp.and IntKind.u64 ((x : Int) / 4) 3689348814741910323 + bits BinOp.and IntKind.u64 (x : Int) 3689348814741910323) = ((pstep 2 16 x : Nat) : Int) := by
  have h := pstep_lt 2 16 x (by omega)
  have e1 : bits BinOp.and IntKind.u64 ((x : Int) / 4) 3689348814741910323 = ((x / 4 &&& 3689348814741910323 : Nat) : Int) := by
    have := bits_and_u64_nat (x / 4) 3689348814741910323 (by omega) (by omega)
    simpa using this
  have e2 : bits BinOp.and IntKind.u64 (x : Int) 3689348814741910323 = ((x &&& 3689348814741910323 : Nat) : Int) := by
    have := bits_and_u64_nat x 3689348814741910323 (by omega) (by omega)
    simpa using this
  rw [e1, e2, IntKind.wrap_u64]
  unfold pstep at *
  rw [m2] at *
  simp only [Nat.reduceMul, Nat.reducePow] at *
  omega
theorem step3 (x : Nat) (hx : x < 18446744073709551616) (hs : x / 16 + x < 18446744073709551616) : bits BinOp.and IntKind.u64 (IntKind.u64.wrap ((x : Int) / 16 + (x : Int))) 1085102592571150095 = ((fold3 8 x : Nat) : Int) := by
  have e0 : IntKind.u64.wrap ((x : Int) / 16 + (x : Int)) = ((x / 16 + x : Nat) : Int) := by rw [IntKind.wrap_u64]; omega
  rw [e0]
  have := bits_and_u64_nat (x / 16 + x) 1085102592571150095 hs (by omega)
  unfold fold3
  rw [m3]
  simpa using this
theorem step4_256 (x : Nat) : IntKind.u64.wrap ((x : Int) + (x : Int) / 256) = (((x + x / 256) % 18446744073709551616 : Nat) : Int) := by
  rw [IntKind.wrap_u64]; omega
theorem step4_65536 (x : Nat) : IntKind.u64.wrap ((x : Int) + (x : Int) / 65536) = (((x + x / 65536) % 18446744073709551616 : Nat) : Int) := by
  rw [IntKind.wrap_u64]; omega
theorem step4_4294967296 (x : Nat) : IntKind.u64.wrap ((x : Int) + (x : Int) / 4294967296) = (((x + x / 4294967296) % 18446744073709551616 : Nat) : Int) := by
  rw [IntKind.wrap_u64]; omega
theorem low7 (n : Nat) (h : n < 18446744073709551616) : bits BinOp.and IntKind.i64 (wrap64 (n : Int)) 127 = ((n % 128 : Nat) : Int) := by
  show IntKind.i64.wrap ((BitVec.ofInt 64 (wrap64 (n : Int)) &&& BitVec.ofInt 64 127).toNat : Int) = _
  have e1 : (BitVec.ofInt 64 (wrap64 (n : Int))).toNat = n := by
    rw [BitVec.toNat_ofInt]; unfold wrap64; omega
  have e2 : (BitVec.ofInt 64 127).toNat = 2 ^ 7 - 1 := by decide
  rw [BitVec.toNat_and, e1, e2, Nat.and_two_pow_sub_one_eq_mod]
  simp only [Nat.reducePow]
  have : n % 128 < 128 := Nat.mod_lt _ (by omega)
  generalize n % 128 = m at *
  rw [IntKind.wrap_i64]
  omega
end Go.Proofs.YtnecafokkhhhhaaGreatDoor
namespace Go.Proofs.YtnecafokkhhhhaaGreatDoor
open Go Go.RowKit
theorem set_info : (Tryz.prog.info? 34).map (fun i => i.size) = some 1 := by kernel_rfl
theorem set_part (x0 x1 x2 x3 : Int) (w : World) : ∀ i, i < 4 → (part 34 #[.int .u64 x0, .int .u64 x1, .int .u64 x2, .int .u64 x3] (i * 1)).run Tryz.prog w = .ok (#[Value.int .u64 x0, .int .u64 x1, .int .u64 x2, .int .u64 x3].getD i undef) w
  | 0, _ => by kernel_rfl
  | 1, _ => by kernel_rfl
  | 2, _ => by kernel_rfl
  | 3, _ => by kernel_rfl
  | n + 4, h => by omega
theorem u64_equal (d : Nat) (x y : Int) (w : World) : (Op.equalIn (d + 1) 34 (.int .u64 x) (.int .u64 y)).run Tryz.prog w = .ok (x == y) w := by
  have hu : Tryz.prog.underlying 34 = some (.int .u64) := by kernel_rfl
  simp [Op.equalIn, run_underlying hu]
theorem set_step (d : Nat) (x0 x1 x2 x3 y0 y1 y2 y3 : Int) (w : World) (i : Nat) (is : List Nat) (hi : i < 4) (x y : Int)
    (hx : #[Value.int .u64 x0, .int .u64 x1, .int .u64 x2, .int .u64 x3].getD i undef = .int .u64 x) (hy : #[Value.int .u64 y0, .int .u64 y1, .int .u64 y2, .int .u64 y3].getD i undef = .int .u64 y) :
    (Op.eqItems (d + 1) 34 1 #[.int .u64 x0, .int .u64 x1, .int .u64 x2, .int .u64 x3] #[.int .u64 y0, .int .u64 y1, .int .u64 y2, .int .u64 y3] (i :: is)).run Tryz.prog w =
      if x = y then (Op.eqItems (d + 1) 34 1 #[.int .u64 x0, .int .u64 x1, .int .u64 x2, .int .u64 x3] #[.int .u64 y0, .int .u64 y1, .int .u64 y2, .int .u64 y3] is).run Tryz.prog w else .ok false w := by
  rw [Op.eqItems, Sem.run_bind, set_part _ _ _ _ _ i hi, Result.andThen_ok, Sem.run_bind, set_part _ _ _ _ _ i hi, Result.andThen_ok, Sem.run_bind, hx, hy, u64_equal, Result.andThen_ok]
  by_cases h : x = y
  · simp [h]
  · have : (x == y) = false := by simpa using h
    simp [h]
theorem set_equal (d : Nat) (s t : BitVec 256) (w : World) : (Op.equalIn (d + 2) 36 (sv s) (sv t)).run Tryz.prog w = .ok (decide (s = t)) w := by
  obtain ⟨i, hi, _⟩ : ∃ i, Tryz.prog.info? 34 = some i ∧ i.size = 1 := by
    have := set_info
    cases h : Tryz.prog.info? 34 with
    | none => rw [h] at this; cases this
    | some i => rw [h] at this; exact ⟨i, rfl, by simpa using this⟩
  have hu : Tryz.prog.underlying 36 = some (.array 4 34) := by kernel_rfl
  have hc : Tryz.prog.cellsOf 34 = 1 := by kernel_rfl
  rw [run_equalIn_array _ (d + 1) _ _ hu hi, hc]
  have hr : List.range 4 = [0, 1, 2, 3] := by decide
  rw [hr, set_step d _ _ _ _ _ _ _ _ w 0 _ (by omega) _ _ rfl rfl, set_step d _ _ _ _ _ _ _ _ w 1 _ (by omega) _ _ rfl rfl, set_step d _ _ _ _ _ _ _ _ w 2 _ (by omega) _ _ rfl rfl, set_step d _ _ _ _ _ _ _ _ w 3 _ (by omega) _ _ rfl rfl]
  have hn : (Op.eqItems (d + 1) 34 1 #[.int .u64 (wd s 0), .int .u64 (wd s 1), .int .u64 (wd s 2), .int .u64 (wd s 3)] #[.int .u64 (wd t 0), .int .u64 (wd t 1), .int .u64 (wd t 2), .int .u64 (wd t 3)] []).run Tryz.prog w = .ok true w := rfl
  rw [hn]
  by_cases h : s = t
  · subst h; simp
  · rw [decide_eq_false h]
    by_cases h0 : wd s 0 = wd t 0
    · rw [if_pos h0]
      by_cases h1 : wd s 1 = wd t 1
      · rw [if_pos h1]
        by_cases h2 : wd s 2 = wd t 2
        · rw [if_pos h2]
          by_cases h3 : wd s 3 = wd t 3
          · exact absurd (wd_ext h0 h1 h2 h3) h
          · rw [if_neg h3]
        · rw [if_neg h2]
      · rw [if_neg h1]
    · rw [if_neg h0]
/-- .. as the walk asks it. -/
theorem set_eq (s t : BitVec 256) : ∀ w, (Op.equalIn 10000 36 (sv s) (sv t)).run Tryz.prog w = .ok (decide (s = t)) w := fun w => set_equal 9998 s t w
theorem set_eq0 (s : BitVec 256) : ∀ w, (Op.equalIn 10000 36 (sv s) sv0).run Tryz.prog w = .ok (decide (s = 0#256)) w := fun w => by rw [← sv_zero]; exact set_equal 9998 s _ w
end Go.Proofs.YtnecafokkhhhhaaGreatDoor
namespace Go.Proofs.YtnecafokkhhhhaaGreatDoor
open Go Go.RowKit
def word (s : BitVec 256) (k : Nat) : Nat := (s.extractLsb' (64 * k) 64).toNat
theorem wd_word (s : BitVec 256) (k : Nat) : wd s k = (word s k : Int) := rfl
theorem word_lt (s : BitVec 256) (k : Nat) : word s k < 18446744073709551616 := (s.extractLsb' (64 * k) 64).isLt
theorem word_bit (s : BitVec 256) (k i : Nat) (hi : i < 64) : (word s k).testBit i = s.getLsbD (64 * k + i) := by
  unfold word
  rw [BitVec.testBit_toNat]
  simp [hi]
/-- The places of a word's ones, rising. -/
def bitsOf (x : Nat) : List Nat := (List.range 64).filter fun i => x.testBit i
theorem ones_len : ∀ n x, ones n x = ((List.range n).filter fun i => x.testBit i).length
  | 0, _ => rfl
  | n + 1, x => by
    have ih := ones_len n (x / 2)
    unfold ones at *
    rw [dsum, ih, List.range_succ_eq_map, List.filter_cons, List.filter_map]
    have e : (fun i => x.testBit i) ∘ Nat.succ = fun i => (x / 2).testBit i := by funext i; simp [Function.comp, Nat.testBit_succ]
    rw [e]
    by_cases h : x % 2 = 1
    · have hb : x.testBit 0 = true := by simp [Nat.testBit_zero, h]
      rw [if_pos hb]; simp; omega
    · have hb : x.testBit 0 = false := by simp [Nat.testBit_zero]; omega
      rw [if_neg (by rw [hb]; simp)]; simp; omega
theorem bitsOf_len (x : Nat) : (bitsOf x).length = ones 64 x := (ones_len 64 x).symm
theorem bitsOf_zero : bitsOf 0 = [] := by simp [bitsOf]
theorem filter_first (p q : Nat → Bool) (c : Nat) (hc : c < 64) (hp : ∀ i, p i = (decide (i = c) || q i)) (hq : ∀ i, i ≤ c → q i = false) : (List.range 64).filter p = c :: (List.range 64).filter q := by
  have e : List.range 64 = List.range (c + 1) ++ (List.range (63 - c)).map (c + 1 + ·) := by
    rw [← List.range_add]; congr 1; omega
  rw [e, List.filter_append, List.filter_append]
  have h1 : (List.range (c + 1)).filter p = [c] := by
    rw [List.range_succ, List.filter_append]
    have a : (List.range c).filter p = [] := by
      rw [List.filter_eq_nil_iff]
      intro i hi
      have hi := List.mem_range.1 hi
      rw [hp, hq i (by omega)]
      simp; omega
    have b : p c = true := by rw [hp]; simp
    rw [a]; simp [b]
  have h2 : (List.range (c + 1)).filter q = [] := by
    rw [List.filter_eq_nil_iff]
    intro i hi
    have hi := List.mem_range.1 hi
    rw [hq i (by omega)]; simp
  have h3 : ((List.range (63 - c)).map (c + 1 + ·)).filter p = ((List.range (63 - c)).map (c + 1 + ·)).filter q := by
    apply List.filter_congr
    intro i hi
    obtain ⟨j, _, rfl⟩ := List.mem_map.1 hi
    rw [hp]
    have : decide (c + 1 + j = c) = false := by simp; omega
    rw [this]; rfl
  rw [h1, h2, h3]; rfl
theorem bitsOf_step (x : Nat) (h0 : x ≠ 0) (hx : x < 2 ^ 64) : Lib.ctz 64 x < 64 ∧ bitsOf x = Lib.ctz 64 x :: bitsOf (x &&& (x - 1)) := by
  have hc : Lib.ctz 64 x = Lib.ctzFrom 64 x := by simp [Lib.ctz, h0]
  obtain ⟨m, hm, hk⟩ := Lib.ctzFrom_spec 64 x (by omega) hx
  rw [← hc] at hm hk
  generalize Lib.ctz 64 x = c at *
  refine ⟨hk, ?_⟩
  have hp : 0 < 2 ^ c := Nat.pow_pos (by omega)
  have e1 : x = 2 ^ c * (2 * m + 1) + 0 := by omega
  have e2 : x - 1 = 2 ^ c * (2 * m) + (2 ^ c - 1) := by
    have : 2 ^ c * (2 * m + 1) = 2 ^ c * (2 * m) + 2 ^ c := by rw [Nat.mul_add, Nat.mul_one]
    omega
  have bx : ∀ i, x.testBit i = if i < c then false else (2 * m + 1).testBit (i - c) := fun i => by
    rw [e1, Nat.testBit_two_pow_mul_add _ hp]; simp
  have by1 : ∀ i, (x - 1).testBit i = if i < c then true else (2 * m).testBit (i - c) := fun i => by
    rw [e2, Nat.testBit_two_pow_mul_add _ (by omega)]
    by_cases h : i < c
    · simp [h, Nat.testBit_two_pow_sub_one]
    · simp [h]
  unfold bitsOf
  apply filter_first _ _ c hk
  · intro i
    rw [Nat.testBit_and, bx, by1]
    by_cases h : i < c
    · have : ¬ i = c := by omega
      simp [h, this]
    · by_cases h2 : i = c
      · subst h2; simp
      · obtain ⟨j, hj⟩ : ∃ j, i - c = j + 1 := ⟨i - c - 1, by omega⟩
        simp only [h, h2, if_false, hj, Nat.testBit_succ]
        have e3 : (2 * m + 1) / 2 = m := by omega
        have e4 : (2 * m) / 2 = m := by omega
        rw [e3, e4]; simp
  · intro i hi
    rw [Nat.testBit_and, bx, by1]
    by_cases h : i < c
    · simp [h]
    · have : i - c = 0 := by omega
      simp [h, this]
/-- The bytes of a set's first k words, rising. -/
def lstN (s : BitVec 256) (k : Nat) : List Nat := (List.range (64 * k)).filter fun i => s.getLsbD i
theorem lstN_zero (s : BitVec 256) : lstN s 0 = [] := rfl
theorem lstN_succ (s : BitVec 256) (k : Nat) : lstN s (k + 1) = lstN s k ++ (bitsOf (word s k)).map (64 * k + ·) := by
  unfold lstN bitsOf
  rw [show 64 * (k + 1) = 64 * k + 64 by omega, List.range_add, List.filter_append, List.filter_map]
  congr 2
  apply List.filter_congr
  intro i hi
  have hi := List.mem_range.1 hi
  rw [word_bit s k i hi]; rfl
theorem lstN_lt (s : BitVec 256) (k i : Nat) (h : i ∈ lstN s k) : i < 64 * k := List.mem_range.1 (List.mem_filter.1 h).1
theorem lstN_len (s : BitVec 256) : ∀ k, (lstN s k).length ≤ 64 * k := fun k => by
  have := List.length_filter_le (fun i => s.getLsbD i) (List.range (64 * k))
  rw [List.length_range] at this
  exact this
abbrev nb (i : Nat) : Value := .int .u8 (i : Int)
/-- A set's bytes, rising. -/
def lst (s : BitVec 256) : List UInt8 := (lstN s 4).map UInt8.ofNat
theorem lst_cells (s : BitVec 256) : (lst s).map ub = (lstN s 4).map nb := by
  unfold lst
  rw [List.map_map]
  apply List.map_congr_left
  intro i hi
  have := lstN_lt s 4 i hi
  simp only [Function.comp, ub, nb]
  rw [UInt8.toNat_ofNat_of_lt' (by omega)]
theorem lst_len (s : BitVec 256) : (lst s).length = (lstN s 4).length := by simp [lst]
end Go.Proofs.YtnecafokkhhhhaaGreatDoor
namespace Go.Proofs.YtnecafokkhhhhaaGreatDoor
open Go Go.RowKit
/-- The table of math/bits stands in its variable. -/
def Tab (w : World) : Prop := 22 < w.heap.size ∧ ∀ j, j < 64 → w.cell? ⟨22, j, none⟩ = some (.int .u8 (Lib.deBruijn64tab.getD j 0 : Nat))
theorem Tab.ext {w w' : World} (h : Tab w) (hx : Ext w w') : Tab w' :=
  ⟨Nat.lt_of_lt_of_le h.1 hx.size, fun j hj => (hx.cell (p := ⟨_, j, none⟩) h.1).trans (h.2 j hj)⟩
theorem Tab.below {B : Nat} {w w' : World} (h : Tab w) (hB : 22 < B) (hx : Below B w w') : Tab w' :=
  ⟨Nat.lt_of_lt_of_le h.1 hx.size, fun j hj => (hx.cell (p := ⟨_, j, none⟩) hB).trans (h.2 j hj)⟩
theorem tz_key (x a : Nat) (hx : x < 18446744073709551616) (hx0 : x ≠ 0) (hlow : x &&& (18446744073709551616 - x) = a) :
    IntKind.u64.wrap (bits BinOp.and IntKind.u64 (x : Int) (IntKind.u64.wrap (-(x : Int))) * 285870213051353865) / 288230376151711744 = ((a * 285870213051353865 % 18446744073709551616 / 288230376151711744 : Nat) : Int) := by
  have e1 : IntKind.u64.wrap (-(x : Int)) = ((18446744073709551616 - x : Nat) : Int) := by rw [IntKind.wrap_u64]; omega
  rw [e1, bits_and_u64_nat x _ hx (by omega), hlow, IntKind.wrap_u64]
  omega
set_option maxHeartbeats 1000000 in
theorem tz_core (x k idx : Nat) (w : World) (hx0 : ((x : Int) == 0) = false)
    (key : IntKind.u64.wrap (bits BinOp.and IntKind.u64 (x : Int) (IntKind.u64.wrap (-(x : Int))) * 285870213051353865) / 288230376151711744 = (idx : Int))
    (hi : idx < 64) (hk : k < 64) (hcell : w.cell? ⟨22, idx, none⟩ = some (.int .u8 k)) :
    Calls Tryz.prog 150 #[.int .u64 x] w fun e w' => e = .returned (.int .i64 k) ∧ w = w' := by
  go_enter Tryz.func150, Tryz.ntmps150
  go_wp2_with (simp only [key])
  go_ret
  exact ⟨rfl, rfl⟩
set_option maxHeartbeats 1000000 in
theorem tz_any (x : Nat) (hx : x < 18446744073709551616) (h0 : x ≠ 0) (w : World) (hT : Tab w) :
    Calls Tryz.prog 150 #[.int .u64 x] w fun e w' => e = .returned (.int .i64 (Lib.ctz 64 x : Nat)) ∧ w = w' := by
  obtain ⟨hlow, hk⟩ := Lib.lowest_bit 64 x h0 hx
  obtain ⟨hi, htab⟩ := Lib.deBruijn64_at _ hk
  have hcell := hT.2 _ hi
  rw [htab] at hcell
  exact tz_core x _ _ w (by simp; omega) (tz_key x _ hx h0 hlow) hi hk hcell
theorem tz_eq (x z : Nat) (hx : x < 18446744073709551616) (h0 : ¬ x = 0) (hz : Lib.ctz 64 x = z) (w : World) (hT : Tab w) :
    Calls Tryz.prog 150 #[.int .u64 x] w fun e w' => e = .returned (.int .i64 (z : Nat)) ∧ w = w' := by
  subst hz; exact tz_any x hx h0 w hT
/-- How many bytes are in a set. -/
def cnt (s : BitVec 256) : Nat := ones 64 (word s 0) + ones 64 (word s 1) + ones 64 (word s 2) + ones 64 (word s 3)
theorem cnt_le (s : BitVec 256) : cnt s ≤ 256 := by
  have h0 := ones_le 64 (word s 0); have h1 := ones_le 64 (word s 1); have h2 := ones_le 64 (word s 2); have h3 := ones_le 64 (word s 3)
  unfold cnt; omega
end Go.Proofs.YtnecafokkhhhhaaGreatDoor
namespace Go.Proofs.YtnecafokkhhhhaaGreatDoor
open Go Go.RowKit
theorem info_u8 : (Tryz.prog.info? 5).map (fun i => (i.zero, i.size, i.bytes)) = some (some (.int .u8 0), 1, 1) := by kernel_rfl
theorem own_app {w : World} {b e n i : Nat} {v : Value} {A : List Value} {x : Int} (h : w.ownsRow b e 1 v (n + 1) (A ++ [.int .u8 x])) (hx : x = (i : Int)) : w.ownsRow b e 1 v (n + 1) (A ++ [nb i]) := by subst hx; exact h
theorem cnt_len (s : BitVec 256) : cnt s = (lstN s 4).length := by
  simp only [lstN_succ, lstN_zero, List.length_append, List.length_map, bitsOf_len, cnt, List.length_nil, Nat.zero_add]
theorem lstN_mono (s : BitVec 256) (k x : Nat) (L : List Nat) (hx : x ≠ 0) (hx2 : x < 18446744073709551616) (h : L ++ (bitsOf x).map (64 * k + ·) = lstN s (k + 1)) :
    (L ++ [64 * k + Lib.ctz 64 x]) ++ (bitsOf (x &&& (x - 1))).map (64 * k + ·) = lstN s (k + 1) := by
  rw [← h, (bitsOf_step x hx hx2).2]; simp
theorem and_dec (x : Nat) (hx : x < 18446744073709551616) (h0 : x ≠ 0) : bits BinOp.and IntKind.u64 (x : Int) (IntKind.u64.wrap ((x : Int) - 1)) = ((x &&& (x - 1) : Nat) : Int) := by
  have e : IntKind.u64.wrap ((x : Int) - 1) = ((x - 1 : Nat) : Int) := by rw [IntKind.wrap_u64]; omega
  rw [e, bits_and_u64_nat x _ hx (by omega)]
theorem and_dec_lt (x : Nat) (hx : x < 18446744073709551616) : (x &&& (x - 1)) < 18446744073709551616 := by
  have : x &&& (x - 1) < 2 ^ 64 := Nat.and_lt_two_pow _ (by omega)
  omega
theorem Bytes.of_own {w : World} {base e : Nat} {v : Value} {L : List Nat} (h : w.ownsRow base e 1 v L.length (L.map nb)) (hL : L.length ≤ 140737488355328) (hs : ∀ x ∈ L, x < 256) : Bytes w v (L.map UInt8.ofNat) := by
  have e1 : (L.map UInt8.ofNat).map ub = L.map nb := by
    rw [List.map_map]
    apply List.map_congr_left
    intro i hi
    have := hs i hi
    simp only [Function.comp, ub, nb]
    rw [UInt8.toNat_ofNat_of_lt' (by omega)]
  unfold Bytes
  rw [e1, List.length_map]
  exact Slc.of_own h hL
end Go.Proofs.YtnecafokkhhhhaaGreatDoor
