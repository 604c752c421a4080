/- What each call of package bolterref1 does: the document's own answers on sets of bytes. -/
import Derived.Test.YtkhmkcaocacfhaaDoorEqs
import Derived.Test.YtkhmkcaocacfhaaDoorLks
namespace Go.Proofs.YtkhmkcaocacfhaaDoor
open Go Go.RowKit
theorem bel_set4 {w0 w : World} {B b : Nat} (h : Below B w0 w) (hb : B ≤ b) (y0 y1 y2 y3 : Value) : Below B w0 ((((w.setCell ⟨b, 0, none⟩ y0).setCell ⟨b, 1, none⟩ y1).setCell ⟨b, 2, none⟩ y2).setCell ⟨b, 3, none⟩ y3) :=
  (((h.setCell hb _).setCell hb _).setCell hb _).setCell hb _
theorem has_shift (s : BitVec 256) (b k : Nat) (_hb : b < 256) (hk : (b : Int) / 64 = k) : ((wd s k / 2 ^ (b % 64)).tmod 2 == 1) = s.getLsbD b := by
  have hj : b % 64 < 64 := by omega
  have e : b = 64 * k + b % 64 := by omega
  have h1 := word_bit s k (b % 64) hj
  rw [← e] at h1
  rw [← h1, Nat.testBit_eq_decide_div_mod_eq, wd_word]
  have h2 : ((word s k : Int) / 2 ^ (b % 64)) = ((word s k / 2 ^ (b % 64) : Nat) : Int) := by simp
  rw [h2]
  generalize word s k / 2 ^ (b % 64) = x
  rw [Int.tmod_eq_emod_of_nonneg (by omega), Bool.eq_iff_iff]
  simp only [beq_iff_eq, decide_eq_true_eq]
  omega
theorem or_bit (s : BitVec 256) (b : Nat) (hb : b < 256) (h : s.getLsbD b = true) : s ||| 1#256 <<< b = s := by
  apply BitVec.eq_of_getLsbD_eq
  intro i hi
  rw [BitVec.getLsbD_or, BitVec.getLsbD_shiftLeft, BitVec.getLsbD_one]
  by_cases e : i = b
  · subst e; simp [h]
  · by_cases e2 : i < b
    · simp [e2]
    · have : ¬ i - b = 0 := by omega
      simp [this]
theorem add_word (s : BitVec 256) (b k : Nat) (hk : (b : Int) / 64 = k) (h4 : k < 4) (h : s.getLsbD b = false) : IntKind.u64.wrap (wd s k + IntKind.u64.wrap (2 ^ (b % 64))) = wd (s ||| 1#256 <<< b) k := by
  have hj : b % 64 < 64 := by omega
  have e : b = 64 * k + b % 64 := by omega
  have hw := with_word s b k (by omega) hk h4
  rw [show ((b : Int) % 64).toNat = b % 64 by omega, Int.toNat_natCast, bit_word] at hw
  rw [bit_word, ← hw]
  rw [e] at h
  generalize b % 64 = j at *
  unfold wd
  rw [bits_or_bv]
  have hx : (s.extractLsb' (64 * k) 64).getLsbD j = false := by rw [← h]; simp [hj]
  generalize s.extractLsb' (64 * k) 64 = x at *
  have hand : x &&& 1#64 <<< j = 0#64 := by
    apply BitVec.eq_of_getLsbD_eq
    intro i hi
    rw [BitVec.getLsbD_and, BitVec.getLsbD_shiftLeft, BitVec.getLsbD_one]
    by_cases hij : i = j
    · subst hij; simp [hx]
    · by_cases hlt : i < j
      · simp [hlt]
      · have : ¬ i - j = 0 := by omega
        simp [this]
  rw [← BitVec.add_eq_or_of_and_eq_zero _ _ hand, IntKind.wrap_u64, BitVec.toNat_add]
  omega
set_option maxHeartbeats 1000000 in
theorem rhas_any (s : BitVec 256) (b : Nat) (w : World) (h1 : b < 256) :
    Calls Tryd.prog 62 #[sv s, .int .i64 b] w fun e w' => e = .returned (.bool (s.getLsbD b)) ∧ Below w.heap.size w w' := by
  have hc : (b : Int) / 64 = 0 ∨ (b : Int) / 64 = 1 ∨ (b : Int) / 64 = 2 ∨ (b : Int) / 64 = 3 := by omega
  rcases hc with hc | hc | hc | hc
  all_goals
    go_enter Tryd.func62, Tryd.ntmps62
    go_wp2
    go_ret
    exact ⟨ret_v (by simp only [Array.getD_eq_getD_getElem?]; exact congrArg Value.bool (has_shift s b _ h1 hc)), by (repeat' (first | (with_reducible exact Below.refl _ _) | (with_reducible assumption) | (with_reducible refine below_drewN ?_ _) | (with_reducible refine Below.alloc ?_ ?_ _) | (with_reducible refine Below.drew ?_) | (with_reducible refine Below.setCell ?_ ?_ _) | (with_reducible refine Below.trans ?_ (Below.mono (by with_reducible assumption) ?_)) | go_size))⟩
theorem rhas_eq (s : BitVec 256) (b : Nat) (r : Bool) (w : World) (h1 : b < 256) (h : s.getLsbD b = r) :
    Calls Tryd.prog 62 #[sv s, .int .i64 b] w fun e w' => e = .returned (.bool r) ∧ Below w.heap.size w w' := by subst h; exact rhas_any s b w h1
set_option maxHeartbeats 1000000 in
theorem rwith_any (s : BitVec 256) (b : Nat) (w : World) (h1 : b < 256) :
    Calls Tryd.prog 59 #[sv s, .int .i64 b] w fun e w' => e = .returned (sv (s ||| 1#256 <<< b)) ∧ Below w.heap.size w w' := by
  have hc : (b : Int) / 64 = 0 ∨ (b : Int) / 64 = 1 ∨ (b : Int) / 64 = 2 ∨ (b : Int) / 64 = 3 := by omega
  have kS := (Blk.new w (svs s) 25).alloc (.cells #[.int .u64 0, .int .u64 0, .int .u64 0, .int .u64 0] 25)
  have kR := Blk.new (w.alloc (.cells (svs s) 25)) #[.int .u64 0, .int .u64 0, .int .u64 0, .int .u64 0] 25
  simp only [World.size_alloc] at kR
  cases hb : s.getLsbD b with
  | true =>
    have ho : s ||| 1#256 <<< b = s := or_bit s b h1 hb
    have HB := Lib.hid hb
    rw [ho]
    clear hb ho hc
    go_enter Tryd.func59, Tryd.ntmps59
    go_wp2_with fail
    refine (rhas_eq s b true _ h1 HB.out).mono ?_
    rintro e w1 ⟨rfl, hE⟩
    replace kS := kS.ext hE
    replace kR := kR.ext hE
    obtain ⟨p0, p1, p2, p3⟩ := kS.cells4
    obtain ⟨q0, q1, q2, q3⟩ := kR.cells4
    have hfr := kR.free
    go_wp2
    refine bodyPost_ret (v := sv s) ?_ rfl ⟨rfl, by (repeat' (first | (with_reducible exact Below.refl _ _) | (with_reducible assumption) | (with_reducible refine below_drewN ?_ _) | (with_reducible refine Below.alloc ?_ ?_ _) | (with_reducible refine Below.drew ?_) | (with_reducible refine Below.setCell ?_ ?_ _) | (with_reducible refine Below.trans ?_ (Below.mono (by with_reducible assumption) ?_)) | go_size))⟩
    simp [results, Tryd.results59, go_sem, *]
  | false =>
    have HB := Lib.hid hb
    clear hb
    rcases hc with hc | hc | hc | hc
    all_goals
      go_enter Tryd.func59, Tryd.ntmps59
      go_wp2_with fail
      refine (rhas_eq s b false _ h1 HB.out).mono ?_
      rintro e w1 ⟨rfl, hE⟩
      replace kS := kS.ext hE
      replace kR := kR.ext hE
      have hw1 : Below w.heap.size w w1 := (((Below.refl _ _).alloc (Nat.le_refl _) _).alloc (by simp) _).trans (hE.mono (by simp; omega))
      obtain ⟨p0, p1, p2, p3⟩ := kS.cells4
      obtain ⟨q0, q1, q2, q3⟩ := kR.cells4
      have hfr := kR.free
      have hfs := kS.free
      clear hE
      go_wp2
      refine bodyPost_ret (v := sv (s ||| 1#256 <<< b)) ?_ rfl ⟨rfl, by (repeat' (first | (with_reducible exact Below.refl _ _) | (with_reducible assumption) | (with_reducible refine below_drewN ?_ _) | (with_reducible refine Below.alloc ?_ ?_ _) | (with_reducible refine Below.drew ?_) | (with_reducible refine Below.setCell ?_ ?_ _) | (with_reducible refine Below.trans ?_ (Below.mono (by with_reducible assumption) ?_)) | go_size))⟩
      simp [results, Tryd.results59, go_sem, *]
      have a0 := with_other s b 0 (by omega)
      have a1 := with_other s b 1 (by omega)
      have a2 := with_other s b 2 (by omega)
      have a3 := with_other s b 3 (by omega)
      rw [Int.toNat_natCast] at a0 a1 a2 a3
      first
      | exact ⟨add_word s b 0 hc (by omega) HB.out, (a1 (by omega)).symm, (a2 (by omega)).symm, (a3 (by omega)).symm⟩
      | exact ⟨(a0 (by omega)).symm, add_word s b 1 hc (by omega) HB.out, (a2 (by omega)).symm, (a3 (by omega)).symm⟩
      | exact ⟨(a0 (by omega)).symm, (a1 (by omega)).symm, add_word s b 2 hc (by omega) HB.out, (a3 (by omega)).symm⟩
      | exact ⟨(a0 (by omega)).symm, (a1 (by omega)).symm, (a2 (by omega)).symm, add_word s b 3 hc (by omega) HB.out⟩
theorem rwith_eq (s : BitVec 256) (b : Nat) (r : BitVec 256) (w : World) (h1 : b < 256) (h : s ||| 1#256 <<< b = r) :
    Calls Tryd.prog 59 #[sv s, .int .i64 b] w fun e w' => e = .returned (sv r) ∧ Below w.heap.size w w' := by subst h; exact rwith_any s b w h1
/-- The first k bytes of a set. -/
def cut (s : BitVec 256) (k : Nat) : BitVec 256 := s &&& low (k : Int)
theorem cut_zero (s : BitVec 256) : cut s 0 = 0#256 := by
  apply BitVec.eq_of_getLsbD_eq
  intro i hi
  unfold cut
  rw [BitVec.getLsbD_and, low_bit _ _ (by omega)]; simp
theorem cut_full (s : BitVec 256) : cut s 256 = s := by
  apply BitVec.eq_of_getLsbD_eq
  intro i hi
  unfold cut
  rw [BitVec.getLsbD_and, low_bit _ _ (by omega)]; simp [hi]
theorem cut_succ (s : BitVec 256) (k : Nat) (hk : k < 256) : cut s (k + 1) = if s.getLsbD k then cut s k ||| 1#256 <<< k else cut s k := by
  have hl : ∀ i, (low ((k + 1 : Nat) : Int)).getLsbD i = decide (i < k + 1) := fun i => by rw [low_bit _ _ (by omega)]; rfl
  have hl2 : ∀ i, (low ((k : Nat) : Int)).getLsbD i = decide (i < k) := fun i => by rw [low_bit _ _ (by omega)]; rfl
  apply BitVec.eq_of_getLsbD_eq
  intro i hi
  unfold cut
  cases hb : s.getLsbD k with
  | true =>
    rw [if_pos rfl, BitVec.getLsbD_and, BitVec.getLsbD_or, BitVec.getLsbD_and, hl, hl2, BitVec.getLsbD_shiftLeft, BitVec.getLsbD_one]
    by_cases e : i = k
    · subst e; simp [hb, hi]
    · by_cases e2 : i < k
      · have : i < k + 1 := by omega
        simp [e2, this]
      · have h1 : ¬ i < k + 1 := by omega
        have h2 : ¬ i - k = 0 := by omega
        simp [e2, h1, h2]
  | false =>
    rw [if_neg (by simp), BitVec.getLsbD_and, BitVec.getLsbD_and, hl, hl2]
    by_cases e : i = k
    · subst e; simp [hb]
    · by_cases e2 : i < k
      · have : i < k + 1 := by omega
        simp [e2, this]
      · have h1 : ¬ i < k + 1 := by omega
        simp [e2, h1]
end Go.Proofs.YtkhmkcaocacfhaaDoor
