/- bolterref3's named sets. -/
import Derived.Test.YtnecafokkhhhhaaGreatDoorKls
import Derived.Test.YtnecafokkhhhhaaGreatDoorSpn
import Derived.Test.YtnecafokkhhhhaaGreatDoorMB
import Derived.Test.YtnecafokkhhhhaaGreatDoorMA
import Derived.Test.YtnecafokkhhhhaaGreatDoorNmd
namespace Go.Proofs.YtnecafokkhhhhaaGreatDoor
open Go Go.RowKit
theorem bel_set4 {w0 w : World} {B b : Nat} (h : Below B w0 w) (hb : B ≤ b) (y0 y1 y2 y3 : Value) : Below B w0 ((((w.setCell ⟨b, 0, none⟩ y0).setCell ⟨b, 1, none⟩ y1).setCell ⟨b, 2, none⟩ y2).setCell ⟨b, 3, none⟩ y3) :=
  (((h.setCell hb _).setCell hb _).setCell hb _).setCell hb _
theorem has_shift (s : BitVec 256) (b k : Nat) (_hb : b < 256) (hk : (b : Int) / 64 = k) : ((wd s k / 2 ^ (b % 64)).tmod 2 == 1) = s.getLsbD b := by
  have hj : b % 64 < 64 := by omega
  have e : b = 64 * k + b % 64 := by omega
  have h1 := word_bit s k (b % 64) hj
  rw [← e] at h1
  rw [← h1, Nat.testBit_eq_decide_div_mod_eq, wd_word]
  have h2 : ((word s k : Int) / 2 ^ (b % 64)) = ((word s k / 2 ^ (b % 64) : Nat) : Int) := by simp
  rw [h2]
  generalize word s k / 2 ^ (b % 64) = x
  rw [Int.tmod_eq_emod_of_nonneg (by omega), Bool.eq_iff_iff]
  simp only [beq_iff_eq, decide_eq_true_eq]
  omega
theorem or_bit (s : BitVec 256) (b : Nat) (hb : b < 256) (h : s.getLsbD b = true) : s ||| 1#256 <<< b = s := by
  apply BitVec.eq_of_getLsbD_eq
  intro i hi
  rw [BitVec.getLsbD_or, BitVec.getLsbD_shiftLeft, BitVec.getLsbD_one]
  by_cases e : i = b
  · subst e; simp [h]
  · by_cases e2 : i < b
    · simp [e2]
    · have : ¬ i - b = 0 := by omega
      simp [this]
theorem add_word (s : BitVec 256) (b k : Nat) (hk : (b : Int) / 64 = k) (h4 : k < 4) (h : s.getLsbD b = false) : IntKind.u64.wrap (wd s k + IntKind.u64.wrap (2 ^ (b % 64))) = wd (s ||| 1#256 <<< b) k := by
  have hj : b % 64 < 64 := by omega
  have e : b = 64 * k + b % 64 := by omega
  have hw := with_word s b k (by omega) hk h4
  rw [show ((b : Int) % 64).toNat = b % 64 by omega, Int.toNat_natCast, bit_word] at hw
  rw [bit_word, ← hw]
  rw [e] at h
  generalize b % 64 = j at *
  unfold wd
  rw [bits_or_bv]
  have hx : (s.extractLsb' (64 * k) 64).getLsbD j = false := by rw [← h]; simp [hj]
  generalize s.extractLsb' (64 * k) 64 = x at *
  have hand : x &&& 1#64 <<< j = 0#64 := by
    apply BitVec.eq_of_getLsbD_eq
    intro i hi
    rw [BitVec.getLsbD_and, BitVec.getLsbD_shiftLeft, BitVec.getLsbD_one]
    by_cases hij : i = j
    · subst hij; simp [hx]
    · by_cases hlt : i < j
      · simp [hlt]
      · have : ¬ i - j = 0 := by omega
        simp [this]
  rw [← BitVec.add_eq_or_of_and_eq_zero _ _ hand, IntKind.wrap_u64, BitVec.toNat_add]
  omega
set_option maxHeartbeats 1000000 in
theorem rhas_any (s : BitVec 256) (b : Nat) (w : World) (h1 : b < 256) :
    Calls Tryz.prog 69 #[sv s, .int .i64 b] w fun e w' => e = .returned (.bool (s.getLsbD b)) ∧ Below w.heap.size w w' := by
  have hc : (b : Int) / 64 = 0 ∨ (b : Int) / 64 = 1 ∨ (b : Int) / 64 = 2 ∨ (b : Int) / 64 = 3 := by omega
  rcases hc with hc | hc | hc | hc
  all_goals
    go_enter Tryz.func69, Tryz.ntmps69
    go_wp2
    go_ret
    exact ⟨ret_v (by simp only [Array.getD_eq_getD_getElem?]; exact congrArg Value.bool (has_shift s b _ h1 hc)), by (repeat' (first | (with_reducible exact Below.refl _ _) | (with_reducible assumption) | (with_reducible refine below_drewN ?_ _) | (with_reducible refine Below.alloc ?_ ?_ _) | (with_reducible refine Below.drew ?_) | (with_reducible refine Below.setCell ?_ ?_ _) | (with_reducible refine Below.trans ?_ (Below.mono (by with_reducible assumption) ?_)) | go_size))⟩
theorem rhas_eq (s : BitVec 256) (b : Nat) (r : Bool) (w : World) (h1 : b < 256) (h : s.getLsbD b = r) :
    Calls Tryz.prog 69 #[sv s, .int .i64 b] w fun e w' => e = .returned (.bool r) ∧ Below w.heap.size w w' := by subst h; exact rhas_any s b w h1
set_option maxHeartbeats 1000000 in
theorem rwith_any (s : BitVec 256) (b : Nat) (w : World) (h1 : b < 256) :
    Calls Tryz.prog 45 #[sv s, .int .i64 b] w fun e w' => e = .returned (sv (s ||| 1#256 <<< b)) ∧ Below w.heap.size w w' := by
  have hc : (b : Int) / 64 = 0 ∨ (b : Int) / 64 = 1 ∨ (b : Int) / 64 = 2 ∨ (b : Int) / 64 = 3 := by omega
  have kS := (Blk.new w (svs s) 36).alloc (.cells #[.int .u64 0, .int .u64 0, .int .u64 0, .int .u64 0] 36)
  have kR := Blk.new (w.alloc (.cells (svs s) 36)) #[.int .u64 0, .int .u64 0, .int .u64 0, .int .u64 0] 36
  simp only [World.size_alloc] at kR
  cases hb : s.getLsbD b with
  | true =>
    have ho : s ||| 1#256 <<< b = s := or_bit s b h1 hb
    have HB := Lib.hid hb
    rw [ho]
    clear hb ho hc
    go_enter Tryz.func45, Tryz.ntmps45
    go_wp2_with fail
    refine (rhas_eq s b true _ h1 HB.out).mono ?_
    rintro e w1 ⟨rfl, hE⟩
    replace kS := kS.ext hE
    replace kR := kR.ext hE
    obtain ⟨p0, p1, p2, p3⟩ := kS.cells4
    obtain ⟨q0, q1, q2, q3⟩ := kR.cells4
    have hfr := kR.free
    go_wp2
    refine bodyPost_ret (v := sv s) ?_ rfl ⟨rfl, by (repeat' (first | (with_reducible exact Below.refl _ _) | (with_reducible assumption) | (with_reducible refine below_drewN ?_ _) | (with_reducible refine Below.alloc ?_ ?_ _) | (with_reducible refine Below.drew ?_) | (with_reducible refine Below.setCell ?_ ?_ _) | (with_reducible refine Below.trans ?_ (Below.mono (by with_reducible assumption) ?_)) | go_size))⟩
    simp [results, Tryz.results45, go_sem, *]
  | false =>
    have HB := Lib.hid hb
    clear hb
    rcases hc with hc | hc | hc | hc
    all_goals
      go_enter Tryz.func45, Tryz.ntmps45
      go_wp2_with fail
      refine (rhas_eq s b false _ h1 HB.out).mono ?_
      rintro e w1 ⟨rfl, hE⟩
      replace kS := kS.ext hE
      replace kR := kR.ext hE
      have hw1 : Below w.heap.size w w1 := (((Below.refl _ _).alloc (Nat.le_refl _) _).alloc (by simp) _).trans (hE.mono (by simp; omega))
      obtain ⟨p0, p1, p2, p3⟩ := kS.cells4
      obtain ⟨q0, q1, q2, q3⟩ := kR.cells4
      have hfr := kR.free
      have hfs := kS.free
      clear hE
      go_wp2
      refine bodyPost_ret (v := sv (s ||| 1#256 <<< b)) ?_ rfl ⟨rfl, by (repeat' (first | (with_reducible exact Below.refl _ _) | (with_reducible assumption) | (with_reducible refine below_drewN ?_ _) | (with_reducible refine Below.alloc ?_ ?_ _) | (with_reducible refine Below.drew ?_) | (with_reducible refine Below.setCell ?_ ?_ _) | (with_reducible refine Below.trans ?_ (Below.mono (by with_reducible assumption) ?_)) | go_size))⟩
      simp [results, Tryz.results45, go_sem, *]
      have a0 := with_other s b 0 (by omega)
      have a1 := with_other s b 1 (by omega)
      have a2 := with_other s b 2 (by omega)
      have a3 := with_other s b 3 (by omega)
      rw [Int.toNat_natCast] at a0 a1 a2 a3
      first
      | exact ⟨add_word s b 0 hc (by omega) HB.out, (a1 (by omega)).symm, (a2 (by omega)).symm, (a3 (by omega)).symm⟩
      | exact ⟨(a0 (by omega)).symm, add_word s b 1 hc (by omega) HB.out, (a2 (by omega)).symm, (a3 (by omega)).symm⟩
      | exact ⟨(a0 (by omega)).symm, (a1 (by omega)).symm, add_word s b 2 hc (by omega) HB.out, (a3 (by omega)).symm⟩
      | exact ⟨(a0 (by omega)).symm, (a1 (by omega)).symm, (a2 (by omega)).symm, add_word s b 3 hc (by omega) HB.out⟩
theorem rwith_eq (s : BitVec 256) (b : Nat) (r : BitVec 256) (w : World) (h1 : b < 256) (h : s ||| 1#256 <<< b = r) :
    Calls Tryz.prog 45 #[sv s, .int .i64 b] w fun e w' => e = .returned (sv r) ∧ Below w.heap.size w w' := by subst h; exact rwith_any s b w h1
/-- The first k bytes of a set. -/
def cut (s : BitVec 256) (k : Nat) : BitVec 256 := s &&& low (k : Int)
theorem cut_zero (s : BitVec 256) : cut s 0 = 0#256 := by
  apply BitVec.eq_of_getLsbD_eq
  intro i hi
  unfold cut
  rw [BitVec.getLsbD_and, low_bit _ _ (by omega)]; simp
theorem cut_full (s : BitVec 256) : cut s 256 = s := by
  apply BitVec.eq_of_getLsbD_eq
  intro i hi
  unfold cut
  rw [BitVec.getLsbD_and, low_bit _ _ (by omega)]; simp [hi]
theorem cut_succ (s : BitVec 256) (k : Nat) (hk : k < 256) : cut s (k + 1) = if s.getLsbD k then cut s k ||| 1#256 <<< k else cut s k := by
  have hl : ∀ i, (low ((k + 1 : Nat) : Int)).getLsbD i = decide (i < k + 1) := fun i => by rw [low_bit _ _ (by omega)]; rfl
  have hl2 : ∀ i, (low ((k : Nat) : Int)).getLsbD i = decide (i < k) := fun i => by rw [low_bit _ _ (by omega)]; rfl
  apply BitVec.eq_of_getLsbD_eq
  intro i hi
  unfold cut
  cases hb : s.getLsbD k with
  | true =>
    rw [if_pos rfl, BitVec.getLsbD_and, BitVec.getLsbD_or, BitVec.getLsbD_and, hl, hl2, BitVec.getLsbD_shiftLeft, BitVec.getLsbD_one]
    by_cases e : i = k
    · subst e; simp [hb, hi]
    · by_cases e2 : i < k
      · have : i < k + 1 := by omega
        simp [e2, this]
      · have h1 : ¬ i < k + 1 := by omega
        have h2 : ¬ i - k = 0 := by omega
        simp [e2, h1, h2]
  | false =>
    rw [if_neg (by simp), BitVec.getLsbD_and, BitVec.getLsbD_and, hl, hl2]
    by_cases e : i = k
    · subst e; simp [hb]
    · by_cases e2 : i < k
      · have : i < k + 1 := by omega
        simp [e2, this]
      · have h1 : ¬ i < k + 1 := by omega
        simp [e2, h1]
abbrev zer : Array Value := #[.int .u64 0, .int .u64 0, .int .u64 0, .int .u64 0]
theorem zer_svs : zer = svs 0#256 := by simp [zer, svs, wd_zero]
set_option maxHeartbeats 1000000 in
set_option maxRecDepth 20000 in
theorem runion_any (a b : BitVec 256) (w : World) :
    Calls Tryz.prog 66 #[sv a, sv b] w fun e w' => e = .returned (sv (a ||| b)) ∧ Below w.heap.size w w' := by
  have k1 := ((Blk.new w (svs a) 36).alloc (.cells (svs b) 36)).alloc (.cells zer 36)
  have k2 := (Blk.new (w.alloc (.cells (svs a) 36)) (svs b) 36).alloc (.cells zer 36)
  have k3 := Blk.new ((w.alloc (.cells (svs a) 36)).alloc (.cells (svs b) 36)) zer 36
  simp only [World.size_alloc] at k2 k3
  have hbel : Below w.heap.size w (((w.alloc (.cells (svs a) 36)).alloc (.cells (svs b) 36)).alloc (.cells zer 36)) := by (repeat' (first | (with_reducible exact Below.refl _ _) | (with_reducible assumption) | (with_reducible refine below_drewN ?_ _) | (with_reducible refine Below.alloc ?_ ?_ _) | (with_reducible refine Below.drew ?_) | (with_reducible refine Below.setCell ?_ ?_ _) | (with_reducible refine Below.trans ?_ (Below.mono (by with_reducible assumption) ?_)) | go_size))
  go_enter Tryz.func66, Tryz.ntmps66
  go_wp2_with fail
  go_loopw [5] (fun i wr => ∃ k : Nat, k ≤ 256 ∧ i = .int .i64 k ∧ Blk wr w.heap.size (svs (a ||| cut b k)) 36 ∧ Blk wr (w.heap.size + 1) (svs b) 36 ∧ Blk wr (w.heap.size + 2) zer 36 ∧ Below w.heap.size w wr) (fun i _ => 256 - (intOf i).toNat)
  case atStart => exact ⟨0, Nat.zero_le _, rfl, by rw [cut_zero, BitVec.or_zero]; exact k1, k2, k3, hbel⟩
  case round =>
    clear k1 k2 k3 hbel
    obtain ⟨k, hk, rfl, k1, k2, k3, hbel⟩ := hrel
    obtain ⟨A, hA⟩ : ∃ A, a ||| cut b k = A := ⟨_, rfl⟩
    rw [hA] at k1
    obtain ⟨p0, p1, p2, p3⟩ := k1.cells4; obtain ⟨q0, q1, q2, q3⟩ := k2.cells4; obtain ⟨r0, r1, r2, r3⟩ := k3.cells4
    by_cases hlt : k < 256
    · have hs := cut_succ b k hlt
      cases hb : b.getLsbD k with
      | true =>
        rw [hb, if_pos rfl] at hs
        have hA' : a ||| cut b (k + 1) = A ||| 1#256 <<< k := by rw [hs, ← hA, BitVec.or_assoc]
        have HH := Lib.hid (And.intro hA' hb)
        clear hA hA' hb hs
        go_wp2_with fail
        refine (rhas_eq b k true _ hlt HH.out.2).mono ?_
        rintro e w9 ⟨rfl, hE⟩
        replace k1 := k1.ext hE
        replace k2 := k2.ext hE
        replace k3 := k3.ext hE
        replace hbel := bel_call hbel hE
        clear hE
        clear p0 p1 p2 p3 q0 q1 q2 q3 r0 r1 r2 r3
        obtain ⟨p0, p1, p2, p3⟩ := k1.cells4; obtain ⟨q0, q1, q2, q3⟩ := k2.cells4; obtain ⟨r0, r1, r2, r3⟩ := k3.cells4
        go_wp2_with fail
        refine (rwith_eq A k _ _ hlt rfl).mono ?_
        rintro e w9 ⟨rfl, hE⟩
        replace k1 := k1.ext hE
        replace k2 := k2.ext hE
        replace k3 := k3.ext hE
        replace hbel := bel_call hbel hE
        clear hE
        clear p0 p1 p2 p3 q0 q1 q2 q3 r0 r1 r2 r3
        obtain ⟨p0, p1, p2, p3⟩ := k1.cells4; obtain ⟨q0, q1, q2, q3⟩ := k2.cells4; obtain ⟨r0, r1, r2, r3⟩ := k3.cells4
        have hfr := k1.free
        go_wp2
        go_roundw
        case rel => exact ⟨k + 1, by omega, by go_num, by rw [HH.out.1]; exact k1.store4 _ _ _ _, k2.other4 (by omega) _ _ _ _, k3.other4 (by omega) _ _ _ _, bel_set4 hbel (Nat.le_refl _) _ _ _ _⟩
        case measure => simp [intOf]; omega
      | false =>
        rw [hb, if_neg (by simp)] at hs
        have hA' : a ||| cut b (k + 1) = A := by rw [hs, ← hA]
        have HH := Lib.hid (And.intro hA' hb)
        clear hA hA' hb hs
        go_wp2_with fail
        refine (rhas_eq b k false _ hlt HH.out.2).mono ?_
        rintro e w9 ⟨rfl, hE⟩
        replace k1 := k1.ext hE
        replace k2 := k2.ext hE
        replace k3 := k3.ext hE
        replace hbel := bel_call hbel hE
        clear hE
        clear p0 p1 p2 p3 q0 q1 q2 q3 r0 r1 r2 r3
        obtain ⟨p0, p1, p2, p3⟩ := k1.cells4; obtain ⟨q0, q1, q2, q3⟩ := k2.cells4; obtain ⟨r0, r1, r2, r3⟩ := k3.cells4
        go_wp2
        go_roundw
        case rel => exact ⟨k + 1, by omega, by go_num, by rw [HH.out.1]; exact k1, k2, k3, hbel⟩
        case measure => simp [intOf]; omega
    · obtain rfl : k = 256 := by omega
      rw [cut_full] at hA
      have hfr := k3.free
      have HA := Lib.hid hA
      clear hA
      go_wp2
      refine bodyPost_ret (v := sv (a ||| b)) ?_ rfl ⟨rfl, by (repeat' (first | (with_reducible exact Below.refl _ _) | (with_reducible assumption) | (with_reducible refine below_drewN ?_ _) | (with_reducible refine Below.alloc ?_ ?_ _) | (with_reducible refine Below.drew ?_) | (with_reducible refine Below.setCell ?_ ?_ _) | (with_reducible refine Below.trans ?_ (Below.mono (by with_reducible assumption) ?_)) | go_size))⟩
      rw [HA.out]
      simp [results, Tryz.results66, go_sem, *]
/-- The bytes from lo up to, and without, k. -/
def rg (lo k : Nat) : BitVec 256 := low (k : Int) &&& ~~~(low (lo : Int))
theorem rg_bit (lo k i : Nat) (h1 : lo ≤ 256) (h2 : k ≤ 256) (hi : i < 256) : (rg lo k).getLsbD i = decide (lo ≤ i ∧ i < k) := by
  unfold rg
  rw [BitVec.getLsbD_and, BitVec.getLsbD_not, low_bit _ _ (by omega), low_bit _ _ (by omega), Int.toNat_natCast, Int.toNat_natCast, Bool.eq_iff_iff]
  simp [hi]
  omega
theorem rg_same (lo : Nat) (h : lo ≤ 256) : rg lo lo = 0#256 := by
  apply BitVec.eq_of_getLsbD_eq
  intro i hi
  rw [rg_bit lo lo i h h hi]; simp
theorem rg_succ (lo k : Nat) (h1 : lo ≤ k) (h2 : k < 256) : rg lo (k + 1) = rg lo k ||| 1#256 <<< k := by
  apply BitVec.eq_of_getLsbD_eq
  intro i hi
  rw [BitVec.getLsbD_or, rg_bit _ _ _ (by omega) (by omega) hi, rg_bit _ _ _ (by omega) (by omega) hi, BitVec.getLsbD_shiftLeft, BitVec.getLsbD_one]
  by_cases e : i = k
  · subst e; simp [h1, hi]
  · by_cases e2 : i < k
    · have : i < k + 1 := by omega
      simp [e2, this]
    · have h3 : ¬ i < k + 1 := by omega
      have h4 : ¬ i - k = 0 := by omega
      simp [e2, h3, h4]
theorem rg_rng (lo hi k : Nat) (h1 : lo ≤ 255) (h2 : hi ≤ 255) (h3 : lo ≤ k) (h4 : hi < k) (h5 : k ≤ lo ∨ k ≤ hi + 1) : rg lo k = rng lo hi := by
  apply BitVec.eq_of_getLsbD_eq
  intro i hi'
  rw [rg_bit _ _ _ (by omega) (by omega) hi', rng_bit _ _ _ (by omega) (by omega) (by omega) (by omega), decide_eq_decide]
  omega
set_option maxHeartbeats 1000000 in
set_option maxRecDepth 20000 in
theorem rrange_any (lo hi : Nat) (w : World) (h1 : lo ≤ 255) (h2 : hi ≤ 255) :
    Calls Tryz.prog 70 #[.int .i64 lo, .int .i64 hi] w fun e w' => e = .returned (sv (rng lo hi)) ∧ Below w.heap.size w w' := by
  have k1 := Blk.new (w.alloc (.cells zer 36)) zer 36
  have k2 := (Blk.new w zer 36).alloc (.cells zer 36)
  simp only [World.size_alloc] at k1
  have hbel : Below w.heap.size w ((w.alloc (.cells zer 36)).alloc (.cells zer 36)) := by (repeat' (first | (with_reducible exact Below.refl _ _) | (with_reducible assumption) | (with_reducible refine below_drewN ?_ _) | (with_reducible refine Below.alloc ?_ ?_ _) | (with_reducible refine Below.drew ?_) | (with_reducible refine Below.setCell ?_ ?_ _) | (with_reducible refine Below.trans ?_ (Below.mono (by with_reducible assumption) ?_)) | go_size))
  go_enter Tryz.func70, Tryz.ntmps70
  go_wp2_with fail
  go_loopw [6] (fun i wr => ∃ k : Nat, lo ≤ k ∧ (k ≤ lo ∨ k ≤ hi + 1) ∧ i = .int .i64 k ∧ Blk wr (w.heap.size + 1) (svs (rg lo k)) 36 ∧ Blk wr w.heap.size zer 36 ∧ Below w.heap.size w wr) (fun i _ => hi + 1 - (intOf i).toNat)
  case atStart => exact ⟨lo, Nat.le_refl _, .inl (Nat.le_refl _), rfl, by rw [rg_same lo (by omega), ← zer_svs]; exact k1, k2, hbel⟩
  case round =>
    clear k1 k2 hbel
    obtain ⟨k, hk1, hk2, rfl, k1, k2, hbel⟩ := hrel
    obtain ⟨A, hA⟩ : ∃ A, rg lo k = A := ⟨_, rfl⟩
    rw [hA] at k1
    obtain ⟨p0, p1, p2, p3⟩ := k1.cells4
    obtain ⟨q0, q1, q2, q3⟩ := k2.cells4
    by_cases hlt : k ≤ hi
    · have hs := rg_succ lo k hk1 (by omega)
      rw [hA] at hs
      have HH := Lib.hid hs
      clear hs hA
      go_wp2_with fail
      refine (rwith_eq A k _ _ (by omega) rfl).mono ?_
      rintro e w9 ⟨rfl, hE⟩
      replace k1 := k1.ext hE
      replace k2 := k2.ext hE
      replace hbel := bel_call hbel hE
      clear hE p0 p1 p2 p3 q0 q1 q2 q3
      obtain ⟨p0, p1, p2, p3⟩ := k1.cells4
      have hfr := k1.free
      go_wp2
      go_roundw
      case rel => exact ⟨k + 1, by omega, .inr (by omega), by go_num, by rw [HH.out]; exact k1.store4 _ _ _ _, k2.other4 (by omega) _ _ _ _, bel_set4 hbel (by omega) _ _ _ _⟩
      case measure => simp [intOf]; omega
    · have hfr := k2.free
      rw [rg_rng lo hi k h1 h2 hk1 (by omega) hk2] at hA
      have HA := Lib.hid hA
      clear hA
      go_wp2
      refine bodyPost_ret (v := sv (rng lo hi)) ?_ rfl ⟨rfl, by (repeat' (first | (with_reducible exact Below.refl _ _) | (with_reducible assumption) | (with_reducible refine below_drewN ?_ _) | (with_reducible refine Below.alloc ?_ ?_ _) | (with_reducible refine Below.drew ?_) | (with_reducible refine Below.setCell ?_ ?_ _) | (with_reducible refine Below.trans ?_ (Below.mono (by with_reducible assumption) ?_)) | go_size))⟩
      rw [HA.out]
      simp [results, Tryz.results70, go_sem, *]
theorem rrange_eq (lo hi : Nat) (r : BitVec 256) (w : World) (h1 : lo ≤ 255) (h2 : hi ≤ 255) (h : rng lo hi = r) :
    Calls Tryz.prog 70 #[.int .i64 lo, .int .i64 hi] w fun e w' => e = .returned (sv r) ∧ Below w.heap.size w w' := by subst h; exact rrange_any lo hi w h1 h2
theorem rng_full : rng 0 255 = full := by decide +kernel
theorem rrange_full (w : World) : Calls Tryz.prog 70 #[.int .i64 0, .int .i64 255] w fun e w' => e = .returned (sv full) ∧ Below w.heap.size w w' := by
  rw [← rng_full]; exact rrange_any 0 255 w (by omega) (by omega)
set_option maxHeartbeats 1000000 in
set_option maxRecDepth 20000 in
theorem rall_any (w : World) : Calls Tryz.prog 44 #[] w fun e w' => e = .returned (sv full) ∧ Below w.heap.size w w' := by
  have k1 := Blk.new w zer 36
  have hbel : Below w.heap.size w (w.alloc (.cells zer 36)) := by (repeat' (first | (with_reducible exact Below.refl _ _) | (with_reducible assumption) | (with_reducible refine below_drewN ?_ _) | (with_reducible refine Below.alloc ?_ ?_ _) | (with_reducible refine Below.drew ?_) | (with_reducible refine Below.setCell ?_ ?_ _) | (with_reducible refine Below.trans ?_ (Below.mono (by with_reducible assumption) ?_)) | go_size))
  obtain ⟨f, hf⟩ : ∃ f, full = f := ⟨_, rfl⟩
  have HF := Lib.hid hf
  rw [hf]
  clear hf
  go_enter Tryz.func44, Tryz.ntmps44
  go_wp2_with fail
  refine (rrange_full _).mono ?_
  rw [HF.out]
  rintro e w9 ⟨rfl, hE⟩
  replace k1 := k1.ext hE
  replace hbel := bel_call hbel hE
  clear hE
  obtain ⟨p0, p1, p2, p3⟩ := k1.cells4
  have hfr := k1.free
  go_wp2
  refine bodyPost_ret (v := sv f) ?_ rfl ⟨rfl, by (repeat' (first | (with_reducible exact Below.refl _ _) | (with_reducible assumption) | (with_reducible refine below_drewN ?_ _) | (with_reducible refine Below.alloc ?_ ?_ _) | (with_reducible refine Below.drew ?_) | (with_reducible refine Below.setCell ?_ ?_ _) | (with_reducible refine Below.trans ?_ (Below.mono (by with_reducible assumption) ?_)) | go_size))⟩
  simp [results, Tryz.results44, go_sem, *]
set_option maxHeartbeats 2000000 in
set_option maxRecDepth 20000 in
theorem rinter_any (a b : BitVec 256) (w : World) :
    Calls Tryz.prog 68 #[sv a, sv b] w fun e w' => e = .returned (sv (a &&& b)) ∧ Below w.heap.size w w' := by
  have k1 := Blk.new (((w.alloc (.cells (svs a) 36)).alloc (.cells (svs b) 36)).alloc (.cells zer 36)) zer 36
  have k2 := (((Blk.new w (svs a) 36).alloc (.cells (svs b) 36)).alloc (.cells zer 36)).alloc (.cells zer 36)
  have k3 := ((Blk.new (w.alloc (.cells (svs a) 36)) (svs b) 36).alloc (.cells zer 36)).alloc (.cells zer 36)
  have k4 := (Blk.new ((w.alloc (.cells (svs a) 36)).alloc (.cells (svs b) 36)) zer 36).alloc (.cells zer 36)
  simp only [World.size_alloc] at k1 k3 k4
  have hbel : Below w.heap.size w ((((w.alloc (.cells (svs a) 36)).alloc (.cells (svs b) 36)).alloc (.cells zer 36)).alloc (.cells zer 36)) := by (repeat' (first | (with_reducible exact Below.refl _ _) | (with_reducible assumption) | (with_reducible refine below_drewN ?_ _) | (with_reducible refine Below.alloc ?_ ?_ _) | (with_reducible refine Below.drew ?_) | (with_reducible refine Below.setCell ?_ ?_ _) | (with_reducible refine Below.trans ?_ (Below.mono (by with_reducible assumption) ?_)) | go_size))
  obtain ⟨X, hX⟩ : ∃ X, a &&& b = X := ⟨_, rfl⟩
  rw [hX]
  have hbit : ∀ k, k < 256 → X.getLsbD k = (a.getLsbD k &&  b.getLsbD k) := fun k hk => by rw [← hX]; simp [hk]
  have HX := Lib.hid hbit
  clear hX hbit
  go_enter Tryz.func68, Tryz.ntmps68
  go_wp2_with fail
  go_loopw [6] (fun i wr => ∃ k : Nat, k ≤ 256 ∧ i = .int .i64 k ∧ Blk wr (w.heap.size + 3) (svs (cut X k)) 36 ∧ Blk wr w.heap.size (svs a) 36 ∧ Blk wr (w.heap.size + 1) (svs b) 36 ∧ Blk wr (w.heap.size + 2) zer 36 ∧ Below w.heap.size w wr) (fun i _ => 256 - (intOf i).toNat)
  case atStart => exact ⟨0, Nat.zero_le _, rfl, by rw [cut_zero, ← zer_svs]; exact k1, k2, k3, k4, hbel⟩
  case round =>
    clear k1 k2 k3 k4 hbel
    obtain ⟨k, hk, rfl, k1, k2, k3, k4, hbel⟩ := hrel
    obtain ⟨A, hA⟩ : ∃ A, cut X k = A := ⟨_, rfl⟩
    rw [hA] at k1
    obtain ⟨p0, p1, p2, p3⟩ := k1.cells4; obtain ⟨q0, q1, q2, q3⟩ := k2.cells4; obtain ⟨r0, r1, r2, r3⟩ := k3.cells4; obtain ⟨s0, s1, s2, s3⟩ := k4.cells4
    by_cases hlt : k < 256
    · have hs := cut_succ X k hlt
      rw [HX.out k hlt] at hs
      cases ha : a.getLsbD k with
      | true =>
        cases hb : b.getLsbD k with
        | false =>
          have hA' : cut X (k + 1) = A := by rw [hs, ha, hb, ← hA]; simp
          have HH := Lib.hid (And.intro hA' (And.intro ha hb))
          clear hA hA' ha hb hs
          go_wp2_with fail
          refine (rhas_eq a k true _ hlt HH.out.2.1).mono ?_
          rintro e w9 ⟨rfl, hE⟩
          replace k1 := k1.ext hE
          replace k2 := k2.ext hE
          replace k3 := k3.ext hE
          replace k4 := k4.ext hE
          replace hbel := bel_call hbel hE
          clear hE
          clear p0 p1 p2 p3 q0 q1 q2 q3 r0 r1 r2 r3 s0 s1 s2 s3
          obtain ⟨p0, p1, p2, p3⟩ := k1.cells4; obtain ⟨q0, q1, q2, q3⟩ := k2.cells4; obtain ⟨r0, r1, r2, r3⟩ := k3.cells4; obtain ⟨s0, s1, s2, s3⟩ := k4.cells4
          go_wp2_with fail
          refine (rhas_eq b k _ _ hlt HH.out.2.2).mono ?_
          rintro e w9 ⟨rfl, hE⟩
          replace k1 := k1.ext hE
          replace k2 := k2.ext hE
          replace k3 := k3.ext hE
          replace k4 := k4.ext hE
          replace hbel := bel_call hbel hE
          clear hE
          clear p0 p1 p2 p3 q0 q1 q2 q3 r0 r1 r2 r3 s0 s1 s2 s3
          obtain ⟨p0, p1, p2, p3⟩ := k1.cells4; obtain ⟨q0, q1, q2, q3⟩ := k2.cells4; obtain ⟨r0, r1, r2, r3⟩ := k3.cells4; obtain ⟨s0, s1, s2, s3⟩ := k4.cells4
          go_wp2
          go_roundw
          case rel => exact ⟨k + 1, by omega, by go_num, by rw [HH.out.1]; exact k1, k2, k3, k4, hbel⟩
          case measure => simp [intOf]; omega
        | _ =>
          have hA' : cut X (k + 1) = A ||| 1#256 <<< k := by rw [hs, ha, hb, ← hA]; simp
          have HH := Lib.hid (And.intro hA' (And.intro ha hb))
          clear hA hA' ha hb hs
          go_wp2_with fail
          refine (rhas_eq a k true _ hlt HH.out.2.1).mono ?_
          rintro e w9 ⟨rfl, hE⟩
          replace k1 := k1.ext hE
          replace k2 := k2.ext hE
          replace k3 := k3.ext hE
          replace k4 := k4.ext hE
          replace hbel := bel_call hbel hE
          clear hE
          clear p0 p1 p2 p3 q0 q1 q2 q3 r0 r1 r2 r3 s0 s1 s2 s3
          obtain ⟨p0, p1, p2, p3⟩ := k1.cells4; obtain ⟨q0, q1, q2, q3⟩ := k2.cells4; obtain ⟨r0, r1, r2, r3⟩ := k3.cells4; obtain ⟨s0, s1, s2, s3⟩ := k4.cells4
          go_wp2_with fail
          refine (rhas_eq b k _ _ hlt HH.out.2.2).mono ?_
          rintro e w9 ⟨rfl, hE⟩
          replace k1 := k1.ext hE
          replace k2 := k2.ext hE
          replace k3 := k3.ext hE
          replace k4 := k4.ext hE
          replace hbel := bel_call hbel hE
          clear hE
          clear p0 p1 p2 p3 q0 q1 q2 q3 r0 r1 r2 r3 s0 s1 s2 s3
          obtain ⟨p0, p1, p2, p3⟩ := k1.cells4; obtain ⟨q0, q1, q2, q3⟩ := k2.cells4; obtain ⟨r0, r1, r2, r3⟩ := k3.cells4; obtain ⟨s0, s1, s2, s3⟩ := k4.cells4
          go_wp2_with fail
          refine (rwith_eq A k _ _ hlt rfl).mono ?_
          rintro e w9 ⟨rfl, hE⟩
          replace k1 := k1.ext hE
          replace k2 := k2.ext hE
          replace k3 := k3.ext hE
          replace k4 := k4.ext hE
          replace hbel := bel_call hbel hE
          clear hE
          clear p0 p1 p2 p3 q0 q1 q2 q3 r0 r1 r2 r3 s0 s1 s2 s3
          obtain ⟨p0, p1, p2, p3⟩ := k1.cells4; obtain ⟨q0, q1, q2, q3⟩ := k2.cells4; obtain ⟨r0, r1, r2, r3⟩ := k3.cells4; obtain ⟨s0, s1, s2, s3⟩ := k4.cells4
          have hfr := k1.free
          go_wp2
          go_roundw
          case rel => exact ⟨k + 1, by omega, by go_num, by rw [HH.out.1]; exact k1.store4 _ _ _ _, k2.other4 (by omega) _ _ _ _, k3.other4 (by omega) _ _ _ _, k4.other4 (by omega) _ _ _ _, bel_set4 hbel (by omega) _ _ _ _⟩
          case measure => simp [intOf]; omega
      | false =>
        have hA' : cut X (k + 1) = A := by rw [hs, ha, ← hA]; simp
        have HH := Lib.hid (And.intro hA' ha)
        clear hA hA' ha hs
        go_wp2_with fail
        refine (rhas_eq a k false _ hlt HH.out.2).mono ?_
        rintro e w9 ⟨rfl, hE⟩
        replace k1 := k1.ext hE
        replace k2 := k2.ext hE
        replace k3 := k3.ext hE
        replace k4 := k4.ext hE
        replace hbel := bel_call hbel hE
        clear hE
        clear p0 p1 p2 p3 q0 q1 q2 q3 r0 r1 r2 r3 s0 s1 s2 s3
        obtain ⟨p0, p1, p2, p3⟩ := k1.cells4; obtain ⟨q0, q1, q2, q3⟩ := k2.cells4; obtain ⟨r0, r1, r2, r3⟩ := k3.cells4; obtain ⟨s0, s1, s2, s3⟩ := k4.cells4
        go_wp2
        go_roundw
        case rel => exact ⟨k + 1, by omega, by go_num, by rw [HH.out.1]; exact k1, k2, k3, k4, hbel⟩
        case measure => simp [intOf]; omega
    · obtain rfl : k = 256 := by omega
      rw [cut_full] at hA
      have hfr := k4.free
      have HA := Lib.hid hA
      clear hA
      go_wp2
      refine bodyPost_ret (v := sv X) ?_ rfl ⟨rfl, by (repeat' (first | (with_reducible exact Below.refl _ _) | (with_reducible assumption) | (with_reducible refine below_drewN ?_ _) | (with_reducible refine Below.alloc ?_ ?_ _) | (with_reducible refine Below.drew ?_) | (with_reducible refine Below.setCell ?_ ?_ _) | (with_reducible refine Below.trans ?_ (Below.mono (by with_reducible assumption) ?_)) | go_size))⟩
      rw [HA.out]
      simp [results, Tryz.results68, go_sem, *]
set_option maxHeartbeats 2000000 in
set_option maxRecDepth 20000 in
theorem rminus_any (a b : BitVec 256) (w : World) :
    Calls Tryz.prog 43 #[sv a, sv b] w fun e w' => e = .returned (sv (a &&& ~~~b)) ∧ Below w.heap.size w w' := by
  have k1 := Blk.new (((w.alloc (.cells (svs a) 36)).alloc (.cells (svs b) 36)).alloc (.cells zer 36)) zer 36
  have k2 := (((Blk.new w (svs a) 36).alloc (.cells (svs b) 36)).alloc (.cells zer 36)).alloc (.cells zer 36)
  have k3 := ((Blk.new (w.alloc (.cells (svs a) 36)) (svs b) 36).alloc (.cells zer 36)).alloc (.cells zer 36)
  have k4 := (Blk.new ((w.alloc (.cells (svs a) 36)).alloc (.cells (svs b) 36)) zer 36).alloc (.cells zer 36)
  simp only [World.size_alloc] at k1 k3 k4
  have hbel : Below w.heap.size w ((((w.alloc (.cells (svs a) 36)).alloc (.cells (svs b) 36)).alloc (.cells zer 36)).alloc (.cells zer 36)) := by (repeat' (first | (with_reducible exact Below.refl _ _) | (with_reducible assumption) | (with_reducible refine below_drewN ?_ _) | (with_reducible refine Below.alloc ?_ ?_ _) | (with_reducible refine Below.drew ?_) | (with_reducible refine Below.setCell ?_ ?_ _) | (with_reducible refine Below.trans ?_ (Below.mono (by with_reducible assumption) ?_)) | go_size))
  obtain ⟨X, hX⟩ : ∃ X, a &&& ~~~b = X := ⟨_, rfl⟩
  rw [hX]
  have hbit : ∀ k, k < 256 → X.getLsbD k = (a.getLsbD k && ! b.getLsbD k) := fun k hk => by rw [← hX]; simp [hk]
  have HX := Lib.hid hbit
  clear hX hbit
  go_enter Tryz.func43, Tryz.ntmps43
  go_wp2_with fail
  go_loopw [6] (fun i wr => ∃ k : Nat, k ≤ 256 ∧ i = .int .i64 k ∧ Blk wr (w.heap.size + 3) (svs (cut X k)) 36 ∧ Blk wr w.heap.size (svs a) 36 ∧ Blk wr (w.heap.size + 1) (svs b) 36 ∧ Blk wr (w.heap.size + 2) zer 36 ∧ Below w.heap.size w wr) (fun i _ => 256 - (intOf i).toNat)
  case atStart => exact ⟨0, Nat.zero_le _, rfl, by rw [cut_zero, ← zer_svs]; exact k1, k2, k3, k4, hbel⟩
  case round =>
    clear k1 k2 k3 k4 hbel
    obtain ⟨k, hk, rfl, k1, k2, k3, k4, hbel⟩ := hrel
    obtain ⟨A, hA⟩ : ∃ A, cut X k = A := ⟨_, rfl⟩
    rw [hA] at k1
    obtain ⟨p0, p1, p2, p3⟩ := k1.cells4; obtain ⟨q0, q1, q2, q3⟩ := k2.cells4; obtain ⟨r0, r1, r2, r3⟩ := k3.cells4; obtain ⟨s0, s1, s2, s3⟩ := k4.cells4
    by_cases hlt : k < 256
    · have hs := cut_succ X k hlt
      rw [HX.out k hlt] at hs
      cases ha : a.getLsbD k with
      | true =>
        cases hb : b.getLsbD k with
        | true =>
          have hA' : cut X (k + 1) = A := by rw [hs, ha, hb, ← hA]; simp
          have HH := Lib.hid (And.intro hA' (And.intro ha hb))
          clear hA hA' ha hb hs
          go_wp2_with fail
          refine (rhas_eq a k true _ hlt HH.out.2.1).mono ?_
          rintro e w9 ⟨rfl, hE⟩
          replace k1 := k1.ext hE
          replace k2 := k2.ext hE
          replace k3 := k3.ext hE
          replace k4 := k4.ext hE
          replace hbel := bel_call hbel hE
          clear hE
          clear p0 p1 p2 p3 q0 q1 q2 q3 r0 r1 r2 r3 s0 s1 s2 s3
          obtain ⟨p0, p1, p2, p3⟩ := k1.cells4; obtain ⟨q0, q1, q2, q3⟩ := k2.cells4; obtain ⟨r0, r1, r2, r3⟩ := k3.cells4; obtain ⟨s0, s1, s2, s3⟩ := k4.cells4
          go_wp2_with fail
          refine (rhas_eq b k _ _ hlt HH.out.2.2).mono ?_
          rintro e w9 ⟨rfl, hE⟩
          replace k1 := k1.ext hE
          replace k2 := k2.ext hE
          replace k3 := k3.ext hE
          replace k4 := k4.ext hE
          replace hbel := bel_call hbel hE
          clear hE
          clear p0 p1 p2 p3 q0 q1 q2 q3 r0 r1 r2 r3 s0 s1 s2 s3
          obtain ⟨p0, p1, p2, p3⟩ := k1.cells4; obtain ⟨q0, q1, q2, q3⟩ := k2.cells4; obtain ⟨r0, r1, r2, r3⟩ := k3.cells4; obtain ⟨s0, s1, s2, s3⟩ := k4.cells4
          go_wp2
          go_roundw
          case rel => exact ⟨k + 1, by omega, by go_num, by rw [HH.out.1]; exact k1, k2, k3, k4, hbel⟩
          case measure => simp [intOf]; omega
        | _ =>
          have hA' : cut X (k + 1) = A ||| 1#256 <<< k := by rw [hs, ha, hb, ← hA]; simp
          have HH := Lib.hid (And.intro hA' (And.intro ha hb))
          clear hA hA' ha hb hs
          go_wp2_with fail
          refine (rhas_eq a k true _ hlt HH.out.2.1).mono ?_
          rintro e w9 ⟨rfl, hE⟩
          replace k1 := k1.ext hE
          replace k2 := k2.ext hE
          replace k3 := k3.ext hE
          replace k4 := k4.ext hE
          replace hbel := bel_call hbel hE
          clear hE
          clear p0 p1 p2 p3 q0 q1 q2 q3 r0 r1 r2 r3 s0 s1 s2 s3
          obtain ⟨p0, p1, p2, p3⟩ := k1.cells4; obtain ⟨q0, q1, q2, q3⟩ := k2.cells4; obtain ⟨r0, r1, r2, r3⟩ := k3.cells4; obtain ⟨s0, s1, s2, s3⟩ := k4.cells4
          go_wp2_with fail
          refine (rhas_eq b k _ _ hlt HH.out.2.2).mono ?_
          rintro e w9 ⟨rfl, hE⟩
          replace k1 := k1.ext hE
          replace k2 := k2.ext hE
          replace k3 := k3.ext hE
          replace k4 := k4.ext hE
          replace hbel := bel_call hbel hE
          clear hE
          clear p0 p1 p2 p3 q0 q1 q2 q3 r0 r1 r2 r3 s0 s1 s2 s3
          obtain ⟨p0, p1, p2, p3⟩ := k1.cells4; obtain ⟨q0, q1, q2, q3⟩ := k2.cells4; obtain ⟨r0, r1, r2, r3⟩ := k3.cells4; obtain ⟨s0, s1, s2, s3⟩ := k4.cells4
          go_wp2_with fail
          refine (rwith_eq A k _ _ hlt rfl).mono ?_
          rintro e w9 ⟨rfl, hE⟩
          replace k1 := k1.ext hE
          replace k2 := k2.ext hE
          replace k3 := k3.ext hE
          replace k4 := k4.ext hE
          replace hbel := bel_call hbel hE
          clear hE
          clear p0 p1 p2 p3 q0 q1 q2 q3 r0 r1 r2 r3 s0 s1 s2 s3
          obtain ⟨p0, p1, p2, p3⟩ := k1.cells4; obtain ⟨q0, q1, q2, q3⟩ := k2.cells4; obtain ⟨r0, r1, r2, r3⟩ := k3.cells4; obtain ⟨s0, s1, s2, s3⟩ := k4.cells4
          have hfr := k1.free
          go_wp2
          go_roundw
          case rel => exact ⟨k + 1, by omega, by go_num, by rw [HH.out.1]; exact k1.store4 _ _ _ _, k2.other4 (by omega) _ _ _ _, k3.other4 (by omega) _ _ _ _, k4.other4 (by omega) _ _ _ _, bel_set4 hbel (by omega) _ _ _ _⟩
          case measure => simp [intOf]; omega
      | false =>
        have hA' : cut X (k + 1) = A := by rw [hs, ha, ← hA]; simp
        have HH := Lib.hid (And.intro hA' ha)
        clear hA hA' ha hs
        go_wp2_with fail
        refine (rhas_eq a k false _ hlt HH.out.2).mono ?_
        rintro e w9 ⟨rfl, hE⟩
        replace k1 := k1.ext hE
        replace k2 := k2.ext hE
        replace k3 := k3.ext hE
        replace k4 := k4.ext hE
        replace hbel := bel_call hbel hE
        clear hE
        clear p0 p1 p2 p3 q0 q1 q2 q3 r0 r1 r2 r3 s0 s1 s2 s3
        obtain ⟨p0, p1, p2, p3⟩ := k1.cells4; obtain ⟨q0, q1, q2, q3⟩ := k2.cells4; obtain ⟨r0, r1, r2, r3⟩ := k3.cells4; obtain ⟨s0, s1, s2, s3⟩ := k4.cells4
        go_wp2
        go_roundw
        case rel => exact ⟨k + 1, by omega, by go_num, by rw [HH.out.1]; exact k1, k2, k3, k4, hbel⟩
        case measure => simp [intOf]; omega
    · obtain rfl : k = 256 := by omega
      rw [cut_full] at hA
      have hfr := k4.free
      have HA := Lib.hid hA
      clear hA
      go_wp2
      refine bodyPost_ret (v := sv X) ?_ rfl ⟨rfl, by (repeat' (first | (with_reducible exact Below.refl _ _) | (with_reducible assumption) | (with_reducible refine below_drewN ?_ _) | (with_reducible refine Below.alloc ?_ ?_ _) | (with_reducible refine Below.drew ?_) | (with_reducible refine Below.setCell ?_ ?_ _) | (with_reducible refine Below.trans ?_ (Below.mono (by with_reducible assumption) ?_)) | go_size))⟩
      rw [HA.out]
      simp [results, Tryz.results43, go_sem, *]
theorem rinter_eq (s t r : BitVec 256) (h : s &&& t = r) (w : World) :
    Calls Tryz.prog 68 #[sv s, sv t] w fun e w' => e = .returned (sv r) ∧ Below w.heap.size w w' := by subst h; exact rinter_any s t w
theorem runion_eq (s t r : BitVec 256) (h : s ||| t = r) (w : World) :
    Calls Tryz.prog 66 #[sv s, sv t] w fun e w' => e = .returned (sv r) ∧ Below w.heap.size w w' := by subst h; exact runion_any s t w
theorem rminus_eq (s t r : BitVec 256) (h : s &&& ~~~t = r) (w : World) :
    Calls Tryz.prog 43 #[sv s, sv t] w fun e w' => e = .returned (sv r) ∧ Below w.heap.size w w' := by subst h; exact rminus_any s t w
theorem rall_eq (r : BitVec 256) (h : full = r) (w : World) :
    Calls Tryz.prog 44 #[] w fun e w' => e = .returned (sv r) ∧ Below w.heap.size w w' := by subst h; exact rall_any w
set_option maxHeartbeats 1000000 in
set_option maxRecDepth 20000 in
theorem rcompl_any (a : BitVec 256) (w : World) :
    Calls Tryz.prog 20 #[sv a] w fun e w' => e = .returned (sv (~~~a)) ∧ Below w.heap.size w w' := by
  obtain ⟨f, hf⟩ : ∃ f, full = f := ⟨_, rfl⟩
  obtain ⟨c, hc⟩ : ∃ c, ~~~a = c := ⟨_, rfl⟩
  have hfc : f &&& ~~~a = c := by
    rw [← hf, ← hc]
    apply BitVec.eq_of_getLsbD_eq
    intro i hi
    have hfb : full.getLsbD i = true := by unfold full; rw [BitVec.getLsbD_not]; simp [hi]
    rw [BitVec.getLsbD_and, hfb]; simp
  have HH := Lib.hid (And.intro hf hfc)
  rw [hc]
  clear hf hc hfc
  have k1 := (Blk.new w (svs a) 36).alloc (.cells zer 36)
  have k2 := Blk.new (w.alloc (.cells (svs a) 36)) zer 36
  simp only [World.size_alloc] at k2
  have hbel : Below w.heap.size w ((w.alloc (.cells (svs a) 36)).alloc (.cells zer 36)) := by (repeat' (first | (with_reducible exact Below.refl _ _) | (with_reducible assumption) | (with_reducible refine below_drewN ?_ _) | (with_reducible refine Below.alloc ?_ ?_ _) | (with_reducible refine Below.drew ?_) | (with_reducible refine Below.setCell ?_ ?_ _) | (with_reducible refine Below.trans ?_ (Below.mono (by with_reducible assumption) ?_)) | go_size))
  go_enter Tryz.func20, Tryz.ntmps20
  go_wp2_with fail
  refine wp_region_tail (fun _ => none) 3 (by kernel_rfl) (by kernel_rfl) (fun _ _ h => by cases h) (fun hex => ?_)
  simp only [List.take_succ_cons, List.take_zero, List.drop_succ_cons, List.drop_zero]
  iterate 3
    (refine wpS_one (A := ?_) hex rfl rfl (by simp) ?_ ?_ ?_
     rotate_left 2
     · intro w' hC K hK
       obtain ⟨hcell, hfrz⟩ := bcell hC.1.ext
       obtain ⟨p0, p1, p2, p3⟩ := (k1.ext hC.1.ext).cells4; clear hcell hfrz
       go_wp2_with (first | (go_at_call 44; refine (rall_eq f HH.out.1 _).mono ?_; rintro e w2 ⟨rfl, hb2⟩) | (go_at_call 43; refine (rminus_eq f a c HH.out.2 _).mono ?_; rintro e w2 ⟨rfl, hb2⟩))
       refine hK _ ?_
       first | exact Gr.refl _ _ | exact Gr.of_ext (by assumption) hC.1.1.size
     rotate_left 1
     · rfl
     clear hex; intro hex)
  refine wpS_nil fun w3 hE => ?_
  replace hE := hE.1.ext
  obtain ⟨hcell_w3, hfrz_w3⟩ := bcell hE
  clear hcell_w3 hfrz_w3 hex
  replace k2 := k2.ext hE
  replace hbel := bel_call hbel hE
  clear hE
  obtain ⟨p0, p1, p2, p3⟩ := k2.cells4
  have hfr := k2.free
  go_wp2
  refine bodyPost_ret (v := sv c) ?_ rfl ⟨rfl, by (repeat' (first | (with_reducible exact Below.refl _ _) | (with_reducible assumption) | (with_reducible refine below_drewN ?_ _) | (with_reducible refine Below.alloc ?_ ?_ _) | (with_reducible refine Below.drew ?_) | (with_reducible refine Below.setCell ?_ ?_ _) | (with_reducible refine Below.trans ?_ (Below.mono (by with_reducible assumption) ?_)) | go_size))⟩
  simp [results, Tryz.results20, go_sem, *]
set_option maxHeartbeats 1000000 in
set_option maxRecDepth 20000 in
theorem rof_any (v : Value) (l : List UInt8) (w : World) (hv : Bytes w v l) :
    Calls Tryz.prog 21 #[v] w fun e w' => e = .returned (sv (ofl l)) ∧ Below w.heap.size w w' := by
  obtain ⟨hlen, ⟨rfl, a, cap, rfl⟩ | ⟨b, o, cap, rfl, hcap, hcap2, hpos, hb, hcells⟩⟩ := hv.open
  · go_enter Tryz.func21, Tryz.ntmps21
    go_wp2
    refine wp_loop_rounds 1 ?_
    rw [rounds_succ]
    go_wp2
    refine bodyPost_ret (v := sv (ofl [])) ?_ rfl ⟨rfl, by (repeat' (first | (with_reducible exact Below.refl _ _) | (with_reducible assumption) | (with_reducible refine below_drewN ?_ _) | (with_reducible refine Below.alloc ?_ ?_ _) | (with_reducible refine Below.drew ?_) | (with_reducible refine Below.setCell ?_ ?_ _) | (with_reducible refine Below.trans ?_ (Below.mono (by with_reducible assumption) ?_)) | go_size))⟩
    simp [results, Tryz.results21, go_sem, ofl, wd_zero]
  · have HC := Lib.hid hcells
    clear hcells
    go_enter Tryz.func21, Tryz.ntmps21
    go_wp2
    go_loopw [4] (fun i wr => ∃ k : Nat, k ≤ l.length ∧ i = .int .i64 k ∧ Blk wr w.heap.size zer 36 ∧ Blk wr (w.heap.size + 1) (svs (ofl (l.take k))) 36 ∧ Below w.heap.size w wr) (fun i _ => l.length - (intOf i).toNat)
    case atStart => exact ⟨0, Nat.zero_le _, rfl, (Blk.new w _ _).alloc _, by simpa [svs, ofl, wd_zero] using Blk.new (w.alloc _) _ _, by (repeat' (first | (with_reducible exact Below.refl _ _) | (with_reducible assumption) | (with_reducible refine below_drewN ?_ _) | (with_reducible refine Below.alloc ?_ ?_ _) | (with_reducible refine Below.drew ?_) | (with_reducible refine Below.setCell ?_ ?_ _) | (with_reducible refine Below.trans ?_ (Below.mono (by with_reducible assumption) ?_)) | go_size))⟩
    case round =>
      obtain ⟨k, hk, rfl, hB0, hB1, hbel⟩ := hrel
      obtain ⟨A, hA⟩ : ∃ A, ofl (l.take k) = A := ⟨_, rfl⟩
      rw [hA] at hB1
      obtain ⟨c0, c1, c2, c3⟩ := hB1.cells4
      by_cases hlt : k < l.length
      · have hsrc : wr.cell? ⟨b, o + k, none⟩ = some (ub (nth l k)) := by rw [hbel.cell (p := ⟨b, o + k, none⟩) hb]; exact HC.out k hlt
        have ht := ofl_take l k hlt
        rw [hA, Int.toNat_natCast] at ht
        have hx := (nth l k).toNat_lt
        generalize nth l k = x at *
        have HT := Lib.hid ht
        have hz := hB1.lt
        clear ht hA
        go_wp2_with fail
        refine wp_region_tail (fun _ => none) 7 (by kernel_rfl) (by kernel_rfl) (fun _ _ h => by cases h) (fun hex => ?_)
        simp only [List.take_succ_cons, List.take_zero, List.drop_succ_cons, List.drop_zero]
        iterate 7
          (refine wpS_one (A := ?_) hex rfl rfl (by simp) ?_ ?_ ?_
           rotate_left 2
           · intro w' hC K hK
             obtain ⟨hcell, hfrz⟩ := bcell hC.1.ext
             obtain ⟨p0, p1, p2, p3⟩ := (hB1.ext hC.1.ext).cells4; have hsrc' := (hC.1.ext.cell (p := ⟨b, o + k, none⟩) (by have := hbel.size; simp; omega)).trans hsrc; clear hcell hfrz
             go_wp2_with (go_at_call 45; refine (rwith_eq A x.toNat _ _ hx rfl).mono ?_; rintro e w2 ⟨rfl, hb2⟩)
             refine hK _ ?_
             first | exact Gr.refl _ _ | exact Gr.of_ext (by assumption) hC.1.1.size
           rotate_left 1
           · rfl
           clear hex; intro hex)
        refine wpS_nil fun w2 hE => ?_
        replace hE := hE.1.ext
        obtain ⟨hcell_w2, hfrz_w2⟩ := bcell hE
        have hB0' := hB0.ext hE
        have hB1' := hB1.ext hE
        have hbel2 : Below w.heap.size w w2 := bel_call hbel hE
        clear c0 c1 c2 c3 hsrc hB0 hB1 hcell_w2 hfrz_w2 hex hE
        obtain ⟨c0, c1, c2, c3⟩ := hB1'.cells4
        have hfr := hB1'.free
        go_wp2
        go_roundw
        case rel => exact ⟨k + 1, by omega, by go_num, hB0'.other4 (by omega) _ _ _ _, by rw [HT.out]; exact hB1'.store4 _ _ _ _, bel_set4 hbel2 (by omega) _ _ _ _⟩
        case measure => simp [intOf]; omega
      · obtain rfl : k = l.length := by omega
        rw [List.take_length] at hA
        obtain ⟨d0, d1, d2, d3⟩ := hB0.cells4
        have hfr := hB0.free
        have HA := Lib.hid hA
        clear hA
        go_wp2
        refine bodyPost_ret (v := sv (ofl l)) ?_ rfl ⟨rfl, by (repeat' (first | (with_reducible exact Below.refl _ _) | (with_reducible assumption) | (with_reducible refine below_drewN ?_ _) | (with_reducible refine Below.alloc ?_ ?_ _) | (with_reducible refine Below.drew ?_) | (with_reducible refine Below.setCell ?_ ?_ _) | (with_reducible refine Below.trans ?_ (Below.mono (by with_reducible assumption) ?_)) | go_size))⟩
        rw [HA.out]
        simp [results, Tryz.results21, go_sem, *]
end Go.Proofs.YtnecafokkhhhhaaGreatDoor
namespace Go.Proofs.YtnecafokkhhhhaaGreatDoor
open Go Go.RowKit
theorem ref_word : sAlnum ||| 1#256 <<< 95 = sWord := by decide +kernel
theorem ref_space : rng 9 13 ||| 1#256 <<< 32 = sSpace := by decide +kernel
theorem ref_cntrl : rng 0 31 ||| 1#256 <<< 127 = sCntrl := by decide +kernel
theorem ref_any : full = sAny := by decide +kernel
set_option maxHeartbeats 4000000 in
set_option maxRecDepth 20000 in
theorem rnamed_any (t : ByteArray) (w : World) (o : Option (BitVec 256)) (ho : nmd t.data.toList = o) :
    Calls Tryz.prog 87 #[.string t] w fun e w' => e = .returned (.tuple #[sv (o.getD 0#256), .bool o.isSome]) ∧ Ext w w' := by
  obtain ⟨L, hL⟩ : ∃ x, sLower = x := ⟨_, rfl⟩
  obtain ⟨U, hU⟩ : ∃ x, sUpper = x := ⟨_, rfl⟩
  obtain ⟨D, hD⟩ : ∃ x, sDigit = x := ⟨_, rfl⟩
  obtain ⟨A, hA⟩ : ∃ x, sAlpha = x := ⟨_, rfl⟩
  obtain ⟨N, hN⟩ : ∃ x, sAlnum = x := ⟨_, rfl⟩
  have hRL : ∀ w, Calls Tryz.prog 70 #[.int .i64 97, .int .i64 122] w fun e w' => e = .returned (sv L) ∧ Below w.heap.size w w' := fun w => rrange_eq 97 122 L w (by decide) (by decide) hL
  have hRU : ∀ w, Calls Tryz.prog 70 #[.int .i64 65, .int .i64 90] w fun e w' => e = .returned (sv U) ∧ Below w.heap.size w w' := fun w => rrange_eq 65 90 U w (by decide) (by decide) hU
  have hRD : ∀ w, Calls Tryz.prog 70 #[.int .i64 48, .int .i64 57] w fun e w' => e = .returned (sv D) ∧ Below w.heap.size w w' := fun w => rrange_eq 48 57 D w (by decide) (by decide) hD
  have hUA := fun w => runion_eq L U A (by rw [← hL, ← hU, ← hA]; rfl) w
  have hUN := fun w => runion_eq A D N (by rw [← hA, ← hD, ← hN]; rfl) w
  have HS := Lib.hid (And.intro hL (And.intro hU (And.intro hD (And.intro hA hN))))
  have HO := Lib.hid ho
  clear hL hU hD hA hN ho
  go_enter Tryz.func87, Tryz.ntmps87
  go_wp2_with fail
  have HE0 := Lib.hid (show Ext w (w.alloc (.cells zer 36)) from by (repeat' (first | (with_reducible exact Below.refl _ _) | (with_reducible assumption) | (with_reducible refine below_drewN ?_ _) | (with_reducible refine Below.alloc ?_ ?_ _) | (with_reducible refine Below.drew ?_) | (with_reducible refine Below.setCell ?_ ?_ _) | (with_reducible refine Below.trans ?_ (Below.mono (by with_reducible assumption) ?_)) | go_size)))
  have HB0 := Lib.hid (Blk.new w zer 36)
  generalize w.alloc (.cells zer 36) = w0 at HE0 HB0 ⊢
  refine (hRL _).mono ?_
  rintro e v1 ⟨rfl, hx⟩
  have hxx : Ext w0 (v1.alloc (.cells (svs L) 36)) := bel_alloc (Below.refl _ _) hx _
  have HE1 := Lib.hid (bel_call HE0.out hxx)
  have HB1 := Lib.hid (And.intro (HB0.out.ext hxx) (Blk.new v1 (svs L) 36))
  clear hx hxx hRL HE0 HB0
  go_wp2_with fail
  generalize hp : v1.heap.size = p1 at HB1 ⊢
  clear hp
  generalize v1.alloc (.cells (svs L) 36) = w1 at HE1 HB1 ⊢
  refine (hRU _).mono ?_
  rintro e v2 ⟨rfl, hx⟩
  have hxx : Ext w1 (v2.alloc (.cells (svs U) 36)) := bel_alloc (Below.refl _ _) hx _
  have HE2 := Lib.hid (bel_call HE1.out hxx)
  have HB2 := Lib.hid (And.intro (HB1.out.1.ext hxx) (And.intro (HB1.out.2.ext hxx) (Blk.new v2 (svs U) 36)))
  clear hx hxx hRU HE1 HB1
  go_wp2_with fail
  generalize hp : v2.heap.size = p2 at HB2 ⊢
  clear hp
  generalize v2.alloc (.cells (svs U) 36) = w2 at HE2 HB2 ⊢
  refine (hRD _).mono ?_
  rintro e v3 ⟨rfl, hx⟩
  have hxx : Ext w2 (v3.alloc (.cells (svs D) 36)) := bel_alloc (Below.refl _ _) hx _
  have HE3 := Lib.hid (bel_call HE2.out hxx)
  have HB3 := Lib.hid (And.intro (HB2.out.1.ext hxx) (And.intro (HB2.out.2.1.ext hxx) (And.intro (HB2.out.2.2.ext hxx) (Blk.new v3 (svs D) 36))))
  clear hx hxx hRD HE2 HB2
  obtain ⟨a0, a1, a2, a3⟩ := HB3.out.2.1.cells4
  obtain ⟨b0, b1, b2, b3⟩ := HB3.out.2.2.1.cells4
  go_wp2_with fail
  clear a0 a1 a2 a3 b0 b1 b2 b3
  generalize hp : v3.heap.size = p3 at HB3 ⊢
  clear hp
  generalize v3.alloc (.cells (svs D) 36) = w3 at HE3 HB3 ⊢
  refine (hUA _).mono ?_
  rintro e v4 ⟨rfl, hx⟩
  have hxx : Ext w3 (v4.alloc (.cells (svs A) 36)) := bel_alloc (Below.refl _ _) hx _
  have HE4 := Lib.hid (bel_call HE3.out hxx)
  have HB4 := Lib.hid (And.intro (HB3.out.1.ext hxx) (And.intro (HB3.out.2.1.ext hxx) (And.intro (HB3.out.2.2.1.ext hxx) (And.intro (HB3.out.2.2.2.ext hxx) (Blk.new v4 (svs A) 36)))))
  clear hx hxx hUA HE3 HB3
  obtain ⟨a0, a1, a2, a3⟩ := HB4.out.2.2.2.2.cells4
  obtain ⟨b0, b1, b2, b3⟩ := HB4.out.2.2.2.1.cells4
  go_wp2_with fail
  clear a0 a1 a2 a3 b0 b1 b2 b3
  generalize hp : v4.heap.size = p4 at HB4 ⊢
  clear hp
  generalize v4.alloc (.cells (svs A) 36) = w4 at HE4 HB4 ⊢
  refine (hUN _).mono ?_
  rintro e v5 ⟨rfl, hx⟩
  have hxx : Ext w4 (v5.alloc (.cells (svs N) 36)) := bel_alloc (Below.refl _ _) hx _
  have HE5 := Lib.hid (bel_call HE4.out hxx)
  have HB5 := Lib.hid (And.intro (HB4.out.1.ext hxx) (And.intro (HB4.out.2.1.ext hxx) (And.intro (HB4.out.2.2.1.ext hxx) (And.intro (HB4.out.2.2.2.1.ext hxx) (And.intro (HB4.out.2.2.2.2.ext hxx) (Blk.new v5 (svs N) 36))))))
  clear hx hxx hUN HE4 HB4
  have hsz5 : (v5.alloc (.cells (svs N) 36)).heap.size = v5.heap.size + 1 := by simp
  by_cases h0 : t.data.toList = [100, 105, 103, 105, 116]
  ·
    have ho := HO.out
    rw [nmd, if_pos h0] at ho
    have q0 : (t.toList == [100, 105, 103, 105, 116]) = true := by rw [str_eq, h0]; rfl
    clear h0 HO
    have HF := Lib.hid (And.intro ho HS.out.2.2.1)
    clear HS ho
    have hb := HB5.out.1
    have hE := HE5.out
    obtain ⟨x0, x1, x2, x3⟩ := HB5.out.2.2.2.1.cells4
    obtain ⟨z0, z1, z2, z3⟩ := hb.cells4
    have f0 := hb.free 0
    have f1 := hb.free 1
    have f2 := hb.free 2
    have f3 := hb.free 3
    have hlt := hb.lt
    obtain ⟨y0, y1, y2, y3⟩ := (hb.store4 (.int .u64 (wd D 0)) (.int .u64 (wd D 1)) (.int .u64 (wd D 2)) (.int .u64 (wd D 3))).cells4
    go_wp2_with fail
    refine bodyPost_ret (v := .tuple #[sv D, .bool true]) ?_ rfl ⟨by rw [← HF.out.1, ← HF.out.2]; rfl, by (repeat' (first | (with_reducible exact Below.refl _ _) | (with_reducible assumption) | (with_reducible refine below_drewN ?_ _) | (with_reducible refine Below.alloc ?_ ?_ _) | (with_reducible refine Below.drew ?_) | (with_reducible refine Below.setCell ?_ ?_ _) | (with_reducible refine Below.trans ?_ (Below.mono (by with_reducible assumption) ?_)) | go_size))⟩
    simp [results, Tryz.results87, go_sem, y0, y1, y2, y3]
  by_cases h1 : t.data.toList = [108, 111, 119, 101, 114]
  ·
    have ho := HO.out
    rw [nmd, if_neg h0, if_pos h1] at ho
    have q0 : (t.toList == [100, 105, 103, 105, 116]) = false := by rw [str_eq]; exact decide_eq_false h0
    have q1 : (t.toList == [108, 111, 119, 101, 114]) = true := by rw [str_eq, h1]; rfl
    clear h0 h1 HO
    have HF := Lib.hid (And.intro ho HS.out.1)
    clear HS ho
    have hb := HB5.out.1
    have hE := HE5.out
    obtain ⟨x0, x1, x2, x3⟩ := HB5.out.2.1.cells4
    obtain ⟨z0, z1, z2, z3⟩ := hb.cells4
    have f0 := hb.free 0
    have f1 := hb.free 1
    have f2 := hb.free 2
    have f3 := hb.free 3
    have hlt := hb.lt
    obtain ⟨y0, y1, y2, y3⟩ := (hb.store4 (.int .u64 (wd L 0)) (.int .u64 (wd L 1)) (.int .u64 (wd L 2)) (.int .u64 (wd L 3))).cells4
    go_wp2_with fail
    refine bodyPost_ret (v := .tuple #[sv L, .bool true]) ?_ rfl ⟨by rw [← HF.out.1, ← HF.out.2]; rfl, by (repeat' (first | (with_reducible exact Below.refl _ _) | (with_reducible assumption) | (with_reducible refine below_drewN ?_ _) | (with_reducible refine Below.alloc ?_ ?_ _) | (with_reducible refine Below.drew ?_) | (with_reducible refine Below.setCell ?_ ?_ _) | (with_reducible refine Below.trans ?_ (Below.mono (by with_reducible assumption) ?_)) | go_size))⟩
    simp [results, Tryz.results87, go_sem, y0, y1, y2, y3]
  by_cases h2 : t.data.toList = [117, 112, 112, 101, 114]
  ·
    have ho := HO.out
    rw [nmd, if_neg h0, if_neg h1, if_pos h2] at ho
    have q0 : (t.toList == [100, 105, 103, 105, 116]) = false := by rw [str_eq]; exact decide_eq_false h0
    have q1 : (t.toList == [108, 111, 119, 101, 114]) = false := by rw [str_eq]; exact decide_eq_false h1
    have q2 : (t.toList == [117, 112, 112, 101, 114]) = true := by rw [str_eq, h2]; rfl
    clear h0 h1 h2 HO
    have HF := Lib.hid (And.intro ho HS.out.2.1)
    clear HS ho
    have hb := HB5.out.1
    have hE := HE5.out
    obtain ⟨x0, x1, x2, x3⟩ := HB5.out.2.2.1.cells4
    obtain ⟨z0, z1, z2, z3⟩ := hb.cells4
    have f0 := hb.free 0
    have f1 := hb.free 1
    have f2 := hb.free 2
    have f3 := hb.free 3
    have hlt := hb.lt
    obtain ⟨y0, y1, y2, y3⟩ := (hb.store4 (.int .u64 (wd U 0)) (.int .u64 (wd U 1)) (.int .u64 (wd U 2)) (.int .u64 (wd U 3))).cells4
    go_wp2_with fail
    refine bodyPost_ret (v := .tuple #[sv U, .bool true]) ?_ rfl ⟨by rw [← HF.out.1, ← HF.out.2]; rfl, by (repeat' (first | (with_reducible exact Below.refl _ _) | (with_reducible assumption) | (with_reducible refine below_drewN ?_ _) | (with_reducible refine Below.alloc ?_ ?_ _) | (with_reducible refine Below.drew ?_) | (with_reducible refine Below.setCell ?_ ?_ _) | (with_reducible refine Below.trans ?_ (Below.mono (by with_reducible assumption) ?_)) | go_size))⟩
    simp [results, Tryz.results87, go_sem, y0, y1, y2, y3]
  by_cases h3 : t.data.toList = [97, 108, 112, 104, 97]
  ·
    have ho := HO.out
    rw [nmd, if_neg h0, if_neg h1, if_neg h2, if_pos h3] at ho
    have q0 : (t.toList == [100, 105, 103, 105, 116]) = false := by rw [str_eq]; exact decide_eq_false h0
    have q1 : (t.toList == [108, 111, 119, 101, 114]) = false := by rw [str_eq]; exact decide_eq_false h1
    have q2 : (t.toList == [117, 112, 112, 101, 114]) = false := by rw [str_eq]; exact decide_eq_false h2
    have q3 : (t.toList == [97, 108, 112, 104, 97]) = true := by rw [str_eq, h3]; rfl
    clear h0 h1 h2 h3 HO
    have HF := Lib.hid (And.intro ho HS.out.2.2.2.1)
    clear HS ho
    have hb := HB5.out.1
    have hE := HE5.out
    obtain ⟨x0, x1, x2, x3⟩ := HB5.out.2.2.2.2.1.cells4
    obtain ⟨z0, z1, z2, z3⟩ := hb.cells4
    have f0 := hb.free 0
    have f1 := hb.free 1
    have f2 := hb.free 2
    have f3 := hb.free 3
    have hlt := hb.lt
    obtain ⟨y0, y1, y2, y3⟩ := (hb.store4 (.int .u64 (wd A 0)) (.int .u64 (wd A 1)) (.int .u64 (wd A 2)) (.int .u64 (wd A 3))).cells4
    go_wp2_with fail
    refine bodyPost_ret (v := .tuple #[sv A, .bool true]) ?_ rfl ⟨by rw [← HF.out.1, ← HF.out.2]; rfl, by (repeat' (first | (with_reducible exact Below.refl _ _) | (with_reducible assumption) | (with_reducible refine below_drewN ?_ _) | (with_reducible refine Below.alloc ?_ ?_ _) | (with_reducible refine Below.drew ?_) | (with_reducible refine Below.setCell ?_ ?_ _) | (with_reducible refine Below.trans ?_ (Below.mono (by with_reducible assumption) ?_)) | go_size))⟩
    simp [results, Tryz.results87, go_sem, y0, y1, y2, y3]
  by_cases h4 : t.data.toList = [97, 108, 110, 117, 109]
  ·
    have ho := HO.out
    rw [nmd, if_neg h0, if_neg h1, if_neg h2, if_neg h3, if_pos h4] at ho
    have q0 : (t.toList == [100, 105, 103, 105, 116]) = false := by rw [str_eq]; exact decide_eq_false h0
    have q1 : (t.toList == [108, 111, 119, 101, 114]) = false := by rw [str_eq]; exact decide_eq_false h1
    have q2 : (t.toList == [117, 112, 112, 101, 114]) = false := by rw [str_eq]; exact decide_eq_false h2
    have q3 : (t.toList == [97, 108, 112, 104, 97]) = false := by rw [str_eq]; exact decide_eq_false h3
    have q4 : (t.toList == [97, 108, 110, 117, 109]) = true := by rw [str_eq, h4]; rfl
    clear h0 h1 h2 h3 h4 HO
    have HF := Lib.hid (And.intro ho HS.out.2.2.2.2)
    clear HS ho
    have hb := HB5.out.1
    have hE := HE5.out
    obtain ⟨x0, x1, x2, x3⟩ := HB5.out.2.2.2.2.2.cells4
    obtain ⟨z0, z1, z2, z3⟩ := hb.cells4
    have f0 := hb.free 0
    have f1 := hb.free 1
    have f2 := hb.free 2
    have f3 := hb.free 3
    have hlt := hb.lt
    obtain ⟨y0, y1, y2, y3⟩ := (hb.store4 (.int .u64 (wd N 0)) (.int .u64 (wd N 1)) (.int .u64 (wd N 2)) (.int .u64 (wd N 3))).cells4
    go_wp2_with fail
    refine bodyPost_ret (v := .tuple #[sv N, .bool true]) ?_ rfl ⟨by rw [← HF.out.1, ← HF.out.2]; rfl, by (repeat' (first | (with_reducible exact Below.refl _ _) | (with_reducible assumption) | (with_reducible refine below_drewN ?_ _) | (with_reducible refine Below.alloc ?_ ?_ _) | (with_reducible refine Below.drew ?_) | (with_reducible refine Below.setCell ?_ ?_ _) | (with_reducible refine Below.trans ?_ (Below.mono (by with_reducible assumption) ?_)) | go_size))⟩
    simp [results, Tryz.results87, go_sem, y0, y1, y2, y3]
  by_cases h5 : t.data.toList = [119, 111, 114, 100]
  ·
    have ho := HO.out
    rw [nmd, if_neg h0, if_neg h1, if_neg h2, if_neg h3, if_neg h4, if_pos h5] at ho
    have q0 : (t.toList == [100, 105, 103, 105, 116]) = false := by rw [str_eq]; exact decide_eq_false h0
    have q1 : (t.toList == [108, 111, 119, 101, 114]) = false := by rw [str_eq]; exact decide_eq_false h1
    have q2 : (t.toList == [117, 112, 112, 101, 114]) = false := by rw [str_eq]; exact decide_eq_false h2
    have q3 : (t.toList == [97, 108, 112, 104, 97]) = false := by rw [str_eq]; exact decide_eq_false h3
    have q4 : (t.toList == [97, 108, 110, 117, 109]) = false := by rw [str_eq]; exact decide_eq_false h4
    have q5 : (t.toList == [119, 111, 114, 100]) = true := by rw [str_eq, h5]; rfl
    clear h0 h1 h2 h3 h4 h5 HO
    obtain ⟨S, hS⟩ : ∃ x, sWord = x := ⟨_, rfl⟩
    have hw : ∀ w, Calls Tryz.prog 45 #[sv N, .int .i64 95] w fun e w' => e = .returned (sv S) ∧ Below w.heap.size w w' := fun w => rwith_eq N 95 S w (by decide) (by rw [← HS.out.2.2.2.2, ← hS]; exact ref_word)
    have HF := Lib.hid (And.intro ho hS)
    clear hS HS ho
    obtain ⟨x0, x1, x2, x3⟩ := HB5.out.2.2.2.2.2.cells4
    have hE := HE5.out
    have hb := HB5.out.1
    go_wp2_with fail
    refine (hw _).mono ?_
    rintro e u0 ⟨rfl, hx0⟩
    replace hE := bel_call hE hx0
    replace hb := hb.ext hx0
    clear hx0
    obtain ⟨z0, z1, z2, z3⟩ := hb.cells4
    have f0 := hb.free 0
    have f1 := hb.free 1
    have f2 := hb.free 2
    have f3 := hb.free 3
    have hlt := hb.lt
    obtain ⟨y0, y1, y2, y3⟩ := (hb.store4 (.int .u64 (wd S 0)) (.int .u64 (wd S 1)) (.int .u64 (wd S 2)) (.int .u64 (wd S 3))).cells4
    go_wp2_with fail
    refine bodyPost_ret (v := .tuple #[sv S, .bool true]) ?_ rfl ⟨by rw [← HF.out.1, ← HF.out.2]; rfl, by (repeat' (first | (with_reducible exact Below.refl _ _) | (with_reducible assumption) | (with_reducible refine below_drewN ?_ _) | (with_reducible refine Below.alloc ?_ ?_ _) | (with_reducible refine Below.drew ?_) | (with_reducible refine Below.setCell ?_ ?_ _) | (with_reducible refine Below.trans ?_ (Below.mono (by with_reducible assumption) ?_)) | go_size))⟩
    simp [results, Tryz.results87, go_sem, y0, y1, y2, y3]
  by_cases h6 : t.data.toList = [120, 100, 105, 103, 105, 116]
  ·
    have ho := HO.out
    rw [nmd, if_neg h0, if_neg h1, if_neg h2, if_neg h3, if_neg h4, if_neg h5, if_pos h6] at ho
    have q0 : (t.toList == [100, 105, 103, 105, 116]) = false := by rw [str_eq]; exact decide_eq_false h0
    have q1 : (t.toList == [108, 111, 119, 101, 114]) = false := by rw [str_eq]; exact decide_eq_false h1
    have q2 : (t.toList == [117, 112, 112, 101, 114]) = false := by rw [str_eq]; exact decide_eq_false h2
    have q3 : (t.toList == [97, 108, 112, 104, 97]) = false := by rw [str_eq]; exact decide_eq_false h3
    have q4 : (t.toList == [97, 108, 110, 117, 109]) = false := by rw [str_eq]; exact decide_eq_false h4
    have q5 : (t.toList == [119, 111, 114, 100]) = false := by rw [str_eq]; exact decide_eq_false h5
    have q6 : (t.toList == [120, 100, 105, 103, 105, 116]) = true := by rw [str_eq, h6]; rfl
    clear h0 h1 h2 h3 h4 h5 h6 HO
    obtain ⟨S, hS⟩ : ∃ x, sXdigit = x := ⟨_, rfl⟩
    obtain ⟨R, hR⟩ : ∃ x, rng 97 102 = x := ⟨_, rfl⟩
    obtain ⟨Q, hQ⟩ : ∃ x, rng 65 70 = x := ⟨_, rfl⟩
    obtain ⟨V, hV⟩ : ∃ x, R ||| Q = x := ⟨_, rfl⟩
    have hr : ∀ w, Calls Tryz.prog 70 #[.int .i64 97, .int .i64 102] w fun e w' => e = .returned (sv R) ∧ Below w.heap.size w w' := fun w => rrange_eq 97 102 R w (by decide) (by decide) hR
    have hq : ∀ w, Calls Tryz.prog 70 #[.int .i64 65, .int .i64 70] w fun e w' => e = .returned (sv Q) ∧ Below w.heap.size w w' := fun w => rrange_eq 65 70 Q w (by decide) (by decide) hQ
    have hv := fun w => runion_eq R Q V hV w
    have hs := fun w => runion_eq D V S (by rw [← hV, ← hR, ← hQ, ← HS.out.2.2.1, ← hS]; rfl) w
    have HF := Lib.hid (And.intro ho hS)
    clear hS hR hQ hV HS ho
    have hE5 := HE5.out
    have hb := HB5.out.1
    have hd := HB5.out.2.2.2.1
    go_wp2_with fail
    refine wp_region_tail (fun _ => none) 5 (by kernel_rfl) (by kernel_rfl) (fun _ _ h => by cases h) (fun hex => ?_)
    simp only [List.take_succ_cons, List.take_zero, List.drop_succ_cons, List.drop_zero]
    iterate 5
      (refine wpS_one (A := ?_) hex rfl rfl (by simp) ?_ ?_ ?_
       rotate_left 2
       · intro w' hC K hK
         obtain ⟨hcell, hfrz⟩ := bcell hC.1.ext
         obtain ⟨x0, x1, x2, x3⟩ := (hd.ext hC.1.ext).cells4; clear hcell hfrz
         go_wp2_with (first | (go_at_call 70; first | ((with_reducible refine (hr _).mono ?_); rintro e w2 ⟨rfl, hb2⟩) | ((with_reducible refine (hq _).mono ?_); rintro e w2 ⟨rfl, hb2⟩)) | (go_at_call 66; first | ((with_reducible refine (hv _).mono ?_); rintro e w2 ⟨rfl, hb2⟩) | ((with_reducible refine (hs _).mono ?_); rintro e w2 ⟨rfl, hb2⟩)))
         refine hK _ ?_
         first | exact Gr.refl _ _ | exact Gr.of_ext (by assumption) hC.1.1.size
       rotate_left 1
       · rfl
       clear hex; intro hex)
    refine wpS_nil fun w6 hE => ?_
    replace hE := hE.1.ext
    obtain ⟨hcell_w6, hfrz_w6⟩ := bcell hE
    clear hcell_w6 hfrz_w6 hex
    replace hb := hb.ext hE
    replace hE5 := bel_call hE5 hE
    clear hE
    obtain ⟨z0, z1, z2, z3⟩ := hb.cells4
    have f0 := hb.free 0
    have f1 := hb.free 1
    have f2 := hb.free 2
    have f3 := hb.free 3
    have hlt := hb.lt
    obtain ⟨y0, y1, y2, y3⟩ := (hb.store4 (.int .u64 (wd S 0)) (.int .u64 (wd S 1)) (.int .u64 (wd S 2)) (.int .u64 (wd S 3))).cells4
    go_wp2_with fail
    refine bodyPost_ret (v := .tuple #[sv S, .bool true]) ?_ rfl ⟨by rw [← HF.out.1, ← HF.out.2]; rfl, by (repeat' (first | (with_reducible exact Below.refl _ _) | (with_reducible assumption) | (with_reducible refine below_drewN ?_ _) | (with_reducible refine Below.alloc ?_ ?_ _) | (with_reducible refine Below.drew ?_) | (with_reducible refine Below.setCell ?_ ?_ _) | (with_reducible refine Below.trans ?_ (Below.mono (by with_reducible assumption) ?_)) | go_size))⟩
    simp [results, Tryz.results87, go_sem, y0, y1, y2, y3]
  by_cases h7 : t.data.toList = [98, 108, 97, 110, 107]
  ·
    have ho := HO.out
    rw [nmd, if_neg h0, if_neg h1, if_neg h2, if_neg h3, if_neg h4, if_neg h5, if_neg h6, if_pos h7] at ho
    have q0 : (t.toList == [100, 105, 103, 105, 116]) = false := by rw [str_eq]; exact decide_eq_false h0
    have q1 : (t.toList == [108, 111, 119, 101, 114]) = false := by rw [str_eq]; exact decide_eq_false h1
    have q2 : (t.toList == [117, 112, 112, 101, 114]) = false := by rw [str_eq]; exact decide_eq_false h2
    have q3 : (t.toList == [97, 108, 112, 104, 97]) = false := by rw [str_eq]; exact decide_eq_false h3
    have q4 : (t.toList == [97, 108, 110, 117, 109]) = false := by rw [str_eq]; exact decide_eq_false h4
    have q5 : (t.toList == [119, 111, 114, 100]) = false := by rw [str_eq]; exact decide_eq_false h5
    have q6 : (t.toList == [120, 100, 105, 103, 105, 116]) = false := by rw [str_eq]; exact decide_eq_false h6
    have q7 : (t.toList == [98, 108, 97, 110, 107]) = true := by rw [str_eq, h7]; rfl
    clear h0 h1 h2 h3 h4 h5 h6 h7 HO
    obtain ⟨S, hS⟩ : ∃ x, sBlank = x := ⟨_, rfl⟩
    have hr : Calls Tryz.prog 21 #[.slice (some ⟨v5.heap.size + 1, 0, none⟩) 2 2] ((v5.alloc (.cells (svs N) 36)).alloc (.cells #[.int .u8 32, .int .u8 9] 5)) fun e w' => e = .returned (sv S) ∧ Below ((v5.alloc (.cells (svs N) 36)).alloc (.cells #[.int .u8 32, .int .u8 9] 5)).heap.size ((v5.alloc (.cells (svs N) 36)).alloc (.cells #[.int .u8 32, .int .u8 9] 5)) w' := by
      rw [← hS, ← hsz5]
      exact rof_any _ [32, 9] _ (bytes_of_blk [32, 9] (Blk.new _ _ _) (by decide))
    have HF := Lib.hid (And.intro ho hS)
    clear hS HS ho
    have hE := HE5.out
    have hb := HB5.out.1
    go_wp2_with fail
    refine hr.mono ?_
    rintro e u0 ⟨rfl, hx0⟩
    replace hE := bel_call (bel_call hE (show Ext (v5.alloc (.cells (svs N) 36)) _ from by (repeat' (first | (with_reducible exact Below.refl _ _) | (with_reducible assumption) | (with_reducible refine below_drewN ?_ _) | (with_reducible refine Below.alloc ?_ ?_ _) | (with_reducible refine Below.drew ?_) | (with_reducible refine Below.setCell ?_ ?_ _) | (with_reducible refine Below.trans ?_ (Below.mono (by with_reducible assumption) ?_)) | go_size)))) hx0
    replace hb := (hb.ext (show Ext (v5.alloc (.cells (svs N) 36)) _ from by (repeat' (first | (with_reducible exact Below.refl _ _) | (with_reducible assumption) | (with_reducible refine below_drewN ?_ _) | (with_reducible refine Below.alloc ?_ ?_ _) | (with_reducible refine Below.drew ?_) | (with_reducible refine Below.setCell ?_ ?_ _) | (with_reducible refine Below.trans ?_ (Below.mono (by with_reducible assumption) ?_)) | go_size)))).ext hx0
    clear hx0 hr
    obtain ⟨z0, z1, z2, z3⟩ := hb.cells4
    have f0 := hb.free 0
    have f1 := hb.free 1
    have f2 := hb.free 2
    have f3 := hb.free 3
    have hlt := hb.lt
    obtain ⟨y0, y1, y2, y3⟩ := (hb.store4 (.int .u64 (wd S 0)) (.int .u64 (wd S 1)) (.int .u64 (wd S 2)) (.int .u64 (wd S 3))).cells4
    go_wp2_with fail
    refine bodyPost_ret (v := .tuple #[sv S, .bool true]) ?_ rfl ⟨by rw [← HF.out.1, ← HF.out.2]; rfl, by (repeat' (first | (with_reducible exact Below.refl _ _) | (with_reducible assumption) | (with_reducible refine below_drewN ?_ _) | (with_reducible refine Below.alloc ?_ ?_ _) | (with_reducible refine Below.drew ?_) | (with_reducible refine Below.setCell ?_ ?_ _) | (with_reducible refine Below.trans ?_ (Below.mono (by with_reducible assumption) ?_)) | go_size))⟩
    simp [results, Tryz.results87, go_sem, y0, y1, y2, y3]
  by_cases h8 : t.data.toList = [115, 112, 97, 99, 101]
  ·
    have ho := HO.out
    rw [nmd, if_neg h0, if_neg h1, if_neg h2, if_neg h3, if_neg h4, if_neg h5, if_neg h6, if_neg h7, if_pos h8] at ho
    have q0 : (t.toList == [100, 105, 103, 105, 116]) = false := by rw [str_eq]; exact decide_eq_false h0
    have q1 : (t.toList == [108, 111, 119, 101, 114]) = false := by rw [str_eq]; exact decide_eq_false h1
    have q2 : (t.toList == [117, 112, 112, 101, 114]) = false := by rw [str_eq]; exact decide_eq_false h2
    have q3 : (t.toList == [97, 108, 112, 104, 97]) = false := by rw [str_eq]; exact decide_eq_false h3
    have q4 : (t.toList == [97, 108, 110, 117, 109]) = false := by rw [str_eq]; exact decide_eq_false h4
    have q5 : (t.toList == [119, 111, 114, 100]) = false := by rw [str_eq]; exact decide_eq_false h5
    have q6 : (t.toList == [120, 100, 105, 103, 105, 116]) = false := by rw [str_eq]; exact decide_eq_false h6
    have q7 : (t.toList == [98, 108, 97, 110, 107]) = false := by rw [str_eq]; exact decide_eq_false h7
    have q8 : (t.toList == [115, 112, 97, 99, 101]) = true := by rw [str_eq, h8]; rfl
    clear h0 h1 h2 h3 h4 h5 h6 h7 h8 HO
    obtain ⟨S, hS⟩ : ∃ x, sSpace = x := ⟨_, rfl⟩
    obtain ⟨R, hR⟩ : ∃ x, rng 9 13 = x := ⟨_, rfl⟩
    have hr : ∀ w, Calls Tryz.prog 70 #[.int .i64 9, .int .i64 13] w fun e w' => e = .returned (sv R) ∧ Below w.heap.size w w' := fun w => rrange_eq 9 13 R w (by decide) (by decide) hR
    have hw : ∀ w, Calls Tryz.prog 45 #[sv R, .int .i64 32] w fun e w' => e = .returned (sv S) ∧ Below w.heap.size w w' := fun w => rwith_eq R 32 S w (by decide) (by rw [← hR, ← hS]; exact ref_space)
    clear hR
    have HF := Lib.hid (And.intro ho hS)
    clear hS HS ho
    have hE := HE5.out
    have hb := HB5.out.1
    go_wp2_with fail
    refine (hr _).mono ?_
    rintro e u0 ⟨rfl, hx0⟩
    replace hE := bel_call hE hx0
    replace hb := hb.ext hx0
    clear hx0
    go_wp2_with fail
    refine (hw _).mono ?_
    rintro e u1 ⟨rfl, hx1⟩
    replace hE := bel_call hE hx1
    replace hb := hb.ext hx1
    clear hx1
    obtain ⟨z0, z1, z2, z3⟩ := hb.cells4
    have f0 := hb.free 0
    have f1 := hb.free 1
    have f2 := hb.free 2
    have f3 := hb.free 3
    have hlt := hb.lt
    obtain ⟨y0, y1, y2, y3⟩ := (hb.store4 (.int .u64 (wd S 0)) (.int .u64 (wd S 1)) (.int .u64 (wd S 2)) (.int .u64 (wd S 3))).cells4
    go_wp2_with fail
    refine bodyPost_ret (v := .tuple #[sv S, .bool true]) ?_ rfl ⟨by rw [← HF.out.1, ← HF.out.2]; rfl, by (repeat' (first | (with_reducible exact Below.refl _ _) | (with_reducible assumption) | (with_reducible refine below_drewN ?_ _) | (with_reducible refine Below.alloc ?_ ?_ _) | (with_reducible refine Below.drew ?_) | (with_reducible refine Below.setCell ?_ ?_ _) | (with_reducible refine Below.trans ?_ (Below.mono (by with_reducible assumption) ?_)) | go_size))⟩
    simp [results, Tryz.results87, go_sem, y0, y1, y2, y3]
  by_cases h9 : t.data.toList = [112, 117, 110, 99, 116]
  ·
    have ho := HO.out
    rw [nmd, if_neg h0, if_neg h1, if_neg h2, if_neg h3, if_neg h4, if_neg h5, if_neg h6, if_neg h7, if_neg h8, if_pos h9] at ho
    have q0 : (t.toList == [100, 105, 103, 105, 116]) = false := by rw [str_eq]; exact decide_eq_false h0
    have q1 : (t.toList == [108, 111, 119, 101, 114]) = false := by rw [str_eq]; exact decide_eq_false h1
    have q2 : (t.toList == [117, 112, 112, 101, 114]) = false := by rw [str_eq]; exact decide_eq_false h2
    have q3 : (t.toList == [97, 108, 112, 104, 97]) = false := by rw [str_eq]; exact decide_eq_false h3
    have q4 : (t.toList == [97, 108, 110, 117, 109]) = false := by rw [str_eq]; exact decide_eq_false h4
    have q5 : (t.toList == [119, 111, 114, 100]) = false := by rw [str_eq]; exact decide_eq_false h5
    have q6 : (t.toList == [120, 100, 105, 103, 105, 116]) = false := by rw [str_eq]; exact decide_eq_false h6
    have q7 : (t.toList == [98, 108, 97, 110, 107]) = false := by rw [str_eq]; exact decide_eq_false h7
    have q8 : (t.toList == [115, 112, 97, 99, 101]) = false := by rw [str_eq]; exact decide_eq_false h8
    have q9 : (t.toList == [112, 117, 110, 99, 116]) = true := by rw [str_eq, h9]; rfl
    clear h0 h1 h2 h3 h4 h5 h6 h7 h8 h9 HO
    obtain ⟨S, hS⟩ : ∃ x, sPunct = x := ⟨_, rfl⟩
    obtain ⟨R, hR⟩ : ∃ x, rng 33 126 = x := ⟨_, rfl⟩
    have hr : ∀ w, Calls Tryz.prog 70 #[.int .i64 33, .int .i64 126] w fun e w' => e = .returned (sv R) ∧ Below w.heap.size w w' := fun w => rrange_eq 33 126 R w (by decide) (by decide) hR
    have hs := fun w => rminus_eq R N S (by rw [← hR, ← HS.out.2.2.2.2, ← hS]; rfl) w
    have HF := Lib.hid (And.intro ho hS)
    clear hS hR HS ho
    have hE5 := HE5.out
    have hb := HB5.out.1
    have hd := HB5.out.2.2.2.2.2
    go_wp2_with fail
    refine wp_region_tail (fun _ => none) 3 (by kernel_rfl) (by kernel_rfl) (fun _ _ h => by cases h) (fun hex => ?_)
    simp only [List.take_succ_cons, List.take_zero, List.drop_succ_cons, List.drop_zero]
    iterate 3
      (refine wpS_one (A := ?_) hex rfl rfl (by simp) ?_ ?_ ?_
       rotate_left 2
       · intro w' hC K hK
         obtain ⟨hcell, hfrz⟩ := bcell hC.1.ext
         obtain ⟨x0, x1, x2, x3⟩ := (hd.ext hC.1.ext).cells4; clear hcell hfrz
         go_wp2_with (first | (go_at_call 70; (refine (hr _).mono ?_); rintro e w2 ⟨rfl, hb2⟩) | (go_at_call 43; (refine (hs _).mono ?_); rintro e w2 ⟨rfl, hb2⟩))
         refine hK _ ?_
         first | exact Gr.refl _ _ | exact Gr.of_ext (by assumption) hC.1.1.size
       rotate_left 1
       · rfl
       clear hex; intro hex)
    refine wpS_nil fun w6 hE => ?_
    replace hE := hE.1.ext
    obtain ⟨hcell_w6, hfrz_w6⟩ := bcell hE
    clear hcell_w6 hfrz_w6 hex
    replace hb := hb.ext hE
    replace hE5 := bel_call hE5 hE
    clear hE
    obtain ⟨z0, z1, z2, z3⟩ := hb.cells4
    have f0 := hb.free 0
    have f1 := hb.free 1
    have f2 := hb.free 2
    have f3 := hb.free 3
    have hlt := hb.lt
    obtain ⟨y0, y1, y2, y3⟩ := (hb.store4 (.int .u64 (wd S 0)) (.int .u64 (wd S 1)) (.int .u64 (wd S 2)) (.int .u64 (wd S 3))).cells4
    go_wp2_with fail
    refine bodyPost_ret (v := .tuple #[sv S, .bool true]) ?_ rfl ⟨by rw [← HF.out.1, ← HF.out.2]; rfl, by (repeat' (first | (with_reducible exact Below.refl _ _) | (with_reducible assumption) | (with_reducible refine below_drewN ?_ _) | (with_reducible refine Below.alloc ?_ ?_ _) | (with_reducible refine Below.drew ?_) | (with_reducible refine Below.setCell ?_ ?_ _) | (with_reducible refine Below.trans ?_ (Below.mono (by with_reducible assumption) ?_)) | go_size))⟩
    simp [results, Tryz.results87, go_sem, y0, y1, y2, y3]
  by_cases h10 : t.data.toList = [112, 114, 105, 110, 116]
  ·
    have ho := HO.out
    rw [nmd, if_neg h0, if_neg h1, if_neg h2, if_neg h3, if_neg h4, if_neg h5, if_neg h6, if_neg h7, if_neg h8, if_neg h9, if_pos h10] at ho
    have q0 : (t.toList == [100, 105, 103, 105, 116]) = false := by rw [str_eq]; exact decide_eq_false h0
    have q1 : (t.toList == [108, 111, 119, 101, 114]) = false := by rw [str_eq]; exact decide_eq_false h1
    have q2 : (t.toList == [117, 112, 112, 101, 114]) = false := by rw [str_eq]; exact decide_eq_false h2
    have q3 : (t.toList == [97, 108, 112, 104, 97]) = false := by rw [str_eq]; exact decide_eq_false h3
    have q4 : (t.toList == [97, 108, 110, 117, 109]) = false := by rw [str_eq]; exact decide_eq_false h4
    have q5 : (t.toList == [119, 111, 114, 100]) = false := by rw [str_eq]; exact decide_eq_false h5
    have q6 : (t.toList == [120, 100, 105, 103, 105, 116]) = false := by rw [str_eq]; exact decide_eq_false h6
    have q7 : (t.toList == [98, 108, 97, 110, 107]) = false := by rw [str_eq]; exact decide_eq_false h7
    have q8 : (t.toList == [115, 112, 97, 99, 101]) = false := by rw [str_eq]; exact decide_eq_false h8
    have q9 : (t.toList == [112, 117, 110, 99, 116]) = false := by rw [str_eq]; exact decide_eq_false h9
    have q10 : (t.toList == [112, 114, 105, 110, 116]) = true := by rw [str_eq, h10]; rfl
    clear h0 h1 h2 h3 h4 h5 h6 h7 h8 h9 h10 HO
    obtain ⟨S, hS⟩ : ∃ x, sPrint = x := ⟨_, rfl⟩
    have hr : ∀ w, Calls Tryz.prog 70 #[.int .i64 32, .int .i64 126] w fun e w' => e = .returned (sv S) ∧ Below w.heap.size w w' := fun w => rrange_eq 32 126 S w (by decide) (by decide) hS
    have HF := Lib.hid (And.intro ho hS)
    clear hS HS ho
    have hE := HE5.out
    have hb := HB5.out.1
    go_wp2_with fail
    refine (hr _).mono ?_
    rintro e u0 ⟨rfl, hx0⟩
    replace hE := bel_call hE hx0
    replace hb := hb.ext hx0
    clear hx0
    obtain ⟨z0, z1, z2, z3⟩ := hb.cells4
    have f0 := hb.free 0
    have f1 := hb.free 1
    have f2 := hb.free 2
    have f3 := hb.free 3
    have hlt := hb.lt
    obtain ⟨y0, y1, y2, y3⟩ := (hb.store4 (.int .u64 (wd S 0)) (.int .u64 (wd S 1)) (.int .u64 (wd S 2)) (.int .u64 (wd S 3))).cells4
    go_wp2_with fail
    refine bodyPost_ret (v := .tuple #[sv S, .bool true]) ?_ rfl ⟨by rw [← HF.out.1, ← HF.out.2]; rfl, by (repeat' (first | (with_reducible exact Below.refl _ _) | (with_reducible assumption) | (with_reducible refine below_drewN ?_ _) | (with_reducible refine Below.alloc ?_ ?_ _) | (with_reducible refine Below.drew ?_) | (with_reducible refine Below.setCell ?_ ?_ _) | (with_reducible refine Below.trans ?_ (Below.mono (by with_reducible assumption) ?_)) | go_size))⟩
    simp [results, Tryz.results87, go_sem, y0, y1, y2, y3]
  by_cases h11 : t.data.toList = [99, 110, 116, 114, 108]
  ·
    have ho := HO.out
    rw [nmd, if_neg h0, if_neg h1, if_neg h2, if_neg h3, if_neg h4, if_neg h5, if_neg h6, if_neg h7, if_neg h8, if_neg h9, if_neg h10, if_pos h11] at ho
    have q0 : (t.toList == [100, 105, 103, 105, 116]) = false := by rw [str_eq]; exact decide_eq_false h0
    have q1 : (t.toList == [108, 111, 119, 101, 114]) = false := by rw [str_eq]; exact decide_eq_false h1
    have q2 : (t.toList == [117, 112, 112, 101, 114]) = false := by rw [str_eq]; exact decide_eq_false h2
    have q3 : (t.toList == [97, 108, 112, 104, 97]) = false := by rw [str_eq]; exact decide_eq_false h3
    have q4 : (t.toList == [97, 108, 110, 117, 109]) = false := by rw [str_eq]; exact decide_eq_false h4
    have q5 : (t.toList == [119, 111, 114, 100]) = false := by rw [str_eq]; exact decide_eq_false h5
    have q6 : (t.toList == [120, 100, 105, 103, 105, 116]) = false := by rw [str_eq]; exact decide_eq_false h6
    have q7 : (t.toList == [98, 108, 97, 110, 107]) = false := by rw [str_eq]; exact decide_eq_false h7
    have q8 : (t.toList == [115, 112, 97, 99, 101]) = false := by rw [str_eq]; exact decide_eq_false h8
    have q9 : (t.toList == [112, 117, 110, 99, 116]) = false := by rw [str_eq]; exact decide_eq_false h9
    have q10 : (t.toList == [112, 114, 105, 110, 116]) = false := by rw [str_eq]; exact decide_eq_false h10
    have q11 : (t.toList == [99, 110, 116, 114, 108]) = true := by rw [str_eq, h11]; rfl
    clear h0 h1 h2 h3 h4 h5 h6 h7 h8 h9 h10 h11 HO
    obtain ⟨S, hS⟩ : ∃ x, sCntrl = x := ⟨_, rfl⟩
    obtain ⟨R, hR⟩ : ∃ x, rng 0 31 = x := ⟨_, rfl⟩
    have hr : ∀ w, Calls Tryz.prog 70 #[.int .i64 0, .int .i64 31] w fun e w' => e = .returned (sv R) ∧ Below w.heap.size w w' := fun w => rrange_eq 0 31 R w (by decide) (by decide) hR
    have hw : ∀ w, Calls Tryz.prog 45 #[sv R, .int .i64 127] w fun e w' => e = .returned (sv S) ∧ Below w.heap.size w w' := fun w => rwith_eq R 127 S w (by decide) (by rw [← hR, ← hS]; exact ref_cntrl)
    clear hR
    have HF := Lib.hid (And.intro ho hS)
    clear hS HS ho
    have hE := HE5.out
    have hb := HB5.out.1
    go_wp2_with fail
    refine (hr _).mono ?_
    rintro e u0 ⟨rfl, hx0⟩
    replace hE := bel_call hE hx0
    replace hb := hb.ext hx0
    clear hx0
    go_wp2_with fail
    refine (hw _).mono ?_
    rintro e u1 ⟨rfl, hx1⟩
    replace hE := bel_call hE hx1
    replace hb := hb.ext hx1
    clear hx1
    obtain ⟨z0, z1, z2, z3⟩ := hb.cells4
    have f0 := hb.free 0
    have f1 := hb.free 1
    have f2 := hb.free 2
    have f3 := hb.free 3
    have hlt := hb.lt
    obtain ⟨y0, y1, y2, y3⟩ := (hb.store4 (.int .u64 (wd S 0)) (.int .u64 (wd S 1)) (.int .u64 (wd S 2)) (.int .u64 (wd S 3))).cells4
    go_wp2_with fail
    refine bodyPost_ret (v := .tuple #[sv S, .bool true]) ?_ rfl ⟨by rw [← HF.out.1, ← HF.out.2]; rfl, by (repeat' (first | (with_reducible exact Below.refl _ _) | (with_reducible assumption) | (with_reducible refine below_drewN ?_ _) | (with_reducible refine Below.alloc ?_ ?_ _) | (with_reducible refine Below.drew ?_) | (with_reducible refine Below.setCell ?_ ?_ _) | (with_reducible refine Below.trans ?_ (Below.mono (by with_reducible assumption) ?_)) | go_size))⟩
    simp [results, Tryz.results87, go_sem, y0, y1, y2, y3]
  by_cases h12 : t.data.toList = [97, 110, 121]
  ·
    have ho := HO.out
    rw [nmd, if_neg h0, if_neg h1, if_neg h2, if_neg h3, if_neg h4, if_neg h5, if_neg h6, if_neg h7, if_neg h8, if_neg h9, if_neg h10, if_neg h11, if_pos h12] at ho
    have q0 : (t.toList == [100, 105, 103, 105, 116]) = false := by rw [str_eq]; exact decide_eq_false h0
    have q1 : (t.toList == [108, 111, 119, 101, 114]) = false := by rw [str_eq]; exact decide_eq_false h1
    have q2 : (t.toList == [117, 112, 112, 101, 114]) = false := by rw [str_eq]; exact decide_eq_false h2
    have q3 : (t.toList == [97, 108, 112, 104, 97]) = false := by rw [str_eq]; exact decide_eq_false h3
    have q4 : (t.toList == [97, 108, 110, 117, 109]) = false := by rw [str_eq]; exact decide_eq_false h4
    have q5 : (t.toList == [119, 111, 114, 100]) = false := by rw [str_eq]; exact decide_eq_false h5
    have q6 : (t.toList == [120, 100, 105, 103, 105, 116]) = false := by rw [str_eq]; exact decide_eq_false h6
    have q7 : (t.toList == [98, 108, 97, 110, 107]) = false := by rw [str_eq]; exact decide_eq_false h7
    have q8 : (t.toList == [115, 112, 97, 99, 101]) = false := by rw [str_eq]; exact decide_eq_false h8
    have q9 : (t.toList == [112, 117, 110, 99, 116]) = false := by rw [str_eq]; exact decide_eq_false h9
    have q10 : (t.toList == [112, 114, 105, 110, 116]) = false := by rw [str_eq]; exact decide_eq_false h10
    have q11 : (t.toList == [99, 110, 116, 114, 108]) = false := by rw [str_eq]; exact decide_eq_false h11
    have q12 : (t.toList == [97, 110, 121]) = true := by rw [str_eq, h12]; rfl
    clear h0 h1 h2 h3 h4 h5 h6 h7 h8 h9 h10 h11 h12 HO
    obtain ⟨S, hS⟩ : ∃ x, sAny = x := ⟨_, rfl⟩
    have hr : ∀ w, Calls Tryz.prog 44 #[] w fun e w' => e = .returned (sv S) ∧ Below w.heap.size w w' := fun w => rall_eq S (by rw [← hS]; exact ref_any) w
    have HF := Lib.hid (And.intro ho hS)
    clear hS HS ho
    have hE := HE5.out
    have hb := HB5.out.1
    go_wp2_with fail
    refine (hr _).mono ?_
    rintro e u0 ⟨rfl, hx0⟩
    replace hE := bel_call hE hx0
    replace hb := hb.ext hx0
    clear hx0
    obtain ⟨z0, z1, z2, z3⟩ := hb.cells4
    have f0 := hb.free 0
    have f1 := hb.free 1
    have f2 := hb.free 2
    have f3 := hb.free 3
    have hlt := hb.lt
    obtain ⟨y0, y1, y2, y3⟩ := (hb.store4 (.int .u64 (wd S 0)) (.int .u64 (wd S 1)) (.int .u64 (wd S 2)) (.int .u64 (wd S 3))).cells4
    go_wp2_with fail
    refine bodyPost_ret (v := .tuple #[sv S, .bool true]) ?_ rfl ⟨by rw [← HF.out.1, ← HF.out.2]; rfl, by (repeat' (first | (with_reducible exact Below.refl _ _) | (with_reducible assumption) | (with_reducible refine below_drewN ?_ _) | (with_reducible refine Below.alloc ?_ ?_ _) | (with_reducible refine Below.drew ?_) | (with_reducible refine Below.setCell ?_ ?_ _) | (with_reducible refine Below.trans ?_ (Below.mono (by with_reducible assumption) ?_)) | go_size))⟩
    simp [results, Tryz.results87, go_sem, y0, y1, y2, y3]
  have ho := HO.out
  rw [nmd, if_neg h0, if_neg h1, if_neg h2, if_neg h3, if_neg h4, if_neg h5, if_neg h6, if_neg h7, if_neg h8, if_neg h9, if_neg h10, if_neg h11, if_neg h12] at ho
  have HF := Lib.hid ho
  clear ho
  have q0 : (t.toList == [100, 105, 103, 105, 116]) = false := by rw [str_eq]; exact decide_eq_false h0
  have q1 : (t.toList == [108, 111, 119, 101, 114]) = false := by rw [str_eq]; exact decide_eq_false h1
  have q2 : (t.toList == [117, 112, 112, 101, 114]) = false := by rw [str_eq]; exact decide_eq_false h2
  have q3 : (t.toList == [97, 108, 112, 104, 97]) = false := by rw [str_eq]; exact decide_eq_false h3
  have q4 : (t.toList == [97, 108, 110, 117, 109]) = false := by rw [str_eq]; exact decide_eq_false h4
  have q5 : (t.toList == [119, 111, 114, 100]) = false := by rw [str_eq]; exact decide_eq_false h5
  have q6 : (t.toList == [120, 100, 105, 103, 105, 116]) = false := by rw [str_eq]; exact decide_eq_false h6
  have q7 : (t.toList == [98, 108, 97, 110, 107]) = false := by rw [str_eq]; exact decide_eq_false h7
  have q8 : (t.toList == [115, 112, 97, 99, 101]) = false := by rw [str_eq]; exact decide_eq_false h8
  have q9 : (t.toList == [112, 117, 110, 99, 116]) = false := by rw [str_eq]; exact decide_eq_false h9
  have q10 : (t.toList == [112, 114, 105, 110, 116]) = false := by rw [str_eq]; exact decide_eq_false h10
  have q11 : (t.toList == [99, 110, 116, 114, 108]) = false := by rw [str_eq]; exact decide_eq_false h11
  have q12 : (t.toList == [97, 110, 121]) = false := by rw [str_eq]; exact decide_eq_false h12
  clear h0 h1 h2 h3 h4 h5 h6 h7 h8 h9 h10 h11 h12 HO HS
  have hb := HB5.out.1
  have hE := HE5.out
  obtain ⟨z0, z1, z2, z3⟩ := hb.cells4
  have f0 := hb.free 0
  have f1 := hb.free 1
  have f2 := hb.free 2
  have f3 := hb.free 3
  have hlt := hb.lt
  obtain ⟨y0, y1, y2, y3⟩ := (hb.store4 (.int .u64 0) (.int .u64 0) (.int .u64 0) (.int .u64 0)).cells4
  go_wp2_with fail
  refine bodyPost_ret (v := .tuple #[sv0, .bool false]) ?_ rfl ⟨by rw [← HF.out, ← sv_zero]; rfl, by (repeat' (first | (with_reducible exact Below.refl _ _) | (with_reducible assumption) | (with_reducible refine below_drewN ?_ _) | (with_reducible refine Below.alloc ?_ ?_ _) | (with_reducible refine Below.drew ?_) | (with_reducible refine Below.setCell ?_ ?_ _) | (with_reducible refine Below.trans ?_ (Below.mono (by with_reducible assumption) ?_)) | go_size))⟩
  simp [results, Tryz.results87, go_sem, y0, y1, y2, y3]
end Go.Proofs.YtnecafokkhhhhaaGreatDoor
