/- bolterref3's reader: its state; refuse, ok, char. -/
import Derived.Test.YtecjodcaeldidaaGreatDoorBse
import Derived.Test.YtecjodcaeldidaaGreatDoorSpans
import Derived.Test.YtecjodcaeldidaaGreatDoorStabG
import Derived.Test.YtecjodcaeldidaaGreatDoorNmd
import Derived.Test.YtecjodcaeldidaaGreatDoorCls
namespace Go.Proofs.YtecjodcaeldidaaGreatDoor
open Go Go.RowKit
theorem bel_set4 {w0 w : World} {B b : Nat} (h : Below B w0 w) (hb : B ≤ b) (y0 y1 y2 y3 : Value) : Below B w0 ((((w.setCell ⟨b, 0, none⟩ y0).setCell ⟨b, 1, none⟩ y1).setCell ⟨b, 2, none⟩ y2).setCell ⟨b, 3, none⟩ y3) :=
  (((h.setCell hb _).setCell hb _).setCell hb _).setCell hb _
theorem has_shift (s : BitVec 256) (b k : Nat) (_hb : b < 256) (hk : (b : Int) / 64 = k) : ((wd s k / 2 ^ (b % 64)).tmod 2 == 1) = s.getLsbD b := by
  have hj : b % 64 < 64 := by omega
  have e : b = 64 * k + b % 64 := by omega
  have h1 := word_bit s k (b % 64) hj
  rw [← e] at h1
  rw [← h1, Nat.testBit_eq_decide_div_mod_eq, wd_word]
  have h2 : ((word s k : Int) / 2 ^ (b % 64)) = ((word s k / 2 ^ (b % 64) : Nat) : Int) := by simp
  rw [h2]
  generalize word s k / 2 ^ (b % 64) = x
  rw [Int.tmod_eq_emod_of_nonneg (by omega), Bool.eq_iff_iff]
  simp only [beq_iff_eq, decide_eq_true_eq]
  omega
theorem or_bit (s : BitVec 256) (b : Nat) (hb : b < 256) (h : s.getLsbD b = true) : s ||| 1#256 <<< b = s := by
  apply BitVec.eq_of_getLsbD_eq
  intro i hi
  rw [BitVec.getLsbD_or, BitVec.getLsbD_shiftLeft, BitVec.getLsbD_one]
  by_cases e : i = b
  · subst e; simp [h]
  · by_cases e2 : i < b
    · simp [e2]
    · have : ¬ i - b = 0 := by omega
      simp [this]
theorem add_word (s : BitVec 256) (b k : Nat) (hk : (b : Int) / 64 = k) (h4 : k < 4) (h : s.getLsbD b = false) : IntKind.u64.wrap (wd s k + IntKind.u64.wrap (2 ^ (b % 64))) = wd (s ||| 1#256 <<< b) k := by
  have hj : b % 64 < 64 := by omega
  have e : b = 64 * k + b % 64 := by omega
  have hw := with_word s b k (by omega) hk h4
  rw [show ((b : Int) % 64).toNat = b % 64 by omega, Int.toNat_natCast, bit_word] at hw
  rw [bit_word, ← hw]
  rw [e] at h
  generalize b % 64 = j at *
  unfold wd
  rw [bits_or_bv]
  have hx : (s.extractLsb' (64 * k) 64).getLsbD j = false := by rw [← h]; simp [hj]
  generalize s.extractLsb' (64 * k) 64 = x at *
  have hand : x &&& 1#64 <<< j = 0#64 := by
    apply BitVec.eq_of_getLsbD_eq
    intro i hi
    rw [BitVec.getLsbD_and, BitVec.getLsbD_shiftLeft, BitVec.getLsbD_one]
    by_cases hij : i = j
    · subst hij; simp [hx]
    · by_cases hlt : i < j
      · simp [hlt]
      · have : ¬ i - j = 0 := by omega
        simp [this]
  rw [← BitVec.add_eq_or_of_and_eq_zero _ _ hand, IntKind.wrap_u64, BitVec.toNat_add]
  omega
set_option maxHeartbeats 1000000 in
theorem rhas_any (s : BitVec 256) (b : Nat) (w : World) (h1 : b < 256) :
    Calls Tryz.prog 84 #[sv s, .int .i64 b] w fun e w' => e = .returned (.bool (s.getLsbD b)) ∧ Below w.heap.size w w' := by
  have hc : (b : Int) / 64 = 0 ∨ (b : Int) / 64 = 1 ∨ (b : Int) / 64 = 2 ∨ (b : Int) / 64 = 3 := by omega
  rcases hc with hc | hc | hc | hc
  all_goals
    go_enter Tryz.func84, Tryz.ntmps84
    go_wp2
    go_ret
    exact ⟨ret_v (by simp only [Array.getD_eq_getD_getElem?]; exact congrArg Value.bool (has_shift s b _ h1 hc)), by (repeat' (first | (with_reducible exact Below.refl _ _) | (with_reducible assumption) | (with_reducible refine below_drewN ?_ _) | (with_reducible refine Below.alloc ?_ ?_ _) | (with_reducible refine Below.drew ?_) | (with_reducible refine Below.setCell ?_ ?_ _) | (with_reducible refine Below.trans ?_ (Below.mono (by with_reducible assumption) ?_)) | go_size))⟩
theorem rhas_eq (s : BitVec 256) (b : Nat) (r : Bool) (w : World) (h1 : b < 256) (h : s.getLsbD b = r) :
    Calls Tryz.prog 84 #[sv s, .int .i64 b] w fun e w' => e = .returned (.bool r) ∧ Below w.heap.size w w' := by subst h; exact rhas_any s b w h1
set_option maxHeartbeats 1000000 in
theorem rwith_any (s : BitVec 256) (b : Nat) (w : World) (h1 : b < 256) :
    Calls Tryz.prog 85 #[sv s, .int .i64 b] w fun e w' => e = .returned (sv (s ||| 1#256 <<< b)) ∧ Below w.heap.size w w' := by
  have hc : (b : Int) / 64 = 0 ∨ (b : Int) / 64 = 1 ∨ (b : Int) / 64 = 2 ∨ (b : Int) / 64 = 3 := by omega
  have kS := (Blk.new w (svs s) 27).alloc (.cells #[.int .u64 0, .int .u64 0, .int .u64 0, .int .u64 0] 27)
  have kR := Blk.new (w.alloc (.cells (svs s) 27)) #[.int .u64 0, .int .u64 0, .int .u64 0, .int .u64 0] 27
  simp only [World.size_alloc] at kR
  cases hb : s.getLsbD b with
  | true =>
    have ho : s ||| 1#256 <<< b = s := or_bit s b h1 hb
    have HB := Lib.hid hb
    rw [ho]
    clear hb ho hc
    go_enter Tryz.func85, Tryz.ntmps85
    go_wp2_with fail
    refine (rhas_eq s b true _ h1 HB.out).mono ?_
    rintro e w1 ⟨rfl, hE⟩
    replace kS := kS.ext hE
    replace kR := kR.ext hE
    obtain ⟨p0, p1, p2, p3⟩ := kS.cells4
    obtain ⟨q0, q1, q2, q3⟩ := kR.cells4
    have hfr := kR.free
    go_wp2
    refine bodyPost_ret (v := sv s) ?_ rfl ⟨rfl, by (repeat' (first | (with_reducible exact Below.refl _ _) | (with_reducible assumption) | (with_reducible refine below_drewN ?_ _) | (with_reducible refine Below.alloc ?_ ?_ _) | (with_reducible refine Below.drew ?_) | (with_reducible refine Below.setCell ?_ ?_ _) | (with_reducible refine Below.trans ?_ (Below.mono (by with_reducible assumption) ?_)) | go_size))⟩
    simp [results, Tryz.results85, go_sem, *]
  | false =>
    have HB := Lib.hid hb
    clear hb
    rcases hc with hc | hc | hc | hc
    all_goals
      go_enter Tryz.func85, Tryz.ntmps85
      go_wp2_with fail
      refine (rhas_eq s b false _ h1 HB.out).mono ?_
      rintro e w1 ⟨rfl, hE⟩
      replace kS := kS.ext hE
      replace kR := kR.ext hE
      have hw1 : Below w.heap.size w w1 := (((Below.refl _ _).alloc (Nat.le_refl _) _).alloc (by simp) _).trans (hE.mono (by simp; omega))
      obtain ⟨p0, p1, p2, p3⟩ := kS.cells4
      obtain ⟨q0, q1, q2, q3⟩ := kR.cells4
      have hfr := kR.free
      have hfs := kS.free
      clear hE
      go_wp2
      refine bodyPost_ret (v := sv (s ||| 1#256 <<< b)) ?_ rfl ⟨rfl, by (repeat' (first | (with_reducible exact Below.refl _ _) | (with_reducible assumption) | (with_reducible refine below_drewN ?_ _) | (with_reducible refine Below.alloc ?_ ?_ _) | (with_reducible refine Below.drew ?_) | (with_reducible refine Below.setCell ?_ ?_ _) | (with_reducible refine Below.trans ?_ (Below.mono (by with_reducible assumption) ?_)) | go_size))⟩
      simp [results, Tryz.results85, go_sem, *]
      have a0 := with_other s b 0 (by omega)
      have a1 := with_other s b 1 (by omega)
      have a2 := with_other s b 2 (by omega)
      have a3 := with_other s b 3 (by omega)
      rw [Int.toNat_natCast] at a0 a1 a2 a3
      first
      | exact ⟨add_word s b 0 hc (by omega) HB.out, (a1 (by omega)).symm, (a2 (by omega)).symm, (a3 (by omega)).symm⟩
      | exact ⟨(a0 (by omega)).symm, add_word s b 1 hc (by omega) HB.out, (a2 (by omega)).symm, (a3 (by omega)).symm⟩
      | exact ⟨(a0 (by omega)).symm, (a1 (by omega)).symm, add_word s b 2 hc (by omega) HB.out, (a3 (by omega)).symm⟩
      | exact ⟨(a0 (by omega)).symm, (a1 (by omega)).symm, (a2 (by omega)).symm, add_word s b 3 hc (by omega) HB.out⟩
theorem rwith_eq (s : BitVec 256) (b : Nat) (r : BitVec 256) (w : World) (h1 : b < 256) (h : s ||| 1#256 <<< b = r) :
    Calls Tryz.prog 85 #[sv s, .int .i64 b] w fun e w' => e = .returned (sv r) ∧ Below w.heap.size w w' := by subst h; exact rwith_any s b w h1
/-- The first k bytes of a set. -/
def cut (s : BitVec 256) (k : Nat) : BitVec 256 := s &&& low (k : Int)
theorem cut_zero (s : BitVec 256) : cut s 0 = 0#256 := by
  apply BitVec.eq_of_getLsbD_eq
  intro i hi
  unfold cut
  rw [BitVec.getLsbD_and, low_bit _ _ (by omega)]; simp
theorem cut_full (s : BitVec 256) : cut s 256 = s := by
  apply BitVec.eq_of_getLsbD_eq
  intro i hi
  unfold cut
  rw [BitVec.getLsbD_and, low_bit _ _ (by omega)]; simp [hi]
theorem cut_succ (s : BitVec 256) (k : Nat) (hk : k < 256) : cut s (k + 1) = if s.getLsbD k then cut s k ||| 1#256 <<< k else cut s k := by
  have hl : ∀ i, (low ((k + 1 : Nat) : Int)).getLsbD i = decide (i < k + 1) := fun i => by rw [low_bit _ _ (by omega)]; rfl
  have hl2 : ∀ i, (low ((k : Nat) : Int)).getLsbD i = decide (i < k) := fun i => by rw [low_bit _ _ (by omega)]; rfl
  apply BitVec.eq_of_getLsbD_eq
  intro i hi
  unfold cut
  cases hb : s.getLsbD k with
  | true =>
    rw [if_pos rfl, BitVec.getLsbD_and, BitVec.getLsbD_or, BitVec.getLsbD_and, hl, hl2, BitVec.getLsbD_shiftLeft, BitVec.getLsbD_one]
    by_cases e : i = k
    · subst e; simp [hb, hi]
    · by_cases e2 : i < k
      · have : i < k + 1 := by omega
        simp [e2, this]
      · have h1 : ¬ i < k + 1 := by omega
        have h2 : ¬ i - k = 0 := by omega
        simp [e2, h1, h2]
  | false =>
    rw [if_neg (by simp), BitVec.getLsbD_and, BitVec.getLsbD_and, hl, hl2]
    by_cases e : i = k
    · subst e; simp [hb]
    · by_cases e2 : i < k
      · have : i < k + 1 := by omega
        simp [e2, this]
      · have h1 : ¬ i < k + 1 := by omega
        simp [e2, h1]
abbrev zer : Array Value := #[.int .u64 0, .int .u64 0, .int .u64 0, .int .u64 0]
theorem zer_svs : zer = svs 0#256 := by simp [zer, svs, wd_zero]
set_option maxHeartbeats 1000000 in
set_option maxRecDepth 20000 in
theorem runion_any (a b : BitVec 256) (w : World) :
    Calls Tryz.prog 46 #[sv a, sv b] w fun e w' => e = .returned (sv (a ||| b)) ∧ Below w.heap.size w w' := by
  have k1 := ((Blk.new w (svs a) 27).alloc (.cells (svs b) 27)).alloc (.cells zer 27)
  have k2 := (Blk.new (w.alloc (.cells (svs a) 27)) (svs b) 27).alloc (.cells zer 27)
  have k3 := Blk.new ((w.alloc (.cells (svs a) 27)).alloc (.cells (svs b) 27)) zer 27
  simp only [World.size_alloc] at k2 k3
  have hbel : Below w.heap.size w (((w.alloc (.cells (svs a) 27)).alloc (.cells (svs b) 27)).alloc (.cells zer 27)) := by (repeat' (first | (with_reducible exact Below.refl _ _) | (with_reducible assumption) | (with_reducible refine below_drewN ?_ _) | (with_reducible refine Below.alloc ?_ ?_ _) | (with_reducible refine Below.drew ?_) | (with_reducible refine Below.setCell ?_ ?_ _) | (with_reducible refine Below.trans ?_ (Below.mono (by with_reducible assumption) ?_)) | go_size))
  go_enter Tryz.func46, Tryz.ntmps46
  go_wp2_with fail
  go_loopw [5] (fun i wr => ∃ k : Nat, k ≤ 256 ∧ i = .int .i64 k ∧ Blk wr w.heap.size (svs (a ||| cut b k)) 27 ∧ Blk wr (w.heap.size + 1) (svs b) 27 ∧ Blk wr (w.heap.size + 2) zer 27 ∧ Below w.heap.size w wr) (fun i _ => 256 - (intOf i).toNat)
  case atStart => exact ⟨0, Nat.zero_le _, rfl, by rw [cut_zero, BitVec.or_zero]; exact k1, k2, k3, hbel⟩
  case round =>
    clear k1 k2 k3 hbel
    obtain ⟨k, hk, rfl, k1, k2, k3, hbel⟩ := hrel
    obtain ⟨A, hA⟩ : ∃ A, a ||| cut b k = A := ⟨_, rfl⟩
    rw [hA] at k1
    obtain ⟨p0, p1, p2, p3⟩ := k1.cells4; obtain ⟨q0, q1, q2, q3⟩ := k2.cells4; obtain ⟨r0, r1, r2, r3⟩ := k3.cells4
    by_cases hlt : k < 256
    · have hs := cut_succ b k hlt
      cases hb : b.getLsbD k with
      | true =>
        rw [hb, if_pos rfl] at hs
        have hA' : a ||| cut b (k + 1) = A ||| 1#256 <<< k := by rw [hs, ← hA, BitVec.or_assoc]
        have HH := Lib.hid (And.intro hA' hb)
        clear hA hA' hb hs
        go_wp2_with fail
        refine (rhas_eq b k true _ hlt HH.out.2).mono ?_
        rintro e w9 ⟨rfl, hE⟩
        replace k1 := k1.ext hE
        replace k2 := k2.ext hE
        replace k3 := k3.ext hE
        replace hbel := bel_call hbel hE
        clear hE
        clear p0 p1 p2 p3 q0 q1 q2 q3 r0 r1 r2 r3
        obtain ⟨p0, p1, p2, p3⟩ := k1.cells4; obtain ⟨q0, q1, q2, q3⟩ := k2.cells4; obtain ⟨r0, r1, r2, r3⟩ := k3.cells4
        go_wp2_with fail
        refine (rwith_eq A k _ _ hlt rfl).mono ?_
        rintro e w9 ⟨rfl, hE⟩
        replace k1 := k1.ext hE
        replace k2 := k2.ext hE
        replace k3 := k3.ext hE
        replace hbel := bel_call hbel hE
        clear hE
        clear p0 p1 p2 p3 q0 q1 q2 q3 r0 r1 r2 r3
        obtain ⟨p0, p1, p2, p3⟩ := k1.cells4; obtain ⟨q0, q1, q2, q3⟩ := k2.cells4; obtain ⟨r0, r1, r2, r3⟩ := k3.cells4
        have hfr := k1.free
        go_wp2
        go_roundw
        case rel => exact ⟨k + 1, by omega, by go_num, by rw [HH.out.1]; exact k1.store4 _ _ _ _, k2.other4 (by omega) _ _ _ _, k3.other4 (by omega) _ _ _ _, bel_set4 hbel (Nat.le_refl _) _ _ _ _⟩
        case measure => simp [intOf]; omega
      | false =>
        rw [hb, if_neg (by simp)] at hs
        have hA' : a ||| cut b (k + 1) = A := by rw [hs, ← hA]
        have HH := Lib.hid (And.intro hA' hb)
        clear hA hA' hb hs
        go_wp2_with fail
        refine (rhas_eq b k false _ hlt HH.out.2).mono ?_
        rintro e w9 ⟨rfl, hE⟩
        replace k1 := k1.ext hE
        replace k2 := k2.ext hE
        replace k3 := k3.ext hE
        replace hbel := bel_call hbel hE
        clear hE
        clear p0 p1 p2 p3 q0 q1 q2 q3 r0 r1 r2 r3
        obtain ⟨p0, p1, p2, p3⟩ := k1.cells4; obtain ⟨q0, q1, q2, q3⟩ := k2.cells4; obtain ⟨r0, r1, r2, r3⟩ := k3.cells4
        go_wp2
        go_roundw
        case rel => exact ⟨k + 1, by omega, by go_num, by rw [HH.out.1]; exact k1, k2, k3, hbel⟩
        case measure => simp [intOf]; omega
    · obtain rfl : k = 256 := by omega
      rw [cut_full] at hA
      have hfr := k3.free
      have HA := Lib.hid hA
      clear hA
      go_wp2
      refine bodyPost_ret (v := sv (a ||| b)) ?_ rfl ⟨rfl, by (repeat' (first | (with_reducible exact Below.refl _ _) | (with_reducible assumption) | (with_reducible refine below_drewN ?_ _) | (with_reducible refine Below.alloc ?_ ?_ _) | (with_reducible refine Below.drew ?_) | (with_reducible refine Below.setCell ?_ ?_ _) | (with_reducible refine Below.trans ?_ (Below.mono (by with_reducible assumption) ?_)) | go_size))⟩
      rw [HA.out]
      simp [results, Tryz.results46, go_sem, *]
/-- The bytes from lo up to, and without, k. -/
def rg (lo k : Nat) : BitVec 256 := low (k : Int) &&& ~~~(low (lo : Int))
theorem rg_bit (lo k i : Nat) (h1 : lo ≤ 256) (h2 : k ≤ 256) (hi : i < 256) : (rg lo k).getLsbD i = decide (lo ≤ i ∧ i < k) := by
  unfold rg
  rw [BitVec.getLsbD_and, BitVec.getLsbD_not, low_bit _ _ (by omega), low_bit _ _ (by omega), Int.toNat_natCast, Int.toNat_natCast, Bool.eq_iff_iff]
  simp [hi]
  omega
theorem rg_same (lo : Nat) (h : lo ≤ 256) : rg lo lo = 0#256 := by
  apply BitVec.eq_of_getLsbD_eq
  intro i hi
  rw [rg_bit lo lo i h h hi]; simp
theorem rg_succ (lo k : Nat) (h1 : lo ≤ k) (h2 : k < 256) : rg lo (k + 1) = rg lo k ||| 1#256 <<< k := by
  apply BitVec.eq_of_getLsbD_eq
  intro i hi
  rw [BitVec.getLsbD_or, rg_bit _ _ _ (by omega) (by omega) hi, rg_bit _ _ _ (by omega) (by omega) hi, BitVec.getLsbD_shiftLeft, BitVec.getLsbD_one]
  by_cases e : i = k
  · subst e; simp [h1, hi]
  · by_cases e2 : i < k
    · have : i < k + 1 := by omega
      simp [e2, this]
    · have h3 : ¬ i < k + 1 := by omega
      have h4 : ¬ i - k = 0 := by omega
      simp [e2, h3, h4]
theorem rg_rng (lo hi k : Nat) (h1 : lo ≤ 255) (h2 : hi ≤ 255) (h3 : lo ≤ k) (h4 : hi < k) (h5 : k ≤ lo ∨ k ≤ hi + 1) : rg lo k = rng lo hi := by
  apply BitVec.eq_of_getLsbD_eq
  intro i hi'
  rw [rg_bit _ _ _ (by omega) (by omega) hi', rng_bit _ _ _ (by omega) (by omega) (by omega) (by omega), decide_eq_decide]
  omega
set_option maxHeartbeats 1000000 in
set_option maxRecDepth 20000 in
theorem rrange_any (lo hi : Nat) (w : World) (h1 : lo ≤ 255) (h2 : hi ≤ 255) :
    Calls Tryz.prog 88 #[.int .i64 lo, .int .i64 hi] w fun e w' => e = .returned (sv (rng lo hi)) ∧ Below w.heap.size w w' := by
  have k1 := Blk.new (w.alloc (.cells zer 27)) zer 27
  have k2 := (Blk.new w zer 27).alloc (.cells zer 27)
  simp only [World.size_alloc] at k1
  have hbel : Below w.heap.size w ((w.alloc (.cells zer 27)).alloc (.cells zer 27)) := by (repeat' (first | (with_reducible exact Below.refl _ _) | (with_reducible assumption) | (with_reducible refine below_drewN ?_ _) | (with_reducible refine Below.alloc ?_ ?_ _) | (with_reducible refine Below.drew ?_) | (with_reducible refine Below.setCell ?_ ?_ _) | (with_reducible refine Below.trans ?_ (Below.mono (by with_reducible assumption) ?_)) | go_size))
  go_enter Tryz.func88, Tryz.ntmps88
  go_wp2_with fail
  go_loopw [6] (fun i wr => ∃ k : Nat, lo ≤ k ∧ (k ≤ lo ∨ k ≤ hi + 1) ∧ i = .int .i64 k ∧ Blk wr (w.heap.size + 1) (svs (rg lo k)) 27 ∧ Blk wr w.heap.size zer 27 ∧ Below w.heap.size w wr) (fun i _ => hi + 1 - (intOf i).toNat)
  case atStart => exact ⟨lo, Nat.le_refl _, .inl (Nat.le_refl _), rfl, by rw [rg_same lo (by omega), ← zer_svs]; exact k1, k2, hbel⟩
  case round =>
    clear k1 k2 hbel
    obtain ⟨k, hk1, hk2, rfl, k1, k2, hbel⟩ := hrel
    obtain ⟨A, hA⟩ : ∃ A, rg lo k = A := ⟨_, rfl⟩
    rw [hA] at k1
    obtain ⟨p0, p1, p2, p3⟩ := k1.cells4
    obtain ⟨q0, q1, q2, q3⟩ := k2.cells4
    by_cases hlt : k ≤ hi
    · have hs := rg_succ lo k hk1 (by omega)
      rw [hA] at hs
      have HH := Lib.hid hs
      clear hs hA
      go_wp2_with fail
      refine (rwith_eq A k _ _ (by omega) rfl).mono ?_
      rintro e w9 ⟨rfl, hE⟩
      replace k1 := k1.ext hE
      replace k2 := k2.ext hE
      replace hbel := bel_call hbel hE
      clear hE p0 p1 p2 p3 q0 q1 q2 q3
      obtain ⟨p0, p1, p2, p3⟩ := k1.cells4
      have hfr := k1.free
      go_wp2
      go_roundw
      case rel => exact ⟨k + 1, by omega, .inr (by omega), by go_num, by rw [HH.out]; exact k1.store4 _ _ _ _, k2.other4 (by omega) _ _ _ _, bel_set4 hbel (by omega) _ _ _ _⟩
      case measure => simp [intOf]; omega
    · have hfr := k2.free
      rw [rg_rng lo hi k h1 h2 hk1 (by omega) hk2] at hA
      have HA := Lib.hid hA
      clear hA
      go_wp2
      refine bodyPost_ret (v := sv (rng lo hi)) ?_ rfl ⟨rfl, by (repeat' (first | (with_reducible exact Below.refl _ _) | (with_reducible assumption) | (with_reducible refine below_drewN ?_ _) | (with_reducible refine Below.alloc ?_ ?_ _) | (with_reducible refine Below.drew ?_) | (with_reducible refine Below.setCell ?_ ?_ _) | (with_reducible refine Below.trans ?_ (Below.mono (by with_reducible assumption) ?_)) | go_size))⟩
      rw [HA.out]
      simp [results, Tryz.results88, go_sem, *]
theorem rrange_eq (lo hi : Nat) (r : BitVec 256) (w : World) (h1 : lo ≤ 255) (h2 : hi ≤ 255) (h : rng lo hi = r) :
    Calls Tryz.prog 88 #[.int .i64 lo, .int .i64 hi] w fun e w' => e = .returned (sv r) ∧ Below w.heap.size w w' := by subst h; exact rrange_any lo hi w h1 h2
theorem rng_full : rng 0 255 = full := by decide +kernel
theorem rrange_full (w : World) : Calls Tryz.prog 88 #[.int .i64 0, .int .i64 255] w fun e w' => e = .returned (sv full) ∧ Below w.heap.size w w' := by
  rw [← rng_full]; exact rrange_any 0 255 w (by omega) (by omega)
set_option maxHeartbeats 1000000 in
set_option maxRecDepth 20000 in
theorem rall_any (w : World) : Calls Tryz.prog 89 #[] w fun e w' => e = .returned (sv full) ∧ Below w.heap.size w w' := by
  have k1 := Blk.new w zer 27
  have hbel : Below w.heap.size w (w.alloc (.cells zer 27)) := by (repeat' (first | (with_reducible exact Below.refl _ _) | (with_reducible assumption) | (with_reducible refine below_drewN ?_ _) | (with_reducible refine Below.alloc ?_ ?_ _) | (with_reducible refine Below.drew ?_) | (with_reducible refine Below.setCell ?_ ?_ _) | (with_reducible refine Below.trans ?_ (Below.mono (by with_reducible assumption) ?_)) | go_size))
  obtain ⟨f, hf⟩ : ∃ f, full = f := ⟨_, rfl⟩
  have HF := Lib.hid hf
  rw [hf]
  clear hf
  go_enter Tryz.func89, Tryz.ntmps89
  go_wp2_with fail
  refine (rrange_full _).mono ?_
  rw [HF.out]
  rintro e w9 ⟨rfl, hE⟩
  replace k1 := k1.ext hE
  replace hbel := bel_call hbel hE
  clear hE
  obtain ⟨p0, p1, p2, p3⟩ := k1.cells4
  have hfr := k1.free
  go_wp2
  refine bodyPost_ret (v := sv f) ?_ rfl ⟨rfl, by (repeat' (first | (with_reducible exact Below.refl _ _) | (with_reducible assumption) | (with_reducible refine below_drewN ?_ _) | (with_reducible refine Below.alloc ?_ ?_ _) | (with_reducible refine Below.drew ?_) | (with_reducible refine Below.setCell ?_ ?_ _) | (with_reducible refine Below.trans ?_ (Below.mono (by with_reducible assumption) ?_)) | go_size))⟩
  simp [results, Tryz.results89, go_sem, *]
set_option maxHeartbeats 2000000 in
set_option maxRecDepth 20000 in
theorem rinter_any (a b : BitVec 256) (w : World) :
    Calls Tryz.prog 50 #[sv a, sv b] w fun e w' => e = .returned (sv (a &&& b)) ∧ Below w.heap.size w w' := by
  have k1 := Blk.new (((w.alloc (.cells (svs a) 27)).alloc (.cells (svs b) 27)).alloc (.cells zer 27)) zer 27
  have k2 := (((Blk.new w (svs a) 27).alloc (.cells (svs b) 27)).alloc (.cells zer 27)).alloc (.cells zer 27)
  have k3 := ((Blk.new (w.alloc (.cells (svs a) 27)) (svs b) 27).alloc (.cells zer 27)).alloc (.cells zer 27)
  have k4 := (Blk.new ((w.alloc (.cells (svs a) 27)).alloc (.cells (svs b) 27)) zer 27).alloc (.cells zer 27)
  simp only [World.size_alloc] at k1 k3 k4
  have hbel : Below w.heap.size w ((((w.alloc (.cells (svs a) 27)).alloc (.cells (svs b) 27)).alloc (.cells zer 27)).alloc (.cells zer 27)) := by (repeat' (first | (with_reducible exact Below.refl _ _) | (with_reducible assumption) | (with_reducible refine below_drewN ?_ _) | (with_reducible refine Below.alloc ?_ ?_ _) | (with_reducible refine Below.drew ?_) | (with_reducible refine Below.setCell ?_ ?_ _) | (with_reducible refine Below.trans ?_ (Below.mono (by with_reducible assumption) ?_)) | go_size))
  obtain ⟨X, hX⟩ : ∃ X, a &&& b = X := ⟨_, rfl⟩
  rw [hX]
  have hbit : ∀ k, k < 256 → X.getLsbD k = (a.getLsbD k &&  b.getLsbD k) := fun k hk => by rw [← hX]; simp [hk]
  have HX := Lib.hid hbit
  clear hX hbit
  go_enter Tryz.func50, Tryz.ntmps50
  go_wp2_with fail
  go_loopw [6] (fun i wr => ∃ k : Nat, k ≤ 256 ∧ i = .int .i64 k ∧ Blk wr (w.heap.size + 3) (svs (cut X k)) 27 ∧ Blk wr w.heap.size (svs a) 27 ∧ Blk wr (w.heap.size + 1) (svs b) 27 ∧ Blk wr (w.heap.size + 2) zer 27 ∧ Below w.heap.size w wr) (fun i _ => 256 - (intOf i).toNat)
  case atStart => exact ⟨0, Nat.zero_le _, rfl, by rw [cut_zero, ← zer_svs]; exact k1, k2, k3, k4, hbel⟩
  case round =>
    clear k1 k2 k3 k4 hbel
    obtain ⟨k, hk, rfl, k1, k2, k3, k4, hbel⟩ := hrel
    obtain ⟨A, hA⟩ : ∃ A, cut X k = A := ⟨_, rfl⟩
    rw [hA] at k1
    obtain ⟨p0, p1, p2, p3⟩ := k1.cells4; obtain ⟨q0, q1, q2, q3⟩ := k2.cells4; obtain ⟨r0, r1, r2, r3⟩ := k3.cells4; obtain ⟨s0, s1, s2, s3⟩ := k4.cells4
    by_cases hlt : k < 256
    · have hs := cut_succ X k hlt
      rw [HX.out k hlt] at hs
      cases ha : a.getLsbD k with
      | true =>
        cases hb : b.getLsbD k with
        | false =>
          have hA' : cut X (k + 1) = A := by rw [hs, ha, hb, ← hA]; simp
          have HH := Lib.hid (And.intro hA' (And.intro ha hb))
          clear hA hA' ha hb hs
          go_wp2_with fail
          refine (rhas_eq a k true _ hlt HH.out.2.1).mono ?_
          rintro e w9 ⟨rfl, hE⟩
          replace k1 := k1.ext hE
          replace k2 := k2.ext hE
          replace k3 := k3.ext hE
          replace k4 := k4.ext hE
          replace hbel := bel_call hbel hE
          clear hE
          clear p0 p1 p2 p3 q0 q1 q2 q3 r0 r1 r2 r3 s0 s1 s2 s3
          obtain ⟨p0, p1, p2, p3⟩ := k1.cells4; obtain ⟨q0, q1, q2, q3⟩ := k2.cells4; obtain ⟨r0, r1, r2, r3⟩ := k3.cells4; obtain ⟨s0, s1, s2, s3⟩ := k4.cells4
          go_wp2_with fail
          refine (rhas_eq b k _ _ hlt HH.out.2.2).mono ?_
          rintro e w9 ⟨rfl, hE⟩
          replace k1 := k1.ext hE
          replace k2 := k2.ext hE
          replace k3 := k3.ext hE
          replace k4 := k4.ext hE
          replace hbel := bel_call hbel hE
          clear hE
          clear p0 p1 p2 p3 q0 q1 q2 q3 r0 r1 r2 r3 s0 s1 s2 s3
          obtain ⟨p0, p1, p2, p3⟩ := k1.cells4; obtain ⟨q0, q1, q2, q3⟩ := k2.cells4; obtain ⟨r0, r1, r2, r3⟩ := k3.cells4; obtain ⟨s0, s1, s2, s3⟩ := k4.cells4
          go_wp2
          go_roundw
          case rel => exact ⟨k + 1, by omega, by go_num, by rw [HH.out.1]; exact k1, k2, k3, k4, hbel⟩
          case measure => simp [intOf]; omega
        | _ =>
          have hA' : cut X (k + 1) = A ||| 1#256 <<< k := by rw [hs, ha, hb, ← hA]; simp
          have HH := Lib.hid (And.intro hA' (And.intro ha hb))
          clear hA hA' ha hb hs
          go_wp2_with fail
          refine (rhas_eq a k true _ hlt HH.out.2.1).mono ?_
          rintro e w9 ⟨rfl, hE⟩
          replace k1 := k1.ext hE
          replace k2 := k2.ext hE
          replace k3 := k3.ext hE
          replace k4 := k4.ext hE
          replace hbel := bel_call hbel hE
          clear hE
          clear p0 p1 p2 p3 q0 q1 q2 q3 r0 r1 r2 r3 s0 s1 s2 s3
          obtain ⟨p0, p1, p2, p3⟩ := k1.cells4; obtain ⟨q0, q1, q2, q3⟩ := k2.cells4; obtain ⟨r0, r1, r2, r3⟩ := k3.cells4; obtain ⟨s0, s1, s2, s3⟩ := k4.cells4
          go_wp2_with fail
          refine (rhas_eq b k _ _ hlt HH.out.2.2).mono ?_
          rintro e w9 ⟨rfl, hE⟩
          replace k1 := k1.ext hE
          replace k2 := k2.ext hE
          replace k3 := k3.ext hE
          replace k4 := k4.ext hE
          replace hbel := bel_call hbel hE
          clear hE
          clear p0 p1 p2 p3 q0 q1 q2 q3 r0 r1 r2 r3 s0 s1 s2 s3
          obtain ⟨p0, p1, p2, p3⟩ := k1.cells4; obtain ⟨q0, q1, q2, q3⟩ := k2.cells4; obtain ⟨r0, r1, r2, r3⟩ := k3.cells4; obtain ⟨s0, s1, s2, s3⟩ := k4.cells4
          go_wp2_with fail
          refine (rwith_eq A k _ _ hlt rfl).mono ?_
          rintro e w9 ⟨rfl, hE⟩
          replace k1 := k1.ext hE
          replace k2 := k2.ext hE
          replace k3 := k3.ext hE
          replace k4 := k4.ext hE
          replace hbel := bel_call hbel hE
          clear hE
          clear p0 p1 p2 p3 q0 q1 q2 q3 r0 r1 r2 r3 s0 s1 s2 s3
          obtain ⟨p0, p1, p2, p3⟩ := k1.cells4; obtain ⟨q0, q1, q2, q3⟩ := k2.cells4; obtain ⟨r0, r1, r2, r3⟩ := k3.cells4; obtain ⟨s0, s1, s2, s3⟩ := k4.cells4
          have hfr := k1.free
          go_wp2
          go_roundw
          case rel => exact ⟨k + 1, by omega, by go_num, by rw [HH.out.1]; exact k1.store4 _ _ _ _, k2.other4 (by omega) _ _ _ _, k3.other4 (by omega) _ _ _ _, k4.other4 (by omega) _ _ _ _, bel_set4 hbel (by omega) _ _ _ _⟩
          case measure => simp [intOf]; omega
      | false =>
        have hA' : cut X (k + 1) = A := by rw [hs, ha, ← hA]; simp
        have HH := Lib.hid (And.intro hA' ha)
        clear hA hA' ha hs
        go_wp2_with fail
        refine (rhas_eq a k false _ hlt HH.out.2).mono ?_
        rintro e w9 ⟨rfl, hE⟩
        replace k1 := k1.ext hE
        replace k2 := k2.ext hE
        replace k3 := k3.ext hE
        replace k4 := k4.ext hE
        replace hbel := bel_call hbel hE
        clear hE
        clear p0 p1 p2 p3 q0 q1 q2 q3 r0 r1 r2 r3 s0 s1 s2 s3
        obtain ⟨p0, p1, p2, p3⟩ := k1.cells4; obtain ⟨q0, q1, q2, q3⟩ := k2.cells4; obtain ⟨r0, r1, r2, r3⟩ := k3.cells4; obtain ⟨s0, s1, s2, s3⟩ := k4.cells4
        go_wp2
        go_roundw
        case rel => exact ⟨k + 1, by omega, by go_num, by rw [HH.out.1]; exact k1, k2, k3, k4, hbel⟩
        case measure => simp [intOf]; omega
    · obtain rfl : k = 256 := by omega
      rw [cut_full] at hA
      have hfr := k4.free
      have HA := Lib.hid hA
      clear hA
      go_wp2
      refine bodyPost_ret (v := sv X) ?_ rfl ⟨rfl, by (repeat' (first | (with_reducible exact Below.refl _ _) | (with_reducible assumption) | (with_reducible refine below_drewN ?_ _) | (with_reducible refine Below.alloc ?_ ?_ _) | (with_reducible refine Below.drew ?_) | (with_reducible refine Below.setCell ?_ ?_ _) | (with_reducible refine Below.trans ?_ (Below.mono (by with_reducible assumption) ?_)) | go_size))⟩
      rw [HA.out]
      simp [results, Tryz.results50, go_sem, *]
set_option maxHeartbeats 2000000 in
set_option maxRecDepth 20000 in
theorem rminus_any (a b : BitVec 256) (w : World) :
    Calls Tryz.prog 49 #[sv a, sv b] w fun e w' => e = .returned (sv (a &&& ~~~b)) ∧ Below w.heap.size w w' := by
  have k1 := Blk.new (((w.alloc (.cells (svs a) 27)).alloc (.cells (svs b) 27)).alloc (.cells zer 27)) zer 27
  have k2 := (((Blk.new w (svs a) 27).alloc (.cells (svs b) 27)).alloc (.cells zer 27)).alloc (.cells zer 27)
  have k3 := ((Blk.new (w.alloc (.cells (svs a) 27)) (svs b) 27).alloc (.cells zer 27)).alloc (.cells zer 27)
  have k4 := (Blk.new ((w.alloc (.cells (svs a) 27)).alloc (.cells (svs b) 27)) zer 27).alloc (.cells zer 27)
  simp only [World.size_alloc] at k1 k3 k4
  have hbel : Below w.heap.size w ((((w.alloc (.cells (svs a) 27)).alloc (.cells (svs b) 27)).alloc (.cells zer 27)).alloc (.cells zer 27)) := by (repeat' (first | (with_reducible exact Below.refl _ _) | (with_reducible assumption) | (with_reducible refine below_drewN ?_ _) | (with_reducible refine Below.alloc ?_ ?_ _) | (with_reducible refine Below.drew ?_) | (with_reducible refine Below.setCell ?_ ?_ _) | (with_reducible refine Below.trans ?_ (Below.mono (by with_reducible assumption) ?_)) | go_size))
  obtain ⟨X, hX⟩ : ∃ X, a &&& ~~~b = X := ⟨_, rfl⟩
  rw [hX]
  have hbit : ∀ k, k < 256 → X.getLsbD k = (a.getLsbD k && ! b.getLsbD k) := fun k hk => by rw [← hX]; simp [hk]
  have HX := Lib.hid hbit
  clear hX hbit
  go_enter Tryz.func49, Tryz.ntmps49
  go_wp2_with fail
  go_loopw [6] (fun i wr => ∃ k : Nat, k ≤ 256 ∧ i = .int .i64 k ∧ Blk wr (w.heap.size + 3) (svs (cut X k)) 27 ∧ Blk wr w.heap.size (svs a) 27 ∧ Blk wr (w.heap.size + 1) (svs b) 27 ∧ Blk wr (w.heap.size + 2) zer 27 ∧ Below w.heap.size w wr) (fun i _ => 256 - (intOf i).toNat)
  case atStart => exact ⟨0, Nat.zero_le _, rfl, by rw [cut_zero, ← zer_svs]; exact k1, k2, k3, k4, hbel⟩
  case round =>
    clear k1 k2 k3 k4 hbel
    obtain ⟨k, hk, rfl, k1, k2, k3, k4, hbel⟩ := hrel
    obtain ⟨A, hA⟩ : ∃ A, cut X k = A := ⟨_, rfl⟩
    rw [hA] at k1
    obtain ⟨p0, p1, p2, p3⟩ := k1.cells4; obtain ⟨q0, q1, q2, q3⟩ := k2.cells4; obtain ⟨r0, r1, r2, r3⟩ := k3.cells4; obtain ⟨s0, s1, s2, s3⟩ := k4.cells4
    by_cases hlt : k < 256
    · have hs := cut_succ X k hlt
      rw [HX.out k hlt] at hs
      cases ha : a.getLsbD k with
      | true =>
        cases hb : b.getLsbD k with
        | true =>
          have hA' : cut X (k + 1) = A := by rw [hs, ha, hb, ← hA]; simp
          have HH := Lib.hid (And.intro hA' (And.intro ha hb))
          clear hA hA' ha hb hs
          go_wp2_with fail
          refine (rhas_eq a k true _ hlt HH.out.2.1).mono ?_
          rintro e w9 ⟨rfl, hE⟩
          replace k1 := k1.ext hE
          replace k2 := k2.ext hE
          replace k3 := k3.ext hE
          replace k4 := k4.ext hE
          replace hbel := bel_call hbel hE
          clear hE
          clear p0 p1 p2 p3 q0 q1 q2 q3 r0 r1 r2 r3 s0 s1 s2 s3
          obtain ⟨p0, p1, p2, p3⟩ := k1.cells4; obtain ⟨q0, q1, q2, q3⟩ := k2.cells4; obtain ⟨r0, r1, r2, r3⟩ := k3.cells4; obtain ⟨s0, s1, s2, s3⟩ := k4.cells4
          go_wp2_with fail
          refine (rhas_eq b k _ _ hlt HH.out.2.2).mono ?_
          rintro e w9 ⟨rfl, hE⟩
          replace k1 := k1.ext hE
          replace k2 := k2.ext hE
          replace k3 := k3.ext hE
          replace k4 := k4.ext hE
          replace hbel := bel_call hbel hE
          clear hE
          clear p0 p1 p2 p3 q0 q1 q2 q3 r0 r1 r2 r3 s0 s1 s2 s3
          obtain ⟨p0, p1, p2, p3⟩ := k1.cells4; obtain ⟨q0, q1, q2, q3⟩ := k2.cells4; obtain ⟨r0, r1, r2, r3⟩ := k3.cells4; obtain ⟨s0, s1, s2, s3⟩ := k4.cells4
          go_wp2
          go_roundw
          case rel => exact ⟨k + 1, by omega, by go_num, by rw [HH.out.1]; exact k1, k2, k3, k4, hbel⟩
          case measure => simp [intOf]; omega
        | _ =>
          have hA' : cut X (k + 1) = A ||| 1#256 <<< k := by rw [hs, ha, hb, ← hA]; simp
          have HH := Lib.hid (And.intro hA' (And.intro ha hb))
          clear hA hA' ha hb hs
          go_wp2_with fail
          refine (rhas_eq a k true _ hlt HH.out.2.1).mono ?_
          rintro e w9 ⟨rfl, hE⟩
          replace k1 := k1.ext hE
          replace k2 := k2.ext hE
          replace k3 := k3.ext hE
          replace k4 := k4.ext hE
          replace hbel := bel_call hbel hE
          clear hE
          clear p0 p1 p2 p3 q0 q1 q2 q3 r0 r1 r2 r3 s0 s1 s2 s3
          obtain ⟨p0, p1, p2, p3⟩ := k1.cells4; obtain ⟨q0, q1, q2, q3⟩ := k2.cells4; obtain ⟨r0, r1, r2, r3⟩ := k3.cells4; obtain ⟨s0, s1, s2, s3⟩ := k4.cells4
          go_wp2_with fail
          refine (rhas_eq b k _ _ hlt HH.out.2.2).mono ?_
          rintro e w9 ⟨rfl, hE⟩
          replace k1 := k1.ext hE
          replace k2 := k2.ext hE
          replace k3 := k3.ext hE
          replace k4 := k4.ext hE
          replace hbel := bel_call hbel hE
          clear hE
          clear p0 p1 p2 p3 q0 q1 q2 q3 r0 r1 r2 r3 s0 s1 s2 s3
          obtain ⟨p0, p1, p2, p3⟩ := k1.cells4; obtain ⟨q0, q1, q2, q3⟩ := k2.cells4; obtain ⟨r0, r1, r2, r3⟩ := k3.cells4; obtain ⟨s0, s1, s2, s3⟩ := k4.cells4
          go_wp2_with fail
          refine (rwith_eq A k _ _ hlt rfl).mono ?_
          rintro e w9 ⟨rfl, hE⟩
          replace k1 := k1.ext hE
          replace k2 := k2.ext hE
          replace k3 := k3.ext hE
          replace k4 := k4.ext hE
          replace hbel := bel_call hbel hE
          clear hE
          clear p0 p1 p2 p3 q0 q1 q2 q3 r0 r1 r2 r3 s0 s1 s2 s3
          obtain ⟨p0, p1, p2, p3⟩ := k1.cells4; obtain ⟨q0, q1, q2, q3⟩ := k2.cells4; obtain ⟨r0, r1, r2, r3⟩ := k3.cells4; obtain ⟨s0, s1, s2, s3⟩ := k4.cells4
          have hfr := k1.free
          go_wp2
          go_roundw
          case rel => exact ⟨k + 1, by omega, by go_num, by rw [HH.out.1]; exact k1.store4 _ _ _ _, k2.other4 (by omega) _ _ _ _, k3.other4 (by omega) _ _ _ _, k4.other4 (by omega) _ _ _ _, bel_set4 hbel (by omega) _ _ _ _⟩
          case measure => simp [intOf]; omega
      | false =>
        have hA' : cut X (k + 1) = A := by rw [hs, ha, ← hA]; simp
        have HH := Lib.hid (And.intro hA' ha)
        clear hA hA' ha hs
        go_wp2_with fail
        refine (rhas_eq a k false _ hlt HH.out.2).mono ?_
        rintro e w9 ⟨rfl, hE⟩
        replace k1 := k1.ext hE
        replace k2 := k2.ext hE
        replace k3 := k3.ext hE
        replace k4 := k4.ext hE
        replace hbel := bel_call hbel hE
        clear hE
        clear p0 p1 p2 p3 q0 q1 q2 q3 r0 r1 r2 r3 s0 s1 s2 s3
        obtain ⟨p0, p1, p2, p3⟩ := k1.cells4; obtain ⟨q0, q1, q2, q3⟩ := k2.cells4; obtain ⟨r0, r1, r2, r3⟩ := k3.cells4; obtain ⟨s0, s1, s2, s3⟩ := k4.cells4
        go_wp2
        go_roundw
        case rel => exact ⟨k + 1, by omega, by go_num, by rw [HH.out.1]; exact k1, k2, k3, k4, hbel⟩
        case measure => simp [intOf]; omega
    · obtain rfl : k = 256 := by omega
      rw [cut_full] at hA
      have hfr := k4.free
      have HA := Lib.hid hA
      clear hA
      go_wp2
      refine bodyPost_ret (v := sv X) ?_ rfl ⟨rfl, by (repeat' (first | (with_reducible exact Below.refl _ _) | (with_reducible assumption) | (with_reducible refine below_drewN ?_ _) | (with_reducible refine Below.alloc ?_ ?_ _) | (with_reducible refine Below.drew ?_) | (with_reducible refine Below.setCell ?_ ?_ _) | (with_reducible refine Below.trans ?_ (Below.mono (by with_reducible assumption) ?_)) | go_size))⟩
      rw [HA.out]
      simp [results, Tryz.results49, go_sem, *]
theorem rinter_eq (s t r : BitVec 256) (h : s &&& t = r) (w : World) :
    Calls Tryz.prog 50 #[sv s, sv t] w fun e w' => e = .returned (sv r) ∧ Below w.heap.size w w' := by subst h; exact rinter_any s t w
theorem runion_eq (s t r : BitVec 256) (h : s ||| t = r) (w : World) :
    Calls Tryz.prog 46 #[sv s, sv t] w fun e w' => e = .returned (sv r) ∧ Below w.heap.size w w' := by subst h; exact runion_any s t w
theorem rminus_eq (s t r : BitVec 256) (h : s &&& ~~~t = r) (w : World) :
    Calls Tryz.prog 49 #[sv s, sv t] w fun e w' => e = .returned (sv r) ∧ Below w.heap.size w w' := by subst h; exact rminus_any s t w
theorem rall_eq (r : BitVec 256) (h : full = r) (w : World) :
    Calls Tryz.prog 89 #[] w fun e w' => e = .returned (sv r) ∧ Below w.heap.size w w' := by subst h; exact rall_any w
set_option maxHeartbeats 1000000 in
set_option maxRecDepth 20000 in
theorem rcompl_any (a : BitVec 256) (w : World) :
    Calls Tryz.prog 48 #[sv a] w fun e w' => e = .returned (sv (~~~a)) ∧ Below w.heap.size w w' := by
  obtain ⟨f, hf⟩ : ∃ f, full = f := ⟨_, rfl⟩
  obtain ⟨c, hc⟩ : ∃ c, ~~~a = c := ⟨_, rfl⟩
  have hfc : f &&& ~~~a = c := by
    rw [← hf, ← hc]
    apply BitVec.eq_of_getLsbD_eq
    intro i hi
    have hfb : full.getLsbD i = true := by unfold full; rw [BitVec.getLsbD_not]; simp [hi]
    rw [BitVec.getLsbD_and, hfb]; simp
  have HH := Lib.hid (And.intro hf hfc)
  rw [hc]
  clear hf hc hfc
  have k1 := (Blk.new w (svs a) 27).alloc (.cells zer 27)
  have k2 := Blk.new (w.alloc (.cells (svs a) 27)) zer 27
  simp only [World.size_alloc] at k2
  have hbel : Below w.heap.size w ((w.alloc (.cells (svs a) 27)).alloc (.cells zer 27)) := by (repeat' (first | (with_reducible exact Below.refl _ _) | (with_reducible assumption) | (with_reducible refine below_drewN ?_ _) | (with_reducible refine Below.alloc ?_ ?_ _) | (with_reducible refine Below.drew ?_) | (with_reducible refine Below.setCell ?_ ?_ _) | (with_reducible refine Below.trans ?_ (Below.mono (by with_reducible assumption) ?_)) | go_size))
  go_enter Tryz.func48, Tryz.ntmps48
  go_wp2_with fail
  refine wp_region_tail (fun _ => none) 3 (by kernel_rfl) (by kernel_rfl) (fun _ _ h => by cases h) (fun hex => ?_)
  simp only [List.take_succ_cons, List.take_zero, List.drop_succ_cons, List.drop_zero]
  iterate 3
    (refine wpS_one (A := ?_) hex rfl rfl (by simp) ?_ ?_ ?_
     rotate_left 2
     · intro w' hC K hK
       obtain ⟨hcell, hfrz⟩ := bcell hC.1.ext
       obtain ⟨p0, p1, p2, p3⟩ := (k1.ext hC.1.ext).cells4; clear hcell hfrz
       go_wp2_with (first | (go_at_call 89; refine (rall_eq f HH.out.1 _).mono ?_; rintro e w2 ⟨rfl, hb2⟩) | (go_at_call 49; refine (rminus_eq f a c HH.out.2 _).mono ?_; rintro e w2 ⟨rfl, hb2⟩))
       refine hK _ ?_
       first | exact Gr.refl _ _ | exact Gr.of_ext (by assumption) hC.1.1.size
     rotate_left 1
     · rfl
     clear hex; intro hex)
  refine wpS_nil fun w3 hE => ?_
  replace hE := hE.1.ext
  obtain ⟨hcell_w3, hfrz_w3⟩ := bcell hE
  clear hcell_w3 hfrz_w3 hex
  replace k2 := k2.ext hE
  replace hbel := bel_call hbel hE
  clear hE
  obtain ⟨p0, p1, p2, p3⟩ := k2.cells4
  have hfr := k2.free
  go_wp2
  refine bodyPost_ret (v := sv c) ?_ rfl ⟨rfl, by (repeat' (first | (with_reducible exact Below.refl _ _) | (with_reducible assumption) | (with_reducible refine below_drewN ?_ _) | (with_reducible refine Below.alloc ?_ ?_ _) | (with_reducible refine Below.drew ?_) | (with_reducible refine Below.setCell ?_ ?_ _) | (with_reducible refine Below.trans ?_ (Below.mono (by with_reducible assumption) ?_)) | go_size))⟩
  simp [results, Tryz.results48, go_sem, *]
set_option maxHeartbeats 1000000 in
set_option maxRecDepth 20000 in
theorem rof_any (v : Value) (l : List UInt8) (w : World) (hv : Bytes w v l) :
    Calls Tryz.prog 59 #[v] w fun e w' => e = .returned (sv (ofl l)) ∧ Below w.heap.size w w' := by
  obtain ⟨hlen, ⟨rfl, a, cap, rfl⟩ | ⟨b, o, cap, rfl, hcap, hcap2, hpos, hb, hcells⟩⟩ := hv.open
  · go_enter Tryz.func59, Tryz.ntmps59
    go_wp2
    refine wp_loop_rounds 1 ?_
    rw [rounds_succ]
    go_wp2
    refine bodyPost_ret (v := sv (ofl [])) ?_ rfl ⟨rfl, by (repeat' (first | (with_reducible exact Below.refl _ _) | (with_reducible assumption) | (with_reducible refine below_drewN ?_ _) | (with_reducible refine Below.alloc ?_ ?_ _) | (with_reducible refine Below.drew ?_) | (with_reducible refine Below.setCell ?_ ?_ _) | (with_reducible refine Below.trans ?_ (Below.mono (by with_reducible assumption) ?_)) | go_size))⟩
    simp [results, Tryz.results59, go_sem, ofl, wd_zero]
  · have HC := Lib.hid hcells
    clear hcells
    go_enter Tryz.func59, Tryz.ntmps59
    go_wp2
    go_loopw [4] (fun i wr => ∃ k : Nat, k ≤ l.length ∧ i = .int .i64 k ∧ Blk wr w.heap.size zer 27 ∧ Blk wr (w.heap.size + 1) (svs (ofl (l.take k))) 27 ∧ Below w.heap.size w wr) (fun i _ => l.length - (intOf i).toNat)
    case atStart => exact ⟨0, Nat.zero_le _, rfl, (Blk.new w _ _).alloc _, by simpa [svs, ofl, wd_zero] using Blk.new (w.alloc _) _ _, by (repeat' (first | (with_reducible exact Below.refl _ _) | (with_reducible assumption) | (with_reducible refine below_drewN ?_ _) | (with_reducible refine Below.alloc ?_ ?_ _) | (with_reducible refine Below.drew ?_) | (with_reducible refine Below.setCell ?_ ?_ _) | (with_reducible refine Below.trans ?_ (Below.mono (by with_reducible assumption) ?_)) | go_size))⟩
    case round =>
      obtain ⟨k, hk, rfl, hB0, hB1, hbel⟩ := hrel
      obtain ⟨A, hA⟩ : ∃ A, ofl (l.take k) = A := ⟨_, rfl⟩
      rw [hA] at hB1
      obtain ⟨c0, c1, c2, c3⟩ := hB1.cells4
      by_cases hlt : k < l.length
      · have hsrc : wr.cell? ⟨b, o + k, none⟩ = some (ub (nth l k)) := by rw [hbel.cell (p := ⟨b, o + k, none⟩) hb]; exact HC.out k hlt
        have ht := ofl_take l k hlt
        rw [hA, Int.toNat_natCast] at ht
        have hx := (nth l k).toNat_lt
        generalize nth l k = x at *
        have HT := Lib.hid ht
        have hz := hB1.lt
        clear ht hA
        go_wp2_with fail
        refine wp_region_tail (fun _ => none) 7 (by kernel_rfl) (by kernel_rfl) (fun _ _ h => by cases h) (fun hex => ?_)
        simp only [List.take_succ_cons, List.take_zero, List.drop_succ_cons, List.drop_zero]
        iterate 7
          (refine wpS_one (A := ?_) hex rfl rfl (by simp) ?_ ?_ ?_
           rotate_left 2
           · intro w' hC K hK
             obtain ⟨hcell, hfrz⟩ := bcell hC.1.ext
             obtain ⟨p0, p1, p2, p3⟩ := (hB1.ext hC.1.ext).cells4; have hsrc' := (hC.1.ext.cell (p := ⟨b, o + k, none⟩) (by have := hbel.size; simp; omega)).trans hsrc; clear hcell hfrz
             go_wp2_with (go_at_call 85; refine (rwith_eq A x.toNat _ _ hx rfl).mono ?_; rintro e w2 ⟨rfl, hb2⟩)
             refine hK _ ?_
             first | exact Gr.refl _ _ | exact Gr.of_ext (by assumption) hC.1.1.size
           rotate_left 1
           · rfl
           clear hex; intro hex)
        refine wpS_nil fun w2 hE => ?_
        replace hE := hE.1.ext
        obtain ⟨hcell_w2, hfrz_w2⟩ := bcell hE
        have hB0' := hB0.ext hE
        have hB1' := hB1.ext hE
        have hbel2 : Below w.heap.size w w2 := bel_call hbel hE
        clear c0 c1 c2 c3 hsrc hB0 hB1 hcell_w2 hfrz_w2 hex hE
        obtain ⟨c0, c1, c2, c3⟩ := hB1'.cells4
        have hfr := hB1'.free
        go_wp2
        go_roundw
        case rel => exact ⟨k + 1, by omega, by go_num, hB0'.other4 (by omega) _ _ _ _, by rw [HT.out]; exact hB1'.store4 _ _ _ _, bel_set4 hbel2 (by omega) _ _ _ _⟩
        case measure => simp [intOf]; omega
      · obtain rfl : k = l.length := by omega
        rw [List.take_length] at hA
        obtain ⟨d0, d1, d2, d3⟩ := hB0.cells4
        have hfr := hB0.free
        have HA := Lib.hid hA
        clear hA
        go_wp2
        refine bodyPost_ret (v := sv (ofl l)) ?_ rfl ⟨rfl, by (repeat' (first | (with_reducible exact Below.refl _ _) | (with_reducible assumption) | (with_reducible refine below_drewN ?_ _) | (with_reducible refine Below.alloc ?_ ?_ _) | (with_reducible refine Below.drew ?_) | (with_reducible refine Below.setCell ?_ ?_ _) | (with_reducible refine Below.trans ?_ (Below.mono (by with_reducible assumption) ?_)) | go_size))⟩
        rw [HA.out]
        simp [results, Tryz.results59, go_sem, *]
end Go.Proofs.YtecjodcaeldidaaGreatDoor
namespace Go.Proofs.YtecjodcaeldidaaGreatDoor
open Go Go.RowKit
theorem ref_word : sAlnum ||| 1#256 <<< 95 = sWord := by decide +kernel
theorem ref_space : rng 9 13 ||| 1#256 <<< 32 = sSpace := by decide +kernel
theorem ref_cntrl : rng 0 31 ||| 1#256 <<< 127 = sCntrl := by decide +kernel
theorem ref_any : full = sAny := by decide +kernel
set_option maxHeartbeats 4000000 in
set_option maxRecDepth 20000 in
theorem rnamed_any (t : ByteArray) (w : World) (o : Option (BitVec 256)) (ho : nmd t.data.toList = o) :
    Calls Tryz.prog 86 #[.string t] w fun e w' => e = .returned (.tuple #[sv (o.getD 0#256), .bool o.isSome]) ∧ Ext w w' := by
  obtain ⟨L, hL⟩ : ∃ x, sLower = x := ⟨_, rfl⟩
  obtain ⟨U, hU⟩ : ∃ x, sUpper = x := ⟨_, rfl⟩
  obtain ⟨D, hD⟩ : ∃ x, sDigit = x := ⟨_, rfl⟩
  obtain ⟨A, hA⟩ : ∃ x, sAlpha = x := ⟨_, rfl⟩
  obtain ⟨N, hN⟩ : ∃ x, sAlnum = x := ⟨_, rfl⟩
  have hRL : ∀ w, Calls Tryz.prog 88 #[.int .i64 97, .int .i64 122] w fun e w' => e = .returned (sv L) ∧ Below w.heap.size w w' := fun w => rrange_eq 97 122 L w (by decide) (by decide) hL
  have hRU : ∀ w, Calls Tryz.prog 88 #[.int .i64 65, .int .i64 90] w fun e w' => e = .returned (sv U) ∧ Below w.heap.size w w' := fun w => rrange_eq 65 90 U w (by decide) (by decide) hU
  have hRD : ∀ w, Calls Tryz.prog 88 #[.int .i64 48, .int .i64 57] w fun e w' => e = .returned (sv D) ∧ Below w.heap.size w w' := fun w => rrange_eq 48 57 D w (by decide) (by decide) hD
  have hUA := fun w => runion_eq L U A (by rw [← hL, ← hU, ← hA]; rfl) w
  have hUN := fun w => runion_eq A D N (by rw [← hA, ← hD, ← hN]; rfl) w
  have HS := Lib.hid (And.intro hL (And.intro hU (And.intro hD (And.intro hA hN))))
  have HO := Lib.hid ho
  clear hL hU hD hA hN ho
  go_enter Tryz.func86, Tryz.ntmps86
  go_wp2_with fail
  have HE0 := Lib.hid (show Ext w (w.alloc (.cells zer 27)) from by (repeat' (first | (with_reducible exact Below.refl _ _) | (with_reducible assumption) | (with_reducible refine below_drewN ?_ _) | (with_reducible refine Below.alloc ?_ ?_ _) | (with_reducible refine Below.drew ?_) | (with_reducible refine Below.setCell ?_ ?_ _) | (with_reducible refine Below.trans ?_ (Below.mono (by with_reducible assumption) ?_)) | go_size)))
  have HB0 := Lib.hid (Blk.new w zer 27)
  generalize w.alloc (.cells zer 27) = w0 at HE0 HB0 ⊢
  refine (hRL _).mono ?_
  rintro e v1 ⟨rfl, hx⟩
  have hxx : Ext w0 (v1.alloc (.cells (svs L) 27)) := bel_alloc (Below.refl _ _) hx _
  have HE1 := Lib.hid (bel_call HE0.out hxx)
  have HB1 := Lib.hid (And.intro (HB0.out.ext hxx) (Blk.new v1 (svs L) 27))
  clear hx hxx hRL HE0 HB0
  go_wp2_with fail
  generalize hp : v1.heap.size = p1 at HB1 ⊢
  clear hp
  generalize v1.alloc (.cells (svs L) 27) = w1 at HE1 HB1 ⊢
  refine (hRU _).mono ?_
  rintro e v2 ⟨rfl, hx⟩
  have hxx : Ext w1 (v2.alloc (.cells (svs U) 27)) := bel_alloc (Below.refl _ _) hx _
  have HE2 := Lib.hid (bel_call HE1.out hxx)
  have HB2 := Lib.hid (And.intro (HB1.out.1.ext hxx) (And.intro (HB1.out.2.ext hxx) (Blk.new v2 (svs U) 27)))
  clear hx hxx hRU HE1 HB1
  go_wp2_with fail
  generalize hp : v2.heap.size = p2 at HB2 ⊢
  clear hp
  generalize v2.alloc (.cells (svs U) 27) = w2 at HE2 HB2 ⊢
  refine (hRD _).mono ?_
  rintro e v3 ⟨rfl, hx⟩
  have hxx : Ext w2 (v3.alloc (.cells (svs D) 27)) := bel_alloc (Below.refl _ _) hx _
  have HE3 := Lib.hid (bel_call HE2.out hxx)
  have HB3 := Lib.hid (And.intro (HB2.out.1.ext hxx) (And.intro (HB2.out.2.1.ext hxx) (And.intro (HB2.out.2.2.ext hxx) (Blk.new v3 (svs D) 27))))
  clear hx hxx hRD HE2 HB2
  obtain ⟨a0, a1, a2, a3⟩ := HB3.out.2.1.cells4
  obtain ⟨b0, b1, b2, b3⟩ := HB3.out.2.2.1.cells4
  go_wp2_with fail
  clear a0 a1 a2 a3 b0 b1 b2 b3
  generalize hp : v3.heap.size = p3 at HB3 ⊢
  clear hp
  generalize v3.alloc (.cells (svs D) 27) = w3 at HE3 HB3 ⊢
  refine (hUA _).mono ?_
  rintro e v4 ⟨rfl, hx⟩
  have hxx : Ext w3 (v4.alloc (.cells (svs A) 27)) := bel_alloc (Below.refl _ _) hx _
  have HE4 := Lib.hid (bel_call HE3.out hxx)
  have HB4 := Lib.hid (And.intro (HB3.out.1.ext hxx) (And.intro (HB3.out.2.1.ext hxx) (And.intro (HB3.out.2.2.1.ext hxx) (And.intro (HB3.out.2.2.2.ext hxx) (Blk.new v4 (svs A) 27)))))
  clear hx hxx hUA HE3 HB3
  obtain ⟨a0, a1, a2, a3⟩ := HB4.out.2.2.2.2.cells4
  obtain ⟨b0, b1, b2, b3⟩ := HB4.out.2.2.2.1.cells4
  go_wp2_with fail
  clear a0 a1 a2 a3 b0 b1 b2 b3
  generalize hp : v4.heap.size = p4 at HB4 ⊢
  clear hp
  generalize v4.alloc (.cells (svs A) 27) = w4 at HE4 HB4 ⊢
  refine (hUN _).mono ?_
  rintro e v5 ⟨rfl, hx⟩
  have hxx : Ext w4 (v5.alloc (.cells (svs N) 27)) := bel_alloc (Below.refl _ _) hx _
  have HE5 := Lib.hid (bel_call HE4.out hxx)
  have HB5 := Lib.hid (And.intro (HB4.out.1.ext hxx) (And.intro (HB4.out.2.1.ext hxx) (And.intro (HB4.out.2.2.1.ext hxx) (And.intro (HB4.out.2.2.2.1.ext hxx) (And.intro (HB4.out.2.2.2.2.ext hxx) (Blk.new v5 (svs N) 27))))))
  clear hx hxx hUN HE4 HB4
  have hsz5 : (v5.alloc (.cells (svs N) 27)).heap.size = v5.heap.size + 1 := by simp
  by_cases h0 : t.data.toList = [100, 105, 103, 105, 116]
  ·
    have ho := HO.out
    rw [nmd, if_pos h0] at ho
    have q0 : (t.toList == [100, 105, 103, 105, 116]) = true := by rw [str_eq, h0]; rfl
    clear h0 HO
    have HF := Lib.hid (And.intro ho HS.out.2.2.1)
    clear HS ho
    have hb := HB5.out.1
    have hE := HE5.out
    obtain ⟨x0, x1, x2, x3⟩ := HB5.out.2.2.2.1.cells4
    obtain ⟨z0, z1, z2, z3⟩ := hb.cells4
    have f0 := hb.free 0
    have f1 := hb.free 1
    have f2 := hb.free 2
    have f3 := hb.free 3
    have hlt := hb.lt
    obtain ⟨y0, y1, y2, y3⟩ := (hb.store4 (.int .u64 (wd D 0)) (.int .u64 (wd D 1)) (.int .u64 (wd D 2)) (.int .u64 (wd D 3))).cells4
    go_wp2_with fail
    refine bodyPost_ret (v := .tuple #[sv D, .bool true]) ?_ rfl ⟨by rw [← HF.out.1, ← HF.out.2]; rfl, by (repeat' (first | (with_reducible exact Below.refl _ _) | (with_reducible assumption) | (with_reducible refine below_drewN ?_ _) | (with_reducible refine Below.alloc ?_ ?_ _) | (with_reducible refine Below.drew ?_) | (with_reducible refine Below.setCell ?_ ?_ _) | (with_reducible refine Below.trans ?_ (Below.mono (by with_reducible assumption) ?_)) | go_size))⟩
    simp [results, Tryz.results86, go_sem, y0, y1, y2, y3]
  by_cases h1 : t.data.toList = [108, 111, 119, 101, 114]
  ·
    have ho := HO.out
    rw [nmd, if_neg h0, if_pos h1] at ho
    have q0 : (t.toList == [100, 105, 103, 105, 116]) = false := by rw [str_eq]; exact decide_eq_false h0
    have q1 : (t.toList == [108, 111, 119, 101, 114]) = true := by rw [str_eq, h1]; rfl
    clear h0 h1 HO
    have HF := Lib.hid (And.intro ho HS.out.1)
    clear HS ho
    have hb := HB5.out.1
    have hE := HE5.out
    obtain ⟨x0, x1, x2, x3⟩ := HB5.out.2.1.cells4
    obtain ⟨z0, z1, z2, z3⟩ := hb.cells4
    have f0 := hb.free 0
    have f1 := hb.free 1
    have f2 := hb.free 2
    have f3 := hb.free 3
    have hlt := hb.lt
    obtain ⟨y0, y1, y2, y3⟩ := (hb.store4 (.int .u64 (wd L 0)) (.int .u64 (wd L 1)) (.int .u64 (wd L 2)) (.int .u64 (wd L 3))).cells4
    go_wp2_with fail
    refine bodyPost_ret (v := .tuple #[sv L, .bool true]) ?_ rfl ⟨by rw [← HF.out.1, ← HF.out.2]; rfl, by (repeat' (first | (with_reducible exact Below.refl _ _) | (with_reducible assumption) | (with_reducible refine below_drewN ?_ _) | (with_reducible refine Below.alloc ?_ ?_ _) | (with_reducible refine Below.drew ?_) | (with_reducible refine Below.setCell ?_ ?_ _) | (with_reducible refine Below.trans ?_ (Below.mono (by with_reducible assumption) ?_)) | go_size))⟩
    simp [results, Tryz.results86, go_sem, y0, y1, y2, y3]
  by_cases h2 : t.data.toList = [117, 112, 112, 101, 114]
  ·
    have ho := HO.out
    rw [nmd, if_neg h0, if_neg h1, if_pos h2] at ho
    have q0 : (t.toList == [100, 105, 103, 105, 116]) = false := by rw [str_eq]; exact decide_eq_false h0
    have q1 : (t.toList == [108, 111, 119, 101, 114]) = false := by rw [str_eq]; exact decide_eq_false h1
    have q2 : (t.toList == [117, 112, 112, 101, 114]) = true := by rw [str_eq, h2]; rfl
    clear h0 h1 h2 HO
    have HF := Lib.hid (And.intro ho HS.out.2.1)
    clear HS ho
    have hb := HB5.out.1
    have hE := HE5.out
    obtain ⟨x0, x1, x2, x3⟩ := HB5.out.2.2.1.cells4
    obtain ⟨z0, z1, z2, z3⟩ := hb.cells4
    have f0 := hb.free 0
    have f1 := hb.free 1
    have f2 := hb.free 2
    have f3 := hb.free 3
    have hlt := hb.lt
    obtain ⟨y0, y1, y2, y3⟩ := (hb.store4 (.int .u64 (wd U 0)) (.int .u64 (wd U 1)) (.int .u64 (wd U 2)) (.int .u64 (wd U 3))).cells4
    go_wp2_with fail
    refine bodyPost_ret (v := .tuple #[sv U, .bool true]) ?_ rfl ⟨by rw [← HF.out.1, ← HF.out.2]; rfl, by (repeat' (first | (with_reducible exact Below.refl _ _) | (with_reducible assumption) | (with_reducible refine below_drewN ?_ _) | (with_reducible refine Below.alloc ?_ ?_ _) | (with_reducible refine Below.drew ?_) | (with_reducible refine Below.setCell ?_ ?_ _) | (with_reducible refine Below.trans ?_ (Below.mono (by with_reducible assumption) ?_)) | go_size))⟩
    simp [results, Tryz.results86, go_sem, y0, y1, y2, y3]
  by_cases h3 : t.data.toList = [97, 108, 112, 104, 97]
  ·
    have ho := HO.out
    rw [nmd, if_neg h0, if_neg h1, if_neg h2, if_pos h3] at ho
    have q0 : (t.toList == [100, 105, 103, 105, 116]) = false := by rw [str_eq]; exact decide_eq_false h0
    have q1 : (t.toList == [108, 111, 119, 101, 114]) = false := by rw [str_eq]; exact decide_eq_false h1
    have q2 : (t.toList == [117, 112, 112, 101, 114]) = false := by rw [str_eq]; exact decide_eq_false h2
    have q3 : (t.toList == [97, 108, 112, 104, 97]) = true := by rw [str_eq, h3]; rfl
    clear h0 h1 h2 h3 HO
    have HF := Lib.hid (And.intro ho HS.out.2.2.2.1)
    clear HS ho
    have hb := HB5.out.1
    have hE := HE5.out
    obtain ⟨x0, x1, x2, x3⟩ := HB5.out.2.2.2.2.1.cells4
    obtain ⟨z0, z1, z2, z3⟩ := hb.cells4
    have f0 := hb.free 0
    have f1 := hb.free 1
    have f2 := hb.free 2
    have f3 := hb.free 3
    have hlt := hb.lt
    obtain ⟨y0, y1, y2, y3⟩ := (hb.store4 (.int .u64 (wd A 0)) (.int .u64 (wd A 1)) (.int .u64 (wd A 2)) (.int .u64 (wd A 3))).cells4
    go_wp2_with fail
    refine bodyPost_ret (v := .tuple #[sv A, .bool true]) ?_ rfl ⟨by rw [← HF.out.1, ← HF.out.2]; rfl, by (repeat' (first | (with_reducible exact Below.refl _ _) | (with_reducible assumption) | (with_reducible refine below_drewN ?_ _) | (with_reducible refine Below.alloc ?_ ?_ _) | (with_reducible refine Below.drew ?_) | (with_reducible refine Below.setCell ?_ ?_ _) | (with_reducible refine Below.trans ?_ (Below.mono (by with_reducible assumption) ?_)) | go_size))⟩
    simp [results, Tryz.results86, go_sem, y0, y1, y2, y3]
  by_cases h4 : t.data.toList = [97, 108, 110, 117, 109]
  ·
    have ho := HO.out
    rw [nmd, if_neg h0, if_neg h1, if_neg h2, if_neg h3, if_pos h4] at ho
    have q0 : (t.toList == [100, 105, 103, 105, 116]) = false := by rw [str_eq]; exact decide_eq_false h0
    have q1 : (t.toList == [108, 111, 119, 101, 114]) = false := by rw [str_eq]; exact decide_eq_false h1
    have q2 : (t.toList == [117, 112, 112, 101, 114]) = false := by rw [str_eq]; exact decide_eq_false h2
    have q3 : (t.toList == [97, 108, 112, 104, 97]) = false := by rw [str_eq]; exact decide_eq_false h3
    have q4 : (t.toList == [97, 108, 110, 117, 109]) = true := by rw [str_eq, h4]; rfl
    clear h0 h1 h2 h3 h4 HO
    have HF := Lib.hid (And.intro ho HS.out.2.2.2.2)
    clear HS ho
    have hb := HB5.out.1
    have hE := HE5.out
    obtain ⟨x0, x1, x2, x3⟩ := HB5.out.2.2.2.2.2.cells4
    obtain ⟨z0, z1, z2, z3⟩ := hb.cells4
    have f0 := hb.free 0
    have f1 := hb.free 1
    have f2 := hb.free 2
    have f3 := hb.free 3
    have hlt := hb.lt
    obtain ⟨y0, y1, y2, y3⟩ := (hb.store4 (.int .u64 (wd N 0)) (.int .u64 (wd N 1)) (.int .u64 (wd N 2)) (.int .u64 (wd N 3))).cells4
    go_wp2_with fail
    refine bodyPost_ret (v := .tuple #[sv N, .bool true]) ?_ rfl ⟨by rw [← HF.out.1, ← HF.out.2]; rfl, by (repeat' (first | (with_reducible exact Below.refl _ _) | (with_reducible assumption) | (with_reducible refine below_drewN ?_ _) | (with_reducible refine Below.alloc ?_ ?_ _) | (with_reducible refine Below.drew ?_) | (with_reducible refine Below.setCell ?_ ?_ _) | (with_reducible refine Below.trans ?_ (Below.mono (by with_reducible assumption) ?_)) | go_size))⟩
    simp [results, Tryz.results86, go_sem, y0, y1, y2, y3]
  by_cases h5 : t.data.toList = [119, 111, 114, 100]
  ·
    have ho := HO.out
    rw [nmd, if_neg h0, if_neg h1, if_neg h2, if_neg h3, if_neg h4, if_pos h5] at ho
    have q0 : (t.toList == [100, 105, 103, 105, 116]) = false := by rw [str_eq]; exact decide_eq_false h0
    have q1 : (t.toList == [108, 111, 119, 101, 114]) = false := by rw [str_eq]; exact decide_eq_false h1
    have q2 : (t.toList == [117, 112, 112, 101, 114]) = false := by rw [str_eq]; exact decide_eq_false h2
    have q3 : (t.toList == [97, 108, 112, 104, 97]) = false := by rw [str_eq]; exact decide_eq_false h3
    have q4 : (t.toList == [97, 108, 110, 117, 109]) = false := by rw [str_eq]; exact decide_eq_false h4
    have q5 : (t.toList == [119, 111, 114, 100]) = true := by rw [str_eq, h5]; rfl
    clear h0 h1 h2 h3 h4 h5 HO
    obtain ⟨S, hS⟩ : ∃ x, sWord = x := ⟨_, rfl⟩
    have hw : ∀ w, Calls Tryz.prog 85 #[sv N, .int .i64 95] w fun e w' => e = .returned (sv S) ∧ Below w.heap.size w w' := fun w => rwith_eq N 95 S w (by decide) (by rw [← HS.out.2.2.2.2, ← hS]; exact ref_word)
    have HF := Lib.hid (And.intro ho hS)
    clear hS HS ho
    obtain ⟨x0, x1, x2, x3⟩ := HB5.out.2.2.2.2.2.cells4
    have hE := HE5.out
    have hb := HB5.out.1
    go_wp2_with fail
    refine (hw _).mono ?_
    rintro e u0 ⟨rfl, hx0⟩
    replace hE := bel_call hE hx0
    replace hb := hb.ext hx0
    clear hx0
    obtain ⟨z0, z1, z2, z3⟩ := hb.cells4
    have f0 := hb.free 0
    have f1 := hb.free 1
    have f2 := hb.free 2
    have f3 := hb.free 3
    have hlt := hb.lt
    obtain ⟨y0, y1, y2, y3⟩ := (hb.store4 (.int .u64 (wd S 0)) (.int .u64 (wd S 1)) (.int .u64 (wd S 2)) (.int .u64 (wd S 3))).cells4
    go_wp2_with fail
    refine bodyPost_ret (v := .tuple #[sv S, .bool true]) ?_ rfl ⟨by rw [← HF.out.1, ← HF.out.2]; rfl, by (repeat' (first | (with_reducible exact Below.refl _ _) | (with_reducible assumption) | (with_reducible refine below_drewN ?_ _) | (with_reducible refine Below.alloc ?_ ?_ _) | (with_reducible refine Below.drew ?_) | (with_reducible refine Below.setCell ?_ ?_ _) | (with_reducible refine Below.trans ?_ (Below.mono (by with_reducible assumption) ?_)) | go_size))⟩
    simp [results, Tryz.results86, go_sem, y0, y1, y2, y3]
  by_cases h6 : t.data.toList = [120, 100, 105, 103, 105, 116]
  ·
    have ho := HO.out
    rw [nmd, if_neg h0, if_neg h1, if_neg h2, if_neg h3, if_neg h4, if_neg h5, if_pos h6] at ho
    have q0 : (t.toList == [100, 105, 103, 105, 116]) = false := by rw [str_eq]; exact decide_eq_false h0
    have q1 : (t.toList == [108, 111, 119, 101, 114]) = false := by rw [str_eq]; exact decide_eq_false h1
    have q2 : (t.toList == [117, 112, 112, 101, 114]) = false := by rw [str_eq]; exact decide_eq_false h2
    have q3 : (t.toList == [97, 108, 112, 104, 97]) = false := by rw [str_eq]; exact decide_eq_false h3
    have q4 : (t.toList == [97, 108, 110, 117, 109]) = false := by rw [str_eq]; exact decide_eq_false h4
    have q5 : (t.toList == [119, 111, 114, 100]) = false := by rw [str_eq]; exact decide_eq_false h5
    have q6 : (t.toList == [120, 100, 105, 103, 105, 116]) = true := by rw [str_eq, h6]; rfl
    clear h0 h1 h2 h3 h4 h5 h6 HO
    obtain ⟨S, hS⟩ : ∃ x, sXdigit = x := ⟨_, rfl⟩
    obtain ⟨R, hR⟩ : ∃ x, rng 97 102 = x := ⟨_, rfl⟩
    obtain ⟨Q, hQ⟩ : ∃ x, rng 65 70 = x := ⟨_, rfl⟩
    obtain ⟨V, hV⟩ : ∃ x, R ||| Q = x := ⟨_, rfl⟩
    have hr : ∀ w, Calls Tryz.prog 88 #[.int .i64 97, .int .i64 102] w fun e w' => e = .returned (sv R) ∧ Below w.heap.size w w' := fun w => rrange_eq 97 102 R w (by decide) (by decide) hR
    have hq : ∀ w, Calls Tryz.prog 88 #[.int .i64 65, .int .i64 70] w fun e w' => e = .returned (sv Q) ∧ Below w.heap.size w w' := fun w => rrange_eq 65 70 Q w (by decide) (by decide) hQ
    have hv := fun w => runion_eq R Q V hV w
    have hs := fun w => runion_eq D V S (by rw [← hV, ← hR, ← hQ, ← HS.out.2.2.1, ← hS]; rfl) w
    have HF := Lib.hid (And.intro ho hS)
    clear hS hR hQ hV HS ho
    have hE5 := HE5.out
    have hb := HB5.out.1
    have hd := HB5.out.2.2.2.1
    go_wp2_with fail
    refine wp_region_tail (fun _ => none) 5 (by kernel_rfl) (by kernel_rfl) (fun _ _ h => by cases h) (fun hex => ?_)
    simp only [List.take_succ_cons, List.take_zero, List.drop_succ_cons, List.drop_zero]
    iterate 5
      (refine wpS_one (A := ?_) hex rfl rfl (by simp) ?_ ?_ ?_
       rotate_left 2
       · intro w' hC K hK
         obtain ⟨hcell, hfrz⟩ := bcell hC.1.ext
         obtain ⟨x0, x1, x2, x3⟩ := (hd.ext hC.1.ext).cells4; clear hcell hfrz
         go_wp2_with (first | (go_at_call 88; first | ((with_reducible refine (hr _).mono ?_); rintro e w2 ⟨rfl, hb2⟩) | ((with_reducible refine (hq _).mono ?_); rintro e w2 ⟨rfl, hb2⟩)) | (go_at_call 46; first | ((with_reducible refine (hv _).mono ?_); rintro e w2 ⟨rfl, hb2⟩) | ((with_reducible refine (hs _).mono ?_); rintro e w2 ⟨rfl, hb2⟩)))
         refine hK _ ?_
         first | exact Gr.refl _ _ | exact Gr.of_ext (by assumption) hC.1.1.size
       rotate_left 1
       · rfl
       clear hex; intro hex)
    refine wpS_nil fun w6 hE => ?_
    replace hE := hE.1.ext
    obtain ⟨hcell_w6, hfrz_w6⟩ := bcell hE
    clear hcell_w6 hfrz_w6 hex
    replace hb := hb.ext hE
    replace hE5 := bel_call hE5 hE
    clear hE
    obtain ⟨z0, z1, z2, z3⟩ := hb.cells4
    have f0 := hb.free 0
    have f1 := hb.free 1
    have f2 := hb.free 2
    have f3 := hb.free 3
    have hlt := hb.lt
    obtain ⟨y0, y1, y2, y3⟩ := (hb.store4 (.int .u64 (wd S 0)) (.int .u64 (wd S 1)) (.int .u64 (wd S 2)) (.int .u64 (wd S 3))).cells4
    go_wp2_with fail
    refine bodyPost_ret (v := .tuple #[sv S, .bool true]) ?_ rfl ⟨by rw [← HF.out.1, ← HF.out.2]; rfl, by (repeat' (first | (with_reducible exact Below.refl _ _) | (with_reducible assumption) | (with_reducible refine below_drewN ?_ _) | (with_reducible refine Below.alloc ?_ ?_ _) | (with_reducible refine Below.drew ?_) | (with_reducible refine Below.setCell ?_ ?_ _) | (with_reducible refine Below.trans ?_ (Below.mono (by with_reducible assumption) ?_)) | go_size))⟩
    simp [results, Tryz.results86, go_sem, y0, y1, y2, y3]
  by_cases h7 : t.data.toList = [98, 108, 97, 110, 107]
  ·
    have ho := HO.out
    rw [nmd, if_neg h0, if_neg h1, if_neg h2, if_neg h3, if_neg h4, if_neg h5, if_neg h6, if_pos h7] at ho
    have q0 : (t.toList == [100, 105, 103, 105, 116]) = false := by rw [str_eq]; exact decide_eq_false h0
    have q1 : (t.toList == [108, 111, 119, 101, 114]) = false := by rw [str_eq]; exact decide_eq_false h1
    have q2 : (t.toList == [117, 112, 112, 101, 114]) = false := by rw [str_eq]; exact decide_eq_false h2
    have q3 : (t.toList == [97, 108, 112, 104, 97]) = false := by rw [str_eq]; exact decide_eq_false h3
    have q4 : (t.toList == [97, 108, 110, 117, 109]) = false := by rw [str_eq]; exact decide_eq_false h4
    have q5 : (t.toList == [119, 111, 114, 100]) = false := by rw [str_eq]; exact decide_eq_false h5
    have q6 : (t.toList == [120, 100, 105, 103, 105, 116]) = false := by rw [str_eq]; exact decide_eq_false h6
    have q7 : (t.toList == [98, 108, 97, 110, 107]) = true := by rw [str_eq, h7]; rfl
    clear h0 h1 h2 h3 h4 h5 h6 h7 HO
    obtain ⟨S, hS⟩ : ∃ x, sBlank = x := ⟨_, rfl⟩
    have hr : Calls Tryz.prog 59 #[.slice (some ⟨v5.heap.size + 1, 0, none⟩) 2 2] ((v5.alloc (.cells (svs N) 27)).alloc (.cells #[.int .u8 32, .int .u8 9] 5)) fun e w' => e = .returned (sv S) ∧ Below ((v5.alloc (.cells (svs N) 27)).alloc (.cells #[.int .u8 32, .int .u8 9] 5)).heap.size ((v5.alloc (.cells (svs N) 27)).alloc (.cells #[.int .u8 32, .int .u8 9] 5)) w' := by
      rw [← hS, ← hsz5]
      exact rof_any _ [32, 9] _ (bytes_of_blk [32, 9] (Blk.new _ _ _) (by decide))
    have HF := Lib.hid (And.intro ho hS)
    clear hS HS ho
    have hE := HE5.out
    have hb := HB5.out.1
    go_wp2_with fail
    refine hr.mono ?_
    rintro e u0 ⟨rfl, hx0⟩
    replace hE := bel_call (bel_call hE (show Ext (v5.alloc (.cells (svs N) 27)) _ from by (repeat' (first | (with_reducible exact Below.refl _ _) | (with_reducible assumption) | (with_reducible refine below_drewN ?_ _) | (with_reducible refine Below.alloc ?_ ?_ _) | (with_reducible refine Below.drew ?_) | (with_reducible refine Below.setCell ?_ ?_ _) | (with_reducible refine Below.trans ?_ (Below.mono (by with_reducible assumption) ?_)) | go_size)))) hx0
    replace hb := (hb.ext (show Ext (v5.alloc (.cells (svs N) 27)) _ from by (repeat' (first | (with_reducible exact Below.refl _ _) | (with_reducible assumption) | (with_reducible refine below_drewN ?_ _) | (with_reducible refine Below.alloc ?_ ?_ _) | (with_reducible refine Below.drew ?_) | (with_reducible refine Below.setCell ?_ ?_ _) | (with_reducible refine Below.trans ?_ (Below.mono (by with_reducible assumption) ?_)) | go_size)))).ext hx0
    clear hx0 hr
    obtain ⟨z0, z1, z2, z3⟩ := hb.cells4
    have f0 := hb.free 0
    have f1 := hb.free 1
    have f2 := hb.free 2
    have f3 := hb.free 3
    have hlt := hb.lt
    obtain ⟨y0, y1, y2, y3⟩ := (hb.store4 (.int .u64 (wd S 0)) (.int .u64 (wd S 1)) (.int .u64 (wd S 2)) (.int .u64 (wd S 3))).cells4
    go_wp2_with fail
    refine bodyPost_ret (v := .tuple #[sv S, .bool true]) ?_ rfl ⟨by rw [← HF.out.1, ← HF.out.2]; rfl, by (repeat' (first | (with_reducible exact Below.refl _ _) | (with_reducible assumption) | (with_reducible refine below_drewN ?_ _) | (with_reducible refine Below.alloc ?_ ?_ _) | (with_reducible refine Below.drew ?_) | (with_reducible refine Below.setCell ?_ ?_ _) | (with_reducible refine Below.trans ?_ (Below.mono (by with_reducible assumption) ?_)) | go_size))⟩
    simp [results, Tryz.results86, go_sem, y0, y1, y2, y3]
  by_cases h8 : t.data.toList = [115, 112, 97, 99, 101]
  ·
    have ho := HO.out
    rw [nmd, if_neg h0, if_neg h1, if_neg h2, if_neg h3, if_neg h4, if_neg h5, if_neg h6, if_neg h7, if_pos h8] at ho
    have q0 : (t.toList == [100, 105, 103, 105, 116]) = false := by rw [str_eq]; exact decide_eq_false h0
    have q1 : (t.toList == [108, 111, 119, 101, 114]) = false := by rw [str_eq]; exact decide_eq_false h1
    have q2 : (t.toList == [117, 112, 112, 101, 114]) = false := by rw [str_eq]; exact decide_eq_false h2
    have q3 : (t.toList == [97, 108, 112, 104, 97]) = false := by rw [str_eq]; exact decide_eq_false h3
    have q4 : (t.toList == [97, 108, 110, 117, 109]) = false := by rw [str_eq]; exact decide_eq_false h4
    have q5 : (t.toList == [119, 111, 114, 100]) = false := by rw [str_eq]; exact decide_eq_false h5
    have q6 : (t.toList == [120, 100, 105, 103, 105, 116]) = false := by rw [str_eq]; exact decide_eq_false h6
    have q7 : (t.toList == [98, 108, 97, 110, 107]) = false := by rw [str_eq]; exact decide_eq_false h7
    have q8 : (t.toList == [115, 112, 97, 99, 101]) = true := by rw [str_eq, h8]; rfl
    clear h0 h1 h2 h3 h4 h5 h6 h7 h8 HO
    obtain ⟨S, hS⟩ : ∃ x, sSpace = x := ⟨_, rfl⟩
    obtain ⟨R, hR⟩ : ∃ x, rng 9 13 = x := ⟨_, rfl⟩
    have hr : ∀ w, Calls Tryz.prog 88 #[.int .i64 9, .int .i64 13] w fun e w' => e = .returned (sv R) ∧ Below w.heap.size w w' := fun w => rrange_eq 9 13 R w (by decide) (by decide) hR
    have hw : ∀ w, Calls Tryz.prog 85 #[sv R, .int .i64 32] w fun e w' => e = .returned (sv S) ∧ Below w.heap.size w w' := fun w => rwith_eq R 32 S w (by decide) (by rw [← hR, ← hS]; exact ref_space)
    clear hR
    have HF := Lib.hid (And.intro ho hS)
    clear hS HS ho
    have hE := HE5.out
    have hb := HB5.out.1
    go_wp2_with fail
    refine (hr _).mono ?_
    rintro e u0 ⟨rfl, hx0⟩
    replace hE := bel_call hE hx0
    replace hb := hb.ext hx0
    clear hx0
    go_wp2_with fail
    refine (hw _).mono ?_
    rintro e u1 ⟨rfl, hx1⟩
    replace hE := bel_call hE hx1
    replace hb := hb.ext hx1
    clear hx1
    obtain ⟨z0, z1, z2, z3⟩ := hb.cells4
    have f0 := hb.free 0
    have f1 := hb.free 1
    have f2 := hb.free 2
    have f3 := hb.free 3
    have hlt := hb.lt
    obtain ⟨y0, y1, y2, y3⟩ := (hb.store4 (.int .u64 (wd S 0)) (.int .u64 (wd S 1)) (.int .u64 (wd S 2)) (.int .u64 (wd S 3))).cells4
    go_wp2_with fail
    refine bodyPost_ret (v := .tuple #[sv S, .bool true]) ?_ rfl ⟨by rw [← HF.out.1, ← HF.out.2]; rfl, by (repeat' (first | (with_reducible exact Below.refl _ _) | (with_reducible assumption) | (with_reducible refine below_drewN ?_ _) | (with_reducible refine Below.alloc ?_ ?_ _) | (with_reducible refine Below.drew ?_) | (with_reducible refine Below.setCell ?_ ?_ _) | (with_reducible refine Below.trans ?_ (Below.mono (by with_reducible assumption) ?_)) | go_size))⟩
    simp [results, Tryz.results86, go_sem, y0, y1, y2, y3]
  by_cases h9 : t.data.toList = [112, 117, 110, 99, 116]
  ·
    have ho := HO.out
    rw [nmd, if_neg h0, if_neg h1, if_neg h2, if_neg h3, if_neg h4, if_neg h5, if_neg h6, if_neg h7, if_neg h8, if_pos h9] at ho
    have q0 : (t.toList == [100, 105, 103, 105, 116]) = false := by rw [str_eq]; exact decide_eq_false h0
    have q1 : (t.toList == [108, 111, 119, 101, 114]) = false := by rw [str_eq]; exact decide_eq_false h1
    have q2 : (t.toList == [117, 112, 112, 101, 114]) = false := by rw [str_eq]; exact decide_eq_false h2
    have q3 : (t.toList == [97, 108, 112, 104, 97]) = false := by rw [str_eq]; exact decide_eq_false h3
    have q4 : (t.toList == [97, 108, 110, 117, 109]) = false := by rw [str_eq]; exact decide_eq_false h4
    have q5 : (t.toList == [119, 111, 114, 100]) = false := by rw [str_eq]; exact decide_eq_false h5
    have q6 : (t.toList == [120, 100, 105, 103, 105, 116]) = false := by rw [str_eq]; exact decide_eq_false h6
    have q7 : (t.toList == [98, 108, 97, 110, 107]) = false := by rw [str_eq]; exact decide_eq_false h7
    have q8 : (t.toList == [115, 112, 97, 99, 101]) = false := by rw [str_eq]; exact decide_eq_false h8
    have q9 : (t.toList == [112, 117, 110, 99, 116]) = true := by rw [str_eq, h9]; rfl
    clear h0 h1 h2 h3 h4 h5 h6 h7 h8 h9 HO
    obtain ⟨S, hS⟩ : ∃ x, sPunct = x := ⟨_, rfl⟩
    obtain ⟨R, hR⟩ : ∃ x, rng 33 126 = x := ⟨_, rfl⟩
    have hr : ∀ w, Calls Tryz.prog 88 #[.int .i64 33, .int .i64 126] w fun e w' => e = .returned (sv R) ∧ Below w.heap.size w w' := fun w => rrange_eq 33 126 R w (by decide) (by decide) hR
    have hs := fun w => rminus_eq R N S (by rw [← hR, ← HS.out.2.2.2.2, ← hS]; rfl) w
    have HF := Lib.hid (And.intro ho hS)
    clear hS hR HS ho
    have hE5 := HE5.out
    have hb := HB5.out.1
    have hd := HB5.out.2.2.2.2.2
    go_wp2_with fail
    refine wp_region_tail (fun _ => none) 3 (by kernel_rfl) (by kernel_rfl) (fun _ _ h => by cases h) (fun hex => ?_)
    simp only [List.take_succ_cons, List.take_zero, List.drop_succ_cons, List.drop_zero]
    iterate 3
      (refine wpS_one (A := ?_) hex rfl rfl (by simp) ?_ ?_ ?_
       rotate_left 2
       · intro w' hC K hK
         obtain ⟨hcell, hfrz⟩ := bcell hC.1.ext
         obtain ⟨x0, x1, x2, x3⟩ := (hd.ext hC.1.ext).cells4; clear hcell hfrz
         go_wp2_with (first | (go_at_call 88; (refine (hr _).mono ?_); rintro e w2 ⟨rfl, hb2⟩) | (go_at_call 49; (refine (hs _).mono ?_); rintro e w2 ⟨rfl, hb2⟩))
         refine hK _ ?_
         first | exact Gr.refl _ _ | exact Gr.of_ext (by assumption) hC.1.1.size
       rotate_left 1
       · rfl
       clear hex; intro hex)
    refine wpS_nil fun w6 hE => ?_
    replace hE := hE.1.ext
    obtain ⟨hcell_w6, hfrz_w6⟩ := bcell hE
    clear hcell_w6 hfrz_w6 hex
    replace hb := hb.ext hE
    replace hE5 := bel_call hE5 hE
    clear hE
    obtain ⟨z0, z1, z2, z3⟩ := hb.cells4
    have f0 := hb.free 0
    have f1 := hb.free 1
    have f2 := hb.free 2
    have f3 := hb.free 3
    have hlt := hb.lt
    obtain ⟨y0, y1, y2, y3⟩ := (hb.store4 (.int .u64 (wd S 0)) (.int .u64 (wd S 1)) (.int .u64 (wd S 2)) (.int .u64 (wd S 3))).cells4
    go_wp2_with fail
    refine bodyPost_ret (v := .tuple #[sv S, .bool true]) ?_ rfl ⟨by rw [← HF.out.1, ← HF.out.2]; rfl, by (repeat' (first | (with_reducible exact Below.refl _ _) | (with_reducible assumption) | (with_reducible refine below_drewN ?_ _) | (with_reducible refine Below.alloc ?_ ?_ _) | (with_reducible refine Below.drew ?_) | (with_reducible refine Below.setCell ?_ ?_ _) | (with_reducible refine Below.trans ?_ (Below.mono (by with_reducible assumption) ?_)) | go_size))⟩
    simp [results, Tryz.results86, go_sem, y0, y1, y2, y3]
  by_cases h10 : t.data.toList = [112, 114, 105, 110, 116]
  ·
    have ho := HO.out
    rw [nmd, if_neg h0, if_neg h1, if_neg h2, if_neg h3, if_neg h4, if_neg h5, if_neg h6, if_neg h7, if_neg h8, if_neg h9, if_pos h10] at ho
    have q0 : (t.toList == [100, 105, 103, 105, 116]) = false := by rw [str_eq]; exact decide_eq_false h0
    have q1 : (t.toList == [108, 111, 119, 101, 114]) = false := by rw [str_eq]; exact decide_eq_false h1
    have q2 : (t.toList == [117, 112, 112, 101, 114]) = false := by rw [str_eq]; exact decide_eq_false h2
    have q3 : (t.toList == [97, 108, 112, 104, 97]) = false := by rw [str_eq]; exact decide_eq_false h3
    have q4 : (t.toList == [97, 108, 110, 117, 109]) = false := by rw [str_eq]; exact decide_eq_false h4
    have q5 : (t.toList == [119, 111, 114, 100]) = false := by rw [str_eq]; exact decide_eq_false h5
    have q6 : (t.toList == [120, 100, 105, 103, 105, 116]) = false := by rw [str_eq]; exact decide_eq_false h6
    have q7 : (t.toList == [98, 108, 97, 110, 107]) = false := by rw [str_eq]; exact decide_eq_false h7
    have q8 : (t.toList == [115, 112, 97, 99, 101]) = false := by rw [str_eq]; exact decide_eq_false h8
    have q9 : (t.toList == [112, 117, 110, 99, 116]) = false := by rw [str_eq]; exact decide_eq_false h9
    have q10 : (t.toList == [112, 114, 105, 110, 116]) = true := by rw [str_eq, h10]; rfl
    clear h0 h1 h2 h3 h4 h5 h6 h7 h8 h9 h10 HO
    obtain ⟨S, hS⟩ : ∃ x, sPrint = x := ⟨_, rfl⟩
    have hr : ∀ w, Calls Tryz.prog 88 #[.int .i64 32, .int .i64 126] w fun e w' => e = .returned (sv S) ∧ Below w.heap.size w w' := fun w => rrange_eq 32 126 S w (by decide) (by decide) hS
    have HF := Lib.hid (And.intro ho hS)
    clear hS HS ho
    have hE := HE5.out
    have hb := HB5.out.1
    go_wp2_with fail
    refine (hr _).mono ?_
    rintro e u0 ⟨rfl, hx0⟩
    replace hE := bel_call hE hx0
    replace hb := hb.ext hx0
    clear hx0
    obtain ⟨z0, z1, z2, z3⟩ := hb.cells4
    have f0 := hb.free 0
    have f1 := hb.free 1
    have f2 := hb.free 2
    have f3 := hb.free 3
    have hlt := hb.lt
    obtain ⟨y0, y1, y2, y3⟩ := (hb.store4 (.int .u64 (wd S 0)) (.int .u64 (wd S 1)) (.int .u64 (wd S 2)) (.int .u64 (wd S 3))).cells4
    go_wp2_with fail
    refine bodyPost_ret (v := .tuple #[sv S, .bool true]) ?_ rfl ⟨by rw [← HF.out.1, ← HF.out.2]; rfl, by (repeat' (first | (with_reducible exact Below.refl _ _) | (with_reducible assumption) | (with_reducible refine below_drewN ?_ _) | (with_reducible refine Below.alloc ?_ ?_ _) | (with_reducible refine Below.drew ?_) | (with_reducible refine Below.setCell ?_ ?_ _) | (with_reducible refine Below.trans ?_ (Below.mono (by with_reducible assumption) ?_)) | go_size))⟩
    simp [results, Tryz.results86, go_sem, y0, y1, y2, y3]
  by_cases h11 : t.data.toList = [99, 110, 116, 114, 108]
  ·
    have ho := HO.out
    rw [nmd, if_neg h0, if_neg h1, if_neg h2, if_neg h3, if_neg h4, if_neg h5, if_neg h6, if_neg h7, if_neg h8, if_neg h9, if_neg h10, if_pos h11] at ho
    have q0 : (t.toList == [100, 105, 103, 105, 116]) = false := by rw [str_eq]; exact decide_eq_false h0
    have q1 : (t.toList == [108, 111, 119, 101, 114]) = false := by rw [str_eq]; exact decide_eq_false h1
    have q2 : (t.toList == [117, 112, 112, 101, 114]) = false := by rw [str_eq]; exact decide_eq_false h2
    have q3 : (t.toList == [97, 108, 112, 104, 97]) = false := by rw [str_eq]; exact decide_eq_false h3
    have q4 : (t.toList == [97, 108, 110, 117, 109]) = false := by rw [str_eq]; exact decide_eq_false h4
    have q5 : (t.toList == [119, 111, 114, 100]) = false := by rw [str_eq]; exact decide_eq_false h5
    have q6 : (t.toList == [120, 100, 105, 103, 105, 116]) = false := by rw [str_eq]; exact decide_eq_false h6
    have q7 : (t.toList == [98, 108, 97, 110, 107]) = false := by rw [str_eq]; exact decide_eq_false h7
    have q8 : (t.toList == [115, 112, 97, 99, 101]) = false := by rw [str_eq]; exact decide_eq_false h8
    have q9 : (t.toList == [112, 117, 110, 99, 116]) = false := by rw [str_eq]; exact decide_eq_false h9
    have q10 : (t.toList == [112, 114, 105, 110, 116]) = false := by rw [str_eq]; exact decide_eq_false h10
    have q11 : (t.toList == [99, 110, 116, 114, 108]) = true := by rw [str_eq, h11]; rfl
    clear h0 h1 h2 h3 h4 h5 h6 h7 h8 h9 h10 h11 HO
    obtain ⟨S, hS⟩ : ∃ x, sCntrl = x := ⟨_, rfl⟩
    obtain ⟨R, hR⟩ : ∃ x, rng 0 31 = x := ⟨_, rfl⟩
    have hr : ∀ w, Calls Tryz.prog 88 #[.int .i64 0, .int .i64 31] w fun e w' => e = .returned (sv R) ∧ Below w.heap.size w w' := fun w => rrange_eq 0 31 R w (by decide) (by decide) hR
    have hw : ∀ w, Calls Tryz.prog 85 #[sv R, .int .i64 127] w fun e w' => e = .returned (sv S) ∧ Below w.heap.size w w' := fun w => rwith_eq R 127 S w (by decide) (by rw [← hR, ← hS]; exact ref_cntrl)
    clear hR
    have HF := Lib.hid (And.intro ho hS)
    clear hS HS ho
    have hE := HE5.out
    have hb := HB5.out.1
    go_wp2_with fail
    refine (hr _).mono ?_
    rintro e u0 ⟨rfl, hx0⟩
    replace hE := bel_call hE hx0
    replace hb := hb.ext hx0
    clear hx0
    go_wp2_with fail
    refine (hw _).mono ?_
    rintro e u1 ⟨rfl, hx1⟩
    replace hE := bel_call hE hx1
    replace hb := hb.ext hx1
    clear hx1
    obtain ⟨z0, z1, z2, z3⟩ := hb.cells4
    have f0 := hb.free 0
    have f1 := hb.free 1
    have f2 := hb.free 2
    have f3 := hb.free 3
    have hlt := hb.lt
    obtain ⟨y0, y1, y2, y3⟩ := (hb.store4 (.int .u64 (wd S 0)) (.int .u64 (wd S 1)) (.int .u64 (wd S 2)) (.int .u64 (wd S 3))).cells4
    go_wp2_with fail
    refine bodyPost_ret (v := .tuple #[sv S, .bool true]) ?_ rfl ⟨by rw [← HF.out.1, ← HF.out.2]; rfl, by (repeat' (first | (with_reducible exact Below.refl _ _) | (with_reducible assumption) | (with_reducible refine below_drewN ?_ _) | (with_reducible refine Below.alloc ?_ ?_ _) | (with_reducible refine Below.drew ?_) | (with_reducible refine Below.setCell ?_ ?_ _) | (with_reducible refine Below.trans ?_ (Below.mono (by with_reducible assumption) ?_)) | go_size))⟩
    simp [results, Tryz.results86, go_sem, y0, y1, y2, y3]
  by_cases h12 : t.data.toList = [97, 110, 121]
  ·
    have ho := HO.out
    rw [nmd, if_neg h0, if_neg h1, if_neg h2, if_neg h3, if_neg h4, if_neg h5, if_neg h6, if_neg h7, if_neg h8, if_neg h9, if_neg h10, if_neg h11, if_pos h12] at ho
    have q0 : (t.toList == [100, 105, 103, 105, 116]) = false := by rw [str_eq]; exact decide_eq_false h0
    have q1 : (t.toList == [108, 111, 119, 101, 114]) = false := by rw [str_eq]; exact decide_eq_false h1
    have q2 : (t.toList == [117, 112, 112, 101, 114]) = false := by rw [str_eq]; exact decide_eq_false h2
    have q3 : (t.toList == [97, 108, 112, 104, 97]) = false := by rw [str_eq]; exact decide_eq_false h3
    have q4 : (t.toList == [97, 108, 110, 117, 109]) = false := by rw [str_eq]; exact decide_eq_false h4
    have q5 : (t.toList == [119, 111, 114, 100]) = false := by rw [str_eq]; exact decide_eq_false h5
    have q6 : (t.toList == [120, 100, 105, 103, 105, 116]) = false := by rw [str_eq]; exact decide_eq_false h6
    have q7 : (t.toList == [98, 108, 97, 110, 107]) = false := by rw [str_eq]; exact decide_eq_false h7
    have q8 : (t.toList == [115, 112, 97, 99, 101]) = false := by rw [str_eq]; exact decide_eq_false h8
    have q9 : (t.toList == [112, 117, 110, 99, 116]) = false := by rw [str_eq]; exact decide_eq_false h9
    have q10 : (t.toList == [112, 114, 105, 110, 116]) = false := by rw [str_eq]; exact decide_eq_false h10
    have q11 : (t.toList == [99, 110, 116, 114, 108]) = false := by rw [str_eq]; exact decide_eq_false h11
    have q12 : (t.toList == [97, 110, 121]) = true := by rw [str_eq, h12]; rfl
    clear h0 h1 h2 h3 h4 h5 h6 h7 h8 h9 h10 h11 h12 HO
    obtain ⟨S, hS⟩ : ∃ x, sAny = x := ⟨_, rfl⟩
    have hr : ∀ w, Calls Tryz.prog 89 #[] w fun e w' => e = .returned (sv S) ∧ Below w.heap.size w w' := fun w => rall_eq S (by rw [← hS]; exact ref_any) w
    have HF := Lib.hid (And.intro ho hS)
    clear hS HS ho
    have hE := HE5.out
    have hb := HB5.out.1
    go_wp2_with fail
    refine (hr _).mono ?_
    rintro e u0 ⟨rfl, hx0⟩
    replace hE := bel_call hE hx0
    replace hb := hb.ext hx0
    clear hx0
    obtain ⟨z0, z1, z2, z3⟩ := hb.cells4
    have f0 := hb.free 0
    have f1 := hb.free 1
    have f2 := hb.free 2
    have f3 := hb.free 3
    have hlt := hb.lt
    obtain ⟨y0, y1, y2, y3⟩ := (hb.store4 (.int .u64 (wd S 0)) (.int .u64 (wd S 1)) (.int .u64 (wd S 2)) (.int .u64 (wd S 3))).cells4
    go_wp2_with fail
    refine bodyPost_ret (v := .tuple #[sv S, .bool true]) ?_ rfl ⟨by rw [← HF.out.1, ← HF.out.2]; rfl, by (repeat' (first | (with_reducible exact Below.refl _ _) | (with_reducible assumption) | (with_reducible refine below_drewN ?_ _) | (with_reducible refine Below.alloc ?_ ?_ _) | (with_reducible refine Below.drew ?_) | (with_reducible refine Below.setCell ?_ ?_ _) | (with_reducible refine Below.trans ?_ (Below.mono (by with_reducible assumption) ?_)) | go_size))⟩
    simp [results, Tryz.results86, go_sem, y0, y1, y2, y3]
  have ho := HO.out
  rw [nmd, if_neg h0, if_neg h1, if_neg h2, if_neg h3, if_neg h4, if_neg h5, if_neg h6, if_neg h7, if_neg h8, if_neg h9, if_neg h10, if_neg h11, if_neg h12] at ho
  have HF := Lib.hid ho
  clear ho
  have q0 : (t.toList == [100, 105, 103, 105, 116]) = false := by rw [str_eq]; exact decide_eq_false h0
  have q1 : (t.toList == [108, 111, 119, 101, 114]) = false := by rw [str_eq]; exact decide_eq_false h1
  have q2 : (t.toList == [117, 112, 112, 101, 114]) = false := by rw [str_eq]; exact decide_eq_false h2
  have q3 : (t.toList == [97, 108, 112, 104, 97]) = false := by rw [str_eq]; exact decide_eq_false h3
  have q4 : (t.toList == [97, 108, 110, 117, 109]) = false := by rw [str_eq]; exact decide_eq_false h4
  have q5 : (t.toList == [119, 111, 114, 100]) = false := by rw [str_eq]; exact decide_eq_false h5
  have q6 : (t.toList == [120, 100, 105, 103, 105, 116]) = false := by rw [str_eq]; exact decide_eq_false h6
  have q7 : (t.toList == [98, 108, 97, 110, 107]) = false := by rw [str_eq]; exact decide_eq_false h7
  have q8 : (t.toList == [115, 112, 97, 99, 101]) = false := by rw [str_eq]; exact decide_eq_false h8
  have q9 : (t.toList == [112, 117, 110, 99, 116]) = false := by rw [str_eq]; exact decide_eq_false h9
  have q10 : (t.toList == [112, 114, 105, 110, 116]) = false := by rw [str_eq]; exact decide_eq_false h10
  have q11 : (t.toList == [99, 110, 116, 114, 108]) = false := by rw [str_eq]; exact decide_eq_false h11
  have q12 : (t.toList == [97, 110, 121]) = false := by rw [str_eq]; exact decide_eq_false h12
  clear h0 h1 h2 h3 h4 h5 h6 h7 h8 h9 h10 h11 h12 HO HS
  have hb := HB5.out.1
  have hE := HE5.out
  obtain ⟨z0, z1, z2, z3⟩ := hb.cells4
  have f0 := hb.free 0
  have f1 := hb.free 1
  have f2 := hb.free 2
  have f3 := hb.free 3
  have hlt := hb.lt
  obtain ⟨y0, y1, y2, y3⟩ := (hb.store4 (.int .u64 0) (.int .u64 0) (.int .u64 0) (.int .u64 0)).cells4
  go_wp2_with fail
  refine bodyPost_ret (v := .tuple #[sv0, .bool false]) ?_ rfl ⟨by rw [← HF.out, ← sv_zero]; rfl, by (repeat' (first | (with_reducible exact Below.refl _ _) | (with_reducible assumption) | (with_reducible refine below_drewN ?_ _) | (with_reducible refine Below.alloc ?_ ?_ _) | (with_reducible refine Below.drew ?_) | (with_reducible refine Below.setCell ?_ ?_ _) | (with_reducible refine Below.trans ?_ (Below.mono (by with_reducible assumption) ?_)) | go_size))⟩
  simp [results, Tryz.results86, go_sem, y0, y1, y2, y3]
end Go.Proofs.YtecjodcaeldidaaGreatDoor
namespace Go.Proofs.YtecjodcaeldidaaGreatDoor
open Go Go.RowKit
theorem rlet_1 (n : Nat) (h1 : 97 ≤ n) (h2 : n ≤ 122) (w : World) : Calls Tryz.prog 114 #[.int .u8 (n : Int)] w fun e w' => e = .returned (.bool true) ∧ Ext w w' := by
  have d1 : decide ((97 : Int) ≤ (n : Int)) = true := (by simp; omega); have d2 : decide ((n : Int) ≤ 122) = true := (by simp; omega)
  go_enter Tryz.func114, Tryz.ntmps114
  go_wp2
  go_ret
  exact ⟨rfl, by go_grown⟩
theorem rlet_2 (n : Nat) (h1 : 123 ≤ n) (w : World) : Calls Tryz.prog 114 #[.int .u8 (n : Int)] w fun e w' => e = .returned (.bool false) ∧ Ext w w' := by
  have d1 : decide ((97 : Int) ≤ (n : Int)) = true := (by simp; omega); have d2 : decide ((n : Int) ≤ 122) = false := (by simp; omega); have d3 : decide ((65 : Int) ≤ (n : Int)) = true := (by simp; omega); have d4 : decide ((n : Int) ≤ 90) = false := (by simp; omega)
  go_enter Tryz.func114, Tryz.ntmps114
  go_wp2
  go_ret
  exact ⟨rfl, by go_grown⟩
theorem rlet_3 (n : Nat) (h1 : 91 ≤ n) (h2 : n ≤ 96) (w : World) : Calls Tryz.prog 114 #[.int .u8 (n : Int)] w fun e w' => e = .returned (.bool false) ∧ Ext w w' := by
  have d1 : decide ((97 : Int) ≤ (n : Int)) = false := (by simp; omega); have d3 : decide ((65 : Int) ≤ (n : Int)) = true := (by simp; omega); have d4 : decide ((n : Int) ≤ 90) = false := (by simp; omega)
  go_enter Tryz.func114, Tryz.ntmps114
  go_wp2
  go_ret
  exact ⟨rfl, by go_grown⟩
theorem rlet_4 (n : Nat) (h1 : 65 ≤ n) (h2 : n ≤ 90) (w : World) : Calls Tryz.prog 114 #[.int .u8 (n : Int)] w fun e w' => e = .returned (.bool true) ∧ Ext w w' := by
  have d1 : decide ((97 : Int) ≤ (n : Int)) = false := (by simp; omega); have d3 : decide ((65 : Int) ≤ (n : Int)) = true := (by simp; omega); have d4 : decide ((n : Int) ≤ 90) = true := (by simp; omega)
  go_enter Tryz.func114, Tryz.ntmps114
  go_wp2
  go_ret
  exact ⟨rfl, by go_grown⟩
theorem rlet_5 (n : Nat) (h1 : n < 65) (w : World) : Calls Tryz.prog 114 #[.int .u8 (n : Int)] w fun e w' => e = .returned (.bool false) ∧ Ext w w' := by
  have d1 : decide ((97 : Int) ≤ (n : Int)) = false := (by simp; omega); have d3 : decide ((65 : Int) ≤ (n : Int)) = false := (by simp; omega)
  go_enter Tryz.func114, Tryz.ntmps114
  go_wp2
  go_ret
  exact ⟨rfl, by go_grown⟩
def letB (n : Nat) : Bool := (decide (97 ≤ n) && decide (n ≤ 122)) || (decide (65 ≤ n) && decide (n ≤ 90))
theorem rletter_any (n : Nat) (q : Bool) (hq : letB n = q) (w : World) : Calls Tryz.prog 114 #[.int .u8 (n : Int)] w fun e w' => e = .returned (.bool q) ∧ Ext w w' := by
  have hc : (97 ≤ n ∧ n ≤ 122) ∨ 123 ≤ n ∨ (91 ≤ n ∧ n ≤ 96) ∨ (65 ≤ n ∧ n ≤ 90) ∨ n < 65 := by omega
  rcases hc with h | h | h | h | h
  · obtain rfl : true = q := by rw [← hq]; unfold letB; simp; omega
    exact rlet_1 n h.1 h.2 w
  · obtain rfl : false = q := by rw [← hq]; unfold letB; simp; omega
    exact rlet_2 n h w
  · obtain rfl : false = q := by rw [← hq]; unfold letB; simp; omega
    exact rlet_3 n h.1 h.2 w
  · obtain rfl : true = q := by rw [← hq]; unfold letB; simp; omega
    exact rlet_4 n h.1 h.2 w
  · obtain rfl : false = q := by rw [← hq]; unfold letB; simp; omega
    exact rlet_5 n h w
theorem rdig_1 (n : Nat) (h1 : 48 ≤ n) (h2 : n ≤ 57) (w : World) : Calls Tryz.prog 115 #[.int .u8 (n : Int)] w fun e w' => e = .returned (.bool true) ∧ Ext w w' := by
  have d1 : decide ((48 : Int) ≤ (n : Int)) = true := (by simp; omega); have d2 : decide ((n : Int) ≤ 57) = true := (by simp; omega)
  go_enter Tryz.func115, Tryz.ntmps115
  go_wp2
  go_ret
  exact ⟨rfl, by go_grown⟩
theorem rdig_2 (n : Nat) (h1 : 58 ≤ n) (w : World) : Calls Tryz.prog 115 #[.int .u8 (n : Int)] w fun e w' => e = .returned (.bool false) ∧ Ext w w' := by
  have d1 : decide ((48 : Int) ≤ (n : Int)) = true := (by simp; omega); have d2 : decide ((n : Int) ≤ 57) = false := (by simp; omega)
  go_enter Tryz.func115, Tryz.ntmps115
  go_wp2
  go_ret
  exact ⟨rfl, by go_grown⟩
theorem rdig_3 (n : Nat) (h1 : n < 48) (w : World) : Calls Tryz.prog 115 #[.int .u8 (n : Int)] w fun e w' => e = .returned (.bool false) ∧ Ext w w' := by
  have d1 : decide ((48 : Int) ≤ (n : Int)) = false := (by simp; omega)
  go_enter Tryz.func115, Tryz.ntmps115
  go_wp2
  go_ret
  exact ⟨rfl, by go_grown⟩
def digB (n : Nat) : Bool := decide (48 ≤ n) && decide (n ≤ 57)
theorem rdigit_any (n : Nat) (q : Bool) (hq : digB n = q) (w : World) : Calls Tryz.prog 115 #[.int .u8 (n : Int)] w fun e w' => e = .returned (.bool q) ∧ Ext w w' := by
  have hc : (48 ≤ n ∧ n ≤ 57) ∨ 58 ≤ n ∨ n < 48 := by omega
  rcases hc with h | h | h
  · obtain rfl : true = q := by rw [← hq]; unfold digB; simp; omega
    exact rdig_1 n h.1 h.2 w
  · obtain rfl : false = q := by rw [← hq]; unfold digB; simp; omega
    exact rdig_2 n h w
  · obtain rfl : false = q := by rw [← hq]; unfold digB; simp; omega
    exact rdig_3 n h w
theorem rsix_1 (n : Nat) (h1 : 48 ≤ n) (h2 : n ≤ 57) (w : World) : Calls Tryz.prog 113 #[.int .u8 (n : Int)] w fun e w' => e = .returned (.int .i64 ((n : Int) - 48)) ∧ Ext w w' := by
  have hdg := rdig_1 n h1 h2 w
  skip
  go_enter Tryz.func113, Tryz.ntmps113
  go_wp2_with fail
  refine hdg.mono ?_
  rintro e w1 ⟨rfl, hE⟩
  go_wp2
  go_ret
  exact ⟨rfl, hE⟩
theorem rsix_2 (n : Nat) (h1 : 97 ≤ n) (h2 : n ≤ 102) (w : World) : Calls Tryz.prog 113 #[.int .u8 (n : Int)] w fun e w' => e = .returned (.int .i64 ((n : Int) - 97 + 10)) ∧ Ext w w' := by
  have hdg := rdig_2 n (by omega) w
  have d1 : decide ((97 : Int) ≤ (n : Int)) = true := (by simp; omega); have d2 : decide ((n : Int) ≤ 102) = true := (by simp; omega)
  go_enter Tryz.func113, Tryz.ntmps113
  go_wp2_with fail
  refine hdg.mono ?_
  rintro e w1 ⟨rfl, hE⟩
  go_wp2
  go_ret
  exact ⟨rfl, hE⟩
theorem rsix_3 (n : Nat) (h1 : 103 ≤ n) (w : World) : Calls Tryz.prog 113 #[.int .u8 (n : Int)] w fun e w' => e = .returned (.int .i64 (-1)) ∧ Ext w w' := by
  have hdg := rdig_2 n (by omega) w
  have d1 : decide ((97 : Int) ≤ (n : Int)) = true := (by simp; omega); have d2 : decide ((n : Int) ≤ 102) = false := (by simp; omega); have d3 : decide ((65 : Int) ≤ (n : Int)) = true := (by simp; omega); have d4 : decide ((n : Int) ≤ 70) = false := (by simp; omega)
  go_enter Tryz.func113, Tryz.ntmps113
  go_wp2_with fail
  refine hdg.mono ?_
  rintro e w1 ⟨rfl, hE⟩
  go_wp2
  go_ret
  exact ⟨rfl, hE⟩
theorem rsix_4 (n : Nat) (h1 : 71 ≤ n) (h2 : n ≤ 96) (w : World) : Calls Tryz.prog 113 #[.int .u8 (n : Int)] w fun e w' => e = .returned (.int .i64 (-1)) ∧ Ext w w' := by
  have hdg := rdig_2 n (by omega) w
  have d1 : decide ((97 : Int) ≤ (n : Int)) = false := (by simp; omega); have d3 : decide ((65 : Int) ≤ (n : Int)) = true := (by simp; omega); have d4 : decide ((n : Int) ≤ 70) = false := (by simp; omega)
  go_enter Tryz.func113, Tryz.ntmps113
  go_wp2_with fail
  refine hdg.mono ?_
  rintro e w1 ⟨rfl, hE⟩
  go_wp2
  go_ret
  exact ⟨rfl, hE⟩
theorem rsix_5 (n : Nat) (h1 : 65 ≤ n) (h2 : n ≤ 70) (w : World) : Calls Tryz.prog 113 #[.int .u8 (n : Int)] w fun e w' => e = .returned (.int .i64 ((n : Int) - 65 + 10)) ∧ Ext w w' := by
  have hdg := rdig_2 n (by omega) w
  have d1 : decide ((97 : Int) ≤ (n : Int)) = false := (by simp; omega); have d3 : decide ((65 : Int) ≤ (n : Int)) = true := (by simp; omega); have d4 : decide ((n : Int) ≤ 70) = true := (by simp; omega)
  go_enter Tryz.func113, Tryz.ntmps113
  go_wp2_with fail
  refine hdg.mono ?_
  rintro e w1 ⟨rfl, hE⟩
  go_wp2
  go_ret
  exact ⟨rfl, hE⟩
theorem rsix_6 (n : Nat) (h1 : 58 ≤ n) (h2 : n ≤ 64) (w : World) : Calls Tryz.prog 113 #[.int .u8 (n : Int)] w fun e w' => e = .returned (.int .i64 (-1)) ∧ Ext w w' := by
  have hdg := rdig_2 n (by omega) w
  have d1 : decide ((97 : Int) ≤ (n : Int)) = false := (by simp; omega); have d3 : decide ((65 : Int) ≤ (n : Int)) = false := (by simp; omega)
  go_enter Tryz.func113, Tryz.ntmps113
  go_wp2_with fail
  refine hdg.mono ?_
  rintro e w1 ⟨rfl, hE⟩
  go_wp2
  go_ret
  exact ⟨rfl, hE⟩
theorem rsix_7 (n : Nat) (h1 : n < 48) (w : World) : Calls Tryz.prog 113 #[.int .u8 (n : Int)] w fun e w' => e = .returned (.int .i64 (-1)) ∧ Ext w w' := by
  have hdg := rdig_3 n (by omega) w
  have d1 : decide ((97 : Int) ≤ (n : Int)) = false := (by simp; omega); have d3 : decide ((65 : Int) ≤ (n : Int)) = false := (by simp; omega)
  go_enter Tryz.func113, Tryz.ntmps113
  go_wp2_with fail
  refine hdg.mono ?_
  rintro e w1 ⟨rfl, hE⟩
  go_wp2
  go_ret
  exact ⟨rfl, hE⟩
def sixI (n : Nat) : Int := match hx n with
  | some m => (m : Int)
  | none => -1
theorem rsix_any (n : Nat) (v : Int) (hv : sixI n = v) (w : World) : Calls Tryz.prog 113 #[.int .u8 (n : Int)] w fun e w' => e = .returned (.int .i64 v) ∧ Ext w w' := by
  have hc : (48 ≤ n ∧ n ≤ 57) ∨ (97 ≤ n ∧ n ≤ 102) ∨ 103 ≤ n ∨ (71 ≤ n ∧ n ≤ 96) ∨ (65 ≤ n ∧ n ≤ 70) ∨ (58 ≤ n ∧ n ≤ 64) ∨ n < 48 := by omega
  rcases hc with h | h | h | h | h | h | h
  · obtain rfl : (n : Int) - 48 = v := by rw [← hv]; unfold sixI hx; rw [if_pos h]; show _ = ((n - 48 : Nat) : Int); omega
    exact rsix_1 n h.1 h.2 w
  · obtain rfl : (n : Int) - 97 + 10 = v := by rw [← hv]; unfold sixI hx; rw [if_neg (by omega), if_pos h]; show _ = ((n - 87 : Nat) : Int); omega
    exact rsix_2 n h.1 h.2 w
  · obtain rfl : (-1 : Int) = v := by rw [← hv]; unfold sixI hx; rw [if_neg (by omega), if_neg (by omega), if_neg (by omega)]
    exact rsix_3 n h w
  · obtain rfl : (-1 : Int) = v := by rw [← hv]; unfold sixI hx; rw [if_neg (by omega), if_neg (by omega), if_neg (by omega)]
    exact rsix_4 n h.1 h.2 w
  · obtain rfl : (n : Int) - 65 + 10 = v := by rw [← hv]; unfold sixI hx; rw [if_neg (by omega), if_neg (by omega), if_pos h]; show _ = ((n - 55 : Nat) : Int); omega
    exact rsix_5 n h.1 h.2 w
  · obtain rfl : (-1 : Int) = v := by rw [← hv]; unfold sixI hx; rw [if_neg (by omega), if_neg (by omega), if_neg (by omega)]
    exact rsix_6 n h.1 h.2 w
  · obtain rfl : (-1 : Int) = v := by rw [← hv]; unfold sixI hx; rw [if_neg (by omega), if_neg (by omega), if_neg (by omega)]
    exact rsix_7 n h w
/-! Escape -/
def nms : List Nat := [110, 116, 114, 118, 102, 97, 98, 101, 48]
def mns : List Nat := [10, 9, 13, 11, 12, 7, 8, 27, 0]
set_option maxRecDepth 20000 in
theorem index_nms (k : Nat) (hk : k < 9) : ∀ w, (Instr.index 9 (.string ⟨#[110, 116, 114, 118, 102, 97, 98, 101, 48]⟩) (.int .i64 (k : Nat))).run Tryz.prog w = .ok (.int .u8 (nms.getD k 0 : Nat)) w := by
  have hc : k = 0 ∨ k = 1 ∨ k = 2 ∨ k = 3 ∨ k = 4 ∨ k = 5 ∨ k = 6 ∨ k = 7 ∨ k = 8 := by omega
  rcases hc with rfl | rfl | rfl | rfl | rfl | rfl | rfl | rfl | rfl <;> exact fun _ => by kernel_rfl
theorem nms_at (k : Nat) (hk : k < 9) : (#[.int .u8 10, .int .u8 9, .int .u8 13, .int .u8 11, .int .u8 12, .int .u8 7, .int .u8 8, .int .u8 27, .int .u8 0] : Array Value)[k]? = some (.int .u8 (mns.getD k 0 : Nat)) := by
  have hc : k = 0 ∨ k = 1 ∨ k = 2 ∨ k = 3 ∨ k = 4 ∨ k = 5 ∨ k = 6 ∨ k = 7 ∨ k = 8 := by omega
  rcases hc with rfl | rfl | rfl | rfl | rfl | rfl | rfl | rfl | rfl <;> rfl
theorem unq_nms (k : Nat) (hk : k < 9) (C : UInt8) (l : List UInt8) (h : C.toNat = nms.getD k 0) : unq (C :: l) = (mns.getD k 0, 1) := by
  have hC : C = UInt8.ofNat (nms.getD k 0) := by rw [← h]; simp
  subst hC
  clear h
  have hc : k = 0 ∨ k = 1 ∨ k = 2 ∨ k = 3 ∨ k = 4 ∨ k = 5 ∨ k = 6 ∨ k = 7 ∨ k = 8 := by omega
  rcases hc with rfl | rfl | rfl | rfl | rfl | rfl | rfl | rfl | rfl <;> rfl
theorem pun_all (n : Nat) (h : n < 256) : sPunct.getLsbD n = (decide (33 ≤ n) && decide (n ≤ 126) && !letB n && !digB n) := by
  have h1 := List.all_eq_true.1 (show (List.range 256).all (fun n => sPunct.getLsbD n == (decide (33 ≤ n) && decide (n ≤ 126) && !letB n && !digB n)) = true by decide +kernel) n (List.mem_range.2 h)
  simpa using h1
theorem unq_other (C : UInt8) (l : List UInt8) (h : ∀ j, j < 9 → nms.getD j 0 ≠ C.toNat) : unq (C :: l) = if C = 120 then hexOf (C :: l) else if sPunct.getLsbD C.toNat = true then (C.toNat, 1) else (0, 0) := by
  have q : ∀ j, j < 9 → C ≠ UInt8.ofNat (nms.getD j 0) := by
    intro j hj e
    have hc : j = 0 ∨ j = 1 ∨ j = 2 ∨ j = 3 ∨ j = 4 ∨ j = 5 ∨ j = 6 ∨ j = 7 ∨ j = 8 := by omega
    refine h j hj ?_
    rw [e]
    rcases hc with rfl | rfl | rfl | rfl | rfl | rfl | rfl | rfl | rfl <;> rfl
  have q0 : C ≠ 110 := q 0 (by omega)
  have q1 : C ≠ 116 := q 1 (by omega)
  have q2 : C ≠ 114 := q 2 (by omega)
  have q3 : C ≠ 118 := q 3 (by omega)
  have q4 : C ≠ 102 := q 4 (by omega)
  have q5 : C ≠ 97 := q 5 (by omega)
  have q6 : C ≠ 98 := q 6 (by omega)
  have q7 : C ≠ 101 := q 7 (by omega)
  have q8 : C ≠ 48 := q 8 (by omega)
  rw [unq, if_neg q2, if_neg q4, if_neg q3, if_neg q0, if_neg q1, if_neg q6, if_neg q5, if_neg q8, if_neg q7]
set_option maxRecDepth 20000 in
/-- A byte of a text, by its place. -/
theorem idx_at (s : ByteArray) (j : Nat) (z : Int) (hz : z = j) (C : UInt8) (l : List UInt8) (h : rest s j = C :: l) : ∀ w, (Instr.index 9 (.string s) (.int .i64 z)).run Tryz.prog w = .ok (.int .u8 (C.toNat : Int)) w := by
  intro w
  subst hz
  have hlt : j < s.size := by
    have h5 := congrArg List.length h
    unfold rest at h5
    rw [List.length_drop, Array.length_toList] at h5
    simp at h5
    have : s.data.size = s.size := rfl
    omega
  have hget : s[j] = C := by
    unfold rest at h
    rw [List.drop_eq_getElem_cons (by simpa using hlt)] at h
    have h6 := (List.cons.inj h).1
    rw [Array.getElem_toList] at h6
    exact h6
  rw [run_index_string (h := by kernel_rfl), dif_pos ⟨by omega, by omega⟩]
  simp [hget]
theorem rest_uncons (s : ByteArray) (j : Nat) (h : j < s.size) : ∃ C, rest s j = C :: rest s (j + 1) := by
  unfold rest
  exact ⟨_, List.drop_eq_getElem_cons (by rw [Array.length_toList]; exact h)⟩
theorem rest_end (s : ByteArray) (j : Nat) (h : s.size ≤ j) : rest s j = [] := by
  unfold rest
  exact List.drop_eq_nil_of_le (by rw [Array.length_toList]; exact h)
def escN (n : Nat) : Int := if n = 0 then 0 else (n : Int) + 1
set_option maxHeartbeats 2000000 in
set_option maxRecDepth 20000 in
theorem rescape_any (s : ByteArray) (i : Nat) (hs : s.size ≤ 4294967000) (hi : i < s.size) (b n : Nat) (hu : unq (rest s (i + 1)) = (b, n)) (w : World) :
    Calls Tryz.prog 93 #[.string s, .int .i64 (i : Int)] w fun e w' => e = .returned (.tuple #[.int .u8 (b : Int), .int .i64 (escN n)]) ∧ Ext w w' := by
  by_cases h1 : s.size ≤ i + 1
  · rw [rest_end s _ h1] at hu
    obtain ⟨rfl, rfl⟩ : 0 = b ∧ 0 = n := by cases hu; exact ⟨rfl, rfl⟩
    have d1 : decide ((s.size : Int) ≤ (i : Int) + 1) = true := by simp; omega
    go_enter Tryz.func93, Tryz.ntmps93
    go_wp2
    go_ret2
    exact ⟨rfl, by go_grown⟩
  · obtain ⟨C, hC⟩ := rest_uncons s (i + 1) (by omega)
    have d1 : decide ((s.size : Int) ≤ (i : Int) + 1) = false := by simp; omega
    have i1 := idx_at s (i + 1) ((i : Int) + 1) (by omega) C _ hC
    have hc256 := C.toNat_lt
    rw [hC] at hu
    have hx0 : Ext w (w.alloc (.cells #[.int .u8 10, .int .u8 9, .int .u8 13, .int .u8 11, .int .u8 12, .int .u8 7, .int .u8 8, .int .u8 27, .int .u8 0] 5)) := by go_grown
    have HX0 := Lib.hid hx0
    have HB0 := Lib.hid (Blk.new w #[.int .u8 10, .int .u8 9, .int .u8 13, .int .u8 11, .int .u8 12, .int .u8 7, .int .u8 8, .int .u8 27, .int .u8 0] 5)
    have HU := Lib.hid hu
    obtain ⟨c, hcc⟩ : ∃ c, C.toNat = c := ⟨_, rfl⟩
    rw [hcc] at i1 hc256
    have HC := Lib.hid hcc
    have HR := Lib.hid hC
    clear hx0 hu hC hcc
    go_enter Tryz.func93, Tryz.ntmps93
    go_wp2_with fail
    generalize hp : w.heap.size = p at HB0 ⊢
    replace hp := Lib.hid hp
    generalize w.alloc (.cells #[.int .u8 10, .int .u8 9, .int .u8 13, .int .u8 11, .int .u8 12, .int .u8 7, .int .u8 8, .int .u8 27, .int .u8 0] 5) = w0 at HX0 HB0 ⊢
    go_loopw [9] (fun v wr => ∃ k : Nat, k ≤ 9 ∧ v = .int .i64 k ∧ wr = w0 ∧ Hid (∀ j, j < k → nms.getD j 0 ≠ c)) (fun v _ => 9 - (intOf v).toNat)
    case atStart => exact ⟨0, by omega, rfl, by first | rfl | trivial, Lib.hid (fun j hj => by omega)⟩
    case round =>
      obtain ⟨k, hk, rfl, rfl, hno⟩ := hrel
      by_cases hlt : k < 9
      · have hd : decide ((k : Int) < 9) = true := by simp; omega
        have hix := index_nms k hlt
        have hcl := (HB0.out.cell k).trans (nms_at k hlt)
        obtain ⟨nm, hnm⟩ : ∃ nm, nms.getD k 0 = nm := ⟨_, rfl⟩
        obtain ⟨mn, hmn⟩ : ∃ mn, mns.getD k 0 = mn := ⟨_, rfl⟩
        rw [hnm] at hix
        rw [hmn] at hcl
        by_cases he : c = nm
        · have hun := unq_nms k hlt C (rest s (i + 1 + 1)) (by rw [HC.out, hnm, he])
          rw [HU.out, hmn] at hun
          obtain ⟨rfl, rfl⟩ : b = mn ∧ n = 1 := by cases hun; exact ⟨rfl, rfl⟩
          subst he
          clear hun hnm hmn hno HU
          go_wp2_with fail
          go_ret2
          exact ⟨rfl, HX0.out⟩
        · have hq : ((c : Int) == (nm : Int)) = false := by simp; omega
          have HN := Lib.hid (show ∀ j, j < k + 1 → nms.getD j 0 ≠ c from fun j hj => by
            by_cases e : j = k
            · subst e; rw [hnm]; exact fun e2 => he e2.symm
            · exact hno.out j (by omega))
          clear hnm hmn he hno hcl
          go_wp2_with fail
          go_roundw
          case rel => exact ⟨k + 1, by omega, by go_num, by first | rfl | trivial, HN⟩
          case measure => simp [intOf]; omega
      · obtain rfl : k = 9 := by omega
        have hot := unq_other C (rest s (i + 1 + 1)) (fun j hj => by rw [HC.out]; exact hno.out j hj)
        rw [HU.out, HC.out] at hot
        clear hno HU HB0 hlt hk
        by_cases h120C : C = 120
        · have h120 : c = 120 := by rw [← HC.out, h120C]; rfl
          rw [if_pos h120C] at hot
          subst h120
          by_cases h3 : i + 3 < s.size
          · obtain ⟨X, hX⟩ := rest_uncons s (i + 1 + 1) (by omega)
            obtain ⟨Y, hY⟩ := rest_uncons s (i + 1 + 1 + 1) (by omega)
            have i2 := idx_at s (i + 1 + 1) ((i : Int) + 2) (by omega) X _ hX
            have i3 := idx_at s (i + 1 + 1 + 1) ((i : Int) + 3) (by omega) Y _ hY
            have d3 : decide ((i : Int) + 3 < (s.size : Int)) = true := by simp; omega
            rw [hX, hY] at hot
            have hhx : hexOf (C :: X :: Y :: rest s (i + 1 + 1 + 1 + 1)) = match hx X.toNat, hx Y.toNat with
              | some m, some n => (16 * m + n, 3)
              | _, _ => (0, 0) := rfl
            rw [hhx] at hot
            have hxl := X.toNat_lt
            have hyl := Y.toNat_lt
            obtain ⟨x, hxe⟩ : ∃ x, X.toNat = x := ⟨_, rfl⟩
            obtain ⟨y, hye⟩ : ∃ y, Y.toNat = y := ⟨_, rfl⟩
            rw [hxe] at hot i2 hxl
            rw [hye] at hot i3 hyl
            have HSX := Lib.hid (fun v hv w => rsix_any x v hv w)
            have HSY := Lib.hid (fun v hv w => rsix_any y v hv w)
            clear hX hY hhx hxe hye h120C HR HC i1 d1
            cases hxx : Go.Proofs.YtecjodcaeldidaaGreatDoor.hx x with
            | none =>
              rw [hxx] at hot
              obtain ⟨rfl, rfl⟩ : b = 0 ∧ n = 0 := by cases hot; exact ⟨rfl, rfl⟩
              have HA := Lib.hid (HSX.out (-1) (by unfold sixI; rw [hxx]))
              clear hot hxx HSX HSY
              go_wp2_with fail
              refine (HA.out _).mono ?_
              rintro e w1 ⟨rfl, hE1⟩
              have HE1 := Lib.hid (bel_call HX0.out hE1)
              clear hE1
              go_wp2_with fail
              go_ret2
              exact ⟨rfl, HE1.out⟩
            | some m =>
              have hm16 : m < 16 := by
                unfold Go.Proofs.YtecjodcaeldidaaGreatDoor.hx at hxx
                split at hxx
                · cases hxx; omega
                · split at hxx
                  · cases hxx; omega
                  · split at hxx
                    · cases hxx; omega
                    · cases hxx
              rw [hxx] at hot
              have HA := Lib.hid (HSX.out (m : Int) (by unfold sixI; rw [hxx]))
              cases hyy : Go.Proofs.YtecjodcaeldidaaGreatDoor.hx y with
              | none =>
                rw [hyy] at hot
                obtain ⟨rfl, rfl⟩ : b = 0 ∧ n = 0 := by cases hot; exact ⟨rfl, rfl⟩
                have HB := Lib.hid (HSY.out (-1) (by unfold sixI; rw [hyy]))
                have g1 : decide ((0 : Int) ≤ (m : Int)) = true := by simp
                clear hot hxx hyy HSX HSY
                go_wp2_with fail
                refine (HA.out _).mono ?_
                rintro e w1 ⟨rfl, hE1⟩
                have HE1 := Lib.hid (bel_call HX0.out hE1)
                clear hE1
                go_wp2_with fail
                refine (HB.out _).mono ?_
                rintro e w2 ⟨rfl, hE2⟩
                have HE2 := Lib.hid (bel_call HE1.out hE2)
                clear hE2
                go_wp2_with fail
                go_ret2
                exact ⟨rfl, HE2.out⟩
              | some q =>
                have hq16 : q < 16 := by
                  unfold Go.Proofs.YtecjodcaeldidaaGreatDoor.hx at hyy
                  split at hyy
                  · cases hyy; omega
                  · split at hyy
                    · cases hyy; omega
                    · split at hyy
                      · cases hyy; omega
                      · cases hyy
                rw [hyy] at hot
                obtain ⟨rfl, rfl⟩ : b = 16 * m + q ∧ n = 3 := by cases hot; exact ⟨rfl, rfl⟩
                have HB := Lib.hid (HSY.out (q : Int) (by unfold sixI; rw [hyy]))
                have g1 : decide ((0 : Int) ≤ (m : Int)) = true := by simp
                have g2 : decide ((0 : Int) ≤ (q : Int)) = true := by simp
                have hbv : (((16 * m + q : Nat)) : Int) = 16 * (m : Int) + q := by omega
                have hwr : IntKind.u8.wrap (16 * (m : Int) + q) = 16 * (m : Int) + q := IntWalk.u8_in _ (by omega)
                have HBV := Lib.hid hbv
                clear hot hxx hyy HSX HSY hbv
                go_wp2_with fail
                refine (HA.out _).mono ?_
                rintro e w1 ⟨rfl, hE1⟩
                have HE1 := Lib.hid (bel_call HX0.out hE1)
                clear hE1
                go_wp2_with fail
                refine (HB.out _).mono ?_
                rintro e w2 ⟨rfl, hE2⟩
                have HE2 := Lib.hid (bel_call HE1.out hE2)
                clear hE2 HE1
                go_wp2_with fail
                refine G.wp_region_stab (G := Ext) (fun _ => none) (by kernel_rfl) (by kernel_rfl) (fun _ _ h => by cases h) (fun hex => ?_)
                iterate 4
                  (refine G.wpS_one (A := ?_) hex rfl rfl (by simp) ?_ ?_ ?_
                   rotate_left 2
                   · intro w' hC K hK
                     go_wp2_with (fail)
                     refine hK _ ?_
                     first | exact Below.refl _ _ | assumption | ((repeat' (first | (with_reducible exact Below.refl _ _) | (with_reducible assumption) | (with_reducible refine below_drewN ?_ _) | (with_reducible refine Below.alloc ?_ ?_ _) | (with_reducible refine Below.drew ?_) | (with_reducible refine Below.setCell ?_ ?_ _) | (with_reducible refine Below.trans ?_ (Below.mono (by with_reducible assumption) ?_)) | go_size)))
                   rotate_left 1
                   · rfl
                   clear hex; intro hex)
                refine G.wpS_one (A := ?_) hex rfl rfl (by simp) ?_ ?_ ?_
                rotate_left 2
                · intro w' hC K hK
                  go_wp2_with (refine (HA.out _).mono ?_; rintro e wq ⟨rfl, hEq⟩)
                  refine hK _ ?_
                  first | exact Below.refl _ _ | assumption | ((repeat' (first | (with_reducible exact Below.refl _ _) | (with_reducible assumption) | (with_reducible refine below_drewN ?_ _) | (with_reducible refine Below.alloc ?_ ?_ _) | (with_reducible refine Below.drew ?_) | (with_reducible refine Below.setCell ?_ ?_ _) | (with_reducible refine Below.trans ?_ (Below.mono (by with_reducible assumption) ?_)) | go_size)))
                rotate_left 1
                · rfl
                clear hex; intro hex
                iterate 5
                  (refine G.wpS_one (A := ?_) hex rfl rfl (by simp) ?_ ?_ ?_
                   rotate_left 2
                   · intro w' hC K hK
                     go_wp2_with (fail)
                     refine hK _ ?_
                     first | exact Below.refl _ _ | assumption | ((repeat' (first | (with_reducible exact Below.refl _ _) | (with_reducible assumption) | (with_reducible refine below_drewN ?_ _) | (with_reducible refine Below.alloc ?_ ?_ _) | (with_reducible refine Below.drew ?_) | (with_reducible refine Below.setCell ?_ ?_ _) | (with_reducible refine Below.trans ?_ (Below.mono (by with_reducible assumption) ?_)) | go_size)))
                   rotate_left 1
                   · rfl
                   clear hex; intro hex)
                refine G.wpS_one (A := ?_) hex rfl rfl (by simp) ?_ ?_ ?_
                rotate_left 2
                · intro w' hC K hK
                  go_wp2_with (refine (HB.out _).mono ?_; rintro e wq ⟨rfl, hEq⟩)
                  refine hK _ ?_
                  first | exact Below.refl _ _ | assumption | ((repeat' (first | (with_reducible exact Below.refl _ _) | (with_reducible assumption) | (with_reducible refine below_drewN ?_ _) | (with_reducible refine Below.alloc ?_ ?_ _) | (with_reducible refine Below.drew ?_) | (with_reducible refine Below.setCell ?_ ?_ _) | (with_reducible refine Below.trans ?_ (Below.mono (by with_reducible assumption) ?_)) | go_size)))
                rotate_left 1
                · rfl
                clear hex; intro hex
                iterate 4
                  (refine G.wpS_one (A := ?_) hex rfl rfl (by simp) ?_ ?_ ?_
                   rotate_left 2
                   · intro w' hC K hK
                     go_wp2_with (fail)
                     refine hK _ ?_
                     first | exact Below.refl _ _ | assumption | ((repeat' (first | (with_reducible exact Below.refl _ _) | (with_reducible assumption) | (with_reducible refine below_drewN ?_ _) | (with_reducible refine Below.alloc ?_ ?_ _) | (with_reducible refine Below.drew ?_) | (with_reducible refine Below.setCell ?_ ?_ _) | (with_reducible refine Below.trans ?_ (Below.mono (by with_reducible assumption) ?_)) | go_size)))
                   rotate_left 1
                   · rfl
                   clear hex; intro hex)
                refine G.wpS_nil fun w4 hAll => ?_
                have HE4 := Lib.hid (bel_call HE2.out hAll.1)
                clear hAll hex HE2
                go_wp2_with fail
                go_ret2
                rw [HBV.out]
                exact ⟨rfl, HE4.out⟩
          · have d3 : decide ((i : Int) + 3 < (s.size : Int)) = false := by simp; omega
            have hh0 : hexOf (C :: rest s (i + 1 + 1)) = (0, 0) := by
              by_cases h2 : i + 2 < s.size
              · obtain ⟨X, hX⟩ := rest_uncons s (i + 1 + 1) (by omega)
                rw [hX, rest_end s _ (by omega)]; rfl
              · rw [rest_end s _ (by omega)]; rfl
            rw [hh0] at hot
            obtain ⟨rfl, rfl⟩ : b = 0 ∧ n = 0 := by cases hot; exact ⟨rfl, rfl⟩
            clear hot hh0 h120C HR
            go_wp2_with fail
            go_ret2
            exact ⟨rfl, HX0.out⟩
        · have hne : ((c : Int) == 120) = false := by
            have : c ≠ 120 := fun e => h120C (UInt8.toNat_inj.1 (by rw [HC.out, e]; rfl))
            simp; omega
          rw [if_neg h120C, pun_all c hc256] at hot
          have HL := Lib.hid (fun q hq w => rletter_any c q hq w)
          have HD := Lib.hid (fun q hq w => rdigit_any c q hq w)
          clear h120C HR HC i1 d1
          by_cases g33 : 33 ≤ c
          · have e33 : decide ((33 : Int) ≤ (c : Int)) = true := by simp; omega
            by_cases g126 : c ≤ 126
            · have e126 : decide ((c : Int) ≤ 126) = true := by simp; omega
              have k1 : decide (33 ≤ c) = true := decide_eq_true g33
              have k2 : decide (c ≤ 126) = true := decide_eq_true g126
              rw [k1, k2] at hot
              cases hlb : letB c with
              | true =>
                rw [hlb] at hot
                obtain ⟨rfl, rfl⟩ : b = 0 ∧ n = 0 := by cases hot; exact ⟨rfl, rfl⟩
                have HA := Lib.hid (HL.out true hlb)
                clear hot hlb HL HD k1 k2
                go_wp2_with fail
                refine (HA.out _).mono ?_
                rintro e w1 ⟨rfl, hE1⟩
                have HE1 := Lib.hid (bel_call HX0.out hE1)
                clear hE1
                go_wp2_with fail
                go_ret2
                exact ⟨rfl, HE1.out⟩
              | false =>
                rw [hlb] at hot
                have HA := Lib.hid (HL.out false hlb)
                cases hdb : digB c with
                | true =>
                  rw [hdb] at hot
                  obtain ⟨rfl, rfl⟩ : b = 0 ∧ n = 0 := by cases hot; exact ⟨rfl, rfl⟩
                  have HB := Lib.hid (HD.out true hdb)
                  clear hot hlb hdb HL HD k1 k2
                  go_wp2_with fail
                  refine (HA.out _).mono ?_
                  rintro e w1 ⟨rfl, hE1⟩
                  have HE1 := Lib.hid (bel_call HX0.out hE1)
                  clear hE1
                  go_wp2_with fail
                  refine (HB.out _).mono ?_
                  rintro e w2 ⟨rfl, hE2⟩
                  have HE2 := Lib.hid (bel_call HE1.out hE2)
                  clear hE2
                  go_wp2_with fail
                  go_ret2
                  exact ⟨rfl, HE2.out⟩
                | false =>
                  rw [hdb] at hot
                  obtain ⟨rfl, rfl⟩ : b = c ∧ n = 1 := by cases hot; exact ⟨rfl, rfl⟩
                  have HB := Lib.hid (HD.out false hdb)
                  clear hot hlb hdb HL HD k1 k2
                  go_wp2_with fail
                  refine (HA.out _).mono ?_
                  rintro e w1 ⟨rfl, hE1⟩
                  have HE1 := Lib.hid (bel_call HX0.out hE1)
                  clear hE1
                  go_wp2_with fail
                  refine (HB.out _).mono ?_
                  rintro e w2 ⟨rfl, hE2⟩
                  have HE2 := Lib.hid (bel_call HE1.out hE2)
                  clear hE2
                  go_wp2_with fail
                  go_ret2
                  exact ⟨rfl, HE2.out⟩
            · have e126 : decide ((c : Int) ≤ 126) = false := by simp; omega
              have k2 : decide (c ≤ 126) = false := decide_eq_false g126
              rw [k2] at hot
              simp only [Bool.and_false, Bool.false_and] at hot
              obtain ⟨rfl, rfl⟩ : b = 0 ∧ n = 0 := by cases hot; exact ⟨rfl, rfl⟩
              clear hot HL HD k2
              go_wp2_with fail
              go_ret2
              exact ⟨rfl, HX0.out⟩
          · have e33 : decide ((33 : Int) ≤ (c : Int)) = false := by simp; omega
            have k1 : decide (33 ≤ c) = false := decide_eq_false g33
            rw [k1] at hot
            simp only [Bool.false_and] at hot
            obtain ⟨rfl, rfl⟩ : b = 0 ∧ n = 0 := by cases hot; exact ⟨rfl, rfl⟩
            clear hot HL HD k1
            go_wp2_with fail
            go_ret2
            exact ⟨rfl, HX0.out⟩
end Go.Proofs.YtecjodcaeldidaaGreatDoor
namespace Go.Proofs.YtecjodcaeldidaaGreatDoor
open Go Go.RowKit
theorem rat_any (c a : Int) (w : World) : Calls Tryz.prog 21 #[.int .i64 c, .int .i64 a] w fun e w' => e = .returned (.agg #[.int .i64 c, .int .i64 0, .int .i64 0, .int .i64 a, .slice none 0 0]) ∧ Ext w w' := by
  have kR := Blk.new w #[.int .i64 0, .int .i64 0, .int .i64 0, .int .i64 0, .slice none 0 0] 34
  have kZ := ((((kR.set 0 (.int .i64 c)).set 1 (.int .i64 0)).set 2 (.int .i64 0)).set 3 (.int .i64 a)).set 4 (.slice none 0 0)
  obtain ⟨q0, q1, q2, q3, q4⟩ := kR.cells5
  have f0 := kR.free 0
  have f1 := kR.free 1
  have f2 := kR.free 2
  have f3 := kR.free 3
  have f4 := kR.free 4
  have hlt := kR.lt
  obtain ⟨z0, z1, z2, z3, z4⟩ := kZ.cells5
  have hx : Ext w (w.alloc (.cells #[.int .i64 0, .int .i64 0, .int .i64 0, .int .i64 0, .slice none 0 0] 34)) := by go_grown
  have HX := Lib.hid hx
  clear kR kZ hx
  go_enter Tryz.func21, Tryz.ntmps21
  go_wp2
  refine bodyPost_ret (v := .agg #[.int .i64 c, .int .i64 0, .int .i64 0, .int .i64 a, .slice none 0 0]) ?_ rfl ⟨rfl, by (repeat' (first | (with_reducible exact Below.refl _ _) | (with_reducible assumption) | (with_reducible refine below_drewN ?_ _) | (with_reducible refine Below.alloc ?_ ?_ _) | (with_reducible refine Below.drew ?_) | (with_reducible refine Below.setCell ?_ ?_ _) | (with_reducible refine Below.trans ?_ (Below.mono (by with_reducible assumption) ?_)) | go_size))⟩
  simp [results, Tryz.results21, go_sem]
def RuEnd (w w' : World) (e : Ending) : Sum Nat (List UInt8 × Nat) → Prop
  | .inl q => e = .returned (.tuple #[.string ⟨#[]⟩, .int .i64 0, .agg #[.int .i64 3, .int .i64 0, .int .i64 0, .int .i64 (q : Int), .slice none 0 0]]) ∧ Ext w w'
  | .inr (A, m) => e = .returned (.tuple #[.string ⟨A.toArray⟩, .int .i64 (m : Int), .agg #[.int .i64 0, .int .i64 0, .int .i64 0, .int .i64 0, .slice none 0 0]]) ∧ Ext w w'
set_option maxHeartbeats 2000000 in
set_option maxRecDepth 20000 in
theorem runq_any (s : ByteArray) (a : Int) (hs : s.size ≤ 4294967000) (x : Sum Nat (List UInt8 × Nat)) (hx : uqs s a = x) (w : World) :
    Calls Tryz.prog 58 #[.string s, .int .i64 a] w fun e w' => RuEnd w w' e x := by
  obtain ⟨i0, hi, hz0, hz1, hz2⟩ := info_parts info_u8
  have hx0 : Ext w (w.alloc (.cells #[.int .i64 0, .int .i64 0, .int .i64 0, .int .i64 0, .slice none 0 0] 34)) := by go_grown
  have HX0 := Lib.hid hx0
  have HB0 := Lib.hid (Blk.new w #[.int .i64 0, .int .i64 0, .int .i64 0, .int .i64 0, .slice none 0 0] 34)
  unfold uqs at hx
  by_cases h1 : a < 0 ∨ (s.size : Int) ≤ a
  · have hp : pos s a = s.size := by
      unfold pos
      split
      · rfl
      · rename_i h2
        simp only [not_or, Int.not_lt] at h2
        omega
    rw [hp, rest_end s _ (Nat.le_refl _)] at hx
    have hx2 : Sum.inl s.size = x := by rw [← hx]; rfl
    have HX := Lib.hid hx2
    clear hx hx2 hp hx0
    by_cases h2 : a < 0
    · have d1 : decide (a < 0) = true := decide_eq_true h2
      clear h1 h2
      go_enter Tryz.func58, Tryz.ntmps58
      go_wp2_with fail
      refine (rat_any 3 ((s.size : Int)) _).mono ?_
      rintro e w9 ⟨rfl, hE9⟩
      have kB := HB0.out.ext hE9
      have HG9 := Lib.hid (bel_call HX0.out hE9)
      obtain ⟨q0, q1, q2, q3, q4⟩ := kB.cells5
      have f0 := kB.free 0
      have f1 := kB.free 1
      have f2 := kB.free 2
      have f3 := kB.free 3
      have f4 := kB.free 4
      have hlt9 := kB.lt
      have kZ := ((((kB.set 0 (.int .i64 3)).set 1 (.int .i64 0)).set 2 (.int .i64 0)).set 3 (.int .i64 ((s.size : Int)))).set 4 (.slice none 0 0)
      obtain ⟨z0, z1, z2, z3, z4⟩ := kZ.cells5
      have hXE : Ext w (((((w9.setCell ⟨w.heap.size, 0, none⟩ (.int .i64 3)).setCell ⟨w.heap.size, 1, none⟩ (.int .i64 0)).setCell ⟨w.heap.size, 2, none⟩ (.int .i64 0)).setCell ⟨w.heap.size, 3, none⟩ (.int .i64 ((s.size : Int)))).setCell ⟨w.heap.size, 4, none⟩ (.slice none 0 0)) :=
        ((((HG9.out.setCell (p := ⟨w.heap.size, 0, none⟩) (Nat.le_refl _) _).setCell (p := ⟨w.heap.size, 1, none⟩) (Nat.le_refl _) _).setCell (p := ⟨w.heap.size, 2, none⟩) (Nat.le_refl _) _).setCell (p := ⟨w.heap.size, 3, none⟩) (Nat.le_refl _) _).setCell (p := ⟨w.heap.size, 4, none⟩) (Nat.le_refl _) _
      have HXE := Lib.hid hXE
      clear kB kZ hE9 hXE HG9
      go_wp2_with fail
      refine bodyPost_ret (v := .tuple #[.string ⟨#[]⟩, .int .i64 0, .agg #[.int .i64 3, .int .i64 0, .int .i64 0, .int .i64 ((s.size : Int)), .slice none 0 0]]) ?_ rfl ?_
      · simp [results, Tryz.results58, go_sem, z0, z1, z2, z3, z4]
      · rw [← HX.out]; exact ⟨rfl, HXE.out⟩
    · have d1 : decide (a < 0) = false := decide_eq_false h2
      have d2 : decide ((s.size : Int) ≤ a) = true := by simp; omega
      clear h1 h2
      go_enter Tryz.func58, Tryz.ntmps58
      go_wp2_with fail
      refine (rat_any 3 ((s.size : Int)) _).mono ?_
      rintro e w9 ⟨rfl, hE9⟩
      have kB := HB0.out.ext hE9
      have HG9 := Lib.hid (bel_call HX0.out hE9)
      obtain ⟨q0, q1, q2, q3, q4⟩ := kB.cells5
      have f0 := kB.free 0
      have f1 := kB.free 1
      have f2 := kB.free 2
      have f3 := kB.free 3
      have f4 := kB.free 4
      have hlt9 := kB.lt
      have kZ := ((((kB.set 0 (.int .i64 3)).set 1 (.int .i64 0)).set 2 (.int .i64 0)).set 3 (.int .i64 ((s.size : Int)))).set 4 (.slice none 0 0)
      obtain ⟨z0, z1, z2, z3, z4⟩ := kZ.cells5
      have hXE : Ext w (((((w9.setCell ⟨w.heap.size, 0, none⟩ (.int .i64 3)).setCell ⟨w.heap.size, 1, none⟩ (.int .i64 0)).setCell ⟨w.heap.size, 2, none⟩ (.int .i64 0)).setCell ⟨w.heap.size, 3, none⟩ (.int .i64 ((s.size : Int)))).setCell ⟨w.heap.size, 4, none⟩ (.slice none 0 0)) :=
        ((((HG9.out.setCell (p := ⟨w.heap.size, 0, none⟩) (Nat.le_refl _) _).setCell (p := ⟨w.heap.size, 1, none⟩) (Nat.le_refl _) _).setCell (p := ⟨w.heap.size, 2, none⟩) (Nat.le_refl _) _).setCell (p := ⟨w.heap.size, 3, none⟩) (Nat.le_refl _) _).setCell (p := ⟨w.heap.size, 4, none⟩) (Nat.le_refl _) _
      have HXE := Lib.hid hXE
      clear kB kZ hE9 hXE HG9
      go_wp2_with fail
      refine bodyPost_ret (v := .tuple #[.string ⟨#[]⟩, .int .i64 0, .agg #[.int .i64 3, .int .i64 0, .int .i64 0, .int .i64 ((s.size : Int)), .slice none 0 0]]) ?_ rfl ?_
      · simp [results, Tryz.results58, go_sem, z0, z1, z2, z3, z4]
      · rw [← HX.out]; exact ⟨rfl, HXE.out⟩
  · obtain ⟨i, rfl⟩ : ∃ i : Nat, a = (i : Int) := ⟨a.toNat, by omega⟩
    have hil : i < s.size := by omega
    have hp : pos s i = i := by
      unfold pos
      rw [if_neg (by omega)]; omega
    rw [hp] at hx
    obtain ⟨C, hC⟩ := rest_uncons s i hil
    have hix := idx_at s i (i : Int) rfl C _ hC
    have d1 : decide ((i : Int) < 0) = false := by simp
    have d2 : decide ((s.size : Int) ≤ (i : Int)) = false := by simp; omega
    unfold quq at hx
    rw [hC] at hx
    by_cases h34 : C = 34
    · subst h34
      rw [if_pos (by rfl)] at hx
      simp only [List.drop_succ_cons, List.drop_zero] at hx
      have HX := Lib.hid hx
      have hrl := rest_len (show i + 1 ≤ s.size by omega)
      clear hx hp h1 hx0 hC
      have d2n : decide (s.size ≤ i) = false := by simp; omega
      go_enter Tryz.func58, Tryz.ntmps58
      go_wp2_with fail
      obtain ⟨w1, hw1⟩ : ∃ w1, w.alloc (.cells #[.int .i64 0, .int .i64 0, .int .i64 0, .int .i64 0, .slice none 0 0] 34) = w1 := ⟨_, rfl⟩
      rw [hw1] at HX0 HB0 ⊢
      clear hw1 hix d1 d2 d2n
      go_loopg [7, 8] ((34 :: rest s (i + 1)).length + 1) (fun g v z wr => ∃ (A : List UInt8) (k : Nat), z = .int .i64 (k : Int) ∧ k ≤ s.size ∧ (rest s k).length < g ∧ A.length ≤ k ∧ Hid (quo unq g (rest s k) A k = x) ∧ Hid (Ext w wr) ∧ Hid (Blk wr w.heap.size #[.int .i64 0, .int .i64 0, .int .i64 0, .int .i64 0, .slice none 0 0] 34) ∧ Hid (wr.ownsRow (w.heap.size + 1) 5 1 v A.length (A.map ub)))
      case atStart => exact ⟨[], i + 1, by congr 1, by omega, by simp only [List.length_cons]; omega, by simp, HX, HX0, HB0, Lib.hid (World.ownsRow_nil _ _ _ _)⟩
      case round =>
        clear HX HX0 HB0
        obtain ⟨A, k, rfl, hk, hlen, hAl, hO, hE, hB, hown⟩ := hrel
        obtain ⟨g, rfl⟩ : ∃ g, gk = g + 1 := ⟨gk - 1, by omega⟩
        have hrk := rest_len hk
        by_cases hks : k < s.size
        · have d3 : decide ((k : Int) < (s.size : Int)) = true := by simp; omega
          obtain ⟨D, hD⟩ := rest_uncons s k hks
          have hix := idx_at s k (k : Int) rfl D _ hD
          have hx1 := hO.out
          have hdl := D.toNat_lt
          have qq : ∀ c : UInt8, D ≠ c → ((D.toNat : Int) == (c.toNat : Int)) = false := fun c hc => by
            have : D.toNat ≠ c.toNat := fun e => hc (UInt8.toNat_inj.1 e)
            simp; omega
          by_cases hq : D = 34
          · subst hq
            rw [quo, hD, if_pos (by rfl)] at hx1
            have HX := Lib.hid hx1
            have d4 : decide ((s.size : Int) ≤ (k : Int)) = false := by simp; omega
            have hcv := own_str hown.out
            have kB := hB.out
            obtain ⟨q0, q1, q2, q3, q4⟩ := kB.cells5
            have f0 := kB.free 0
            have f1 := kB.free 1
            have f2 := kB.free 2
            have f3 := kB.free 3
            have f4 := kB.free 4
            have hlt9 := kB.lt
            have hXE : Ext w (((((wr.setCell ⟨w.heap.size, 0, none⟩ (.int .i64 0)).setCell ⟨w.heap.size, 1, none⟩ (.int .i64 0)).setCell ⟨w.heap.size, 2, none⟩ (.int .i64 0)).setCell ⟨w.heap.size, 3, none⟩ (.int .i64 0)).setCell ⟨w.heap.size, 4, none⟩ (.slice none 0 0)) :=
              ((((hE.out.setCell (p := ⟨w.heap.size, 0, none⟩) (Nat.le_refl _) _).setCell (p := ⟨w.heap.size, 1, none⟩) (Nat.le_refl _) _).setCell (p := ⟨w.heap.size, 2, none⟩) (Nat.le_refl _) _).setCell (p := ⟨w.heap.size, 3, none⟩) (Nat.le_refl _) _).setCell (p := ⟨w.heap.size, 4, none⟩) (Nat.le_refl _) _
            have HXE := Lib.hid hXE
            have HKB := Lib.hid kB
            clear kB hXE hx1 hO hD hown hB hE qq hrk hlen hAl hdl
            go_wp2_with fail
            have kZ := ((((HKB.out.set 0 (.int .i64 0)).set 1 (.int .i64 0)).set 2 (.int .i64 0)).set 3 (.int .i64 0)).set 4 (.slice none 0 0)
            obtain ⟨z0, z1, z2, z3, z4⟩ := kZ.cells5
            refine bodyPost_ret (v := .tuple #[.string ⟨A.toArray⟩, .int .i64 ((k : Int) + 1), .agg #[.int .i64 0, .int .i64 0, .int .i64 0, .int .i64 0, .slice none 0 0]]) ?_ rfl ?_
            · simp [results, Tryz.results58, go_sem, z0, z1, z2, z3, z4]
            · rw [← HX.out]
              exact ⟨by rw [show ((k + 1 : Nat) : Int) = (k : Int) + 1 by omega], HXE.out⟩
          · have n34 : ((D.toNat : Int) == 34) = false := qq 34 hq
            rw [quo, hD, if_neg (by rw [pre1]; simp; exact fun e => hq e.symm)] at hx1
            by_cases h10 : D = 10
            · subst h10
              have hx2 : Sum.inl k = x := by rw [← hx1]; rfl
              have HX := Lib.hid hx2
              clear hx1 hx2 hO hD hown qq
              go_wp2_with fail
              refine (rat_any 3 ((k : Int)) _).mono ?_
              rintro e w9 ⟨rfl, hE9⟩
              have kB := hB.out.ext hE9
              have HG9 := Lib.hid (bel_call hE.out hE9)
              obtain ⟨q0, q1, q2, q3, q4⟩ := kB.cells5
              have f0 := kB.free 0
              have f1 := kB.free 1
              have f2 := kB.free 2
              have f3 := kB.free 3
              have f4 := kB.free 4
              have hlt9 := kB.lt
              have kZ := ((((kB.set 0 (.int .i64 3)).set 1 (.int .i64 0)).set 2 (.int .i64 0)).set 3 (.int .i64 ((k : Int)))).set 4 (.slice none 0 0)
              obtain ⟨z0, z1, z2, z3, z4⟩ := kZ.cells5
              have hXE : Ext w (((((w9.setCell ⟨w.heap.size, 0, none⟩ (.int .i64 3)).setCell ⟨w.heap.size, 1, none⟩ (.int .i64 0)).setCell ⟨w.heap.size, 2, none⟩ (.int .i64 0)).setCell ⟨w.heap.size, 3, none⟩ (.int .i64 ((k : Int)))).setCell ⟨w.heap.size, 4, none⟩ (.slice none 0 0)) :=
                ((((HG9.out.setCell (p := ⟨w.heap.size, 0, none⟩) (Nat.le_refl _) _).setCell (p := ⟨w.heap.size, 1, none⟩) (Nat.le_refl _) _).setCell (p := ⟨w.heap.size, 2, none⟩) (Nat.le_refl _) _).setCell (p := ⟨w.heap.size, 3, none⟩) (Nat.le_refl _) _).setCell (p := ⟨w.heap.size, 4, none⟩) (Nat.le_refl _) _
              have HXE := Lib.hid hXE
              clear kB kZ hE9 hXE HG9
              go_wp2_with fail
              refine bodyPost_ret (v := .tuple #[.string ⟨#[]⟩, .int .i64 0, .agg #[.int .i64 3, .int .i64 0, .int .i64 0, .int .i64 ((k : Int)), .slice none 0 0]]) ?_ rfl ?_
              · simp [results, Tryz.results58, go_sem, z0, z1, z2, z3, z4]
              · rw [← HX.out]; exact ⟨rfl, HXE.out⟩
            · have n10 : ((D.toNat : Int) == 10) = false := qq 10 h10
              by_cases h92 : D = 92
              · subst h92
                obtain ⟨⟨b, n⟩, hbn⟩ : ∃ y, unq (rest s (k + 1)) = y := ⟨_, rfl⟩
                have hch : chr unq [10] (92 :: rest s (k + 1)) = if n = 0 then none else some (b, n + 1) := by
                  show (if (unq (rest s (k + 1))).2 = 0 then none else some ((unq (rest s (k + 1))).1, (unq (rest s (k + 1))).2 + 1)) = _
                  rw [hbn]
                rw [hch] at hx1
                have hlb := unq_byte (rest s (k + 1))
                have hln := unq_len (rest s (k + 1))
                rw [hbn] at hlb hln
                have hrk1 := rest_len (show k + 1 ≤ s.size by omega)
                have HES := Lib.hid (rescape_any s k hs hks b n hbn wr)
                clear hch hbn hO qq
                by_cases hn : n = 0
                · subst hn
                  have hx2 : Sum.inl k = x := hx1
                  have HX := Lib.hid hx2
                  have he : escN 0 = 0 := rfl
                  rw [he] at HES
                  clear hx1 hx2 hD hown
                  go_wp2_with fail
                  refine HES.out.mono ?_
                  rintro e w3 ⟨rfl, hx3⟩
                  have hE3 := Lib.hid (bel_call hE.out hx3)
                  have hB3 := Lib.hid (hB.out.ext hx3)
                  clear hx3 HES
                  go_wp2_with fail
                  refine (rat_any 3 ((k : Int)) _).mono ?_
                  rintro e w9 ⟨rfl, hE9⟩
                  have kB := hB3.out.ext hE9
                  have HG9 := Lib.hid (bel_call hE3.out hE9)
                  obtain ⟨q0, q1, q2, q3, q4⟩ := kB.cells5
                  have f0 := kB.free 0
                  have f1 := kB.free 1
                  have f2 := kB.free 2
                  have f3 := kB.free 3
                  have f4 := kB.free 4
                  have hlt9 := kB.lt
                  have kZ := ((((kB.set 0 (.int .i64 3)).set 1 (.int .i64 0)).set 2 (.int .i64 0)).set 3 (.int .i64 ((k : Int)))).set 4 (.slice none 0 0)
                  obtain ⟨z0, z1, z2, z3, z4⟩ := kZ.cells5
                  have hXE : Ext w (((((w9.setCell ⟨w.heap.size, 0, none⟩ (.int .i64 3)).setCell ⟨w.heap.size, 1, none⟩ (.int .i64 0)).setCell ⟨w.heap.size, 2, none⟩ (.int .i64 0)).setCell ⟨w.heap.size, 3, none⟩ (.int .i64 ((k : Int)))).setCell ⟨w.heap.size, 4, none⟩ (.slice none 0 0)) :=
                    ((((HG9.out.setCell (p := ⟨w.heap.size, 0, none⟩) (Nat.le_refl _) _).setCell (p := ⟨w.heap.size, 1, none⟩) (Nat.le_refl _) _).setCell (p := ⟨w.heap.size, 2, none⟩) (Nat.le_refl _) _).setCell (p := ⟨w.heap.size, 3, none⟩) (Nat.le_refl _) _).setCell (p := ⟨w.heap.size, 4, none⟩) (Nat.le_refl _) _
                  have HXE := Lib.hid hXE
                  clear kB kZ hE9 hXE HG9
                  go_wp2_with fail
                  refine bodyPost_ret (v := .tuple #[.string ⟨#[]⟩, .int .i64 0, .agg #[.int .i64 3, .int .i64 0, .int .i64 0, .int .i64 ((k : Int)), .slice none 0 0]]) ?_ rfl ?_
                  · simp [results, Tryz.results58, go_sem, z0, z1, z2, z3, z4]
                  · rw [← HX.out]; exact ⟨rfl, HXE.out⟩
                · rw [if_neg hn] at hx1
                  have hxr : (92 :: rest s (k + 1)).drop (n + 1) = rest s (k + (n + 1)) := by rw [← hD, ← rest_drop]
                  simp only [hxr] at hx1
                  have HX := Lib.hid hx1
                  have he : escN n = (n : Int) + 1 := by unfold escN; rw [if_neg hn]
                  rw [he] at HES
                  have hne : (((n : Int) + 1) == 0) = false := by simp; omega
                  have hrl3 := rest_len (show k + (n + 1) ≤ s.size by omega)
                  clear hx1 hxr hD he
                  go_wp2_with fail
                  refine HES.out.mono ?_
                  rintro e w3 ⟨rfl, hx3⟩
                  have hE3 := Lib.hid (bel_call hE.out hx3)
                  have hB3 := Lib.hid (hB.out.ext hx3)
                  have hown3 := own_grown hown.out (grown_of_ext (row := none) hx3) (fun j hj => by cases hj)
                  have hsz3 := hB3.out.lt
                  clear hx3 HES hE hB hown
                  go_wp2_with (at_builtin; refine wpList_append_own _ rfl (.tmp 67) (.tmp 69) 56 rfl (w.heap.size + 1) 5 i0 (.int .u8 0) 1 1 Tryz.underlying56 hi hz0 hz1 hz2 rfl (by decide) _ _ _ rfl (hown3.alloc _) ⟨w3.heap.size, 0, none⟩ 1 1 [_] rfl rfl (cell_one_new _ _ _) (by intro u hu; simp at hu; subst hu; rfl) (by unfold maxLen; omega) (by omega) (by simp; omega) ?_; intro v1 w4 hown1 hgrow1 hnil1)
                  go_roundg g
                  case rel =>
                    have hx4 : Ext w (w3.alloc (.cells #[.int .u8 ((b : Int))] 5)) := bel_alloc hE3.out (Below.refl _ _) _
                    have hE4 : Ext w w4 := ⟨hgrow1.os.trans hx4.os, hgrow1.tape.trans hx4.tape, hgrow1.output.trans hx4.output, Nat.le_trans hx4.size hgrow1.size, fun j hj => (hgrow1.block j (Nat.lt_of_lt_of_le hj hx4.size) (fun e => by have := (hown3.lt j e.symm).1; omega)).trans (hx4.block j hj)⟩
                    refine ⟨A ++ [UInt8.ofNat b], k + (n + 1), by first | rfl | go_num | (congr 1; omega), by omega, by omega, by simp; omega, HX, Lib.hid hE4, Lib.hid ?_, Lib.hid ?_⟩
                    · exact (hB3.out.ext (show Ext w3 (w3.alloc (.cells #[.int .u8 ((b : Int))] 5)) from by (repeat' (first | (with_reducible exact Below.refl _ _) | (with_reducible assumption) | (with_reducible refine below_drewN ?_ _) | (with_reducible refine Below.alloc ?_ ?_ _) | (with_reducible refine Below.drew ?_) | (with_reducible refine Below.setCell ?_ ?_ _) | (with_reducible refine Below.trans ?_ (Below.mono (by with_reducible assumption) ?_)) | go_size)))).grown hgrow1 (fun e => by have := (hown3.lt _ e).1; omega)
                    · rw [List.length_append, List.map_append]
                      have e : ([UInt8.ofNat b].map ub) = [.int .u8 ((b : Int))] := by simp [ub]; try omega
                      rw [e]
                      exact hown1
                  case measure => exact Nat.lt_succ_self g
              · have n92 : ((D.toNat : Int) == 92) = false := qq 92 h92
                have hch : chr unq [10] (D :: rest s (k + 1)) = some (D.toNat, 1) := by
                  show (if D = 92 then _ else if D ∈ [10] then none else some (D.toNat, 1)) = _
                  rw [if_neg h92, if_neg (by simp; exact h10)]
                rw [hch] at hx1
                have hxr : (D :: rest s (k + 1)).drop 1 = rest s (k + 1) := rfl
                simp only [hxr] at hx1
                have HX := Lib.hid hx1
                have hrl3 := rest_len (show k + 1 ≤ s.size by omega)
                have hown3 := hown.out
                have hE3 := hE
                have hB3 := hB
                have hsz3 := hB3.out.lt
                clear hx1 hxr hch hO hD qq hown hE hB
                go_wp2_with (at_builtin; refine wpList_append_own _ rfl (.tmp 43) (.tmp 47) 56 rfl (w.heap.size + 1) 5 i0 (.int .u8 0) 1 1 Tryz.underlying56 hi hz0 hz1 hz2 rfl (by decide) _ _ _ rfl (hown3.alloc _) ⟨wr.heap.size, 0, none⟩ 1 1 [_] rfl rfl (cell_one_new _ _ _) (by intro u hu; simp at hu; subst hu; rfl) (by unfold maxLen; omega) (by omega) (by simp; omega) ?_; intro v1 w4 hown1 hgrow1 hnil1)
                go_roundg g
                case rel =>
                  have hx4 : Ext w (wr.alloc (.cells #[.int .u8 ((D.toNat : Int))] 5)) := bel_alloc hE3.out (Below.refl _ _) _
                  have hE4 : Ext w w4 := ⟨hgrow1.os.trans hx4.os, hgrow1.tape.trans hx4.tape, hgrow1.output.trans hx4.output, Nat.le_trans hx4.size hgrow1.size, fun j hj => (hgrow1.block j (Nat.lt_of_lt_of_le hj hx4.size) (fun e => by have := (hown3.lt j e.symm).1; omega)).trans (hx4.block j hj)⟩
                  refine ⟨A ++ [UInt8.ofNat D.toNat], k + 1, by first | rfl | go_num | (congr 1; omega), by omega, by omega, by simp; omega, HX, Lib.hid hE4, Lib.hid ?_, Lib.hid ?_⟩
                  · exact (hB3.out.ext (show Ext wr (wr.alloc (.cells #[.int .u8 ((D.toNat : Int))] 5)) from by (repeat' (first | (with_reducible exact Below.refl _ _) | (with_reducible assumption) | (with_reducible refine below_drewN ?_ _) | (with_reducible refine Below.alloc ?_ ?_ _) | (with_reducible refine Below.drew ?_) | (with_reducible refine Below.setCell ?_ ?_ _) | (with_reducible refine Below.trans ?_ (Below.mono (by with_reducible assumption) ?_)) | go_size)))).grown hgrow1 (fun e => by have := (hown3.lt _ e).1; omega)
                  · rw [List.length_append, List.map_append]
                    have e : ([UInt8.ofNat D.toNat].map ub) = [.int .u8 ((D.toNat : Int))] := by simp [ub]; try omega
                    rw [e]
                    exact hown1
                case measure => exact Nat.lt_succ_self g
        · obtain rfl : k = s.size := by omega
          have d3 : decide (((s.size : Nat) : Int) < (s.size : Int)) = false := by simp
          have d4 : decide ((s.size : Int) ≤ (s.size : Int)) = true := by simp
          have hx1 := hO.out
          rw [quo, rest_end s _ (Nat.le_refl _)] at hx1
          have hx2 : Sum.inl s.size = x := by rw [← hx1]; rfl
          have HX := Lib.hid hx2
          clear hx1 hx2 hO hown
          go_wp2_with fail
          refine (rat_any 3 ((s.size : Int)) _).mono ?_
          rintro e w9 ⟨rfl, hE9⟩
          have kB := hB.out.ext hE9
          have HG9 := Lib.hid (bel_call hE.out hE9)
          obtain ⟨q0, q1, q2, q3, q4⟩ := kB.cells5
          have f0 := kB.free 0
          have f1 := kB.free 1
          have f2 := kB.free 2
          have f3 := kB.free 3
          have f4 := kB.free 4
          have hlt9 := kB.lt
          have kZ := ((((kB.set 0 (.int .i64 3)).set 1 (.int .i64 0)).set 2 (.int .i64 0)).set 3 (.int .i64 ((s.size : Int)))).set 4 (.slice none 0 0)
          obtain ⟨z0, z1, z2, z3, z4⟩ := kZ.cells5
          have hXE : Ext w (((((w9.setCell ⟨w.heap.size, 0, none⟩ (.int .i64 3)).setCell ⟨w.heap.size, 1, none⟩ (.int .i64 0)).setCell ⟨w.heap.size, 2, none⟩ (.int .i64 0)).setCell ⟨w.heap.size, 3, none⟩ (.int .i64 ((s.size : Int)))).setCell ⟨w.heap.size, 4, none⟩ (.slice none 0 0)) :=
            ((((HG9.out.setCell (p := ⟨w.heap.size, 0, none⟩) (Nat.le_refl _) _).setCell (p := ⟨w.heap.size, 1, none⟩) (Nat.le_refl _) _).setCell (p := ⟨w.heap.size, 2, none⟩) (Nat.le_refl _) _).setCell (p := ⟨w.heap.size, 3, none⟩) (Nat.le_refl _) _).setCell (p := ⟨w.heap.size, 4, none⟩) (Nat.le_refl _) _
          have HXE := Lib.hid hXE
          clear kB kZ hE9 hXE HG9
          go_wp2_with fail
          refine bodyPost_ret (v := .tuple #[.string ⟨#[]⟩, .int .i64 0, .agg #[.int .i64 3, .int .i64 0, .int .i64 0, .int .i64 ((s.size : Int)), .slice none 0 0]]) ?_ rfl ?_
          · simp [results, Tryz.results58, go_sem, z0, z1, z2, z3, z4]
          · rw [← HX.out]; exact ⟨rfl, HXE.out⟩
    · have n34 : ((C.toNat : Int) == 34) = false := by
        have : C.toNat ≠ (34 : UInt8).toNat := fun e => h34 (UInt8.toNat_inj.1 e)
        have h0 : (34 : UInt8).toNat = 34 := rfl
        simp; omega
      rw [if_neg (by rw [pre1]; simp; exact fun e => h34 e.symm)] at hx
      have HX := Lib.hid hx
      clear hx hp h1 hx0 hC h34
      go_enter Tryz.func58, Tryz.ntmps58
      go_wp2_with fail
      refine (rat_any 3 ((i : Int)) _).mono ?_
      rintro e w9 ⟨rfl, hE9⟩
      have kB := HB0.out.ext hE9
      have HG9 := Lib.hid (bel_call HX0.out hE9)
      obtain ⟨q0, q1, q2, q3, q4⟩ := kB.cells5
      have f0 := kB.free 0
      have f1 := kB.free 1
      have f2 := kB.free 2
      have f3 := kB.free 3
      have f4 := kB.free 4
      have hlt9 := kB.lt
      have kZ := ((((kB.set 0 (.int .i64 3)).set 1 (.int .i64 0)).set 2 (.int .i64 0)).set 3 (.int .i64 ((i : Int)))).set 4 (.slice none 0 0)
      obtain ⟨z0, z1, z2, z3, z4⟩ := kZ.cells5
      have hXE : Ext w (((((w9.setCell ⟨w.heap.size, 0, none⟩ (.int .i64 3)).setCell ⟨w.heap.size, 1, none⟩ (.int .i64 0)).setCell ⟨w.heap.size, 2, none⟩ (.int .i64 0)).setCell ⟨w.heap.size, 3, none⟩ (.int .i64 ((i : Int)))).setCell ⟨w.heap.size, 4, none⟩ (.slice none 0 0)) :=
        ((((HG9.out.setCell (p := ⟨w.heap.size, 0, none⟩) (Nat.le_refl _) _).setCell (p := ⟨w.heap.size, 1, none⟩) (Nat.le_refl _) _).setCell (p := ⟨w.heap.size, 2, none⟩) (Nat.le_refl _) _).setCell (p := ⟨w.heap.size, 3, none⟩) (Nat.le_refl _) _).setCell (p := ⟨w.heap.size, 4, none⟩) (Nat.le_refl _) _
      have HXE := Lib.hid hXE
      clear kB kZ hE9 hXE HG9
      go_wp2_with fail
      refine bodyPost_ret (v := .tuple #[.string ⟨#[]⟩, .int .i64 0, .agg #[.int .i64 3, .int .i64 0, .int .i64 0, .int .i64 ((i : Int)), .slice none 0 0]]) ?_ rfl ?_
      · simp [results, Tryz.results58, go_sem, z0, z1, z2, z3, z4]
      · rw [← HX.out]; exact ⟨rfl, HXE.out⟩
end Go.Proofs.YtecjodcaeldidaaGreatDoor
namespace Go.Proofs.YtecjodcaeldidaaGreatDoor
open Go Go.RowKit
theorem pre_take (l p : List UInt8) : Lib.hasPrefix l p = decide (l.take p.length = p) := by
  unfold Lib.hasPrefix
  rw [Bool.eq_iff_iff, List.isPrefixOf_iff_prefix, decide_eq_true_eq]
  constructor
  · intro h; exact (List.prefix_iff_eq_take.1 h).symm
  · intro h; exact List.prefix_iff_eq_take.2 h.symm
theorem ext_list (s : ByteArray) (i n : Nat) : (s.extract i (i + n)).data.toList = (rest s i).take n := by
  rw [ByteArray.data_extract, Array.toList_extract, List.extract_eq_take_drop]
  unfold rest
  rw [show i + n - i = n by omega]
theorem has_no {s p : ByteArray} {i : Nat} (hi : i ≤ s.size) (h : s.size < i + p.size) : Lib.hasPrefix (rest s i) p.data.toList = false := by
  cases hx : Lib.hasPrefix (rest s i) p.data.toList with
  | false => rfl
  | true =>
    have h1 := (List.isPrefixOf_iff_prefix.1 hx).length_le
    have h2 := rest_len hi
    rw [Array.length_toList] at h1
    have : p.data.size = p.size := rfl
    omega
set_option maxRecDepth 20000 in
theorem rhasp_any (s p : ByteArray) (i : Nat) (hi : i ≤ s.size) (hs : s.size ≤ 4294967000) (hp : p.size ≤ 100) (q : Bool) (hq : Lib.hasPrefix (rest s i) p.data.toList = q) (w : World) :
    Calls Tryz.prog 44 #[.string s, .int .i64 (i : Int), .string p] w fun e w' => e = .returned (.bool q) ∧ Ext w w' := by
  by_cases hl : i + p.size ≤ s.size
  · have d1 : decide ((i : Int) + (p.size : Int) ≤ (s.size : Int)) = true := by simp; omega
    have heq : ((s.extract i (i + p.size)).toList == p.toList) = q := by
      rw [ByteArray.toList_eq, ByteArray.toList_eq, ext_list, ← hq, pre_take, Array.length_toList]
      show (List.take p.data.size (rest s i) == p.data.toList) = _
      by_cases h : List.take p.data.size (rest s i) = p.data.toList
      · rw [decide_eq_true h]; exact beq_iff_eq.2 h
      · rw [decide_eq_false h]; exact beq_eq_false_iff_ne.2 h
    go_enter Tryz.func44, Tryz.ntmps44
    go_wp2
    go_ret
    exact ⟨rfl, by go_grown⟩
  · have d1 : decide ((i : Int) + (p.size : Int) ≤ (s.size : Int)) = false := by simp; omega
    rw [has_no hi (by omega)] at hq
    subst hq
    go_enter Tryz.func44, Tryz.ntmps44
    go_wp2
    go_ret
    exact ⟨rfl, by go_grown⟩
end Go.Proofs.YtecjodcaeldidaaGreatDoor
namespace Go.Proofs.YtecjodcaeldidaaGreatDoor
open Go Go.RowKit
theorem nmd_some {t : List UInt8} {S : BitVec 256} (h : nmd t = some S) : 3 ≤ t.length ∧ t.length ≤ 6 ∧ (58 : UInt8) ∉ t := by
  unfold nmd at h
  by_cases e0 : t = [100, 105, 103, 105, 116]
  · subst e0; exact ⟨by decide, by decide, by decide⟩
  rw [if_neg e0] at h
  by_cases e1 : t = [108, 111, 119, 101, 114]
  · subst e1; exact ⟨by decide, by decide, by decide⟩
  rw [if_neg e1] at h
  by_cases e2 : t = [117, 112, 112, 101, 114]
  · subst e2; exact ⟨by decide, by decide, by decide⟩
  rw [if_neg e2] at h
  by_cases e3 : t = [97, 108, 112, 104, 97]
  · subst e3; exact ⟨by decide, by decide, by decide⟩
  rw [if_neg e3] at h
  by_cases e4 : t = [97, 108, 110, 117, 109]
  · subst e4; exact ⟨by decide, by decide, by decide⟩
  rw [if_neg e4] at h
  by_cases e5 : t = [119, 111, 114, 100]
  · subst e5; exact ⟨by decide, by decide, by decide⟩
  rw [if_neg e5] at h
  by_cases e6 : t = [120, 100, 105, 103, 105, 116]
  · subst e6; exact ⟨by decide, by decide, by decide⟩
  rw [if_neg e6] at h
  by_cases e7 : t = [98, 108, 97, 110, 107]
  · subst e7; exact ⟨by decide, by decide, by decide⟩
  rw [if_neg e7] at h
  by_cases e8 : t = [115, 112, 97, 99, 101]
  · subst e8; exact ⟨by decide, by decide, by decide⟩
  rw [if_neg e8] at h
  by_cases e9 : t = [112, 117, 110, 99, 116]
  · subst e9; exact ⟨by decide, by decide, by decide⟩
  rw [if_neg e9] at h
  by_cases e10 : t = [112, 114, 105, 110, 116]
  · subst e10; exact ⟨by decide, by decide, by decide⟩
  rw [if_neg e10] at h
  by_cases e11 : t = [99, 110, 116, 114, 108]
  · subst e11; exact ⟨by decide, by decide, by decide⟩
  rw [if_neg e11] at h
  by_cases e12 : t = [97, 110, 121]
  · subst e12; exact ⟨by decide, by decide, by decide⟩
  rw [if_neg e12] at h
  cases h
theorem occ_take {m : List UInt8} {j n : Nat} (h : Lib.occAt m [58, 93] j = true) (hj : j < n) : (58 : UInt8) ∈ m.take n := by
  unfold Lib.occAt at h
  have h1 := List.isPrefixOf_iff_prefix.1 h
  obtain ⟨t, ht⟩ := h1
  have e : (m.take n).drop j = (m.drop j).take (n - j) := by rw [List.drop_take]
  have hm : (58 : UInt8) ∈ (m.take n).drop j := by
    rw [e, ← ht]
    obtain ⟨q, hq⟩ : ∃ q, n - j = q + 1 := ⟨n - j - 1, by omega⟩
    rw [hq]
    simp
  exact List.mem_of_mem_drop hm
theorem nmq_hit (l : List UInt8) (n : Nat) (S : BitVec 256) (hp : Lib.hasPrefix ((l.drop 2).drop n) [58, 93] = true) (hn : nmd ((l.drop 2).take n) = some S) : nmq l = .inr (S, n + 4) := by
  generalize hm : l.drop 2 = m at hp hn
  have hle : n ≤ m.length := by
    rcases Nat.lt_or_ge m.length n with h | h
    · rw [List.drop_eq_nil_of_le (by omega)] at hp; cases hp
    · exact h
  have hno : ∀ j, j < n → Lib.occAt m [58, 93] j = false := by
    intro j hj
    cases ho : Lib.occAt m [58, 93] j with
    | false => rfl
    | true => exact absurd (occ_take ho hj) (nmd_some hn).2.2
  have hi : Lib.index m [58, 93] = (n : Int) := Lib.index_first hle hp hno
  have hc : Lib.cut m [58, 93] = (m.take n, m.drop (n + 2), true) := by
    unfold Lib.cut
    rw [hi, if_pos (by omega)]
    rfl
  unfold nmq
  rw [hm, hc]
  simp only [hn, if_true, List.length_take]
  rw [Nat.min_eq_left hle]
theorem nmq_miss (l : List UInt8) (h : ∀ n, 1 ≤ n → n < 8 → Lib.hasPrefix ((l.drop 2).drop n) [58, 93] = true → nmd ((l.drop 2).take n) = none) : nmq l = .inl 0 := by
  generalize hm : l.drop 2 = m at h
  unfold nmq
  rw [hm]
  rcases Lib.index_spec m [58, 93] with ⟨h1, _⟩ | ⟨i, h1, h2, h3, _⟩
  · have hc : Lib.cut m [58, 93] = (m, [], false) := by unfold Lib.cut; rw [h1]; rfl
    rw [hc]
    simp only []
    cases nmd m <;> rfl
  · have hc : Lib.cut m [58, 93] = (m.take i, m.drop (i + 2), true) := by
      unfold Lib.cut
      rw [h1, if_pos (by omega)]
      rfl
    rw [hc]
    cases hS : nmd (m.take i) with
    | none => rfl
    | some S =>
      exfalso
      have hl := nmd_some hS
      rw [List.length_take, Nat.min_eq_left h2] at hl
      rw [h i (by omega) (by omega) h3] at hS
      cases hS
end Go.Proofs.YtecjodcaeldidaaGreatDoor
namespace Go.Proofs.YtecjodcaeldidaaGreatDoor
open Go Go.RowKit
abbrev rcs (s : ByteArray) (i o : Nat) (c q : Int) : Array Value := #[.string s, .int .i64 (i : Int), .int .i64 (o : Int), .int .i64 c, .int .i64 0, .int .i64 0, .int .i64 q, .slice none 0 0]
/-- The reader's state: text, place, how many classes are open, the refusal. -/
structure RR (w : World) (r : Nat) (s : ByteArray) (i o : Nat) (c q : Int) : Prop where
  blk : Blk w r (rcs s i o c q) 66
  sz : s.size ≤ 4294967000
theorem RR.ext {w w' : World} {r : Nat} {s : ByteArray} {i o : Nat} {c q : Int} (h : RR w r s i o c q) (hx : Ext w w') : RR w' r s i o c q := ⟨h.blk.ext hx, h.sz⟩
theorem RR.grown {w w' : World} {r : Nat} {s : ByteArray} {i o : Nat} {c q : Int} (h : RR w r s i o c q) {row : Option Nat} (hg : w.grownBy w' row) (hne : row ≠ some r) : RR w' r s i o c q := ⟨h.blk.grown hg hne, h.sz⟩
theorem RR.at {w : World} {r : Nat} {s : ByteArray} {i o : Nat} {c q : Int} (h : RR w r s i o c q) (j : Nat) (z : Int) (hz : z = j) : RR (w.setCell ⟨r, 1, none⟩ (.int .i64 z)) r s j o c q := by
  subst hz
  exact ⟨h.blk.set 1 (.int .i64 (j : Int)), h.sz⟩
theorem RR.open {w : World} {r : Nat} {s : ByteArray} {i o : Nat} {c q : Int} (h : RR w r s i o c q) (j : Nat) (z : Int) (hz : z = j) : RR (w.setCell ⟨r, 2, none⟩ (.int .i64 z)) r s i j c q := by
  subst hz
  exact ⟨h.blk.set 2 (.int .i64 (j : Int)), h.sz⟩
theorem rok_any (r : Nat) (s : ByteArray) (i o : Nat) (c q : Int) (w : World) (h : RR w r s i o c q) (b : Bool) (hb : (c == 0) = b) :
    Calls Tryz.prog 23 #[.pointer (some ⟨r, 0, none⟩)] w fun e w' => e = .returned (.bool b) ∧ Ext w w' := by
  have c3 := h.blk.cell 3
  go_enter Tryz.func23, Tryz.ntmps23
  go_wp2
  go_ret
  exact ⟨rfl, by go_grown⟩
set_option maxHeartbeats 1000000 in
theorem rrefuse_any (r : Nat) (s : ByteArray) (i o : Nat) (c q : Int) (w : World) (h : RR w r s i o 0 0) :
    Calls Tryz.prog 45 #[.pointer (some ⟨r, 0, none⟩), .int .i64 c, .int .i64 q] w fun e w' => e = .returned (.tuple #[]) ∧ w.grownBy w' (some r) ∧ RR w' r s i o c q := by
  have HH := Lib.hid h
  have c3 := h.blk.cell 3
  clear h
  go_enter Tryz.func45, Tryz.ntmps45
  go_wp2_with fail
  refine (rat_any c q _).mono ?_
  rintro e w1 ⟨rfl, hx⟩
  have h1 := HH.out.blk.ext hx
  have HG := Lib.hid (grown_of_ext (row := some r) hx)
  have HB := Lib.hid h1
  have hlt := h1.lt
  clear c3 hx
  have k3 := h1.cell 3
  have k4 := h1.cell 4
  have k5 := h1.cell 5
  have k6 := h1.cell 6
  have k7 := h1.cell 7
  have f3 := h1.free 3
  have f4 := h1.free 4
  have f5 := h1.free 5
  have f6 := h1.free 6
  have f7 := h1.free 7
  clear h1
  go_wp2_with fail
  go_end0
  exact ⟨rfl, grown_trans HG.out (grown_trans (grown_trans (grown_trans (grown_trans (grown_set _ _ _ _) (grown_set _ _ _ _)) (grown_set _ _ _ _)) (grown_set _ _ _ _)) (grown_set _ _ _ _)), ⟨((((HB.out.set 3 (.int .i64 c)).set 4 (.int .i64 0)).set 5 (.int .i64 0)).set 6 (.int .i64 q)).set 7 (.slice none 0 0), HH.out.sz⟩⟩
/-- What 'char' answers. -/
def RcEnd (w w' : World) (r : Nat) (s : ByteArray) (i o : Nat) (e : Ending) : Option (Nat × Nat) → Prop
  | none => ∃ b : Nat, b < 256 ∧ e = .returned (.int .u8 (b : Int)) ∧ w.grownBy w' (some r) ∧ RR w' r s i o 3 (i : Int)
  | some (b, n) => e = .returned (.int .u8 (b : Int)) ∧ w.grownBy w' (some r) ∧ RR w' r s (i + n) o 0 0
set_option maxHeartbeats 1000000 in
set_option maxRecDepth 20000 in
theorem rchar_any (r : Nat) (s : ByteArray) (i o : Nat) (w : World) (h : RR w r s i o 0 0) (hi : i ≤ s.size) (x : Option (Nat × Nat)) (hx : chr unq marks.data.toList (rest s i) = x) :
    Calls Tryz.prog 87 #[.pointer (some ⟨r, 0, none⟩)] w fun e w' => RcEnd w w' r s i o e x := by
  have hsz := h.sz
  have HH := Lib.hid h
  clear h
  by_cases hs : i < s.size
  · obtain ⟨C, hC⟩ := rest_uncons s i hs
    have hix := idx_at s i (i : Int) rfl C _ hC
    have d1 : decide ((s.size : Int) ≤ (i : Int)) = false := by simp; omega
    have d1n : decide (s.size ≤ i) = false := by simp; omega
    rw [hC] at hx
    have qq : ∀ c : UInt8, C ≠ c → ((C.toNat : Int) == (c.toNat : Int)) = false := fun c hc => by
      have : C.toNat ≠ c.toNat := fun e => hc (UInt8.toNat_inj.1 e)
      simp; omega
    have hcl := C.toNat_lt
    by_cases h92 : C = 92
    · subst h92
      obtain ⟨⟨b, n⟩, hbn⟩ : ∃ y, unq (rest s (i + 1)) = y := ⟨_, rfl⟩
      have hch : chr unq marks.data.toList (92 :: rest s (i + 1)) = if n = 0 then none else some (b, n + 1) := by
        show (if (unq (rest s (i + 1))).2 = 0 then none else some ((unq (rest s (i + 1))).1, (unq (rest s (i + 1))).2 + 1)) = _
        rw [hbn]
      rw [hch] at hx
      have hlb := unq_byte (rest s (i + 1))
      have hln := unq_len (rest s (i + 1))
      rw [hbn] at hlb hln
      have hrl := rest_len (show i + 1 ≤ s.size by omega)
      have HES := Lib.hid (fun w => rescape_any s i hsz hs b n hbn w)
      have HX := Lib.hid hx
      clear hch hbn hx qq hC
      go_enter Tryz.func87, Tryz.ntmps87
      go_wp2_with fail
      refine G.wp_region_stab (G := Ext) (fun _ => none) (by kernel_rfl) (by kernel_rfl) (fun _ _ h => by cases h) (fun hex => ?_)
      iterate 10
        (refine G.wpS_one (A := ?_) hex rfl rfl (by simp) ?_ ?_ ?_
         rotate_left 2
         · intro w' hC K hK
           have d0 := (HH.out.blk.ext hC.1).cell 0; have d1 := (HH.out.blk.ext hC.1).cell 1
           go_wp2_with (fail)
           refine hK _ ?_
           first | exact Below.refl _ _ | assumption | ((repeat' (first | (with_reducible exact Below.refl _ _) | (with_reducible assumption) | (with_reducible refine below_drewN ?_ _) | (with_reducible refine Below.alloc ?_ ?_ _) | (with_reducible refine Below.drew ?_) | (with_reducible refine Below.setCell ?_ ?_ _) | (with_reducible refine Below.trans ?_ (Below.mono (by with_reducible assumption) ?_)) | go_size)))
         rotate_left 1
         · rfl
         clear hex; intro hex)
      refine G.wpS_nil fun w1 hAll => ?_
      have hE := hAll.1
      have H1 := Lib.hid (HH.out.ext hE)
      have E1 := Lib.hid hE
      clear hE hex hAll
      go_wp2_with fail
      refine G.wp_region_stab (G := Ext) (fun _ => none) (by kernel_rfl) (by kernel_rfl) (fun _ _ h => by cases h) (fun hex => ?_)
      iterate 10
        (refine G.wpS_one (A := ?_) hex rfl rfl (by simp) ?_ ?_ ?_
         rotate_left 2
         · intro w' hC K hK
           have d0 := (H1.out.blk.ext hC.1).cell 0; have d1 := (H1.out.blk.ext hC.1).cell 1
           go_wp2_with (fail)
           refine hK _ ?_
           first | exact Below.refl _ _ | assumption | ((repeat' (first | (with_reducible exact Below.refl _ _) | (with_reducible assumption) | (with_reducible refine below_drewN ?_ _) | (with_reducible refine Below.alloc ?_ ?_ _) | (with_reducible refine Below.drew ?_) | (with_reducible refine Below.setCell ?_ ?_ _) | (with_reducible refine Below.trans ?_ (Below.mono (by with_reducible assumption) ?_)) | go_size)))
         rotate_left 1
         · rfl
         clear hex; intro hex)
      refine G.wpS_nil fun w2 hAll => ?_
      have hE := hAll.1
      have H2 := Lib.hid (H1.out.ext hE)
      have E2 := Lib.hid (bel_call E1.out hE)
      clear hE hex hAll H1 E1 d1 d1n hix
      go_wp2_with fail
      refine G.wp_region_stab (G := Ext) (fun _ => none) (by kernel_rfl) (by kernel_rfl) (fun _ _ h => by cases h) (fun hex => ?_)
      iterate 14
        (refine G.wpS_one (A := ?_) hex rfl rfl (by simp) ?_ ?_ ?_
         rotate_left 2
         · intro w' hC K hK
           have d0 := (H2.out.blk.ext hC.1).cell 0; have d1 := (H2.out.blk.ext hC.1).cell 1
           go_wp2_with (refine (HES.out _).mono ?_; rintro e wq ⟨rfl, hEq⟩)
           refine hK _ ?_
           first | exact Below.refl _ _ | assumption | ((repeat' (first | (with_reducible exact Below.refl _ _) | (with_reducible assumption) | (with_reducible refine below_drewN ?_ _) | (with_reducible refine Below.alloc ?_ ?_ _) | (with_reducible refine Below.drew ?_) | (with_reducible refine Below.setCell ?_ ?_ _) | (with_reducible refine Below.trans ?_ (Below.mono (by with_reducible assumption) ?_)) | go_size)))
         rotate_left 1
         · rfl
         clear hex; intro hex)
      refine G.wpS_nil fun w3 hAll => ?_
      have hE := hAll.1
      have H3 := Lib.hid (H2.out.ext hE)
      have E3 := Lib.hid (grown_of_ext (row := some r) (bel_call E2.out hE))
      clear hE hex hAll H2 E2
      by_cases hn : n = 0
      · subst hn
        have he : escN 0 = 0 := rfl
        rw [if_pos rfl] at HX
        simp only [he]
        have k1 := H3.out.blk.cell 1
        clear HES he hln
        go_wp2_with fail
        refine (rrefuse_any r s _ o 3 ((i : Int)) _ H3.out).mono ?_
        rintro e w9 ⟨rfl, hG9, hR9⟩
        have HG9 := Lib.hid (grown_trans E3.out hG9)
        have HR9 := Lib.hid hR9
        clear hG9 hR9
        clear k1
        have k1 := HR9.out.blk.cell 1
        have f1 := HR9.out.blk.free 1
        have hlt := HR9.out.blk.lt
        go_wp2_with fail
        go_ret
        rw [← HX.out]
        exact ⟨b, hlb, rfl, grown_trans HG9.out (grown_set _ _ _ _), HR9.out.at i _ rfl⟩
      · have he : escN n = (n : Int) + 1 := by unfold escN; rw [if_neg hn]
        rw [if_neg hn] at HX
        simp only [he]
        have hne : (((n : Int) + 1) == 0) = false := by simp; omega
        have k1 := H3.out.blk.cell 1
        have f1 := H3.out.blk.free 1
        have hlt := H3.out.blk.lt
        clear HES he
        go_wp2_with fail
        go_ret
        rw [← HX.out]
        exact ⟨rfl, grown_trans E3.out (grown_set _ _ _ _), H3.out.at (i + (n + 1)) _ (by omega)⟩
    · have n92 : ((C.toNat : Int) == 92) = false := qq 92 h92
      have hch : chr unq marks.data.toList (C :: rest s (i + 1)) = if C ∈ marks.data.toList then none else some (C.toNat, 1) := by
        show (if C = 92 then _ else if C ∈ marks.data.toList then none else some (C.toNat, 1)) = _
        rw [if_neg h92]
      rw [hch] at hx
      have HX := Lib.hid hx
      by_cases hm : C ∈ marks.data.toList
      · have hx2 := HX.out
        rw [if_pos hm] at hx2
        have HX := Lib.hid hx2
        have hmm : C = 91 ∨ C = 93 ∨ C = 45 ∨ C = 10 := by simpa [marks] using hm
        clear hch hx hx2 qq hC hm h92
        rcases hmm with rfl | rfl | rfl | rfl
        all_goals (
          go_enter Tryz.func87, Tryz.ntmps87
          go_wp2_with fail
          refine G.wp_region_stab (G := Ext) (fun _ => none) (by kernel_rfl) (by kernel_rfl) (fun _ _ h => by cases h) (fun hex => ?_)
          iterate 10
            (refine G.wpS_one (A := ?_) hex rfl rfl (by simp) ?_ ?_ ?_
             rotate_left 2
             · intro w' hC K hK
               have d0 := (HH.out.blk.ext hC.1).cell 0; have d1 := (HH.out.blk.ext hC.1).cell 1
               go_wp2_with (fail)
               refine hK _ ?_
               first | exact Below.refl _ _ | assumption | ((repeat' (first | (with_reducible exact Below.refl _ _) | (with_reducible assumption) | (with_reducible refine below_drewN ?_ _) | (with_reducible refine Below.alloc ?_ ?_ _) | (with_reducible refine Below.drew ?_) | (with_reducible refine Below.setCell ?_ ?_ _) | (with_reducible refine Below.trans ?_ (Below.mono (by with_reducible assumption) ?_)) | go_size)))
             rotate_left 1
             · rfl
             clear hex; intro hex)
          refine G.wpS_nil fun w1 hAll => ?_
          have hE := hAll.1
          have H1 := Lib.hid (HH.out.ext hE)
          have E1 := Lib.hid hE
          clear hE hex hAll
          go_wp2_with fail
          refine G.wp_region_stab (G := Ext) (fun _ => none) (by kernel_rfl) (by kernel_rfl) (fun _ _ h => by cases h) (fun hex => ?_)
          iterate 10
            (refine G.wpS_one (A := ?_) hex rfl rfl (by simp) ?_ ?_ ?_
             rotate_left 2
             · intro w' hC K hK
               have d0 := (H1.out.blk.ext hC.1).cell 0; have d1 := (H1.out.blk.ext hC.1).cell 1
               go_wp2_with (fail)
               refine hK _ ?_
               first | exact Below.refl _ _ | assumption | ((repeat' (first | (with_reducible exact Below.refl _ _) | (with_reducible assumption) | (with_reducible refine below_drewN ?_ _) | (with_reducible refine Below.alloc ?_ ?_ _) | (with_reducible refine Below.drew ?_) | (with_reducible refine Below.setCell ?_ ?_ _) | (with_reducible refine Below.trans ?_ (Below.mono (by with_reducible assumption) ?_)) | go_size)))
             rotate_left 1
             · rfl
             clear hex; intro hex)
          refine G.wpS_nil fun w2 hAll => ?_
          have hE := hAll.1
          have H2 := Lib.hid (H1.out.ext hE)
          have E2 := Lib.hid (grown_of_ext (row := some r) (bel_call E1.out hE))
          clear hE hex hAll H1 E1 d1 d1n hix
          have k1 := H2.out.blk.cell 1
          go_wp2_with fail
          refine (rrefuse_any r s _ o 3 ((i : Int)) _ H2.out).mono ?_
          rintro e w9 ⟨rfl, hG9, hR9⟩
          have HG9 := Lib.hid (grown_trans E2.out hG9)
          have HR9 := Lib.hid hR9
          clear hG9 hR9
          go_wp2_with fail
          go_ret
          rw [← HX.out]
          exact ⟨0, by omega, rfl, HG9.out, HR9.out⟩)
      · have hx2 := HX.out
        rw [if_neg hm] at hx2
        have HX := Lib.hid hx2
        have hmm : C ≠ 91 ∧ C ≠ 93 ∧ C ≠ 45 ∧ C ≠ 10 := by simpa [marks] using hm
        have n91 : ((C.toNat : Int) == 91) = false := qq 91 hmm.1
        have n93 : ((C.toNat : Int) == 93) = false := qq 93 hmm.2.1
        have n45 : ((C.toNat : Int) == 45) = false := qq 45 hmm.2.2.1
        have n10 : ((C.toNat : Int) == 10) = false := qq 10 hmm.2.2.2
        clear hch hx hx2 qq hC hm h92 hmm
        go_enter Tryz.func87, Tryz.ntmps87
        go_wp2_with fail
        refine G.wp_region_stab (G := Ext) (fun _ => none) (by kernel_rfl) (by kernel_rfl) (fun _ _ h => by cases h) (fun hex => ?_)
        iterate 10
          (refine G.wpS_one (A := ?_) hex rfl rfl (by simp) ?_ ?_ ?_
           rotate_left 2
           · intro w' hC K hK
             have d0 := (HH.out.blk.ext hC.1).cell 0; have d1 := (HH.out.blk.ext hC.1).cell 1
             go_wp2_with (fail)
             refine hK _ ?_
             first | exact Below.refl _ _ | assumption | ((repeat' (first | (with_reducible exact Below.refl _ _) | (with_reducible assumption) | (with_reducible refine below_drewN ?_ _) | (with_reducible refine Below.alloc ?_ ?_ _) | (with_reducible refine Below.drew ?_) | (with_reducible refine Below.setCell ?_ ?_ _) | (with_reducible refine Below.trans ?_ (Below.mono (by with_reducible assumption) ?_)) | go_size)))
           rotate_left 1
           · rfl
           clear hex; intro hex)
        refine G.wpS_nil fun w1 hAll => ?_
        have hE := hAll.1
        have H1 := Lib.hid (HH.out.ext hE)
        have E1 := Lib.hid hE
        clear hE hex hAll
        go_wp2_with fail
        refine G.wp_region_stab (G := Ext) (fun _ => none) (by kernel_rfl) (by kernel_rfl) (fun _ _ h => by cases h) (fun hex => ?_)
        iterate 10
          (refine G.wpS_one (A := ?_) hex rfl rfl (by simp) ?_ ?_ ?_
           rotate_left 2
           · intro w' hC K hK
             have d0 := (H1.out.blk.ext hC.1).cell 0; have d1 := (H1.out.blk.ext hC.1).cell 1
             go_wp2_with (fail)
             refine hK _ ?_
             first | exact Below.refl _ _ | assumption | ((repeat' (first | (with_reducible exact Below.refl _ _) | (with_reducible assumption) | (with_reducible refine below_drewN ?_ _) | (with_reducible refine Below.alloc ?_ ?_ _) | (with_reducible refine Below.drew ?_) | (with_reducible refine Below.setCell ?_ ?_ _) | (with_reducible refine Below.trans ?_ (Below.mono (by with_reducible assumption) ?_)) | go_size)))
           rotate_left 1
           · rfl
           clear hex; intro hex)
        refine G.wpS_nil fun w2 hAll => ?_
        have hE := hAll.1
        have H2 := Lib.hid (H1.out.ext hE)
        have E2 := Lib.hid (grown_of_ext (row := some r) (bel_call E1.out hE))
        clear hE hex hAll H1 E1 d1 d1n hix
        have k1 := H2.out.blk.cell 1
        have f1 := H2.out.blk.free 1
        have hlt := H2.out.blk.lt
        go_wp2_with fail
        go_ret
        rw [← HX.out]
        exact ⟨rfl, grown_trans E2.out (grown_set _ _ _ _), H2.out.at (i + 1) _ (by omega)⟩
  · obtain rfl : i = s.size := by omega
    have d1 : decide ((s.size : Int) ≤ (s.size : Int)) = true := by simp
    rw [rest_end s _ (Nat.le_refl _)] at hx
    have HX := Lib.hid (show none = x from hx)
    clear hx hs
    go_enter Tryz.func87, Tryz.ntmps87
    go_wp2_with fail
    refine G.wp_region_stab (G := Ext) (fun _ => none) (by kernel_rfl) (by kernel_rfl) (fun _ _ h => by cases h) (fun hex => ?_)
    iterate 10
      (refine G.wpS_one (A := ?_) hex rfl rfl (by simp) ?_ ?_ ?_
       rotate_left 2
       · intro w' hC K hK
         have d0 := (HH.out.blk.ext hC.1).cell 0; have d1 := (HH.out.blk.ext hC.1).cell 1
         go_wp2_with (fail)
         refine hK _ ?_
         first | exact Below.refl _ _ | assumption | ((repeat' (first | (with_reducible exact Below.refl _ _) | (with_reducible assumption) | (with_reducible refine below_drewN ?_ _) | (with_reducible refine Below.alloc ?_ ?_ _) | (with_reducible refine Below.drew ?_) | (with_reducible refine Below.setCell ?_ ?_ _) | (with_reducible refine Below.trans ?_ (Below.mono (by with_reducible assumption) ?_)) | go_size)))
       rotate_left 1
       · rfl
       clear hex; intro hex)
    refine G.wpS_nil fun w1 hAll => ?_
    have hE := hAll.1
    have H1 := Lib.hid (HH.out.ext hE)
    have E1 := Lib.hid (grown_of_ext (row := some r) hE)
    clear hE hex hAll
    have k0 := H1.out.blk.cell 0
    go_wp2_with fail
    refine (rrefuse_any r s _ o 3 ((s.size : Int)) _ H1.out).mono ?_
    rintro e w9 ⟨rfl, hG9, hR9⟩
    have HG9 := Lib.hid (grown_trans E1.out hG9)
    have HR9 := Lib.hid hR9
    clear hG9 hR9
    go_wp2_with fail
    go_ret
    rw [← HX.out]
    exact ⟨0, by omega, rfl, HG9.out, HR9.out⟩
end Go.Proofs.YtecjodcaeldidaaGreatDoor
