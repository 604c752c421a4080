/- What each call of package bolterref1 does: ranges, unions, cuts, differences. -/
import Derived.Test.YtkhmkcaocacfhaaDoorRef1
namespace Go.Proofs.YtkhmkcaocacfhaaDoor
open Go Go.RowKit
abbrev zer : Array Value := #[.int .u64 0, .int .u64 0, .int .u64 0, .int .u64 0]
theorem zer_svs : zer = svs 0#256 := by simp [zer, svs, wd_zero]
set_option maxHeartbeats 1000000 in
set_option maxRecDepth 20000 in
theorem runion_any (a b : BitVec 256) (w : World) :
    Calls Tryd.prog 26 #[sv a, sv b] w fun e w' => e = .returned (sv (a ||| b)) ∧ Below w.heap.size w w' := by
  have k1 := ((Blk.new w (svs a) 25).alloc (.cells (svs b) 25)).alloc (.cells zer 25)
  have k2 := (Blk.new (w.alloc (.cells (svs a) 25)) (svs b) 25).alloc (.cells zer 25)
  have k3 := Blk.new ((w.alloc (.cells (svs a) 25)).alloc (.cells (svs b) 25)) zer 25
  simp only [World.size_alloc] at k2 k3
  have hbel : Below w.heap.size w (((w.alloc (.cells (svs a) 25)).alloc (.cells (svs b) 25)).alloc (.cells zer 25)) := by (repeat' (first | (with_reducible exact Below.refl _ _) | (with_reducible assumption) | (with_reducible refine below_drewN ?_ _) | (with_reducible refine Below.alloc ?_ ?_ _) | (with_reducible refine Below.drew ?_) | (with_reducible refine Below.setCell ?_ ?_ _) | (with_reducible refine Below.trans ?_ (Below.mono (by with_reducible assumption) ?_)) | go_size))
  go_enter Tryd.func26, Tryd.ntmps26
  go_wp2_with fail
  go_loopw [5] (fun i wr => ∃ k : Nat, k ≤ 256 ∧ i = .int .i64 k ∧ Blk wr w.heap.size (svs (a ||| cut b k)) 25 ∧ Blk wr (w.heap.size + 1) (svs b) 25 ∧ Blk wr (w.heap.size + 2) zer 25 ∧ Below w.heap.size w wr) (fun i _ => 256 - (intOf i).toNat)
  case atStart => exact ⟨0, Nat.zero_le _, rfl, by rw [cut_zero, BitVec.or_zero]; exact k1, k2, k3, hbel⟩
  case round =>
    clear k1 k2 k3 hbel
    obtain ⟨k, hk, rfl, k1, k2, k3, hbel⟩ := hrel
    obtain ⟨A, hA⟩ : ∃ A, a ||| cut b k = A := ⟨_, rfl⟩
    rw [hA] at k1
    obtain ⟨p0, p1, p2, p3⟩ := k1.cells4; obtain ⟨q0, q1, q2, q3⟩ := k2.cells4; obtain ⟨r0, r1, r2, r3⟩ := k3.cells4
    by_cases hlt : k < 256
    · have hs := cut_succ b k hlt
      cases hb : b.getLsbD k with
      | true =>
        rw [hb, if_pos rfl] at hs
        have hA' : a ||| cut b (k + 1) = A ||| 1#256 <<< k := by rw [hs, ← hA, BitVec.or_assoc]
        have HH := Lib.hid (And.intro hA' hb)
        clear hA hA' hb hs
        go_wp2_with fail
        refine (rhas_eq b k true _ hlt HH.out.2).mono ?_
        rintro e w9 ⟨rfl, hE⟩
        replace k1 := k1.ext hE
        replace k2 := k2.ext hE
        replace k3 := k3.ext hE
        replace hbel := bel_call hbel hE
        clear hE
        clear p0 p1 p2 p3 q0 q1 q2 q3 r0 r1 r2 r3
        obtain ⟨p0, p1, p2, p3⟩ := k1.cells4; obtain ⟨q0, q1, q2, q3⟩ := k2.cells4; obtain ⟨r0, r1, r2, r3⟩ := k3.cells4
        go_wp2_with fail
        refine (rwith_eq A k _ _ hlt rfl).mono ?_
        rintro e w9 ⟨rfl, hE⟩
        replace k1 := k1.ext hE
        replace k2 := k2.ext hE
        replace k3 := k3.ext hE
        replace hbel := bel_call hbel hE
        clear hE
        clear p0 p1 p2 p3 q0 q1 q2 q3 r0 r1 r2 r3
        obtain ⟨p0, p1, p2, p3⟩ := k1.cells4; obtain ⟨q0, q1, q2, q3⟩ := k2.cells4; obtain ⟨r0, r1, r2, r3⟩ := k3.cells4
        have hfr := k1.free
        go_wp2
        go_roundw
        case rel => exact ⟨k + 1, by omega, by go_num, by rw [HH.out.1]; exact k1.store4 _ _ _ _, k2.other4 (by omega) _ _ _ _, k3.other4 (by omega) _ _ _ _, bel_set4 hbel (Nat.le_refl _) _ _ _ _⟩
        case measure => simp [intOf]; omega
      | false =>
        rw [hb, if_neg (by simp)] at hs
        have hA' : a ||| cut b (k + 1) = A := by rw [hs, ← hA]
        have HH := Lib.hid (And.intro hA' hb)
        clear hA hA' hb hs
        go_wp2_with fail
        refine (rhas_eq b k false _ hlt HH.out.2).mono ?_
        rintro e w9 ⟨rfl, hE⟩
        replace k1 := k1.ext hE
        replace k2 := k2.ext hE
        replace k3 := k3.ext hE
        replace hbel := bel_call hbel hE
        clear hE
        clear p0 p1 p2 p3 q0 q1 q2 q3 r0 r1 r2 r3
        obtain ⟨p0, p1, p2, p3⟩ := k1.cells4; obtain ⟨q0, q1, q2, q3⟩ := k2.cells4; obtain ⟨r0, r1, r2, r3⟩ := k3.cells4
        go_wp2
        go_roundw
        case rel => exact ⟨k + 1, by omega, by go_num, by rw [HH.out.1]; exact k1, k2, k3, hbel⟩
        case measure => simp [intOf]; omega
    · obtain rfl : k = 256 := by omega
      rw [cut_full] at hA
      have hfr := k3.free
      have HA := Lib.hid hA
      clear hA
      go_wp2
      refine bodyPost_ret (v := sv (a ||| b)) ?_ rfl ⟨rfl, by (repeat' (first | (with_reducible exact Below.refl _ _) | (with_reducible assumption) | (with_reducible refine below_drewN ?_ _) | (with_reducible refine Below.alloc ?_ ?_ _) | (with_reducible refine Below.drew ?_) | (with_reducible refine Below.setCell ?_ ?_ _) | (with_reducible refine Below.trans ?_ (Below.mono (by with_reducible assumption) ?_)) | go_size))⟩
      rw [HA.out]
      simp [results, Tryd.results26, go_sem, *]
/-- The bytes from lo up to, and without, k. -/
def rg (lo k : Nat) : BitVec 256 := low (k : Int) &&& ~~~(low (lo : Int))
theorem rg_bit (lo k i : Nat) (h1 : lo ≤ 256) (h2 : k ≤ 256) (hi : i < 256) : (rg lo k).getLsbD i = decide (lo ≤ i ∧ i < k) := by
  unfold rg
  rw [BitVec.getLsbD_and, BitVec.getLsbD_not, low_bit _ _ (by omega), low_bit _ _ (by omega), Int.toNat_natCast, Int.toNat_natCast, Bool.eq_iff_iff]
  simp [hi]
  omega
theorem rg_same (lo : Nat) (h : lo ≤ 256) : rg lo lo = 0#256 := by
  apply BitVec.eq_of_getLsbD_eq
  intro i hi
  rw [rg_bit lo lo i h h hi]; simp
theorem rg_succ (lo k : Nat) (h1 : lo ≤ k) (h2 : k < 256) : rg lo (k + 1) = rg lo k ||| 1#256 <<< k := by
  apply BitVec.eq_of_getLsbD_eq
  intro i hi
  rw [BitVec.getLsbD_or, rg_bit _ _ _ (by omega) (by omega) hi, rg_bit _ _ _ (by omega) (by omega) hi, BitVec.getLsbD_shiftLeft, BitVec.getLsbD_one]
  by_cases e : i = k
  · subst e; simp [h1, hi]
  · by_cases e2 : i < k
    · have : i < k + 1 := by omega
      simp [e2, this]
    · have h3 : ¬ i < k + 1 := by omega
      have h4 : ¬ i - k = 0 := by omega
      simp [e2, h3, h4]
theorem rg_rng (lo hi k : Nat) (h1 : lo ≤ 255) (h2 : hi ≤ 255) (h3 : lo ≤ k) (h4 : hi < k) (h5 : k ≤ lo ∨ k ≤ hi + 1) : rg lo k = rng lo hi := by
  apply BitVec.eq_of_getLsbD_eq
  intro i hi'
  rw [rg_bit _ _ _ (by omega) (by omega) hi', rng_bit _ _ _ (by omega) (by omega) (by omega) (by omega), decide_eq_decide]
  omega
set_option maxHeartbeats 1000000 in
set_option maxRecDepth 20000 in
theorem rrange_any (lo hi : Nat) (w : World) (h1 : lo ≤ 255) (h2 : hi ≤ 255) :
    Calls Tryd.prog 24 #[.int .i64 lo, .int .i64 hi] w fun e w' => e = .returned (sv (rng lo hi)) ∧ Below w.heap.size w w' := by
  have k1 := Blk.new (w.alloc (.cells zer 25)) zer 25
  have k2 := (Blk.new w zer 25).alloc (.cells zer 25)
  simp only [World.size_alloc] at k1
  have hbel : Below w.heap.size w ((w.alloc (.cells zer 25)).alloc (.cells zer 25)) := by (repeat' (first | (with_reducible exact Below.refl _ _) | (with_reducible assumption) | (with_reducible refine below_drewN ?_ _) | (with_reducible refine Below.alloc ?_ ?_ _) | (with_reducible refine Below.drew ?_) | (with_reducible refine Below.setCell ?_ ?_ _) | (with_reducible refine Below.trans ?_ (Below.mono (by with_reducible assumption) ?_)) | go_size))
  go_enter Tryd.func24, Tryd.ntmps24
  go_wp2_with fail
  go_loopw [6] (fun i wr => ∃ k : Nat, lo ≤ k ∧ (k ≤ lo ∨ k ≤ hi + 1) ∧ i = .int .i64 k ∧ Blk wr (w.heap.size + 1) (svs (rg lo k)) 25 ∧ Blk wr w.heap.size zer 25 ∧ Below w.heap.size w wr) (fun i _ => hi + 1 - (intOf i).toNat)
  case atStart => exact ⟨lo, Nat.le_refl _, .inl (Nat.le_refl _), rfl, by rw [rg_same lo (by omega), ← zer_svs]; exact k1, k2, hbel⟩
  case round =>
    clear k1 k2 hbel
    obtain ⟨k, hk1, hk2, rfl, k1, k2, hbel⟩ := hrel
    obtain ⟨A, hA⟩ : ∃ A, rg lo k = A := ⟨_, rfl⟩
    rw [hA] at k1
    obtain ⟨p0, p1, p2, p3⟩ := k1.cells4
    obtain ⟨q0, q1, q2, q3⟩ := k2.cells4
    by_cases hlt : k ≤ hi
    · have hs := rg_succ lo k hk1 (by omega)
      rw [hA] at hs
      have HH := Lib.hid hs
      clear hs hA
      go_wp2_with fail
      refine (rwith_eq A k _ _ (by omega) rfl).mono ?_
      rintro e w9 ⟨rfl, hE⟩
      replace k1 := k1.ext hE
      replace k2 := k2.ext hE
      replace hbel := bel_call hbel hE
      clear hE p0 p1 p2 p3 q0 q1 q2 q3
      obtain ⟨p0, p1, p2, p3⟩ := k1.cells4
      have hfr := k1.free
      go_wp2
      go_roundw
      case rel => exact ⟨k + 1, by omega, .inr (by omega), by go_num, by rw [HH.out]; exact k1.store4 _ _ _ _, k2.other4 (by omega) _ _ _ _, bel_set4 hbel (by omega) _ _ _ _⟩
      case measure => simp [intOf]; omega
    · have hfr := k2.free
      rw [rg_rng lo hi k h1 h2 hk1 (by omega) hk2] at hA
      have HA := Lib.hid hA
      clear hA
      go_wp2
      refine bodyPost_ret (v := sv (rng lo hi)) ?_ rfl ⟨rfl, by (repeat' (first | (with_reducible exact Below.refl _ _) | (with_reducible assumption) | (with_reducible refine below_drewN ?_ _) | (with_reducible refine Below.alloc ?_ ?_ _) | (with_reducible refine Below.drew ?_) | (with_reducible refine Below.setCell ?_ ?_ _) | (with_reducible refine Below.trans ?_ (Below.mono (by with_reducible assumption) ?_)) | go_size))⟩
      rw [HA.out]
      simp [results, Tryd.results24, go_sem, *]
theorem rrange_eq (lo hi : Nat) (r : BitVec 256) (w : World) (h1 : lo ≤ 255) (h2 : hi ≤ 255) (h : rng lo hi = r) :
    Calls Tryd.prog 24 #[.int .i64 lo, .int .i64 hi] w fun e w' => e = .returned (sv r) ∧ Below w.heap.size w w' := by subst h; exact rrange_any lo hi w h1 h2
theorem rng_full : rng 0 255 = full := by decide +kernel
theorem rrange_full (w : World) : Calls Tryd.prog 24 #[.int .i64 0, .int .i64 255] w fun e w' => e = .returned (sv full) ∧ Below w.heap.size w w' := by
  rw [← rng_full]; exact rrange_any 0 255 w (by omega) (by omega)
set_option maxHeartbeats 1000000 in
set_option maxRecDepth 20000 in
theorem rall_any (w : World) : Calls Tryd.prog 22 #[] w fun e w' => e = .returned (sv full) ∧ Below w.heap.size w w' := by
  have k1 := Blk.new w zer 25
  have hbel : Below w.heap.size w (w.alloc (.cells zer 25)) := by (repeat' (first | (with_reducible exact Below.refl _ _) | (with_reducible assumption) | (with_reducible refine below_drewN ?_ _) | (with_reducible refine Below.alloc ?_ ?_ _) | (with_reducible refine Below.drew ?_) | (with_reducible refine Below.setCell ?_ ?_ _) | (with_reducible refine Below.trans ?_ (Below.mono (by with_reducible assumption) ?_)) | go_size))
  obtain ⟨f, hf⟩ : ∃ f, full = f := ⟨_, rfl⟩
  have HF := Lib.hid hf
  rw [hf]
  clear hf
  go_enter Tryd.func22, Tryd.ntmps22
  go_wp2_with fail
  refine (rrange_full _).mono ?_
  rw [HF.out]
  rintro e w9 ⟨rfl, hE⟩
  replace k1 := k1.ext hE
  replace hbel := bel_call hbel hE
  clear hE
  obtain ⟨p0, p1, p2, p3⟩ := k1.cells4
  have hfr := k1.free
  go_wp2
  refine bodyPost_ret (v := sv f) ?_ rfl ⟨rfl, by (repeat' (first | (with_reducible exact Below.refl _ _) | (with_reducible assumption) | (with_reducible refine below_drewN ?_ _) | (with_reducible refine Below.alloc ?_ ?_ _) | (with_reducible refine Below.drew ?_) | (with_reducible refine Below.setCell ?_ ?_ _) | (with_reducible refine Below.trans ?_ (Below.mono (by with_reducible assumption) ?_)) | go_size))⟩
  simp [results, Tryd.results22, go_sem, *]
set_option maxHeartbeats 2000000 in
set_option maxRecDepth 20000 in
theorem rinter_any (a b : BitVec 256) (w : World) :
    Calls Tryd.prog 28 #[sv a, sv b] w fun e w' => e = .returned (sv (a &&& b)) ∧ Below w.heap.size w w' := by
  have k1 := Blk.new (((w.alloc (.cells (svs a) 25)).alloc (.cells (svs b) 25)).alloc (.cells zer 25)) zer 25
  have k2 := (((Blk.new w (svs a) 25).alloc (.cells (svs b) 25)).alloc (.cells zer 25)).alloc (.cells zer 25)
  have k3 := ((Blk.new (w.alloc (.cells (svs a) 25)) (svs b) 25).alloc (.cells zer 25)).alloc (.cells zer 25)
  have k4 := (Blk.new ((w.alloc (.cells (svs a) 25)).alloc (.cells (svs b) 25)) zer 25).alloc (.cells zer 25)
  simp only [World.size_alloc] at k1 k3 k4
  have hbel : Below w.heap.size w ((((w.alloc (.cells (svs a) 25)).alloc (.cells (svs b) 25)).alloc (.cells zer 25)).alloc (.cells zer 25)) := by (repeat' (first | (with_reducible exact Below.refl _ _) | (with_reducible assumption) | (with_reducible refine below_drewN ?_ _) | (with_reducible refine Below.alloc ?_ ?_ _) | (with_reducible refine Below.drew ?_) | (with_reducible refine Below.setCell ?_ ?_ _) | (with_reducible refine Below.trans ?_ (Below.mono (by with_reducible assumption) ?_)) | go_size))
  obtain ⟨X, hX⟩ : ∃ X, a &&& b = X := ⟨_, rfl⟩
  rw [hX]
  have hbit : ∀ k, k < 256 → X.getLsbD k = (a.getLsbD k &&  b.getLsbD k) := fun k hk => by rw [← hX]; simp [hk]
  have HX := Lib.hid hbit
  clear hX hbit
  go_enter Tryd.func28, Tryd.ntmps28
  go_wp2_with fail
  go_loopw [6] (fun i wr => ∃ k : Nat, k ≤ 256 ∧ i = .int .i64 k ∧ Blk wr (w.heap.size + 3) (svs (cut X k)) 25 ∧ Blk wr w.heap.size (svs a) 25 ∧ Blk wr (w.heap.size + 1) (svs b) 25 ∧ Blk wr (w.heap.size + 2) zer 25 ∧ Below w.heap.size w wr) (fun i _ => 256 - (intOf i).toNat)
  case atStart => exact ⟨0, Nat.zero_le _, rfl, by rw [cut_zero, ← zer_svs]; exact k1, k2, k3, k4, hbel⟩
  case round =>
    clear k1 k2 k3 k4 hbel
    obtain ⟨k, hk, rfl, k1, k2, k3, k4, hbel⟩ := hrel
    obtain ⟨A, hA⟩ : ∃ A, cut X k = A := ⟨_, rfl⟩
    rw [hA] at k1
    obtain ⟨p0, p1, p2, p3⟩ := k1.cells4; obtain ⟨q0, q1, q2, q3⟩ := k2.cells4; obtain ⟨r0, r1, r2, r3⟩ := k3.cells4; obtain ⟨s0, s1, s2, s3⟩ := k4.cells4
    by_cases hlt : k < 256
    · have hs := cut_succ X k hlt
      rw [HX.out k hlt] at hs
      cases ha : a.getLsbD k with
      | true =>
        cases hb : b.getLsbD k with
        | false =>
          have hA' : cut X (k + 1) = A := by rw [hs, ha, hb, ← hA]; simp
          have HH := Lib.hid (And.intro hA' (And.intro ha hb))
          clear hA hA' ha hb hs
          go_wp2_with fail
          refine (rhas_eq a k true _ hlt HH.out.2.1).mono ?_
          rintro e w9 ⟨rfl, hE⟩
          replace k1 := k1.ext hE
          replace k2 := k2.ext hE
          replace k3 := k3.ext hE
          replace k4 := k4.ext hE
          replace hbel := bel_call hbel hE
          clear hE
          clear p0 p1 p2 p3 q0 q1 q2 q3 r0 r1 r2 r3 s0 s1 s2 s3
          obtain ⟨p0, p1, p2, p3⟩ := k1.cells4; obtain ⟨q0, q1, q2, q3⟩ := k2.cells4; obtain ⟨r0, r1, r2, r3⟩ := k3.cells4; obtain ⟨s0, s1, s2, s3⟩ := k4.cells4
          go_wp2_with fail
          refine (rhas_eq b k _ _ hlt HH.out.2.2).mono ?_
          rintro e w9 ⟨rfl, hE⟩
          replace k1 := k1.ext hE
          replace k2 := k2.ext hE
          replace k3 := k3.ext hE
          replace k4 := k4.ext hE
          replace hbel := bel_call hbel hE
          clear hE
          clear p0 p1 p2 p3 q0 q1 q2 q3 r0 r1 r2 r3 s0 s1 s2 s3
          obtain ⟨p0, p1, p2, p3⟩ := k1.cells4; obtain ⟨q0, q1, q2, q3⟩ := k2.cells4; obtain ⟨r0, r1, r2, r3⟩ := k3.cells4; obtain ⟨s0, s1, s2, s3⟩ := k4.cells4
          go_wp2
          go_roundw
          case rel => exact ⟨k + 1, by omega, by go_num, by rw [HH.out.1]; exact k1, k2, k3, k4, hbel⟩
          case measure => simp [intOf]; omega
        | _ =>
          have hA' : cut X (k + 1) = A ||| 1#256 <<< k := by rw [hs, ha, hb, ← hA]; simp
          have HH := Lib.hid (And.intro hA' (And.intro ha hb))
          clear hA hA' ha hb hs
          go_wp2_with fail
          refine (rhas_eq a k true _ hlt HH.out.2.1).mono ?_
          rintro e w9 ⟨rfl, hE⟩
          replace k1 := k1.ext hE
          replace k2 := k2.ext hE
          replace k3 := k3.ext hE
          replace k4 := k4.ext hE
          replace hbel := bel_call hbel hE
          clear hE
          clear p0 p1 p2 p3 q0 q1 q2 q3 r0 r1 r2 r3 s0 s1 s2 s3
          obtain ⟨p0, p1, p2, p3⟩ := k1.cells4; obtain ⟨q0, q1, q2, q3⟩ := k2.cells4; obtain ⟨r0, r1, r2, r3⟩ := k3.cells4; obtain ⟨s0, s1, s2, s3⟩ := k4.cells4
          go_wp2_with fail
          refine (rhas_eq b k _ _ hlt HH.out.2.2).mono ?_
          rintro e w9 ⟨rfl, hE⟩
          replace k1 := k1.ext hE
          replace k2 := k2.ext hE
          replace k3 := k3.ext hE
          replace k4 := k4.ext hE
          replace hbel := bel_call hbel hE
          clear hE
          clear p0 p1 p2 p3 q0 q1 q2 q3 r0 r1 r2 r3 s0 s1 s2 s3
          obtain ⟨p0, p1, p2, p3⟩ := k1.cells4; obtain ⟨q0, q1, q2, q3⟩ := k2.cells4; obtain ⟨r0, r1, r2, r3⟩ := k3.cells4; obtain ⟨s0, s1, s2, s3⟩ := k4.cells4
          go_wp2_with fail
          refine (rwith_eq A k _ _ hlt rfl).mono ?_
          rintro e w9 ⟨rfl, hE⟩
          replace k1 := k1.ext hE
          replace k2 := k2.ext hE
          replace k3 := k3.ext hE
          replace k4 := k4.ext hE
          replace hbel := bel_call hbel hE
          clear hE
          clear p0 p1 p2 p3 q0 q1 q2 q3 r0 r1 r2 r3 s0 s1 s2 s3
          obtain ⟨p0, p1, p2, p3⟩ := k1.cells4; obtain ⟨q0, q1, q2, q3⟩ := k2.cells4; obtain ⟨r0, r1, r2, r3⟩ := k3.cells4; obtain ⟨s0, s1, s2, s3⟩ := k4.cells4
          have hfr := k1.free
          go_wp2
          go_roundw
          case rel => exact ⟨k + 1, by omega, by go_num, by rw [HH.out.1]; exact k1.store4 _ _ _ _, k2.other4 (by omega) _ _ _ _, k3.other4 (by omega) _ _ _ _, k4.other4 (by omega) _ _ _ _, bel_set4 hbel (by omega) _ _ _ _⟩
          case measure => simp [intOf]; omega
      | false =>
        have hA' : cut X (k + 1) = A := by rw [hs, ha, ← hA]; simp
        have HH := Lib.hid (And.intro hA' ha)
        clear hA hA' ha hs
        go_wp2_with fail
        refine (rhas_eq a k false _ hlt HH.out.2).mono ?_
        rintro e w9 ⟨rfl, hE⟩
        replace k1 := k1.ext hE
        replace k2 := k2.ext hE
        replace k3 := k3.ext hE
        replace k4 := k4.ext hE
        replace hbel := bel_call hbel hE
        clear hE
        clear p0 p1 p2 p3 q0 q1 q2 q3 r0 r1 r2 r3 s0 s1 s2 s3
        obtain ⟨p0, p1, p2, p3⟩ := k1.cells4; obtain ⟨q0, q1, q2, q3⟩ := k2.cells4; obtain ⟨r0, r1, r2, r3⟩ := k3.cells4; obtain ⟨s0, s1, s2, s3⟩ := k4.cells4
        go_wp2
        go_roundw
        case rel => exact ⟨k + 1, by omega, by go_num, by rw [HH.out.1]; exact k1, k2, k3, k4, hbel⟩
        case measure => simp [intOf]; omega
    · obtain rfl : k = 256 := by omega
      rw [cut_full] at hA
      have hfr := k4.free
      have HA := Lib.hid hA
      clear hA
      go_wp2
      refine bodyPost_ret (v := sv X) ?_ rfl ⟨rfl, by (repeat' (first | (with_reducible exact Below.refl _ _) | (with_reducible assumption) | (with_reducible refine below_drewN ?_ _) | (with_reducible refine Below.alloc ?_ ?_ _) | (with_reducible refine Below.drew ?_) | (with_reducible refine Below.setCell ?_ ?_ _) | (with_reducible refine Below.trans ?_ (Below.mono (by with_reducible assumption) ?_)) | go_size))⟩
      rw [HA.out]
      simp [results, Tryd.results28, go_sem, *]
set_option maxHeartbeats 2000000 in
set_option maxRecDepth 20000 in
theorem rminus_any (a b : BitVec 256) (w : World) :
    Calls Tryd.prog 30 #[sv a, sv b] w fun e w' => e = .returned (sv (a &&& ~~~b)) ∧ Below w.heap.size w w' := by
  have k1 := Blk.new (((w.alloc (.cells (svs a) 25)).alloc (.cells (svs b) 25)).alloc (.cells zer 25)) zer 25
  have k2 := (((Blk.new w (svs a) 25).alloc (.cells (svs b) 25)).alloc (.cells zer 25)).alloc (.cells zer 25)
  have k3 := ((Blk.new (w.alloc (.cells (svs a) 25)) (svs b) 25).alloc (.cells zer 25)).alloc (.cells zer 25)
  have k4 := (Blk.new ((w.alloc (.cells (svs a) 25)).alloc (.cells (svs b) 25)) zer 25).alloc (.cells zer 25)
  simp only [World.size_alloc] at k1 k3 k4
  have hbel : Below w.heap.size w ((((w.alloc (.cells (svs a) 25)).alloc (.cells (svs b) 25)).alloc (.cells zer 25)).alloc (.cells zer 25)) := by (repeat' (first | (with_reducible exact Below.refl _ _) | (with_reducible assumption) | (with_reducible refine below_drewN ?_ _) | (with_reducible refine Below.alloc ?_ ?_ _) | (with_reducible refine Below.drew ?_) | (with_reducible refine Below.setCell ?_ ?_ _) | (with_reducible refine Below.trans ?_ (Below.mono (by with_reducible assumption) ?_)) | go_size))
  obtain ⟨X, hX⟩ : ∃ X, a &&& ~~~b = X := ⟨_, rfl⟩
  rw [hX]
  have hbit : ∀ k, k < 256 → X.getLsbD k = (a.getLsbD k && ! b.getLsbD k) := fun k hk => by rw [← hX]; simp [hk]
  have HX := Lib.hid hbit
  clear hX hbit
  go_enter Tryd.func30, Tryd.ntmps30
  go_wp2_with fail
  go_loopw [6] (fun i wr => ∃ k : Nat, k ≤ 256 ∧ i = .int .i64 k ∧ Blk wr (w.heap.size + 3) (svs (cut X k)) 25 ∧ Blk wr w.heap.size (svs a) 25 ∧ Blk wr (w.heap.size + 1) (svs b) 25 ∧ Blk wr (w.heap.size + 2) zer 25 ∧ Below w.heap.size w wr) (fun i _ => 256 - (intOf i).toNat)
  case atStart => exact ⟨0, Nat.zero_le _, rfl, by rw [cut_zero, ← zer_svs]; exact k1, k2, k3, k4, hbel⟩
  case round =>
    clear k1 k2 k3 k4 hbel
    obtain ⟨k, hk, rfl, k1, k2, k3, k4, hbel⟩ := hrel
    obtain ⟨A, hA⟩ : ∃ A, cut X k = A := ⟨_, rfl⟩
    rw [hA] at k1
    obtain ⟨p0, p1, p2, p3⟩ := k1.cells4; obtain ⟨q0, q1, q2, q3⟩ := k2.cells4; obtain ⟨r0, r1, r2, r3⟩ := k3.cells4; obtain ⟨s0, s1, s2, s3⟩ := k4.cells4
    by_cases hlt : k < 256
    · have hs := cut_succ X k hlt
      rw [HX.out k hlt] at hs
      cases ha : a.getLsbD k with
      | true =>
        cases hb : b.getLsbD k with
        | true =>
          have hA' : cut X (k + 1) = A := by rw [hs, ha, hb, ← hA]; simp
          have HH := Lib.hid (And.intro hA' (And.intro ha hb))
          clear hA hA' ha hb hs
          go_wp2_with fail
          refine (rhas_eq a k true _ hlt HH.out.2.1).mono ?_
          rintro e w9 ⟨rfl, hE⟩
          replace k1 := k1.ext hE
          replace k2 := k2.ext hE
          replace k3 := k3.ext hE
          replace k4 := k4.ext hE
          replace hbel := bel_call hbel hE
          clear hE
          clear p0 p1 p2 p3 q0 q1 q2 q3 r0 r1 r2 r3 s0 s1 s2 s3
          obtain ⟨p0, p1, p2, p3⟩ := k1.cells4; obtain ⟨q0, q1, q2, q3⟩ := k2.cells4; obtain ⟨r0, r1, r2, r3⟩ := k3.cells4; obtain ⟨s0, s1, s2, s3⟩ := k4.cells4
          go_wp2_with fail
          refine (rhas_eq b k _ _ hlt HH.out.2.2).mono ?_
          rintro e w9 ⟨rfl, hE⟩
          replace k1 := k1.ext hE
          replace k2 := k2.ext hE
          replace k3 := k3.ext hE
          replace k4 := k4.ext hE
          replace hbel := bel_call hbel hE
          clear hE
          clear p0 p1 p2 p3 q0 q1 q2 q3 r0 r1 r2 r3 s0 s1 s2 s3
          obtain ⟨p0, p1, p2, p3⟩ := k1.cells4; obtain ⟨q0, q1, q2, q3⟩ := k2.cells4; obtain ⟨r0, r1, r2, r3⟩ := k3.cells4; obtain ⟨s0, s1, s2, s3⟩ := k4.cells4
          go_wp2
          go_roundw
          case rel => exact ⟨k + 1, by omega, by go_num, by rw [HH.out.1]; exact k1, k2, k3, k4, hbel⟩
          case measure => simp [intOf]; omega
        | _ =>
          have hA' : cut X (k + 1) = A ||| 1#256 <<< k := by rw [hs, ha, hb, ← hA]; simp
          have HH := Lib.hid (And.intro hA' (And.intro ha hb))
          clear hA hA' ha hb hs
          go_wp2_with fail
          refine (rhas_eq a k true _ hlt HH.out.2.1).mono ?_
          rintro e w9 ⟨rfl, hE⟩
          replace k1 := k1.ext hE
          replace k2 := k2.ext hE
          replace k3 := k3.ext hE
          replace k4 := k4.ext hE
          replace hbel := bel_call hbel hE
          clear hE
          clear p0 p1 p2 p3 q0 q1 q2 q3 r0 r1 r2 r3 s0 s1 s2 s3
          obtain ⟨p0, p1, p2, p3⟩ := k1.cells4; obtain ⟨q0, q1, q2, q3⟩ := k2.cells4; obtain ⟨r0, r1, r2, r3⟩ := k3.cells4; obtain ⟨s0, s1, s2, s3⟩ := k4.cells4
          go_wp2_with fail
          refine (rhas_eq b k _ _ hlt HH.out.2.2).mono ?_
          rintro e w9 ⟨rfl, hE⟩
          replace k1 := k1.ext hE
          replace k2 := k2.ext hE
          replace k3 := k3.ext hE
          replace k4 := k4.ext hE
          replace hbel := bel_call hbel hE
          clear hE
          clear p0 p1 p2 p3 q0 q1 q2 q3 r0 r1 r2 r3 s0 s1 s2 s3
          obtain ⟨p0, p1, p2, p3⟩ := k1.cells4; obtain ⟨q0, q1, q2, q3⟩ := k2.cells4; obtain ⟨r0, r1, r2, r3⟩ := k3.cells4; obtain ⟨s0, s1, s2, s3⟩ := k4.cells4
          go_wp2_with fail
          refine (rwith_eq A k _ _ hlt rfl).mono ?_
          rintro e w9 ⟨rfl, hE⟩
          replace k1 := k1.ext hE
          replace k2 := k2.ext hE
          replace k3 := k3.ext hE
          replace k4 := k4.ext hE
          replace hbel := bel_call hbel hE
          clear hE
          clear p0 p1 p2 p3 q0 q1 q2 q3 r0 r1 r2 r3 s0 s1 s2 s3
          obtain ⟨p0, p1, p2, p3⟩ := k1.cells4; obtain ⟨q0, q1, q2, q3⟩ := k2.cells4; obtain ⟨r0, r1, r2, r3⟩ := k3.cells4; obtain ⟨s0, s1, s2, s3⟩ := k4.cells4
          have hfr := k1.free
          go_wp2
          go_roundw
          case rel => exact ⟨k + 1, by omega, by go_num, by rw [HH.out.1]; exact k1.store4 _ _ _ _, k2.other4 (by omega) _ _ _ _, k3.other4 (by omega) _ _ _ _, k4.other4 (by omega) _ _ _ _, bel_set4 hbel (by omega) _ _ _ _⟩
          case measure => simp [intOf]; omega
      | false =>
        have hA' : cut X (k + 1) = A := by rw [hs, ha, ← hA]; simp
        have HH := Lib.hid (And.intro hA' ha)
        clear hA hA' ha hs
        go_wp2_with fail
        refine (rhas_eq a k false _ hlt HH.out.2).mono ?_
        rintro e w9 ⟨rfl, hE⟩
        replace k1 := k1.ext hE
        replace k2 := k2.ext hE
        replace k3 := k3.ext hE
        replace k4 := k4.ext hE
        replace hbel := bel_call hbel hE
        clear hE
        clear p0 p1 p2 p3 q0 q1 q2 q3 r0 r1 r2 r3 s0 s1 s2 s3
        obtain ⟨p0, p1, p2, p3⟩ := k1.cells4; obtain ⟨q0, q1, q2, q3⟩ := k2.cells4; obtain ⟨r0, r1, r2, r3⟩ := k3.cells4; obtain ⟨s0, s1, s2, s3⟩ := k4.cells4
        go_wp2
        go_roundw
        case rel => exact ⟨k + 1, by omega, by go_num, by rw [HH.out.1]; exact k1, k2, k3, k4, hbel⟩
        case measure => simp [intOf]; omega
    · obtain rfl : k = 256 := by omega
      rw [cut_full] at hA
      have hfr := k4.free
      have HA := Lib.hid hA
      clear hA
      go_wp2
      refine bodyPost_ret (v := sv X) ?_ rfl ⟨rfl, by (repeat' (first | (with_reducible exact Below.refl _ _) | (with_reducible assumption) | (with_reducible refine below_drewN ?_ _) | (with_reducible refine Below.alloc ?_ ?_ _) | (with_reducible refine Below.drew ?_) | (with_reducible refine Below.setCell ?_ ?_ _) | (with_reducible refine Below.trans ?_ (Below.mono (by with_reducible assumption) ?_)) | go_size))⟩
      rw [HA.out]
      simp [results, Tryd.results30, go_sem, *]
end Go.Proofs.YtkhmkcaocacfhaaDoor
