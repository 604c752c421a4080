/- The named sets of package class. -/
import Derived.Test.YtnecafokkhhhhaaGreatDoorRdr
import Derived.Test.YtnecafokkhhhhaaGreatDoorMB
namespace Go.Proofs.YtnecafokkhhhhaaGreatDoor
open Go Go.RowKit
def sDigit : BitVec 256 := rng 48 57
def sLower : BitVec 256 := rng 97 122
def sUpper : BitVec 256 := rng 65 90
def sAlpha : BitVec 256 := sLower ||| sUpper
def sAlnum : BitVec 256 := sAlpha ||| sDigit
def sPunct : BitVec 256 := rng 33 126 &&& ~~~sAlnum
theorem rng_at (lo hi : Int) (h0 : 0 ≤ lo) (h1 : lo ≤ 255) (g0 : 0 ≤ hi) (g1 : hi ≤ 255) (w : World) : Calls Tryz.prog 105 #[.int .u8 lo, .int .u8 hi] w fun e w' => e = .returned (sv (rng lo hi)) ∧ Below w.heap.size w w' := range_any lo hi w h0 h1 g0 g1
theorem digit_eq (s : BitVec 256) (h : sDigit = s) (w : World) : Calls Tryz.prog 115 #[] w fun e w' => e = .returned (sv s) ∧ Ext w w' := by
  have hr := fun w => range_any 48 57 w (by omega) (by omega) (by omega) (by omega)
  rw [show rng 48 57 = s from h] at hr
  go_enter Tryz.func115, Tryz.ntmps115
  go_wp2_with fail
  refine (hr _).mono ?_
  rintro e w1 ⟨rfl, hE⟩
  have kZ := (Blk.new w #[.int .u64 0, .int .u64 0, .int .u64 0, .int .u64 0] 36).ext hE
  obtain ⟨z0, z1, z2, z3⟩ := kZ.cells4
  have f0 := kZ.free 0
  have f1 := kZ.free 1
  have f2 := kZ.free 2
  have f3 := kZ.free 3
  obtain ⟨y0, y1, y2, y3⟩ := (kZ.store4 (.int .u64 (wd s 0)) (.int .u64 (wd s 1)) (.int .u64 (wd s 2)) (.int .u64 (wd s 3))).cells4
  go_wp2
  refine bodyPost_ret (v := sv s) ?_ rfl ⟨rfl, by (repeat' (first | (with_reducible exact Below.refl _ _) | (with_reducible assumption) | (with_reducible refine below_drewN ?_ _) | (with_reducible refine Below.alloc ?_ ?_ _) | (with_reducible refine Below.drew ?_) | (with_reducible refine Below.setCell ?_ ?_ _) | (with_reducible refine Below.trans ?_ (Below.mono (by with_reducible assumption) ?_)) | go_size))⟩
  simp [results, Tryz.results115, go_sem, y0, y1, y2, y3]
theorem lower_eq (s : BitVec 256) (h : sLower = s) (w : World) : Calls Tryz.prog 116 #[] w fun e w' => e = .returned (sv s) ∧ Ext w w' := by
  have hr := fun w => range_any 97 122 w (by omega) (by omega) (by omega) (by omega)
  rw [show rng 97 122 = s from h] at hr
  go_enter Tryz.func116, Tryz.ntmps116
  go_wp2_with fail
  refine (hr _).mono ?_
  rintro e w1 ⟨rfl, hE⟩
  have kZ := (Blk.new w #[.int .u64 0, .int .u64 0, .int .u64 0, .int .u64 0] 36).ext hE
  obtain ⟨z0, z1, z2, z3⟩ := kZ.cells4
  have f0 := kZ.free 0
  have f1 := kZ.free 1
  have f2 := kZ.free 2
  have f3 := kZ.free 3
  obtain ⟨y0, y1, y2, y3⟩ := (kZ.store4 (.int .u64 (wd s 0)) (.int .u64 (wd s 1)) (.int .u64 (wd s 2)) (.int .u64 (wd s 3))).cells4
  go_wp2
  refine bodyPost_ret (v := sv s) ?_ rfl ⟨rfl, by (repeat' (first | (with_reducible exact Below.refl _ _) | (with_reducible assumption) | (with_reducible refine below_drewN ?_ _) | (with_reducible refine Below.alloc ?_ ?_ _) | (with_reducible refine Below.drew ?_) | (with_reducible refine Below.setCell ?_ ?_ _) | (with_reducible refine Below.trans ?_ (Below.mono (by with_reducible assumption) ?_)) | go_size))⟩
  simp [results, Tryz.results116, go_sem, y0, y1, y2, y3]
theorem upper_eq (s : BitVec 256) (h : sUpper = s) (w : World) : Calls Tryz.prog 117 #[] w fun e w' => e = .returned (sv s) ∧ Ext w w' := by
  have hr := fun w => range_any 65 90 w (by omega) (by omega) (by omega) (by omega)
  rw [show rng 65 90 = s from h] at hr
  go_enter Tryz.func117, Tryz.ntmps117
  go_wp2_with fail
  refine (hr _).mono ?_
  rintro e w1 ⟨rfl, hE⟩
  have kZ := (Blk.new w #[.int .u64 0, .int .u64 0, .int .u64 0, .int .u64 0] 36).ext hE
  obtain ⟨z0, z1, z2, z3⟩ := kZ.cells4
  have f0 := kZ.free 0
  have f1 := kZ.free 1
  have f2 := kZ.free 2
  have f3 := kZ.free 3
  obtain ⟨y0, y1, y2, y3⟩ := (kZ.store4 (.int .u64 (wd s 0)) (.int .u64 (wd s 1)) (.int .u64 (wd s 2)) (.int .u64 (wd s 3))).cells4
  go_wp2
  refine bodyPost_ret (v := sv s) ?_ rfl ⟨rfl, by (repeat' (first | (with_reducible exact Below.refl _ _) | (with_reducible assumption) | (with_reducible refine below_drewN ?_ _) | (with_reducible refine Below.alloc ?_ ?_ _) | (with_reducible refine Below.drew ?_) | (with_reducible refine Below.setCell ?_ ?_ _) | (with_reducible refine Below.trans ?_ (Below.mono (by with_reducible assumption) ?_)) | go_size))⟩
  simp [results, Tryz.results117, go_sem, y0, y1, y2, y3]
theorem alpha_eq (s : BitVec 256) (h : sAlpha = s) (w : World) : Calls Tryz.prog 118 #[] w fun e w' => e = .returned (sv s) ∧ Ext w w' := by
  obtain ⟨x, hx⟩ : ∃ x : BitVec 256, sLower = x := ⟨_, rfl⟩
  obtain ⟨y, hy⟩ : ∃ y : BitVec 256, sUpper = y := ⟨_, rfl⟩
  have h1 := fun w => lower_eq sLower rfl w
  have h2 := fun w => upper_eq sUpper rfl w
  have h3 := fun w => union_any x y w
  rw [hx] at h1
  rw [hy] at h2
  rw [show (x ||| y) = s from by rw [← h, ← hx, ← hy]; rfl] at h3
  go_enter Tryz.func118, Tryz.ntmps118
  go_wp2_with fail
  refine (h1 _).mono ?_
  rintro e w1 ⟨rfl, hE⟩
  go_wp2_with fail
  refine (h2 _).mono ?_
  rintro e w2 ⟨rfl, hE2⟩
  replace hE := bel_call hE hE2
  go_wp2_with fail
  refine (h3 _).mono ?_
  rintro e w3 ⟨rfl, hE2⟩
  replace hE := bel_call hE hE2
  have kZ := (Blk.new w #[.int .u64 0, .int .u64 0, .int .u64 0, .int .u64 0] 36).ext hE
  obtain ⟨z0, z1, z2, z3⟩ := kZ.cells4
  have f0 := kZ.free 0
  have f1 := kZ.free 1
  have f2 := kZ.free 2
  have f3 := kZ.free 3
  obtain ⟨y0, y1, y2, y3⟩ := (kZ.store4 (.int .u64 (wd s 0)) (.int .u64 (wd s 1)) (.int .u64 (wd s 2)) (.int .u64 (wd s 3))).cells4
  go_wp2
  refine bodyPost_ret (v := sv s) ?_ rfl ⟨rfl, by (repeat' (first | (with_reducible exact Below.refl _ _) | (with_reducible assumption) | (with_reducible refine below_drewN ?_ _) | (with_reducible refine Below.alloc ?_ ?_ _) | (with_reducible refine Below.drew ?_) | (with_reducible refine Below.setCell ?_ ?_ _) | (with_reducible refine Below.trans ?_ (Below.mono (by with_reducible assumption) ?_)) | go_size))⟩
  simp [results, Tryz.results118, go_sem, y0, y1, y2, y3]
theorem alnum_eq (s : BitVec 256) (h : sAlnum = s) (w : World) : Calls Tryz.prog 119 #[] w fun e w' => e = .returned (sv s) ∧ Ext w w' := by
  obtain ⟨x, hx⟩ : ∃ x : BitVec 256, sAlpha = x := ⟨_, rfl⟩
  obtain ⟨y, hy⟩ : ∃ y : BitVec 256, sDigit = y := ⟨_, rfl⟩
  have h1 := fun w => alpha_eq sAlpha rfl w
  have h2 := fun w => digit_eq sDigit rfl w
  have h3 := fun w => union_any x y w
  rw [hx] at h1
  rw [hy] at h2
  rw [show (x ||| y) = s from by rw [← h, ← hx, ← hy]; rfl] at h3
  go_enter Tryz.func119, Tryz.ntmps119
  go_wp2_with fail
  refine (h1 _).mono ?_
  rintro e w1 ⟨rfl, hE⟩
  go_wp2_with fail
  refine (h2 _).mono ?_
  rintro e w2 ⟨rfl, hE2⟩
  replace hE := bel_call hE hE2
  go_wp2_with fail
  refine (h3 _).mono ?_
  rintro e w3 ⟨rfl, hE2⟩
  replace hE := bel_call hE hE2
  have kZ := (Blk.new w #[.int .u64 0, .int .u64 0, .int .u64 0, .int .u64 0] 36).ext hE
  obtain ⟨z0, z1, z2, z3⟩ := kZ.cells4
  have f0 := kZ.free 0
  have f1 := kZ.free 1
  have f2 := kZ.free 2
  have f3 := kZ.free 3
  obtain ⟨y0, y1, y2, y3⟩ := (kZ.store4 (.int .u64 (wd s 0)) (.int .u64 (wd s 1)) (.int .u64 (wd s 2)) (.int .u64 (wd s 3))).cells4
  go_wp2
  refine bodyPost_ret (v := sv s) ?_ rfl ⟨rfl, by (repeat' (first | (with_reducible exact Below.refl _ _) | (with_reducible assumption) | (with_reducible refine below_drewN ?_ _) | (with_reducible refine Below.alloc ?_ ?_ _) | (with_reducible refine Below.drew ?_) | (with_reducible refine Below.setCell ?_ ?_ _) | (with_reducible refine Below.trans ?_ (Below.mono (by with_reducible assumption) ?_)) | go_size))⟩
  simp [results, Tryz.results119, go_sem, y0, y1, y2, y3]
theorem punct_eq (s : BitVec 256) (h : sPunct = s) (w : World) : Calls Tryz.prog 110 #[] w fun e w' => e = .returned (sv s) ∧ Ext w w' := by
  obtain ⟨x, hx⟩ : ∃ x : BitVec 256, (rng 33 126) = x := ⟨_, rfl⟩
  obtain ⟨y, hy⟩ : ∃ y : BitVec 256, sAlnum = y := ⟨_, rfl⟩
  have h1 := fun w => rng_at 33 126 (by omega) (by omega) (by omega) (by omega) w
  have h2 := fun w => alnum_eq sAlnum rfl w
  have h3 := fun w => minus_any x y w
  rw [hx] at h1
  rw [hy] at h2
  rw [show (x &&& ~~~y) = s from by rw [← h, ← hx, ← hy]; rfl] at h3
  go_enter Tryz.func110, Tryz.ntmps110
  go_wp2_with fail
  refine (h1 _).mono ?_
  rintro e w1 ⟨rfl, hE⟩
  go_wp2_with fail
  refine (h2 _).mono ?_
  rintro e w2 ⟨rfl, hE2⟩
  replace hE := bel_call hE hE2
  go_wp2_with fail
  refine (h3 _).mono ?_
  rintro e w3 ⟨rfl, hE2⟩
  replace hE := bel_call hE hE2
  have kZ := (Blk.new w #[.int .u64 0, .int .u64 0, .int .u64 0, .int .u64 0] 36).ext hE
  obtain ⟨z0, z1, z2, z3⟩ := kZ.cells4
  have f0 := kZ.free 0
  have f1 := kZ.free 1
  have f2 := kZ.free 2
  have f3 := kZ.free 3
  obtain ⟨y0, y1, y2, y3⟩ := (kZ.store4 (.int .u64 (wd s 0)) (.int .u64 (wd s 1)) (.int .u64 (wd s 2)) (.int .u64 (wd s 3))).cells4
  go_wp2
  refine bodyPost_ret (v := sv s) ?_ rfl ⟨rfl, by (repeat' (first | (with_reducible exact Below.refl _ _) | (with_reducible assumption) | (with_reducible refine below_drewN ?_ _) | (with_reducible refine Below.alloc ?_ ?_ _) | (with_reducible refine Below.drew ?_) | (with_reducible refine Below.setCell ?_ ?_ _) | (with_reducible refine Below.trans ?_ (Below.mono (by with_reducible assumption) ?_)) | go_size))⟩
  simp [results, Tryz.results110, go_sem, y0, y1, y2, y3]
end Go.Proofs.YtnecafokkhhhhaaGreatDoor
