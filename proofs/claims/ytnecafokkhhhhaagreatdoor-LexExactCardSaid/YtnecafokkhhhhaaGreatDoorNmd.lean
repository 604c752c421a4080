/- The named sets of package class: named. -/
import Derived.Test.YtnecafokkhhhhaaGreatDoorCls
import Derived.Test.YtnecafokkhhhhaaGreatDoorNam
namespace Go.Proofs.YtnecafokkhhhhaaGreatDoor
open Go Go.RowKit
theorem str_eq (t : ByteArray) (l : List UInt8) : (t.toList == l) = decide (t.data.toList = l) := by
  rw [ByteArray.toList_eq]
  by_cases h : t.data.toList = l
  · simp [h]
  · rw [decide_eq_false h]; exact beq_eq_false_iff_ne.2 h
theorem of_lit95 (w : World) (s : BitVec 256) (h : ofl [95] = s) : Calls Tryz.prog 104 #[.slice (some ⟨w.heap.size, 0, none⟩) 1 1] (w.alloc (.cells #[.int .u8 95] 5)) fun e w' => e = .returned (sv s) ∧ Below (w.alloc (.cells #[.int .u8 95] 5)).heap.size (w.alloc (.cells #[.int .u8 95] 5)) w' := by
  subst h
  exact of_any _ [95] _ (bytes_of_blk [95] (Blk.new w _ _) (by decide))
theorem of_lit32 (w : World) (s : BitVec 256) (h : ofl [32] = s) : Calls Tryz.prog 104 #[.slice (some ⟨w.heap.size, 0, none⟩) 1 1] (w.alloc (.cells #[.int .u8 32] 5)) fun e w' => e = .returned (sv s) ∧ Below (w.alloc (.cells #[.int .u8 32] 5)).heap.size (w.alloc (.cells #[.int .u8 32] 5)) w' := by
  subst h
  exact of_any _ [32] _ (bytes_of_blk [32] (Blk.new w _ _) (by decide))
theorem of_lit127 (w : World) (s : BitVec 256) (h : ofl [127] = s) : Calls Tryz.prog 104 #[.slice (some ⟨w.heap.size, 0, none⟩) 1 1] (w.alloc (.cells #[.int .u8 127] 5)) fun e w' => e = .returned (sv s) ∧ Below (w.alloc (.cells #[.int .u8 127] 5)).heap.size (w.alloc (.cells #[.int .u8 127] 5)) w' := by
  subst h
  exact of_any _ [127] _ (bytes_of_blk [127] (Blk.new w _ _) (by decide))
theorem of_lit329 (w : World) (s : BitVec 256) (h : ofl [32, 9] = s) : Calls Tryz.prog 104 #[.slice (some ⟨w.heap.size, 0, none⟩) 2 2] (w.alloc (.cells #[.int .u8 32, .int .u8 9] 5)) fun e w' => e = .returned (sv s) ∧ Below (w.alloc (.cells #[.int .u8 32, .int .u8 9] 5)).heap.size (w.alloc (.cells #[.int .u8 32, .int .u8 9] 5)) w' := by
  subst h
  exact of_any _ [32, 9] _ (bytes_of_blk [32, 9] (Blk.new w _ _) (by decide))
set_option maxHeartbeats 1000000 in
theorem named_digit (t : ByteArray) (hl : t.data.toList = [100, 105, 103, 105, 116]) (s : BitVec 256) (hs : sDigit = s) (w : World) :
    Calls Tryz.prog 107 #[.string t] w fun e w' => e = .returned (.tuple #[sv s, .bool true]) ∧ Ext w w' := by
  have q0 : (t.toList == [100, 105, 103, 105, 116]) = true := by rw [str_eq, hl]; rfl
  clear hl
  have h0 := fun w => digit_eq sDigit rfl w
  rw [show sDigit = s from hs] at h0
  clear hs 
  go_enter Tryz.func107, Tryz.ntmps107
  go_wp2_with fail
  refine (h0 _).mono ?_
  rintro e w1 ⟨rfl, hE1⟩
  have hE := hE1
  clear hE1
  have kZ := (Blk.new w #[.int .u64 0, .int .u64 0, .int .u64 0, .int .u64 0] 36).ext hE
  obtain ⟨z0, z1, z2, z3⟩ := kZ.cells4
  have f0 := kZ.free 0
  have f1 := kZ.free 1
  have f2 := kZ.free 2
  have f3 := kZ.free 3
  obtain ⟨y0, y1, y2, y3⟩ := (kZ.store4 (.int .u64 (wd s 0)) (.int .u64 (wd s 1)) (.int .u64 (wd s 2)) (.int .u64 (wd s 3))).cells4
  go_wp2
  refine bodyPost_ret (v := .tuple #[sv s, .bool true]) ?_ rfl ⟨rfl, by (repeat' (first | (with_reducible exact Below.refl _ _) | (with_reducible assumption) | (with_reducible refine below_drewN ?_ _) | (with_reducible refine Below.alloc ?_ ?_ _) | (with_reducible refine Below.drew ?_) | (with_reducible refine Below.setCell ?_ ?_ _) | (with_reducible refine Below.trans ?_ (Below.mono (by with_reducible assumption) ?_)) | go_size))⟩
  simp [results, Tryz.results107, go_sem, y0, y1, y2, y3]
set_option maxHeartbeats 1000000 in
theorem named_lower (t : ByteArray) (hl : t.data.toList = [108, 111, 119, 101, 114]) (s : BitVec 256) (hs : sLower = s) (w : World) :
    Calls Tryz.prog 107 #[.string t] w fun e w' => e = .returned (.tuple #[sv s, .bool true]) ∧ Ext w w' := by
  have q0 : (t.toList == [100, 105, 103, 105, 116]) = false := by rw [str_eq, hl]; rfl
  have q1 : (t.toList == [108, 111, 119, 101, 114]) = true := by rw [str_eq, hl]; rfl
  clear hl
  have h0 := fun w => lower_eq sLower rfl w
  rw [show sLower = s from hs] at h0
  clear hs 
  go_enter Tryz.func107, Tryz.ntmps107
  go_wp2_with fail
  refine (h0 _).mono ?_
  rintro e w1 ⟨rfl, hE1⟩
  have hE := hE1
  clear hE1
  have kZ := (Blk.new w #[.int .u64 0, .int .u64 0, .int .u64 0, .int .u64 0] 36).ext hE
  obtain ⟨z0, z1, z2, z3⟩ := kZ.cells4
  have f0 := kZ.free 0
  have f1 := kZ.free 1
  have f2 := kZ.free 2
  have f3 := kZ.free 3
  obtain ⟨y0, y1, y2, y3⟩ := (kZ.store4 (.int .u64 (wd s 0)) (.int .u64 (wd s 1)) (.int .u64 (wd s 2)) (.int .u64 (wd s 3))).cells4
  go_wp2
  refine bodyPost_ret (v := .tuple #[sv s, .bool true]) ?_ rfl ⟨rfl, by (repeat' (first | (with_reducible exact Below.refl _ _) | (with_reducible assumption) | (with_reducible refine below_drewN ?_ _) | (with_reducible refine Below.alloc ?_ ?_ _) | (with_reducible refine Below.drew ?_) | (with_reducible refine Below.setCell ?_ ?_ _) | (with_reducible refine Below.trans ?_ (Below.mono (by with_reducible assumption) ?_)) | go_size))⟩
  simp [results, Tryz.results107, go_sem, y0, y1, y2, y3]
set_option maxHeartbeats 1000000 in
theorem named_upper (t : ByteArray) (hl : t.data.toList = [117, 112, 112, 101, 114]) (s : BitVec 256) (hs : sUpper = s) (w : World) :
    Calls Tryz.prog 107 #[.string t] w fun e w' => e = .returned (.tuple #[sv s, .bool true]) ∧ Ext w w' := by
  have q0 : (t.toList == [100, 105, 103, 105, 116]) = false := by rw [str_eq, hl]; rfl
  have q1 : (t.toList == [108, 111, 119, 101, 114]) = false := by rw [str_eq, hl]; rfl
  have q2 : (t.toList == [117, 112, 112, 101, 114]) = true := by rw [str_eq, hl]; rfl
  clear hl
  have h0 := fun w => upper_eq sUpper rfl w
  rw [show sUpper = s from hs] at h0
  clear hs 
  go_enter Tryz.func107, Tryz.ntmps107
  go_wp2_with fail
  refine (h0 _).mono ?_
  rintro e w1 ⟨rfl, hE1⟩
  have hE := hE1
  clear hE1
  have kZ := (Blk.new w #[.int .u64 0, .int .u64 0, .int .u64 0, .int .u64 0] 36).ext hE
  obtain ⟨z0, z1, z2, z3⟩ := kZ.cells4
  have f0 := kZ.free 0
  have f1 := kZ.free 1
  have f2 := kZ.free 2
  have f3 := kZ.free 3
  obtain ⟨y0, y1, y2, y3⟩ := (kZ.store4 (.int .u64 (wd s 0)) (.int .u64 (wd s 1)) (.int .u64 (wd s 2)) (.int .u64 (wd s 3))).cells4
  go_wp2
  refine bodyPost_ret (v := .tuple #[sv s, .bool true]) ?_ rfl ⟨rfl, by (repeat' (first | (with_reducible exact Below.refl _ _) | (with_reducible assumption) | (with_reducible refine below_drewN ?_ _) | (with_reducible refine Below.alloc ?_ ?_ _) | (with_reducible refine Below.drew ?_) | (with_reducible refine Below.setCell ?_ ?_ _) | (with_reducible refine Below.trans ?_ (Below.mono (by with_reducible assumption) ?_)) | go_size))⟩
  simp [results, Tryz.results107, go_sem, y0, y1, y2, y3]
set_option maxHeartbeats 1000000 in
theorem named_alpha (t : ByteArray) (hl : t.data.toList = [97, 108, 112, 104, 97]) (s : BitVec 256) (hs : sAlpha = s) (w : World) :
    Calls Tryz.prog 107 #[.string t] w fun e w' => e = .returned (.tuple #[sv s, .bool true]) ∧ Ext w w' := by
  have q0 : (t.toList == [100, 105, 103, 105, 116]) = false := by rw [str_eq, hl]; rfl
  have q1 : (t.toList == [108, 111, 119, 101, 114]) = false := by rw [str_eq, hl]; rfl
  have q2 : (t.toList == [117, 112, 112, 101, 114]) = false := by rw [str_eq, hl]; rfl
  have q3 : (t.toList == [97, 108, 112, 104, 97]) = true := by rw [str_eq, hl]; rfl
  clear hl
  have h0 := fun w => alpha_eq sAlpha rfl w
  rw [show sAlpha = s from hs] at h0
  clear hs 
  go_enter Tryz.func107, Tryz.ntmps107
  go_wp2_with fail
  refine (h0 _).mono ?_
  rintro e w1 ⟨rfl, hE1⟩
  have hE := hE1
  clear hE1
  have kZ := (Blk.new w #[.int .u64 0, .int .u64 0, .int .u64 0, .int .u64 0] 36).ext hE
  obtain ⟨z0, z1, z2, z3⟩ := kZ.cells4
  have f0 := kZ.free 0
  have f1 := kZ.free 1
  have f2 := kZ.free 2
  have f3 := kZ.free 3
  obtain ⟨y0, y1, y2, y3⟩ := (kZ.store4 (.int .u64 (wd s 0)) (.int .u64 (wd s 1)) (.int .u64 (wd s 2)) (.int .u64 (wd s 3))).cells4
  go_wp2
  refine bodyPost_ret (v := .tuple #[sv s, .bool true]) ?_ rfl ⟨rfl, by (repeat' (first | (with_reducible exact Below.refl _ _) | (with_reducible assumption) | (with_reducible refine below_drewN ?_ _) | (with_reducible refine Below.alloc ?_ ?_ _) | (with_reducible refine Below.drew ?_) | (with_reducible refine Below.setCell ?_ ?_ _) | (with_reducible refine Below.trans ?_ (Below.mono (by with_reducible assumption) ?_)) | go_size))⟩
  simp [results, Tryz.results107, go_sem, y0, y1, y2, y3]
set_option maxHeartbeats 1000000 in
theorem named_alnum (t : ByteArray) (hl : t.data.toList = [97, 108, 110, 117, 109]) (s : BitVec 256) (hs : sAlnum = s) (w : World) :
    Calls Tryz.prog 107 #[.string t] w fun e w' => e = .returned (.tuple #[sv s, .bool true]) ∧ Ext w w' := by
  have q0 : (t.toList == [100, 105, 103, 105, 116]) = false := by rw [str_eq, hl]; rfl
  have q1 : (t.toList == [108, 111, 119, 101, 114]) = false := by rw [str_eq, hl]; rfl
  have q2 : (t.toList == [117, 112, 112, 101, 114]) = false := by rw [str_eq, hl]; rfl
  have q3 : (t.toList == [97, 108, 112, 104, 97]) = false := by rw [str_eq, hl]; rfl
  have q4 : (t.toList == [97, 108, 110, 117, 109]) = true := by rw [str_eq, hl]; rfl
  clear hl
  have h0 := fun w => alnum_eq sAlnum rfl w
  rw [show sAlnum = s from hs] at h0
  clear hs 
  go_enter Tryz.func107, Tryz.ntmps107
  go_wp2_with fail
  refine (h0 _).mono ?_
  rintro e w1 ⟨rfl, hE1⟩
  have hE := hE1
  clear hE1
  have kZ := (Blk.new w #[.int .u64 0, .int .u64 0, .int .u64 0, .int .u64 0] 36).ext hE
  obtain ⟨z0, z1, z2, z3⟩ := kZ.cells4
  have f0 := kZ.free 0
  have f1 := kZ.free 1
  have f2 := kZ.free 2
  have f3 := kZ.free 3
  obtain ⟨y0, y1, y2, y3⟩ := (kZ.store4 (.int .u64 (wd s 0)) (.int .u64 (wd s 1)) (.int .u64 (wd s 2)) (.int .u64 (wd s 3))).cells4
  go_wp2
  refine bodyPost_ret (v := .tuple #[sv s, .bool true]) ?_ rfl ⟨rfl, by (repeat' (first | (with_reducible exact Below.refl _ _) | (with_reducible assumption) | (with_reducible refine below_drewN ?_ _) | (with_reducible refine Below.alloc ?_ ?_ _) | (with_reducible refine Below.drew ?_) | (with_reducible refine Below.setCell ?_ ?_ _) | (with_reducible refine Below.trans ?_ (Below.mono (by with_reducible assumption) ?_)) | go_size))⟩
  simp [results, Tryz.results107, go_sem, y0, y1, y2, y3]
set_option maxHeartbeats 1000000 in
theorem named_word (t : ByteArray) (hl : t.data.toList = [119, 111, 114, 100]) (s : BitVec 256) (hs : sWord = s) (w : World) :
    Calls Tryz.prog 107 #[.string t] w fun e w' => e = .returned (.tuple #[sv s, .bool true]) ∧ Ext w w' := by
  have q0 : (t.toList == [100, 105, 103, 105, 116]) = false := by rw [str_eq, hl]; rfl
  have q1 : (t.toList == [108, 111, 119, 101, 114]) = false := by rw [str_eq, hl]; rfl
  have q2 : (t.toList == [117, 112, 112, 101, 114]) = false := by rw [str_eq, hl]; rfl
  have q3 : (t.toList == [97, 108, 112, 104, 97]) = false := by rw [str_eq, hl]; rfl
  have q4 : (t.toList == [97, 108, 110, 117, 109]) = false := by rw [str_eq, hl]; rfl
  have q5 : (t.toList == [119, 111, 114, 100]) = true := by rw [str_eq, hl]; rfl
  clear hl
  obtain ⟨a0, e0⟩ : ∃ x : BitVec 256, sAlnum = x := ⟨_, rfl⟩
  have h0 := fun w => alnum_eq sAlnum rfl w
  rw [e0] at h0
  obtain ⟨a1, e1⟩ : ∃ x : BitVec 256, ofl [95] = x := ⟨_, rfl⟩
  have h1 := fun w => of_lit95 w a1 e1
  have h2 := fun w => union_any a0 a1 w
  rw [show (a0 ||| a1) = s from by rw [← hs, ← e0, ← e1]; rfl] at h2
  clear hs e0 e1
  go_enter Tryz.func107, Tryz.ntmps107
  go_wp2_with fail
  refine (h0 _).mono ?_
  rintro e w1 ⟨rfl, hE1⟩
  have hE := hE1
  clear hE1
  go_wp2_with fail
  refine (h1 _).mono ?_
  rintro e w2 ⟨rfl, hE2⟩
  replace hE := bel_call (bel_call hE (show Ext w1 _ from by (repeat' (first | (with_reducible exact Below.refl _ _) | (with_reducible assumption) | (with_reducible refine below_drewN ?_ _) | (with_reducible refine Below.alloc ?_ ?_ _) | (with_reducible refine Below.drew ?_) | (with_reducible refine Below.setCell ?_ ?_ _) | (with_reducible refine Below.trans ?_ (Below.mono (by with_reducible assumption) ?_)) | go_size)))) hE2
  clear hE2
  go_wp2_with fail
  refine (h2 _).mono ?_
  rintro e w3 ⟨rfl, hE3⟩
  replace hE := bel_call (bel_call hE (show Ext w2 _ from by (repeat' (first | (with_reducible exact Below.refl _ _) | (with_reducible assumption) | (with_reducible refine below_drewN ?_ _) | (with_reducible refine Below.alloc ?_ ?_ _) | (with_reducible refine Below.drew ?_) | (with_reducible refine Below.setCell ?_ ?_ _) | (with_reducible refine Below.trans ?_ (Below.mono (by with_reducible assumption) ?_)) | go_size)))) hE3
  clear hE3
  have kZ := (Blk.new w #[.int .u64 0, .int .u64 0, .int .u64 0, .int .u64 0] 36).ext hE
  obtain ⟨z0, z1, z2, z3⟩ := kZ.cells4
  have f0 := kZ.free 0
  have f1 := kZ.free 1
  have f2 := kZ.free 2
  have f3 := kZ.free 3
  obtain ⟨y0, y1, y2, y3⟩ := (kZ.store4 (.int .u64 (wd s 0)) (.int .u64 (wd s 1)) (.int .u64 (wd s 2)) (.int .u64 (wd s 3))).cells4
  go_wp2
  refine bodyPost_ret (v := .tuple #[sv s, .bool true]) ?_ rfl ⟨rfl, by (repeat' (first | (with_reducible exact Below.refl _ _) | (with_reducible assumption) | (with_reducible refine below_drewN ?_ _) | (with_reducible refine Below.alloc ?_ ?_ _) | (with_reducible refine Below.drew ?_) | (with_reducible refine Below.setCell ?_ ?_ _) | (with_reducible refine Below.trans ?_ (Below.mono (by with_reducible assumption) ?_)) | go_size))⟩
  simp [results, Tryz.results107, go_sem, y0, y1, y2, y3]
set_option maxHeartbeats 1000000 in
theorem named_xdigit (t : ByteArray) (hl : t.data.toList = [120, 100, 105, 103, 105, 116]) (s : BitVec 256) (hs : sXdigit = s) (w : World) :
    Calls Tryz.prog 107 #[.string t] w fun e w' => e = .returned (.tuple #[sv s, .bool true]) ∧ Ext w w' := by
  have q0 : (t.toList == [100, 105, 103, 105, 116]) = false := by rw [str_eq, hl]; rfl
  have q1 : (t.toList == [108, 111, 119, 101, 114]) = false := by rw [str_eq, hl]; rfl
  have q2 : (t.toList == [117, 112, 112, 101, 114]) = false := by rw [str_eq, hl]; rfl
  have q3 : (t.toList == [97, 108, 112, 104, 97]) = false := by rw [str_eq, hl]; rfl
  have q4 : (t.toList == [97, 108, 110, 117, 109]) = false := by rw [str_eq, hl]; rfl
  have q5 : (t.toList == [119, 111, 114, 100]) = false := by rw [str_eq, hl]; rfl
  have q6 : (t.toList == [120, 100, 105, 103, 105, 116]) = true := by rw [str_eq, hl]; rfl
  clear hl
  obtain ⟨a0, e0⟩ : ∃ x : BitVec 256, sDigit = x := ⟨_, rfl⟩
  have h0 := fun w => digit_eq sDigit rfl w
  rw [e0] at h0
  obtain ⟨a1, e1⟩ : ∃ x : BitVec 256, rng 97 102 = x := ⟨_, rfl⟩
  have h1 := fun w => rng_at 97 102 (by omega) (by omega) (by omega) (by omega) w
  rw [e1] at h1
  obtain ⟨a2, e2⟩ : ∃ x : BitVec 256, rng 65 70 = x := ⟨_, rfl⟩
  have h2 := fun w => rng_at 65 70 (by omega) (by omega) (by omega) (by omega) w
  rw [e2] at h2
  obtain ⟨a3, e3⟩ : ∃ x : BitVec 256, (a1 ||| a2) = x := ⟨_, rfl⟩
  have h3 := fun w => union_any a1 a2 w
  rw [e3] at h3
  have h4 := fun w => union_any a0 a3 w
  rw [show (a0 ||| a3) = s from by rw [← hs, ← e3, ← e2, ← e1, ← e0]; rfl] at h4
  clear hs e0 e1 e2 e3
  go_enter Tryz.func107, Tryz.ntmps107
  go_wp2_with fail
  refine (h0 _).mono ?_
  rintro e w1 ⟨rfl, hE1⟩
  have hE := hE1
  clear hE1
  go_wp2_with fail
  refine (h1 _).mono ?_
  rintro e w2 ⟨rfl, hE2⟩
  replace hE := bel_call (bel_call hE (show Ext w1 _ from by (repeat' (first | (with_reducible exact Below.refl _ _) | (with_reducible assumption) | (with_reducible refine below_drewN ?_ _) | (with_reducible refine Below.alloc ?_ ?_ _) | (with_reducible refine Below.drew ?_) | (with_reducible refine Below.setCell ?_ ?_ _) | (with_reducible refine Below.trans ?_ (Below.mono (by with_reducible assumption) ?_)) | go_size)))) hE2
  clear hE2
  go_wp2_with fail
  refine (h2 _).mono ?_
  rintro e w3 ⟨rfl, hE3⟩
  replace hE := bel_call (bel_call hE (show Ext w2 _ from by (repeat' (first | (with_reducible exact Below.refl _ _) | (with_reducible assumption) | (with_reducible refine below_drewN ?_ _) | (with_reducible refine Below.alloc ?_ ?_ _) | (with_reducible refine Below.drew ?_) | (with_reducible refine Below.setCell ?_ ?_ _) | (with_reducible refine Below.trans ?_ (Below.mono (by with_reducible assumption) ?_)) | go_size)))) hE3
  clear hE3
  go_wp2_with fail
  refine (h3 _).mono ?_
  rintro e w4 ⟨rfl, hE4⟩
  replace hE := bel_call (bel_call hE (show Ext w3 _ from by (repeat' (first | (with_reducible exact Below.refl _ _) | (with_reducible assumption) | (with_reducible refine below_drewN ?_ _) | (with_reducible refine Below.alloc ?_ ?_ _) | (with_reducible refine Below.drew ?_) | (with_reducible refine Below.setCell ?_ ?_ _) | (with_reducible refine Below.trans ?_ (Below.mono (by with_reducible assumption) ?_)) | go_size)))) hE4
  clear hE4
  go_wp2_with fail
  refine (h4 _).mono ?_
  rintro e w5 ⟨rfl, hE5⟩
  replace hE := bel_call (bel_call hE (show Ext w4 _ from by (repeat' (first | (with_reducible exact Below.refl _ _) | (with_reducible assumption) | (with_reducible refine below_drewN ?_ _) | (with_reducible refine Below.alloc ?_ ?_ _) | (with_reducible refine Below.drew ?_) | (with_reducible refine Below.setCell ?_ ?_ _) | (with_reducible refine Below.trans ?_ (Below.mono (by with_reducible assumption) ?_)) | go_size)))) hE5
  clear hE5
  have kZ := (Blk.new w #[.int .u64 0, .int .u64 0, .int .u64 0, .int .u64 0] 36).ext hE
  obtain ⟨z0, z1, z2, z3⟩ := kZ.cells4
  have f0 := kZ.free 0
  have f1 := kZ.free 1
  have f2 := kZ.free 2
  have f3 := kZ.free 3
  obtain ⟨y0, y1, y2, y3⟩ := (kZ.store4 (.int .u64 (wd s 0)) (.int .u64 (wd s 1)) (.int .u64 (wd s 2)) (.int .u64 (wd s 3))).cells4
  go_wp2
  refine bodyPost_ret (v := .tuple #[sv s, .bool true]) ?_ rfl ⟨rfl, by (repeat' (first | (with_reducible exact Below.refl _ _) | (with_reducible assumption) | (with_reducible refine below_drewN ?_ _) | (with_reducible refine Below.alloc ?_ ?_ _) | (with_reducible refine Below.drew ?_) | (with_reducible refine Below.setCell ?_ ?_ _) | (with_reducible refine Below.trans ?_ (Below.mono (by with_reducible assumption) ?_)) | go_size))⟩
  simp [results, Tryz.results107, go_sem, y0, y1, y2, y3]
set_option maxHeartbeats 1000000 in
theorem named_blank (t : ByteArray) (hl : t.data.toList = [98, 108, 97, 110, 107]) (s : BitVec 256) (hs : sBlank = s) (w : World) :
    Calls Tryz.prog 107 #[.string t] w fun e w' => e = .returned (.tuple #[sv s, .bool true]) ∧ Ext w w' := by
  have q0 : (t.toList == [100, 105, 103, 105, 116]) = false := by rw [str_eq, hl]; rfl
  have q1 : (t.toList == [108, 111, 119, 101, 114]) = false := by rw [str_eq, hl]; rfl
  have q2 : (t.toList == [117, 112, 112, 101, 114]) = false := by rw [str_eq, hl]; rfl
  have q3 : (t.toList == [97, 108, 112, 104, 97]) = false := by rw [str_eq, hl]; rfl
  have q4 : (t.toList == [97, 108, 110, 117, 109]) = false := by rw [str_eq, hl]; rfl
  have q5 : (t.toList == [119, 111, 114, 100]) = false := by rw [str_eq, hl]; rfl
  have q6 : (t.toList == [120, 100, 105, 103, 105, 116]) = false := by rw [str_eq, hl]; rfl
  have q7 : (t.toList == [98, 108, 97, 110, 107]) = true := by rw [str_eq, hl]; rfl
  clear hl
  have h0 := of_lit329 (w.alloc (.cells #[.int .u64 0, .int .u64 0, .int .u64 0, .int .u64 0] 36)) s hs
  rw [show (w.alloc (.cells #[.int .u64 0, .int .u64 0, .int .u64 0, .int .u64 0] 36)).heap.size = w.heap.size + 1 by simp] at h0
  clear hs 
  go_enter Tryz.func107, Tryz.ntmps107
  go_wp2_with fail
  refine h0.mono ?_
  rintro e w1 ⟨rfl, hE1⟩
  have hE : Ext (w.alloc (.cells #[.int .u64 0, .int .u64 0, .int .u64 0, .int .u64 0] 36)) w1 := bel_call (show Ext _ _ from by (repeat' (first | (with_reducible exact Below.refl _ _) | (with_reducible assumption) | (with_reducible refine below_drewN ?_ _) | (with_reducible refine Below.alloc ?_ ?_ _) | (with_reducible refine Below.drew ?_) | (with_reducible refine Below.setCell ?_ ?_ _) | (with_reducible refine Below.trans ?_ (Below.mono (by with_reducible assumption) ?_)) | go_size))) hE1
  clear hE1
  have kZ := (Blk.new w #[.int .u64 0, .int .u64 0, .int .u64 0, .int .u64 0] 36).ext hE
  obtain ⟨z0, z1, z2, z3⟩ := kZ.cells4
  have f0 := kZ.free 0
  have f1 := kZ.free 1
  have f2 := kZ.free 2
  have f3 := kZ.free 3
  obtain ⟨y0, y1, y2, y3⟩ := (kZ.store4 (.int .u64 (wd s 0)) (.int .u64 (wd s 1)) (.int .u64 (wd s 2)) (.int .u64 (wd s 3))).cells4
  go_wp2
  refine bodyPost_ret (v := .tuple #[sv s, .bool true]) ?_ rfl ⟨rfl, by (repeat' (first | (with_reducible exact Below.refl _ _) | (with_reducible assumption) | (with_reducible refine below_drewN ?_ _) | (with_reducible refine Below.alloc ?_ ?_ _) | (with_reducible refine Below.drew ?_) | (with_reducible refine Below.setCell ?_ ?_ _) | (with_reducible refine Below.trans ?_ (Below.mono (by with_reducible assumption) ?_)) | go_size))⟩
  simp [results, Tryz.results107, go_sem, y0, y1, y2, y3]
set_option maxHeartbeats 1000000 in
theorem named_space (t : ByteArray) (hl : t.data.toList = [115, 112, 97, 99, 101]) (s : BitVec 256) (hs : sSpace = s) (w : World) :
    Calls Tryz.prog 107 #[.string t] w fun e w' => e = .returned (.tuple #[sv s, .bool true]) ∧ Ext w w' := by
  have q0 : (t.toList == [100, 105, 103, 105, 116]) = false := by rw [str_eq, hl]; rfl
  have q1 : (t.toList == [108, 111, 119, 101, 114]) = false := by rw [str_eq, hl]; rfl
  have q2 : (t.toList == [117, 112, 112, 101, 114]) = false := by rw [str_eq, hl]; rfl
  have q3 : (t.toList == [97, 108, 112, 104, 97]) = false := by rw [str_eq, hl]; rfl
  have q4 : (t.toList == [97, 108, 110, 117, 109]) = false := by rw [str_eq, hl]; rfl
  have q5 : (t.toList == [119, 111, 114, 100]) = false := by rw [str_eq, hl]; rfl
  have q6 : (t.toList == [120, 100, 105, 103, 105, 116]) = false := by rw [str_eq, hl]; rfl
  have q7 : (t.toList == [98, 108, 97, 110, 107]) = false := by rw [str_eq, hl]; rfl
  have q8 : (t.toList == [115, 112, 97, 99, 101]) = true := by rw [str_eq, hl]; rfl
  clear hl
  obtain ⟨a0, e0⟩ : ∃ x : BitVec 256, rng 9 13 = x := ⟨_, rfl⟩
  have h0 := fun w => rng_at 9 13 (by omega) (by omega) (by omega) (by omega) w
  rw [e0] at h0
  obtain ⟨a1, e1⟩ : ∃ x : BitVec 256, ofl [32] = x := ⟨_, rfl⟩
  have h1 := fun w => of_lit32 w a1 e1
  have h2 := fun w => union_any a0 a1 w
  rw [show (a0 ||| a1) = s from by rw [← hs, ← e0, ← e1]; rfl] at h2
  clear hs e0 e1
  go_enter Tryz.func107, Tryz.ntmps107
  go_wp2_with fail
  refine (h0 _).mono ?_
  rintro e w1 ⟨rfl, hE1⟩
  have hE := hE1
  clear hE1
  go_wp2_with fail
  refine (h1 _).mono ?_
  rintro e w2 ⟨rfl, hE2⟩
  replace hE := bel_call (bel_call hE (show Ext w1 _ from by (repeat' (first | (with_reducible exact Below.refl _ _) | (with_reducible assumption) | (with_reducible refine below_drewN ?_ _) | (with_reducible refine Below.alloc ?_ ?_ _) | (with_reducible refine Below.drew ?_) | (with_reducible refine Below.setCell ?_ ?_ _) | (with_reducible refine Below.trans ?_ (Below.mono (by with_reducible assumption) ?_)) | go_size)))) hE2
  clear hE2
  go_wp2_with fail
  refine (h2 _).mono ?_
  rintro e w3 ⟨rfl, hE3⟩
  replace hE := bel_call (bel_call hE (show Ext w2 _ from by (repeat' (first | (with_reducible exact Below.refl _ _) | (with_reducible assumption) | (with_reducible refine below_drewN ?_ _) | (with_reducible refine Below.alloc ?_ ?_ _) | (with_reducible refine Below.drew ?_) | (with_reducible refine Below.setCell ?_ ?_ _) | (with_reducible refine Below.trans ?_ (Below.mono (by with_reducible assumption) ?_)) | go_size)))) hE3
  clear hE3
  have kZ := (Blk.new w #[.int .u64 0, .int .u64 0, .int .u64 0, .int .u64 0] 36).ext hE
  obtain ⟨z0, z1, z2, z3⟩ := kZ.cells4
  have f0 := kZ.free 0
  have f1 := kZ.free 1
  have f2 := kZ.free 2
  have f3 := kZ.free 3
  obtain ⟨y0, y1, y2, y3⟩ := (kZ.store4 (.int .u64 (wd s 0)) (.int .u64 (wd s 1)) (.int .u64 (wd s 2)) (.int .u64 (wd s 3))).cells4
  go_wp2
  refine bodyPost_ret (v := .tuple #[sv s, .bool true]) ?_ rfl ⟨rfl, by (repeat' (first | (with_reducible exact Below.refl _ _) | (with_reducible assumption) | (with_reducible refine below_drewN ?_ _) | (with_reducible refine Below.alloc ?_ ?_ _) | (with_reducible refine Below.drew ?_) | (with_reducible refine Below.setCell ?_ ?_ _) | (with_reducible refine Below.trans ?_ (Below.mono (by with_reducible assumption) ?_)) | go_size))⟩
  simp [results, Tryz.results107, go_sem, y0, y1, y2, y3]
set_option maxHeartbeats 1000000 in
theorem named_punct (t : ByteArray) (hl : t.data.toList = [112, 117, 110, 99, 116]) (s : BitVec 256) (hs : sPunct = s) (w : World) :
    Calls Tryz.prog 107 #[.string t] w fun e w' => e = .returned (.tuple #[sv s, .bool true]) ∧ Ext w w' := by
  have q0 : (t.toList == [100, 105, 103, 105, 116]) = false := by rw [str_eq, hl]; rfl
  have q1 : (t.toList == [108, 111, 119, 101, 114]) = false := by rw [str_eq, hl]; rfl
  have q2 : (t.toList == [117, 112, 112, 101, 114]) = false := by rw [str_eq, hl]; rfl
  have q3 : (t.toList == [97, 108, 112, 104, 97]) = false := by rw [str_eq, hl]; rfl
  have q4 : (t.toList == [97, 108, 110, 117, 109]) = false := by rw [str_eq, hl]; rfl
  have q5 : (t.toList == [119, 111, 114, 100]) = false := by rw [str_eq, hl]; rfl
  have q6 : (t.toList == [120, 100, 105, 103, 105, 116]) = false := by rw [str_eq, hl]; rfl
  have q7 : (t.toList == [98, 108, 97, 110, 107]) = false := by rw [str_eq, hl]; rfl
  have q8 : (t.toList == [115, 112, 97, 99, 101]) = false := by rw [str_eq, hl]; rfl
  have q9 : (t.toList == [112, 117, 110, 99, 116]) = true := by rw [str_eq, hl]; rfl
  clear hl
  have h0 := fun w => punct_eq sPunct rfl w
  rw [show sPunct = s from hs] at h0
  clear hs 
  go_enter Tryz.func107, Tryz.ntmps107
  go_wp2_with fail
  refine (h0 _).mono ?_
  rintro e w1 ⟨rfl, hE1⟩
  have hE := hE1
  clear hE1
  have kZ := (Blk.new w #[.int .u64 0, .int .u64 0, .int .u64 0, .int .u64 0] 36).ext hE
  obtain ⟨z0, z1, z2, z3⟩ := kZ.cells4
  have f0 := kZ.free 0
  have f1 := kZ.free 1
  have f2 := kZ.free 2
  have f3 := kZ.free 3
  obtain ⟨y0, y1, y2, y3⟩ := (kZ.store4 (.int .u64 (wd s 0)) (.int .u64 (wd s 1)) (.int .u64 (wd s 2)) (.int .u64 (wd s 3))).cells4
  go_wp2
  refine bodyPost_ret (v := .tuple #[sv s, .bool true]) ?_ rfl ⟨rfl, by (repeat' (first | (with_reducible exact Below.refl _ _) | (with_reducible assumption) | (with_reducible refine below_drewN ?_ _) | (with_reducible refine Below.alloc ?_ ?_ _) | (with_reducible refine Below.drew ?_) | (with_reducible refine Below.setCell ?_ ?_ _) | (with_reducible refine Below.trans ?_ (Below.mono (by with_reducible assumption) ?_)) | go_size))⟩
  simp [results, Tryz.results107, go_sem, y0, y1, y2, y3]
set_option maxHeartbeats 1000000 in
theorem named_print (t : ByteArray) (hl : t.data.toList = [112, 114, 105, 110, 116]) (s : BitVec 256) (hs : sPrint = s) (w : World) :
    Calls Tryz.prog 107 #[.string t] w fun e w' => e = .returned (.tuple #[sv s, .bool true]) ∧ Ext w w' := by
  have q0 : (t.toList == [100, 105, 103, 105, 116]) = false := by rw [str_eq, hl]; rfl
  have q1 : (t.toList == [108, 111, 119, 101, 114]) = false := by rw [str_eq, hl]; rfl
  have q2 : (t.toList == [117, 112, 112, 101, 114]) = false := by rw [str_eq, hl]; rfl
  have q3 : (t.toList == [97, 108, 112, 104, 97]) = false := by rw [str_eq, hl]; rfl
  have q4 : (t.toList == [97, 108, 110, 117, 109]) = false := by rw [str_eq, hl]; rfl
  have q5 : (t.toList == [119, 111, 114, 100]) = false := by rw [str_eq, hl]; rfl
  have q6 : (t.toList == [120, 100, 105, 103, 105, 116]) = false := by rw [str_eq, hl]; rfl
  have q7 : (t.toList == [98, 108, 97, 110, 107]) = false := by rw [str_eq, hl]; rfl
  have q8 : (t.toList == [115, 112, 97, 99, 101]) = false := by rw [str_eq, hl]; rfl
  have q9 : (t.toList == [112, 117, 110, 99, 116]) = false := by rw [str_eq, hl]; rfl
  have q10 : (t.toList == [112, 114, 105, 110, 116]) = true := by rw [str_eq, hl]; rfl
  clear hl
  have h0 := fun w => rng_at 32 126 (by omega) (by omega) (by omega) (by omega) w
  rw [show rng 32 126 = s from hs] at h0
  clear hs 
  go_enter Tryz.func107, Tryz.ntmps107
  go_wp2_with fail
  refine (h0 _).mono ?_
  rintro e w1 ⟨rfl, hE1⟩
  have hE := hE1
  clear hE1
  have kZ := (Blk.new w #[.int .u64 0, .int .u64 0, .int .u64 0, .int .u64 0] 36).ext hE
  obtain ⟨z0, z1, z2, z3⟩ := kZ.cells4
  have f0 := kZ.free 0
  have f1 := kZ.free 1
  have f2 := kZ.free 2
  have f3 := kZ.free 3
  obtain ⟨y0, y1, y2, y3⟩ := (kZ.store4 (.int .u64 (wd s 0)) (.int .u64 (wd s 1)) (.int .u64 (wd s 2)) (.int .u64 (wd s 3))).cells4
  go_wp2
  refine bodyPost_ret (v := .tuple #[sv s, .bool true]) ?_ rfl ⟨rfl, by (repeat' (first | (with_reducible exact Below.refl _ _) | (with_reducible assumption) | (with_reducible refine below_drewN ?_ _) | (with_reducible refine Below.alloc ?_ ?_ _) | (with_reducible refine Below.drew ?_) | (with_reducible refine Below.setCell ?_ ?_ _) | (with_reducible refine Below.trans ?_ (Below.mono (by with_reducible assumption) ?_)) | go_size))⟩
  simp [results, Tryz.results107, go_sem, y0, y1, y2, y3]
set_option maxHeartbeats 1000000 in
theorem named_cntrl (t : ByteArray) (hl : t.data.toList = [99, 110, 116, 114, 108]) (s : BitVec 256) (hs : sCntrl = s) (w : World) :
    Calls Tryz.prog 107 #[.string t] w fun e w' => e = .returned (.tuple #[sv s, .bool true]) ∧ Ext w w' := by
  have q0 : (t.toList == [100, 105, 103, 105, 116]) = false := by rw [str_eq, hl]; rfl
  have q1 : (t.toList == [108, 111, 119, 101, 114]) = false := by rw [str_eq, hl]; rfl
  have q2 : (t.toList == [117, 112, 112, 101, 114]) = false := by rw [str_eq, hl]; rfl
  have q3 : (t.toList == [97, 108, 112, 104, 97]) = false := by rw [str_eq, hl]; rfl
  have q4 : (t.toList == [97, 108, 110, 117, 109]) = false := by rw [str_eq, hl]; rfl
  have q5 : (t.toList == [119, 111, 114, 100]) = false := by rw [str_eq, hl]; rfl
  have q6 : (t.toList == [120, 100, 105, 103, 105, 116]) = false := by rw [str_eq, hl]; rfl
  have q7 : (t.toList == [98, 108, 97, 110, 107]) = false := by rw [str_eq, hl]; rfl
  have q8 : (t.toList == [115, 112, 97, 99, 101]) = false := by rw [str_eq, hl]; rfl
  have q9 : (t.toList == [112, 117, 110, 99, 116]) = false := by rw [str_eq, hl]; rfl
  have q10 : (t.toList == [112, 114, 105, 110, 116]) = false := by rw [str_eq, hl]; rfl
  have q11 : (t.toList == [99, 110, 116, 114, 108]) = true := by rw [str_eq, hl]; rfl
  clear hl
  obtain ⟨a0, e0⟩ : ∃ x : BitVec 256, rng 0 31 = x := ⟨_, rfl⟩
  have h0 := fun w => rng_at 0 31 (by omega) (by omega) (by omega) (by omega) w
  rw [e0] at h0
  obtain ⟨a1, e1⟩ : ∃ x : BitVec 256, ofl [127] = x := ⟨_, rfl⟩
  have h1 := fun w => of_lit127 w a1 e1
  have h2 := fun w => union_any a0 a1 w
  rw [show (a0 ||| a1) = s from by rw [← hs, ← e0, ← e1]; rfl] at h2
  clear hs e0 e1
  go_enter Tryz.func107, Tryz.ntmps107
  go_wp2_with fail
  refine (h0 _).mono ?_
  rintro e w1 ⟨rfl, hE1⟩
  have hE := hE1
  clear hE1
  go_wp2_with fail
  refine (h1 _).mono ?_
  rintro e w2 ⟨rfl, hE2⟩
  replace hE := bel_call (bel_call hE (show Ext w1 _ from by (repeat' (first | (with_reducible exact Below.refl _ _) | (with_reducible assumption) | (with_reducible refine below_drewN ?_ _) | (with_reducible refine Below.alloc ?_ ?_ _) | (with_reducible refine Below.drew ?_) | (with_reducible refine Below.setCell ?_ ?_ _) | (with_reducible refine Below.trans ?_ (Below.mono (by with_reducible assumption) ?_)) | go_size)))) hE2
  clear hE2
  go_wp2_with fail
  refine (h2 _).mono ?_
  rintro e w3 ⟨rfl, hE3⟩
  replace hE := bel_call (bel_call hE (show Ext w2 _ from by (repeat' (first | (with_reducible exact Below.refl _ _) | (with_reducible assumption) | (with_reducible refine below_drewN ?_ _) | (with_reducible refine Below.alloc ?_ ?_ _) | (with_reducible refine Below.drew ?_) | (with_reducible refine Below.setCell ?_ ?_ _) | (with_reducible refine Below.trans ?_ (Below.mono (by with_reducible assumption) ?_)) | go_size)))) hE3
  clear hE3
  have kZ := (Blk.new w #[.int .u64 0, .int .u64 0, .int .u64 0, .int .u64 0] 36).ext hE
  obtain ⟨z0, z1, z2, z3⟩ := kZ.cells4
  have f0 := kZ.free 0
  have f1 := kZ.free 1
  have f2 := kZ.free 2
  have f3 := kZ.free 3
  obtain ⟨y0, y1, y2, y3⟩ := (kZ.store4 (.int .u64 (wd s 0)) (.int .u64 (wd s 1)) (.int .u64 (wd s 2)) (.int .u64 (wd s 3))).cells4
  go_wp2
  refine bodyPost_ret (v := .tuple #[sv s, .bool true]) ?_ rfl ⟨rfl, by (repeat' (first | (with_reducible exact Below.refl _ _) | (with_reducible assumption) | (with_reducible refine below_drewN ?_ _) | (with_reducible refine Below.alloc ?_ ?_ _) | (with_reducible refine Below.drew ?_) | (with_reducible refine Below.setCell ?_ ?_ _) | (with_reducible refine Below.trans ?_ (Below.mono (by with_reducible assumption) ?_)) | go_size))⟩
  simp [results, Tryz.results107, go_sem, y0, y1, y2, y3]
set_option maxHeartbeats 1000000 in
theorem named_any (t : ByteArray) (hl : t.data.toList = [97, 110, 121]) (s : BitVec 256) (hs : sAny = s) (w : World) :
    Calls Tryz.prog 107 #[.string t] w fun e w' => e = .returned (.tuple #[sv s, .bool true]) ∧ Ext w w' := by
  have q0 : (t.toList == [100, 105, 103, 105, 116]) = false := by rw [str_eq, hl]; rfl
  have q1 : (t.toList == [108, 111, 119, 101, 114]) = false := by rw [str_eq, hl]; rfl
  have q2 : (t.toList == [117, 112, 112, 101, 114]) = false := by rw [str_eq, hl]; rfl
  have q3 : (t.toList == [97, 108, 112, 104, 97]) = false := by rw [str_eq, hl]; rfl
  have q4 : (t.toList == [97, 108, 110, 117, 109]) = false := by rw [str_eq, hl]; rfl
  have q5 : (t.toList == [119, 111, 114, 100]) = false := by rw [str_eq, hl]; rfl
  have q6 : (t.toList == [120, 100, 105, 103, 105, 116]) = false := by rw [str_eq, hl]; rfl
  have q7 : (t.toList == [98, 108, 97, 110, 107]) = false := by rw [str_eq, hl]; rfl
  have q8 : (t.toList == [115, 112, 97, 99, 101]) = false := by rw [str_eq, hl]; rfl
  have q9 : (t.toList == [112, 117, 110, 99, 116]) = false := by rw [str_eq, hl]; rfl
  have q10 : (t.toList == [112, 114, 105, 110, 116]) = false := by rw [str_eq, hl]; rfl
  have q11 : (t.toList == [99, 110, 116, 114, 108]) = false := by rw [str_eq, hl]; rfl
  have q12 : (t.toList == [97, 110, 121]) = true := by rw [str_eq, hl]; rfl
  clear hl
  have h0 := fun w => all_any w
  rw [show full = s from hs] at h0
  clear hs 
  go_enter Tryz.func107, Tryz.ntmps107
  go_wp2_with fail
  refine (h0 _).mono ?_
  rintro e w1 ⟨rfl, hE1⟩
  have hE := hE1
  clear hE1
  have kZ := (Blk.new w #[.int .u64 0, .int .u64 0, .int .u64 0, .int .u64 0] 36).ext hE
  obtain ⟨z0, z1, z2, z3⟩ := kZ.cells4
  have f0 := kZ.free 0
  have f1 := kZ.free 1
  have f2 := kZ.free 2
  have f3 := kZ.free 3
  obtain ⟨y0, y1, y2, y3⟩ := (kZ.store4 (.int .u64 (wd s 0)) (.int .u64 (wd s 1)) (.int .u64 (wd s 2)) (.int .u64 (wd s 3))).cells4
  go_wp2
  refine bodyPost_ret (v := .tuple #[sv s, .bool true]) ?_ rfl ⟨rfl, by (repeat' (first | (with_reducible exact Below.refl _ _) | (with_reducible assumption) | (with_reducible refine below_drewN ?_ _) | (with_reducible refine Below.alloc ?_ ?_ _) | (with_reducible refine Below.drew ?_) | (with_reducible refine Below.setCell ?_ ?_ _) | (with_reducible refine Below.trans ?_ (Below.mono (by with_reducible assumption) ?_)) | go_size))⟩
  simp [results, Tryz.results107, go_sem, y0, y1, y2, y3]
set_option maxHeartbeats 1000000 in
theorem named_none (t : ByteArray) (h0 : ¬ t.data.toList = [100, 105, 103, 105, 116]) (h1 : ¬ t.data.toList = [108, 111, 119, 101, 114]) (h2 : ¬ t.data.toList = [117, 112, 112, 101, 114]) (h3 : ¬ t.data.toList = [97, 108, 112, 104, 97]) (h4 : ¬ t.data.toList = [97, 108, 110, 117, 109]) (h5 : ¬ t.data.toList = [119, 111, 114, 100]) (h6 : ¬ t.data.toList = [120, 100, 105, 103, 105, 116]) (h7 : ¬ t.data.toList = [98, 108, 97, 110, 107]) (h8 : ¬ t.data.toList = [115, 112, 97, 99, 101]) (h9 : ¬ t.data.toList = [112, 117, 110, 99, 116]) (h10 : ¬ t.data.toList = [112, 114, 105, 110, 116]) (h11 : ¬ t.data.toList = [99, 110, 116, 114, 108]) (h12 : ¬ t.data.toList = [97, 110, 121]) (w : World) :
    Calls Tryz.prog 107 #[.string t] w fun e w' => e = .returned (.tuple #[sv0, .bool false]) ∧ Ext w w' := by
  have q0 : (t.toList == [100, 105, 103, 105, 116]) = false := by rw [str_eq]; exact decide_eq_false h0
  have q1 : (t.toList == [108, 111, 119, 101, 114]) = false := by rw [str_eq]; exact decide_eq_false h1
  have q2 : (t.toList == [117, 112, 112, 101, 114]) = false := by rw [str_eq]; exact decide_eq_false h2
  have q3 : (t.toList == [97, 108, 112, 104, 97]) = false := by rw [str_eq]; exact decide_eq_false h3
  have q4 : (t.toList == [97, 108, 110, 117, 109]) = false := by rw [str_eq]; exact decide_eq_false h4
  have q5 : (t.toList == [119, 111, 114, 100]) = false := by rw [str_eq]; exact decide_eq_false h5
  have q6 : (t.toList == [120, 100, 105, 103, 105, 116]) = false := by rw [str_eq]; exact decide_eq_false h6
  have q7 : (t.toList == [98, 108, 97, 110, 107]) = false := by rw [str_eq]; exact decide_eq_false h7
  have q8 : (t.toList == [115, 112, 97, 99, 101]) = false := by rw [str_eq]; exact decide_eq_false h8
  have q9 : (t.toList == [112, 117, 110, 99, 116]) = false := by rw [str_eq]; exact decide_eq_false h9
  have q10 : (t.toList == [112, 114, 105, 110, 116]) = false := by rw [str_eq]; exact decide_eq_false h10
  have q11 : (t.toList == [99, 110, 116, 114, 108]) = false := by rw [str_eq]; exact decide_eq_false h11
  have q12 : (t.toList == [97, 110, 121]) = false := by rw [str_eq]; exact decide_eq_false h12
  clear h0 h1 h2 h3 h4 h5 h6 h7 h8 h9 h10 h11 h12
  go_enter Tryz.func107, Tryz.ntmps107
  go_wp2
  refine bodyPost_ret (v := .tuple #[sv0, .bool false]) ?_ rfl ⟨rfl, by (repeat' (first | (with_reducible exact Below.refl _ _) | (with_reducible assumption) | (with_reducible refine below_drewN ?_ _) | (with_reducible refine Below.alloc ?_ ?_ _) | (with_reducible refine Below.drew ?_) | (with_reducible refine Below.setCell ?_ ?_ _) | (with_reducible refine Below.trans ?_ (Below.mono (by with_reducible assumption) ?_)) | go_size))⟩
  simp [results, Tryz.results107, go_sem]
/-- What 'named' tells. -/
theorem named_all (t : ByteArray) (w : World) (o : Option (BitVec 256)) (ho : nmd t.data.toList = o) :
    Calls Tryz.prog 107 #[.string t] w fun e w' => e = .returned (.tuple #[sv (o.getD 0#256), .bool o.isSome]) ∧ Ext w w' := by
  unfold nmd at ho
  by_cases h0 : t.data.toList = [100, 105, 103, 105, 116]
  · rw [if_pos h0] at ho
    subst ho
    exact named_digit t h0 _ rfl w
  by_cases h1 : t.data.toList = [108, 111, 119, 101, 114]
  · rw [if_neg h0, if_pos h1] at ho
    subst ho
    exact named_lower t h1 _ rfl w
  by_cases h2 : t.data.toList = [117, 112, 112, 101, 114]
  · rw [if_neg h0, if_neg h1, if_pos h2] at ho
    subst ho
    exact named_upper t h2 _ rfl w
  by_cases h3 : t.data.toList = [97, 108, 112, 104, 97]
  · rw [if_neg h0, if_neg h1, if_neg h2, if_pos h3] at ho
    subst ho
    exact named_alpha t h3 _ rfl w
  by_cases h4 : t.data.toList = [97, 108, 110, 117, 109]
  · rw [if_neg h0, if_neg h1, if_neg h2, if_neg h3, if_pos h4] at ho
    subst ho
    exact named_alnum t h4 _ rfl w
  by_cases h5 : t.data.toList = [119, 111, 114, 100]
  · rw [if_neg h0, if_neg h1, if_neg h2, if_neg h3, if_neg h4, if_pos h5] at ho
    subst ho
    exact named_word t h5 _ rfl w
  by_cases h6 : t.data.toList = [120, 100, 105, 103, 105, 116]
  · rw [if_neg h0, if_neg h1, if_neg h2, if_neg h3, if_neg h4, if_neg h5, if_pos h6] at ho
    subst ho
    exact named_xdigit t h6 _ rfl w
  by_cases h7 : t.data.toList = [98, 108, 97, 110, 107]
  · rw [if_neg h0, if_neg h1, if_neg h2, if_neg h3, if_neg h4, if_neg h5, if_neg h6, if_pos h7] at ho
    subst ho
    exact named_blank t h7 _ rfl w
  by_cases h8 : t.data.toList = [115, 112, 97, 99, 101]
  · rw [if_neg h0, if_neg h1, if_neg h2, if_neg h3, if_neg h4, if_neg h5, if_neg h6, if_neg h7, if_pos h8] at ho
    subst ho
    exact named_space t h8 _ rfl w
  by_cases h9 : t.data.toList = [112, 117, 110, 99, 116]
  · rw [if_neg h0, if_neg h1, if_neg h2, if_neg h3, if_neg h4, if_neg h5, if_neg h6, if_neg h7, if_neg h8, if_pos h9] at ho
    subst ho
    exact named_punct t h9 _ rfl w
  by_cases h10 : t.data.toList = [112, 114, 105, 110, 116]
  · rw [if_neg h0, if_neg h1, if_neg h2, if_neg h3, if_neg h4, if_neg h5, if_neg h6, if_neg h7, if_neg h8, if_neg h9, if_pos h10] at ho
    subst ho
    exact named_print t h10 _ rfl w
  by_cases h11 : t.data.toList = [99, 110, 116, 114, 108]
  · rw [if_neg h0, if_neg h1, if_neg h2, if_neg h3, if_neg h4, if_neg h5, if_neg h6, if_neg h7, if_neg h8, if_neg h9, if_neg h10, if_pos h11] at ho
    subst ho
    exact named_cntrl t h11 _ rfl w
  by_cases h12 : t.data.toList = [97, 110, 121]
  · rw [if_neg h0, if_neg h1, if_neg h2, if_neg h3, if_neg h4, if_neg h5, if_neg h6, if_neg h7, if_neg h8, if_neg h9, if_neg h10, if_neg h11, if_pos h12] at ho
    subst ho
    exact named_any t h12 _ rfl w
  rw [if_neg h0, if_neg h1, if_neg h2, if_neg h3, if_neg h4, if_neg h5, if_neg h6, if_neg h7, if_neg h8, if_neg h9, if_neg h10, if_neg h11, if_neg h12] at ho
  subst ho
  have h := named_none t h0 h1 h2 h3 h4 h5 h6 h7 h8 h9 h10 h11 h12 w
  rw [← sv_zero] at h
  exact h
end Go.Proofs.YtnecafokkhhhhaaGreatDoor
