/- Marks; what is spelt. -/
import Derived.Test.YtnecafokkhhhhaaDoorLr
import Derived.Test.YtnecafokkhhhhaaDoorShelf
namespace Go.Proofs.YtnecafokkhhhhaaDoor
open Go Go.RowKit
theorem mk_40 (T : ByteArray) (w : World) : Calls Tryd.prog 27 #[.int .i32 40, .string T] w fun e w' => e = .returned (.int .i64 1) ∧ Ext w w' := by
  go_enter Tryd.func27, Tryd.ntmps27
  go_wp2
  go_ret
  exact ⟨rfl, by go_grown⟩
theorem mk_41 (T : ByteArray) (w : World) : Calls Tryd.prog 27 #[.int .i32 41, .string T] w fun e w' => e = .returned (.int .i64 1) ∧ Ext w w' := by
  go_enter Tryd.func27, Tryd.ntmps27
  go_wp2
  go_ret
  exact ⟨rfl, by go_grown⟩
theorem mk_124 (T : ByteArray) (w : World) : Calls Tryd.prog 27 #[.int .i32 124, .string T] w fun e w' => e = .returned (.int .i64 1) ∧ Ext w w' := by
  go_enter Tryd.func27, Tryd.ntmps27
  go_wp2
  go_ret
  exact ⟨rfl, by go_grown⟩
theorem mk_42 (T : ByteArray) (w : World) : Calls Tryd.prog 27 #[.int .i32 42, .string T] w fun e w' => e = .returned (.int .i64 1) ∧ Ext w w' := by
  go_enter Tryd.func27, Tryd.ntmps27
  go_wp2
  go_ret
  exact ⟨rfl, by go_grown⟩
theorem mk_43 (T : ByteArray) (w : World) : Calls Tryd.prog 27 #[.int .i32 43, .string T] w fun e w' => e = .returned (.int .i64 1) ∧ Ext w w' := by
  go_enter Tryd.func27, Tryd.ntmps27
  go_wp2
  go_ret
  exact ⟨rfl, by go_grown⟩
theorem mk_63 (T : ByteArray) (w : World) : Calls Tryd.prog 27 #[.int .i32 63, .string T] w fun e w' => e = .returned (.int .i64 1) ∧ Ext w w' := by
  go_enter Tryd.func27, Tryd.ntmps27
  go_wp2
  go_ret
  exact ⟨rfl, by go_grown⟩
theorem mk_123 (T : ByteArray) (w : World) : Calls Tryd.prog 27 #[.int .i32 123, .string T] w fun e w' => e = .returned (.int .i64 1) ∧ Ext w w' := by
  go_enter Tryd.func27, Tryd.ntmps27
  go_wp2
  go_ret
  exact ⟨rfl, by go_grown⟩
theorem mk_125 (T : ByteArray) (w : World) : Calls Tryd.prog 27 #[.int .i32 125, .string T] w fun e w' => e = .returned (.int .i64 1) ∧ Ext w w' := by
  go_enter Tryd.func27, Tryd.ntmps27
  go_wp2
  go_ret
  exact ⟨rfl, by go_grown⟩
theorem mk_44 (T : ByteArray) (w : World) : Calls Tryd.prog 27 #[.int .i32 44, .string T] w fun e w' => e = .returned (.int .i64 1) ∧ Ext w w' := by
  go_enter Tryd.func27, Tryd.ntmps27
  go_wp2
  go_ret
  exact ⟨rfl, by go_grown⟩
theorem mk_47 (T : ByteArray) (w : World) : Calls Tryd.prog 27 #[.int .i32 47, .string T] w fun e w' => e = .returned (.int .i64 1) ∧ Ext w w' := by
  go_enter Tryd.func27, Tryd.ntmps27
  go_wp2
  go_ret
  exact ⟨rfl, by go_grown⟩
theorem mk_60 (T : ByteArray) (w : World) : Calls Tryd.prog 27 #[.int .i32 60, .string T] w fun e w' => e = .returned (.int .i64 1) ∧ Ext w w' := by
  go_enter Tryd.func27, Tryd.ntmps27
  go_wp2
  go_ret
  exact ⟨rfl, by go_grown⟩
theorem mk_62 (T : ByteArray) (w : World) : Calls Tryd.prog 27 #[.int .i32 62, .string T] w fun e w' => e = .returned (.int .i64 1) ∧ Ext w w' := by
  go_enter Tryd.func27, Tryd.ntmps27
  go_wp2
  go_ret
  exact ⟨rfl, by go_grown⟩
theorem mk_eq (T : ByteArray) (q : Bool) (hq : Lib.hasPrefix T.data.toList [62] = q) (w : World) : Calls Tryd.prog 27 #[.int .i32 61, .string T] w fun e w' => e = .returned (.int .i64 (if q = true then 2 else 1)) ∧ Ext w w' := by
  cases q with
  | true =>
    go_enter Tryd.func27, Tryd.ntmps27
    go_wp2_with fail
    refine (Tryd.strings_HasPrefix _ _ _).mono ?_
    rintro e w2 ⟨rfl, rfl⟩
    have hq2 : Lib.hasPrefix T.data.toList (⟨#[62]⟩ : ByteArray).data.toList = true := hq
    go_wp2_with fail
    go_ret
    exact ⟨rfl, by go_grown⟩
  | false =>
    go_enter Tryd.func27, Tryd.ntmps27
    go_wp2_with fail
    refine (Tryd.strings_HasPrefix _ _ _).mono ?_
    rintro e w2 ⟨rfl, rfl⟩
    have hq2 : Lib.hasPrefix T.data.toList (⟨#[62]⟩ : ByteArray).data.toList = false := hq
    go_wp2_with fail
    go_ret
    exact ⟨rfl, by go_grown⟩
theorem mk_no (c : Nat) (T : ByteArray) (h : c ≠ 61 ∧ c ∉ mrks) (w : World) : Calls Tryd.prog 27 #[.int .i32 (c : Int), .string T] w fun e w' => e = .returned (.int .i64 0) ∧ Ext w w' := by
  have hm : c ≠ 40 ∧ c ≠ 41 ∧ c ≠ 124 ∧ c ≠ 42 ∧ c ≠ 43 ∧ c ≠ 63 ∧ c ≠ 123 ∧ c ≠ 125 ∧ c ≠ 44 ∧ c ≠ 47 ∧ c ≠ 60 ∧ c ≠ 62 := by simpa [mrks] using h.2
  obtain ⟨m1, m2, m3, m4, m5, m6, m7, m8, m9, m10, m11, m12⟩ := hm
  have e0 : ((c : Int) == 61) = false := by have := h.1; simp; omega
  have e1 : ((c : Int) == 40) = false := by simp; omega
  have e2 : ((c : Int) == 41) = false := by simp; omega
  have e3 : ((c : Int) == 124) = false := by simp; omega
  have e4 : ((c : Int) == 42) = false := by simp; omega
  have e5 : ((c : Int) == 43) = false := by simp; omega
  have e6 : ((c : Int) == 63) = false := by simp; omega
  have e7 : ((c : Int) == 123) = false := by simp; omega
  have e8 : ((c : Int) == 125) = false := by simp; omega
  have e9 : ((c : Int) == 44) = false := by simp; omega
  have e10 : ((c : Int) == 47) = false := by simp; omega
  have e11 : ((c : Int) == 60) = false := by simp; omega
  have e12 : ((c : Int) == 62) = false := by simp; omega
  clear h m1 m2 m3 m4 m5 m6 m7 m8 m9 m10 m11 m12
  go_enter Tryd.func27, Tryd.ntmps27
  go_wp2
  go_ret
  exact ⟨rfl, by go_grown⟩
theorem mklen_any (c : Nat) (T : ByteArray) (n : Nat) (hn : mkl c T.data.toList = n) (w : World) : Calls Tryd.prog 27 #[.int .i32 (c : Int), .string T] w fun e w' => e = .returned (.int .i64 (n : Int)) ∧ Ext w w' := by
  subst hn
  unfold mkl
  by_cases h : c = 61
  · subst h
    rw [if_pos rfl]
    have := mk_eq T _ rfl w
    cases hq : Lib.hasPrefix T.data.toList [62] <;> rw [hq] at this <;> exact this
  · rw [if_neg h]
    by_cases hm : c ∈ mrks
    · rw [if_pos hm]
      have hc : c = 40 ∨ c = 41 ∨ c = 124 ∨ c = 42 ∨ c = 43 ∨ c = 63 ∨ c = 123 ∨ c = 125 ∨ c = 44 ∨ c = 47 ∨ c = 60 ∨ c = 62 := by simpa [mrks] using hm
      rcases hc with rfl | rfl | rfl | rfl | rfl | rfl | rfl | rfl | rfl | rfl | rfl | rfl
      · exact mk_40 T w
      · exact mk_41 T w
      · exact mk_124 T w
      · exact mk_42 T w
      · exact mk_43 T w
      · exact mk_63 T w
      · exact mk_123 T w
      · exact mk_125 T w
      · exact mk_44 T w
      · exact mk_47 T w
      · exact mk_60 T w
      · exact mk_62 T w
    · rw [if_neg hm]; exact mk_no c T ⟨h, hm⟩ w
/-- A lexeme's cells. -/
abbrev lcs (kd a e : Int) (T : ByteArray) (n x0 x1 x2 x3 : Int) : Array Value := #[.int .i64 kd, .int .i64 a, .int .i64 e, .string T, .int .i64 n, .int .u64 x0, .int .u64 x1, .int .u64 x2, .int .u64 x3]
abbrev lxz : Array Value := lcs 0 0 0 ⟨#[]⟩ 0 0 0 0 0
theorem ext_set9 {w w' : World} (h : Ext w w') {b : Nat} (hb : w.heap.size ≤ b) (x0 x1 x2 x3 x4 x5 x6 x7 x8 : Value) :
    Ext w (((((((((w'.setCell ⟨b, 0, none⟩ x0).setCell ⟨b, 1, none⟩ x1).setCell ⟨b, 2, none⟩ x2).setCell ⟨b, 3, none⟩ x3).setCell ⟨b, 4, none⟩ x4).setCell ⟨b, 5, none⟩ x5).setCell ⟨b, 6, none⟩ x6).setCell ⟨b, 7, none⟩ x7).setCell ⟨b, 8, none⟩ x8) :=
  ((((((((h.setCell (p := ⟨b, 0, none⟩) hb x0).setCell (p := ⟨b, 1, none⟩) hb x1).setCell (p := ⟨b, 2, none⟩) hb x2).setCell (p := ⟨b, 3, none⟩) hb x3).setCell (p := ⟨b, 4, none⟩) hb x4).setCell (p := ⟨b, 5, none⟩) hb x5).setCell (p := ⟨b, 6, none⟩) hb x6).setCell (p := ⟨b, 7, none⟩) hb x7).setCell (p := ⟨b, 8, none⟩) hb x8
theorem clone_any (s : ByteArray) (w : World) (hlim : s.size ≤ 281474976710656) : Calls Tryd.prog 28 #[.string s] w fun e w' => e = .returned (.string s) ∧ Ext w w' := by
  have h := Tryd.stringslite_Clone s w hlim
  go_enter Tryd.func28, Tryd.ntmps28
  go_wp2_with fail
  refine h.mono ?_
  rintro e w1 ⟨rfl, hx⟩
  go_wp2
  go_ret
  exact ⟨rfl, hx⟩
set_option maxHeartbeats 1000000 in
set_option maxRecDepth 20000 in
theorem spelt_any (kd : Int) (s : ByteArray) (a n : Nat) (h : a + n ≤ s.size) (hs : s.size ≤ 4294967000) (w : World) :
    Calls Tryd.prog 23 #[.int .i64 kd, .string s, .int .i64 (a : Int), .int .i64 (n : Int)] w fun e w' => e = .returned (.agg (lcs kd a ((a : Int) + n) (s.extract a (a + n)) 0 0 0 0 0)) ∧ Ext w w' := by
  have HB := Lib.hid (Blk.new w lxz 32)
  have HE := Lib.hid (show Ext w (w.alloc (.cells lxz 32)) from by go_grown)
  have hsl1 : (a : Int) ≤ (a : Int) + (n : Int) := by omega
  have hsl2 : (a : Int) + (n : Int) ≤ (s.size : Int) := by omega
  have hslt2 : ((a : Int) + (n : Int)).toNat = a + n := by omega
  have hlim : (s.extract a (a + n)).size ≤ 281474976710656 := by rw [ByteArray.size_extract]; omega
  have HCLN := Lib.hid (fun w => clone_any (s.extract a (a + n)) w hlim)
  clear hlim
  go_enter Tryd.func23, Tryd.ntmps23
  go_wp2_with fail
  refine (HCLN.out _).mono ?_
  rintro e w1 ⟨rfl, hx⟩
  have HB1 := Lib.hid (HB.out.ext hx)
  have EZ := Lib.hid (ext_set9 (bel_call HE.out hx) (Nat.le_refl _) (.int .i64 kd) (.int .i64 (a : Int)) (.int .i64 ((a : Int) + n)) (.string (s.extract a (a + n))) (.int .i64 0) (.int .u64 0) (.int .u64 0) (.int .u64 0) (.int .u64 0))
  clear hx HB HE HCLN
  have kb := HB1.out
  have z0 := kb.cell 0
  have f0 := kb.free 0
  have z1 := kb.cell 1
  have f1 := kb.free 1
  have z2 := kb.cell 2
  have f2 := kb.free 2
  have z3 := kb.cell 3
  have f3 := kb.free 3
  have z4 := kb.cell 4
  have f4 := kb.free 4
  have z5 := kb.cell 5
  have f5 := kb.free 5
  have z6 := kb.cell 6
  have f6 := kb.free 6
  have z7 := kb.cell 7
  have f7 := kb.free 7
  have z8 := kb.cell 8
  have f8 := kb.free 8
  have hltb := kb.lt
  have kz := Lib.hid (((((((((kb.set 0 (.int .i64 kd)).set 1 (.int .i64 (a : Int))).set 2 (.int .i64 ((a : Int) + n))).set 3 (.string (s.extract a (a + n)))).set 4 (.int .i64 0)).set 5 (.int .u64 0)).set 6 (.int .u64 0)).set 7 (.int .u64 0)).set 8 (.int .u64 0))
  clear kb
  go_wp2_with fail
  have y0 := kz.out.cell 0
  have y1 := kz.out.cell 1
  have y2 := kz.out.cell 2
  have y3 := kz.out.cell 3
  have y4 := kz.out.cell 4
  have y5 := kz.out.cell 5
  have y6 := kz.out.cell 6
  have y7 := kz.out.cell 7
  have y8 := kz.out.cell 8
  refine bodyPost_ret (v := .agg (lcs kd a ((a : Int) + n) (s.extract a (a + n)) 0 0 0 0 0)) ?_ rfl ⟨rfl, EZ.out⟩
  simp [results, Tryd.results23, go_sem, y0, y1, y2, y3, y4, y5, y6, y7, y8]
end Go.Proofs.YtnecafokkhhhhaaDoor
