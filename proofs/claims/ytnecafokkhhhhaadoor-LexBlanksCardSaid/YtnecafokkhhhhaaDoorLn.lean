/- Names, marks. -/
import Derived.Test.YtnecafokkhhhhaaDoorLm
import Derived.Test.YtnecafokkhhhhaaDoorPrs
namespace Go.Proofs.YtnecafokkhhhhaaDoor
open Go Go.RowKit
theorem Placed.own9 {w : World} {v : Value} {a : Addr} {n : Int} (h : Placed w v a n) {b : Nat} {i : Int} {xs : List Value} {t : TypeId} (hB : Blk w b ((.int .i64 i :: xs).toArray) t) (x0 x1 x2 x3 x4 x5 x6 x7 x8 : Value) :
    Placed (((((((((w.setCell ⟨b, 0, none⟩ x0).setCell ⟨b, 1, none⟩ x1).setCell ⟨b, 2, none⟩ x2).setCell ⟨b, 3, none⟩ x3).setCell ⟨b, 4, none⟩ x4).setCell ⟨b, 5, none⟩ x5).setCell ⟨b, 6, none⟩ x6).setCell ⟨b, 7, none⟩ x7).setCell ⟨b, 8, none⟩ x8) v a n := by
  obtain ⟨p, tp, hv, hP, hlp⟩ := h
  have hne : b ≠ p := by
    intro e
    have g0 := hP.cell 0
    have g1 := hB.cell 0
    rw [← e, g1] at g0
    simp at g0
  refine ⟨p, tp, hv, ?_, hlp⟩
  exact ((((((((hP.set_other (a := ⟨b, 0, none⟩) hne x0).set_other (a := ⟨b, 1, none⟩) hne x1).set_other (a := ⟨b, 2, none⟩) hne x2).set_other (a := ⟨b, 3, none⟩) hne x3).set_other (a := ⟨b, 4, none⟩) hne x4).set_other (a := ⟨b, 5, none⟩) hne x5).set_other (a := ⟨b, 6, none⟩) hne x6).set_other (a := ⟨b, 7, none⟩) hne x7).set_other (a := ⟨b, 8, none⟩) hne x8
theorem rest_ext (s : ByteArray) (k : Nat) : rest (s.extract k s.size) 0 = rest s k := by
  have := ext_rest s k
  unfold rest at this ⊢
  rw [this, List.drop_zero]
set_option maxHeartbeats 1000000 in
set_option maxRecDepth 20000 in
theorem lname_no (s : ByteArray) (k n : Nat) (hk : k ≤ s.size) (hn : run nmc (rest s k) = n) (h32 : 32 < n) (es ed : Addr) (w : World) (hK : Kn w es ed) :
    Calls Tryd.prog 15 #[.string s, .int .i64 (k : Int)] w fun e w' => ∃ v, e = .returned (.tuple #[.agg lxz, v]) ∧ Placed w' v es k ∧ Ext w w' := by
  have HB := Lib.hid (Blk.new w lxz 32)
  have HE := Lib.hid (show Ext w (w.alloc (.cells lxz 32)) from by go_grown)
  have HK := Lib.hid hK
  have HRN := Lib.hid (fun w => run_name (s.extract k s.size) n (by rw [rest_ext]; exact hn) w)
  have d1 : decide ((32 : Int) < (n : Int)) = true := by simp; omega
  have d1n : decide (32 < n) = true := by simp; omega
  clear hK hn
  go_enter Tryd.func15, Tryd.ntmps15
  go_wp2_with fail
  refine (HRN.out _).mono ?_
  rintro e w1 ⟨rfl, hx⟩
  have HB1 := Lib.hid (HB.out.ext hx)
  have E1 := Lib.hid (bel_call HE.out hx)
  have cs := (HK.out.ext E1.out).syn
  clear hx HB HE HRN
  go_wp2_with fail
  refine (place_new es (k : Int) _ (Nat.lt_of_lt_of_le HK.out.lo.1 E1.out.size)).mono ?_
  rintro e w2 ⟨v, rfl, hP, hx⟩
  have HB2 := Lib.hid (HB1.out.ext hx)
  have EZ := Lib.hid (ext_set9 (bel_call E1.out hx) (Nat.le_refl _) (.int .i64 0) (.int .i64 0) (.int .i64 0) (.string ⟨#[]⟩) (.int .i64 0) (.int .u64 0) (.int .u64 0) (.int .u64 0) (.int .u64 0))
  have HP := Lib.hid (hP.own9 HB2.out (.int .i64 0) (.int .i64 0) (.int .i64 0) (.string ⟨#[]⟩) (.int .i64 0) (.int .u64 0) (.int .u64 0) (.int .u64 0) (.int .u64 0))
  clear hx HB1 E1 hP cs
  have kb := HB2.out
  have z0 := kb.cell 0
  have f0 := kb.free 0
  have z1 := kb.cell 1
  have f1 := kb.free 1
  have z2 := kb.cell 2
  have f2 := kb.free 2
  have z3 := kb.cell 3
  have f3 := kb.free 3
  have z4 := kb.cell 4
  have f4 := kb.free 4
  have z5 := kb.cell 5
  have f5 := kb.free 5
  have z6 := kb.cell 6
  have f6 := kb.free 6
  have z7 := kb.cell 7
  have f7 := kb.free 7
  have z8 := kb.cell 8
  have f8 := kb.free 8
  have hltb := kb.lt
  have kz := Lib.hid (((((((((kb.set 0 (.int .i64 0)).set 1 (.int .i64 0)).set 2 (.int .i64 0)).set 3 (.string ⟨#[]⟩)).set 4 (.int .i64 0)).set 5 (.int .u64 0)).set 6 (.int .u64 0)).set 7 (.int .u64 0)).set 8 (.int .u64 0))
  clear kb
  go_wp2_with fail
  have y0 := kz.out.cell 0
  have y1 := kz.out.cell 1
  have y2 := kz.out.cell 2
  have y3 := kz.out.cell 3
  have y4 := kz.out.cell 4
  have y5 := kz.out.cell 5
  have y6 := kz.out.cell 6
  have y7 := kz.out.cell 7
  have y8 := kz.out.cell 8
  refine bodyPost_ret (v := .tuple #[.agg lxz, v]) ?_ rfl ⟨_, rfl, HP.out, EZ.out⟩
  simp [results, Tryd.results15, go_sem, y0, y1, y2, y3, y4, y5, y6, y7, y8]
set_option maxHeartbeats 1000000 in
set_option maxRecDepth 20000 in
theorem lname_ok (s : ByteArray) (k n : Nat) (hk : k ≤ s.size) (hs : s.size ≤ 4294967000) (hn : run nmc (rest s k) = n) (h32 : n ≤ 32) (w : World) :
    Calls Tryd.prog 15 #[.string s, .int .i64 (k : Int)] w fun e w' => e = .returned (.tuple #[.agg (lcs 1 k ((k : Int) + n) (s.extract k (k + n)) 0 0 0 0 0), .nilIface]) ∧ Ext w w' := by
  have HB := Lib.hid (Blk.new w lxz 32)
  have HE := Lib.hid (show Ext w (w.alloc (.cells lxz 32)) from by go_grown)
  have HRN := Lib.hid (fun w => run_name (s.extract k s.size) n (by rw [rest_ext]; exact hn) w)
  have hkn : k + n ≤ s.size := by have := run_le nmc (rest s k); have := rest_len hk; omega
  have HSP := Lib.hid (fun w => spelt_any 1 s k n hkn hs w)
  have d1 : decide ((32 : Int) < (n : Int)) = false := by simp; omega
  have d1n : decide (32 < n) = false := by simp; omega
  clear hn
  go_enter Tryd.func15, Tryd.ntmps15
  go_wp2_with fail
  refine (HRN.out _).mono ?_
  rintro e w1 ⟨rfl, hx⟩
  have HB1 := Lib.hid (HB.out.ext hx)
  have E1 := Lib.hid (bel_call HE.out hx)
  clear hx HB HE HRN
  go_wp2_with fail
  refine (HSP.out _).mono ?_
  rintro e w2 ⟨rfl, hx⟩
  have HB2 := Lib.hid (HB1.out.ext hx)
  have EZ := Lib.hid (ext_set9 (bel_call E1.out hx) (Nat.le_refl _) (.int .i64 1) (.int .i64 (k : Int)) (.int .i64 ((k : Int) + n)) (.string (s.extract k (k + n))) (.int .i64 0) (.int .u64 0) (.int .u64 0) (.int .u64 0) (.int .u64 0))
  clear hx HB1 E1 HSP
  have kb := HB2.out
  have z0 := kb.cell 0
  have f0 := kb.free 0
  have z1 := kb.cell 1
  have f1 := kb.free 1
  have z2 := kb.cell 2
  have f2 := kb.free 2
  have z3 := kb.cell 3
  have f3 := kb.free 3
  have z4 := kb.cell 4
  have f4 := kb.free 4
  have z5 := kb.cell 5
  have f5 := kb.free 5
  have z6 := kb.cell 6
  have f6 := kb.free 6
  have z7 := kb.cell 7
  have f7 := kb.free 7
  have z8 := kb.cell 8
  have f8 := kb.free 8
  have hltb := kb.lt
  have kz := Lib.hid (((((((((kb.set 0 (.int .i64 1)).set 1 (.int .i64 (k : Int))).set 2 (.int .i64 ((k : Int) + n))).set 3 (.string (s.extract k (k + n)))).set 4 (.int .i64 0)).set 5 (.int .u64 0)).set 6 (.int .u64 0)).set 7 (.int .u64 0)).set 8 (.int .u64 0))
  clear kb
  go_wp2_with fail
  have y0 := kz.out.cell 0
  have y1 := kz.out.cell 1
  have y2 := kz.out.cell 2
  have y3 := kz.out.cell 3
  have y4 := kz.out.cell 4
  have y5 := kz.out.cell 5
  have y6 := kz.out.cell 6
  have y7 := kz.out.cell 7
  have y8 := kz.out.cell 8
  refine bodyPost_ret (v := .tuple #[.agg (lcs 1 k ((k : Int) + n) (s.extract k (k + n)) 0 0 0 0 0), .nilIface]) ?_ rfl ⟨rfl, EZ.out⟩
  simp [results, Tryd.results15, go_sem, y0, y1, y2, y3, y4, y5, y6, y7, y8]
set_option maxHeartbeats 1000000 in
set_option maxRecDepth 20000 in
theorem lmark_no (c : Nat) (s : ByteArray) (k : Nat) (hk : k < s.size) (hs : s.size ≤ 4294967000) (hn : mkl c ((rest s k).drop 1) = 0) (es ed : Addr) (w : World) (hK : Kn w es ed) :
    Calls Tryd.prog 20 #[.string s, .int .i64 (k : Int), .int .i32 (c : Int)] w fun e w' => ∃ v, e = .returned (.tuple #[.agg lxz, v]) ∧ Placed w' v es k ∧ Ext w w' := by
  have HB := Lib.hid (Blk.new w lxz 32)
  have HE := Lib.hid (show Ext w (w.alloc (.cells lxz 32)) from by go_grown)
  have HK := Lib.hid hK
  have HMK := Lib.hid (fun w => mklen_any c (s.extract (k + 1) s.size) 0 (by rw [ext_rest, rest_drop]; exact hn) w)
  have hsl0 : (0 : Int) ≤ (k : Int) + 1 := by omega
  have hsl1 : (k : Int) + 1 ≤ (s.size : Int) := by omega
  have hslt : ((k : Int) + 1).toNat = k + 1 := by omega
  clear hK hn
  go_enter Tryd.func20, Tryd.ntmps20
  go_wp2_with fail
  refine (HMK.out _).mono ?_
  rintro e w1 ⟨rfl, hx⟩
  have HB1 := Lib.hid (HB.out.ext hx)
  have E1 := Lib.hid (bel_call HE.out hx)
  have cs := (HK.out.ext E1.out).syn
  clear hx HB HE HMK hslt hsl0 hsl1
  go_wp2_with fail
  refine (place_new es (k : Int) _ (Nat.lt_of_lt_of_le HK.out.lo.1 E1.out.size)).mono ?_
  rintro e w2 ⟨v, rfl, hP, hx⟩
  have HB2 := Lib.hid (HB1.out.ext hx)
  have EZ := Lib.hid (ext_set9 (bel_call E1.out hx) (Nat.le_refl _) (.int .i64 0) (.int .i64 0) (.int .i64 0) (.string ⟨#[]⟩) (.int .i64 0) (.int .u64 0) (.int .u64 0) (.int .u64 0) (.int .u64 0))
  have HP := Lib.hid (hP.own9 HB2.out (.int .i64 0) (.int .i64 0) (.int .i64 0) (.string ⟨#[]⟩) (.int .i64 0) (.int .u64 0) (.int .u64 0) (.int .u64 0) (.int .u64 0))
  clear hx HB1 E1 hP cs
  have kb := HB2.out
  have z0 := kb.cell 0
  have f0 := kb.free 0
  have z1 := kb.cell 1
  have f1 := kb.free 1
  have z2 := kb.cell 2
  have f2 := kb.free 2
  have z3 := kb.cell 3
  have f3 := kb.free 3
  have z4 := kb.cell 4
  have f4 := kb.free 4
  have z5 := kb.cell 5
  have f5 := kb.free 5
  have z6 := kb.cell 6
  have f6 := kb.free 6
  have z7 := kb.cell 7
  have f7 := kb.free 7
  have z8 := kb.cell 8
  have f8 := kb.free 8
  have hltb := kb.lt
  have kz := Lib.hid (((((((((kb.set 0 (.int .i64 0)).set 1 (.int .i64 0)).set 2 (.int .i64 0)).set 3 (.string ⟨#[]⟩)).set 4 (.int .i64 0)).set 5 (.int .u64 0)).set 6 (.int .u64 0)).set 7 (.int .u64 0)).set 8 (.int .u64 0))
  clear kb
  go_wp2_with fail
  have y0 := kz.out.cell 0
  have y1 := kz.out.cell 1
  have y2 := kz.out.cell 2
  have y3 := kz.out.cell 3
  have y4 := kz.out.cell 4
  have y5 := kz.out.cell 5
  have y6 := kz.out.cell 6
  have y7 := kz.out.cell 7
  have y8 := kz.out.cell 8
  refine bodyPost_ret (v := .tuple #[.agg lxz, v]) ?_ rfl ⟨_, rfl, HP.out, EZ.out⟩
  simp [results, Tryd.results20, go_sem, y0, y1, y2, y3, y4, y5, y6, y7, y8]
set_option maxHeartbeats 1000000 in
set_option maxRecDepth 20000 in
theorem lmark_ok (c : Nat) (s : ByteArray) (k n : Nat) (hk : k < s.size) (hs : s.size ≤ 4294967000) (hn : mkl c ((rest s k).drop 1) = n) (h0 : 0 < n) (hkn : k + n ≤ s.size) (w : World) :
    Calls Tryd.prog 20 #[.string s, .int .i64 (k : Int), .int .i32 (c : Int)] w fun e w' => e = .returned (.tuple #[.agg (lcs 5 k ((k : Int) + n) (s.extract k (k + n)) 0 0 0 0 0), .nilIface]) ∧ Ext w w' := by
  have HB := Lib.hid (Blk.new w lxz 32)
  have HE := Lib.hid (show Ext w (w.alloc (.cells lxz 32)) from by go_grown)
  have HMK := Lib.hid (fun w => mklen_any c (s.extract (k + 1) s.size) n (by rw [ext_rest, rest_drop]; exact hn) w)
  have HSP := Lib.hid (fun w => spelt_any 5 s k n hkn hs w)
  have hsl0 : (0 : Int) ≤ (k : Int) + 1 := by omega
  have hsl1 : (k : Int) + 1 ≤ (s.size : Int) := by omega
  have hslt : ((k : Int) + 1).toNat = k + 1 := by omega
  have d1 : ((n : Int) == 0) = false := by simp; omega
  clear hn
  go_enter Tryd.func20, Tryd.ntmps20
  go_wp2_with fail
  refine (HMK.out _).mono ?_
  rintro e w1 ⟨rfl, hx⟩
  have HB1 := Lib.hid (HB.out.ext hx)
  have E1 := Lib.hid (bel_call HE.out hx)
  clear hx HB HE HMK hslt hsl0 hsl1
  go_wp2_with fail
  refine (HSP.out _).mono ?_
  rintro e w2 ⟨rfl, hx⟩
  have HB2 := Lib.hid (HB1.out.ext hx)
  have EZ := Lib.hid (ext_set9 (bel_call E1.out hx) (Nat.le_refl _) (.int .i64 5) (.int .i64 (k : Int)) (.int .i64 ((k : Int) + n)) (.string (s.extract k (k + n))) (.int .i64 0) (.int .u64 0) (.int .u64 0) (.int .u64 0) (.int .u64 0))
  clear hx HB1 E1 HSP
  have kb := HB2.out
  have z0 := kb.cell 0
  have f0 := kb.free 0
  have z1 := kb.cell 1
  have f1 := kb.free 1
  have z2 := kb.cell 2
  have f2 := kb.free 2
  have z3 := kb.cell 3
  have f3 := kb.free 3
  have z4 := kb.cell 4
  have f4 := kb.free 4
  have z5 := kb.cell 5
  have f5 := kb.free 5
  have z6 := kb.cell 6
  have f6 := kb.free 6
  have z7 := kb.cell 7
  have f7 := kb.free 7
  have z8 := kb.cell 8
  have f8 := kb.free 8
  have hltb := kb.lt
  have kz := Lib.hid (((((((((kb.set 0 (.int .i64 5)).set 1 (.int .i64 (k : Int))).set 2 (.int .i64 ((k : Int) + n))).set 3 (.string (s.extract k (k + n)))).set 4 (.int .i64 0)).set 5 (.int .u64 0)).set 6 (.int .u64 0)).set 7 (.int .u64 0)).set 8 (.int .u64 0))
  clear kb
  go_wp2_with fail
  have y0 := kz.out.cell 0
  have y1 := kz.out.cell 1
  have y2 := kz.out.cell 2
  have y3 := kz.out.cell 3
  have y4 := kz.out.cell 4
  have y5 := kz.out.cell 5
  have y6 := kz.out.cell 6
  have y7 := kz.out.cell 7
  have y8 := kz.out.cell 8
  refine bodyPost_ret (v := .tuple #[.agg (lcs 5 k ((k : Int) + n) (s.extract k (k + n)) 0 0 0 0 0), .nilIface]) ?_ rfl ⟨rfl, EZ.out⟩
  simp [results, Tryd.results20, go_sem, y0, y1, y2, y3, y4, y5, y6, y7, y8]
end Go.Proofs.YtnecafokkhhhhaaDoor
