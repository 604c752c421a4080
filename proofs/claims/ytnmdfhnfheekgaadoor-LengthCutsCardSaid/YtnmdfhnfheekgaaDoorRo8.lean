/- bolterref7.Check, bolterref0.Is, bolterref8.Of. -/
import Derived.Test.YtnmdfhnfheekgaaDoorOf8
import Derived.Test.YtnmdfhnfheekgaaDoorTxt
namespace Go.Proofs.YtnmdfhnfheekgaaDoor
open Go Go.RowKit
set_option maxRecDepth 20000 in
theorem rcheck_any (x : Xp) (a : Option Addr) (c : Nat) (w : World) (hx : Xat w w.heap.size a c x.args) : Calls Tryd.prog 22 #[xv x a c] w fun e w' => e = .returned (.bool (decide (Chk x))) ∧ Ext w w' := by
  have hE : Ext w (w.alloc (.cells (xbx x a c) 28)) := by go_grown
  have HC := Lib.hid (counted7_any x 4096 a c _ (Nat.le_refl _) (hx.ext hE))
  have HE := Lib.hid hE
  have hq : decide ((ct x 4096 : Int) ≤ (65536 : Int)) = decide (Chk x) := by
    rw [decide_eq_decide, ← ct_chk]; omega
  rw [← hq]
  have hb := ct_le x 4096
  generalize ct x 4096 = n at *
  clear hx hE hq
  go_enter Tryd.func22, Tryd.ntmps22
  go_wp2_with fail
  refine HC.out.mono ?_
  rintro e w2 ⟨rfl, x2⟩
  have X2 := Lib.hid (bel_call HE.out x2)
  clear x2
  go_wp2_with fail
  go_ret
  exact ⟨rfl, X2.out⟩
abbrev ftv (c : Int) : Value := .agg #[.int .i64 c, .int .i64 0, .int .i64 0, .int .i64 0, .slice none 0 0]
set_option maxRecDepth 20000 in
theorem ris_any (n : Int) (w : World) : Calls Tryd.prog 23 #[.int .i64 n] w fun e w' => e = .returned (ftv n) ∧ Ext w w' := by
  go_enter Tryd.func23, Tryd.ntmps23
  go_wp2_with fail
  refine bodyPost_ret (v := ftv n) ?_ rfl ⟨rfl, by go_grown⟩
  simp [results, Tryd.results23, go_sem]
set_option maxHeartbeats 2000000 in
set_option maxRecDepth 20000 in
theorem rof_any (x : Xp) (a : Option Addr) (c : Nat) (w : World) (hx : Xat w w.heap.size a c x.args) : Calls Tryd.prog 10 #[xv x a c] w fun e w' => e = .returned (.tuple #[lnv x, ftv (if Chk x then 0 else 15)]) ∧ Ext w w' := by
  have hE : Ext w (((w.alloc (.cells (xbx x a c) 28)).alloc (.cells #[.bool false, .int .i64 0, .int .i64 0] 31)).alloc (.cells #[.int .i64 0, .int .i64 0, .int .i64 0, .int .i64 0, .slice none 0 0] 38)) := by go_grown
  have hb := ((Blk.new w (xbx x a c) 28).alloc (.cells #[.bool false, .int .i64 0, .int .i64 0] 31)).alloc (.cells #[.int .i64 0, .int .i64 0, .int .i64 0, .int .i64 0, .slice none 0 0] 38)
  have hr := (Blk.new (w.alloc (.cells (xbx x a c) 28)) #[.bool false, .int .i64 0, .int .i64 0] 31).alloc (.cells #[.int .i64 0, .int .i64 0, .int .i64 0, .int .i64 0, .slice none 0 0] 38)
  have hf := Blk.new ((w.alloc (.cells (xbx x a c) 28)).alloc (.cells #[.bool false, .int .i64 0, .int .i64 0] 31)) #[.int .i64 0, .int .i64 0, .int .i64 0, .int .i64 0, .slice none 0 0] 38
  rw [show (w.alloc (.cells (xbx x a c) 28)).heap.size = w.heap.size + 1 by simp] at hr
  rw [show ((w.alloc (.cells (xbx x a c) 28)).alloc (.cells #[.bool false, .int .i64 0, .int .i64 0] 31)).heap.size = w.heap.size + 1 + 1 by simp] at hf
  have hc := rcheck_any x a c _ (hx.ext hE)
  have HX := Lib.hid (hx.ext hE)
  have HB := Lib.hid hb
  have HR := Lib.hid hr
  have HF := Lib.hid hf
  have HE := Lib.hid hE
  unfold lnv
  by_cases h : Chk x
  · rw [if_pos h, if_pos h]
    rw [decide_eq_true h] at hc
    have HW := Lib.hid (fun w hx => of_any x a c w (chk_good h).1 (by have := (chk_good h).2; omega) hx)
    obtain ⟨n, l, m, hv⟩ := lv_shape (wo x)
    rw [hv] at HW ⊢
    have HC := Lib.hid hc
    clear h hx hb hr hf hE hc hv
    go_enter Tryd.func10, Tryd.ntmps10
    go_wp2_with fail
    refine HC.out.mono ?_
    rintro e w1 ⟨rfl, x1⟩
    obtain ⟨z0, z1, z2, z3, z4, z5, z6, z7, z8, z9⟩ := (HB.out.ext x1).cells10x
    have X1 := Lib.hid x1
    clear x1
    go_wp2_with fail
    refine (HW.out _ (HX.out.ext X1.out)).mono ?_
    rintro e w2 ⟨rfl, x2⟩
    have kR := Lib.hid ((HR.out.ext X1.out).ext x2)
    have kF := Lib.hid ((HF.out.ext X1.out).ext x2)
    have X2 := Lib.hid (bel_call (bel_call HE.out X1.out) x2)
    clear z0 z1 z2 z3 z4 z5 z6 z7 z8 z9 x2
    obtain ⟨y0, y1, y2⟩ := kR.out.cells3
    have g0 := kR.out.free 0
    have g1 := kR.out.free 1
    have g2 := kR.out.free 2
    have kR3 := Lib.hid (((kR.out.set 0 (.bool n)).set 1 (.int .i64 l)).set 2 (.int .i64 m))
    have kF1 := Lib.hid (((kF.out.set_other (a := ⟨w.heap.size + 1, 0, none⟩) (by show w.heap.size + 1 ≠ _; omega) (.bool n)).set_other (a := ⟨w.heap.size + 1, 1, none⟩) (by show w.heap.size + 1 ≠ _; omega) (.int .i64 l)).set_other (a := ⟨w.heap.size + 1, 2, none⟩) (by show w.heap.size + 1 ≠ _; omega) (.int .i64 m))
    obtain ⟨u0, u1, u2, u3, u4⟩ := kF1.out.cells5
    have v0 := kF1.out.free 0
    have v1 := kF1.out.free 1
    have v2 := kF1.out.free 2
    have v3 := kF1.out.free 3
    have v4 := kF1.out.free 4
    go_wp2_with fail
    have kF5 := ((((kF1.out.set 0 (.int .i64 0)).set 1 (.int .i64 0)).set 2 (.int .i64 0)).set 3 (.int .i64 0)).set 4 (.slice none 0 0)
    obtain ⟨q0, q1, q2, q3, q4⟩ := kF5.cells5
    have kR8 := ((((kR3.out.set_other (a := ⟨w.heap.size + 1 + 1, 0, none⟩) (by show w.heap.size + 1 + 1 ≠ _; omega) (.int .i64 0)).set_other (a := ⟨w.heap.size + 1 + 1, 1, none⟩) (by show w.heap.size + 1 + 1 ≠ _; omega) (.int .i64 0)).set_other (a := ⟨w.heap.size + 1 + 1, 2, none⟩) (by show w.heap.size + 1 + 1 ≠ _; omega) (.int .i64 0)).set_other (a := ⟨w.heap.size + 1 + 1, 3, none⟩) (by show w.heap.size + 1 + 1 ≠ _; omega) (.int .i64 0)).set_other (a := ⟨w.heap.size + 1 + 1, 4, none⟩) (by show w.heap.size + 1 + 1 ≠ _; omega) (.slice none 0 0)
    obtain ⟨p0, p1, p2⟩ := kR8.cells3
    refine bodyPost_ret (v := .tuple #[.agg #[.bool n, .int .i64 l, .int .i64 m], ftv 0]) ?_ rfl ⟨rfl, Below.trans (B := w.heap.size) X2.out (by go_grown)⟩
    simp [results, Tryd.results10, go_sem, q0, q1, q2, q3, q4, p0, p1, p2]
  · rw [if_neg h, if_neg h]
    rw [decide_eq_false h] at hc
    have HC := Lib.hid hc
    have his := ris_any 15
    clear h hx hb hr hf hE hc
    go_enter Tryd.func10, Tryd.ntmps10
    go_wp2_with fail
    refine HC.out.mono ?_
    rintro e w1 ⟨rfl, x1⟩
    have X1 := Lib.hid x1
    clear x1
    go_wp2_with fail
    refine (his _).mono ?_
    rintro e w2 ⟨rfl, x2⟩
    have kR := Lib.hid ((HR.out.ext X1.out).ext x2)
    have kF := Lib.hid ((HF.out.ext X1.out).ext x2)
    have X2 := Lib.hid (bel_call (bel_call HE.out X1.out) x2)
    clear x2
    obtain ⟨y0, y1, y2⟩ := kR.out.cells3
    have g0 := kR.out.free 0
    have g1 := kR.out.free 1
    have g2 := kR.out.free 2
    have kR3 := Lib.hid (((kR.out.set 0 (.bool false)).set 1 (.int .i64 0)).set 2 (.int .i64 0))
    have kF1 := Lib.hid (((kF.out.set_other (a := ⟨w.heap.size + 1, 0, none⟩) (by show w.heap.size + 1 ≠ _; omega) (.bool false)).set_other (a := ⟨w.heap.size + 1, 1, none⟩) (by show w.heap.size + 1 ≠ _; omega) (.int .i64 0)).set_other (a := ⟨w.heap.size + 1, 2, none⟩) (by show w.heap.size + 1 ≠ _; omega) (.int .i64 0))
    obtain ⟨u0, u1, u2, u3, u4⟩ := kF1.out.cells5
    have v0 := kF1.out.free 0
    have v1 := kF1.out.free 1
    have v2 := kF1.out.free 2
    have v3 := kF1.out.free 3
    have v4 := kF1.out.free 4
    go_wp2_with fail
    have kF5 := ((((kF1.out.set 0 (.int .i64 15)).set 1 (.int .i64 0)).set 2 (.int .i64 0)).set 3 (.int .i64 0)).set 4 (.slice none 0 0)
    obtain ⟨q0, q1, q2, q3, q4⟩ := kF5.cells5
    have kR8 := ((((kR3.out.set_other (a := ⟨w.heap.size + 1 + 1, 0, none⟩) (by show w.heap.size + 1 + 1 ≠ _; omega) (.int .i64 15)).set_other (a := ⟨w.heap.size + 1 + 1, 1, none⟩) (by show w.heap.size + 1 + 1 ≠ _; omega) (.int .i64 0)).set_other (a := ⟨w.heap.size + 1 + 1, 2, none⟩) (by show w.heap.size + 1 + 1 ≠ _; omega) (.int .i64 0)).set_other (a := ⟨w.heap.size + 1 + 1, 3, none⟩) (by show w.heap.size + 1 + 1 ≠ _; omega) (.int .i64 0)).set_other (a := ⟨w.heap.size + 1 + 1, 4, none⟩) (by show w.heap.size + 1 + 1 ≠ _; omega) (.slice none 0 0)
    obtain ⟨p0, p1, p2⟩ := kR8.cells3
    refine bodyPost_ret (v := .tuple #[.agg #[.bool false, .int .i64 0, .int .i64 0], ftv 15]) ?_ rfl ⟨rfl, Below.trans (B := w.heap.size) X2.out (by go_grown)⟩
    simp [results, Tryd.results10, go_sem, q0, q1, q2, q3, q4, p0, p1, p2]
end Go.Proofs.YtnmdfhnfheekgaaDoor
