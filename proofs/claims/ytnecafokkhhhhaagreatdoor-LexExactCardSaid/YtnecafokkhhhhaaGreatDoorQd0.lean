/- bolterref4: one (rone_lf). -/
import Derived.Test.YtnecafokkhhhhaaGreatDoorQb4
namespace Go.Proofs.YtnecafokkhhhhaaGreatDoor
open Go Go.RowKit
theorem rest_ne {s : ByteArray} {k : Nat} {C : UInt8} (hC : rest s k = C :: rest s (k + 1)) : k < s.size := by
  rcases Nat.lt_or_ge k s.size with h | h
  · exact h
  · rw [lx_end s k h] at hC; cases hC
set_option maxHeartbeats 4000000 in
set_option maxRecDepth 20000 in
theorem rone_lf (s : ByteArray) (k : Nat) (hs : s.size ≤ 65536) (C : UInt8) (hC : rest s k = C :: rest s (k + 1)) (h10 : C.toNat = 10) (w : World) :
    Calls Tryz.prog 10 #[.string s, .int .i64 (k : Int)] w fun e w' => e = .returned (.tuple #[.agg (lcs (6) ((k : Int)) ((k : Int) + 1) (⟨#[]⟩) (0) (0) (0) (0) (0)), fag 0 0]) ∧ Ext w w' := by
  have hk := rest_ne hC
  have hix := idx_at s k (k : Int) rfl C _ hC
  have hx0 : Ext w (((w.alloc (.cells lxz 38)).alloc (.cells fzer 25)).alloc (.cells (lcs 0 (k : Int) ((k : Int) + 1) ⟨#[]⟩ 0 0 0 0 0) 38)) := by (repeat' (first | (with_reducible exact Below.refl _ _) | (with_reducible assumption) | (with_reducible refine below_drewN ?_ _) | (with_reducible refine Below.alloc ?_ ?_ _) | (with_reducible refine Below.drew ?_) | (with_reducible refine Below.setCell ?_ ?_ _) | (with_reducible refine Below.trans ?_ (Below.mono (by with_reducible assumption) ?_)) | go_size))
  have HE := Lib.hid hx0
  have HR := Lib.hid (((Blk.new w lxz 38).alloc (.cells fzer 25)).alloc (.cells (lcs 0 (k : Int) ((k : Int) + 1) ⟨#[]⟩ 0 0 0 0 0) 38))
  have HF := Lib.hid (show Blk (((w.alloc (.cells lxz 38)).alloc (.cells fzer 25)).alloc (.cells (lcs 0 (k : Int) ((k : Int) + 1) ⟨#[]⟩ 0 0 0 0 0) 38)) (w.heap.size + 1) fzer 25 from by
    have := (Blk.new (w.alloc (.cells lxz 38)) fzer 25).alloc (.cells (lcs 0 (k : Int) ((k : Int) + 1) ⟨#[]⟩ 0 0 0 0 0) 38)
    simp only [World.size_alloc] at this
    exact this)
  have HX := Lib.hid (show Blk (((w.alloc (.cells lxz 38)).alloc (.cells fzer 25)).alloc (.cells (lcs 0 (k : Int) ((k : Int) + 1) ⟨#[]⟩ 0 0 0 0 0) 38)) (w.heap.size + 2) (lcs 0 (k : Int) ((k : Int) + 1) ⟨#[]⟩ 0 0 0 0 0) 38 from by
    have := Blk.new ((w.alloc (.cells lxz 38)).alloc (.cells fzer 25)) (lcs 0 (k : Int) ((k : Int) + 1) ⟨#[]⟩ 0 0 0 0 0) 38
    simp only [World.size_alloc] at this
    exact this)
  clear hx0
  have e10 : ((C.toNat : Int) == 10) = true := by simp; omega
  go_enter Tryz.func10, Tryz.ntmps10
  go_upto_region 2 with fail
  generalize ((w.alloc (.cells lxz 38)).alloc (.cells fzer 25)).alloc (.cells (lcs 0 (k : Int) ((k : Int) + 1) ⟨#[]⟩ 0 0 0 0 0) 38) = w1 at HX HR HF HE ⊢
  have kX := HX.out
  have x0 := kX.cell 0
  have fx0 := kX.free 0
  have hltX := kX.lt
  replace HX := Lib.hid (show Blk (w1.setCell ⟨w.heap.size + 2, 0, none⟩ (.int .i64 6)) (w.heap.size + 2) (lcs (6) ((k : Int)) ((k : Int) + 1) (⟨#[]⟩) (0) (0) (0) (0) (0)) 38 from (kX.set 0 (.int .i64 6)))
  replace HR := Lib.hid (HR.out.set_other (a := ⟨w.heap.size + 2, 0, none⟩) (by show w.heap.size + 2 ≠ w.heap.size; omega) (.int .i64 6))
  replace HF := Lib.hid (HF.out.set_other (a := ⟨w.heap.size + 2, 0, none⟩) (by show w.heap.size + 2 ≠ w.heap.size + 1; omega) (.int .i64 6))
  replace HE := Lib.hid (show Ext w (w1.setCell ⟨w.heap.size + 2, 0, none⟩ (.int .i64 6)) from (HE.out.setCell (p := ⟨w.heap.size + 2, 0, none⟩) (by show w.heap.size ≤ w.heap.size + 2; omega) (.int .i64 6)))
  clear kX
  go_upto_region 35 with fail
  generalize (w1.setCell ⟨w.heap.size + 2, 0, none⟩ (.int .i64 6)) = w2 at HX HR HF HE ⊢
  clear x0 fx0 hltX
  have kX := HX.out
  have x0 := kX.cell 0
  have x1 := kX.cell 1
  have x2 := kX.cell 2
  have x3 := kX.cell 3
  have x4 := kX.cell 4
  have x5 := kX.cell 5
  have x6 := kX.cell 6
  have x7 := kX.cell 7
  have x8 := kX.cell 8
  have kR := HR.out
  have z0 := kR.cell 0
  have z1 := kR.cell 1
  have z2 := kR.cell 2
  have z3 := kR.cell 3
  have z4 := kR.cell 4
  have z5 := kR.cell 5
  have z6 := kR.cell 6
  have z7 := kR.cell 7
  have z8 := kR.cell 8
  have f0 := kR.free 0
  have f1 := kR.free 1
  have f2 := kR.free 2
  have f3 := kR.free 3
  have f4 := kR.free 4
  have f5 := kR.free 5
  have f6 := kR.free 6
  have f7 := kR.free 7
  have f8 := kR.free 8
  have hltR := kR.lt
  have kF := HF.out
  have q0 := kF.cell 0
  have q1 := kF.cell 1
  have q2 := kF.cell 2
  have q3 := kF.cell 3
  have q4 := kF.cell 4
  have g0 := kF.free 0
  have g1 := kF.free 1
  have g2 := kF.free 2
  have g3 := kF.free 3
  have g4 := kF.free 4
  have hltF := kF.lt
  have KR := Lib.hid ((kR.sto9 (.int .i64 (6)) (.int .i64 ((k : Int))) (.int .i64 ((k : Int) + 1)) (.string (⟨#[]⟩)) (.int .i64 (0)) (.int .u64 (0)) (.int .u64 (0)) (.int .u64 (0)) (.int .u64 (0))).oth5 (b := w.heap.size + 1) (by omega) (.int .i64 (0)) (.int .i64 0) (.int .i64 0) (.int .i64 (0)) (.slice none 0 0))
  have KF := Lib.hid ((kF.oth9 (b := w.heap.size) (by omega) (.int .i64 (6)) (.int .i64 ((k : Int))) (.int .i64 ((k : Int) + 1)) (.string (⟨#[]⟩)) (.int .i64 (0)) (.int .u64 (0)) (.int .u64 (0)) (.int .u64 (0)) (.int .u64 (0))).store5 (.int .i64 (0)) (.int .i64 0) (.int .i64 0) (.int .i64 (0)) (.slice none 0 0))
  have EZ := Lib.hid (ext_set5 (ext_set9 HE.out (b := w.heap.size) (by omega) (.int .i64 (6)) (.int .i64 ((k : Int))) (.int .i64 ((k : Int) + 1)) (.string (⟨#[]⟩)) (.int .i64 (0)) (.int .u64 (0)) (.int .u64 (0)) (.int .u64 (0)) (.int .u64 (0))) (b := w.heap.size + 1) (by omega) (.int .i64 (0)) (.int .i64 0) (.int .i64 0) (.int .i64 (0)) (.slice none 0 0))
  clear kX kR kF HR HF HX HE
  go_wp2_with fail
  have y0 := (KR.out).cell 0
  have y1 := (KR.out).cell 1
  have y2 := (KR.out).cell 2
  have y3 := (KR.out).cell 3
  have y4 := (KR.out).cell 4
  have y5 := (KR.out).cell 5
  have y6 := (KR.out).cell 6
  have y7 := (KR.out).cell 7
  have y8 := (KR.out).cell 8
  have t0 := (KF.out).cell 0
  have t1 := (KF.out).cell 1
  have t2 := (KF.out).cell 2
  have t3 := (KF.out).cell 3
  have t4 := (KF.out).cell 4
  refine bodyPost_ret (v := .tuple #[.agg #[.int .i64 (6), .int .i64 ((k : Int)), .int .i64 ((k : Int) + 1), .string (⟨#[]⟩), .int .i64 (0), .int .u64 (0), .int .u64 (0), .int .u64 (0), .int .u64 (0)], fag (0) (0)]) ?_ rfl ?_
  · simp [results, Tryz.results10, go_sem, y0, y1, y2, y3, y4, y5, y6, y7, y8, t0, t1, t2, t3, t4]
  · exact ⟨rfl, EZ.out⟩
end Go.Proofs.YtnecafokkhhhhaaGreatDoor
