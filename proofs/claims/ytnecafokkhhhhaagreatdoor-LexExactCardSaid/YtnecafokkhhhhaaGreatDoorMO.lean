/- bolterref4: one (rone_quo). -/
import Derived.Test.YtnecafokkhhhhaaGreatDoorQd0
namespace Go.Proofs.YtnecafokkhhhhaaGreatDoor
open Go Go.RowKit
set_option maxHeartbeats 4000000 in
set_option maxRecDepth 20000 in
theorem rone_num (s : ByteArray) (k : Nat) (hs : s.size ≤ 65536) (C : UInt8) (hC : rest s k = C :: rest s (k + 1)) (h10 : C.toNat ≠ 10) (hl : ltr C.toNat = false) (hd : dgt C.toNat = true) (n : Nat) (hn : run dgt (rest s k) = n) (N0 : Nat) (hN0 : num ((rest s k).take n) = N0) (w : World) :
    Calls Tryz.prog 10 #[.string s, .int .i64 (k : Int)] w fun e w' => e = .returned (.tuple #[.agg (lcs (2) ((k : Int)) ((k : Int) + (n : Int)) (⟨#[]⟩) ((N0 : Int)) (0) (0) (0) (0)), fag 0 0]) ∧ Ext w w' := by
  have hk := rest_ne hC
  have hix := idx_at s k (k : Int) rfl C _ hC
  have hx0 : Ext w (((w.alloc (.cells lxz 38)).alloc (.cells fzer 25)).alloc (.cells (lcs 0 (k : Int) ((k : Int) + 1) ⟨#[]⟩ 0 0 0 0 0) 38)) := by (repeat' (first | (with_reducible exact Below.refl _ _) | (with_reducible assumption) | (with_reducible refine below_drewN ?_ _) | (with_reducible refine Below.alloc ?_ ?_ _) | (with_reducible refine Below.drew ?_) | (with_reducible refine Below.setCell ?_ ?_ _) | (with_reducible refine Below.trans ?_ (Below.mono (by with_reducible assumption) ?_)) | go_size))
  have HE := Lib.hid hx0
  have HR := Lib.hid (((Blk.new w lxz 38).alloc (.cells fzer 25)).alloc (.cells (lcs 0 (k : Int) ((k : Int) + 1) ⟨#[]⟩ 0 0 0 0 0) 38))
  have HF := Lib.hid (show Blk (((w.alloc (.cells lxz 38)).alloc (.cells fzer 25)).alloc (.cells (lcs 0 (k : Int) ((k : Int) + 1) ⟨#[]⟩ 0 0 0 0 0) 38)) (w.heap.size + 1) fzer 25 from by
    have := (Blk.new (w.alloc (.cells lxz 38)) fzer 25).alloc (.cells (lcs 0 (k : Int) ((k : Int) + 1) ⟨#[]⟩ 0 0 0 0 0) 38)
    simp only [World.size_alloc] at this
    exact this)
  have HX := Lib.hid (show Blk (((w.alloc (.cells lxz 38)).alloc (.cells fzer 25)).alloc (.cells (lcs 0 (k : Int) ((k : Int) + 1) ⟨#[]⟩ 0 0 0 0 0) 38)) (w.heap.size + 2) (lcs 0 (k : Int) ((k : Int) + 1) ⟨#[]⟩ 0 0 0 0 0) 38 from by
    have := Blk.new ((w.alloc (.cells lxz 38)).alloc (.cells fzer 25)) (lcs 0 (k : Int) ((k : Int) + 1) ⟨#[]⟩ 0 0 0 0 0) 38
    simp only [World.size_alloc] at this
    exact this)
  clear hx0
  have e10 : ((C.toNat : Int) == 10) = false := by simp; omega
  have HLT := Lib.hid (fun w => qletter_any C.toNat false hl w)
  have HDT := Lib.hid (fun w => qdigit_any C.toNat true hd w)
  have hnl : k + n ≤ s.size := by have := run_le dgt (rest s k); have := rest_len (Nat.le_of_lt hk); omega
  have HNM := Lib.hid (fun w => qnumber_any (s.extract k (k + n)) (by
    have e : rest (s.extract k (k + n)) 0 = (rest s k).take n := ext_lst s k n
    rw [e, ← hn, run_take]
    exact fun c hc => mem_tw (fun c : UInt8 => dgt c.toNat) _ _ hc) (by rw [ByteArray.size_extract]; omega) N0 (by
    have e : rest (s.extract k (k + n)) 0 = (rest s k).take n := ext_lst s k n
    rw [e]; exact hN0) w)
  have hn2 := hn
  rw [hC, run_cons_true dgt C _ hd] at hn2
  have hn1 : 1 ≤ n := by omega
  have HN1 := Lib.hid (show 1 + run dgt (rest s (k + 1)) = n by omega)
  clear hn hn2 hl hd hN0
  go_enter Tryz.func10, Tryz.ntmps10
  go_upto_region 2 with fail
  generalize ((w.alloc (.cells lxz 38)).alloc (.cells fzer 25)).alloc (.cells (lcs 0 (k : Int) ((k : Int) + 1) ⟨#[]⟩ 0 0 0 0 0) 38) = w1 at HX HR HF HE ⊢
  go_wp2_with fail
  refine (HLT.out _).mono ?_
  rintro e w2 ⟨rfl, rfl⟩
  clear HLT
  go_wp2_with fail
  refine (HDT.out _).mono ?_
  rintro e w2 ⟨rfl, rfl⟩
  clear HDT
  go_wp2_with fail
  clear hix e10
  go_loopg [] (n + 1) (fun g wr => ∃ j : Nat, 1 ≤ j ∧ j ≤ n ∧ n < j + g ∧ Hid (j + run dgt (rest s (k + j)) = n) ∧ Hid (Blk wr (w.heap.size + 2) (lcs 0 (k : Int) ((k : Int) + (j : Int)) ⟨#[]⟩ 0 0 0 0 0) 38) ∧ Hid (Blk wr (w.heap.size) lxz 38) ∧ Hid (Blk wr (w.heap.size + 1) fzer 25) ∧ Hid (Ext w wr))
  case atStart => exact ⟨1, by omega, hn1, by omega, HN1, HX, HR, HF, HE⟩
  case round =>
    clear HX HR HF HE HN1
    obtain ⟨j, hj1, hjn, hjg, hN, HX, HR, HF, HE⟩ := hrel
    obtain ⟨g, rfl⟩ : ∃ g, gk = g + 1 := ⟨gk - 1, by omega⟩
    have kX := HX.out
    have x2 := kX.cell 2
    have fx2 := kX.free 2
    have hltX := kX.lt
    clear kX
    by_cases hks : k + j < s.size
    · have d1 : decide ((k : Int) + (j : Int) < (s.size : Int)) = true := by simp; omega
      obtain ⟨D, hD⟩ := lx_unc s (k + j) hks
      have hix := idx_at s (k + j) ((k : Int) + (j : Int)) (by omega) D _ hD
      have hrn := hN.out
      rw [hD] at hrn
      cases hd : dgt D.toNat with
      | true =>
        have HD2 := Lib.hid (fun w => qdigit_any D.toNat true hd w)
        rw [run_cons_true dgt D _ hd] at hrn
        have HN2 := Lib.hid (show j + 1 + run dgt (rest s (k + (j + 1))) = n from by rw [← Nat.add_assoc]; omega)
        have hj2 : j + 1 ≤ n := by omega
        have HX2 := Lib.hid (show Blk (wr.setCell ⟨w.heap.size + 2, 2, none⟩ (.int .i64 ((k : Int) + (j : Int) + 1))) (w.heap.size + 2) (lcs 0 (k : Int) ((k : Int) + ((j + 1 : Nat) : Int)) ⟨#[]⟩ 0 0 0 0 0) 38 from by
          rw [show (k : Int) + ((j + 1 : Nat) : Int) = (k : Int) + (j : Int) + 1 by omega]
          exact HX.out.set 2 _)
        have HR2 := Lib.hid (HR.out.set_other (a := ⟨w.heap.size + 2, 2, none⟩) (by show w.heap.size + 2 ≠ w.heap.size; omega) (.int .i64 ((k : Int) + (j : Int) + 1)))
        have HF2 := Lib.hid (HF.out.set_other (a := ⟨w.heap.size + 2, 2, none⟩) (by show w.heap.size + 2 ≠ w.heap.size + 1; omega) (.int .i64 ((k : Int) + (j : Int) + 1)))
        have HE2 := Lib.hid (HE.out.setCell (p := ⟨w.heap.size + 2, 2, none⟩) (by show w.heap.size ≤ w.heap.size + 2; omega) (.int .i64 ((k : Int) + (j : Int) + 1)))
        clear hrn hN hD HX HR HF HE
        go_wp2_with (go_at_call 15; refine (HD2.out _).mono ?_; rintro e w9 ⟨rfl, rfl⟩)
        go_roundg g
        case rel => exact ⟨j + 1, by omega, hj2, by omega, HN2, HX2, HR2, HF2, HE2⟩
        case measure => exact Nat.lt_succ_self g
      | false =>
        have HD2 := Lib.hid (fun w => qdigit_any D.toNat false hd w)
        have hjj : j = n := by rw [run_cons_false dgt D _ hd] at hrn; omega
        subst hjj
        clear hrn hN hD hjg hjn
        have s0 : (0 : Int) ≤ (k : Int) := by omega
        have s1 : (k : Int) ≤ (k : Int) + (j : Int) := by omega
        have s2 : (k : Int) + (j : Int) ≤ (s.size : Int) := by omega
        have s3 : ((k : Int) + (j : Int)).toNat = k + j := by omega
        have kX := HX.out
        have x0 := kX.cell 0
        have x2 := kX.cell 2
        have x4 := kX.cell 4
        have fx0 := kX.free 0
        have fx2 := kX.free 2
        have fx4 := kX.free 4
        have hltX := kX.lt
        replace HX := Lib.hid (show Blk ((wr.setCell ⟨w.heap.size + 2, 0, none⟩ (.int .i64 2)).setCell ⟨w.heap.size + 2, 4, none⟩ (.int .i64 (N0 : Int))) (w.heap.size + 2) (lcs (2) ((k : Int)) ((k : Int) + (j : Int)) (⟨#[]⟩) ((N0 : Int)) (0) (0) (0) (0)) 38 from ((kX.set 0 (.int .i64 2)).set 4 (.int .i64 (N0 : Int))))
        replace HR := Lib.hid ((HR.out.set_other (a := ⟨w.heap.size + 2, 0, none⟩) (by show w.heap.size + 2 ≠ w.heap.size; omega) (.int .i64 2)).set_other (a := ⟨w.heap.size + 2, 4, none⟩) (by show w.heap.size + 2 ≠ w.heap.size; omega) (.int .i64 (N0 : Int)))
        replace HF := Lib.hid ((HF.out.set_other (a := ⟨w.heap.size + 2, 0, none⟩) (by show w.heap.size + 2 ≠ w.heap.size + 1; omega) (.int .i64 2)).set_other (a := ⟨w.heap.size + 2, 4, none⟩) (by show w.heap.size + 2 ≠ w.heap.size + 1; omega) (.int .i64 (N0 : Int)))
        replace HE := Lib.hid (show Ext w ((wr.setCell ⟨w.heap.size + 2, 0, none⟩ (.int .i64 2)).setCell ⟨w.heap.size + 2, 4, none⟩ (.int .i64 (N0 : Int))) from ((HE.out.setCell (p := ⟨w.heap.size + 2, 0, none⟩) (by show w.heap.size ≤ w.heap.size + 2; omega) (.int .i64 2)).setCell (p := ⟨w.heap.size + 2, 4, none⟩) (by show w.heap.size ≤ w.heap.size + 2; omega) (.int .i64 (N0 : Int))))
        clear kX
        go_upto_region 35 with (first | (go_at_call 15; refine (HD2.out _).mono ?_; rintro e w9 ⟨rfl, rfl⟩) | (go_at_call 17; refine (HNM.out _).mono ?_; rintro e w9 ⟨rfl, rfl⟩))
        generalize ((wr.setCell ⟨w.heap.size + 2, 0, none⟩ (.int .i64 2)).setCell ⟨w.heap.size + 2, 4, none⟩ (.int .i64 (N0 : Int))) = wz at HX HR HF HE ⊢
        clear x0 x2 x4 fx0 fx2 fx4 hltX
        have kX := HX.out
        have x0 := kX.cell 0
        have x1 := kX.cell 1
        have x2 := kX.cell 2
        have x3 := kX.cell 3
        have x4 := kX.cell 4
        have x5 := kX.cell 5
        have x6 := kX.cell 6
        have x7 := kX.cell 7
        have x8 := kX.cell 8
        have kR := HR.out
        have z0 := kR.cell 0
        have z1 := kR.cell 1
        have z2 := kR.cell 2
        have z3 := kR.cell 3
        have z4 := kR.cell 4
        have z5 := kR.cell 5
        have z6 := kR.cell 6
        have z7 := kR.cell 7
        have z8 := kR.cell 8
        have f0 := kR.free 0
        have f1 := kR.free 1
        have f2 := kR.free 2
        have f3 := kR.free 3
        have f4 := kR.free 4
        have f5 := kR.free 5
        have f6 := kR.free 6
        have f7 := kR.free 7
        have f8 := kR.free 8
        have hltR := kR.lt
        have kF := HF.out
        have q0 := kF.cell 0
        have q1 := kF.cell 1
        have q2 := kF.cell 2
        have q3 := kF.cell 3
        have q4 := kF.cell 4
        have g0 := kF.free 0
        have g1 := kF.free 1
        have g2 := kF.free 2
        have g3 := kF.free 3
        have g4 := kF.free 4
        have hltF := kF.lt
        have KR := Lib.hid ((kR.sto9 (.int .i64 (2)) (.int .i64 ((k : Int))) (.int .i64 ((k : Int) + (j : Int))) (.string (⟨#[]⟩)) (.int .i64 ((N0 : Int))) (.int .u64 (0)) (.int .u64 (0)) (.int .u64 (0)) (.int .u64 (0))).oth5 (b := w.heap.size + 1) (by omega) (.int .i64 (0)) (.int .i64 0) (.int .i64 0) (.int .i64 (0)) (.slice none 0 0))
        have KF := Lib.hid ((kF.oth9 (b := w.heap.size) (by omega) (.int .i64 (2)) (.int .i64 ((k : Int))) (.int .i64 ((k : Int) + (j : Int))) (.string (⟨#[]⟩)) (.int .i64 ((N0 : Int))) (.int .u64 (0)) (.int .u64 (0)) (.int .u64 (0)) (.int .u64 (0))).store5 (.int .i64 (0)) (.int .i64 0) (.int .i64 0) (.int .i64 (0)) (.slice none 0 0))
        have EZ := Lib.hid (ext_set5 (ext_set9 HE.out (b := w.heap.size) (by omega) (.int .i64 (2)) (.int .i64 ((k : Int))) (.int .i64 ((k : Int) + (j : Int))) (.string (⟨#[]⟩)) (.int .i64 ((N0 : Int))) (.int .u64 (0)) (.int .u64 (0)) (.int .u64 (0)) (.int .u64 (0))) (b := w.heap.size + 1) (by omega) (.int .i64 (0)) (.int .i64 0) (.int .i64 0) (.int .i64 (0)) (.slice none 0 0))
        clear kX kR kF HR HF HX HE
        go_wp2_with fail
        have y0 := (KR.out).cell 0
        have y1 := (KR.out).cell 1
        have y2 := (KR.out).cell 2
        have y3 := (KR.out).cell 3
        have y4 := (KR.out).cell 4
        have y5 := (KR.out).cell 5
        have y6 := (KR.out).cell 6
        have y7 := (KR.out).cell 7
        have y8 := (KR.out).cell 8
        have t0 := (KF.out).cell 0
        have t1 := (KF.out).cell 1
        have t2 := (KF.out).cell 2
        have t3 := (KF.out).cell 3
        have t4 := (KF.out).cell 4
        refine bodyPost_ret (v := .tuple #[.agg #[.int .i64 (2), .int .i64 ((k : Int)), .int .i64 ((k : Int) + (j : Int)), .string (⟨#[]⟩), .int .i64 ((N0 : Int)), .int .u64 (0), .int .u64 (0), .int .u64 (0), .int .u64 (0)], fag (0) (0)]) ?_ rfl ?_
        · simp [results, Tryz.results10, go_sem, y0, y1, y2, y3, y4, y5, y6, y7, y8, t0, t1, t2, t3, t4]
        · exact ⟨rfl, EZ.out⟩
    · have d1 : decide ((k : Int) + (j : Int) < (s.size : Int)) = false := by simp; omega
      have hjj : j = n := by
        have := hN.out
        rw [lx_end s (k + j) (by omega)] at this
        simpa [run] using this
      subst hjj
      clear hN hjg hjn
      have s0 : (0 : Int) ≤ (k : Int) := by omega
      have s1 : (k : Int) ≤ (k : Int) + (j : Int) := by omega
      have s2 : (k : Int) + (j : Int) ≤ (s.size : Int) := by omega
      have s3 : ((k : Int) + (j : Int)).toNat = k + j := by omega
      have kX := HX.out
      have x0 := kX.cell 0
      have x2 := kX.cell 2
      have x4 := kX.cell 4
      have fx0 := kX.free 0
      have fx2 := kX.free 2
      have fx4 := kX.free 4
      have hltX := kX.lt
      replace HX := Lib.hid (show Blk ((wr.setCell ⟨w.heap.size + 2, 0, none⟩ (.int .i64 2)).setCell ⟨w.heap.size + 2, 4, none⟩ (.int .i64 (N0 : Int))) (w.heap.size + 2) (lcs (2) ((k : Int)) ((k : Int) + (j : Int)) (⟨#[]⟩) ((N0 : Int)) (0) (0) (0) (0)) 38 from ((kX.set 0 (.int .i64 2)).set 4 (.int .i64 (N0 : Int))))
      replace HR := Lib.hid ((HR.out.set_other (a := ⟨w.heap.size + 2, 0, none⟩) (by show w.heap.size + 2 ≠ w.heap.size; omega) (.int .i64 2)).set_other (a := ⟨w.heap.size + 2, 4, none⟩) (by show w.heap.size + 2 ≠ w.heap.size; omega) (.int .i64 (N0 : Int)))
      replace HF := Lib.hid ((HF.out.set_other (a := ⟨w.heap.size + 2, 0, none⟩) (by show w.heap.size + 2 ≠ w.heap.size + 1; omega) (.int .i64 2)).set_other (a := ⟨w.heap.size + 2, 4, none⟩) (by show w.heap.size + 2 ≠ w.heap.size + 1; omega) (.int .i64 (N0 : Int)))
      replace HE := Lib.hid (show Ext w ((wr.setCell ⟨w.heap.size + 2, 0, none⟩ (.int .i64 2)).setCell ⟨w.heap.size + 2, 4, none⟩ (.int .i64 (N0 : Int))) from ((HE.out.setCell (p := ⟨w.heap.size + 2, 0, none⟩) (by show w.heap.size ≤ w.heap.size + 2; omega) (.int .i64 2)).setCell (p := ⟨w.heap.size + 2, 4, none⟩) (by show w.heap.size ≤ w.heap.size + 2; omega) (.int .i64 (N0 : Int))))
      clear kX
      go_upto_region 35 with (go_at_call 17; refine (HNM.out _).mono ?_; rintro e w9 ⟨rfl, rfl⟩)
      generalize ((wr.setCell ⟨w.heap.size + 2, 0, none⟩ (.int .i64 2)).setCell ⟨w.heap.size + 2, 4, none⟩ (.int .i64 (N0 : Int))) = wz at HX HR HF HE ⊢
      clear x0 x2 x4 fx0 fx2 fx4 hltX
      have kX := HX.out
      have x0 := kX.cell 0
      have x1 := kX.cell 1
      have x2 := kX.cell 2
      have x3 := kX.cell 3
      have x4 := kX.cell 4
      have x5 := kX.cell 5
      have x6 := kX.cell 6
      have x7 := kX.cell 7
      have x8 := kX.cell 8
      have kR := HR.out
      have z0 := kR.cell 0
      have z1 := kR.cell 1
      have z2 := kR.cell 2
      have z3 := kR.cell 3
      have z4 := kR.cell 4
      have z5 := kR.cell 5
      have z6 := kR.cell 6
      have z7 := kR.cell 7
      have z8 := kR.cell 8
      have f0 := kR.free 0
      have f1 := kR.free 1
      have f2 := kR.free 2
      have f3 := kR.free 3
      have f4 := kR.free 4
      have f5 := kR.free 5
      have f6 := kR.free 6
      have f7 := kR.free 7
      have f8 := kR.free 8
      have hltR := kR.lt
      have kF := HF.out
      have q0 := kF.cell 0
      have q1 := kF.cell 1
      have q2 := kF.cell 2
      have q3 := kF.cell 3
      have q4 := kF.cell 4
      have g0 := kF.free 0
      have g1 := kF.free 1
      have g2 := kF.free 2
      have g3 := kF.free 3
      have g4 := kF.free 4
      have hltF := kF.lt
      have KR := Lib.hid ((kR.sto9 (.int .i64 (2)) (.int .i64 ((k : Int))) (.int .i64 ((k : Int) + (j : Int))) (.string (⟨#[]⟩)) (.int .i64 ((N0 : Int))) (.int .u64 (0)) (.int .u64 (0)) (.int .u64 (0)) (.int .u64 (0))).oth5 (b := w.heap.size + 1) (by omega) (.int .i64 (0)) (.int .i64 0) (.int .i64 0) (.int .i64 (0)) (.slice none 0 0))
      have KF := Lib.hid ((kF.oth9 (b := w.heap.size) (by omega) (.int .i64 (2)) (.int .i64 ((k : Int))) (.int .i64 ((k : Int) + (j : Int))) (.string (⟨#[]⟩)) (.int .i64 ((N0 : Int))) (.int .u64 (0)) (.int .u64 (0)) (.int .u64 (0)) (.int .u64 (0))).store5 (.int .i64 (0)) (.int .i64 0) (.int .i64 0) (.int .i64 (0)) (.slice none 0 0))
      have EZ := Lib.hid (ext_set5 (ext_set9 HE.out (b := w.heap.size) (by omega) (.int .i64 (2)) (.int .i64 ((k : Int))) (.int .i64 ((k : Int) + (j : Int))) (.string (⟨#[]⟩)) (.int .i64 ((N0 : Int))) (.int .u64 (0)) (.int .u64 (0)) (.int .u64 (0)) (.int .u64 (0))) (b := w.heap.size + 1) (by omega) (.int .i64 (0)) (.int .i64 0) (.int .i64 0) (.int .i64 (0)) (.slice none 0 0))
      clear kX kR kF HR HF HX HE
      go_wp2_with fail
      have y0 := (KR.out).cell 0
      have y1 := (KR.out).cell 1
      have y2 := (KR.out).cell 2
      have y3 := (KR.out).cell 3
      have y4 := (KR.out).cell 4
      have y5 := (KR.out).cell 5
      have y6 := (KR.out).cell 6
      have y7 := (KR.out).cell 7
      have y8 := (KR.out).cell 8
      have t0 := (KF.out).cell 0
      have t1 := (KF.out).cell 1
      have t2 := (KF.out).cell 2
      have t3 := (KF.out).cell 3
      have t4 := (KF.out).cell 4
      refine bodyPost_ret (v := .tuple #[.agg #[.int .i64 (2), .int .i64 ((k : Int)), .int .i64 ((k : Int) + (j : Int)), .string (⟨#[]⟩), .int .i64 ((N0 : Int)), .int .u64 (0), .int .u64 (0), .int .u64 (0), .int .u64 (0)], fag (0) (0)]) ?_ rfl ?_
      · simp [results, Tryz.results10, go_sem, y0, y1, y2, y3, y4, y5, y6, y7, y8, t0, t1, t2, t3, t4]
      · exact ⟨rfl, EZ.out⟩

end Go.Proofs.YtnecafokkhhhhaaGreatDoor
namespace Go.Proofs.YtnecafokkhhhhaaGreatDoor
open Go Go.RowKit
set_option maxHeartbeats 4000000 in
set_option maxRecDepth 20000 in
theorem rone_quo_no (s : ByteArray) (k : Nat) (hs : s.size ≤ 65536) (C : UInt8) (hC : rest s k = C :: rest s (k + 1)) (h34 : C.toNat = 34) (q : Nat) (hx : quq unq (rest s k) k = .inl q) (w : World) :
    Calls Tryz.prog 10 #[.string s, .int .i64 (k : Int)] w fun e w' => ∃ (kd a en : Int) (T : ByteArray) (n x0 x1 x2 x3 : Int), e = .returned (.tuple #[.agg (lcs kd a en T n x0 x1 x2 x3), fag 3 (q : Int)]) ∧ Ext w w' := by
  have hk := rest_ne hC
  have hix := idx_at s k (k : Int) rfl C _ hC
  have hx0 : Ext w (((w.alloc (.cells lxz 38)).alloc (.cells fzer 25)).alloc (.cells (lcs 0 (k : Int) ((k : Int) + 1) ⟨#[]⟩ 0 0 0 0 0) 38)) := by (repeat' (first | (with_reducible exact Below.refl _ _) | (with_reducible assumption) | (with_reducible refine below_drewN ?_ _) | (with_reducible refine Below.alloc ?_ ?_ _) | (with_reducible refine Below.drew ?_) | (with_reducible refine Below.setCell ?_ ?_ _) | (with_reducible refine Below.trans ?_ (Below.mono (by with_reducible assumption) ?_)) | go_size))
  have HE := Lib.hid hx0
  have HR := Lib.hid (((Blk.new w lxz 38).alloc (.cells fzer 25)).alloc (.cells (lcs 0 (k : Int) ((k : Int) + 1) ⟨#[]⟩ 0 0 0 0 0) 38))
  have HF := Lib.hid (show Blk (((w.alloc (.cells lxz 38)).alloc (.cells fzer 25)).alloc (.cells (lcs 0 (k : Int) ((k : Int) + 1) ⟨#[]⟩ 0 0 0 0 0) 38)) (w.heap.size + 1) fzer 25 from by
    have := (Blk.new (w.alloc (.cells lxz 38)) fzer 25).alloc (.cells (lcs 0 (k : Int) ((k : Int) + 1) ⟨#[]⟩ 0 0 0 0 0) 38)
    simp only [World.size_alloc] at this
    exact this)
  have HX := Lib.hid (show Blk (((w.alloc (.cells lxz 38)).alloc (.cells fzer 25)).alloc (.cells (lcs 0 (k : Int) ((k : Int) + 1) ⟨#[]⟩ 0 0 0 0 0) 38)) (w.heap.size + 2) (lcs 0 (k : Int) ((k : Int) + 1) ⟨#[]⟩ 0 0 0 0 0) 38 from by
    have := Blk.new ((w.alloc (.cells lxz 38)).alloc (.cells fzer 25)) (lcs 0 (k : Int) ((k : Int) + 1) ⟨#[]⟩ 0 0 0 0 0) 38
    simp only [World.size_alloc] at this
    exact this)
  clear hx0
  have hl : ltr C.toNat = false := by rw [h34]; decide
  have hd : dgt C.toNat = false := by rw [h34]; decide
  have e10 : ((C.toNat : Int) == 10) = false := by rw [h34]; rfl
  have HLT := Lib.hid (fun w => qletter_any C.toNat false hl w)
  have HDT := Lib.hid (fun w => qdigit_any C.toNat false hd w)
  clear hl hd
  have e34 : ((C.toNat : Int) == 34) = true := by rw [h34]; rfl
  have HUQ := Lib.hid (fun w => runq_any s (k : Int) (by omega) (.inl q) (by
    unfold uqs
    rw [show pos s (k : Int) = k by unfold pos; rw [if_neg (by omega)]; all_goals omega]
    exact hx) w)
  clear hx h34
  go_enter Tryz.func10, Tryz.ntmps10
  go_upto_region 2 with fail
  generalize ((w.alloc (.cells lxz 38)).alloc (.cells fzer 25)).alloc (.cells (lcs 0 (k : Int) ((k : Int) + 1) ⟨#[]⟩ 0 0 0 0 0) 38) = w1 at HX HR HF HE ⊢
  go_wp2_with fail
  refine (HLT.out _).mono ?_
  rintro e w2 ⟨rfl, rfl⟩
  go_wp2_with fail
  refine (HDT.out _).mono ?_
  rintro e w2 ⟨rfl, rfl⟩
  go_wp2_with fail
  clear HLT HDT
  refine (HUQ.out _).mono ?_
  rintro e w2 ⟨rfl, hE2⟩
  clear HUQ hix
  replace HX := Lib.hid (HX.out.ext hE2)
  replace HR := Lib.hid (HR.out.ext hE2)
  replace HF := Lib.hid (HF.out.ext hE2)
  replace HE := Lib.hid (bel_call HE.out hE2)
  clear hE2
  have hpb : w.heap.size + 2 < w2.heap.size := HX.out.lt
  have hE3 : Ext w2 (w2.alloc (.cells #[.int .i64 (3), .int .i64 0, .int .i64 0, .int .i64 ((q : Int)), .slice none 0 0] 25)) := by (repeat' (first | (with_reducible exact Below.refl _ _) | (with_reducible assumption) | (with_reducible refine below_drewN ?_ _) | (with_reducible refine Below.alloc ?_ ?_ _) | (with_reducible refine Below.drew ?_) | (with_reducible refine Below.setCell ?_ ?_ _) | (with_reducible refine Below.trans ?_ (Below.mono (by with_reducible assumption) ?_)) | go_size))
  have HB := Lib.hid (Blk.new w2 #[.int .i64 (3), .int .i64 0, .int .i64 0, .int .i64 ((q : Int)), .slice none 0 0] 25)
  replace HX := Lib.hid (HX.out.ext hE3)
  replace HR := Lib.hid (HR.out.ext hE3)
  replace HF := Lib.hid (HF.out.ext hE3)
  replace HE := Lib.hid (bel_call HE.out hE3)
  clear hE3
  go_upto_region 20 with fail
  generalize w2.heap.size = pb at hpb HB ⊢
  generalize w2.alloc (.cells #[.int .i64 (3), .int .i64 0, .int .i64 0, .int .i64 ((q : Int)), .slice none 0 0] 25) = w3 at HX HR HF HE HB ⊢
  have b0 := HB.out.cell 0
  have b1 := HB.out.cell 1
  have b2 := HB.out.cell 2
  have b3 := HB.out.cell 3
  have b4 := HB.out.cell 4
  have d3 : ((3 : Int) != 0) = true := rfl
  go_upto_region 21 with fail
  have kX := HX.out
  have x0 := kX.cell 0
  have x1 := kX.cell 1
  have x2 := kX.cell 2
  have x3 := kX.cell 3
  have x4 := kX.cell 4
  have x5 := kX.cell 5
  have x6 := kX.cell 6
  have x7 := kX.cell 7
  have x8 := kX.cell 8
  have kR := HR.out
  have z0 := kR.cell 0
  have z1 := kR.cell 1
  have z2 := kR.cell 2
  have z3 := kR.cell 3
  have z4 := kR.cell 4
  have z5 := kR.cell 5
  have z6 := kR.cell 6
  have z7 := kR.cell 7
  have z8 := kR.cell 8
  have f0 := kR.free 0
  have f1 := kR.free 1
  have f2 := kR.free 2
  have f3 := kR.free 3
  have f4 := kR.free 4
  have f5 := kR.free 5
  have f6 := kR.free 6
  have f7 := kR.free 7
  have f8 := kR.free 8
  have hltR := kR.lt
  have kF := HF.out
  have q0 := kF.cell 0
  have q1 := kF.cell 1
  have q2 := kF.cell 2
  have q3 := kF.cell 3
  have q4 := kF.cell 4
  have g0 := kF.free 0
  have g1 := kF.free 1
  have g2 := kF.free 2
  have g3 := kF.free 3
  have g4 := kF.free 4
  have hltF := kF.lt
  have KR := Lib.hid ((kR.sto9 (.int .i64 (0)) (.int .i64 ((k : Int))) (.int .i64 ((k : Int) + 1)) (.string (⟨#[]⟩)) (.int .i64 (0)) (.int .u64 (0)) (.int .u64 (0)) (.int .u64 (0)) (.int .u64 (0))).oth5 (b := w.heap.size + 1) (by omega) (.int .i64 (3)) (.int .i64 0) (.int .i64 0) (.int .i64 ((q : Int))) (.slice none 0 0))
  have KF := Lib.hid ((kF.oth9 (b := w.heap.size) (by omega) (.int .i64 (0)) (.int .i64 ((k : Int))) (.int .i64 ((k : Int) + 1)) (.string (⟨#[]⟩)) (.int .i64 (0)) (.int .u64 (0)) (.int .u64 (0)) (.int .u64 (0)) (.int .u64 (0))).store5 (.int .i64 (3)) (.int .i64 0) (.int .i64 0) (.int .i64 ((q : Int))) (.slice none 0 0))
  have EZ := Lib.hid (ext_set5 (ext_set9 HE.out (b := w.heap.size) (by omega) (.int .i64 (0)) (.int .i64 ((k : Int))) (.int .i64 ((k : Int) + 1)) (.string (⟨#[]⟩)) (.int .i64 (0)) (.int .u64 (0)) (.int .u64 (0)) (.int .u64 (0)) (.int .u64 (0))) (b := w.heap.size + 1) (by omega) (.int .i64 (3)) (.int .i64 0) (.int .i64 0) (.int .i64 ((q : Int))) (.slice none 0 0))
  clear kX kR kF HR HF HX HE
  go_wp2_with fail
  go_region
  have y0 := (KR.out.drew).cell 0
  have y1 := (KR.out.drew).cell 1
  have y2 := (KR.out.drew).cell 2
  have y3 := (KR.out.drew).cell 3
  have y4 := (KR.out.drew).cell 4
  have y5 := (KR.out.drew).cell 5
  have y6 := (KR.out.drew).cell 6
  have y7 := (KR.out.drew).cell 7
  have y8 := (KR.out.drew).cell 8
  have t0 := (KF.out.drew).cell 0
  have t1 := (KF.out.drew).cell 1
  have t2 := (KF.out.drew).cell 2
  have t3 := (KF.out.drew).cell 3
  have t4 := (KF.out.drew).cell 4
  replace EZ := Lib.hid (Below.drew EZ.out)
  go_wp2_with fail
  refine bodyPost_ret (v := .tuple #[.agg #[.int .i64 (0), .int .i64 ((k : Int)), .int .i64 ((k : Int) + 1), .string (⟨#[]⟩), .int .i64 (0), .int .u64 (0), .int .u64 (0), .int .u64 (0), .int .u64 (0)], fag (3) ((q : Int))]) ?_ rfl ?_
  · simp [results, Tryz.results10, go_sem, y0, y1, y2, y3, y4, y5, y6, y7, y8, t0, t1, t2, t3, t4]
  · exact ⟨_, _, _, _, _, _, _, _, _, rfl, EZ.out⟩
set_option maxHeartbeats 4000000 in
set_option maxRecDepth 20000 in
theorem rone_quo (s : ByteArray) (k : Nat) (hs : s.size ≤ 65536) (C : UInt8) (hC : rest s k = C :: rest s (k + 1)) (h34 : C.toNat = 34) (A : List UInt8) (m : Nat) (hx : quq unq (rest s k) k = .inr (A, m)) (w : World) :
    Calls Tryz.prog 10 #[.string s, .int .i64 (k : Int)] w fun e w' => e = .returned (.tuple #[.agg (lcs (3) ((k : Int)) ((m : Int)) (⟨A.toArray⟩) (0) (0) (0) (0) (0)), fag 0 0]) ∧ Ext w w' := by
  have hk := rest_ne hC
  have hix := idx_at s k (k : Int) rfl C _ hC
  have hx0 : Ext w (((w.alloc (.cells lxz 38)).alloc (.cells fzer 25)).alloc (.cells (lcs 0 (k : Int) ((k : Int) + 1) ⟨#[]⟩ 0 0 0 0 0) 38)) := by (repeat' (first | (with_reducible exact Below.refl _ _) | (with_reducible assumption) | (with_reducible refine below_drewN ?_ _) | (with_reducible refine Below.alloc ?_ ?_ _) | (with_reducible refine Below.drew ?_) | (with_reducible refine Below.setCell ?_ ?_ _) | (with_reducible refine Below.trans ?_ (Below.mono (by with_reducible assumption) ?_)) | go_size))
  have HE := Lib.hid hx0
  have HR := Lib.hid (((Blk.new w lxz 38).alloc (.cells fzer 25)).alloc (.cells (lcs 0 (k : Int) ((k : Int) + 1) ⟨#[]⟩ 0 0 0 0 0) 38))
  have HF := Lib.hid (show Blk (((w.alloc (.cells lxz 38)).alloc (.cells fzer 25)).alloc (.cells (lcs 0 (k : Int) ((k : Int) + 1) ⟨#[]⟩ 0 0 0 0 0) 38)) (w.heap.size + 1) fzer 25 from by
    have := (Blk.new (w.alloc (.cells lxz 38)) fzer 25).alloc (.cells (lcs 0 (k : Int) ((k : Int) + 1) ⟨#[]⟩ 0 0 0 0 0) 38)
    simp only [World.size_alloc] at this
    exact this)
  have HX := Lib.hid (show Blk (((w.alloc (.cells lxz 38)).alloc (.cells fzer 25)).alloc (.cells (lcs 0 (k : Int) ((k : Int) + 1) ⟨#[]⟩ 0 0 0 0 0) 38)) (w.heap.size + 2) (lcs 0 (k : Int) ((k : Int) + 1) ⟨#[]⟩ 0 0 0 0 0) 38 from by
    have := Blk.new ((w.alloc (.cells lxz 38)).alloc (.cells fzer 25)) (lcs 0 (k : Int) ((k : Int) + 1) ⟨#[]⟩ 0 0 0 0 0) 38
    simp only [World.size_alloc] at this
    exact this)
  clear hx0
  have hl : ltr C.toNat = false := by rw [h34]; decide
  have hd : dgt C.toNat = false := by rw [h34]; decide
  have e10 : ((C.toNat : Int) == 10) = false := by rw [h34]; rfl
  have HLT := Lib.hid (fun w => qletter_any C.toNat false hl w)
  have HDT := Lib.hid (fun w => qdigit_any C.toNat false hd w)
  clear hl hd
  have e34 : ((C.toNat : Int) == 34) = true := by rw [h34]; rfl
  have HUQ := Lib.hid (fun w => runq_any s (k : Int) (by omega) (.inr (A, m)) (by
    unfold uqs
    rw [show pos s (k : Int) = k by unfold pos; rw [if_neg (by omega)]; all_goals omega]
    exact hx) w)
  clear hx h34
  go_enter Tryz.func10, Tryz.ntmps10
  go_upto_region 2 with fail
  generalize ((w.alloc (.cells lxz 38)).alloc (.cells fzer 25)).alloc (.cells (lcs 0 (k : Int) ((k : Int) + 1) ⟨#[]⟩ 0 0 0 0 0) 38) = w1 at HX HR HF HE ⊢
  go_wp2_with fail
  refine (HLT.out _).mono ?_
  rintro e w2 ⟨rfl, rfl⟩
  go_wp2_with fail
  refine (HDT.out _).mono ?_
  rintro e w2 ⟨rfl, rfl⟩
  go_wp2_with fail
  clear HLT HDT
  refine (HUQ.out _).mono ?_
  rintro e w2 ⟨rfl, hE2⟩
  clear HUQ hix
  replace HX := Lib.hid (HX.out.ext hE2)
  replace HR := Lib.hid (HR.out.ext hE2)
  replace HF := Lib.hid (HF.out.ext hE2)
  replace HE := Lib.hid (bel_call HE.out hE2)
  clear hE2
  have hpb : w.heap.size + 2 < w2.heap.size := HX.out.lt
  have hE3 : Ext w2 (w2.alloc (.cells #[.int .i64 (0), .int .i64 0, .int .i64 0, .int .i64 (0), .slice none 0 0] 25)) := by (repeat' (first | (with_reducible exact Below.refl _ _) | (with_reducible assumption) | (with_reducible refine below_drewN ?_ _) | (with_reducible refine Below.alloc ?_ ?_ _) | (with_reducible refine Below.drew ?_) | (with_reducible refine Below.setCell ?_ ?_ _) | (with_reducible refine Below.trans ?_ (Below.mono (by with_reducible assumption) ?_)) | go_size))
  have HB := Lib.hid (Blk.new w2 #[.int .i64 (0), .int .i64 0, .int .i64 0, .int .i64 (0), .slice none 0 0] 25)
  replace HX := Lib.hid (HX.out.ext hE3)
  replace HR := Lib.hid (HR.out.ext hE3)
  replace HF := Lib.hid (HF.out.ext hE3)
  replace HE := Lib.hid (bel_call HE.out hE3)
  clear hE3
  go_upto_region 20 with fail
  generalize w2.heap.size = pb at hpb HB ⊢
  generalize w2.alloc (.cells #[.int .i64 (0), .int .i64 0, .int .i64 0, .int .i64 (0), .slice none 0 0] 25) = w3 at HX HR HF HE HB ⊢
  have b0 := HB.out.cell 0
  have b1 := HB.out.cell 1
  have b2 := HB.out.cell 2
  have b3 := HB.out.cell 3
  have b4 := HB.out.cell 4
  go_upto_region 22 with fail
  clear b0 b1 b2 b3 b4
  have kX := HX.out
  have x0 := kX.cell 0
  have x2 := kX.cell 2
  have x3 := kX.cell 3
  have fx0 := kX.free 0
  have fx2 := kX.free 2
  have fx3 := kX.free 3
  have hltX := kX.lt
  replace HX := Lib.hid (show Blk (((w3.setCell ⟨w.heap.size + 2, 0, none⟩ (.int .i64 3)).setCell ⟨w.heap.size + 2, 3, none⟩ (.string ⟨A.toArray⟩)).setCell ⟨w.heap.size + 2, 2, none⟩ (.int .i64 (m : Int))) (w.heap.size + 2) (lcs (3) ((k : Int)) ((m : Int)) (⟨A.toArray⟩) (0) (0) (0) (0) (0)) 38 from (((kX.set 0 (.int .i64 3)).set 3 (.string ⟨A.toArray⟩)).set 2 (.int .i64 (m : Int))))
  replace HR := Lib.hid (((HR.out.set_other (a := ⟨w.heap.size + 2, 0, none⟩) (by show w.heap.size + 2 ≠ w.heap.size; omega) (.int .i64 3)).set_other (a := ⟨w.heap.size + 2, 3, none⟩) (by show w.heap.size + 2 ≠ w.heap.size; omega) (.string ⟨A.toArray⟩)).set_other (a := ⟨w.heap.size + 2, 2, none⟩) (by show w.heap.size + 2 ≠ w.heap.size; omega) (.int .i64 (m : Int)))
  replace HF := Lib.hid (((HF.out.set_other (a := ⟨w.heap.size + 2, 0, none⟩) (by show w.heap.size + 2 ≠ w.heap.size + 1; omega) (.int .i64 3)).set_other (a := ⟨w.heap.size + 2, 3, none⟩) (by show w.heap.size + 2 ≠ w.heap.size + 1; omega) (.string ⟨A.toArray⟩)).set_other (a := ⟨w.heap.size + 2, 2, none⟩) (by show w.heap.size + 2 ≠ w.heap.size + 1; omega) (.int .i64 (m : Int)))
  replace HE := Lib.hid (show Ext w (((w3.setCell ⟨w.heap.size + 2, 0, none⟩ (.int .i64 3)).setCell ⟨w.heap.size + 2, 3, none⟩ (.string ⟨A.toArray⟩)).setCell ⟨w.heap.size + 2, 2, none⟩ (.int .i64 (m : Int))) from (((HE.out.setCell (p := ⟨w.heap.size + 2, 0, none⟩) (by show w.heap.size ≤ w.heap.size + 2; omega) (.int .i64 3)).setCell (p := ⟨w.heap.size + 2, 3, none⟩) (by show w.heap.size ≤ w.heap.size + 2; omega) (.string ⟨A.toArray⟩)).setCell (p := ⟨w.heap.size + 2, 2, none⟩) (by show w.heap.size ≤ w.heap.size + 2; omega) (.int .i64 (m : Int))))
  clear kX
  go_upto_region 35 with fail
  generalize (((w3.setCell ⟨w.heap.size + 2, 0, none⟩ (.int .i64 3)).setCell ⟨w.heap.size + 2, 3, none⟩ (.string ⟨A.toArray⟩)).setCell ⟨w.heap.size + 2, 2, none⟩ (.int .i64 (m : Int))) = wz at HX HR HF HE ⊢
  clear x0 x2 x3 fx0 fx2 fx3 hltX
  have kX := HX.out
  have x0 := kX.cell 0
  have x1 := kX.cell 1
  have x2 := kX.cell 2
  have x3 := kX.cell 3
  have x4 := kX.cell 4
  have x5 := kX.cell 5
  have x6 := kX.cell 6
  have x7 := kX.cell 7
  have x8 := kX.cell 8
  have kR := HR.out
  have z0 := kR.cell 0
  have z1 := kR.cell 1
  have z2 := kR.cell 2
  have z3 := kR.cell 3
  have z4 := kR.cell 4
  have z5 := kR.cell 5
  have z6 := kR.cell 6
  have z7 := kR.cell 7
  have z8 := kR.cell 8
  have f0 := kR.free 0
  have f1 := kR.free 1
  have f2 := kR.free 2
  have f3 := kR.free 3
  have f4 := kR.free 4
  have f5 := kR.free 5
  have f6 := kR.free 6
  have f7 := kR.free 7
  have f8 := kR.free 8
  have hltR := kR.lt
  have kF := HF.out
  have q0 := kF.cell 0
  have q1 := kF.cell 1
  have q2 := kF.cell 2
  have q3 := kF.cell 3
  have q4 := kF.cell 4
  have g0 := kF.free 0
  have g1 := kF.free 1
  have g2 := kF.free 2
  have g3 := kF.free 3
  have g4 := kF.free 4
  have hltF := kF.lt
  have KR := Lib.hid ((kR.sto9 (.int .i64 (3)) (.int .i64 ((k : Int))) (.int .i64 ((m : Int))) (.string (⟨A.toArray⟩)) (.int .i64 (0)) (.int .u64 (0)) (.int .u64 (0)) (.int .u64 (0)) (.int .u64 (0))).oth5 (b := w.heap.size + 1) (by omega) (.int .i64 (0)) (.int .i64 0) (.int .i64 0) (.int .i64 (0)) (.slice none 0 0))
  have KF := Lib.hid ((kF.oth9 (b := w.heap.size) (by omega) (.int .i64 (3)) (.int .i64 ((k : Int))) (.int .i64 ((m : Int))) (.string (⟨A.toArray⟩)) (.int .i64 (0)) (.int .u64 (0)) (.int .u64 (0)) (.int .u64 (0)) (.int .u64 (0))).store5 (.int .i64 (0)) (.int .i64 0) (.int .i64 0) (.int .i64 (0)) (.slice none 0 0))
  have EZ := Lib.hid (ext_set5 (ext_set9 HE.out (b := w.heap.size) (by omega) (.int .i64 (3)) (.int .i64 ((k : Int))) (.int .i64 ((m : Int))) (.string (⟨A.toArray⟩)) (.int .i64 (0)) (.int .u64 (0)) (.int .u64 (0)) (.int .u64 (0)) (.int .u64 (0))) (b := w.heap.size + 1) (by omega) (.int .i64 (0)) (.int .i64 0) (.int .i64 0) (.int .i64 (0)) (.slice none 0 0))
  clear kX kR kF HR HF HX HE
  go_wp2_with fail
  have y0 := (KR.out).cell 0
  have y1 := (KR.out).cell 1
  have y2 := (KR.out).cell 2
  have y3 := (KR.out).cell 3
  have y4 := (KR.out).cell 4
  have y5 := (KR.out).cell 5
  have y6 := (KR.out).cell 6
  have y7 := (KR.out).cell 7
  have y8 := (KR.out).cell 8
  have t0 := (KF.out).cell 0
  have t1 := (KF.out).cell 1
  have t2 := (KF.out).cell 2
  have t3 := (KF.out).cell 3
  have t4 := (KF.out).cell 4
  refine bodyPost_ret (v := .tuple #[.agg #[.int .i64 (3), .int .i64 ((k : Int)), .int .i64 ((m : Int)), .string (⟨A.toArray⟩), .int .i64 (0), .int .u64 (0), .int .u64 (0), .int .u64 (0), .int .u64 (0)], fag (0) (0)]) ?_ rfl ?_
  · simp [results, Tryz.results10, go_sem, y0, y1, y2, y3, y4, y5, y6, y7, y8, t0, t1, t2, t3, t4]
  · exact ⟨rfl, EZ.out⟩
end Go.Proofs.YtnecafokkhhhhaaGreatDoor
