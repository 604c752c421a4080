/- bolterref4: one (rone_mark). -/
import Derived.Test.YtnecafokkhhhhaaGreatDoorQd0
namespace Go.Proofs.YtnecafokkhhhhaaGreatDoor
open Go Go.RowKit
set_option maxHeartbeats 4000000 in
set_option maxRecDepth 20000 in
theorem rone_cls_no (s : ByteArray) (k : Nat) (hs : s.size ≤ 65536) (C : UInt8) (hC : rest s k = C :: rest s (k + 1)) (h91 : C.toNat = 91) (b : Bool) (q : Nat) (hx : cls unq ((rest s k).length + 1) 0 (rest s k) k = .inl (b, q)) (cd : Int) (hcd : (if b = true then (4 : Int) else 3) = cd) (w : World) :
    Calls Tryz.prog 10 #[.string s, .int .i64 (k : Int)] w fun e w' => ∃ (kd a en : Int) (T : ByteArray) (n x0 x1 x2 x3 : Int), e = .returned (.tuple #[.agg (lcs kd a en T n x0 x1 x2 x3), fag cd (q : Int)]) ∧ Ext w w' := by
  have hk := rest_ne hC
  have hix := idx_at s k (k : Int) rfl C _ hC
  have hx0 : Ext w (((w.alloc (.cells lxz 38)).alloc (.cells fzer 25)).alloc (.cells (lcs 0 (k : Int) ((k : Int) + 1) ⟨#[]⟩ 0 0 0 0 0) 38)) := by (repeat' (first | (with_reducible exact Below.refl _ _) | (with_reducible assumption) | (with_reducible refine below_drewN ?_ _) | (with_reducible refine Below.alloc ?_ ?_ _) | (with_reducible refine Below.drew ?_) | (with_reducible refine Below.setCell ?_ ?_ _) | (with_reducible refine Below.trans ?_ (Below.mono (by with_reducible assumption) ?_)) | go_size))
  have HE := Lib.hid hx0
  have HR := Lib.hid (((Blk.new w lxz 38).alloc (.cells fzer 25)).alloc (.cells (lcs 0 (k : Int) ((k : Int) + 1) ⟨#[]⟩ 0 0 0 0 0) 38))
  have HF := Lib.hid (show Blk (((w.alloc (.cells lxz 38)).alloc (.cells fzer 25)).alloc (.cells (lcs 0 (k : Int) ((k : Int) + 1) ⟨#[]⟩ 0 0 0 0 0) 38)) (w.heap.size + 1) fzer 25 from by
    have := (Blk.new (w.alloc (.cells lxz 38)) fzer 25).alloc (.cells (lcs 0 (k : Int) ((k : Int) + 1) ⟨#[]⟩ 0 0 0 0 0) 38)
    simp only [World.size_alloc] at this
    exact this)
  have HX := Lib.hid (show Blk (((w.alloc (.cells lxz 38)).alloc (.cells fzer 25)).alloc (.cells (lcs 0 (k : Int) ((k : Int) + 1) ⟨#[]⟩ 0 0 0 0 0) 38)) (w.heap.size + 2) (lcs 0 (k : Int) ((k : Int) + 1) ⟨#[]⟩ 0 0 0 0 0) 38 from by
    have := Blk.new ((w.alloc (.cells lxz 38)).alloc (.cells fzer 25)) (lcs 0 (k : Int) ((k : Int) + 1) ⟨#[]⟩ 0 0 0 0 0) 38
    simp only [World.size_alloc] at this
    exact this)
  clear hx0
  have hl : ltr C.toNat = false := by rw [h91]; decide
  have hd : dgt C.toNat = false := by rw [h91]; decide
  have e10 : ((C.toNat : Int) == 10) = false := by rw [h91]; rfl
  have HLT := Lib.hid (fun w => qletter_any C.toNat false hl w)
  have HDT := Lib.hid (fun w => qdigit_any C.toNat false hd w)
  clear hl hd
  have e34 : ((C.toNat : Int) == 34) = false := by simp; omega
  have e91 : ((C.toNat : Int) == 91) = true := by simp; omega
  have HPC := Lib.hid (fun w => rparse_any s (k : Int) (by omega) (.inl (b, q)) (by
    unfold prs
    rw [show pos s (k : Int) = k by unfold pos; rw [if_neg (by omega)]; all_goals omega]
    exact hx) w)
  clear hx
  have hcd2 : erC (pE (.inl (b, q))) = cd := by rw [← hcd]; cases b <;> rfl
  have hcn : (cd != 0) = true := by rw [← hcd]; cases b <;> rfl
  have hq2 : erA (pE (.inl (b, q))) = (q : Int) := rfl
  rw [hcd2, hq2] at HPC
  simp only [pS, pN] at HPC
  clear hcd hcd2 hq2
  clear h91
  go_enter Tryz.func10, Tryz.ntmps10
  go_upto_region 2 with fail
  generalize ((w.alloc (.cells lxz 38)).alloc (.cells fzer 25)).alloc (.cells (lcs 0 (k : Int) ((k : Int) + 1) ⟨#[]⟩ 0 0 0 0 0) 38) = w1 at HX HR HF HE ⊢
  go_wp2_with fail
  refine (HLT.out _).mono ?_
  rintro e w2 ⟨rfl, rfl⟩
  go_wp2_with fail
  refine (HDT.out _).mono ?_
  rintro e w2 ⟨rfl, rfl⟩
  go_wp2_with fail
  clear HLT HDT
  refine (HPC.out _).mono ?_
  rintro e w2 ⟨rfl, hE2⟩
  clear HPC hix
  replace HX := Lib.hid (HX.out.ext hE2)
  replace HR := Lib.hid (HR.out.ext hE2)
  replace HF := Lib.hid (HF.out.ext hE2)
  replace HE := Lib.hid (bel_call HE.out hE2)
  clear hE2
  have hpb : w.heap.size + 2 < w2.heap.size := HX.out.lt
  have hE3 : Ext w2 ((w2.alloc (.cells (svs (0#256)) 36)).alloc (.cells #[.int .i64 (cd), .int .i64 0, .int .i64 0, .int .i64 ((q : Int)), .slice none 0 0] 25)) := by (repeat' (first | (with_reducible exact Below.refl _ _) | (with_reducible assumption) | (with_reducible refine below_drewN ?_ _) | (with_reducible refine Below.alloc ?_ ?_ _) | (with_reducible refine Below.drew ?_) | (with_reducible refine Below.setCell ?_ ?_ _) | (with_reducible refine Below.trans ?_ (Below.mono (by with_reducible assumption) ?_)) | go_size))
  have HB := Lib.hid (show Blk ((w2.alloc (.cells (svs (0#256)) 36)).alloc (.cells #[.int .i64 (cd), .int .i64 0, .int .i64 0, .int .i64 ((q : Int)), .slice none 0 0] 25)) (w2.heap.size + 1) #[.int .i64 (cd), .int .i64 0, .int .i64 0, .int .i64 ((q : Int)), .slice none 0 0] 25 from by
    have := Blk.new (w2.alloc (.cells (svs (0#256)) 36)) #[.int .i64 (cd), .int .i64 0, .int .i64 0, .int .i64 ((q : Int)), .slice none 0 0] 25
    simp only [World.size_alloc] at this
    exact this)
  have HS := Lib.hid ((Blk.new w2 (svs (0#256)) 36).alloc (.cells #[.int .i64 (cd), .int .i64 0, .int .i64 0, .int .i64 ((q : Int)), .slice none 0 0] 25))
  replace HX := Lib.hid (HX.out.ext hE3)
  replace HR := Lib.hid (HR.out.ext hE3)
  replace HF := Lib.hid (HF.out.ext hE3)
  replace HE := Lib.hid (bel_call HE.out hE3)
  clear hE3
  go_upto_region 27 with fail
  generalize w2.heap.size = pb at hpb HB HS ⊢
  generalize (w2.alloc (.cells (svs (0#256)) 36)).alloc (.cells #[.int .i64 (cd), .int .i64 0, .int .i64 0, .int .i64 ((q : Int)), .slice none 0 0] 25) = w3 at HX HR HF HE HB HS ⊢
  have b0 := HB.out.cell 0
  have b1 := HB.out.cell 1
  have b2 := HB.out.cell 2
  have b3 := HB.out.cell 3
  have b4 := HB.out.cell 4
  go_upto_region 28 with fail
  have kX := HX.out
  have x0 := kX.cell 0
  have x1 := kX.cell 1
  have x2 := kX.cell 2
  have x3 := kX.cell 3
  have x4 := kX.cell 4
  have x5 := kX.cell 5
  have x6 := kX.cell 6
  have x7 := kX.cell 7
  have x8 := kX.cell 8
  have kR := HR.out
  have z0 := kR.cell 0
  have z1 := kR.cell 1
  have z2 := kR.cell 2
  have z3 := kR.cell 3
  have z4 := kR.cell 4
  have z5 := kR.cell 5
  have z6 := kR.cell 6
  have z7 := kR.cell 7
  have z8 := kR.cell 8
  have f0 := kR.free 0
  have f1 := kR.free 1
  have f2 := kR.free 2
  have f3 := kR.free 3
  have f4 := kR.free 4
  have f5 := kR.free 5
  have f6 := kR.free 6
  have f7 := kR.free 7
  have f8 := kR.free 8
  have hltR := kR.lt
  have kF := HF.out
  have q0 := kF.cell 0
  have q1 := kF.cell 1
  have q2 := kF.cell 2
  have q3 := kF.cell 3
  have q4 := kF.cell 4
  have g0 := kF.free 0
  have g1 := kF.free 1
  have g2 := kF.free 2
  have g3 := kF.free 3
  have g4 := kF.free 4
  have hltF := kF.lt
  have KR := Lib.hid ((kR.sto9 (.int .i64 (0)) (.int .i64 ((k : Int))) (.int .i64 ((k : Int) + 1)) (.string (⟨#[]⟩)) (.int .i64 (0)) (.int .u64 (0)) (.int .u64 (0)) (.int .u64 (0)) (.int .u64 (0))).oth5 (b := w.heap.size + 1) (by omega) (.int .i64 (cd)) (.int .i64 0) (.int .i64 0) (.int .i64 ((q : Int))) (.slice none 0 0))
  have KF := Lib.hid ((kF.oth9 (b := w.heap.size) (by omega) (.int .i64 (0)) (.int .i64 ((k : Int))) (.int .i64 ((k : Int) + 1)) (.string (⟨#[]⟩)) (.int .i64 (0)) (.int .u64 (0)) (.int .u64 (0)) (.int .u64 (0)) (.int .u64 (0))).store5 (.int .i64 (cd)) (.int .i64 0) (.int .i64 0) (.int .i64 ((q : Int))) (.slice none 0 0))
  have EZ := Lib.hid (ext_set5 (ext_set9 HE.out (b := w.heap.size) (by omega) (.int .i64 (0)) (.int .i64 ((k : Int))) (.int .i64 ((k : Int) + 1)) (.string (⟨#[]⟩)) (.int .i64 (0)) (.int .u64 (0)) (.int .u64 (0)) (.int .u64 (0)) (.int .u64 (0))) (b := w.heap.size + 1) (by omega) (.int .i64 (cd)) (.int .i64 0) (.int .i64 0) (.int .i64 ((q : Int))) (.slice none 0 0))
  clear kX kR kF HR HF HX HE
  go_wp2_with fail
  go_region
  have y0 := (KR.out.drew).cell 0
  have y1 := (KR.out.drew).cell 1
  have y2 := (KR.out.drew).cell 2
  have y3 := (KR.out.drew).cell 3
  have y4 := (KR.out.drew).cell 4
  have y5 := (KR.out.drew).cell 5
  have y6 := (KR.out.drew).cell 6
  have y7 := (KR.out.drew).cell 7
  have y8 := (KR.out.drew).cell 8
  have t0 := (KF.out.drew).cell 0
  have t1 := (KF.out.drew).cell 1
  have t2 := (KF.out.drew).cell 2
  have t3 := (KF.out.drew).cell 3
  have t4 := (KF.out.drew).cell 4
  replace EZ := Lib.hid (Below.drew EZ.out)
  go_wp2_with fail
  refine bodyPost_ret (v := .tuple #[.agg #[.int .i64 (0), .int .i64 ((k : Int)), .int .i64 ((k : Int) + 1), .string (⟨#[]⟩), .int .i64 (0), .int .u64 (0), .int .u64 (0), .int .u64 (0), .int .u64 (0)], fag (cd) ((q : Int))]) ?_ rfl ?_
  · simp [results, Tryz.results10, go_sem, y0, y1, y2, y3, y4, y5, y6, y7, y8, t0, t1, t2, t3, t4]
  · exact ⟨_, _, _, _, _, _, _, _, _, rfl, EZ.out⟩
set_option maxHeartbeats 4000000 in
set_option maxRecDepth 20000 in
theorem rone_cls (s : ByteArray) (k : Nat) (hs : s.size ≤ 65536) (C : UInt8) (hC : rest s k = C :: rest s (k + 1)) (h91 : C.toNat = 91) (S : BitVec 256) (m : Nat) (hx : cls unq ((rest s k).length + 1) 0 (rest s k) k = .inr (S, m)) (w : World) :
    Calls Tryz.prog 10 #[.string s, .int .i64 (k : Int)] w fun e w' => e = .returned (.tuple #[.agg (lcs (4) ((k : Int)) ((m : Int)) (⟨#[]⟩) (0) (wd S 0) (wd S 1) (wd S 2) (wd S 3)), fag 0 0]) ∧ Ext w w' := by
  have hk := rest_ne hC
  have hix := idx_at s k (k : Int) rfl C _ hC
  have hx0 : Ext w (((w.alloc (.cells lxz 38)).alloc (.cells fzer 25)).alloc (.cells (lcs 0 (k : Int) ((k : Int) + 1) ⟨#[]⟩ 0 0 0 0 0) 38)) := by (repeat' (first | (with_reducible exact Below.refl _ _) | (with_reducible assumption) | (with_reducible refine below_drewN ?_ _) | (with_reducible refine Below.alloc ?_ ?_ _) | (with_reducible refine Below.drew ?_) | (with_reducible refine Below.setCell ?_ ?_ _) | (with_reducible refine Below.trans ?_ (Below.mono (by with_reducible assumption) ?_)) | go_size))
  have HE := Lib.hid hx0
  have HR := Lib.hid (((Blk.new w lxz 38).alloc (.cells fzer 25)).alloc (.cells (lcs 0 (k : Int) ((k : Int) + 1) ⟨#[]⟩ 0 0 0 0 0) 38))
  have HF := Lib.hid (show Blk (((w.alloc (.cells lxz 38)).alloc (.cells fzer 25)).alloc (.cells (lcs 0 (k : Int) ((k : Int) + 1) ⟨#[]⟩ 0 0 0 0 0) 38)) (w.heap.size + 1) fzer 25 from by
    have := (Blk.new (w.alloc (.cells lxz 38)) fzer 25).alloc (.cells (lcs 0 (k : Int) ((k : Int) + 1) ⟨#[]⟩ 0 0 0 0 0) 38)
    simp only [World.size_alloc] at this
    exact this)
  have HX := Lib.hid (show Blk (((w.alloc (.cells lxz 38)).alloc (.cells fzer 25)).alloc (.cells (lcs 0 (k : Int) ((k : Int) + 1) ⟨#[]⟩ 0 0 0 0 0) 38)) (w.heap.size + 2) (lcs 0 (k : Int) ((k : Int) + 1) ⟨#[]⟩ 0 0 0 0 0) 38 from by
    have := Blk.new ((w.alloc (.cells lxz 38)).alloc (.cells fzer 25)) (lcs 0 (k : Int) ((k : Int) + 1) ⟨#[]⟩ 0 0 0 0 0) 38
    simp only [World.size_alloc] at this
    exact this)
  clear hx0
  have hl : ltr C.toNat = false := by rw [h91]; decide
  have hd : dgt C.toNat = false := by rw [h91]; decide
  have e10 : ((C.toNat : Int) == 10) = false := by rw [h91]; rfl
  have HLT := Lib.hid (fun w => qletter_any C.toNat false hl w)
  have HDT := Lib.hid (fun w => qdigit_any C.toNat false hd w)
  clear hl hd
  have e34 : ((C.toNat : Int) == 34) = false := by simp; omega
  have e91 : ((C.toNat : Int) == 91) = true := by simp; omega
  have HPC := Lib.hid (fun w => rparse_any s (k : Int) (by omega) (.inr (S, m)) (by
    unfold prs
    rw [show pos s (k : Int) = k by unfold pos; rw [if_neg (by omega)]; all_goals omega]
    exact hx) w)
  clear hx
  simp only [pS, pN, pE, erC, erA] at HPC
  clear h91
  go_enter Tryz.func10, Tryz.ntmps10
  go_upto_region 2 with fail
  generalize ((w.alloc (.cells lxz 38)).alloc (.cells fzer 25)).alloc (.cells (lcs 0 (k : Int) ((k : Int) + 1) ⟨#[]⟩ 0 0 0 0 0) 38) = w1 at HX HR HF HE ⊢
  go_wp2_with fail
  refine (HLT.out _).mono ?_
  rintro e w2 ⟨rfl, rfl⟩
  go_wp2_with fail
  refine (HDT.out _).mono ?_
  rintro e w2 ⟨rfl, rfl⟩
  go_wp2_with fail
  clear HLT HDT
  refine (HPC.out _).mono ?_
  rintro e w2 ⟨rfl, hE2⟩
  clear HPC hix
  replace HX := Lib.hid (HX.out.ext hE2)
  replace HR := Lib.hid (HR.out.ext hE2)
  replace HF := Lib.hid (HF.out.ext hE2)
  replace HE := Lib.hid (bel_call HE.out hE2)
  clear hE2
  have hpb : w.heap.size + 2 < w2.heap.size := HX.out.lt
  have hE3 : Ext w2 ((w2.alloc (.cells (svs (S)) 36)).alloc (.cells #[.int .i64 (0), .int .i64 0, .int .i64 0, .int .i64 (0), .slice none 0 0] 25)) := by (repeat' (first | (with_reducible exact Below.refl _ _) | (with_reducible assumption) | (with_reducible refine below_drewN ?_ _) | (with_reducible refine Below.alloc ?_ ?_ _) | (with_reducible refine Below.drew ?_) | (with_reducible refine Below.setCell ?_ ?_ _) | (with_reducible refine Below.trans ?_ (Below.mono (by with_reducible assumption) ?_)) | go_size))
  have HB := Lib.hid (show Blk ((w2.alloc (.cells (svs (S)) 36)).alloc (.cells #[.int .i64 (0), .int .i64 0, .int .i64 0, .int .i64 (0), .slice none 0 0] 25)) (w2.heap.size + 1) #[.int .i64 (0), .int .i64 0, .int .i64 0, .int .i64 (0), .slice none 0 0] 25 from by
    have := Blk.new (w2.alloc (.cells (svs (S)) 36)) #[.int .i64 (0), .int .i64 0, .int .i64 0, .int .i64 (0), .slice none 0 0] 25
    simp only [World.size_alloc] at this
    exact this)
  have HS := Lib.hid ((Blk.new w2 (svs (S)) 36).alloc (.cells #[.int .i64 (0), .int .i64 0, .int .i64 0, .int .i64 (0), .slice none 0 0] 25))
  replace HX := Lib.hid (HX.out.ext hE3)
  replace HR := Lib.hid (HR.out.ext hE3)
  replace HF := Lib.hid (HF.out.ext hE3)
  replace HE := Lib.hid (bel_call HE.out hE3)
  clear hE3
  go_upto_region 27 with fail
  generalize w2.heap.size = pb at hpb HB HS ⊢
  generalize (w2.alloc (.cells (svs (S)) 36)).alloc (.cells #[.int .i64 (0), .int .i64 0, .int .i64 0, .int .i64 (0), .slice none 0 0] 25) = w3 at HX HR HF HE HB HS ⊢
  have b0 := HB.out.cell 0
  have b1 := HB.out.cell 1
  have b2 := HB.out.cell 2
  have b3 := HB.out.cell 3
  have b4 := HB.out.cell 4
  go_upto_region 29 with fail
  clear b0 b1 b2 b3 b4
  obtain ⟨b0, b1, b2, b3⟩ := HS.out.cells4
  have kX := HX.out
  have x0 := kX.cell 0
  have x2 := kX.cell 2
  have x5 := kX.cell 5
  have x6 := kX.cell 6
  have x7 := kX.cell 7
  have x8 := kX.cell 8
  have fx0 := kX.free 0
  have fx2 := kX.free 2
  have fx5 := kX.free 5
  have fx6 := kX.free 6
  have fx7 := kX.free 7
  have fx8 := kX.free 8
  have hltX := kX.lt
  replace HX := Lib.hid (show Blk ((((((w3.setCell ⟨w.heap.size + 2, 0, none⟩ (.int .i64 4)).setCell ⟨w.heap.size + 2, 5, none⟩ (.int .u64 (wd S 0))).setCell ⟨w.heap.size + 2, 6, none⟩ (.int .u64 (wd S 1))).setCell ⟨w.heap.size + 2, 7, none⟩ (.int .u64 (wd S 2))).setCell ⟨w.heap.size + 2, 8, none⟩ (.int .u64 (wd S 3))).setCell ⟨w.heap.size + 2, 2, none⟩ (.int .i64 (m : Int))) (w.heap.size + 2) (lcs (4) ((k : Int)) ((m : Int)) (⟨#[]⟩) (0) (wd S 0) (wd S 1) (wd S 2) (wd S 3)) 38 from ((((((kX.set 0 (.int .i64 4)).set 5 (.int .u64 (wd S 0))).set 6 (.int .u64 (wd S 1))).set 7 (.int .u64 (wd S 2))).set 8 (.int .u64 (wd S 3))).set 2 (.int .i64 (m : Int))))
  replace HR := Lib.hid ((((((HR.out.set_other (a := ⟨w.heap.size + 2, 0, none⟩) (by show w.heap.size + 2 ≠ w.heap.size; omega) (.int .i64 4)).set_other (a := ⟨w.heap.size + 2, 5, none⟩) (by show w.heap.size + 2 ≠ w.heap.size; omega) (.int .u64 (wd S 0))).set_other (a := ⟨w.heap.size + 2, 6, none⟩) (by show w.heap.size + 2 ≠ w.heap.size; omega) (.int .u64 (wd S 1))).set_other (a := ⟨w.heap.size + 2, 7, none⟩) (by show w.heap.size + 2 ≠ w.heap.size; omega) (.int .u64 (wd S 2))).set_other (a := ⟨w.heap.size + 2, 8, none⟩) (by show w.heap.size + 2 ≠ w.heap.size; omega) (.int .u64 (wd S 3))).set_other (a := ⟨w.heap.size + 2, 2, none⟩) (by show w.heap.size + 2 ≠ w.heap.size; omega) (.int .i64 (m : Int)))
  replace HF := Lib.hid ((((((HF.out.set_other (a := ⟨w.heap.size + 2, 0, none⟩) (by show w.heap.size + 2 ≠ w.heap.size + 1; omega) (.int .i64 4)).set_other (a := ⟨w.heap.size + 2, 5, none⟩) (by show w.heap.size + 2 ≠ w.heap.size + 1; omega) (.int .u64 (wd S 0))).set_other (a := ⟨w.heap.size + 2, 6, none⟩) (by show w.heap.size + 2 ≠ w.heap.size + 1; omega) (.int .u64 (wd S 1))).set_other (a := ⟨w.heap.size + 2, 7, none⟩) (by show w.heap.size + 2 ≠ w.heap.size + 1; omega) (.int .u64 (wd S 2))).set_other (a := ⟨w.heap.size + 2, 8, none⟩) (by show w.heap.size + 2 ≠ w.heap.size + 1; omega) (.int .u64 (wd S 3))).set_other (a := ⟨w.heap.size + 2, 2, none⟩) (by show w.heap.size + 2 ≠ w.heap.size + 1; omega) (.int .i64 (m : Int)))
  replace HE := Lib.hid (show Ext w ((((((w3.setCell ⟨w.heap.size + 2, 0, none⟩ (.int .i64 4)).setCell ⟨w.heap.size + 2, 5, none⟩ (.int .u64 (wd S 0))).setCell ⟨w.heap.size + 2, 6, none⟩ (.int .u64 (wd S 1))).setCell ⟨w.heap.size + 2, 7, none⟩ (.int .u64 (wd S 2))).setCell ⟨w.heap.size + 2, 8, none⟩ (.int .u64 (wd S 3))).setCell ⟨w.heap.size + 2, 2, none⟩ (.int .i64 (m : Int))) from ((((((HE.out.setCell (p := ⟨w.heap.size + 2, 0, none⟩) (by show w.heap.size ≤ w.heap.size + 2; omega) (.int .i64 4)).setCell (p := ⟨w.heap.size + 2, 5, none⟩) (by show w.heap.size ≤ w.heap.size + 2; omega) (.int .u64 (wd S 0))).setCell (p := ⟨w.heap.size + 2, 6, none⟩) (by show w.heap.size ≤ w.heap.size + 2; omega) (.int .u64 (wd S 1))).setCell (p := ⟨w.heap.size + 2, 7, none⟩) (by show w.heap.size ≤ w.heap.size + 2; omega) (.int .u64 (wd S 2))).setCell (p := ⟨w.heap.size + 2, 8, none⟩) (by show w.heap.size ≤ w.heap.size + 2; omega) (.int .u64 (wd S 3))).setCell (p := ⟨w.heap.size + 2, 2, none⟩) (by show w.heap.size ≤ w.heap.size + 2; omega) (.int .i64 (m : Int))))
  clear kX
  go_upto_region 35 with fail
  generalize ((((((w3.setCell ⟨w.heap.size + 2, 0, none⟩ (.int .i64 4)).setCell ⟨w.heap.size + 2, 5, none⟩ (.int .u64 (wd S 0))).setCell ⟨w.heap.size + 2, 6, none⟩ (.int .u64 (wd S 1))).setCell ⟨w.heap.size + 2, 7, none⟩ (.int .u64 (wd S 2))).setCell ⟨w.heap.size + 2, 8, none⟩ (.int .u64 (wd S 3))).setCell ⟨w.heap.size + 2, 2, none⟩ (.int .i64 (m : Int))) = wz at HX HR HF HE ⊢
  clear x0 x2 x5 x6 x7 x8 fx0 fx2 fx5 fx6 fx7 fx8 hltX
  clear b0 b1 b2 b3
  have kX := HX.out
  have x0 := kX.cell 0
  have x1 := kX.cell 1
  have x2 := kX.cell 2
  have x3 := kX.cell 3
  have x4 := kX.cell 4
  have x5 := kX.cell 5
  have x6 := kX.cell 6
  have x7 := kX.cell 7
  have x8 := kX.cell 8
  have kR := HR.out
  have z0 := kR.cell 0
  have z1 := kR.cell 1
  have z2 := kR.cell 2
  have z3 := kR.cell 3
  have z4 := kR.cell 4
  have z5 := kR.cell 5
  have z6 := kR.cell 6
  have z7 := kR.cell 7
  have z8 := kR.cell 8
  have f0 := kR.free 0
  have f1 := kR.free 1
  have f2 := kR.free 2
  have f3 := kR.free 3
  have f4 := kR.free 4
  have f5 := kR.free 5
  have f6 := kR.free 6
  have f7 := kR.free 7
  have f8 := kR.free 8
  have hltR := kR.lt
  have kF := HF.out
  have q0 := kF.cell 0
  have q1 := kF.cell 1
  have q2 := kF.cell 2
  have q3 := kF.cell 3
  have q4 := kF.cell 4
  have g0 := kF.free 0
  have g1 := kF.free 1
  have g2 := kF.free 2
  have g3 := kF.free 3
  have g4 := kF.free 4
  have hltF := kF.lt
  have KR := Lib.hid ((kR.sto9 (.int .i64 (4)) (.int .i64 ((k : Int))) (.int .i64 ((m : Int))) (.string (⟨#[]⟩)) (.int .i64 (0)) (.int .u64 (wd S 0)) (.int .u64 (wd S 1)) (.int .u64 (wd S 2)) (.int .u64 (wd S 3))).oth5 (b := w.heap.size + 1) (by omega) (.int .i64 (0)) (.int .i64 0) (.int .i64 0) (.int .i64 (0)) (.slice none 0 0))
  have KF := Lib.hid ((kF.oth9 (b := w.heap.size) (by omega) (.int .i64 (4)) (.int .i64 ((k : Int))) (.int .i64 ((m : Int))) (.string (⟨#[]⟩)) (.int .i64 (0)) (.int .u64 (wd S 0)) (.int .u64 (wd S 1)) (.int .u64 (wd S 2)) (.int .u64 (wd S 3))).store5 (.int .i64 (0)) (.int .i64 0) (.int .i64 0) (.int .i64 (0)) (.slice none 0 0))
  have EZ := Lib.hid (ext_set5 (ext_set9 HE.out (b := w.heap.size) (by omega) (.int .i64 (4)) (.int .i64 ((k : Int))) (.int .i64 ((m : Int))) (.string (⟨#[]⟩)) (.int .i64 (0)) (.int .u64 (wd S 0)) (.int .u64 (wd S 1)) (.int .u64 (wd S 2)) (.int .u64 (wd S 3))) (b := w.heap.size + 1) (by omega) (.int .i64 (0)) (.int .i64 0) (.int .i64 0) (.int .i64 (0)) (.slice none 0 0))
  clear kX kR kF HR HF HX HE
  go_wp2_with fail
  have y0 := (KR.out).cell 0
  have y1 := (KR.out).cell 1
  have y2 := (KR.out).cell 2
  have y3 := (KR.out).cell 3
  have y4 := (KR.out).cell 4
  have y5 := (KR.out).cell 5
  have y6 := (KR.out).cell 6
  have y7 := (KR.out).cell 7
  have y8 := (KR.out).cell 8
  have t0 := (KF.out).cell 0
  have t1 := (KF.out).cell 1
  have t2 := (KF.out).cell 2
  have t3 := (KF.out).cell 3
  have t4 := (KF.out).cell 4
  refine bodyPost_ret (v := .tuple #[.agg #[.int .i64 (4), .int .i64 ((k : Int)), .int .i64 ((m : Int)), .string (⟨#[]⟩), .int .i64 (0), .int .u64 (wd S 0), .int .u64 (wd S 1), .int .u64 (wd S 2), .int .u64 (wd S 3)], fag (0) (0)]) ?_ rfl ?_
  · simp [results, Tryz.results10, go_sem, y0, y1, y2, y3, y4, y5, y6, y7, y8, t0, t1, t2, t3, t4]
  · exact ⟨rfl, EZ.out⟩
end Go.Proofs.YtnecafokkhhhhaaGreatDoor
namespace Go.Proofs.YtnecafokkhhhhaaGreatDoor
open Go Go.RowKit
set_option maxHeartbeats 4000000 in
set_option maxRecDepth 20000 in
theorem rone_dot (s : ByteArray) (k : Nat) (hs : s.size ≤ 65536) (C : UInt8) (hC : rest s k = C :: rest s (k + 1)) (h46 : C.toNat = 46) (S D : BitVec 256) (hS : ofl [10] = S) (hD : ~~~S = D) (w : World) :
    Calls Tryz.prog 10 #[.string s, .int .i64 (k : Int)] w fun e w' => e = .returned (.tuple #[.agg (lcs (4) ((k : Int)) ((k : Int) + 1) (⟨#[]⟩) (0) (wd D 0) (wd D 1) (wd D 2) (wd D 3)), fag 0 0]) ∧ Ext w w' := by
  have hk := rest_ne hC
  have hix := idx_at s k (k : Int) rfl C _ hC
  have hx0 : Ext w (((w.alloc (.cells lxz 38)).alloc (.cells fzer 25)).alloc (.cells (lcs 0 (k : Int) ((k : Int) + 1) ⟨#[]⟩ 0 0 0 0 0) 38)) := by (repeat' (first | (with_reducible exact Below.refl _ _) | (with_reducible assumption) | (with_reducible refine below_drewN ?_ _) | (with_reducible refine Below.alloc ?_ ?_ _) | (with_reducible refine Below.drew ?_) | (with_reducible refine Below.setCell ?_ ?_ _) | (with_reducible refine Below.trans ?_ (Below.mono (by with_reducible assumption) ?_)) | go_size))
  have HE := Lib.hid hx0
  have HR := Lib.hid (((Blk.new w lxz 38).alloc (.cells fzer 25)).alloc (.cells (lcs 0 (k : Int) ((k : Int) + 1) ⟨#[]⟩ 0 0 0 0 0) 38))
  have HF := Lib.hid (show Blk (((w.alloc (.cells lxz 38)).alloc (.cells fzer 25)).alloc (.cells (lcs 0 (k : Int) ((k : Int) + 1) ⟨#[]⟩ 0 0 0 0 0) 38)) (w.heap.size + 1) fzer 25 from by
    have := (Blk.new (w.alloc (.cells lxz 38)) fzer 25).alloc (.cells (lcs 0 (k : Int) ((k : Int) + 1) ⟨#[]⟩ 0 0 0 0 0) 38)
    simp only [World.size_alloc] at this
    exact this)
  have HX := Lib.hid (show Blk (((w.alloc (.cells lxz 38)).alloc (.cells fzer 25)).alloc (.cells (lcs 0 (k : Int) ((k : Int) + 1) ⟨#[]⟩ 0 0 0 0 0) 38)) (w.heap.size + 2) (lcs 0 (k : Int) ((k : Int) + 1) ⟨#[]⟩ 0 0 0 0 0) 38 from by
    have := Blk.new ((w.alloc (.cells lxz 38)).alloc (.cells fzer 25)) (lcs 0 (k : Int) ((k : Int) + 1) ⟨#[]⟩ 0 0 0 0 0) 38
    simp only [World.size_alloc] at this
    exact this)
  clear hx0
  have hl : ltr C.toNat = false := by rw [h46]; decide
  have hd : dgt C.toNat = false := by rw [h46]; decide
  have e10 : ((C.toNat : Int) == 10) = false := by rw [h46]; rfl
  have HLT := Lib.hid (fun w => qletter_any C.toNat false hl w)
  have HDT := Lib.hid (fun w => qdigit_any C.toNat false hd w)
  clear hl hd
  have e34 : ((C.toNat : Int) == 34) = false := by simp; omega
  have e91 : ((C.toNat : Int) == 91) = false := by simp; omega
  have e46 : ((C.toNat : Int) == 46) = true := by simp; omega
  have HOF := Lib.hid (fun v w hv => rof_any v [10] w hv)
  rw [hS] at HOF
  have HCO := Lib.hid (fun w => rcompl_any S w)
  rw [hD] at HCO
  clear hS hD
  clear h46
  go_enter Tryz.func10, Tryz.ntmps10
  go_upto_region 2 with fail
  generalize ((w.alloc (.cells lxz 38)).alloc (.cells fzer 25)).alloc (.cells (lcs 0 (k : Int) ((k : Int) + 1) ⟨#[]⟩ 0 0 0 0 0) 38) = w1 at HX HR HF HE ⊢
  go_wp2_with fail
  refine (HLT.out _).mono ?_
  rintro e w2 ⟨rfl, rfl⟩
  go_wp2_with fail
  refine (HDT.out _).mono ?_
  rintro e w2 ⟨rfl, rfl⟩
  clear HLT HDT
  have kX := HX.out
  have x0 := kX.cell 0
  have fx0 := kX.free 0
  have hltX := kX.lt
  replace HX := Lib.hid (show Blk (w1.setCell ⟨w.heap.size + 2, 0, none⟩ (.int .i64 4)) (w.heap.size + 2) (lcs (4) ((k : Int)) ((k : Int) + 1) (⟨#[]⟩) (0) (0) (0) (0) (0)) 38 from (kX.set 0 (.int .i64 4)))
  replace HR := Lib.hid (HR.out.set_other (a := ⟨w.heap.size + 2, 0, none⟩) (by show w.heap.size + 2 ≠ w.heap.size; omega) (.int .i64 4))
  replace HF := Lib.hid (HF.out.set_other (a := ⟨w.heap.size + 2, 0, none⟩) (by show w.heap.size + 2 ≠ w.heap.size + 1; omega) (.int .i64 4))
  replace HE := Lib.hid (show Ext w (w1.setCell ⟨w.heap.size + 2, 0, none⟩ (.int .i64 4)) from (HE.out.setCell (p := ⟨w.heap.size + 2, 0, none⟩) (by show w.heap.size ≤ w.heap.size + 2; omega) (.int .i64 4)))
  clear kX
  go_upto_region 34 with fail
  generalize (w1.setCell ⟨w.heap.size + 2, 0, none⟩ (.int .i64 4)) = w3 at HX HR HF HE ⊢
  clear x0 fx0 hltX
  have hE4 : Ext w3 (w3.alloc (.cells #[.int .u8 10] 5)) := by (repeat' (first | (with_reducible exact Below.refl _ _) | (with_reducible assumption) | (with_reducible refine below_drewN ?_ _) | (with_reducible refine Below.alloc ?_ ?_ _) | (with_reducible refine Below.drew ?_) | (with_reducible refine Below.setCell ?_ ?_ _) | (with_reducible refine Below.trans ?_ (Below.mono (by with_reducible assumption) ?_)) | go_size))
  have HBy := Lib.hid (show Bytes (w3.alloc (.cells #[.int .u8 10] 5)) (.slice (some ⟨w3.heap.size, 0, none⟩) 1 1) [10] from by
    have ho : (w3.alloc (.cells #[.int .u8 10] 5)).ownsRow w3.heap.size 5 1 (.slice (some ⟨w3.heap.size, 0, none⟩) 1 1) ([10] : List Nat).length (([10] : List Nat).map nb) := ⟨rfl, .inr ⟨w3.heap.size, 1, #[.int .u8 10], rfl, Nat.le_refl _, Blk.new w3 #[.int .u8 10] 5, Nat.le_refl _, by unfold maxLen; omega, rfl, rfl⟩⟩
    exact Bytes.of_own ho (by decide) (by decide))
  replace HX := Lib.hid (HX.out.ext hE4)
  replace HR := Lib.hid (HR.out.ext hE4)
  replace HF := Lib.hid (HF.out.ext hE4)
  replace HE := Lib.hid (bel_call HE.out hE4)
  clear hE4 hix
  go_wp2_with fail
  refine (HOF.out _ _ HBy.out).mono ?_
  rintro e w4 ⟨rfl, hE2⟩
  replace HX := Lib.hid (HX.out.ext hE2)
  replace HR := Lib.hid (HR.out.ext hE2)
  replace HF := Lib.hid (HF.out.ext hE2)
  replace HE := Lib.hid (bel_call HE.out hE2)
  clear hE2 HBy
  go_wp2_with fail
  refine (HCO.out _).mono ?_
  rintro e w5 ⟨rfl, hE2⟩
  replace HX := Lib.hid (HX.out.ext hE2)
  replace HR := Lib.hid (HR.out.ext hE2)
  replace HF := Lib.hid (HF.out.ext hE2)
  replace HE := Lib.hid (bel_call HE.out hE2)
  clear hE2
  have kX := HX.out
  have x5 := kX.cell 5
  have x6 := kX.cell 6
  have x7 := kX.cell 7
  have x8 := kX.cell 8
  have fx5 := kX.free 5
  have fx6 := kX.free 6
  have fx7 := kX.free 7
  have fx8 := kX.free 8
  have hltX := kX.lt
  replace HX := Lib.hid (show Blk ((((w5.setCell ⟨w.heap.size + 2, 5, none⟩ (.int .u64 (wd D 0))).setCell ⟨w.heap.size + 2, 6, none⟩ (.int .u64 (wd D 1))).setCell ⟨w.heap.size + 2, 7, none⟩ (.int .u64 (wd D 2))).setCell ⟨w.heap.size + 2, 8, none⟩ (.int .u64 (wd D 3))) (w.heap.size + 2) (lcs (4) ((k : Int)) ((k : Int) + 1) (⟨#[]⟩) (0) (wd D 0) (wd D 1) (wd D 2) (wd D 3)) 38 from ((((kX.set 5 (.int .u64 (wd D 0))).set 6 (.int .u64 (wd D 1))).set 7 (.int .u64 (wd D 2))).set 8 (.int .u64 (wd D 3))))
  replace HR := Lib.hid ((((HR.out.set_other (a := ⟨w.heap.size + 2, 5, none⟩) (by show w.heap.size + 2 ≠ w.heap.size; omega) (.int .u64 (wd D 0))).set_other (a := ⟨w.heap.size + 2, 6, none⟩) (by show w.heap.size + 2 ≠ w.heap.size; omega) (.int .u64 (wd D 1))).set_other (a := ⟨w.heap.size + 2, 7, none⟩) (by show w.heap.size + 2 ≠ w.heap.size; omega) (.int .u64 (wd D 2))).set_other (a := ⟨w.heap.size + 2, 8, none⟩) (by show w.heap.size + 2 ≠ w.heap.size; omega) (.int .u64 (wd D 3)))
  replace HF := Lib.hid ((((HF.out.set_other (a := ⟨w.heap.size + 2, 5, none⟩) (by show w.heap.size + 2 ≠ w.heap.size + 1; omega) (.int .u64 (wd D 0))).set_other (a := ⟨w.heap.size + 2, 6, none⟩) (by show w.heap.size + 2 ≠ w.heap.size + 1; omega) (.int .u64 (wd D 1))).set_other (a := ⟨w.heap.size + 2, 7, none⟩) (by show w.heap.size + 2 ≠ w.heap.size + 1; omega) (.int .u64 (wd D 2))).set_other (a := ⟨w.heap.size + 2, 8, none⟩) (by show w.heap.size + 2 ≠ w.heap.size + 1; omega) (.int .u64 (wd D 3)))
  replace HE := Lib.hid (show Ext w ((((w5.setCell ⟨w.heap.size + 2, 5, none⟩ (.int .u64 (wd D 0))).setCell ⟨w.heap.size + 2, 6, none⟩ (.int .u64 (wd D 1))).setCell ⟨w.heap.size + 2, 7, none⟩ (.int .u64 (wd D 2))).setCell ⟨w.heap.size + 2, 8, none⟩ (.int .u64 (wd D 3))) from ((((HE.out.setCell (p := ⟨w.heap.size + 2, 5, none⟩) (by show w.heap.size ≤ w.heap.size + 2; omega) (.int .u64 (wd D 0))).setCell (p := ⟨w.heap.size + 2, 6, none⟩) (by show w.heap.size ≤ w.heap.size + 2; omega) (.int .u64 (wd D 1))).setCell (p := ⟨w.heap.size + 2, 7, none⟩) (by show w.heap.size ≤ w.heap.size + 2; omega) (.int .u64 (wd D 2))).setCell (p := ⟨w.heap.size + 2, 8, none⟩) (by show w.heap.size ≤ w.heap.size + 2; omega) (.int .u64 (wd D 3))))
  clear kX
  go_upto_region 35 with fail
  generalize ((((w5.setCell ⟨w.heap.size + 2, 5, none⟩ (.int .u64 (wd D 0))).setCell ⟨w.heap.size + 2, 6, none⟩ (.int .u64 (wd D 1))).setCell ⟨w.heap.size + 2, 7, none⟩ (.int .u64 (wd D 2))).setCell ⟨w.heap.size + 2, 8, none⟩ (.int .u64 (wd D 3))) = wz at HX HR HF HE ⊢
  clear x5 x6 x7 x8 fx5 fx6 fx7 fx8 hltX
  have kX := HX.out
  have x0 := kX.cell 0
  have x1 := kX.cell 1
  have x2 := kX.cell 2
  have x3 := kX.cell 3
  have x4 := kX.cell 4
  have x5 := kX.cell 5
  have x6 := kX.cell 6
  have x7 := kX.cell 7
  have x8 := kX.cell 8
  have kR := HR.out
  have z0 := kR.cell 0
  have z1 := kR.cell 1
  have z2 := kR.cell 2
  have z3 := kR.cell 3
  have z4 := kR.cell 4
  have z5 := kR.cell 5
  have z6 := kR.cell 6
  have z7 := kR.cell 7
  have z8 := kR.cell 8
  have f0 := kR.free 0
  have f1 := kR.free 1
  have f2 := kR.free 2
  have f3 := kR.free 3
  have f4 := kR.free 4
  have f5 := kR.free 5
  have f6 := kR.free 6
  have f7 := kR.free 7
  have f8 := kR.free 8
  have hltR := kR.lt
  have kF := HF.out
  have q0 := kF.cell 0
  have q1 := kF.cell 1
  have q2 := kF.cell 2
  have q3 := kF.cell 3
  have q4 := kF.cell 4
  have g0 := kF.free 0
  have g1 := kF.free 1
  have g2 := kF.free 2
  have g3 := kF.free 3
  have g4 := kF.free 4
  have hltF := kF.lt
  have KR := Lib.hid ((kR.sto9 (.int .i64 (4)) (.int .i64 ((k : Int))) (.int .i64 ((k : Int) + 1)) (.string (⟨#[]⟩)) (.int .i64 (0)) (.int .u64 (wd D 0)) (.int .u64 (wd D 1)) (.int .u64 (wd D 2)) (.int .u64 (wd D 3))).oth5 (b := w.heap.size + 1) (by omega) (.int .i64 (0)) (.int .i64 0) (.int .i64 0) (.int .i64 (0)) (.slice none 0 0))
  have KF := Lib.hid ((kF.oth9 (b := w.heap.size) (by omega) (.int .i64 (4)) (.int .i64 ((k : Int))) (.int .i64 ((k : Int) + 1)) (.string (⟨#[]⟩)) (.int .i64 (0)) (.int .u64 (wd D 0)) (.int .u64 (wd D 1)) (.int .u64 (wd D 2)) (.int .u64 (wd D 3))).store5 (.int .i64 (0)) (.int .i64 0) (.int .i64 0) (.int .i64 (0)) (.slice none 0 0))
  have EZ := Lib.hid (ext_set5 (ext_set9 HE.out (b := w.heap.size) (by omega) (.int .i64 (4)) (.int .i64 ((k : Int))) (.int .i64 ((k : Int) + 1)) (.string (⟨#[]⟩)) (.int .i64 (0)) (.int .u64 (wd D 0)) (.int .u64 (wd D 1)) (.int .u64 (wd D 2)) (.int .u64 (wd D 3))) (b := w.heap.size + 1) (by omega) (.int .i64 (0)) (.int .i64 0) (.int .i64 0) (.int .i64 (0)) (.slice none 0 0))
  clear kX kR kF HR HF HX HE
  go_wp2_with fail
  have y0 := (KR.out).cell 0
  have y1 := (KR.out).cell 1
  have y2 := (KR.out).cell 2
  have y3 := (KR.out).cell 3
  have y4 := (KR.out).cell 4
  have y5 := (KR.out).cell 5
  have y6 := (KR.out).cell 6
  have y7 := (KR.out).cell 7
  have y8 := (KR.out).cell 8
  have t0 := (KF.out).cell 0
  have t1 := (KF.out).cell 1
  have t2 := (KF.out).cell 2
  have t3 := (KF.out).cell 3
  have t4 := (KF.out).cell 4
  refine bodyPost_ret (v := .tuple #[.agg #[.int .i64 (4), .int .i64 ((k : Int)), .int .i64 ((k : Int) + 1), .string (⟨#[]⟩), .int .i64 (0), .int .u64 (wd D 0), .int .u64 (wd D 1), .int .u64 (wd D 2), .int .u64 (wd D 3)], fag (0) (0)]) ?_ rfl ?_
  · simp [results, Tryz.results10, go_sem, y0, y1, y2, y3, y4, y5, y6, y7, y8, t0, t1, t2, t3, t4]
  · exact ⟨rfl, EZ.out⟩
end Go.Proofs.YtnecafokkhhhhaaGreatDoor
namespace Go.Proofs.YtnecafokkhhhhaaGreatDoor
open Go Go.RowKit
set_option maxHeartbeats 4000000 in
set_option maxRecDepth 20000 in
theorem rone_mark (s : ByteArray) (k : Nat) (hs : s.size ≤ 65536) (C : UInt8) (hC : rest s k = C :: rest s (k + 1)) (h10 : C.toNat ≠ 10) (hl : ltr C.toNat = false) (hd : dgt C.toNat = false) (h34 : C.toNat ≠ 34) (h91 : C.toNat ≠ 91) (h46 : C.toNat ≠ 46) (m : Nat) (hm : (if C.toNat = 61 ∧ Lib.hasPrefix (rest s (k + 1)) [62] = true then 2 else 1) = m) (hin : C ∈ mAll) (w : World) :
    Calls Tryz.prog 10 #[.string s, .int .i64 (k : Int)] w fun e w' => e = .returned (.tuple #[.agg (lcs (5) ((k : Int)) ((k : Int) + (m : Int)) (s.extract k (k + m)) (0) (0) (0) (0) (0)), fag 0 0]) ∧ Ext w w' := by
  have hk := rest_ne hC
  have hix := idx_at s k (k : Int) rfl C _ hC
  have hx0 : Ext w (((w.alloc (.cells lxz 38)).alloc (.cells fzer 25)).alloc (.cells (lcs 0 (k : Int) ((k : Int) + 1) ⟨#[]⟩ 0 0 0 0 0) 38)) := by (repeat' (first | (with_reducible exact Below.refl _ _) | (with_reducible assumption) | (with_reducible refine below_drewN ?_ _) | (with_reducible refine Below.alloc ?_ ?_ _) | (with_reducible refine Below.drew ?_) | (with_reducible refine Below.setCell ?_ ?_ _) | (with_reducible refine Below.trans ?_ (Below.mono (by with_reducible assumption) ?_)) | go_size))
  have HE := Lib.hid hx0
  have HR := Lib.hid (((Blk.new w lxz 38).alloc (.cells fzer 25)).alloc (.cells (lcs 0 (k : Int) ((k : Int) + 1) ⟨#[]⟩ 0 0 0 0 0) 38))
  have HF := Lib.hid (show Blk (((w.alloc (.cells lxz 38)).alloc (.cells fzer 25)).alloc (.cells (lcs 0 (k : Int) ((k : Int) + 1) ⟨#[]⟩ 0 0 0 0 0) 38)) (w.heap.size + 1) fzer 25 from by
    have := (Blk.new (w.alloc (.cells lxz 38)) fzer 25).alloc (.cells (lcs 0 (k : Int) ((k : Int) + 1) ⟨#[]⟩ 0 0 0 0 0) 38)
    simp only [World.size_alloc] at this
    exact this)
  have HX := Lib.hid (show Blk (((w.alloc (.cells lxz 38)).alloc (.cells fzer 25)).alloc (.cells (lcs 0 (k : Int) ((k : Int) + 1) ⟨#[]⟩ 0 0 0 0 0) 38)) (w.heap.size + 2) (lcs 0 (k : Int) ((k : Int) + 1) ⟨#[]⟩ 0 0 0 0 0) 38 from by
    have := Blk.new ((w.alloc (.cells lxz 38)).alloc (.cells fzer 25)) (lcs 0 (k : Int) ((k : Int) + 1) ⟨#[]⟩ 0 0 0 0 0) 38
    simp only [World.size_alloc] at this
    exact this)
  clear hx0
  have e10 : ((C.toNat : Int) == 10) = false := by simp; omega
  have HLT := Lib.hid (fun w => qletter_any C.toNat false hl w)
  have HDT := Lib.hid (fun w => qdigit_any C.toNat false hd w)
  clear hl hd
  have e34 : ((C.toNat : Int) == 34) = false := by simp; omega
  have e91 : ((C.toNat : Int) == 91) = false := by simp; omega
  have e46 : ((C.toNat : Int) == 46) = false := by simp; omega
  have HMK := Lib.hid (fun w => qmark_any s k hs C hC w)
  rw [hm] at HMK
  clear hm
  rw [decide_eq_true hin] at HMK
  go_enter Tryz.func10, Tryz.ntmps10
  go_upto_region 2 with fail
  generalize ((w.alloc (.cells lxz 38)).alloc (.cells fzer 25)).alloc (.cells (lcs 0 (k : Int) ((k : Int) + 1) ⟨#[]⟩ 0 0 0 0 0) 38) = w1 at HX HR HF HE ⊢
  go_wp2_with fail
  refine (HLT.out _).mono ?_
  rintro e w2 ⟨rfl, rfl⟩
  go_wp2_with fail
  refine (HDT.out _).mono ?_
  rintro e w2 ⟨rfl, rfl⟩
  clear HLT HDT
  have kX := HX.out
  have x0 := kX.cell 0
  have x1 := kX.cell 1
  have x2 := kX.cell 2
  have x3 := kX.cell 3
  have x4 := kX.cell 4
  have x5 := kX.cell 5
  have x6 := kX.cell 6
  have x7 := kX.cell 7
  have x8 := kX.cell 8
  clear kX
  go_wp2_with fail
  clear x0 x1 x2 x3 x4 x5 x6 x7 x8
  refine (HMK.out _).mono ?_
  rintro e w2 ⟨rfl, hE2⟩
  clear HMK hix
  replace HX := Lib.hid (HX.out.ext hE2)
  replace HR := Lib.hid (HR.out.ext hE2)
  replace HF := Lib.hid (HF.out.ext hE2)
  replace HE := Lib.hid (bel_call HE.out hE2)
  clear hE2
  have kX := HX.out
  have x0 := kX.cell 0
  have x1 := kX.cell 1
  have x2 := kX.cell 2
  have x3 := kX.cell 3
  have x4 := kX.cell 4
  have x5 := kX.cell 5
  have x6 := kX.cell 6
  have x7 := kX.cell 7
  have x8 := kX.cell 8
  have kR := HR.out
  have z0 := kR.cell 0
  have z1 := kR.cell 1
  have z2 := kR.cell 2
  have z3 := kR.cell 3
  have z4 := kR.cell 4
  have z5 := kR.cell 5
  have z6 := kR.cell 6
  have z7 := kR.cell 7
  have z8 := kR.cell 8
  have f0 := kR.free 0
  have f1 := kR.free 1
  have f2 := kR.free 2
  have f3 := kR.free 3
  have f4 := kR.free 4
  have f5 := kR.free 5
  have f6 := kR.free 6
  have f7 := kR.free 7
  have f8 := kR.free 8
  have hltR := kR.lt
  have kF := HF.out
  have q0 := kF.cell 0
  have q1 := kF.cell 1
  have q2 := kF.cell 2
  have q3 := kF.cell 3
  have q4 := kF.cell 4
  have g0 := kF.free 0
  have g1 := kF.free 1
  have g2 := kF.free 2
  have g3 := kF.free 3
  have g4 := kF.free 4
  have hltF := kF.lt
  have KR := Lib.hid ((kR.sto9 (.int .i64 (5)) (.int .i64 ((k : Int))) (.int .i64 ((k : Int) + (m : Int))) (.string (s.extract k (k + m))) (.int .i64 (0)) (.int .u64 (0)) (.int .u64 (0)) (.int .u64 (0)) (.int .u64 (0))).oth5 (b := w.heap.size + 1) (by omega) (.int .i64 (0)) (.int .i64 0) (.int .i64 0) (.int .i64 (0)) (.slice none 0 0))
  have KF := Lib.hid ((kF.oth9 (b := w.heap.size) (by omega) (.int .i64 (5)) (.int .i64 ((k : Int))) (.int .i64 ((k : Int) + (m : Int))) (.string (s.extract k (k + m))) (.int .i64 (0)) (.int .u64 (0)) (.int .u64 (0)) (.int .u64 (0)) (.int .u64 (0))).store5 (.int .i64 (0)) (.int .i64 0) (.int .i64 0) (.int .i64 (0)) (.slice none 0 0))
  have EZ := Lib.hid (ext_set5 (ext_set9 HE.out (b := w.heap.size) (by omega) (.int .i64 (5)) (.int .i64 ((k : Int))) (.int .i64 ((k : Int) + (m : Int))) (.string (s.extract k (k + m))) (.int .i64 (0)) (.int .u64 (0)) (.int .u64 (0)) (.int .u64 (0)) (.int .u64 (0))) (b := w.heap.size + 1) (by omega) (.int .i64 (0)) (.int .i64 0) (.int .i64 0) (.int .i64 (0)) (.slice none 0 0))
  clear kX kR kF HR HF HX HE
  go_wp2_with fail
  have y0 := (KR.out).cell 0
  have y1 := (KR.out).cell 1
  have y2 := (KR.out).cell 2
  have y3 := (KR.out).cell 3
  have y4 := (KR.out).cell 4
  have y5 := (KR.out).cell 5
  have y6 := (KR.out).cell 6
  have y7 := (KR.out).cell 7
  have y8 := (KR.out).cell 8
  have t0 := (KF.out).cell 0
  have t1 := (KF.out).cell 1
  have t2 := (KF.out).cell 2
  have t3 := (KF.out).cell 3
  have t4 := (KF.out).cell 4
  refine bodyPost_ret (v := .tuple #[.agg #[.int .i64 (5), .int .i64 ((k : Int)), .int .i64 ((k : Int) + (m : Int)), .string (s.extract k (k + m)), .int .i64 (0), .int .u64 (0), .int .u64 (0), .int .u64 (0), .int .u64 (0)], fag (0) (0)]) ?_ rfl ?_
  · simp [results, Tryz.results10, go_sem, y0, y1, y2, y3, y4, y5, y6, y7, y8, t0, t1, t2, t3, t4]
  · exact ⟨rfl, EZ.out⟩
set_option maxHeartbeats 4000000 in
set_option maxRecDepth 20000 in
theorem rone_mark_no (s : ByteArray) (k : Nat) (hs : s.size ≤ 65536) (C : UInt8) (hC : rest s k = C :: rest s (k + 1)) (h10 : C.toNat ≠ 10) (hl : ltr C.toNat = false) (hd : dgt C.toNat = false) (h34 : C.toNat ≠ 34) (h91 : C.toNat ≠ 91) (h46 : C.toNat ≠ 46) (m : Nat) (hm : (if C.toNat = 61 ∧ Lib.hasPrefix (rest s (k + 1)) [62] = true then 2 else 1) = m) (hin : C ∉ mAll) (w : World) :
    Calls Tryz.prog 10 #[.string s, .int .i64 (k : Int)] w fun e w' => ∃ (kd a en : Int) (T : ByteArray) (n x0 x1 x2 x3 : Int), e = .returned (.tuple #[.agg (lcs kd a en T n x0 x1 x2 x3), fag 3 (k : Int)]) ∧ Ext w w' := by
  have hk := rest_ne hC
  have hix := idx_at s k (k : Int) rfl C _ hC
  have hx0 : Ext w (((w.alloc (.cells lxz 38)).alloc (.cells fzer 25)).alloc (.cells (lcs 0 (k : Int) ((k : Int) + 1) ⟨#[]⟩ 0 0 0 0 0) 38)) := by (repeat' (first | (with_reducible exact Below.refl _ _) | (with_reducible assumption) | (with_reducible refine below_drewN ?_ _) | (with_reducible refine Below.alloc ?_ ?_ _) | (with_reducible refine Below.drew ?_) | (with_reducible refine Below.setCell ?_ ?_ _) | (with_reducible refine Below.trans ?_ (Below.mono (by with_reducible assumption) ?_)) | go_size))
  have HE := Lib.hid hx0
  have HR := Lib.hid (((Blk.new w lxz 38).alloc (.cells fzer 25)).alloc (.cells (lcs 0 (k : Int) ((k : Int) + 1) ⟨#[]⟩ 0 0 0 0 0) 38))
  have HF := Lib.hid (show Blk (((w.alloc (.cells lxz 38)).alloc (.cells fzer 25)).alloc (.cells (lcs 0 (k : Int) ((k : Int) + 1) ⟨#[]⟩ 0 0 0 0 0) 38)) (w.heap.size + 1) fzer 25 from by
    have := (Blk.new (w.alloc (.cells lxz 38)) fzer 25).alloc (.cells (lcs 0 (k : Int) ((k : Int) + 1) ⟨#[]⟩ 0 0 0 0 0) 38)
    simp only [World.size_alloc] at this
    exact this)
  have HX := Lib.hid (show Blk (((w.alloc (.cells lxz 38)).alloc (.cells fzer 25)).alloc (.cells (lcs 0 (k : Int) ((k : Int) + 1) ⟨#[]⟩ 0 0 0 0 0) 38)) (w.heap.size + 2) (lcs 0 (k : Int) ((k : Int) + 1) ⟨#[]⟩ 0 0 0 0 0) 38 from by
    have := Blk.new ((w.alloc (.cells lxz 38)).alloc (.cells fzer 25)) (lcs 0 (k : Int) ((k : Int) + 1) ⟨#[]⟩ 0 0 0 0 0) 38
    simp only [World.size_alloc] at this
    exact this)
  clear hx0
  have e10 : ((C.toNat : Int) == 10) = false := by simp; omega
  have HLT := Lib.hid (fun w => qletter_any C.toNat false hl w)
  have HDT := Lib.hid (fun w => qdigit_any C.toNat false hd w)
  clear hl hd
  have e34 : ((C.toNat : Int) == 34) = false := by simp; omega
  have e91 : ((C.toNat : Int) == 91) = false := by simp; omega
  have e46 : ((C.toNat : Int) == 46) = false := by simp; omega
  have HMK := Lib.hid (fun w => qmark_any s k hs C hC w)
  rw [hm] at HMK
  clear hm
  rw [decide_eq_false hin] at HMK
  go_enter Tryz.func10, Tryz.ntmps10
  go_upto_region 2 with fail
  generalize ((w.alloc (.cells lxz 38)).alloc (.cells fzer 25)).alloc (.cells (lcs 0 (k : Int) ((k : Int) + 1) ⟨#[]⟩ 0 0 0 0 0) 38) = w1 at HX HR HF HE ⊢
  go_wp2_with fail
  refine (HLT.out _).mono ?_
  rintro e w2 ⟨rfl, rfl⟩
  go_wp2_with fail
  refine (HDT.out _).mono ?_
  rintro e w2 ⟨rfl, rfl⟩
  clear HLT HDT
  have kX := HX.out
  have x0 := kX.cell 0
  have x1 := kX.cell 1
  have x2 := kX.cell 2
  have x3 := kX.cell 3
  have x4 := kX.cell 4
  have x5 := kX.cell 5
  have x6 := kX.cell 6
  have x7 := kX.cell 7
  have x8 := kX.cell 8
  clear kX
  go_wp2_with fail
  clear x0 x1 x2 x3 x4 x5 x6 x7 x8
  refine (HMK.out _).mono ?_
  rintro e w2 ⟨kd, a, en, T, n, v0, v1, v2, v3, rfl, hE2⟩
  clear HMK hix
  replace HX := Lib.hid (HX.out.ext hE2)
  replace HR := Lib.hid (HR.out.ext hE2)
  replace HF := Lib.hid (HF.out.ext hE2)
  replace HE := Lib.hid (bel_call HE.out hE2)
  clear hE2
  have kX := HX.out
  have x0 := kX.cell 0
  have x1 := kX.cell 1
  have x2 := kX.cell 2
  have x3 := kX.cell 3
  have x4 := kX.cell 4
  have x5 := kX.cell 5
  have x6 := kX.cell 6
  have x7 := kX.cell 7
  have x8 := kX.cell 8
  have kR := HR.out
  have z0 := kR.cell 0
  have z1 := kR.cell 1
  have z2 := kR.cell 2
  have z3 := kR.cell 3
  have z4 := kR.cell 4
  have z5 := kR.cell 5
  have z6 := kR.cell 6
  have z7 := kR.cell 7
  have z8 := kR.cell 8
  have f0 := kR.free 0
  have f1 := kR.free 1
  have f2 := kR.free 2
  have f3 := kR.free 3
  have f4 := kR.free 4
  have f5 := kR.free 5
  have f6 := kR.free 6
  have f7 := kR.free 7
  have f8 := kR.free 8
  have hltR := kR.lt
  have kF := HF.out
  have q0 := kF.cell 0
  have q1 := kF.cell 1
  have q2 := kF.cell 2
  have q3 := kF.cell 3
  have q4 := kF.cell 4
  have g0 := kF.free 0
  have g1 := kF.free 1
  have g2 := kF.free 2
  have g3 := kF.free 3
  have g4 := kF.free 4
  have hltF := kF.lt
  have KR := Lib.hid ((kR.sto9 (.int .i64 (kd)) (.int .i64 (a)) (.int .i64 (en)) (.string (T)) (.int .i64 (n)) (.int .u64 (v0)) (.int .u64 (v1)) (.int .u64 (v2)) (.int .u64 (v3))).oth5 (b := w.heap.size + 1) (by omega) (.int .i64 (3)) (.int .i64 0) (.int .i64 0) (.int .i64 ((k : Int))) (.slice none 0 0))
  have KF := Lib.hid ((kF.oth9 (b := w.heap.size) (by omega) (.int .i64 (kd)) (.int .i64 (a)) (.int .i64 (en)) (.string (T)) (.int .i64 (n)) (.int .u64 (v0)) (.int .u64 (v1)) (.int .u64 (v2)) (.int .u64 (v3))).store5 (.int .i64 (3)) (.int .i64 0) (.int .i64 0) (.int .i64 ((k : Int))) (.slice none 0 0))
  have EZ := Lib.hid (ext_set5 (ext_set9 HE.out (b := w.heap.size) (by omega) (.int .i64 (kd)) (.int .i64 (a)) (.int .i64 (en)) (.string (T)) (.int .i64 (n)) (.int .u64 (v0)) (.int .u64 (v1)) (.int .u64 (v2)) (.int .u64 (v3))) (b := w.heap.size + 1) (by omega) (.int .i64 (3)) (.int .i64 0) (.int .i64 0) (.int .i64 ((k : Int))) (.slice none 0 0))
  clear kX kR kF HR HF HX HE
  go_wp2_with fail
  have y0 := (KR.out).cell 0
  have y1 := (KR.out).cell 1
  have y2 := (KR.out).cell 2
  have y3 := (KR.out).cell 3
  have y4 := (KR.out).cell 4
  have y5 := (KR.out).cell 5
  have y6 := (KR.out).cell 6
  have y7 := (KR.out).cell 7
  have y8 := (KR.out).cell 8
  have t0 := (KF.out).cell 0
  have t1 := (KF.out).cell 1
  have t2 := (KF.out).cell 2
  have t3 := (KF.out).cell 3
  have t4 := (KF.out).cell 4
  refine bodyPost_ret (v := .tuple #[.agg #[.int .i64 (kd), .int .i64 (a), .int .i64 (en), .string (T), .int .i64 (n), .int .u64 (v0), .int .u64 (v1), .int .u64 (v2), .int .u64 (v3)], fag (3) ((k : Int))]) ?_ rfl ?_
  · simp [results, Tryz.results10, go_sem, y0, y1, y2, y3, y4, y5, y6, y7, y8, t0, t1, t2, t3, t4]
  · exact ⟨_, _, _, _, _, _, _, _, _, rfl, EZ.out⟩
end Go.Proofs.YtnecafokkhhhhaaGreatDoor
