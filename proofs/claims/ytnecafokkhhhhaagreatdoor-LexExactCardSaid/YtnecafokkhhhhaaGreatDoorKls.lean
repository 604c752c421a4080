/- A class. -/
import Derived.Test.YtnecafokkhhhhaaGreatDoorTls
namespace Go.Proofs.YtnecafokkhhhhaaGreatDoor
open Go Go.RowKit
theorem ext_same4 {w : World} {b : Nat} {x0 x1 x2 x3 : Value} {t : TypeId} (h : Blk w b #[x0, x1, x2, x3] t) : Ext w ((((w.setCell ⟨b, 0, none⟩ x0).setCell ⟨b, 1, none⟩ x1).setCell ⟨b, 2, none⟩ x2).setCell ⟨b, 3, none⟩ x3) := by
  have hg := grown_set4 w b x0 x1 x2 x3
  have hs := h.store4 x0 x1 x2 x3
  refine ⟨hg.os, hg.tape, hg.output, hg.size, fun k hk => ?_⟩
  by_cases e : k = b
  · subst e
    unfold Blk at h hs
    rw [h, hs]
  · exact hg.block k hk (by simpa using e)
set_option maxHeartbeats 4000000 in
set_option maxRecDepth 20000 in
theorem class_no (f : List UInt8 → Nat × Nat) (r : Nat) (s : ByteArray) (i : Nat) (es ed : Addr) (w : World) (o : Nat) (h : Rdr w r s i) (hK : Rk f w r es ed) (hq : Lib.hasPrefix (rest s i) [91] = false) :
    Calls Tryz.prog 51 #[.pointer (some ⟨r, 0, none⟩), .int .i64 o] w fun e w' => ClsEnd w w' r s es ed e (.inl (false, i)) := by
  have hrw := h.blk.lt
  have HH := Lib.hid h
  have HK := Lib.hid hK
  clear h hK
  go_enter Tryz.func51, Tryz.ntmps51
  have hx0 : Ext w (w.alloc (.cells zerS 36)) := by go_grown
  have hst := stands_any r s ⟨#[91]⟩ i _ (HH.out.ext hx0) false hq
  go_wp2_with fail
  refine hst.mono ?_
  rintro e w1 ⟨rfl, hk⟩
  have hx1 : Ext (w.alloc (.cells zerS 36)) w1 := by obtain ⟨k, rfl⟩ := hk; exact drew_ext _ _
  clear hst hk
  have hx2 := bel_call hx0 hx1
  have hre := refuse_any r s i es ed w1 (HH.out.ext hx2) (HK.out.ext hx2).errs
  have HX := Lib.hid hx2
  have HX1 := Lib.hid hx1
  clear hx1 hx2 hx0
  go_wp2_with fail
  refine hre.mono ?_
  rintro e w4 ⟨v, rfl, hP, hE4⟩
  have hb := ((Blk.new w zerS 36).ext HX1.out).ext hE4
  have HB := Lib.hid hb
  have HG := Lib.hid (bel_call HX.out hE4)
  have HP := Lib.hid hP
  have hlt := hb.lt
  obtain ⟨z0, z1, z2, z3⟩ := hb.cells4
  have f0 := hb.free 0
  have f1 := hb.free 1
  have f2 := hb.free 2
  have f3 := hb.free 3
  obtain ⟨y0, y1, y2, y3⟩ := (hb.store4 (.int .u64 0) (.int .u64 0) (.int .u64 0) (.int .u64 0)).cells4
  clear hb hP hre hE4 HX HX1
  go_wp2_with fail
  refine bodyPost_ret (v := .tuple #[sv0, v]) ?_ rfl ?_
  · simp [results, Tryz.results51, go_sem, y0, y1, y2, y3]
  · exact ⟨0#256, _, by rw [sv_zero], rfl, HP.out.own HB.out _ _ _ _, grown_own4 (grown_of_ext HG.out) _ (Nat.le_refl _) _ _ _ _⟩
set_option maxHeartbeats 4000000 in
set_option maxRecDepth 20000 in
theorem class_deep (f : List UInt8 → Nat × Nat) (r : Nat) (s : ByteArray) (i : Nat) (es ed : Addr) (w : World) (h : Rdr w r s i) (hK : Rk f w r es ed) (hq : Lib.hasPrefix (rest s i) [91] = true) :
    Calls Tryz.prog 51 #[.pointer (some ⟨r, 0, none⟩), .int .i64 40] w fun e w' => ClsEnd w w' r s es ed e (.inl (true, i)) := by
  have hrw := h.blk.lt
  have HH := Lib.hid h
  have HK := Lib.hid hK
  clear h hK
  go_enter Tryz.func51, Tryz.ntmps51
  have hx0 : Ext w (w.alloc (.cells zerS 36)) := by go_grown
  have hst := stands_any r s ⟨#[91]⟩ i _ (HH.out.ext hx0) true hq
  go_wp2_with fail
  refine hst.mono ?_
  rintro e w1 ⟨rfl, hk⟩
  have hx1 : Ext (w.alloc (.cells zerS 36)) w1 := by obtain ⟨k, rfl⟩ := hk; exact drew_ext _ _
  clear hst hk
  have hx2 := bel_call hx0 hx1
  have h1 := HH.out.ext hx2
  have hE := (HK.out.ext hx2).errs
  have hb1 := (Blk.new w zerS 36).ext hx1
  have HX := Lib.hid hx2
  clear hx1 hx2 hx0 HK
  go_wp2_with fail
  refine G.wp_region_stab (G := Ext) (RsP 6 ed i) (by kernel_rfl) (by kernel_rfl) (RsP_mono _ _ _) (fun hex => ?_)
  iterate 6
    (refine G.wpS_one (A := ?_) hex rfl rfl (by simp) ?_ ?_ ?_
     rotate_left 2
     · intro w' hC K hK
       have c1 := (h1.ext hC.1).blk.cell 1; have cs := (hE.ext hC.1).deep
       go_wp2_with (fail)
       refine hK _ ?_
       first | exact Below.refl _ _ | assumption | ((repeat' (first | (with_reducible exact Below.refl _ _) | (with_reducible assumption) | (with_reducible refine below_drewN ?_ _) | (with_reducible refine Below.alloc ?_ ?_ _) | (with_reducible refine Below.drew ?_) | (with_reducible refine Below.setCell ?_ ?_ _) | (with_reducible refine Below.trans ?_ (Below.mono (by with_reducible assumption) ?_)) | go_size)))
     rotate_left 1
     · rfl
     clear hex; intro hex)
  refine G.wpS_rel (fun v w => Placed w v ed i) rfl rfl (by simp) (by first | rfl | (simp [Region.wanted, yielded]; done)) ?_ ?_
  · intro w' hC K hK
    simp only [Act.put, List.setIfInBounds_toArray, List.set_cons_succ, List.set_cons_zero] at hK
    go_wp2_with (refine (place_new ed i _ (Nat.lt_trans hE.bd (h1.ext hC.1).blk.lt)).mono ?_; rintro e w2 ⟨v', rfl, h2, hE1⟩)
    refine hK _ _ ?_ ?_
    · first | exact Below.refl _ _ | assumption | ((repeat' (first | (with_reducible exact Below.refl _ _) | (with_reducible assumption) | (with_reducible refine below_drewN ?_ _) | (with_reducible refine Below.alloc ?_ ?_ _) | (with_reducible refine Below.drew ?_) | (with_reducible refine Below.setCell ?_ ?_ _) | (with_reducible refine Below.trans ?_ (Below.mono (by with_reducible assumption) ?_)) | go_size)))
    · exact h2
  clear hex
  intro v1 w' hex hv1
  replace hex := Exists.intro w' hex
  simp only [Act.put, List.setIfInBounds_toArray, List.set_cons_succ, List.set_cons_zero]
  refine G.wpS_none hex rfl rfl ?_ ?_
  · intro w' hC K hK
    have hb2 := hb1.ext hC.1
    have hss := ext_same4 hb2
    obtain ⟨z0, z1, z2, z3⟩ := hb2.cells4
    have f0 := hb2.free 0
    have f1 := hb2.free 1
    have f2 := hb2.free 2
    have f3 := hb2.free 3
    have HS := Lib.hid hss
    have hlt := hb2.lt
    clear hb2 hss
    go_wp2_with fail
    exact HS.out
  clear hex; intro hex
  refine G.wpS_one (A := ?_) hex rfl rfl (by simp) ?_ ?_ ?_
  rotate_left 2
  · intro w' hC K hK
    go_wp2_with (fail)
    refine hK _ ?_
    first | exact Below.refl _ _ | assumption | ((repeat' (first | (with_reducible exact Below.refl _ _) | (with_reducible assumption) | (with_reducible refine below_drewN ?_ _) | (with_reducible refine Below.alloc ?_ ?_ _) | (with_reducible refine Below.drew ?_) | (with_reducible refine Below.setCell ?_ ?_ _) | (with_reducible refine Below.trans ?_ (Below.mono (by with_reducible assumption) ?_)) | go_size)))
  rotate_left 1
  · rfl
  clear hex; intro hex
  refine G.wpS_nil fun w2 hAll => ?_
  have hp := (hAll.2 6).1 rfl
  have hb2 := hb1.ext hAll.1
  obtain ⟨y0, y1, y2, y3⟩ := hb2.cells4
  have HG := Lib.hid (bel_call HX.out hAll.1)
  have HP := Lib.hid hp
  clear hp hb2 hb1 hAll hex h1 hE HX
  go_wp2_with fail
  refine bodyPost_ret (v := .tuple #[sv0, v1]) ?_ rfl ?_
  · simp [results, Tryz.results51, go_sem, y0, y1, y2, y3]
  · exact ⟨0#256, _, by rw [sv_zero], rfl, HP.out, grown_of_ext HG.out⟩
set_option maxHeartbeats 4000000 in
set_option maxRecDepth 20000 in
theorem class_of (f : List UInt8 → Nat × Nat) (n : Nat) (hT : TailsOk f n) : ClassOk f (n + 1) := by
  intro r s i es ed w o x h hK ho40 hn hx
  cases hq : Lib.hasPrefix (rest s i) [91] with
  | false =>
    rw [cls, if_pos hq] at hx
    subst hx
    exact class_no f r s i es ed w o h hK hq
  | true =>
  by_cases ho : o = 40
  · rw [cls, if_neg (by rw [hq]; simp), if_pos ho] at hx
    subst hx ho
    exact class_deep f r s i es ed w h hK hq
  rw [cls, if_neg (by rw [hq]; simp), if_neg ho] at hx
  have hrw := h.blk.lt
  have hl1 := pre_len hq
  have hrl := rest_len h.le
  have hoi : ¬ ((o : Int) = 40) := by omega
  have hsz := h.size
  have HH := Lib.hid h
  have HK := Lib.hid hK
  have HX0 := Lib.hid hx
  have HT := Lib.hid hT
  clear h hK hx hT
  go_enter Tryz.func51, Tryz.ntmps51
  have hx0 : Ext w (w.alloc (.cells zerS 36)) := by go_grown
  have hst := stands_any r s ⟨#[91]⟩ i _ (HH.out.ext hx0) true hq
  go_wp2_with fail
  refine hst.mono ?_
  rintro e w1 ⟨rfl, hk⟩
  have hx1 : Ext (w.alloc (.cells zerS 36)) w1 := by obtain ⟨k, rfl⟩ := hk; exact drew_ext _ _
  clear hst hk
  have hx2 := bel_call hx0 hx1
  have h1 := HH.out.ext hx2
  have c1 := h1.blk.cell 1
  have f1 := h1.blk.free 1
  have hrw1 := h1.blk.lt
  have HB1 := Lib.hid ((Blk.new w zerS 36).ext hx1)
  have HM1 := Lib.hid (((Moved.same HH.out).ext hx2).set (i + 1) (by omega))
  have HH1 := Lib.hid h1
  clear hx1 hx2 hx0 h1
  go_wp2_with fail
  generalize hw2 : w1.setCell ⟨r, 1, none⟩ (.int .i64 ((i : Int) + 1)) = w2 at *
  have HM2 : Hid (Moved w w2 r s (i + 1)) := by
    have := HM1.out
    rw [show ((i + 1 : Nat) : Int) = (i : Int) + 1 by omega, hw2] at this
    exact Lib.hid this
  have HB2 : Hid (Blk w2 w.heap.size zerS 36) := by
    rw [← hw2]
    exact Lib.hid (HB1.out.set_other (by simp; omega) _)
  clear hw2 c1 f1 HB1 HM1 HH1
  have hrd1 : rest s (i + 1) = (rest s i).drop 1 := rest_drop s i 1
  have hrd2 : rest s (i + 2) = (rest s i).drop 2 := rest_drop s i 2
  cases hq2 : Lib.hasPrefix (rest s (i + 1)) [94] with
  | true =>
    have hl2 := pre_len hq2
    have hrl1 := rest_len (s := s) (i := i + 1) (by omega)
    have hps := pass_yes r s ⟨#[94]⟩ (i + 1) w2 HM2.out.2 hq2 (by show i + 1 + 1 ≤ s.size; omega)
    have hx1 := HX0.out
    rw [if_pos (by rw [← hrd1]; exact hq2), ← hrd2] at hx1
    go_wp2_with fail
    refine hps.mono ?_
    rintro e w3 ⟨rfl, hM⟩
    replace hM : Moved w2 w3 r s (i + 2) := hM
    have HG3 := Lib.hid (grown_trans HM2.out.1 hM.1)
    have HR3 := Lib.hid hM.2
    have HB3 := Lib.hid (HB2.out.grown hM.1 (by simp; omega))
    clear hM hps HM2 HB2 HX0 hq2 hrd1 hrd2
    -- the items stand from (i + 2) on
    have HN2 : (rest s (i + 2)).length < (rest s i).length + 1 := by
      have := rest_len HR3.out.le
      omega
    obtain ⟨z, hz⟩ : ∃ z, ims f ((rest s i).length + 1) (rest s (i + 2)) 0#256 0 = z := ⟨_, rfl⟩
    have hit := items_any f r s (i + 2) es ed w3 HR3.out (HK.out.moved HG3.out) _ HN2 z hz
    rw [hz] at hx1
    cases z with
    | inl d =>
      have HX := Lib.hid hx1
      have HC := Lib.hid hit
      clear hit hx1 hz HN2
      go_wp2_with fail
      refine HC.out.mono ?_
      rintro e w4 ⟨v4, rfl, hP, hG4⟩
      have hb := HB3.out.grown hG4 (by simp; omega)
      have HB4 := Lib.hid hb
      have hP2 : ∃ p, v4 = .iface 70 (.pointer (some ⟨p, 0, none⟩)) := by obtain ⟨p, tp, h1, h2⟩ := hP; exact ⟨p, h1⟩
      have HP := Lib.hid hP
      clear hP
      obtain ⟨p, rfl⟩ := hP2
      have HG5 := Lib.hid (grown_trans HG3.out hG4)
      obtain ⟨z0, z1, z2, z3⟩ := hb.cells4
      have f0 := hb.free 0
      have f1 := hb.free 1
      have f2 := hb.free 2
      have f3 := hb.free 3
      have hlt := hb.lt
      clear hb hG4 HG3 HB3 HC HR3
      go_wp2_with fail
      obtain ⟨y0, y1, y2, y3⟩ := ((HB4.out.store4 (.int .u64 0) (.int .u64 0) (.int .u64 0) (.int .u64 0)).alloc (.cells zerS 36)).cells4
      refine bodyPost_ret (v := .tuple #[sv0, .iface 70 (.pointer (some ⟨p, 0, none⟩))]) ?_ rfl ?_
      · simp [results, Tryz.results51, go_sem, y0, y1, y2, y3]
      · rw [← HX.out]
        refine ⟨0#256, _, by rw [sv_zero], rfl, ?_, ?_⟩
        · exact (HP.out.own HB4.out _ _ _ _).ext (Below.alloc (Below.refl _ _) (Nat.le_refl _) _)
        · exact grown_ext (grown_own4 HG5.out _ (by omega) _ _ _ _) (Below.alloc (Below.refl _ _) (Nat.le_refl _) _)
    | inr Sm =>
      obtain ⟨S, m⟩ := Sm
      simp only at hx1
      have HX := Lib.hid hx1
      have HC := Lib.hid hit
      clear hit hx1 hz HN2
      go_wp2_with fail
      refine HC.out.mono ?_
      rintro e w4 ⟨rfl, hM⟩
      have HB4 := Lib.hid (HB3.out.grown hM.1 (by simp; omega))
      have HG4 := Lib.hid (grown_trans HG3.out hM.1)
      have HR4 := Lib.hid hM.2
      have hlt := HB4.out.lt
      have hrl4 := rest_len hM.2.le
      clear hM HG3 HB3 HC HR3
      skip
      have hcp := fun w => compl_any S w
      go_wp2_with fail
      refine (hcp _).mono ?_
      rintro e w5 ⟨rfl, hE5⟩
      have hx5 : Ext w4 w5 := bel_call (show Ext w4 _ from by (repeat' (first | (with_reducible exact Below.refl _ _) | (with_reducible assumption) | (with_reducible refine below_drewN ?_ _) | (with_reducible refine Below.alloc ?_ ?_ _) | (with_reducible refine Below.drew ?_) | (with_reducible refine Below.setCell ?_ ?_ _) | (with_reducible refine Below.trans ?_ (Below.mono (by with_reducible assumption) ?_)) | go_size))) hE5
      have hb7 := (Blk.new w4 (svs S) 36).ext hE5
      obtain ⟨q0, q1, q2, q3⟩ := hb7.cells4
      have g0 := hb7.free 0
      have g1 := hb7.free 1
      have g2 := hb7.free 2
      have g3 := hb7.free 3
      have hlt7 := hb7.lt
      have hlt5 := hx5.size
      obtain ⟨y0, y1, y2, y3⟩ := (hb7.store4 (.int .u64 (wd (~~~S) 0)) (.int .u64 (wd (~~~S) 1)) (.int .u64 (wd (~~~S) 2)) (.int .u64 (wd (~~~S) 3))).cells4
      have HR5 := Lib.hid ((HR4.out.ext hx5).own (b := w4.heap.size) (by have := HR4.out.blk.lt; omega) (.int .u64 (wd (~~~S) 0)) (.int .u64 (wd (~~~S) 1)) (.int .u64 (wd (~~~S) 2)) (.int .u64 (wd (~~~S) 3)))
      have HB5 := Lib.hid ((HB4.out.ext hx5).other4 (b := w4.heap.size) (by omega) (.int .u64 (wd (~~~S) 0)) (.int .u64 (wd (~~~S) 1)) (.int .u64 (wd (~~~S) 2)) (.int .u64 (wd (~~~S) 3)))
      have HG5 := Lib.hid (grown_own4 (grown_ext HG4.out hx5) w4.heap.size (by omega) (.int .u64 (wd (~~~S) 0)) (.int .u64 (wd (~~~S) 1)) (.int .u64 (wd (~~~S) 2)) (.int .u64 (wd (~~~S) 3)))
      clear hb7 hx5 hE5 HB4 HG4 HR4 hcp
      go_wp2_with fail
      clear q0 q1 q2 q3 g0 g1 g2 g3 y0 y1 y2 y3
      generalize (((w5.setCell ⟨w4.heap.size, 0, none⟩ (.int .u64 (wd (~~~S) 0))).setCell ⟨w4.heap.size, 1, none⟩ (.int .u64 (wd (~~~S) 1))).setCell ⟨w4.heap.size, 2, none⟩ (.int .u64 (wd (~~~S) 2))).setCell ⟨w4.heap.size, 3, none⟩ (.int .u64 (wd (~~~S) 3)) = w7 at *
      have HX5 := Lib.hid (show tls f n (o + 1) (~~~S) (rest s (i + 2 + m)) (i + 2 + m) = x by rw [show rest s (i + 2 + m) = (rest s i).drop (2 + m) by rw [← rest_drop, Nat.add_assoc]]; exact HX.out)
      have hrd5 := rest_len HR5.out.le
      have htl := HT.out r s (i + 2 + m) es ed w7 (o + 1) (~~~S) x HR5.out (HK.out.moved HG5.out) (by omega) (by omega) HX5.out
      rw [show ((o + 1 : Nat) : Int) = (o : Int) + 1 by omega] at htl
      have HC := Lib.hid htl
      clear htl
      refine HC.out.mono ?_
      rintro e w6 ⟨S6, v6, rfl, hres⟩
      have hG6 : w7.grownBy w6 (some r) := by
        match x, hres with
        | .inl (b, q), h => exact h.2.2
        | .inr (T, m), h => exact h.2.2.1
      have hb := HB5.out.grown hG6 (by simp; omega)
      have HB6 := Lib.hid hb
      have HR6 := Lib.hid hres
      have hlt6 := hb.lt
      obtain ⟨z0, z1, z2, z3⟩ := hb.cells4
      have f0 := hb.free 0
      have f1 := hb.free 1
      have f2 := hb.free 2
      have f3 := hb.free 3
      obtain ⟨y0, y1, y2, y3⟩ := (hb.store4 (.int .u64 (wd S6 0)) (.int .u64 (wd S6 1)) (.int .u64 (wd S6 2)) (.int .u64 (wd S6 3))).cells4
      clear hb hG6 hres HC HB5 HR5 HX5
      go_wp2_with fail
      refine bodyPost_ret (v := .tuple #[sv S6, v6]) ?_ rfl ?_
      · simp [results, Tryz.results51, go_sem, y0, y1, y2, y3]
      · exact ⟨S6, _, rfl, HR6.out.own HG5.out HB6.out (Nat.le_refl _) (by omega) _ _ _ _⟩
  | false => 
    have hps := pass_no r s ⟨#[94]⟩ (i + 1) w2 HM2.out.2 hq2
    have hx1 := HX0.out
    rw [if_neg (by rw [← hrd1, hq2]; simp), ← hrd1] at hx1
    go_wp2_with fail
    refine hps.mono ?_
    rintro e w3 ⟨rfl, hk⟩
    have hx3 : Ext w2 w3 := by obtain ⟨k, rfl⟩ := hk; exact drew_ext _ _
    have HG3 := Lib.hid (grown_ext HM2.out.1 hx3)
    have HR3 := Lib.hid (HM2.out.2.ext hx3)
    have HB3 := Lib.hid (HB2.out.ext hx3)
    clear hk hx3 hps HM2 HB2 HX0 hq2 hrd1 hrd2
    -- the items stand from (i + 1) on
    have HN2 : (rest s (i + 1)).length < (rest s i).length + 1 := by
      have := rest_len HR3.out.le
      omega
    obtain ⟨z, hz⟩ : ∃ z, ims f ((rest s i).length + 1) (rest s (i + 1)) 0#256 0 = z := ⟨_, rfl⟩
    have hit := items_any f r s (i + 1) es ed w3 HR3.out (HK.out.moved HG3.out) _ HN2 z hz
    rw [hz] at hx1
    cases z with
    | inl d =>
      have HX := Lib.hid hx1
      have HC := Lib.hid hit
      clear hit hx1 hz HN2
      go_wp2_with fail
      refine HC.out.mono ?_
      rintro e w4 ⟨v4, rfl, hP, hG4⟩
      have hb := HB3.out.grown hG4 (by simp; omega)
      have HB4 := Lib.hid hb
      have hP2 : ∃ p, v4 = .iface 70 (.pointer (some ⟨p, 0, none⟩)) := by obtain ⟨p, tp, h1, h2⟩ := hP; exact ⟨p, h1⟩
      have HP := Lib.hid hP
      clear hP
      obtain ⟨p, rfl⟩ := hP2
      have HG5 := Lib.hid (grown_trans HG3.out hG4)
      obtain ⟨z0, z1, z2, z3⟩ := hb.cells4
      have f0 := hb.free 0
      have f1 := hb.free 1
      have f2 := hb.free 2
      have f3 := hb.free 3
      have hlt := hb.lt
      clear hb hG4 HG3 HB3 HC HR3
      go_wp2_with fail
      obtain ⟨y0, y1, y2, y3⟩ := ((HB4.out.store4 (.int .u64 0) (.int .u64 0) (.int .u64 0) (.int .u64 0)).alloc (.cells zerS 36)).cells4
      refine bodyPost_ret (v := .tuple #[sv0, .iface 70 (.pointer (some ⟨p, 0, none⟩))]) ?_ rfl ?_
      · simp [results, Tryz.results51, go_sem, y0, y1, y2, y3]
      · rw [← HX.out]
        refine ⟨0#256, _, by rw [sv_zero], rfl, ?_, ?_⟩
        · exact (HP.out.own HB4.out _ _ _ _).ext (Below.alloc (Below.refl _ _) (Nat.le_refl _) _)
        · exact grown_ext (grown_own4 HG5.out _ (by omega) _ _ _ _) (Below.alloc (Below.refl _ _) (Nat.le_refl _) _)
    | inr Sm =>
      obtain ⟨S, m⟩ := Sm
      simp only at hx1
      have HX := Lib.hid hx1
      have HC := Lib.hid hit
      clear hit hx1 hz HN2
      go_wp2_with fail
      refine HC.out.mono ?_
      rintro e w4 ⟨rfl, hM⟩
      have HB4 := Lib.hid (HB3.out.grown hM.1 (by simp; omega))
      have HG4 := Lib.hid (grown_trans HG3.out hM.1)
      have HR4 := Lib.hid hM.2
      have hlt := HB4.out.lt
      have hrl4 := rest_len hM.2.le
      clear hM HG3 HB3 HC HR3
      skip
      have HR5 := Lib.hid (HR4.out.ext (show Ext w4 (w4.alloc (.cells (svs S) 36)) from by (repeat' (first | (with_reducible exact Below.refl _ _) | (with_reducible assumption) | (with_reducible refine below_drewN ?_ _) | (with_reducible refine Below.alloc ?_ ?_ _) | (with_reducible refine Below.drew ?_) | (with_reducible refine Below.setCell ?_ ?_ _) | (with_reducible refine Below.trans ?_ (Below.mono (by with_reducible assumption) ?_)) | go_size))))
      have HB5 := Lib.hid (HB4.out.ext (show Ext w4 (w4.alloc (.cells (svs S) 36)) from by (repeat' (first | (with_reducible exact Below.refl _ _) | (with_reducible assumption) | (with_reducible refine below_drewN ?_ _) | (with_reducible refine Below.alloc ?_ ?_ _) | (with_reducible refine Below.drew ?_) | (with_reducible refine Below.setCell ?_ ?_ _) | (with_reducible refine Below.trans ?_ (Below.mono (by with_reducible assumption) ?_)) | go_size))))
      have HG5 := Lib.hid (grown_ext HG4.out (show Ext w4 (w4.alloc (.cells (svs S) 36)) from by (repeat' (first | (with_reducible exact Below.refl _ _) | (with_reducible assumption) | (with_reducible refine below_drewN ?_ _) | (with_reducible refine Below.alloc ?_ ?_ _) | (with_reducible refine Below.drew ?_) | (with_reducible refine Below.setCell ?_ ?_ _) | (with_reducible refine Below.trans ?_ (Below.mono (by with_reducible assumption) ?_)) | go_size))))
      go_wp2_with fail
      generalize w4.alloc (.cells (svs S) 36) = w7 at *
      have HX5 := Lib.hid (show tls f n (o + 1) S (rest s (i + 1 + m)) (i + 1 + m) = x by rw [show rest s (i + 1 + m) = (rest s i).drop (1 + m) by rw [← rest_drop, Nat.add_assoc]]; exact HX.out)
      have hrd5 := rest_len HR5.out.le
      have htl := HT.out r s (i + 1 + m) es ed w7 (o + 1) S x HR5.out (HK.out.moved HG5.out) (by omega) (by omega) HX5.out
      rw [show ((o + 1 : Nat) : Int) = (o : Int) + 1 by omega] at htl
      have HC := Lib.hid htl
      clear htl
      refine HC.out.mono ?_
      rintro e w6 ⟨S6, v6, rfl, hres⟩
      have hG6 : w7.grownBy w6 (some r) := by
        match x, hres with
        | .inl (b, q), h => exact h.2.2
        | .inr (T, m), h => exact h.2.2.1
      have hb := HB5.out.grown hG6 (by simp; omega)
      have HB6 := Lib.hid hb
      have HR6 := Lib.hid hres
      have hlt6 := hb.lt
      obtain ⟨z0, z1, z2, z3⟩ := hb.cells4
      have f0 := hb.free 0
      have f1 := hb.free 1
      have f2 := hb.free 2
      have f3 := hb.free 3
      obtain ⟨y0, y1, y2, y3⟩ := (hb.store4 (.int .u64 (wd S6 0)) (.int .u64 (wd S6 1)) (.int .u64 (wd S6 2)) (.int .u64 (wd S6 3))).cells4
      clear hb hG6 hres HC HB5 HR5 HX5
      go_wp2_with fail
      refine bodyPost_ret (v := .tuple #[sv S6, v6]) ?_ rfl ?_
      · simp [results, Tryz.results51, go_sem, y0, y1, y2, y3]
      · exact ⟨S6, _, rfl, HR6.out.own HG5.out HB6.out (Nat.le_refl _) (by omega) _ _ _ _⟩
/-- Each class is read as 'cls' says, whatever the fuel beyond its length. -/
theorem class_ok (f : List UInt8 → Nat × Nat) (n : Nat) : ∀ g, g ≤ n → ClassOk f g := by
  induction n with
  | zero =>
    intro g hg r s i es ed w o x h hK ho hn
    omega
  | succ n ih =>
    intro g hg
    by_cases e : g = n + 1
    · subst e
      exact class_of f n (tails_of f n (fun g hg => ih g (by omega)))
    · exact ih g (by omega)
end Go.Proofs.YtnecafokkhhhhaaGreatDoor
