/- What the great seat's rows hand on. -/
import Derived.Test.YtecjodcaeldidaaGreatDoorTls
import Derived.Test.YtecjodcaeldidaaGreatDoorList
import Derived.Lib.SlBytesRow
import Derived.Lib.BufferRead
import Derived.OwnWalk
import Derived.WalkKit
import Derived.Lib.AppendStr
import Derived.Test.YtecjodcaeldidaaGreatDoorSpans
import Derived.Test.YtecjodcaeldidaaGreatDoorEq
import Derived.Test.YtecjodcaeldidaaGreatDoorNmd
import Derived.Test.YtecjodcaeldidaaGreatDoorSent
import Derived.Test.YtecjodcaeldidaaGreatDoorBits2
import Derived.Test.YtecjodcaeldidaaGreatDoorRows
import Derived.ProofKit
import Derived.LaidMore
import Derived.LaidLaws
import Derived.LaidHandle
import Derived.OpenShut
import Derived.Stop.Joined
import Derived.Deep.Strs
import Derived.Lib.LaidTab
import Derived.Shelf.Vars
import Derived.Carry
import Derived.Deep.Slices
import Derived.Test.YtecjodcaeldidaaGreatDoorTell
import Derived.Test.YtecjodcaeldidaaGreatDoorNew
import Derived.Test.YtecjodcaeldidaaGreatDoorEqF
import Derived.Test.YtecjodcaeldidaaGreatDoorTie
import Derived.Test.YtecjodcaeldidaaGreatDoorCards
import Derived.SevenTiedAt
import Derived.Deep.DeepWitnessRowRef
import Derived.Deep.DeepHandedRow
namespace Go.Proofs.YtecjodcaeldidaaGreatDoor
open Go Go.RowKit
theorem ext_same4 {w : World} {b : Nat} {x0 x1 x2 x3 : Value} {t : TypeId} (h : Blk w b #[x0, x1, x2, x3] t) : Ext w ((((w.setCell ⟨b, 0, none⟩ x0).setCell ⟨b, 1, none⟩ x1).setCell ⟨b, 2, none⟩ x2).setCell ⟨b, 3, none⟩ x3) := by
  have hg := grown_set4 w b x0 x1 x2 x3
  have hs := h.store4 x0 x1 x2 x3
  refine ⟨hg.os, hg.tape, hg.output, hg.size, fun k hk => ?_⟩
  by_cases e : k = b
  · subst e
    unfold Blk at h hs
    rw [h, hs]
  · exact hg.block k hk (by simpa using e)
set_option maxHeartbeats 4000000 in
set_option maxRecDepth 20000 in
theorem class_no (f : List UInt8 → Nat × Nat) (r : Nat) (s : ByteArray) (i : Nat) (es ed : Addr) (w : World) (o : Nat) (h : Rdr w r s i) (hK : Rk f w r es ed) (hq : Lib.hasPrefix (rest s i) [91] = false) :
    Calls Tryz.prog 20 #[.pointer (some ⟨r, 0, none⟩), .int .i64 o] w fun e w' => ClsEnd w w' r s es ed e (.inl (false, i)) := by
  have hrw := h.blk.lt
  have HH := Lib.hid h
  have HK := Lib.hid hK
  clear h hK
  go_enter Tryz.func20, Tryz.ntmps20
  have hx0 : Ext w (w.alloc (.cells zerS 27)) := by go_grown
  have hst := stands_any r s ⟨#[91]⟩ i _ (HH.out.ext hx0) false hq
  go_wp2_with fail
  refine hst.mono ?_
  rintro e w1 ⟨rfl, hk⟩
  have hx1 : Ext (w.alloc (.cells zerS 27)) w1 := by obtain ⟨k, rfl⟩ := hk; exact drew_ext _ _
  clear hst hk
  have hx2 := bel_call hx0 hx1
  have hre := refuse_any r s i es ed w1 (HH.out.ext hx2) (HK.out.ext hx2).errs
  have HX := Lib.hid hx2
  have HX1 := Lib.hid hx1
  clear hx1 hx2 hx0
  go_wp2_with fail
  refine hre.mono ?_
  rintro e w4 ⟨v, rfl, hP, hE4⟩
  have hb := ((Blk.new w zerS 27).ext HX1.out).ext hE4
  have HB := Lib.hid hb
  have HG := Lib.hid (bel_call HX.out hE4)
  have HP := Lib.hid hP
  have hlt := hb.lt
  obtain ⟨z0, z1, z2, z3⟩ := hb.cells4
  have f0 := hb.free 0
  have f1 := hb.free 1
  have f2 := hb.free 2
  have f3 := hb.free 3
  obtain ⟨y0, y1, y2, y3⟩ := (hb.store4 (.int .u64 0) (.int .u64 0) (.int .u64 0) (.int .u64 0)).cells4
  clear hb hP hre hE4 HX HX1
  go_wp2_with fail
  refine bodyPost_ret (v := .tuple #[sv0, v]) ?_ rfl ?_
  · simp [results, Tryz.results20, go_sem, y0, y1, y2, y3]
  · exact ⟨0#256, _, by rw [sv_zero], rfl, HP.out.own HB.out _ _ _ _, grown_own4 (grown_of_ext HG.out) _ (Nat.le_refl _) _ _ _ _⟩
set_option maxHeartbeats 4000000 in
set_option maxRecDepth 20000 in
theorem class_deep (f : List UInt8 → Nat × Nat) (r : Nat) (s : ByteArray) (i : Nat) (es ed : Addr) (w : World) (h : Rdr w r s i) (hK : Rk f w r es ed) (hq : Lib.hasPrefix (rest s i) [91] = true) :
    Calls Tryz.prog 20 #[.pointer (some ⟨r, 0, none⟩), .int .i64 40] w fun e w' => ClsEnd w w' r s es ed e (.inl (true, i)) := by
  have hrw := h.blk.lt
  have HH := Lib.hid h
  have HK := Lib.hid hK
  clear h hK
  go_enter Tryz.func20, Tryz.ntmps20
  have hx0 : Ext w (w.alloc (.cells zerS 27)) := by go_grown
  have hst := stands_any r s ⟨#[91]⟩ i _ (HH.out.ext hx0) true hq
  go_wp2_with fail
  refine hst.mono ?_
  rintro e w1 ⟨rfl, hk⟩
  have hx1 : Ext (w.alloc (.cells zerS 27)) w1 := by obtain ⟨k, rfl⟩ := hk; exact drew_ext _ _
  clear hst hk
  have hx2 := bel_call hx0 hx1
  have h1 := HH.out.ext hx2
  have hE := (HK.out.ext hx2).errs
  have hb1 := (Blk.new w zerS 27).ext hx1
  have HX := Lib.hid hx2
  clear hx1 hx2 hx0 HK
  go_wp2_with fail
  refine G.wp_region_stab (G := Ext) (RsP 6 ed i) (by kernel_rfl) (by kernel_rfl) (RsP_mono _ _ _) (fun hex => ?_)
  iterate 6
    (refine G.wpS_one (A := ?_) hex rfl rfl (by simp) ?_ ?_ ?_
     rotate_left 2
     · intro w' hC K hK
       have c1 := (h1.ext hC.1).blk.cell 1; have cs := (hE.ext hC.1).deep
       go_wp2_with (fail)
       refine hK _ ?_
       first | exact Below.refl _ _ | assumption | ((repeat' (first | (with_reducible exact Below.refl _ _) | (with_reducible assumption) | (with_reducible refine below_drewN ?_ _) | (with_reducible refine Below.alloc ?_ ?_ _) | (with_reducible refine Below.drew ?_) | (with_reducible refine Below.setCell ?_ ?_ _) | (with_reducible refine Below.trans ?_ (Below.mono (by with_reducible assumption) ?_)) | go_size)))
     rotate_left 1
     · rfl
     clear hex; intro hex)
  refine G.wpS_rel (fun v w => Placed w v ed i) rfl rfl (by simp) (by first | rfl | (simp [Region.wanted, yielded]; done)) ?_ ?_
  · intro w' hC K hK
    simp only [Act.put, List.setIfInBounds_toArray, List.set_cons_succ, List.set_cons_zero] at hK
    go_wp2_with (refine (place_new ed i _ (Nat.lt_trans hE.bd (h1.ext hC.1).blk.lt)).mono ?_; rintro e w2 ⟨v', rfl, h2, hE1⟩)
    refine hK _ _ ?_ ?_
    · first | exact Below.refl _ _ | assumption | ((repeat' (first | (with_reducible exact Below.refl _ _) | (with_reducible assumption) | (with_reducible refine below_drewN ?_ _) | (with_reducible refine Below.alloc ?_ ?_ _) | (with_reducible refine Below.drew ?_) | (with_reducible refine Below.setCell ?_ ?_ _) | (with_reducible refine Below.trans ?_ (Below.mono (by with_reducible assumption) ?_)) | go_size)))
    · exact h2
  clear hex
  intro v1 w' hex hv1
  replace hex := Exists.intro w' hex
  simp only [Act.put, List.setIfInBounds_toArray, List.set_cons_succ, List.set_cons_zero]
  refine G.wpS_none hex rfl rfl ?_ ?_
  · intro w' hC K hK
    have hb2 := hb1.ext hC.1
    have hss := ext_same4 hb2
    obtain ⟨z0, z1, z2, z3⟩ := hb2.cells4
    have f0 := hb2.free 0
    have f1 := hb2.free 1
    have f2 := hb2.free 2
    have f3 := hb2.free 3
    have HS := Lib.hid hss
    have hlt := hb2.lt
    clear hb2 hss
    go_wp2_with fail
    exact HS.out
  clear hex; intro hex
  refine G.wpS_one (A := ?_) hex rfl rfl (by simp) ?_ ?_ ?_
  rotate_left 2
  · intro w' hC K hK
    go_wp2_with (fail)
    refine hK _ ?_
    first | exact Below.refl _ _ | assumption | ((repeat' (first | (with_reducible exact Below.refl _ _) | (with_reducible assumption) | (with_reducible refine below_drewN ?_ _) | (with_reducible refine Below.alloc ?_ ?_ _) | (with_reducible refine Below.drew ?_) | (with_reducible refine Below.setCell ?_ ?_ _) | (with_reducible refine Below.trans ?_ (Below.mono (by with_reducible assumption) ?_)) | go_size)))
  rotate_left 1
  · rfl
  clear hex; intro hex
  refine G.wpS_nil fun w2 hAll => ?_
  have hp := (hAll.2 6).1 rfl
  have hb2 := hb1.ext hAll.1
  obtain ⟨y0, y1, y2, y3⟩ := hb2.cells4
  have HG := Lib.hid (bel_call HX.out hAll.1)
  have HP := Lib.hid hp
  clear hp hb2 hb1 hAll hex h1 hE HX
  go_wp2_with fail
  refine bodyPost_ret (v := .tuple #[sv0, v1]) ?_ rfl ?_
  · simp [results, Tryz.results20, go_sem, y0, y1, y2, y3]
  · exact ⟨0#256, _, by rw [sv_zero], rfl, HP.out, grown_of_ext HG.out⟩
set_option maxHeartbeats 4000000 in
set_option maxRecDepth 20000 in
theorem class_of (f : List UInt8 → Nat × Nat) (n : Nat) (hT : TailsOk f n) : ClassOk f (n + 1) := by
  intro r s i es ed w o x h hK ho40 hn hx
  cases hq : Lib.hasPrefix (rest s i) [91] with
  | false =>
    rw [cls, if_pos hq] at hx
    subst hx
    exact class_no f r s i es ed w o h hK hq
  | true =>
  by_cases ho : o = 40
  · rw [cls, if_neg (by rw [hq]; simp), if_pos ho] at hx
    subst hx ho
    exact class_deep f r s i es ed w h hK hq
  rw [cls, if_neg (by rw [hq]; simp), if_neg ho] at hx
  have hrw := h.blk.lt
  have hl1 := pre_len hq
  have hrl := rest_len h.le
  have hoi : ¬ ((o : Int) = 40) := by omega
  have hsz := h.size
  have HH := Lib.hid h
  have HK := Lib.hid hK
  have HX0 := Lib.hid hx
  have HT := Lib.hid hT
  clear h hK hx hT
  go_enter Tryz.func20, Tryz.ntmps20
  have hx0 : Ext w (w.alloc (.cells zerS 27)) := by go_grown
  have hst := stands_any r s ⟨#[91]⟩ i _ (HH.out.ext hx0) true hq
  go_wp2_with fail
  refine hst.mono ?_
  rintro e w1 ⟨rfl, hk⟩
  have hx1 : Ext (w.alloc (.cells zerS 27)) w1 := by obtain ⟨k, rfl⟩ := hk; exact drew_ext _ _
  clear hst hk
  have hx2 := bel_call hx0 hx1
  have h1 := HH.out.ext hx2
  have c1 := h1.blk.cell 1
  have f1 := h1.blk.free 1
  have hrw1 := h1.blk.lt
  have HB1 := Lib.hid ((Blk.new w zerS 27).ext hx1)
  have HM1 := Lib.hid (((Moved.same HH.out).ext hx2).set (i + 1) (by omega))
  have HH1 := Lib.hid h1
  clear hx1 hx2 hx0 h1
  go_wp2_with fail
  generalize hw2 : w1.setCell ⟨r, 1, none⟩ (.int .i64 ((i : Int) + 1)) = w2 at *
  have HM2 : Hid (Moved w w2 r s (i + 1)) := by
    have := HM1.out
    rw [show ((i + 1 : Nat) : Int) = (i : Int) + 1 by omega, hw2] at this
    exact Lib.hid this
  have HB2 : Hid (Blk w2 w.heap.size zerS 27) := by
    rw [← hw2]
    exact Lib.hid (HB1.out.set_other (by simp; omega) _)
  clear hw2 c1 f1 HB1 HM1 HH1
  have hrd1 : rest s (i + 1) = (rest s i).drop 1 := rest_drop s i 1
  have hrd2 : rest s (i + 2) = (rest s i).drop 2 := rest_drop s i 2
  cases hq2 : Lib.hasPrefix (rest s (i + 1)) [94] with
  | true =>
    have hl2 := pre_len hq2
    have hrl1 := rest_len (s := s) (i := i + 1) (by omega)
    have hps := pass_yes r s ⟨#[94]⟩ (i + 1) w2 HM2.out.2 hq2 (by show i + 1 + 1 ≤ s.size; omega)
    have hx1 := HX0.out
    rw [if_pos (by rw [← hrd1]; exact hq2), ← hrd2] at hx1
    go_wp2_with fail
    refine hps.mono ?_
    rintro e w3 ⟨rfl, hM⟩
    replace hM : Moved w2 w3 r s (i + 2) := hM
    have HG3 := Lib.hid (grown_trans HM2.out.1 hM.1)
    have HR3 := Lib.hid hM.2
    have HB3 := Lib.hid (HB2.out.grown hM.1 (by simp; omega))
    clear hM hps HM2 HB2 HX0 hq2 hrd1 hrd2
    -- the items stand from (i + 2) on
    have HN2 : (rest s (i + 2)).length < (rest s i).length + 1 := by
      have := rest_len HR3.out.le
      omega
    obtain ⟨z, hz⟩ : ∃ z, ims f ((rest s i).length + 1) (rest s (i + 2)) 0#256 0 = z := ⟨_, rfl⟩
    have hit := items_any f r s (i + 2) es ed w3 HR3.out (HK.out.moved HG3.out) _ HN2 z hz
    rw [hz] at hx1
    cases z with
    | inl d =>
      have HX := Lib.hid hx1
      have HC := Lib.hid hit
      clear hit hx1 hz HN2
      go_wp2_with fail
      refine HC.out.mono ?_
      rintro e w4 ⟨v4, rfl, hP, hG4⟩
      have hb := HB3.out.grown hG4 (by simp; omega)
      have HB4 := Lib.hid hb
      have hP2 : ∃ p, v4 = .iface 78 (.pointer (some ⟨p, 0, none⟩)) := by obtain ⟨p, tp, h1, h2⟩ := hP; exact ⟨p, h1⟩
      have HP := Lib.hid hP
      clear hP
      obtain ⟨p, rfl⟩ := hP2
      have HG5 := Lib.hid (grown_trans HG3.out hG4)
      obtain ⟨z0, z1, z2, z3⟩ := hb.cells4
      have f0 := hb.free 0
      have f1 := hb.free 1
      have f2 := hb.free 2
      have f3 := hb.free 3
      have hlt := hb.lt
      clear hb hG4 HG3 HB3 HC HR3
      go_wp2_with fail
      obtain ⟨y0, y1, y2, y3⟩ := ((HB4.out.store4 (.int .u64 0) (.int .u64 0) (.int .u64 0) (.int .u64 0)).alloc (.cells zerS 27)).cells4
      refine bodyPost_ret (v := .tuple #[sv0, .iface 78 (.pointer (some ⟨p, 0, none⟩))]) ?_ rfl ?_
      · simp [results, Tryz.results20, go_sem, y0, y1, y2, y3]
      · rw [← HX.out]
        refine ⟨0#256, _, by rw [sv_zero], rfl, ?_, ?_⟩
        · exact (HP.out.own HB4.out _ _ _ _).ext (Below.alloc (Below.refl _ _) (Nat.le_refl _) _)
        · exact grown_ext (grown_own4 HG5.out _ (by omega) _ _ _ _) (Below.alloc (Below.refl _ _) (Nat.le_refl _) _)
    | inr Sm =>
      obtain ⟨S, m⟩ := Sm
      simp only at hx1
      have HX := Lib.hid hx1
      have HC := Lib.hid hit
      clear hit hx1 hz HN2
      go_wp2_with fail
      refine HC.out.mono ?_
      rintro e w4 ⟨rfl, hM⟩
      have HB4 := Lib.hid (HB3.out.grown hM.1 (by simp; omega))
      have HG4 := Lib.hid (grown_trans HG3.out hM.1)
      have HR4 := Lib.hid hM.2
      have hlt := HB4.out.lt
      have hrl4 := rest_len hM.2.le
      clear hM HG3 HB3 HC HR3
      skip
      have hcp := fun w => compl_any S w
      go_wp2_with fail
      refine (hcp _).mono ?_
      rintro e w5 ⟨rfl, hE5⟩
      have hx5 : Ext w4 w5 := bel_call (show Ext w4 _ from by (repeat' (first | (with_reducible exact Below.refl _ _) | (with_reducible assumption) | (with_reducible refine below_drewN ?_ _) | (with_reducible refine Below.alloc ?_ ?_ _) | (with_reducible refine Below.drew ?_) | (with_reducible refine Below.setCell ?_ ?_ _) | (with_reducible refine Below.trans ?_ (Below.mono (by with_reducible assumption) ?_)) | go_size))) hE5
      have hb7 := (Blk.new w4 (svs S) 27).ext hE5
      obtain ⟨q0, q1, q2, q3⟩ := hb7.cells4
      have g0 := hb7.free 0
      have g1 := hb7.free 1
      have g2 := hb7.free 2
      have g3 := hb7.free 3
      have hlt7 := hb7.lt
      have hlt5 := hx5.size
      obtain ⟨y0, y1, y2, y3⟩ := (hb7.store4 (.int .u64 (wd (~~~S) 0)) (.int .u64 (wd (~~~S) 1)) (.int .u64 (wd (~~~S) 2)) (.int .u64 (wd (~~~S) 3))).cells4
      have HR5 := Lib.hid ((HR4.out.ext hx5).own (b := w4.heap.size) (by have := HR4.out.blk.lt; omega) (.int .u64 (wd (~~~S) 0)) (.int .u64 (wd (~~~S) 1)) (.int .u64 (wd (~~~S) 2)) (.int .u64 (wd (~~~S) 3)))
      have HB5 := Lib.hid ((HB4.out.ext hx5).other4 (b := w4.heap.size) (by omega) (.int .u64 (wd (~~~S) 0)) (.int .u64 (wd (~~~S) 1)) (.int .u64 (wd (~~~S) 2)) (.int .u64 (wd (~~~S) 3)))
      have HG5 := Lib.hid (grown_own4 (grown_ext HG4.out hx5) w4.heap.size (by omega) (.int .u64 (wd (~~~S) 0)) (.int .u64 (wd (~~~S) 1)) (.int .u64 (wd (~~~S) 2)) (.int .u64 (wd (~~~S) 3)))
      clear hb7 hx5 hE5 HB4 HG4 HR4 hcp
      go_wp2_with fail
      clear q0 q1 q2 q3 g0 g1 g2 g3 y0 y1 y2 y3
      generalize (((w5.setCell ⟨w4.heap.size, 0, none⟩ (.int .u64 (wd (~~~S) 0))).setCell ⟨w4.heap.size, 1, none⟩ (.int .u64 (wd (~~~S) 1))).setCell ⟨w4.heap.size, 2, none⟩ (.int .u64 (wd (~~~S) 2))).setCell ⟨w4.heap.size, 3, none⟩ (.int .u64 (wd (~~~S) 3)) = w7 at *
      have HX5 := Lib.hid (show tls f n (o + 1) (~~~S) (rest s (i + 2 + m)) (i + 2 + m) = x by rw [show rest s (i + 2 + m) = (rest s i).drop (2 + m) by rw [← rest_drop, Nat.add_assoc]]; exact HX.out)
      have hrd5 := rest_len HR5.out.le
      have htl := HT.out r s (i + 2 + m) es ed w7 (o + 1) (~~~S) x HR5.out (HK.out.moved HG5.out) (by omega) (by omega) HX5.out
      rw [show ((o + 1 : Nat) : Int) = (o : Int) + 1 by omega] at htl
      have HC := Lib.hid htl
      clear htl
      refine HC.out.mono ?_
      rintro e w6 ⟨S6, v6, rfl, hres⟩
      have hG6 : w7.grownBy w6 (some r) := by
        match x, hres with
        | .inl (b, q), h => exact h.2.2
        | .inr (T, m), h => exact h.2.2.1
      have hb := HB5.out.grown hG6 (by simp; omega)
      have HB6 := Lib.hid hb
      have HR6 := Lib.hid hres
      have hlt6 := hb.lt
      obtain ⟨z0, z1, z2, z3⟩ := hb.cells4
      have f0 := hb.free 0
      have f1 := hb.free 1
      have f2 := hb.free 2
      have f3 := hb.free 3
      obtain ⟨y0, y1, y2, y3⟩ := (hb.store4 (.int .u64 (wd S6 0)) (.int .u64 (wd S6 1)) (.int .u64 (wd S6 2)) (.int .u64 (wd S6 3))).cells4
      clear hb hG6 hres HC HB5 HR5 HX5
      go_wp2_with fail
      refine bodyPost_ret (v := .tuple #[sv S6, v6]) ?_ rfl ?_
      · simp [results, Tryz.results20, go_sem, y0, y1, y2, y3]
      · exact ⟨S6, _, rfl, HR6.out.own HG5.out HB6.out (Nat.le_refl _) (by omega) _ _ _ _⟩
  | false => 
    have hps := pass_no r s ⟨#[94]⟩ (i + 1) w2 HM2.out.2 hq2
    have hx1 := HX0.out
    rw [if_neg (by rw [← hrd1, hq2]; simp), ← hrd1] at hx1
    go_wp2_with fail
    refine hps.mono ?_
    rintro e w3 ⟨rfl, hk⟩
    have hx3 : Ext w2 w3 := by obtain ⟨k, rfl⟩ := hk; exact drew_ext _ _
    have HG3 := Lib.hid (grown_ext HM2.out.1 hx3)
    have HR3 := Lib.hid (HM2.out.2.ext hx3)
    have HB3 := Lib.hid (HB2.out.ext hx3)
    clear hk hx3 hps HM2 HB2 HX0 hq2 hrd1 hrd2
    -- the items stand from (i + 1) on
    have HN2 : (rest s (i + 1)).length < (rest s i).length + 1 := by
      have := rest_len HR3.out.le
      omega
    obtain ⟨z, hz⟩ : ∃ z, ims f ((rest s i).length + 1) (rest s (i + 1)) 0#256 0 = z := ⟨_, rfl⟩
    have hit := items_any f r s (i + 1) es ed w3 HR3.out (HK.out.moved HG3.out) _ HN2 z hz
    rw [hz] at hx1
    cases z with
    | inl d =>
      have HX := Lib.hid hx1
      have HC := Lib.hid hit
      clear hit hx1 hz HN2
      go_wp2_with fail
      refine HC.out.mono ?_
      rintro e w4 ⟨v4, rfl, hP, hG4⟩
      have hb := HB3.out.grown hG4 (by simp; omega)
      have HB4 := Lib.hid hb
      have hP2 : ∃ p, v4 = .iface 78 (.pointer (some ⟨p, 0, none⟩)) := by obtain ⟨p, tp, h1, h2⟩ := hP; exact ⟨p, h1⟩
      have HP := Lib.hid hP
      clear hP
      obtain ⟨p, rfl⟩ := hP2
      have HG5 := Lib.hid (grown_trans HG3.out hG4)
      obtain ⟨z0, z1, z2, z3⟩ := hb.cells4
      have f0 := hb.free 0
      have f1 := hb.free 1
      have f2 := hb.free 2
      have f3 := hb.free 3
      have hlt := hb.lt
      clear hb hG4 HG3 HB3 HC HR3
      go_wp2_with fail
      obtain ⟨y0, y1, y2, y3⟩ := ((HB4.out.store4 (.int .u64 0) (.int .u64 0) (.int .u64 0) (.int .u64 0)).alloc (.cells zerS 27)).cells4
      refine bodyPost_ret (v := .tuple #[sv0, .iface 78 (.pointer (some ⟨p, 0, none⟩))]) ?_ rfl ?_
      · simp [results, Tryz.results20, go_sem, y0, y1, y2, y3]
      · rw [← HX.out]
        refine ⟨0#256, _, by rw [sv_zero], rfl, ?_, ?_⟩
        · exact (HP.out.own HB4.out _ _ _ _).ext (Below.alloc (Below.refl _ _) (Nat.le_refl _) _)
        · exact grown_ext (grown_own4 HG5.out _ (by omega) _ _ _ _) (Below.alloc (Below.refl _ _) (Nat.le_refl _) _)
    | inr Sm =>
      obtain ⟨S, m⟩ := Sm
      simp only at hx1
      have HX := Lib.hid hx1
      have HC := Lib.hid hit
      clear hit hx1 hz HN2
      go_wp2_with fail
      refine HC.out.mono ?_
      rintro e w4 ⟨rfl, hM⟩
      have HB4 := Lib.hid (HB3.out.grown hM.1 (by simp; omega))
      have HG4 := Lib.hid (grown_trans HG3.out hM.1)
      have HR4 := Lib.hid hM.2
      have hlt := HB4.out.lt
      have hrl4 := rest_len hM.2.le
      clear hM HG3 HB3 HC HR3
      skip
      have HR5 := Lib.hid (HR4.out.ext (show Ext w4 (w4.alloc (.cells (svs S) 27)) from by (repeat' (first | (with_reducible exact Below.refl _ _) | (with_reducible assumption) | (with_reducible refine below_drewN ?_ _) | (with_reducible refine Below.alloc ?_ ?_ _) | (with_reducible refine Below.drew ?_) | (with_reducible refine Below.setCell ?_ ?_ _) | (with_reducible refine Below.trans ?_ (Below.mono (by with_reducible assumption) ?_)) | go_size))))
      have HB5 := Lib.hid (HB4.out.ext (show Ext w4 (w4.alloc (.cells (svs S) 27)) from by (repeat' (first | (with_reducible exact Below.refl _ _) | (with_reducible assumption) | (with_reducible refine below_drewN ?_ _) | (with_reducible refine Below.alloc ?_ ?_ _) | (with_reducible refine Below.drew ?_) | (with_reducible refine Below.setCell ?_ ?_ _) | (with_reducible refine Below.trans ?_ (Below.mono (by with_reducible assumption) ?_)) | go_size))))
      have HG5 := Lib.hid (grown_ext HG4.out (show Ext w4 (w4.alloc (.cells (svs S) 27)) from by (repeat' (first | (with_reducible exact Below.refl _ _) | (with_reducible assumption) | (with_reducible refine below_drewN ?_ _) | (with_reducible refine Below.alloc ?_ ?_ _) | (with_reducible refine Below.drew ?_) | (with_reducible refine Below.setCell ?_ ?_ _) | (with_reducible refine Below.trans ?_ (Below.mono (by with_reducible assumption) ?_)) | go_size))))
      go_wp2_with fail
      generalize w4.alloc (.cells (svs S) 27) = w7 at *
      have HX5 := Lib.hid (show tls f n (o + 1) S (rest s (i + 1 + m)) (i + 1 + m) = x by rw [show rest s (i + 1 + m) = (rest s i).drop (1 + m) by rw [← rest_drop, Nat.add_assoc]]; exact HX.out)
      have hrd5 := rest_len HR5.out.le
      have htl := HT.out r s (i + 1 + m) es ed w7 (o + 1) S x HR5.out (HK.out.moved HG5.out) (by omega) (by omega) HX5.out
      rw [show ((o + 1 : Nat) : Int) = (o : Int) + 1 by omega] at htl
      have HC := Lib.hid htl
      clear htl
      refine HC.out.mono ?_
      rintro e w6 ⟨S6, v6, rfl, hres⟩
      have hG6 : w7.grownBy w6 (some r) := by
        match x, hres with
        | .inl (b, q), h => exact h.2.2
        | .inr (T, m), h => exact h.2.2.1
      have hb := HB5.out.grown hG6 (by simp; omega)
      have HB6 := Lib.hid hb
      have HR6 := Lib.hid hres
      have hlt6 := hb.lt
      obtain ⟨z0, z1, z2, z3⟩ := hb.cells4
      have f0 := hb.free 0
      have f1 := hb.free 1
      have f2 := hb.free 2
      have f3 := hb.free 3
      obtain ⟨y0, y1, y2, y3⟩ := (hb.store4 (.int .u64 (wd S6 0)) (.int .u64 (wd S6 1)) (.int .u64 (wd S6 2)) (.int .u64 (wd S6 3))).cells4
      clear hb hG6 hres HC HB5 HR5 HX5
      go_wp2_with fail
      refine bodyPost_ret (v := .tuple #[sv S6, v6]) ?_ rfl ?_
      · simp [results, Tryz.results20, go_sem, y0, y1, y2, y3]
      · exact ⟨S6, _, rfl, HR6.out.own HG5.out HB6.out (Nat.le_refl _) (by omega) _ _ _ _⟩
/-- Each class is read as 'cls' says, whatever the fuel beyond its length. -/
theorem class_ok (f : List UInt8 → Nat × Nat) (n : Nat) : ∀ g, g ≤ n → ClassOk f g := by
  induction n with
  | zero =>
    intro g hg r s i es ed w o x h hK ho hn
    omega
  | succ n ih =>
    intro g hg
    by_cases e : g = n + 1
    · subst e
      exact class_of f n (tails_of f n (fun g hg => ih g (by omega)))
    · exact ih g (by omega)
end Go.Proofs.YtecjodcaeldidaaGreatDoor
namespace Go.Proofs.YtecjodcaeldidaaGreatDoor
open Go Go.RowKit
/-- What the package's calls lean on. -/
structure Kn (w : World) (es ed : Addr) : Prop where
  syn : w.cell? ⟨2, 0, none⟩ = some (strAt es)
  deep : w.cell? ⟨1, 0, none⟩ = some (strAt ed)
  errv : ErrV w
  ml : ∃ m, w.cell? ⟨18, 0, none⟩ = some (.int .i64 m)
  lo : es.block < w.heap.size ∧ ed.block < w.heap.size
theorem Kn.ext {w w' : World} {es ed : Addr} (h : Kn w es ed) (hx : Ext w w') : Kn w' es ed := by
  obtain ⟨m, hm⟩ := h.ml
  have g := grown_of_ext (row := none) hx
  exact ⟨cell_grown h.syn g (by simp), cell_grown h.deep g (by simp), h.errv.ext hx, ⟨m, cell_grown hm g (by simp)⟩, Nat.lt_of_lt_of_le h.lo.1 hx.size, Nat.lt_of_lt_of_le h.lo.2 hx.size⟩
theorem Kn.rk {w w' : World} {es ed : Addr} (h : Kn w es ed) (hx : Ext w w') {r : Nat} (hr : w.heap.size ≤ r) : Rk unq w' r es ed := by
  have h' := h.ext hx
  obtain ⟨m, hm⟩ := h.ml
  obtain ⟨te, pe, hv⟩ := h.errv
  have l1 : 2 < w.heap.size := World.block_lt_of_cell? w (⟨_, 0, none⟩ : Addr) h.syn
  have l2 : 1 < w.heap.size := World.block_lt_of_cell? w (⟨_, 0, none⟩ : Addr) h.deep
  have l3 : 18 < w.heap.size := World.block_lt_of_cell? w (⟨_, 0, none⟩ : Addr) hm
  have l4 : 19 < w.heap.size := World.block_lt_of_cell? w (⟨_, 0, none⟩ : Addr) hv
  exact ⟨⟨h'.syn, h'.deep, by omega, by omega, Nat.lt_of_lt_of_le h.lo.1 hr, Nat.lt_of_lt_of_le h.lo.2 hr⟩, h'.errv, by omega, h'.ml, by omega, unesc_any, unq_len, unq_byte⟩
/-- Where reading begins: what is no place is the end. -/
def pos (s : ByteArray) (a : Int) : Nat := if a < 0 ∨ (s.size : Int) < a then s.size else a.toNat
theorem pos_le (s : ByteArray) (a : Int) : pos s a ≤ s.size := by
  unfold pos
  split
  · exact Nat.le_refl _
  · rename_i h
    simp only [not_or, Int.not_lt] at h
    omega
theorem begin_any (s : ByteArray) (a : Int) (hs : s.size ≤ 4294967000) (w : World) :
    Calls Tryz.prog 19 #[.string s, .int .i64 a] w fun e w' => ∃ r, e = .returned (.pointer (some ⟨r, 0, none⟩)) ∧ w.heap.size ≤ r ∧ Ext w w' ∧ Rdr w' r s (pos s a) := by
  have hle := pos_le s a
  by_cases h1 : a < 0
  · have hp : pos s a = s.size := by unfold pos; rw [if_pos (.inl h1)]
    rw [hp]
    have hb := Blk.new w #[.string s, .int .i64 (s.size : Int)] 62
    clear hle hp
    go_enter Tryz.func19, Tryz.ntmps19
    go_wp2
    go_ret
    exact ⟨_, rfl, Nat.le_refl _, by go_grown, hb, Nat.le_refl _, hs⟩
  · by_cases h2 : (s.size : Int) < a
    · have hp : pos s a = s.size := by unfold pos; rw [if_pos (.inr h2)]
      rw [hp]
      have hb := Blk.new w #[.string s, .int .i64 (s.size : Int)] 62
      clear hle hp
      go_enter Tryz.func19, Tryz.ntmps19
      go_wp2
      go_ret
      exact ⟨_, rfl, Nat.le_refl _, by go_grown, hb, Nat.le_refl _, hs⟩
    · have hp : (pos s a : Int) = a := by unfold pos; rw [if_neg (by simp only [not_or]; exact ⟨h1, h2⟩)]; omega
      have hb := Blk.new w #[.string s, .int .i64 a] 62
      have HL := Lib.hid (And.intro hp hle)
      clear hle hp
      go_enter Tryz.func19, Tryz.ntmps19
      go_wp2
      go_ret
      refine ⟨_, rfl, Nat.le_refl _, by go_grown, ?_, HL.out.2, hs⟩
      rw [HL.out.1]
      exact hb
theorem ext_of_own {w w1 w2 : World} {r : Nat} (hx : Ext w w1) (hg : w1.grownBy w2 (some r)) (hr : w.heap.size ≤ r) : Ext w w2 :=
  ⟨hg.os.trans hx.os, hg.tape.trans hx.tape, hg.output.trans hx.output, Nat.le_trans hx.size hg.size, fun k hk => (hg.block k (Nat.lt_of_lt_of_le hk hx.size) (by simp; omega)).trans (hx.block k hk)⟩
/-- What 'Parse' says of a text at a place. -/
def prs (s : ByteArray) (a : Int) : Sum (Bool × Nat) (BitVec 256 × Nat) := cls unq ((rest s (pos s a)).length + 1) 0 (rest s (pos s a)) (pos s a)
def PrsEnd (w w' : World) (es ed : Addr) (e : Ending) : Sum (Bool × Nat) (BitVec 256 × Nat) → Prop
  | .inl (b, q) => ∃ v, e = .returned (.tuple #[sv0, .int .i64 0, v]) ∧ Placed w' v (if b = true then ed else es) q ∧ Ext w w'
  | .inr (T, m) => e = .returned (.tuple #[sv T, .int .i64 m, .nilIface]) ∧ Ext w w'
set_option maxHeartbeats 4000000 in
set_option maxRecDepth 20000 in
theorem parse_any (s : ByteArray) (a : Int) (es ed : Addr) (hs : s.size ≤ 4294967000) (w : World) (hK : Kn w es ed) (x : Sum (Bool × Nat) (BitVec 256 × Nat)) (hx : prs s a = x) :
    Calls Tryz.prog 8 #[.string s, .int .i64 a] w fun e w' => PrsEnd w w' es ed e x := by
  have hbg := fun w => begin_any s a hs w
  have hlen : (rest s (pos s a)).length < (rest s (pos s a)).length + 1 := Nat.lt_succ_self _
  unfold prs at hx
  generalize pos s a = i at hbg hlen hx
  have HX := Lib.hid hx
  have HL := Lib.hid hlen
  have HK := Lib.hid hK
  clear hx hlen hK
  go_enter Tryz.func8, Tryz.ntmps8
  have hx0 : Ext w (w.alloc (.cells zerS 27)) := by go_grown
  go_wp2_with fail
  refine (hbg _).mono ?_
  rintro e w1 ⟨r, rfl, hr, hx1, hR1⟩
  have hx2 := bel_call hx0 hx1
  have hrs : w.heap.size + 1 ≤ r := by simpa using hr
  have hcl := class_ok unq _ _ (Nat.le_refl _) r s i es ed w1 0 x hR1 (HK.out.rk hx2 (by omega)) (by omega) HL.out HX.out
  have HB1 := Lib.hid ((Blk.new w zerS 27).ext hx1)
  have HX2 := Lib.hid hx2
  have HC := Lib.hid hcl
  clear hx1 hx2 hcl hbg hr HX HL hx0 hR1
  go_wp2_with fail
  refine HC.out.mono ?_
  rintro e w2 ⟨S, v, rfl, hres⟩
  cases x with
  | inl bq =>
    obtain ⟨b, q⟩ := bq
    obtain ⟨rfl, hP, hG⟩ := hres
    have hP2 : ∃ p, v = .iface 78 (.pointer (some ⟨p, 0, none⟩)) := by obtain ⟨p, tp, h1, h2⟩ := hP; exact ⟨p, h1⟩
    have HP := Lib.hid hP
    clear hP
    obtain ⟨p, rfl⟩ := hP2
    have hb := HB1.out.grown hG (by simp; omega)
    have HB2 := Lib.hid hb
    have HG := Lib.hid (ext_of_own HX2.out hG (by omega))
    have hlt := hb.lt
    obtain ⟨z0, z1, z2, z3⟩ := hb.cells4
    have f0 := hb.free 0
    have f1 := hb.free 1
    have f2 := hb.free 2
    have f3 := hb.free 3
    have kB := (hb.store4 (.int .u64 (wd 0#256 0)) (.int .u64 (wd 0#256 1)) (.int .u64 (wd 0#256 2)) (.int .u64 (wd 0#256 3)))
    obtain ⟨u0, u1, u2, u3⟩ := kB.cells4
    have e0 := kB.free 0
    have e1 := kB.free 1
    have e2 := kB.free 2
    have e3 := kB.free 3
    obtain ⟨y0, y1, y2, y3⟩ := (kB.store4 (.int .u64 0) (.int .u64 0) (.int .u64 0) (.int .u64 0)).cells4
    have HKB := Lib.hid kB
    clear kB hb hG HB1 HX2 HC
    go_wp2_with fail
    refine bodyPost_ret (v := .tuple #[sv0, .int .i64 0, .iface 78 (.pointer (some ⟨p, 0, none⟩))]) ?_ rfl ?_
    · simp [results, Tryz.results8, go_sem, y0, y1, y2, y3]
    · refine ⟨_, rfl, ?_, ?_⟩
      · exact (HP.out.own HB2.out _ _ _ _).own HKB.out _ _ _ _
      · have g := grown_own4 (grown_own4 (grown_of_ext (row := none) HG.out) w.heap.size (Nat.le_refl _) (.int .u64 (wd 0#256 0)) (.int .u64 (wd 0#256 1)) (.int .u64 (wd 0#256 2)) (.int .u64 (wd 0#256 3))) w.heap.size (Nat.le_refl _) (.int .u64 0) (.int .u64 0) (.int .u64 0) (.int .u64 0)
        exact ⟨g.os, g.tape, g.output, g.size, fun k hk => g.block k hk (by simp)⟩
  | inr Tm =>
    obtain ⟨T, m⟩ := Tm
    obtain ⟨rfl, rfl, hM⟩ := hres
    have hb := HB1.out.grown hM.1 (by simp; omega)
    have HG := Lib.hid (ext_of_own HX2.out hM.1 (by omega))
    have hlt := hb.lt
    obtain ⟨z0, z1, z2, z3⟩ := hb.cells4
    have f0 := hb.free 0
    have f1 := hb.free 1
    have f2 := hb.free 2
    have f3 := hb.free 3
    have kB := Lib.hid (hb.store4 (.int .u64 (wd S 0)) (.int .u64 (wd S 1)) (.int .u64 (wd S 2)) (.int .u64 (wd S 3)))
    have kR := Lib.hid (hM.2.own (b := w.heap.size) (by omega) (.int .u64 (wd S 0)) (.int .u64 (wd S 1)) (.int .u64 (wd S 2)) (.int .u64 (wd S 3)))
    have kG : Hid (Ext w ((((w2.setCell ⟨w.heap.size, 0, none⟩ (.int .u64 (wd S 0))).setCell ⟨w.heap.size, 1, none⟩ (.int .u64 (wd S 1))).setCell ⟨w.heap.size, 2, none⟩ (.int .u64 (wd S 2))).setCell ⟨w.heap.size, 3, none⟩ (.int .u64 (wd S 3)))) := by
      have g := grown_own4 (grown_of_ext (row := none) HG.out) w.heap.size (Nat.le_refl _) (.int .u64 (wd S 0)) (.int .u64 (wd S 1)) (.int .u64 (wd S 2)) (.int .u64 (wd S 3))
      exact ⟨g.os, g.tape, g.output, g.size, fun k hk => g.block k hk (by simp)⟩
    clear hb hM HB1 HX2 HC HG
    go_wp2_with fail
    clear z0 z1 z2 z3 f0 f1 f2 f3 hlt
    generalize (((w2.setCell ⟨w.heap.size, 0, none⟩ (.int .u64 (wd S 0))).setCell ⟨w.heap.size, 1, none⟩ (.int .u64 (wd S 1))).setCell ⟨w.heap.size, 2, none⟩ (.int .u64 (wd S 2))).setCell ⟨w.heap.size, 3, none⟩ (.int .u64 (wd S 3)) = w3 at *
    refine G.wp_region_stab (G := Ext) (fun _ => none) (by kernel_rfl) (by kernel_rfl) (fun _ _ h => by cases h) (fun hex => ?_)
    iterate 5
      (refine G.wpS_one (A := ?_) hex rfl rfl (by simp) ?_ ?_ ?_
       rotate_left 2
       · intro w' hC K hK
         have hb2 := kB.out.ext hC.1; obtain ⟨z0, z1, z2, z3⟩ := hb2.cells4; have c1 := (kR.out.ext hC.1).blk.cell 1; clear hb2
         go_wp2_with (fail)
         refine hK _ ?_
         first | exact Below.refl _ _ | assumption | ((repeat' (first | (with_reducible exact Below.refl _ _) | (with_reducible assumption) | (with_reducible refine below_drewN ?_ _) | (with_reducible refine Below.alloc ?_ ?_ _) | (with_reducible refine Below.drew ?_) | (with_reducible refine Below.setCell ?_ ?_ _) | (with_reducible refine Below.trans ?_ (Below.mono (by with_reducible assumption) ?_)) | go_size)))
       rotate_left 1
       · rfl
       clear hex; intro hex)
    refine G.wpS_none hex rfl rfl ?_ ?_
    · intro w' hC K hK
      have hb2 := kB.out.ext hC.1
      have HS := Lib.hid (ext_same4 hb2)
      obtain ⟨z0, z1, z2, z3⟩ := hb2.cells4
      have f0 := hb2.free 0
      have f1 := hb2.free 1
      have f2 := hb2.free 2
      have f3 := hb2.free 3
      have hlt := hb2.lt
      clear hb2
      go_wp2_with fail
      exact HS.out
    clear hex; intro hex
    iterate 2
      (refine G.wpS_one (A := ?_) hex rfl rfl (by simp) ?_ ?_ ?_
       rotate_left 2
       · intro w' hC K hK
         go_wp2_with (fail)
         refine hK _ ?_
         first | exact Below.refl _ _ | assumption | ((repeat' (first | (with_reducible exact Below.refl _ _) | (with_reducible assumption) | (with_reducible refine below_drewN ?_ _) | (with_reducible refine Below.alloc ?_ ?_ _) | (with_reducible refine Below.drew ?_) | (with_reducible refine Below.setCell ?_ ?_ _) | (with_reducible refine Below.trans ?_ (Below.mono (by with_reducible assumption) ?_)) | go_size)))
       rotate_left 1
       · rfl
       clear hex; intro hex)
    refine G.wpS_nil fun w4 hAll => ?_
    obtain ⟨y0, y1, y2, y3⟩ := (kB.out.ext hAll.1).cells4
    have HG := Lib.hid (bel_call kG.out hAll.1)
    clear kB kR kG hAll hex
    go_wp2_with fail
    refine bodyPost_ret (v := .tuple #[sv S, .int .i64 m, .nilIface]) ?_ rfl ?_
    · simp [results, Tryz.results8, go_sem, y0, y1, y2, y3]
    · exact ⟨rfl, HG.out⟩
end Go.Proofs.YtecjodcaeldidaaGreatDoor
namespace Go.Proofs.YtecjodcaeldidaaGreatDoor
open Go Go.RowKit
theorem own_grown {w w' : World} {b e sz n : Nat} {v : Value} {xs : List Value} {row : Option Nat} (h : w.ownsRow b e sz v n xs) (hg : w.grownBy w' row) (hr : ∀ j, row = some j → j < b) : w'.ownsRow b e sz v n xs := by
  obtain ⟨h1, h2 | ⟨g, cap, cur, hv, hb, hh, rest⟩⟩ := h
  · exact ⟨h1, .inl h2⟩
  · exact ⟨h1, .inr ⟨g, cap, cur, hv, hb, by rw [hg.block g (Array.getElem?_eq_some_iff.1 hh).1 (fun e => by have := hr g e.symm; omega)]; exact hh, rest⟩⟩
/-- Bytes of one's own, as a text. -/
theorem own_str {w : World} {b : Nat} {v : Value} {L : List UInt8} (h : w.ownsRow b 5 1 v L.length (L.map ub)) : (convert 56 9 v).run Tryz.prog w = .ok (.string ⟨L.toArray⟩) w := by
  obtain ⟨hl, ⟨rfl, h0⟩ | ⟨g, cap, cur, rfl, hb, hg, h1, h2, h3, h4⟩⟩ := h
  · have hL : L = [] := List.length_eq_zero_iff.1 h0
    subst hL
    exact Lib.run_convert_nil_bytes w _ _ 5 0 Tryz.underlying56 Tryz.underlying5 Tryz.underlying9
  · have hs : (ByteArray.mk L.toArray).size = L.length := by show L.toArray.size = _; simp
    have hk := Lib.run_convert_whole (P := Tryz.prog) w 56 5 9 Tryz.underlying56 Tryz.underlying5 Tryz.underlying9 g 0 ⟨L.toArray⟩ (fun i hi => by
      rw [hs] at hi
      have hc : i < L.length * 1 := by omega
      simp only [World.cell?, hg, Nat.zero_add]
      have e : (cur.toList.take (L.length * 1))[i]? = (L.map ub)[i]? := by rw [h4]
      rw [List.getElem?_take_of_lt hc] at e
      rw [List.getElem?_map, List.getElem?_eq_getElem hi] at e
      have e2 : cur[i]? = cur.toList[i]? := by simp
      rw [e2, e]
      rfl) cap
    rw [hs] at hk
    exact hk
def QuoEnd (w w' : World) (r : Nat) (s : ByteArray) (es : Addr) (e : Ending) : Sum Nat (List UInt8 × Nat) → Prop
  | .inl q => ∃ v, e = .returned (.tuple #[.string ⟨#[]⟩, v]) ∧ Placed w' v es q ∧ w.grownBy w' (some r)
  | .inr (A, m) => e = .returned (.tuple #[.string ⟨A.toArray⟩, .nilIface]) ∧ Moved w w' r s m
set_option maxHeartbeats 4000000 in
set_option maxRecDepth 20000 in
theorem quoted_any (r : Nat) (s : ByteArray) (i : Nat) (es ed : Addr) (w : World) (h : Rdr w r s i) (hK : Rk unq w r es ed) (x : Sum Nat (List UInt8 × Nat)) (hx : quq unq (rest s i) i = x) :
    Calls Tryz.prog 96 #[.pointer (some ⟨r, 0, none⟩)] w fun e w' => QuoEnd w w' r s es e x := by
  obtain ⟨i0, hi, hz0, hz1, hz2⟩ := info_parts info_u8
  have hrw := h.blk.lt
  have hsz := h.size
  have hrl := rest_len h.le
  have HH := Lib.hid h
  have HK := Lib.hid hK
  unfold quq at hx
  cases hq : Lib.hasPrefix (rest s i) [34] with
  | false =>
    have hps := pass_no r s ⟨#[34]⟩ i w h hq
    rw [if_neg (by rw [hq]; simp)] at hx
    subst hx
    clear h hK
    go_enter Tryz.func96, Tryz.ntmps96
    go_wp2_with fail
    refine hps.mono ?_
    rintro e w1 ⟨rfl, hk⟩
    have hx1 : Ext w w1 := by obtain ⟨k, rfl⟩ := hk; exact drew_ext _ _
    clear hk hps
    have hre := refuse_any r s i es ed w1 (HH.out.ext hx1) (HK.out.ext hx1).errs
    go_wp2_with fail
    refine hre.mono ?_
    rintro e w2 ⟨v, rfl, hP, hE⟩
    have HP := Lib.hid (And.intro hP (grown_of_ext (row := some r) (bel_call hx1 hE)))
    clear hP hE hx1 hre
    go_wp2_with fail
    go_ret2
    exact ⟨v, rfl, HP.out.1, HP.out.2⟩
  | true =>
    have hl1 := pre_len hq
    have hps := pass_yes r s ⟨#[34]⟩ i w h hq (by show i + 1 ≤ s.size; omega)
    rw [if_pos hq, ← rest_drop] at hx
    have HX := Lib.hid hx
    clear h hK hx
    go_enter Tryz.func96, Tryz.ntmps96
    go_wp2_with fail
    refine hps.mono ?_
    rintro e w1 ⟨rfl, hM⟩
    replace hM : Moved w w1 r s (i + 1) := hM
    have HM := Lib.hid hM
    clear hM hps
    go_wp2_with fail
    go_loopg [4] ((rest s i).length + 1) (fun g v wr => ∃ (A : List UInt8) (k : Nat), (rest s k).length < g ∧ A.length + (rest s k).length ≤ s.size ∧ Hid (quo unq g (rest s k) A k = x) ∧ Hid (w.grownBy wr (some r)) ∧ Hid (Rdr wr r s k) ∧ Hid (wr.ownsRow w.heap.size 5 1 v A.length (A.map ub)))
    case atStart =>
      have hrl1 := rest_len HM.out.2.le
      exact ⟨[], i + 1, by omega, by simp; omega, HX, Lib.hid HM.out.1, Lib.hid HM.out.2, Lib.hid (World.ownsRow_nil _ _ _ _)⟩
    case round =>
      clear HM HX
      obtain ⟨A, k, hlen, hAl, hO, hG, hR, hown⟩ := hrel
      obtain ⟨g, rfl⟩ : ∃ g, gk = g + 1 := ⟨gk - 1, by omega⟩
      have hrlk := rest_len hR.out.le
      cases hq2 : Lib.hasPrefix (rest s k) [34] with
      | true =>
        have hl2 := pre_len hq2
        have hps2 := pass_yes r s ⟨#[34]⟩ k wr hR.out hq2 (by show k + 1 ≤ s.size; omega)
        have HX := Lib.hid (show Sum.inr (A, k + 1) = x by rw [← hO.out, quo, if_pos hq2])
        clear hO
        go_wp2_with fail
        refine hps2.mono ?_
        rintro e w2 ⟨rfl, hM⟩
        replace hM : Moved wr w2 r s (k + 1) := hM
        have hcv := own_str (own_grown hown.out hM.1 (fun j hj => by cases hj; omega))
        have HG := Lib.hid (And.intro (grown_trans hG.out hM.1) hM.2)
        clear hM hps2 hG hR hown
        go_wp2_with fail
        go_ret2
        rw [← HX.out]
        exact ⟨rfl, HG.out.1, HG.out.2⟩
      | false =>
        have hps2 := pass_no r s ⟨#[34]⟩ k wr hR.out hq2
        go_wp2_with fail
        refine hps2.mono ?_
        rintro e w2 ⟨rfl, hk⟩
        have hx2 : Ext wr w2 := by obtain ⟨kk, rfl⟩ := hk; exact drew_ext _ _
        clear hk hps2
        have hx1 := hO.out
        rw [quo, if_neg (by rw [hq2]; simp)] at hx1
        obtain ⟨y, hy⟩ : ∃ y, chr unq [10] (rest s k) = y := ⟨_, rfl⟩
        rw [hy] at hx1
        have hrk := HK.out.moved (grown_ext hG.out hx2)
        have hch := char_any unq unq_len r s ⟨#[10]⟩ k es ed w2 (hR.out.ext hx2) hrk.errs hrk.un hrk.errv y hy
        have hown2 := own_grown hown.out (grown_of_ext (row := none) hx2) (fun j hj => by cases hj)
        have HG := Lib.hid (grown_ext hG.out hx2)
        have HW := Lib.hid hown2
        clear hO hG hown hown2 hrk hx2 hR
        cases y with
        | none =>
          have HX := Lib.hid hx1
          clear hx1 hy
          go_wp2_with fail
          refine hch.mono ?_
          rintro e w3 ⟨v3, rfl, ⟨p, tp, rfl, hP⟩, hE⟩
          have HP := Lib.hid hP
          have HG3 := Lib.hid (grown_ext HG.out hE)
          clear hP hE hch
          go_wp2_with fail
          go_ret2
          rw [← HX.out]
          exact ⟨_, rfl, ⟨p, tp, rfl, HP.out⟩, HG3.out⟩
        | some bm =>
          obtain ⟨b, m⟩ := bm
          obtain ⟨hb, hm0, hml⟩ := chr_lt unq_len unq_byte hy
          simp only at hx1
          rw [← rest_drop] at hx1
          have HX := Lib.hid hx1
          clear hx1 hy
          go_wp2_with fail
          refine hch.mono ?_
          rintro e w3 ⟨rfl, hM⟩
          have hrl3 := rest_len hM.2.le
          have HR3 := Lib.hid hM.2
          have HG3 := Lib.hid (grown_trans HG.out hM.1)
          have hown := own_grown HW.out hM.1 (fun j hj => by cases hj; omega)
          have hsz3 := HG3.out.size
          clear hM hch HG HW
          go_wp2_with (at_builtin; refine wpList_append_own _ rfl (.tmp 23) (.tmp 25) 56 rfl w.heap.size 5 i0 (.int .u8 0) 1 1 Tryz.underlying56 hi hz0 hz1 hz2 rfl (by decide) _ _ _ rfl (hown.alloc _) ⟨w3.heap.size, 0, none⟩ 1 1 [_] rfl rfl (cell_one_new _ _ _) (by intro u hu; simp at hu; subst hu; rfl) (by unfold maxLen; omega) (by omega) (by simp; omega) ?_; intro v1 w4 hown1 hgrow1 hnil1)
          go_roundg g
          case rel =>
            have hg4 : w.grownBy w4 (some r) := by
              have h0 := grown_ext HG3.out (show Ext w3 (w3.alloc (.cells #[.int .u8 (b : Int)] 5)) from by (repeat' (first | (with_reducible exact Below.refl _ _) | (with_reducible assumption) | (with_reducible refine below_drewN ?_ _) | (with_reducible refine Below.alloc ?_ ?_ _) | (with_reducible refine Below.drew ?_) | (with_reducible refine Below.setCell ?_ ?_ _) | (with_reducible refine Below.trans ?_ (Below.mono (by with_reducible assumption) ?_)) | go_size)))
              exact ⟨hgrow1.os.trans h0.os, hgrow1.tape.trans h0.tape, hgrow1.output.trans h0.output, Nat.le_trans h0.size hgrow1.size, fun j hj hne => (hgrow1.block j (Nat.lt_of_lt_of_le hj h0.size) (fun e => by have := (hown.lt j e.symm).1; omega)).trans (h0.block j hj hne)⟩
            refine ⟨A ++ [UInt8.ofNat b], k + m, by omega, by simp; omega, HX, Lib.hid hg4, Lib.hid ?_, Lib.hid ?_⟩
            · exact (HR3.out.ext (show Ext w3 (w3.alloc (.cells #[.int .u8 (b : Int)] 5)) from by (repeat' (first | (with_reducible exact Below.refl _ _) | (with_reducible assumption) | (with_reducible refine below_drewN ?_ _) | (with_reducible refine Below.alloc ?_ ?_ _) | (with_reducible refine Below.drew ?_) | (with_reducible refine Below.setCell ?_ ?_ _) | (with_reducible refine Below.trans ?_ (Below.mono (by with_reducible assumption) ?_)) | go_size)))).grown hgrow1 (fun e => by have := (hown.lt r e).1; omega)
            · rw [List.length_append, List.map_append]
              have e : ([UInt8.ofNat b].map ub) = [.int .u8 (b : Int)] := by simp [ub]; omega
              rw [e]
              exact hown1
          case measure => exact Nat.lt_succ_self g
/-- What 'Unquote' says of a text at a place. -/
def uqs (s : ByteArray) (a : Int) : Sum Nat (List UInt8 × Nat) := quq unq (rest s (pos s a)) (pos s a)
def UnqEnd (w w' : World) (es : Addr) (e : Ending) : Sum Nat (List UInt8 × Nat) → Prop
  | .inl q => ∃ v, e = .returned (.tuple #[.string ⟨#[]⟩, .int .i64 0, v]) ∧ Placed w' v es q ∧ Ext w w'
  | .inr (A, m) => e = .returned (.tuple #[.string ⟨A.toArray⟩, .int .i64 m, .nilIface]) ∧ Ext w w'
set_option maxHeartbeats 4000000 in
set_option maxRecDepth 20000 in
theorem unquote_any (s : ByteArray) (a : Int) (es ed : Addr) (hs : s.size ≤ 4294967000) (w : World) (hK : Kn w es ed) (x : Sum Nat (List UInt8 × Nat)) (hx : uqs s a = x) :
    Calls Tryz.prog 68 #[.string s, .int .i64 a] w fun e w' => UnqEnd w w' es e x := by
  have hbg := fun w => begin_any s a hs w
  unfold uqs at hx
  generalize pos s a = i at hbg hx
  have HX := Lib.hid hx
  have HK := Lib.hid hK
  clear hx hK
  go_enter Tryz.func68, Tryz.ntmps68
  go_wp2_with fail
  refine (hbg _).mono ?_
  rintro e w1 ⟨r, rfl, hr, hx1, hR1⟩
  have hq := quoted_any r s i es ed w1 hR1 (HK.out.rk hx1 hr) x HX.out
  have HX1 := Lib.hid hx1
  have HC := Lib.hid hq
  clear hx1 hq hbg HX hR1
  go_wp2_with fail
  refine HC.out.mono ?_
  rintro e w2 hres
  cases x with
  | inl q =>
    obtain ⟨v, rfl, ⟨p, tp, rfl, hP⟩, hG⟩ := hres
    have HP := Lib.hid (And.intro hP (ext_of_own HX1.out hG hr))
    clear hP hG HC HX1
    go_wp2_with fail
    go_ret3
    exact ⟨_, rfl, ⟨p, tp, rfl, HP.out.1⟩, HP.out.2⟩
  | inr Am =>
    obtain ⟨A, m⟩ := Am
    obtain ⟨rfl, hM⟩ := hres
    have HM := Lib.hid hM.2
    have HG := Lib.hid (ext_of_own HX1.out hM.1 hr)
    clear hM HC HX1
    go_wp2_with fail
    refine G.wp_region_stab (G := Ext) (fun _ => none) (by kernel_rfl) (by kernel_rfl) (fun _ _ h => by cases h) (fun hex => ?_)
    iterate 8
      (refine G.wpS_one (A := ?_) hex rfl rfl (by simp) ?_ ?_ ?_
       rotate_left 2
       · intro w' hC K hK
         have c1 := (HM.out.ext hC.1).blk.cell 1
         go_wp2_with (fail)
         refine hK _ ?_
         first | exact Below.refl _ _ | assumption | ((repeat' (first | (with_reducible exact Below.refl _ _) | (with_reducible assumption) | (with_reducible refine below_drewN ?_ _) | (with_reducible refine Below.alloc ?_ ?_ _) | (with_reducible refine Below.drew ?_) | (with_reducible refine Below.setCell ?_ ?_ _) | (with_reducible refine Below.trans ?_ (Below.mono (by with_reducible assumption) ?_)) | go_size)))
       rotate_left 1
       · rfl
       clear hex; intro hex)
    refine G.wpS_nil fun w4 hAll => ?_
    have HG4 := Lib.hid (bel_call HG.out hAll.1)
    clear hAll hex HG HM
    go_wp2_with fail
    go_ret3
    exact ⟨rfl, HG4.out⟩
end Go.Proofs.YtecjodcaeldidaaGreatDoor
namespace Go.Proofs.YtecjodcaeldidaaGreatDoor
open Go Go.RowKit
/-- Where 'append' puts what it makes: onto the list's own block, or into a new one. -/
theorem run_append_where {P : Program} (w : World) (base : Nat) (t ty e : TypeId) (i : TypeInfo) (z : Value) (size bytes : Nat) (ht : P.underlying t = some (.slice e)) (hi : P.info? e = some i) (hz : i.zero = some z)
    (hsize : i.size = size) (hby : i.bytes = bytes) (hzs : z.cells.size = size) (hsz : 0 < size)
    (v : Value) (n : Nat) (xs : List Value) (hown : w.ownsRow base e size v n xs)
    (a : Addr) (m c : Nat) (hm0 : 0 < m) (news : List Value) (hl : news.length = m * size) (hnews : ∀ j u, news[j]? = some u → w.cell? (a.add j) = some u) (h1 : ∀ u ∈ news, u.oneCell' = true)
    (h63 : n + m ≤ maxLen) (hbytes : (n + m) * bytes ≤ 140737488355328) (hbase : base ≤ w.heap.size) :
    ∃ v' w' g' cap', (Builtin.append_ #[t, t] ty #[v, .slice (some a) m c]).run P w = .ok v' w' ∧ v' = .slice (some ⟨g', 0, none⟩) (n + m) cap' ∧ w'.ownsRow base e size v' (n + m) (xs ++ news) ∧ w.grownBy w' v.ownBlock ∧
      (v.ownBlock = some g' ∨ w.heap.size ≤ g') := by
  obtain ⟨v', w', hr, h2, h3, _⟩ := run_append_own (P := P) w base t ty e i z size bytes ht hi hz hsize hby hzs hsz v n xs hown a m c news hl hnews h1 h63 hbytes hbase
  rcases hown.2 with ⟨rfl, rfl⟩ | ⟨g, cap, cur, rfl, hbg, hg, hnc, hcm, hcs, htake⟩
  · have hr2 := run_append_nil (P := P) w t ty e i z ht hi hz a m c news (by rw [hsize]; exact hl) hnews (by omega) (by unfold maxLen at h63; omega) (by rw [hby]; have hb := hbytes; simp only [Nat.zero_add] at hb; omega)
    rw [hr] at hr2
    simp only [Result.ok.injEq] at hr2
    exact ⟨v', w', w.heap.size, grownCap w m 0 e, hr, by rw [hr2.1, Nat.zero_add], h2, h3, .inr (Nat.le_refl _)⟩
  · by_cases hroom : n + m ≤ cap
    · have hfit : n * i.size + news.length ≤ cur.size := by rw [hl, hcs, hsize, ← Nat.add_mul]; exact Nat.mul_le_mul_right _ hroom
      have hr2 := run_append_room (P := P) w t ty e i ht hi g n cap cur hg a m c news (by rw [hsize]; exact hl) hnews h1 hroom hfit
      rw [hr] at hr2
      simp only [Result.ok.injEq] at hr2
      exact ⟨v', w', g, _, hr, hr2.1, h2, h3, .inl rfl⟩
    · have hr2 := run_append_grow (P := P) w t ty e i z ht hi hz ⟨g, 0, none⟩ n cap xs (by rw [hsize]; exact hown.1) (hown.cells (g := g) rfl) a m c news (by rw [hsize]; exact hl) hnews (by omega) (by unfold maxLen at h63; omega) (growslice_fits (by omega) (by rw [hby]; exact hbytes))
      rw [hr] at hr2
      simp only [Result.ok.injEq] at hr2
      exact ⟨v', w', w.heap.size, _, hr, hr2.1, h2, h3, .inr (Nat.le_refl _)⟩
theorem wpList_append_where {P : Program} {w : World} {ops : Array Oper} {rest : List Oper} {o : Oper} {act : Act} {Q : Exit → Act → World → Prop} (hgd : o.guard = none) (s x : Operand) (base : Nat) (t e : TypeId) (i : TypeInfo) (z : Value) (size bytes : Nat)
    (ho : o.op = .call { callee := .builtin .append, args := #[s, x], argTypes := #[t, t] }) (ht : P.underlying t = some (.slice e)) (hi : P.info? e = some i) (hz : i.zero = some z)
    (hsize : i.size = size) (hby : i.bytes = bytes) (hzs : z.cells.size = size) (hsz : 0 < size)
    (v : Value) (n : Nat) (xs : List Value) (hown : w.ownsRow base e size v n xs) (hs : act.eval s = v)
    (a : Addr) (m c : Nat) (hm0 : 0 < m) (news : List Value) (hx : act.eval x = .slice (some a) m c) (hl : news.length = m * size) (hnews : ∀ j u, news[j]? = some u → w.cell? (a.add j) = some u) (h1 : ∀ u ∈ news, u.oneCell' = true)
    (h63 : n + m ≤ maxLen) (hbytes : (n + m) * bytes ≤ 140737488355328) (hbase : base ≤ w.heap.size)
    (h : ∀ g' cap' w', w'.ownsRow base e size (.slice (some ⟨g', 0, none⟩) (n + m) cap') (n + m) (xs ++ news) → w.grownBy w' v.ownBlock → (v.ownBlock = some g' ∨ w.heap.size ≤ g') → wpList P ops Q rest (act.put o.dst (.slice (some ⟨g', 0, none⟩) (n + m) cap')) w') : wpList P ops Q (o :: rest) act w := by
  refine wpList_plain hgd fun K hK => ?_
  obtain ⟨v', w', g', cap', hr, rfl, h2, h3, h4⟩ := run_append_where (P := P) w base t o.type e i z size bytes ht hi hz hsize hby hzs hsz v n xs hown a m c hm0 news hl hnews h1 h63 hbytes hbase
  unfold Oper.wp execOp
  simp only [ho, resolve, invoke, builtin, Sem.run_bind, Sem.run_pure, Result.andThen_ok, List.map_toArray, List.map_cons, List.map_nil, hs, hx, hr]
  exact hK _ _ (h g' cap' w' h2 h3 h4)
theorem run_append_str_where {P : Program} (w : World) (base : Nat) (t u ty e : TypeId) (i : TypeInfo) (ht : P.underlying t = some (.slice e)) (hu : P.underlying u = some .string) (hi : P.info? e = some i) (hz : i.zero = some (.int .u8 0))
    (hsize : i.size = 1) (hby : i.bytes = 1)
    (v : Value) (n : Nat) (xs : List Value) (hown : w.ownsRow base e 1 v n xs) (s : ByteArray) (hm0 : 0 < s.size)
    (h63 : n + s.size ≤ maxLen) (hbytes : n + s.size ≤ 140737488355328) (hbase : base ≤ w.heap.size) :
    ∃ v' w' g' cap', (Builtin.append_ #[t, u] ty #[v, .string s]).run P w = .ok v' w' ∧ v' = .slice (some ⟨g', 0, none⟩) (n + s.size) cap' ∧ w'.ownsRow base e 1 v' (n + s.size) (xs ++ Lib.strCells s) ∧ w.grownBy w' v.ownBlock ∧
      (v.ownBlock = some g' ∨ w.heap.size ≤ g') := by
  obtain ⟨v', w', hr, h2, h3, _⟩ := Lib.run_append_own_string (P := P) w base t u ty e i ht hu hi hz hsize hby v n xs hown s h63 hbytes hbase
  have hsmall : n + s.size ≤ 9223372036854775807 := by simp only [maxLen] at h63; omega
  have hxl : xs.length = n := by simpa using hown.1
  rcases hown.2 with ⟨rfl, rfl⟩ | ⟨g, cap, cur, rfl, hbg, hg, hnc, hcm, hcs, htake⟩
  · have hr2 := run_append_nil_string (P := P) w t u ty e i (.int .u8 0) ht hu hi hz s (by omega) (by omega) (by rw [hby]; omega)
    rw [hr] at hr2
    simp only [Result.ok.injEq] at hr2
    exact ⟨v', w', w.heap.size, _, hr, by rw [hr2.1, Nat.zero_add], h2, h3, .inr (Nat.le_refl _)⟩
  · by_cases hroom : n + s.size ≤ cap
    · have hcs' : cur.size = cap := by simpa using hcs
      have hr2 := Lib.run_append_room_string (P := P) w t u ty e i ht hu hi hsize g n cap cur hg s hroom (by omega)
      rw [hr] at hr2
      simp only [Result.ok.injEq] at hr2
      exact ⟨v', w', g, _, hr, hr2.1, h2, h3, .inl rfl⟩
    · have holds : ∀ j u, xs[j]? = some u → w.cell? ((⟨g, 0, none⟩ : Addr).add j) = some u := hown.cells (g := g) rfl
      have hr2 := Lib.run_append_grow_string (P := P) w t u ty e i (.int .u8 0) ht hu hi hz ⟨g, 0, none⟩ n cap xs (by rw [hsize]; simpa using hxl) holds s (by omega) (by omega) (by rw [hby]; exact growslice_fits (by omega) (by omega))
      rw [hr] at hr2
      simp only [Result.ok.injEq] at hr2
      exact ⟨v', w', w.heap.size, _, hr, hr2.1, h2, h3, .inr (Nat.le_refl _)⟩
theorem wpList_append_str_where {P : Program} {w : World} {ops : Array Oper} {rest : List Oper} {o : Oper} {act : Act} {Q : Exit → Act → World → Prop} (hgd : o.guard = none) (sl x : Operand) (t u : TypeId)
    (ho : o.op = .call { callee := .builtin .append, args := #[sl, x], argTypes := #[t, u] })
    (base : Nat) (e : TypeId) (i : TypeInfo) (ht : P.underlying t = some (.slice e)) (hu : P.underlying u = some .string) (hi : P.info? e = some i) (hz : i.zero = some (.int .u8 0))
    (hsize : i.size = 1) (hby : i.bytes = 1)
    (v : Value) (n : Nat) (xs : List Value) (hs : act.eval sl = v) (hown : w.ownsRow base e 1 v n xs) (s : ByteArray) (hx : act.eval x = .string s) (hm0 : 0 < s.size)
    (h63 : n + s.size ≤ maxLen) (hbytes : n + s.size ≤ 140737488355328) (hbase : base ≤ w.heap.size)
    (h : ∀ g' cap' w', w'.ownsRow base e 1 (.slice (some ⟨g', 0, none⟩) (n + s.size) cap') (n + s.size) (xs ++ Lib.strCells s) → w.grownBy w' v.ownBlock → (v.ownBlock = some g' ∨ w.heap.size ≤ g') → wpList P ops Q rest (act.put o.dst (.slice (some ⟨g', 0, none⟩) (n + s.size) cap')) w') : wpList P ops Q (o :: rest) act w := by
  refine wpList_plain hgd fun K hK => ?_
  obtain ⟨v', w', g', cap', hr, rfl, h2, h3, h4⟩ := run_append_str_where (P := P) w base t u o.type e i ht hu hi hz hsize hby v n xs hown s hm0 h63 hbytes hbase
  unfold Oper.wp execOp
  simp only [ho, resolve, invoke, builtin, Sem.run_bind, Sem.run_pure, Result.andThen_ok, List.map_toArray, List.map_cons, List.map_nil, hs, hx, hr]
  exact hK _ _ (h g' cap' w' h2 h3 h4)
end Go.Proofs.YtecjodcaeldidaaGreatDoor
namespace Go.Proofs.YtecjodcaeldidaaGreatDoor
open Go Go.RowKit
/-- What 'spell' leaves: the list of one's own, longer, in its own block or in a new one. -/
def SplEnd (base g : Nat) (w w' : World) (e : Ending) (L : List UInt8) : Prop :=
  ∃ g' cap', e = .returned (.slice (some ⟨g', 0, none⟩) L.length cap') ∧ w'.ownsRow base 5 1 (.slice (some ⟨g', 0, none⟩) L.length cap') L.length (L.map ub) ∧ w.grownBy w' (some g) ∧ (g' = g ∨ w.heap.size ≤ g')
theorem spl_end {base g g1 c1 n : Nat} {L : List UInt8} {w w1 : World} {xs : List Value} (S : List UInt8) (hn : n = (L ++ S).length) (hxs : xs = (L ++ S).map ub) (h : w1.ownsRow base 5 1 (.slice (some ⟨g1, 0, none⟩) n c1) n xs) (hg : w.grownBy w1 (some g)) (hw : g1 = g ∨ w.heap.size ≤ g1) :
    SplEnd base g w w1 (.returned (.slice (some ⟨g1, 0, none⟩) n c1)) (L ++ S) := by
  subst hn hxs
  exact ⟨g1, c1, rfl, h, hg, hw⟩
theorem grown_after {w w' : World} {row : Option Nat} {o : Obj} (h : (w.alloc o).grownBy w' row) : w.grownBy w' row :=
  ⟨h.os, h.tape, h.output, by have := h.size; simp at this; omega, fun k hk hne => by rw [h.block k (by simp; omega) hne, Below.heap_alloc _ _ _ hk]⟩
set_option maxHeartbeats 1000000 in
theorem spell_10 (base g cap : Nat) (L : List UInt8) (p : UInt8) (m : ByteArray) (w : World) (hown : w.ownsRow base 5 1 (.slice (some ⟨g, 0, none⟩) L.length cap) L.length (L.map ub)) (hL : L.length ≤ 1000000000) (hb : base ≤ w.heap.size) :
    Calls Tryz.prog 54 #[.slice (some ⟨g, 0, none⟩) L.length cap, .int .u8 10, .int .u8 p.toNat, .string m] w fun e w' => SplEnd base g w w' e (L ++ [92, 110]) := by
  obtain ⟨i0, hi, hz0, hz1, hz2⟩ := info_parts info_u8
  go_enter Tryz.func54, Tryz.ntmps54
  go_wp2_with (at_builtin; refine wpList_append_str_where rfl (.tmp 31) (.const (.string ⟨#[92, 110]⟩)) 56 9 rfl base 5 i0 Tryz.underlying56 Tryz.underlying9 hi hz0 hz1 hz2 _ _ _ rfl hown ⟨#[92, 110]⟩ rfl (by decide) (by unfold maxLen; show L.length + 2 ≤ _; omega) (by show L.length + 2 ≤ _; omega) (by omega) ?_; intro g1 c1 w1 hown1 hgrow1 hwh1)
  go_ret
  refine ⟨g1, c1, by rw [List.length_append]; rfl, ?_, hgrow1, hwh1.imp (fun e => (Option.some.inj e).symm) id⟩
  rw [List.length_append, List.map_append]
  exact hown1
set_option maxHeartbeats 1000000 in
theorem spell_9 (base g cap : Nat) (L : List UInt8) (p : UInt8) (m : ByteArray) (w : World) (hown : w.ownsRow base 5 1 (.slice (some ⟨g, 0, none⟩) L.length cap) L.length (L.map ub)) (hL : L.length ≤ 1000000000) (hb : base ≤ w.heap.size) :
    Calls Tryz.prog 54 #[.slice (some ⟨g, 0, none⟩) L.length cap, .int .u8 9, .int .u8 p.toNat, .string m] w fun e w' => SplEnd base g w w' e (L ++ [92, 116]) := by
  obtain ⟨i0, hi, hz0, hz1, hz2⟩ := info_parts info_u8
  go_enter Tryz.func54, Tryz.ntmps54
  go_wp2_with (at_builtin; refine wpList_append_str_where rfl (.tmp 33) (.const (.string ⟨#[92, 116]⟩)) 56 9 rfl base 5 i0 Tryz.underlying56 Tryz.underlying9 hi hz0 hz1 hz2 _ _ _ rfl hown ⟨#[92, 116]⟩ rfl (by decide) (by unfold maxLen; show L.length + 2 ≤ _; omega) (by show L.length + 2 ≤ _; omega) (by omega) ?_; intro g1 c1 w1 hown1 hgrow1 hwh1)
  go_ret
  refine ⟨g1, c1, by rw [List.length_append]; rfl, ?_, hgrow1, hwh1.imp (fun e => (Option.some.inj e).symm) id⟩
  rw [List.length_append, List.map_append]
  exact hown1
set_option maxHeartbeats 1000000 in
theorem spell_13 (base g cap : Nat) (L : List UInt8) (p : UInt8) (m : ByteArray) (w : World) (hown : w.ownsRow base 5 1 (.slice (some ⟨g, 0, none⟩) L.length cap) L.length (L.map ub)) (hL : L.length ≤ 1000000000) (hb : base ≤ w.heap.size) :
    Calls Tryz.prog 54 #[.slice (some ⟨g, 0, none⟩) L.length cap, .int .u8 13, .int .u8 p.toNat, .string m] w fun e w' => SplEnd base g w w' e (L ++ [92, 114]) := by
  obtain ⟨i0, hi, hz0, hz1, hz2⟩ := info_parts info_u8
  go_enter Tryz.func54, Tryz.ntmps54
  go_wp2_with (at_builtin; refine wpList_append_str_where rfl (.tmp 35) (.const (.string ⟨#[92, 114]⟩)) 56 9 rfl base 5 i0 Tryz.underlying56 Tryz.underlying9 hi hz0 hz1 hz2 _ _ _ rfl hown ⟨#[92, 114]⟩ rfl (by decide) (by unfold maxLen; show L.length + 2 ≤ _; omega) (by show L.length + 2 ≤ _; omega) (by omega) ?_; intro g1 c1 w1 hown1 hgrow1 hwh1)
  go_ret
  refine ⟨g1, c1, by rw [List.length_append]; rfl, ?_, hgrow1, hwh1.imp (fun e => (Option.some.inj e).symm) id⟩
  rw [List.length_append, List.map_append]
  exact hown1
theorem indexByte_mem {l : List UInt8} {c : UInt8} (h : c ∈ l) : ∃ k : Nat, Lib.indexByte l c = (k : Int) := by
  have h8 := Lib.indexByte_ge l c
  by_cases h9 : Lib.indexByte l c = -1
  · obtain ⟨k, hk⟩ := List.getElem?_of_mem h
    exact absurd hk (Lib.indexByte_none h9 k)
  · exact ⟨(Lib.indexByte l c).toNat, by omega⟩
theorem indexByte_not {l : List UInt8} {c : UInt8} (h : c ∉ l) : Lib.indexByte l c = -1 := by
  have h8 := Lib.indexByte_ge l c
  apply Classical.byContradiction
  intro h9
  have h10 : Lib.indexByte l c = ((Lib.indexByte l c).toNat : Int) := by omega
  exact h (List.mem_of_getElem? (Lib.indexByte_some h10).1)
theorem u8_int (b : UInt8) : ((b.toNat : Int)).toNat.toUInt8 = b := by simp
set_option maxHeartbeats 1000000 in
set_option maxRecDepth 20000 in
theorem spell_mark (base g cap : Nat) (L : List UInt8) (b p : UInt8) (m : ByteArray) (w : World) (hown : w.ownsRow base 5 1 (.slice (some ⟨g, 0, none⟩) L.length cap) L.length (L.map ub)) (hL : L.length ≤ 1000000000) (hb : base ≤ w.heap.size) (h1 : ((b.toNat : Int) == 10) = false) (h2 : ((b.toNat : Int) == 9) = false) (h3 : ((b.toNat : Int) == 13) = false) (hm : b ∈ m.data.toList) :
    Calls Tryz.prog 54 #[.slice (some ⟨g, 0, none⟩) L.length cap, .int .u8 b.toNat, .int .u8 p.toNat, .string m] w fun e w' => SplEnd base g w w' e (L ++ [92, b]) := by
  obtain ⟨i0, hi, hz0, hz1, hz2⟩ := info_parts info_u8
  obtain ⟨k, hk⟩ := indexByte_mem hm
  have hib := fun w => Tryz.strings_IndexByte m (b.toNat : Int) w
  rw [u8_int, hk] at hib
  have hk0 : (0 : Int) ≤ (k : Int) := by omega
  clear hm hk
  have HO := Lib.hid hown
  clear hown
  go_enter Tryz.func54, Tryz.ntmps54
  go_wp2_with fail
  refine (hib _).mono ?_
  rintro e w0 ⟨rfl, rfl⟩
  go_wp2_with (first | (at_builtin; refine wpList_append_where rfl (.tmp 37) (.tmp 38) base 56 5 i0 (.int .u8 0) 1 1 rfl Tryz.underlying56 hi hz0 hz1 hz2 rfl (by decide) _ _ _ (HO.out.alloc _) rfl ⟨w0.heap.size, 0, none⟩ 1 1 (by decide) [_] rfl rfl (cell_one_new _ _ _) (by intro u hu; simp at hu; subst hu; rfl) (by unfold maxLen; omega) (by omega) (by simp; omega) ?_; intro g1 c1 w1 hown1 hgrow1 hwh1) | (at_builtin; refine wpList_append_where rfl (.tmp 40) (.tmp 42) base 56 5 i0 (.int .u8 0) 1 1 rfl Tryz.underlying56 hi hz0 hz1 hz2 rfl (by decide) _ _ _ (hown1.alloc _) rfl ⟨w1.heap.size, 0, none⟩ 1 1 (by decide) [_] rfl rfl (cell_one_new _ _ _) (by intro u hu; simp at hu; subst hu; rfl) (by unfold maxLen; omega) (by omega) (by have := hgrow1.size; simp at this ⊢; omega) ?_; intro g2 c2 w2 hown2 hgrow2 hwh2))
  go_ret
  have hsz1 := hgrow1.size
  simp at hsz1
  have hg1 := grown_after hgrow1
  have hg2 := grown_after hgrow2
  have hw1 : g1 = g ∨ w0.heap.size ≤ g1 := hwh1.imp (fun e => (Option.some.inj e).symm) (fun h => by simp at h; omega)
  have hw2 : g2 = g1 ∨ w1.heap.size ≤ g2 := hwh2.imp (fun e => (Option.some.inj e).symm) (fun h => by simp at h; omega)
  refine spl_end (xs := List.map ub L ++ [.int .u8 92] ++ [.int .u8 (b.toNat : Int)]) [92, b] (by simp) (by simp [ub]) hown2 ?_ ?_
  · refine ⟨hg2.os.trans hg1.os, hg2.tape.trans hg1.tape, hg2.output.trans hg1.output, Nat.le_trans hg1.size hg2.size, fun k hk hne => (hg2.block k (Nat.lt_of_lt_of_le hk hg1.size) (fun e => ?_)).trans (hg1.block k hk hne)⟩
    have e1 : k = g1 := Option.some.inj e
    rcases hw1 with h | h
    · exact hne (by rw [e1, h])
    · omega
  · omega
set_option maxRecDepth 20000 in
theorem spell_own (base g cap : Nat) (L : List UInt8) (b p : UInt8) (m : ByteArray) (w : World) (hown : w.ownsRow base 5 1 (.slice (some ⟨g, 0, none⟩) L.length cap) L.length (L.map ub)) (hL : L.length ≤ 1000000000) (hb : base ≤ w.heap.size) (h1 : ((b.toNat : Int) == 10) = false) (h2 : ((b.toNat : Int) == 9) = false) (h3 : ((b.toNat : Int) == 13) = false) (hm : b ∉ m.data.toList) (hp : (p.toNat : Int) ≤ b.toNat) (hq : (b.toNat : Int) ≤ 126) :
    Calls Tryz.prog 54 #[.slice (some ⟨g, 0, none⟩) L.length cap, .int .u8 b.toNat, .int .u8 p.toNat, .string m] w fun e w' => SplEnd base g w w' e (L ++ [b]) := by
  obtain ⟨i0, hi, hz0, hz1, hz2⟩ := info_parts info_u8
  have hib := fun w => Tryz.strings_IndexByte m (b.toNat : Int) w
  rw [u8_int, indexByte_not hm] at hib
  clear hm
  have HO := Lib.hid hown
  clear hown
  go_enter Tryz.func54, Tryz.ntmps54
  go_wp2_with fail
  refine (hib _).mono ?_
  rintro e w0 ⟨rfl, rfl⟩
  go_wp2_with (at_builtin; refine wpList_append_where rfl (.tmp 40) (.tmp 42) base 56 5 i0 (.int .u8 0) 1 1 rfl Tryz.underlying56 hi hz0 hz1 hz2 rfl (by decide) _ _ _ (HO.out.alloc _) rfl ⟨w0.heap.size, 0, none⟩ 1 1 (by decide) [_] rfl rfl (cell_one_new _ _ _) (by intro u hu; simp at hu; subst hu; rfl) (by unfold maxLen; omega) (by omega) (by simp; omega) ?_; intro g1 c1 w1 hown1 hgrow1 hwh1)
  go_ret
  exact spl_end [b] (by simp) (by simp [ub]) hown1 (grown_after hgrow1) (hwh1.imp (fun e => (Option.some.inj e).symm) (fun h => by simp at h; omega))
theorem index_dig (k : Nat) (hk : k < 16) (w : World) : (Instr.index 9 (.string ⟨#[48, 49, 50, 51, 52, 53, 54, 55, 56, 57, 97, 98, 99, 100, 101, 102]⟩) (.int .u8 (k : Nat))).run Tryz.prog w = .ok (ub (dig k)) w := by
  have e0 : ∀ w, (Instr.index 9 (.string ⟨#[48, 49, 50, 51, 52, 53, 54, 55, 56, 57, 97, 98, 99, 100, 101, 102]⟩) (.int .u8 (0 : Nat))).run Tryz.prog w = .ok (ub (dig 0)) w := fun _ => by kernel_rfl
  have e1 : ∀ w, (Instr.index 9 (.string ⟨#[48, 49, 50, 51, 52, 53, 54, 55, 56, 57, 97, 98, 99, 100, 101, 102]⟩) (.int .u8 (1 : Nat))).run Tryz.prog w = .ok (ub (dig 1)) w := fun _ => by kernel_rfl
  have e2 : ∀ w, (Instr.index 9 (.string ⟨#[48, 49, 50, 51, 52, 53, 54, 55, 56, 57, 97, 98, 99, 100, 101, 102]⟩) (.int .u8 (2 : Nat))).run Tryz.prog w = .ok (ub (dig 2)) w := fun _ => by kernel_rfl
  have e3 : ∀ w, (Instr.index 9 (.string ⟨#[48, 49, 50, 51, 52, 53, 54, 55, 56, 57, 97, 98, 99, 100, 101, 102]⟩) (.int .u8 (3 : Nat))).run Tryz.prog w = .ok (ub (dig 3)) w := fun _ => by kernel_rfl
  have e4 : ∀ w, (Instr.index 9 (.string ⟨#[48, 49, 50, 51, 52, 53, 54, 55, 56, 57, 97, 98, 99, 100, 101, 102]⟩) (.int .u8 (4 : Nat))).run Tryz.prog w = .ok (ub (dig 4)) w := fun _ => by kernel_rfl
  have e5 : ∀ w, (Instr.index 9 (.string ⟨#[48, 49, 50, 51, 52, 53, 54, 55, 56, 57, 97, 98, 99, 100, 101, 102]⟩) (.int .u8 (5 : Nat))).run Tryz.prog w = .ok (ub (dig 5)) w := fun _ => by kernel_rfl
  have e6 : ∀ w, (Instr.index 9 (.string ⟨#[48, 49, 50, 51, 52, 53, 54, 55, 56, 57, 97, 98, 99, 100, 101, 102]⟩) (.int .u8 (6 : Nat))).run Tryz.prog w = .ok (ub (dig 6)) w := fun _ => by kernel_rfl
  have e7 : ∀ w, (Instr.index 9 (.string ⟨#[48, 49, 50, 51, 52, 53, 54, 55, 56, 57, 97, 98, 99, 100, 101, 102]⟩) (.int .u8 (7 : Nat))).run Tryz.prog w = .ok (ub (dig 7)) w := fun _ => by kernel_rfl
  have e8 : ∀ w, (Instr.index 9 (.string ⟨#[48, 49, 50, 51, 52, 53, 54, 55, 56, 57, 97, 98, 99, 100, 101, 102]⟩) (.int .u8 (8 : Nat))).run Tryz.prog w = .ok (ub (dig 8)) w := fun _ => by kernel_rfl
  have e9 : ∀ w, (Instr.index 9 (.string ⟨#[48, 49, 50, 51, 52, 53, 54, 55, 56, 57, 97, 98, 99, 100, 101, 102]⟩) (.int .u8 (9 : Nat))).run Tryz.prog w = .ok (ub (dig 9)) w := fun _ => by kernel_rfl
  have e10 : ∀ w, (Instr.index 9 (.string ⟨#[48, 49, 50, 51, 52, 53, 54, 55, 56, 57, 97, 98, 99, 100, 101, 102]⟩) (.int .u8 (10 : Nat))).run Tryz.prog w = .ok (ub (dig 10)) w := fun _ => by kernel_rfl
  have e11 : ∀ w, (Instr.index 9 (.string ⟨#[48, 49, 50, 51, 52, 53, 54, 55, 56, 57, 97, 98, 99, 100, 101, 102]⟩) (.int .u8 (11 : Nat))).run Tryz.prog w = .ok (ub (dig 11)) w := fun _ => by kernel_rfl
  have e12 : ∀ w, (Instr.index 9 (.string ⟨#[48, 49, 50, 51, 52, 53, 54, 55, 56, 57, 97, 98, 99, 100, 101, 102]⟩) (.int .u8 (12 : Nat))).run Tryz.prog w = .ok (ub (dig 12)) w := fun _ => by kernel_rfl
  have e13 : ∀ w, (Instr.index 9 (.string ⟨#[48, 49, 50, 51, 52, 53, 54, 55, 56, 57, 97, 98, 99, 100, 101, 102]⟩) (.int .u8 (13 : Nat))).run Tryz.prog w = .ok (ub (dig 13)) w := fun _ => by kernel_rfl
  have e14 : ∀ w, (Instr.index 9 (.string ⟨#[48, 49, 50, 51, 52, 53, 54, 55, 56, 57, 97, 98, 99, 100, 101, 102]⟩) (.int .u8 (14 : Nat))).run Tryz.prog w = .ok (ub (dig 14)) w := fun _ => by kernel_rfl
  have e15 : ∀ w, (Instr.index 9 (.string ⟨#[48, 49, 50, 51, 52, 53, 54, 55, 56, 57, 97, 98, 99, 100, 101, 102]⟩) (.int .u8 (15 : Nat))).run Tryz.prog w = .ok (ub (dig 15)) w := fun _ => by kernel_rfl
  have h : k = 0 ∨ k = 1 ∨ k = 2 ∨ k = 3 ∨ k = 4 ∨ k = 5 ∨ k = 6 ∨ k = 7 ∨ k = 8 ∨ k = 9 ∨ k = 10 ∨ k = 11 ∨ k = 12 ∨ k = 13 ∨ k = 14 ∨ k = 15 := by omega
  rcases h with rfl | rfl | rfl | rfl | rfl | rfl | rfl | rfl | rfl | rfl | rfl | rfl | rfl | rfl | rfl | rfl
  · exact e0 w
  · exact e1 w
  · exact e2 w
  · exact e3 w
  · exact e4 w
  · exact e5 w
  · exact e6 w
  · exact e7 w
  · exact e8 w
  · exact e9 w
  · exact e10 w
  · exact e11 w
  · exact e12 w
  · exact e13 w
  · exact e14 w
  · exact e15 w
/-- A new list of four bytes. -/
def RLs (cs : Array Value) : Value → World → Prop := fun v w => ∃ b, v = .slice (some ⟨b, 0, none⟩) 4 4 ∧ ∃ t, Blk w b cs t
def RsL (cs : Array Value) : Nat → Option (Value → World → Prop) := fun k => if k = 7 then some (RLs cs) else none
theorem RsL_mono (cs : Array Value) : G.RsMono Ext (RsL cs) := by
  intro j R h
  unfold RsL at h
  split at h
  · cases h
    rintro v w w' hx ⟨b, hv, t, hb⟩
    exact ⟨b, hv, t, hb.ext hx⟩
  · cases h
set_option maxRecDepth 20000 in
theorem spell_hex (base g cap : Nat) (L : List UInt8) (b p : UInt8) (m : ByteArray) (w : World) (hown : w.ownsRow base 5 1 (.slice (some ⟨g, 0, none⟩) L.length cap) L.length (L.map ub)) (hL : L.length ≤ 1000000000) (hb : base ≤ w.heap.size) (h1 : ((b.toNat : Int) == 10) = false) (h2 : ((b.toNat : Int) == 9) = false) (h3 : ((b.toNat : Int) == 13) = false) (hm : b ∉ m.data.toList) (hp : ¬ ((p.toNat : Int) ≤ b.toNat ∧ (b.toNat : Int) ≤ 126)) :
    Calls Tryz.prog 54 #[.slice (some ⟨g, 0, none⟩) L.length cap, .int .u8 b.toNat, .int .u8 p.toNat, .string m] w fun e w' => SplEnd base g w w' e (L ++ [92, 120, dig (b.toNat / 16), dig (b.toNat % 16)]) := by
  obtain ⟨i0, hi, hz0, hz1, hz2⟩ := info_parts info_u8
  have hib := fun w => Tryz.strings_IndexByte m (b.toNat : Int) w
  rw [u8_int, indexByte_not hm] at hib
  clear hm
  have HO := Lib.hid hown
  clear hown
  have hbb := b.toNat_lt
  have hdg : ∀ k, k < 16 → ∀ w, (Instr.index 9 (.string ⟨#[48, 49, 50, 51, 52, 53, 54, 55, 56, 57, 97, 98, 99, 100, 101, 102]⟩) (.int .u8 (k : Nat))).run Tryz.prog w = .ok (ub (dig k)) w := fun k hk w => index_dig k hk w
  have han : bits .and .u8 (b.toNat : Int) 15 = ((b.toNat % 16 : Nat) : Int) := by
    have h := byte_all (fun b => decide (bits .and .u8 (b.toNat : Int) 15 = ((b.toNat % 16 : Nat) : Int))) (by decide +kernel) b
    simpa using h
  have hd1 := hdg (b.toNat / 16) (by omega)
  have hd2 := hdg (b.toNat % 16) (by omega)
  have hsh : (b.toNat : Int) / 16 = ((b.toNat / 16 : Nat) : Int) := by omega
  generalize b.toNat % 16 = q2 at han hd2 ⊢
  generalize b.toNat / 16 = q1 at hsh hd1 ⊢
  clear hdg
  go_enter Tryz.func54, Tryz.ntmps54
  go_wp2_with fail
  refine (hib _).mono ?_
  rintro e w0 ⟨rfl, rfl⟩
  by_cases hp1 : (p.toNat : Int) ≤ b.toNat
  · have hp2 : ¬ (b.toNat : Int) ≤ 126 := fun h => hp ⟨hp1, h⟩
    have hp3 : decide ((b.toNat : Int) ≤ 126) = false := decide_eq_false hp2
    clear hp
    go_wp2_with fail
    refine G.wp_region_tail (G := Ext) (RsL #[.int .u8 92, .int .u8 120, ub (dig q1), ub (dig q2)]) 8 (by kernel_rfl) (by kernel_rfl) (RsL_mono _) (fun hex => ?_)
    simp only [List.take_succ_cons, List.take_zero, List.drop_succ_cons, List.drop_zero]
    iterate 7
      (refine G.wpS_one (A := ?_) hex rfl rfl (by simp) ?_ ?_ ?_
       rotate_left 2
       · intro w' hC K hK
         go_wp2_with (fail)
         refine hK _ ?_
         first | exact Below.refl _ _ | assumption | ((repeat' (first | (with_reducible exact Below.refl _ _) | (with_reducible assumption) | (with_reducible refine below_drewN ?_ _) | (with_reducible refine Below.alloc ?_ ?_ _) | (with_reducible refine Below.drew ?_) | (with_reducible refine Below.setCell ?_ ?_ _) | (with_reducible refine Below.trans ?_ (Below.mono (by with_reducible assumption) ?_)) | go_size)))
       rotate_left 1
       · rfl
       clear hex; intro hex)
    refine G.wpS_rel (RLs #[.int .u8 92, .int .u8 120, ub (dig q1), ub (dig q2)]) rfl rfl (by simp) (by first | rfl | (simp [Region.wanted, yielded]; done)) ?_ ?_
    · intro w' hC K hK
      simp only [Act.put, List.setIfInBounds_toArray, List.set_cons_succ, List.set_cons_zero] at hK
      go_wp2_with (fail)
      refine hK _ _ ?_ ?_
      · first | exact Below.refl _ _ | assumption | ((repeat' (first | (with_reducible exact Below.refl _ _) | (with_reducible assumption) | (with_reducible refine below_drewN ?_ _) | (with_reducible refine Below.alloc ?_ ?_ _) | (with_reducible refine Below.drew ?_) | (with_reducible refine Below.setCell ?_ ?_ _) | (with_reducible refine Below.trans ?_ (Below.mono (by with_reducible assumption) ?_)) | go_size)))
      · exact ⟨_, rfl, _, Blk.new _ _ _⟩
    clear hex
    intro v3 w' hex hv3
    replace hex := Exists.intro w' hex
    simp only [Act.put, List.setIfInBounds_toArray, List.set_cons_succ, List.set_cons_zero]
    refine G.wpS_nil fun w7 hAll => ?_
    obtain ⟨b', rfl, t', hblk⟩ := (hAll.2 7).1 rfl
    have hx7 := hAll.1
    have hown7 := own_below HO.out hx7 (Nat.le_refl _)
    have hz7 := hx7.size
    have hcs : ∀ (j : Nat) u, [Value.int .u8 92, .int .u8 120, ub (dig q1), ub (dig q2)][j]? = some u → w7.cell? ((⟨b', 0, none⟩ : Addr).add j) = some u := by
      intro j u hu
      have hadd : (⟨b', 0, none⟩ : Addr).add j = ⟨b', j, none⟩ := by unfold Addr.add; split <;> simp_all
      rw [hadd, hblk.cell j]
      simpa using hu
    have HX7 := Lib.hid hx7
    clear hAll hex hv3 hx7 hblk hd1 hd2
    go_wp2_with (at_builtin; refine wpList_append_where rfl (.tmp 44) (.tmp 51) base 56 5 i0 (.int .u8 0) 1 1 rfl Tryz.underlying56 hi hz0 hz1 hz2 rfl (by decide) _ _ _ hown7 rfl ⟨b', 0, none⟩ 4 4 (by decide) [_, _, _, _] rfl rfl hcs (by intro u hu; simp at hu; rcases hu with rfl | rfl | rfl | rfl <;> rfl) (by unfold maxLen; omega) (by omega) (by omega) ?_; intro g1 c1 w1 hown1 hgrow1 hwh1)
    go_ret
    refine spl_end (xs := List.map ub L ++ [.int .u8 92, .int .u8 120, ub (dig q1), ub (dig q2)]) [92, 120, dig q1, dig q2] (by simp) (by simp [ub]) hown1 ?_ ?_
    · exact ⟨hgrow1.os.trans HX7.out.os, hgrow1.tape.trans HX7.out.tape, hgrow1.output.trans HX7.out.output, Nat.le_trans HX7.out.size hgrow1.size, fun k hk hne => (hgrow1.block k (Nat.lt_of_lt_of_le hk HX7.out.size) hne).trans (HX7.out.block k hk)⟩
    · exact hwh1.imp (fun e => (Option.some.inj e).symm) (fun h => by omega)
  · clear hp
    go_wp2_with fail
    refine G.wp_region_tail (G := Ext) (RsL #[.int .u8 92, .int .u8 120, ub (dig q1), ub (dig q2)]) 8 (by kernel_rfl) (by kernel_rfl) (RsL_mono _) (fun hex => ?_)
    simp only [List.take_succ_cons, List.take_zero, List.drop_succ_cons, List.drop_zero]
    iterate 7
      (refine G.wpS_one (A := ?_) hex rfl rfl (by simp) ?_ ?_ ?_
       rotate_left 2
       · intro w' hC K hK
         go_wp2_with (fail)
         refine hK _ ?_
         first | exact Below.refl _ _ | assumption | ((repeat' (first | (with_reducible exact Below.refl _ _) | (with_reducible assumption) | (with_reducible refine below_drewN ?_ _) | (with_reducible refine Below.alloc ?_ ?_ _) | (with_reducible refine Below.drew ?_) | (with_reducible refine Below.setCell ?_ ?_ _) | (with_reducible refine Below.trans ?_ (Below.mono (by with_reducible assumption) ?_)) | go_size)))
       rotate_left 1
       · rfl
       clear hex; intro hex)
    refine G.wpS_rel (RLs #[.int .u8 92, .int .u8 120, ub (dig q1), ub (dig q2)]) rfl rfl (by simp) (by first | rfl | (simp [Region.wanted, yielded]; done)) ?_ ?_
    · intro w' hC K hK
      simp only [Act.put, List.setIfInBounds_toArray, List.set_cons_succ, List.set_cons_zero] at hK
      go_wp2_with (fail)
      refine hK _ _ ?_ ?_
      · first | exact Below.refl _ _ | assumption | ((repeat' (first | (with_reducible exact Below.refl _ _) | (with_reducible assumption) | (with_reducible refine below_drewN ?_ _) | (with_reducible refine Below.alloc ?_ ?_ _) | (with_reducible refine Below.drew ?_) | (with_reducible refine Below.setCell ?_ ?_ _) | (with_reducible refine Below.trans ?_ (Below.mono (by with_reducible assumption) ?_)) | go_size)))
      · exact ⟨_, rfl, _, Blk.new _ _ _⟩
    clear hex
    intro v3 w' hex hv3
    replace hex := Exists.intro w' hex
    simp only [Act.put, List.setIfInBounds_toArray, List.set_cons_succ, List.set_cons_zero]
    refine G.wpS_nil fun w7 hAll => ?_
    obtain ⟨b', rfl, t', hblk⟩ := (hAll.2 7).1 rfl
    have hx7 := hAll.1
    have hown7 := own_below HO.out hx7 (Nat.le_refl _)
    have hz7 := hx7.size
    have hcs : ∀ (j : Nat) u, [Value.int .u8 92, .int .u8 120, ub (dig q1), ub (dig q2)][j]? = some u → w7.cell? ((⟨b', 0, none⟩ : Addr).add j) = some u := by
      intro j u hu
      have hadd : (⟨b', 0, none⟩ : Addr).add j = ⟨b', j, none⟩ := by unfold Addr.add; split <;> simp_all
      rw [hadd, hblk.cell j]
      simpa using hu
    have HX7 := Lib.hid hx7
    clear hAll hex hv3 hx7 hblk hd1 hd2
    go_wp2_with (at_builtin; refine wpList_append_where rfl (.tmp 44) (.tmp 51) base 56 5 i0 (.int .u8 0) 1 1 rfl Tryz.underlying56 hi hz0 hz1 hz2 rfl (by decide) _ _ _ hown7 rfl ⟨b', 0, none⟩ 4 4 (by decide) [_, _, _, _] rfl rfl hcs (by intro u hu; simp at hu; rcases hu with rfl | rfl | rfl | rfl <;> rfl) (by unfold maxLen; omega) (by omega) (by omega) ?_; intro g1 c1 w1 hown1 hgrow1 hwh1)
    go_ret
    refine spl_end (xs := List.map ub L ++ [.int .u8 92, .int .u8 120, ub (dig q1), ub (dig q2)]) [92, 120, dig q1, dig q2] (by simp) (by simp [ub]) hown1 ?_ ?_
    · exact ⟨hgrow1.os.trans HX7.out.os, hgrow1.tape.trans HX7.out.tape, hgrow1.output.trans HX7.out.output, Nat.le_trans HX7.out.size hgrow1.size, fun k hk hne => (hgrow1.block k (Nat.lt_of_lt_of_le hk HX7.out.size) hne).trans (HX7.out.block k hk)⟩
    · exact hwh1.imp (fun e => (Option.some.inj e).symm) (fun h => by omega)
theorem spell_any (base g cap : Nat) (L : List UInt8) (b p : UInt8) (m : ByteArray) (w : World) (hown : w.ownsRow base 5 1 (.slice (some ⟨g, 0, none⟩) L.length cap) L.length (L.map ub)) (hL : L.length ≤ 1000000000) (hb : base ≤ w.heap.size) :
    Calls Tryz.prog 54 #[.slice (some ⟨g, 0, none⟩) L.length cap, .int .u8 b.toNat, .int .u8 p.toNat, .string m] w fun e w' => SplEnd base g w w' e (L ++ spl p m.data.toList b) := by
  unfold spl
  have ne : ∀ (k : Nat), k < 256 → b ≠ UInt8.ofNat k → ((b.toNat : Int) == (k : Int)) = false := by
    intro k hk h
    rw [beq_eq_false_iff_ne]
    intro h'
    apply h
    have h2 : b.toNat = k := by omega
    rw [← h2]; simp
  by_cases h1 : b = 10
  · subst h1
    rw [if_pos rfl]
    exact spell_10 base g cap L p m w hown hL hb
  rw [if_neg h1]
  by_cases h2 : b = 9
  · subst h2
    rw [if_pos rfl]
    exact spell_9 base g cap L p m w hown hL hb
  rw [if_neg h2]
  by_cases h3 : b = 13
  · subst h3
    rw [if_pos rfl]
    exact spell_13 base g cap L p m w hown hL hb
  rw [if_neg h3]
  by_cases h4 : b ∈ m.data.toList
  · rw [if_pos h4]
    exact spell_mark base g cap L b p m w hown hL hb (ne 10 (by omega) h1) (ne 9 (by omega) h2) (ne 13 (by omega) h3) h4
  rw [if_neg h4]
  have e126 : b ≤ 126 ↔ (b.toNat : Int) ≤ 126 := by rw [UInt8.le_iff_toNat_le]; show b.toNat ≤ 126 ↔ _; omega
  have ep : p ≤ b ↔ (p.toNat : Int) ≤ b.toNat := by rw [UInt8.le_iff_toNat_le]; omega
  by_cases h5 : p ≤ b ∧ b ≤ 126
  · rw [if_pos h5]
    exact spell_own base g cap L b p m w hown hL hb (ne 10 (by omega) h1) (ne 9 (by omega) h2) (ne 13 (by omega) h3) h4 (ep.1 h5.1) (e126.1 h5.2)
  · rw [if_neg h5]
    exact spell_hex base g cap L b p m w hown hL hb (ne 10 (by omega) h1) (ne 9 (by omega) h2) (ne 13 (by omega) h3) h4 (fun h => h5 ⟨ep.2 h.1, e126.2 h.2⟩)
end Go.Proofs.YtecjodcaeldidaaGreatDoor
namespace Go.Proofs.YtecjodcaeldidaaGreatDoor
open Go Go.RowKit
theorem own_new1 (w : World) (x : Value) : (w.alloc (.cells #[x] 5)).ownsRow w.heap.size 5 1 (.slice (some ⟨w.heap.size, 0, none⟩) 1 1) 1 [x] := by
  refine ⟨rfl, .inr ⟨w.heap.size, 1, #[x], rfl, Nat.le_refl _, ?_, Nat.le_refl _, by unfold maxLen; omega, rfl, rfl⟩⟩
  exact Blk.new w #[x] 5
theorem grown_chain {w w1 w2 : World} {g g1 : Nat} (h1 : w.grownBy w1 (some g)) (hw : g1 = g ∨ w.heap.size ≤ g1) (h2 : w1.grownBy w2 (some g1)) : w.grownBy w2 (some g) := by
  refine ⟨h2.os.trans h1.os, h2.tape.trans h1.tape, h2.output.trans h1.output, Nat.le_trans h1.size h2.size, fun k hk hne => (h2.block k (Nat.lt_of_lt_of_le hk h1.size) (fun e => ?_)).trans (h1.block k hk hne)⟩
  have e1 : k = g1 := Option.some.inj e
  rcases hw with h | h
  · exact hne (by rw [e1, h])
  · omega
theorem own_lt {w : World} {b e sz n g cap : Nat} {xs : List Value} (h : w.ownsRow b e sz (.slice (some ⟨g, 0, none⟩) n cap) n xs) : b ≤ g ∧ g < w.heap.size := h.lt g rfl
theorem spl_le4 (p : UInt8) (m : List UInt8) (b : UInt8) : (spl p m b).length ≤ 4 := by
  unfold spl
  repeat' split
  all_goals simp
theorem flat_le4 (p : UInt8) (m : List UInt8) : ∀ l : List UInt8, (l.flatMap (spl p m)).length ≤ 4 * l.length
  | [] => by simp
  | b :: l => by
    have h1 := spl_le4 p m b
    have h2 := flat_le4 p m l
    rw [List.flatMap_cons, List.length_append, List.length_cons]
    omega
theorem take_flat (f : UInt8 → List UInt8) (l : List UInt8) (k : Nat) (h : k < l.length) : (l.take (k + 1)).flatMap f = (l.take k).flatMap f ++ f l[k] := by
  rw [List.take_succ_eq_append_getElem h, List.flatMap_append]
  simp
set_option maxHeartbeats 1000000 in
set_option maxRecDepth 20000 in
theorem quote_any (s : ByteArray) (hs : s.size ≤ 100000000) (w : World) :
    Calls Tryz.prog 27 #[.string s] w fun e w' => e = .returned (.string ⟨(qot s.data.toList).toArray⟩) ∧ Below w.heap.size w w' := by
  obtain ⟨i0, hi, hz0, hz1, hz2⟩ := info_parts info_u8
  have hsl : s.data.toList.length = s.size := by rw [Array.length_toList]; rfl
  have hn1 := own_new1 w (.int .u8 34)
  have hb1 : Below w.heap.size w (w.alloc (.cells #[.int .u8 34] 5)) := by go_grown
  have HN := Lib.hid (And.intro hn1 hb1)
  clear hn1 hb1
  go_enter Tryz.func27, Tryz.ntmps27
  go_wp2_with fail
  go_loopw [3, 8] (fun v i wr => ∃ (k g cap : Nat), k ≤ s.size ∧ i = .int .i64 k ∧ v = .slice (some ⟨g, 0, none⟩) (34 :: (s.data.toList.take k).flatMap (spl 32 qmarks)).length cap ∧ Hid (wr.ownsRow w.heap.size 5 1 (.slice (some ⟨g, 0, none⟩) (34 :: (s.data.toList.take k).flatMap (spl 32 qmarks)).length cap) (34 :: (s.data.toList.take k).flatMap (spl 32 qmarks)).length ((34 :: (s.data.toList.take k).flatMap (spl 32 qmarks)).map ub)) ∧ Hid (Below w.heap.size w wr)) (fun _ i _ => s.size - (intOf i).toNat)
  case atStart => exact ⟨0, w.heap.size, 1, Nat.zero_le _, rfl, rfl, Lib.hid HN.out.1, Lib.hid HN.out.2⟩
  case round =>
    clear HN
    obtain ⟨k, g, cap, hk, rfl, rfl, hown, hbel⟩ := hrel
    have hlen := flat_le4 32 qmarks (s.data.toList.take k)
    rw [List.length_take, hsl] at hlen
    obtain ⟨L, hL⟩ : ∃ L, 34 :: (s.data.toList.take k).flatMap (spl 32 qmarks) = L := ⟨_, rfl⟩
    have hLl : L.length ≤ 1000000000 := by rw [← hL, List.length_cons]; omega
    rw [hL] at hown ⊢
    have hsz := hbel.out.size
    by_cases hlt : k < s.size
    · have hts := take_flat (spl 32 qmarks) s.data.toList k (by omega)
      obtain ⟨b, hb⟩ : ∃ b, s.data.toList[k]'(by omega) = b := ⟨_, rfl⟩
      have hb2 : s[k] = b := by rw [← hb]; rfl
      rw [hb] at hts
      have HT := Lib.hid hts
      have HLe := Lib.hid hL
      have hsp := spell_any w.heap.size g cap L b 32 ⟨#[34, 92]⟩ wr hown.out hLl hsz
      have HC := Lib.hid hsp
      have HO0 := hown
      clear hts hL hsp hb hlen hown
      go_wp2_with fail
      refine HC.out.mono ?_
      rintro e w1 ⟨g', cap', rfl, hown1, hg1, hw1⟩
      have HO1 := Lib.hid hown1
      have HB1 := Lib.hid (hbel.out.grown hg1 hsz (fun j hj => by cases hj; exact (own_lt HO0.out).1))
      have he : 34 :: (s.data.toList.take (k + 1)).flatMap (spl 32 qmarks) = L ++ spl 32 qmarks b := by rw [HT.out, ← HLe.out]; rfl
      have HE := Lib.hid he
      clear hown1 hg1 hw1 HC he
      go_wp2_with fail
      go_roundw
      case rel =>
        refine ⟨k + 1, g', cap', by omega, by go_num, by rw [HE.out, List.length_append], Lib.hid ?_, HB1⟩
        rw [HE.out]
        exact HO1.out
      case measure => simp [intOf]; omega
    · obtain rfl : k = s.size := by omega
      have e : s.data.toList.take s.size = s.data.toList := List.take_of_length_le (by omega)
      rw [e] at hL
      have HLe := Lib.hid hL
      have HO := hown
      have HB := hbel
      clear hL e hlen hown hbel
      go_wp2_with (at_builtin; refine wpList_append_own _ rfl (.tmp 17) (.tmp 18) 56 rfl w.heap.size 5 i0 (.int .u8 0) 1 1 Tryz.underlying56 hi hz0 hz1 hz2 rfl (by decide) _ _ _ rfl (HO.out.alloc _) ⟨wr.heap.size, 0, none⟩ 1 1 [_] rfl rfl (cell_one_new _ _ _) (by intro u hu; simp at hu; subst hu; rfl) (by unfold maxLen; omega) (by omega) (by simp; omega) ?_; intro v1 w4 hown1 hgrow1 hnil1; have hcv := own_str (L := L ++ [34]) (by rw [List.length_append, List.map_append]; exact hown1))
      go_ret
      refine ⟨?_, ((HB.out.alloc hsz _).grown hgrow1 (by simp; omega) (fun j hj => (HO.out.lt j hj).1))⟩
      rw [← HLe.out]
      simp [qot]
end Go.Proofs.YtecjodcaeldidaaGreatDoor
namespace Go.Proofs.YtecjodcaeldidaaGreatDoor
open Go Go.RowKit
theorem sps_le (p : Nat × Nat) : (sps p).length ≤ 9 := by
  have h1 := spl_le4 33 cmarks (UInt8.ofNat p.1)
  have h2 := spl_le4 33 cmarks (UInt8.ofNat p.2)
  unfold sps
  simp only [List.length_append]
  split <;> split <;> simp <;> omega
theorem flat_le9 : ∀ l : List (Nat × Nat), (l.flatMap sps).length ≤ 9 * l.length
  | [] => by simp
  | p :: l => by
    have h1 := sps_le p
    have h2 := flat_le9 l
    rw [List.flatMap_cons, List.length_append, List.length_cons]
    omega
theorem take_flat2 (l : List (Nat × Nat)) (k : Nat) (h : k < l.length) : (l.take (k + 1)).flatMap sps = (l.take k).flatMap sps ++ sps l[k] := by
  rw [List.take_succ_eq_append_getElem h, List.flatMap_append]
  simp
theorem spn_len (s : BitVec 256) : (spn s).length ≤ 256 := by
  have h1 := spansN_len (lstN s 4)
  have h2 := lstN_len s 4
  unfold spn
  omega
/-- The spans' cells, in a list that was told. -/
def Told (w : World) (gS : Nat) (S : List (Nat × Nat)) : Prop := gS < w.heap.size ∧ ∀ k (h : k < S.length), w.cell? ⟨gS, k * 2, none⟩ = some (nb S[k].1) ∧ w.cell? ⟨gS, k * 2 + 1, none⟩ = some (nb S[k].2)
theorem Told.grown {w w' : World} {gS g : Nat} {S : List (Nat × Nat)} (h : Told w gS S) (hg : w.grownBy w' (some g)) (hne : g ≠ gS) : Told w' gS S :=
  ⟨Nat.lt_of_lt_of_le h.1 hg.size, fun k hk => ⟨cell_grown (h.2 k hk).1 hg (by simpa using hne), cell_grown (h.2 k hk).2 hg (by simpa using hne)⟩⟩
theorem Told.ext {w w' : World} {gS : Nat} {S : List (Nat × Nat)} (h : Told w gS S) (hx : Ext w w') : Told w' gS S :=
  ⟨Nat.lt_of_lt_of_le h.1 hx.size, fun k hk => ⟨cell_grown (row := none) (h.2 k hk).1 (grown_of_ext hx) (by simp), cell_grown (row := none) (h.2 k hk).2 (grown_of_ext hx) (by simp)⟩⟩
theorem told_of {w : World} {b e : Nat} {v : Value} (S : List (Nat × Nat)) (h : w.ownsRow b e 2 v S.length (spc S)) (hn : 0 < S.length) : ∃ gS cap, v = .slice (some ⟨gS, 0, none⟩) S.length cap ∧ b ≤ gS ∧ S.length ≤ cap ∧ cap ≤ maxLen ∧ Told w gS S := by
  obtain ⟨gS, cap, rfl, h1, h2, h3, h4⟩ := own_some h hn
  refine ⟨gS, cap, rfl, h1, h3, h4, h2, fun k hk => ?_⟩
  have hat := spc_at S k hk
  rw [List.getD_eq_getElem?_getD, List.getElem?_eq_getElem hk] at hat
  have c := fun j => h.cellAt j
  refine ⟨?_, ?_⟩
  · rw [c (k * 2) (by omega)]; exact hat.1
  · rw [c (k * 2 + 1) (by omega)]; exact hat.2
theorem spell_to (base g cap : Nat) (L L2 : List UInt8) (n : Nat) (hn : n = L.length) (b : UInt8) (x : Int) (hx : x = b.toNat) (h2 : L ++ spl 33 cmarks b = L2) (w : World) (xs : List Value) (hxs : xs = L.map ub) (hown : w.ownsRow base 5 1 (.slice (some ⟨g, 0, none⟩) n cap) n xs) (hL : n ≤ 1000000000) (hb : base ≤ w.heap.size) :
    Calls Tryz.prog 54 #[.slice (some ⟨g, 0, none⟩) n cap, .int .u8 x, .int .u8 33, .string ⟨#[92, 91, 93, 45, 94, 38]⟩] w fun e w' => SplEnd base g w w' e L2 := by
  subst hn hx h2 hxs
  exact spell_any base g cap L b 33 ⟨#[92, 91, 93, 45, 94, 38]⟩ w hown hL hb
set_option maxHeartbeats 2000000 in
set_option maxRecDepth 20000 in
theorem text_any (s : BitVec 256) (w : World) (hT : Tab w) :
    Calls Tryz.prog 26 #[sv s] w fun e w' => e = .returned (.string ⟨(txt s).toArray⟩) ∧ Below w.heap.size w w' := by
  obtain ⟨i0, hi, hz0, hz1, hz2⟩ := info_parts info_u8
  have hSl := spn_len s
  have hSo := spn_ok s
  have hx0 : Ext w ((w.alloc (.cells (svs s) 27)).alloc (.cells #[.int .u8 91] 5)) := by go_grown
  have hso := spans_own s _ (hT.ext hx0)
  have hn1 := own_new1 (w.alloc (.cells (svs s) 27)) (.int .u8 91)
  rw [show (w.alloc (.cells (svs s) 27)).heap.size = w.heap.size + 1 by simp] at hn1
  have hB0 := (Blk.new w (svs s) 27).alloc (.cells #[.int .u8 91] 5)
  have HS := Lib.hid hso
  have HN := Lib.hid hn1
  have HX := Lib.hid hx0
  have HSo := Lib.hid hSo
  obtain ⟨q0, q1, q2, q3⟩ := hB0.cells4
  clear hso hn1 hx0 hB0 hSo hT
  go_enter Tryz.func26, Tryz.ntmps26
  go_wp2_with fail
  refine HS.out.mono ?_
  rintro e w1 ⟨v, rfl, hown, hb1⟩
  have hE := Lib.hid (bel_call HX.out hb1)
  have hO1 := Lib.hid (own_below HN.out hb1 (Nat.le_refl _))
  have hsz1 : w.heap.size + 2 ≤ w1.heap.size := by have := hb1.size; simpa using this
  by_cases h0 : (spn s).length = 0
  · have hnil : spn s = [] := List.length_eq_zero_iff.1 h0
    obtain ⟨ao, cap, rfl⟩ : ∃ ao cap, v = .slice ao 0 cap := by
      rw [hnil] at hown
      obtain ⟨_, ⟨h, _⟩ | ⟨g, cap, cur, h, _⟩⟩ := hown
      · exact ⟨none, 0, h⟩
      · exact ⟨_, cap, h⟩
    have ht : txt s = [91, 93] := by unfold txt txtL; rw [hnil]; rfl
    have HTx := Lib.hid ht
    clear hown hb1 HS h0 hnil ht HN HX
    go_wp2_with fail
    refine wp_loop_rounds 1 ?_
    rw [rounds_succ]
    go_wp2_with (at_builtin; refine wpList_append_own _ rfl (.tmp 37) (.tmp 38) 56 rfl (w.heap.size + 1) 5 i0 (.int .u8 0) 1 1 Tryz.underlying56 hi hz0 hz1 hz2 rfl (by decide) _ _ _ rfl (hO1.out.alloc _) ⟨w1.heap.size, 0, none⟩ 1 1 [_] rfl rfl (cell_one_new _ _ _) (by intro u hu; simp at hu; subst hu; rfl) (by unfold maxLen; omega) (by omega) (by simp; omega) ?_; intro v1 w4 hown1 hgrow1 hnil1; have hcv := own_str (L := [91, 93]) hown1)
    go_ret
    rw [HTx.out]
    exact ⟨rfl, (hE.out.alloc (by omega) _).grown hgrow1 (by simp; omega) (fun j hj => by have := (hO1.out.lt j hj).1; omega)⟩
  · obtain ⟨gS, cS, rfl, hgb, hcS1, hcS2, hTd⟩ := told_of (spn s) hown (by omega)
    have HTd := Lib.hid hTd
    have hgS : w.heap.size + 2 ≤ gS := by simpa using hgb
    clear hown hb1 HS HN HX hgb hTd
    go_wp2_with fail
    go_loopw [3, 10] (fun v i wr => ∃ (k g cap : Nat) (L : List UInt8), k ≤ (spn s).length ∧ i = .int .i64 k ∧ g ≠ gS ∧ v = .slice (some ⟨g, 0, none⟩) L.length cap ∧ Hid (91 :: ((spn s).take k).flatMap sps = L) ∧ Hid (wr.ownsRow (w.heap.size + 1) 5 1 (.slice (some ⟨g, 0, none⟩) L.length cap) L.length (L.map ub)) ∧ Hid (Below w.heap.size w wr) ∧ Hid (Told wr gS (spn s))) (fun _ i _ => (spn s).length - (intOf i).toNat)
    case atStart => exact ⟨0, w.heap.size + 1, 1, [91], Nat.zero_le _, rfl, by omega, rfl, Lib.hid rfl, hO1, hE, HTd⟩
    case round =>
      clear hO1 hE HTd
      obtain ⟨k, g, cap, L, hk, rfl, hgne, rfl, hL, hown, hbel, hTd⟩ := hrel
      have hsz := hbel.out.size
      have hgl := own_lt hown.out
      have hLl : L.length ≤ 100000 := by
        have h1 := flat_le9 ((spn s).take k)
        have h2 := List.length_take_le k (spn s)
        rw [← hL.out, List.length_cons]
        omega
      by_cases hlt : k < (spn s).length
      · obtain ⟨⟨lo, hi'⟩, hp⟩ : ∃ p, (spn s)[k] = p := ⟨_, rfl⟩
        have hpo := HSo.out (spn s)[k] (List.getElem_mem hlt)
        have htk := take_flat2 (spn s) k hlt
        have hcel := hTd.out.2 k hlt
        rw [hp] at hpo htk hcel
        simp only at hpo hcel
        obtain ⟨hlh, hlt'⟩ := hpo
        obtain ⟨e0, e1⟩ := hcel
        have hgw := hTd.out.1
        have HK := Lib.hid htk
        have hlo2 : (UInt8.ofNat lo).toNat = lo := by simp; omega
        have hhi2 : (UInt8.ofNat hi').toNat = hi' := by simp; omega
        have hk5 := Blk.new wr #[nb lo, nb hi'] 110
        have hx5 : Ext wr (wr.alloc (.cells #[nb lo, nb hi'] 110)) := by go_grown
        obtain ⟨L1, hL1⟩ : ∃ L1, L ++ spl 33 cmarks (UInt8.ofNat lo) = L1 := ⟨_, rfl⟩
        have hsp := spell_to (w.heap.size + 1) g cap L L1 _ rfl (UInt8.ofNat lo) lo (by omega) hL1 _ _ rfl (own_below hown.out hx5 (Nat.le_refl _)) (by omega) (by simp; omega)
        have HC := Lib.hid hsp
        have hl4 := spl_le4 33 cmarks (UInt8.ofNat lo)
        have hL1l : L1.length ≤ 100004 := by rw [← hL1, List.length_append]; omega
        have HTd2 := Lib.hid (hTd.out.ext hx5)
        have HB5 := Lib.hid hk5
        have HE5 := Lib.hid (bel_call hbel.out hx5)
        clear hsp htk hp hTd hk5 hx5
        go_wp2_with fail
        refine HC.out.mono ?_
        rintro e w2 ⟨g1, c1, rfl, hown1, hg1, hw1⟩
        have HO1 := Lib.hid hown1
        have hsz2 := hg1.size
        simp at hsz2
        have HT1 := Lib.hid (HTd2.out.grown hg1 hgne)
        have hb5 := HB5.out.grown hg1 (by simp; omega)
        have hg1n : g1 ≠ gS := by rcases hw1 with h | h <;> (try simp at h) <;> omega
        have hg1r : g1 ≠ wr.heap.size := by rcases hw1 with h | h <;> (try simp at h) <;> omega
        have HG1 := Lib.hid (HE5.out.grown hg1 (by simp; omega) (fun j hj => by cases hj; omega))
        have b0 := hb5.cell 0
        have b1 := hb5.cell 1
        have HB6 := Lib.hid hb5
        have hgl1 := own_lt hown1
        clear hown1 hg1 hw1 hb5 HC HTd2 HB5 HE5
        have hL1' := Lib.hid hL1
        clear hL1 hl4
        by_cases ha : hi' = lo
        · subst ha
          have hL2 : 91 :: ((spn s).take (k + 1)).flatMap sps = L1 := by
            rw [HK.out, ← List.cons_append, hL.out, ← hL1'.out]
            simp [sps]
          have HL2 := Lib.hid hL2
          clear hL2 HK hL
          go_wp2_with fail
          go_roundw
          case rel => exact ⟨k + 1, g1, c1, L1, by omega, by go_num, hg1n, rfl, HL2, HO1, HG1, HT1⟩
          case measure => simp [intOf]; omega
        · have hne1 : ((hi' : Int) != lo) = true := by simp; omega
          have hwr : IntKind.u8.wrap ((hi' : Int) - lo) = (hi' : Int) - lo := by rw [IntWalk.u8_in _ (by omega)]
          by_cases hb : hi' = lo + 1
          · have hn1 : ¬ (1 : Int) < (hi' : Int) - lo := by omega
            obtain ⟨L2, hL2⟩ : ∃ L2, L1 ++ spl 33 cmarks (UInt8.ofNat hi') = L2 := ⟨_, rfl⟩
            have hL3 : 91 :: ((spn s).take (k + 1)).flatMap sps = L2 := by
              rw [HK.out, ← List.cons_append, hL.out, ← hL2, ← hL1'.out]
              simp [sps, hb]
            have HL3 := Lib.hid hL3
            have hsp := spell_to (w.heap.size + 1) g1 c1 L1 L2 _ rfl (UInt8.ofNat hi') hi' (by omega) hL2 w2 _ rfl HO1.out (by omega) (by omega)
            have HC := Lib.hid hsp
            have HBB := Lib.hid hb
            clear hL2 hL3 HK hL hsp hb
            go_wp2_with fail
            refine HC.out.mono ?_
            rintro e w3 ⟨g2, c2, rfl, hown2, hg2, hw2⟩
            have HO2 := Lib.hid hown2
            have hgs2 := HT1.out.1
            have hg2n : g2 ≠ gS := by rcases hw2 with h | h <;> omega
            have HT2 := Lib.hid (HT1.out.grown hg2 hg1n)
            have HG2 := Lib.hid (HG1.out.grown hg2 (by omega) (fun j hj => by cases hj; omega))
            clear hown2 hg2 hw2 HC b0 b1 HB6
            go_wp2_with fail
            go_roundw
            case rel => exact ⟨k + 1, g2, c2, L2, by omega, by go_num, hg2n, rfl, HL3, HO2, HG2, HT2⟩
            case measure => simp [intOf]; omega
          · have hn1 : (1 : Int) < (hi' : Int) - lo := by omega
            obtain ⟨L2, hL2⟩ : ∃ L2, (L1 ++ [45]) ++ spl 33 cmarks (UInt8.ofNat hi') = L2 := ⟨_, rfl⟩
            have hL3 : 91 :: ((spn s).take (k + 1)).flatMap sps = L2 := by
              rw [HK.out, ← List.cons_append, hL.out, ← hL2, ← hL1'.out]
              have h3 : hi' > lo + 1 := by omega
              simp [sps, h3, ha]
            have HL3 := Lib.hid hL3
            have HL2 := Lib.hid hL2
            clear hL3 hL2 HK hL
            go_wp2_with (at_builtin; refine wpList_append_where rfl (.tmp 24) (.tmp 25) (w.heap.size + 1) 56 5 i0 (.int .u8 0) 1 1 rfl Tryz.underlying56 hi hz0 hz1 hz2 rfl (by decide) _ _ _ (HO1.out.alloc _) rfl ⟨w2.heap.size, 0, none⟩ 1 1 (by decide) [_] rfl rfl (cell_one_new _ _ _) (by intro u hu; simp at hu; subst hu; rfl) (by unfold maxLen; omega) (by omega) (by simp; omega) ?_; intro g3 c3 w3 hown3 hgrow3 hwh3; (have hb6 := HB6.out.grown (grown_after hgrow3) (fun e => hg1r (Option.some.inj e))); replace b0 := hb6.cell 0; replace b1 := hb6.cell 1; clear hb6)
            have hg3 : w2.grownBy w3 (some g1) := grown_after hgrow3
            have hw3 : g3 = g1 ∨ w2.heap.size ≤ g3 := hwh3.imp (fun e => (Option.some.inj e).symm) (fun h => by simp at h; omega)
            have hgs2 := HT1.out.1
            have hg3n : g3 ≠ gS := by rcases hw3 with h | h <;> omega
            have hsz3 := hg3.size
            have HT3 := Lib.hid (HT1.out.grown hg3 hg1n)
            have HG3 := Lib.hid (HG1.out.grown hg3 (by omega) (fun j hj => by cases hj; omega))
            have hgl3 := own_lt hown3
            have hsp := spell_to (w.heap.size + 1) g3 c3 (L1 ++ [45]) L2 (L1.length + 1) (by simp) (UInt8.ofNat hi') hi' (by omega) HL2.out w3 _ (by simp [ub]) hown3 (by omega) (by omega)
            have HC := Lib.hid hsp
            clear hsp hown3 hgrow3 hwh3 hg3 hw3
            refine HC.out.mono ?_
            rintro e w4 ⟨g4, c4, rfl, hown4, hg4, hw4⟩
            have hgs4 := HT3.out.1
            have hg4n : g4 ≠ gS := by rcases hw4 with h | h <;> omega
            have HO4 := Lib.hid hown4
            have HT4 := Lib.hid (HT3.out.grown hg4 hg3n)
            have HG4 := Lib.hid (HG3.out.grown hg4 (by omega) (fun j hj => by cases hj; omega))
            clear hown4 hg4 hw4 HC b0 b1 HB6
            go_wp2_with fail
            go_roundw
            case rel => exact ⟨k + 1, g4, c4, L2, by omega, by go_num, hg4n, rfl, HL3, HO4, HG4, HT4⟩
            case measure => simp [intOf]; omega
      · obtain rfl : k = (spn s).length := by omega
        have ht : txt s = L ++ [93] := by
          unfold txt txtL
          rw [← hL.out, List.take_length]
          rfl
        have HTx := Lib.hid ht
        have HO := hown
        clear ht hL hown hTd
        go_wp2_with (at_builtin; refine wpList_append_own _ rfl (.tmp 37) (.tmp 38) 56 rfl (w.heap.size + 1) 5 i0 (.int .u8 0) 1 1 Tryz.underlying56 hi hz0 hz1 hz2 rfl (by decide) _ _ _ rfl (HO.out.alloc _) ⟨wr.heap.size, 0, none⟩ 1 1 [_] rfl rfl (cell_one_new _ _ _) (by intro u hu; simp at hu; subst hu; rfl) (by unfold maxLen; omega) (by omega) (by simp; omega) ?_; intro v1 w4 hown1 hgrow1 hnil1; have hcv := own_str (L := L ++ [93]) (by rw [List.length_append, List.map_append]; exact hown1))
        go_ret
        rw [HTx.out]
        exact ⟨rfl, (hbel.out.alloc hsz _).grown hgrow1 (by simp; omega) (fun j hj => by have := (HO.out.lt j hj).1; omega)⟩
end Go.Proofs.YtecjodcaeldidaaGreatDoor
namespace Go.Proofs.YtecjodcaeldidaaGreatDoor
open Go Go.RowKit
abbrev wkText : ByteArray := ⟨#[120, 91, 97, 45, 99, 45, 45, 91, 98, 93, 93, 121]⟩
theorem wk_parse : prs wkText 1 = .inr (ofl [97, 99], 11) := by decide +kernel
theorem wk_text : txt (ofl [97, 99]) = [91, 97, 99, 93] := by decide +kernel
theorem wk_quote : qot [97, 10] = [34, 97, 92, 110, 34] := by decide +kernel
theorem of_is (v : Value) (l : List UInt8) (s : BitVec 256) (w : World) (hv : Bytes w v l) (h : ofl l = s) :
    Calls Tryz.prog 25 #[v] w fun e w' => e = .returned (sv s) ∧ Below w.heap.size w w' := by subst h; exact of_any v l w hv
theorem same_set (s : BitVec 256) : ∀ w, (Op.equalIn 10000 27 (sv s) (sv s)).run Tryz.prog w = .ok true w := fun w => by rw [set_eq]; simp
def RsB (k : Nat) (l : List UInt8) : Nat → Option (Value → World → Prop) := fun j => if j = k then some (fun v w => Bytes w v l) else none
theorem RsB_mono (k : Nat) (l : List UInt8) : G.RsMono Ext (RsB k l) := by
  intro j R h
  unfold RsB at h
  split at h
  · cases h; exact fun v w w' hx hR => Bytes.ext hR hx
  · cases h
theorem parse_is (s : ByteArray) (a : Int) (es ed : Addr) (hs : s.size ≤ 4294967000) (w : World) (hK : Kn w es ed) (S : BitVec 256) (m : Nat) (hx : prs s a = .inr (S, m)) :
    Calls Tryz.prog 8 #[.string s, .int .i64 a] w fun e w' => e = .returned (.tuple #[sv S, .int .i64 m, .nilIface]) ∧ Ext w w' := parse_any s a es ed hs w hK _ hx
theorem text_is (s : BitVec 256) (l : ByteArray) (h : txt s = l.data.toList) (w : World) (hT : Tab w) :
    Calls Tryz.prog 26 #[sv s] w fun e w' => e = .returned (.string l) ∧ Below w.heap.size w w' := by
  have h1 := text_any s w hT
  rw [h] at h1
  exact h1
theorem quote_is (s l : ByteArray) (hs : s.size ≤ 100000000) (h : qot s.data.toList = l.data.toList) (w : World) :
    Calls Tryz.prog 27 #[.string s] w fun e w' => e = .returned (.string l) ∧ Below w.heap.size w w' := by
  have h1 := quote_any s hs w
  rw [h] at h1
  exact h1
set_option maxHeartbeats 2000000 in
set_option maxRecDepth 20000 in
theorem wakes_any (es ed : Addr) (w : World) (hT : Tab w) (hK : Kn w es ed) :
    Calls Tryz.prog 11 #[] w fun e w' => e = .returned (.bool true) ∧ Below w.heap.size w w' := by
  have hp := wk_parse
  have ht := wk_text
  obtain ⟨S, hS⟩ : ∃ S, ofl [97, 99] = S := ⟨_, rfl⟩
  rw [hS] at hp ht
  have hpa := parse_is wkText 1 es ed (by decide) w hK S 11 hp
  have HT := Lib.hid (And.intro ht hS)
  have HTab := Lib.hid hT
  have hss := same_set S
  have q1 : ((ByteArray.mk #[91, 97, 99, 93]).toList == [91, 97, 99, 93]) = true := by rw [str_eq]; rfl
  have q2 : ((ByteArray.mk #[34, 97, 92, 110, 34]).toList == [34, 97, 92, 110, 34]) = true := by rw [str_eq]; rfl
  clear hp ht hS hT hK
  go_enter Tryz.func11, Tryz.ntmps11
  go_wp2_with fail
  refine hpa.mono ?_
  rintro e w1 ⟨rfl, hE⟩
  have HE := Lib.hid hE
  have HT1 := Lib.hid (HTab.out.ext hE)
  have HB := Lib.hid (Blk.new w1 (svs S) 27)
  clear hE hpa
  go_wp2_with fail
  have hx0 : Ext w1 (w1.alloc (.cells (svs S) 27)) := by go_grown
  have HX := Lib.hid hx0
  clear hx0
  generalize w1.alloc (.cells (svs S) 27) = w2 at *
  refine G.wp_region_stab (G := Ext) (RsB 8 [97, 99]) (by kernel_rfl) (by kernel_rfl) (RsB_mono _ _) (fun hex => ?_)
  iterate 8
    (refine G.wpS_one (A := ?_) hex rfl rfl (by simp) ?_ ?_ ?_
     rotate_left 2
     · intro w' hC K hK
       obtain ⟨z0, z1, z2, z3⟩ := (HB.out.ext hC.1).cells4
       go_wp2_with (fail)
       refine hK _ ?_
       first | exact Below.refl _ _ | assumption | ((repeat' (first | (with_reducible exact Below.refl _ _) | (with_reducible assumption) | (with_reducible refine below_drewN ?_ _) | (with_reducible refine Below.alloc ?_ ?_ _) | (with_reducible refine Below.drew ?_) | (with_reducible refine Below.setCell ?_ ?_ _) | (with_reducible refine Below.trans ?_ (Below.mono (by with_reducible assumption) ?_)) | go_size)))
     rotate_left 1
     · rfl
     clear hex; intro hex)
  refine G.wpS_rel (fun v w => Bytes w v [97, 99]) rfl rfl (by simp) (by first | rfl | (simp [Region.wanted, yielded]; done)) ?_ ?_
  · intro w' hC K hK
    simp only [Act.put, List.setIfInBounds_toArray, List.set_cons_succ, List.set_cons_zero] at hK
    go_wp2_with (fail)
    refine hK _ _ ?_ ?_
    · first | exact Below.refl _ _ | assumption | ((repeat' (first | (with_reducible exact Below.refl _ _) | (with_reducible assumption) | (with_reducible refine below_drewN ?_ _) | (with_reducible refine Below.alloc ?_ ?_ _) | (with_reducible refine Below.drew ?_) | (with_reducible refine Below.setCell ?_ ?_ _) | (with_reducible refine Below.trans ?_ (Below.mono (by with_reducible assumption) ?_)) | go_size)))
    · exact bytes_of_blk [97, 99] (Blk.new _ _ _) (by decide)
  clear hex
  intro v1 w' hex hv1
  replace hex := Exists.intro w' hex
  simp only [Act.put, List.setIfInBounds_toArray, List.set_cons_succ, List.set_cons_zero]
  refine G.wpS_one (A := ?_) hex rfl rfl (by simp) ?_ ?_ ?_
  rotate_left 2
  · intro w' hC K hK
    have hb := (hC.2 8 (by simp [Region.binds])).1 rfl
    go_wp2_with (refine (of_is v1 [97, 99] S _ hb HT.out.2).mono ?_; rintro e w3 ⟨rfl, hE3⟩)
    refine hK _ ?_
    first | exact Below.refl _ _ | assumption | ((repeat' (first | (with_reducible exact Below.refl _ _) | (with_reducible assumption) | (with_reducible refine below_drewN ?_ _) | (with_reducible refine Below.alloc ?_ ?_ _) | (with_reducible refine Below.drew ?_) | (with_reducible refine Below.setCell ?_ ?_ _) | (with_reducible refine Below.trans ?_ (Below.mono (by with_reducible assumption) ?_)) | go_size)))
  rotate_left 1
  · rfl
  clear hex; intro hex
  clear hv1
  iterate 4
    (refine G.wpS_one (A := ?_) hex rfl rfl (by simp) ?_ ?_ ?_
     rotate_left 2
     · intro w' hC K hK
       obtain ⟨z0, z1, z2, z3⟩ := (HB.out.ext hC.1).cells4
       go_wp2_with (fail)
       refine hK _ ?_
       first | exact Below.refl _ _ | assumption | ((repeat' (first | (with_reducible exact Below.refl _ _) | (with_reducible assumption) | (with_reducible refine below_drewN ?_ _) | (with_reducible refine Below.alloc ?_ ?_ _) | (with_reducible refine Below.drew ?_) | (with_reducible refine Below.setCell ?_ ?_ _) | (with_reducible refine Below.trans ?_ (Below.mono (by with_reducible assumption) ?_)) | go_size)))
     rotate_left 1
     · rfl
     clear hex; intro hex)
  refine G.wpS_one (A := ?_) hex rfl rfl (by simp) ?_ ?_ ?_
  rotate_left 2
  · intro w' hC K hK
    go_wp2_with (refine (text_is S ⟨#[91, 97, 99, 93]⟩ HT.out.1 _ ((HT1.out.ext HX.out).ext hC.1)).mono ?_; rintro e w3 ⟨rfl, hE3⟩)
    refine hK _ ?_
    first | exact Below.refl _ _ | assumption | ((repeat' (first | (with_reducible exact Below.refl _ _) | (with_reducible assumption) | (with_reducible refine below_drewN ?_ _) | (with_reducible refine Below.alloc ?_ ?_ _) | (with_reducible refine Below.drew ?_) | (with_reducible refine Below.setCell ?_ ?_ _) | (with_reducible refine Below.trans ?_ (Below.mono (by with_reducible assumption) ?_)) | go_size)))
  rotate_left 1
  · rfl
  clear hex; intro hex
  iterate 3
    (refine G.wpS_one (A := ?_) hex rfl rfl (by simp) ?_ ?_ ?_
     rotate_left 2
     · intro w' hC K hK
       go_wp2_with (fail)
       refine hK _ ?_
       first | exact Below.refl _ _ | assumption | ((repeat' (first | (with_reducible exact Below.refl _ _) | (with_reducible assumption) | (with_reducible refine below_drewN ?_ _) | (with_reducible refine Below.alloc ?_ ?_ _) | (with_reducible refine Below.drew ?_) | (with_reducible refine Below.setCell ?_ ?_ _) | (with_reducible refine Below.trans ?_ (Below.mono (by with_reducible assumption) ?_)) | go_size)))
     rotate_left 1
     · rfl
     clear hex; intro hex)
  refine G.wpS_one (A := ?_) hex rfl rfl (by simp) ?_ ?_ ?_
  rotate_left 2
  · intro w' hC K hK
    go_wp2_with (refine (quote_is ⟨#[97, 10]⟩ ⟨#[34, 97, 92, 110, 34]⟩ (by decide) wk_quote _).mono ?_; rintro e w3 ⟨rfl, hE3⟩)
    refine hK _ ?_
    first | exact Below.refl _ _ | assumption | ((repeat' (first | (with_reducible exact Below.refl _ _) | (with_reducible assumption) | (with_reducible refine below_drewN ?_ _) | (with_reducible refine Below.alloc ?_ ?_ _) | (with_reducible refine Below.drew ?_) | (with_reducible refine Below.setCell ?_ ?_ _) | (with_reducible refine Below.trans ?_ (Below.mono (by with_reducible assumption) ?_)) | go_size)))
  rotate_left 1
  · rfl
  clear hex; intro hex
  iterate 3
    (refine G.wpS_one (A := ?_) hex rfl rfl (by simp) ?_ ?_ ?_
     rotate_left 2
     · intro w' hC K hK
       go_wp2_with (fail)
       refine hK _ ?_
       first | exact Below.refl _ _ | assumption | ((repeat' (first | (with_reducible exact Below.refl _ _) | (with_reducible assumption) | (with_reducible refine below_drewN ?_ _) | (with_reducible refine Below.alloc ?_ ?_ _) | (with_reducible refine Below.drew ?_) | (with_reducible refine Below.setCell ?_ ?_ _) | (with_reducible refine Below.trans ?_ (Below.mono (by with_reducible assumption) ?_)) | go_size)))
     rotate_left 1
     · rfl
     clear hex; intro hex)
  refine G.wpS_nil fun w4 hAll => ?_
  have HG := Lib.hid (bel_call (bel_call HE.out HX.out) hAll.1)
  clear hAll hex
  go_wp2_with fail
  go_ret
  exact ⟨rfl, HG.out⟩
end Go.Proofs.YtecjodcaeldidaaGreatDoor
namespace Go.Proofs.YtecjodcaeldidaaGreatDoor
open Go Go.ChangeShapes Go.WideShapes Go.ChangeAt Go.RowKit
set_option maxRecDepth 100000 in
/-- An error that stands in its variable. -/
theorem laid_str {W : World} {laid : List (String × DataW Unit)} (h : laidMet Tryz.prog laid W) (n : String) (d : List UInt8) (hmem : (n, .iface "*errors.errorString" (.ptr (.agg [.lit (.string d)]))) ∈ laid) (g : Nat) (hg : Tryz.prog.globalNamed n = some g) (ht : (Tryz.prog.globals[g]?).map (·.type) = some 29) :
    ∃ a : Addr, W.cell? ⟨g, 0, none⟩ = some (strAt a) ∧ a.block < W.heap.size := by
  obtain ⟨ps, hv, _, hrows⟩ := h
  obtain ⟨g', t, cs, fuel, p, h1, h2, h3, h4, h5⟩ := laid_pick hv hmem
  obtain rfl := Option.some.inj (hg.symm.trans h1)
  obtain rfl := Option.some.inj (ht.symm.trans h2)
  obtain ⟨l⟩ := cs
  have ok : ∀ u v, l = [.iface u v] → Value.okWide Tryz.prog W .any 0 u v := fun u v e => by
    subst e
    exact (hrows g 0 (h5 _ (by simp [MemPlace.row]))).2 u v (by simpa using World.var?_cell h1 h3 0)
  obtain ⟨a, s, hl, hc, hs, _, hp⟩ := errorString_of_trod Tryz.underlying29 row_err Tryz.underlying210 Tryz.underlying212 rfl rfl Tryz.underlying9 (by kernel_rfl) (by kernel_rfl) h4 ok
  replace hl : l = [.iface 210 (.pointer (some a))] := hl
  subst hl
  exact ⟨a, by simpa using World.var?_cell h1 h3 0, World.block_lt_of_cell? W a hc⟩
theorem gTab : Tryz.prog.globalNamed "math/bits.deBruijn64tab" = some 17 := by kernel_rfl
theorem tTab : (Tryz.prog.globals[17]?).map (·.type) = some 186 := by kernel_rfl
theorem tab_data : (Rows.laid_math_bits_deBruijn64tab : DataW Unit) = Lib.tabData .u8 (Lib.deBruijn64tab.map Int.ofNat) := by kernel_rfl
theorem laid_tab {W : World} {laid : List (String × DataW Unit)} (h : laidMet Tryz.prog laid W) (hmem : ("math/bits.deBruijn64tab", (Rows.laid_math_bits_deBruijn64tab : DataW Unit)) ∈ laid) : Tab W := by
  obtain ⟨ps, hv, _, hrows⟩ := h
  obtain ⟨g0, t0, cs0, f0, p0, hg0, ht0, hv0, hd0, _⟩ := laid_pick hv hmem
  obtain rfl := Option.some.inj (gTab.symm.trans hg0)
  obtain rfl := Option.some.inj (tTab.symm.trans ht0)
  rw [tab_data] at hd0
  have hcs := Lib.cells_of_tab Tryz.underlying186 Tryz.underlying5 (by kernel_rfl) (by kernel_rfl) hd0
  have hcell : ∀ j, W.cell? ⟨17, j, none⟩ = cs0[j]? := fun j => World.var?_cell hg0 hv0 j
  have hall : ∀ j, j < 64 → W.cell? ⟨17, j, none⟩ = some (.int .u8 (Lib.deBruijn64tab.getD j 0 : Nat)) := by
    intro j hj
    rw [hcell, ← Array.getElem?_toList, hcs, List.map_map, List.getElem?_map]
    have hl : j < Lib.deBruijn64tab.length := hj
    rw [List.getElem?_eq_getElem hl, List.getD_eq_getElem?_getD, List.getElem?_eq_getElem hl]
    rfl
  refine ⟨?_, hall⟩
  exact World.block_lt_of_cell? W ⟨17, 0, none⟩ (hall 0 (by omega))
theorem ml_of_shaped {W : World} (h : W.ShapedOpen Tryz.prog) : ∃ m, W.cell? ⟨18, 0, none⟩ = some (.int .i64 m) :=
  cell_of_shapedOpen_int (t := 3) (zero := #[.int .i64 0]) h (of_decide_eq_true (by kernel_rfl)) (by kernel_rfl) rfl (by kernel_rfl) (by kernel_rfl) Tryz.underlying3
theorem gS1 : Tryz.prog.globalNamed "bolter/fault.ErrSyntax" = some 2 := by kernel_rfl
theorem gS2 : Tryz.prog.globalNamed "bolter/fault.ErrDeep" = some 1 := by kernel_rfl
theorem gS3 : Tryz.prog.globalNamed "strconv.ErrSyntax" = some 19 := by kernel_rfl
theorem tS1 : (Tryz.prog.globals[2]?).map (·.type) = some 29 := by kernel_rfl
theorem tS2 : (Tryz.prog.globals[1]?).map (·.type) = some 29 := by kernel_rfl
theorem tS3 : (Tryz.prog.globals[19]?).map (·.type) = some 29 := by kernel_rfl
/-- What every walk of the statements leans on. -/
theorem known_of {W : World} {laid : List (String × DataW Unit)} (h : laidMet Tryz.prog laid W) (hs : W.ShapedOpen Tryz.prog)
    (m1 : ("bolter/fault.ErrSyntax", (Rows.laid_bolter_fault_ErrSyntax : DataW Unit)) ∈ laid) (m2 : ("bolter/fault.ErrDeep", (Rows.laid_bolter_fault_ErrDeep : DataW Unit)) ∈ laid) (m3 : ("strconv.ErrSyntax", (Rows.laid_strconv_ErrSyntax : DataW Unit)) ∈ laid) :
    ∃ es ed, Kn W es ed := by
  obtain ⟨es, h1, l1⟩ := laid_str h _ _ m1 _ gS1 tS1
  obtain ⟨ed, h2, l2⟩ := laid_str h _ _ m2 _ gS2 tS2
  obtain ⟨ev, h3, _⟩ := laid_str h _ _ m3 _ gS3 tS3
  exact ⟨es, ed, h1, h2, ⟨_, _, h3⟩, ml_of_shaped hs, l1, l2⟩
end Go.Proofs.YtecjodcaeldidaaGreatDoor
namespace Go.Proofs.YtecjodcaeldidaaGreatDoor
open Go Go.RowKit
def prL (l : List UInt8) : Sum (Bool × Nat) (BitVec 256 × Nat) := cls unq (l.length + 1) 0 l 0
theorem prs_zero (s : ByteArray) : prs s 0 = prL s.data.toList := by
  have h : pos s 0 = 0 := by
    unfold pos
    split
    · omega
    · rfl
  unfold prs prL
  rw [h]
  rfl
theorem data_append (a b : ByteArray) : (a ++ b).data.toList = a.data.toList ++ b.data.toList := by
  rw [ByteArray.data_append, Array.toList_append]
/-- A set's spans, as they are spelt. -/
def inr (s : BitVec 256) : List UInt8 := (spn s).flatMap sps
theorem txt_inr (s : BitVec 256) : txt s = 91 :: (inr s ++ [93]) := rfl
theorem prL_not (a : BitVec 256) : ∃ m, prL (91 :: 94 :: (inr a ++ [93])) = .inr (~~~a, m) ∧ 0 < m := by
  have h := cls_hat (spn a) (spn_ok a) [93] (stp_end []) ((91 :: 94 :: (inr a ++ [93])).length - 1 + 1) 0 0 (by omega)
  rw [tls_end, unl_spn] at h
  have e : (91 :: 94 :: (inr a ++ [93])).length + 1 = (91 :: 94 :: (inr a ++ [93])).length - 1 + 1 + 1 := by simp only [List.length_cons]; omega
  rw [← e] at h
  exact ⟨_, h, by omega⟩
theorem unl_append (a b : BitVec 256) : unl (spn a ++ spn b) 0#256 = a ||| b := by
  apply BitVec.eq_of_getLsbD_eq
  intro i hi
  have h := unl_bit i (spn a ++ spn b) 0#256 (fun p hp => (List.mem_append.1 hp).elim (spn_ok a p) (spn_ok b p))
  have ha := unl_bit i (spn a) 0#256 (spn_ok a)
  have hb := unl_bit i (spn b) 0#256 (spn_ok b)
  rw [unl_spn] at ha hb
  rw [Bool.eq_iff_iff, h, BitVec.getLsbD_or, Bool.or_eq_true, ha, hb]
  simp only [BitVec.getLsbD_zero, Bool.false_eq_true, false_or, List.mem_append]
  constructor
  · rintro ⟨p, hp | hp, h⟩
    · exact .inl ⟨p, hp, h⟩
    · exact .inr ⟨p, hp, h⟩
  · rintro (⟨p, hp, h⟩ | ⟨p, hp, h⟩)
    · exact ⟨p, .inl hp, h⟩
    · exact ⟨p, .inr hp, h⟩
theorem prL_two (a b : BitVec 256) : ∃ m, prL (91 :: (inr a ++ (inr b ++ [93]))) = .inr (a ||| b, m) ∧ 0 < m := by
  have h := cls_sps (spn a ++ spn b) (fun p hp => (List.mem_append.1 hp).elim (spn_ok a p) (spn_ok b p)) [93] (stp_end []) ((91 :: (inr a ++ (inr b ++ [93]))).length - 1 + 1) 0 0 (by omega)
  rw [tls_end, unl_append, List.flatMap_append, List.append_assoc] at h
  have e : (91 :: (inr a ++ (inr b ++ [93]))).length + 1 = (91 :: (inr a ++ (inr b ++ [93]))).length - 1 + 1 + 1 := by simp only [List.length_cons]; omega
  rw [← e] at h
  exact ⟨_, h, by omega⟩
theorem and_full (x : BitVec 256) : x &&& ~~~0#256 = x := by
  apply BitVec.eq_of_getLsbD_eq
  intro i hi
  rw [BitVec.getLsbD_and, BitVec.getLsbD_not]
  simp [hi]
theorem txt_zero : txt 0#256 = [91, 93] := by decide +kernel
theorem prL_all (a b c : BitVec 256) : ∃ m, prL (91 :: (inr a ++ (45 :: 45 :: (txt b ++ (38 :: 38 :: (txt c ++ (45 :: 45 :: ([91, 93] ++ [93])))))))) = .inr ((a &&& ~~~b) &&& c, m) ∧ 0 < m := by
  obtain ⟨n, hn⟩ : ∃ n, (91 :: (inr a ++ (45 :: 45 :: (txt b ++ (38 :: 38 :: (txt c ++ (45 :: 45 :: ([91, 93] ++ [93])))))))).length + 1 = n + 2 + 1 + 1 + 1 + 1 + 1 := by
    refine ⟨(91 :: (inr a ++ (45 :: 45 :: (txt b ++ (38 :: 38 :: (txt c ++ (45 :: 45 :: ([91, 93] ++ [93])))))))).length - 6, ?_⟩
    simp only [List.length_cons, List.length_append, List.length_nil]
    omega
  have h := cls_sps (spn a) (spn_ok a) (45 :: 45 :: (txt b ++ (38 :: 38 :: (txt c ++ (45 :: 45 :: ([91, 93] ++ [93])))))) (stp_dash _) (n + 2 + 1 + 1 + 1 + 1) 0 0 (by omega)
  rw [tls_dash _ _ _ b (txt b) _ _ (cls_set b _ _ _ _ (by omega)), tls_amp _ _ _ c (txt c) _ _ (cls_set c _ _ _ _ (by omega)),
    tls_dash _ _ _ 0#256 [91, 93] _ _ (by have := cls_set 0#256 [93] (n + 1) 1 (0 + (1 + ((spn a).flatMap sps).length) + (2 + (txt b).length) + (2 + (txt c).length) + 2) (by omega); rw [txt_zero] at this; exact this), tls_end, unl_spn] at h
  rw [← hn, and_full] at h
  exact ⟨_, h, by omega⟩
theorem prL_none (a b : BitVec 256) : ∃ m, prL (91 :: 94 :: (inr a ++ (38 :: 38 :: ((91 :: 94 :: (inr b ++ [93])) ++ [93])))) = .inr (~~~(a ||| b), m) ∧ 0 < m := by
  obtain ⟨n, hn⟩ : ∃ n, (91 :: 94 :: (inr a ++ (38 :: 38 :: ((91 :: 94 :: (inr b ++ [93])) ++ [93])))).length + 1 = n + 1 + 1 + 1 + 1 := by
    refine ⟨(91 :: 94 :: (inr a ++ (38 :: 38 :: ((91 :: 94 :: (inr b ++ [93])) ++ [93])))).length - 3, ?_⟩
    simp only [List.length_cons, List.length_append, List.length_nil]
    omega
  have h := cls_hat (spn a) (spn_ok a) (38 :: 38 :: ((91 :: 94 :: (inr b ++ [93])) ++ [93])) (stp_amp _) (n + 1 + 1 + 1) 0 0 (by omega)
  have h2 := cls_hat (spn b) (spn_ok b) (93 :: [93]) (stp_end _) (n + 1) 1 (0 + (2 + ((spn a).flatMap sps).length) + 2) (by omega)
  rw [tls_end, unl_spn] at h2
  rw [tls_amp _ _ _ (~~~b) (91 :: 94 :: (inr b ++ [93])) [93] _ (by
    have e : (91 :: 94 :: (inr b ++ [93])) ++ [93] = 91 :: 94 :: (inr b ++ (93 :: [93])) := by simp
    rw [e]
    refine h2.trans ?_
    congr 2
    simp [inr]; omega), tls_end, unl_spn] at h
  rw [← hn, ← BitVec.not_or] at h
  exact ⟨_, h, by omega⟩
theorem parse_of (s : ByteArray) (l : List UInt8) (hl : s.data.toList = l) (hn : l.length ≤ 100000) (S : BitVec 256) (m : Nat) (h : prL l = .inr (S, m)) (es ed : Addr) (w : World) (hK : Kn w es ed) :
    Calls Tryz.prog 8 #[.string s, .int .i64 0] w fun e w' => e = .returned (.tuple #[sv S, .int .i64 m, .nilIface]) ∧ Ext w w' := by
  have hs : s.size = l.length := by rw [← hl, Array.length_toList]; rfl
  exact parse_is s 0 es ed (by omega) w hK S m (by rw [prs_zero, hl]; exact h)
theorem txt_len (s : BitVec 256) : 2 ≤ (txt s).length ∧ (txt s).length ≤ 3000 := by
  have h1 := flat_le9 (spn s)
  have h2 := spn_len s
  rw [txt_inr]
  unfold inr
  simp only [List.length_cons, List.length_append, List.length_nil]
  omega
end Go.Proofs.YtecjodcaeldidaaGreatDoor
namespace Go.Proofs.YtecjodcaeldidaaGreatDoor
open Go Go.ChangeShapes Go.WideShapes Go.ChangeAt Go.RowKit
/-- A list of sets that came in. -/
def SetsIn (w : World) (v : Value) (L : List (BitVec 256)) : Prop :=
  ∃ a cap, v = .slice a L.length cap ∧ L.length ≤ cap ∧ cap ≤ maxLen ∧ (L = [] ∨ ∃ b o, a = some ⟨b, o, none⟩ ∧ b < w.heap.size ∧ ∀ i (h : i < L.length), w.cell? ⟨b, o + i * 4, none⟩ = some (.int .u64 (wd L[i] 0)) ∧ w.cell? ⟨b, o + i * 4 + 1, none⟩ = some (.int .u64 (wd L[i] 1)) ∧ w.cell? ⟨b, o + i * 4 + 2, none⟩ = some (.int .u64 (wd L[i] 2)) ∧ w.cell? ⟨b, o + i * 4 + 3, none⟩ = some (.int .u64 (wd L[i] 3)))
theorem SetsIn.ext {w w' : World} {v : Value} {L : List (BitVec 256)} (h : SetsIn w v L) (hx : Ext w w') : SetsIn w' v L := by
  obtain ⟨a, cap, hv, h1, h2, h⟩ := h
  refine ⟨a, cap, hv, h1, h2, ?_⟩
  rcases h with h | ⟨b, o, ha, hb, h⟩
  · exact .inl h
  · refine .inr ⟨b, o, ha, Nat.lt_of_lt_of_le hb hx.size, fun i hi => ?_⟩
    obtain ⟨c0, c1, c2, c3⟩ := h i hi
    exact ⟨(hx.cell (p := ⟨b, _, none⟩) hb).trans c0, (hx.cell (p := ⟨b, _, none⟩) hb).trans c1, (hx.cell (p := ⟨b, _, none⟩) hb).trans c2, (hx.cell (p := ⟨b, _, none⟩) hb).trans c3⟩
/-- A list of texts that came in. -/
def StrsIn (w : World) (v : Value) (L : List ByteArray) : Prop :=
  ∃ a cap, v = .slice a L.length cap ∧ L.length ≤ cap ∧ cap ≤ maxLen ∧ (L = [] ∨ ∃ b o, a = some ⟨b, o, none⟩ ∧ b < w.heap.size ∧ ∀ i (h : i < L.length), w.cell? ⟨b, o + i, none⟩ = some (.string L[i]))
theorem StrsIn.ext {w w' : World} {v : Value} {L : List ByteArray} (h : StrsIn w v L) (hx : Ext w w') : StrsIn w' v L := by
  obtain ⟨a, cap, hv, h1, h2, h⟩ := h
  refine ⟨a, cap, hv, h1, h2, ?_⟩
  rcases h with h | ⟨b, o, ha, hb, h⟩
  · exact .inl h
  · exact .inr ⟨b, o, ha, Nat.lt_of_lt_of_le hb hx.size, fun i hi => (hx.cell (p := ⟨b, _, none⟩) hb).trans (h i hi)⟩
theorem SetsIn.cells {w : World} {va : Option Addr} {n cap : Nat} {L : List (BitVec 256)} (h : SetsIn w (.slice va n cap) L) {k : Nat} (hk : k < L.length) :
    ∃ b o, va = some ⟨b, o, none⟩ ∧ b < w.heap.size ∧ ∀ i (h : i < L.length), w.cell? ⟨b, o + i * 4, none⟩ = some (.int .u64 (wd L[i] 0)) ∧ w.cell? ⟨b, o + i * 4 + 1, none⟩ = some (.int .u64 (wd L[i] 1)) ∧ w.cell? ⟨b, o + i * 4 + 2, none⟩ = some (.int .u64 (wd L[i] 2)) ∧ w.cell? ⟨b, o + i * 4 + 3, none⟩ = some (.int .u64 (wd L[i] 3)) := by
  obtain ⟨a', c', h1, _, _, h | ⟨b, o, ha, hb, h⟩⟩ := h
  · subst h; exact absurd hk (by simp)
  · cases h1
    exact ⟨b, o, ha, hb, h⟩
theorem StrsIn.cells {w : World} {va : Option Addr} {n cap : Nat} {L : List ByteArray} (h : StrsIn w (.slice va n cap) L) {k : Nat} (hk : k < L.length) :
    ∃ b o, va = some ⟨b, o, none⟩ ∧ b < w.heap.size ∧ ∀ i (h : i < L.length), w.cell? ⟨b, o + i, none⟩ = some (.string L[i]) := by
  obtain ⟨a', c', h1, _, _, h | ⟨b, o, ha, hb, h⟩⟩ := h
  · subst h; exact absurd hk (by simp)
  · cases h1
    exact ⟨b, o, ha, hb, h⟩
theorem addr_add (b off i : Nat) : (⟨b, off, none⟩ : Addr).add i = ⟨b, off + i, none⟩ := by unfold Addr.add; split <;> simp_all
theorem four_of {α : Type} {l : List α} (h : l.length = 4) : ∃ a b c d, l = [a, b, c, d] :=
  match l, h with
  | [a, b, c, d], _ => ⟨a, b, c, d, rfl⟩
section
variable {H : Type} {enc : TypeId × Value → H} {w : World} {base : Nat} {sp : Nat → Bool} {held : Bool}
theorem set_trod {fuel : Nat} {cs : List Value} {y : DataW H × List MemPlace} (h : DataW.trod enc Tryz.prog w base sp held fuel 27 cs = some y) : ∃ s : BitVec 256, cs = [.int .u64 (wd s 0), .int .u64 (wd s 1), .int .u64 (wd s 2), .int .u64 (wd s 3)] ∧ y.2 = [] := by
  obtain ⟨xs, m, rfl, hx, hl, hn, hel⟩ := DataW.trod_array Tryz.underlying27 h
  have c4 : Tryz.prog.cellsOf 27 = 4 := by kernel_rfl
  have c1 : Tryz.prog.cellsOf 25 = 1 := by kernel_rfl
  rw [c4] at hl
  rw [c1] at hel
  obtain ⟨v0, v1, v2, v3, rfl⟩ := four_of hl
  obtain ⟨x0, x1, x2, x3, rfl⟩ := four_of hn
  have e0 := hel 0 (by omega); have e1 := hel 1 (by omega); have e2 := hel 2 (by omega); have e3 := hel 3 (by omega)
  simp only [Nat.zero_mul, Nat.one_mul, List.drop_zero, List.drop_succ_cons, List.take_succ_cons, List.take_zero, List.getElem?_cons_zero, List.getElem?_cons_succ, Nat.reduceMul] at e0 e1 e2 e3
  obtain ⟨n0, f0, g0, w0⟩ := DataW.trod_int Tryz.underlying25 e0
  obtain ⟨n1, f1, g1, w1⟩ := DataW.trod_int Tryz.underlying25 e1
  obtain ⟨n2, f2, g2, w2⟩ := DataW.trod_int Tryz.underlying25 e2
  obtain ⟨n3, f3, g3, w3⟩ := DataW.trod_int Tryz.underlying25 e3
  simp only [List.cons.injEq, and_true] at f0 f1 f2 f3
  subst f0; subst f1; subst f2; subst f3
  have bd : ∀ n : Int, (Lit.int .u64 n).wf = true → 0 ≤ n ∧ n ≤ 18446744073709551615 := fun n h => by
    simp only [Lit.wf, IntKind.min, IntKind.max, IntKind.signed, IntKind.bits, Bool.and_eq_true] at h
    simp at h
    omega
  obtain ⟨s, s0, s1, s2, s3⟩ := wd_make n0 n1 n2 n3 (bd _ w0) (bd _ w1) (bd _ w2) (bd _ w3)
  subst g0; subst g1; subst g2; subst g3
  exact ⟨s, by rw [s0, s1, s2, s3], by rw [hx]; rfl⟩
end
theorem open_strsIn {H : Type} {enc : TypeId × Value → H} {w : World} {k : Nat} {c : Value} {y : DataW H × List MemPlace} (h : DataW.trod enc Tryz.prog w 0 (fun _ => true) true k 32 [c] = some y) : ∃ L, StrsIn w c L := by
  rcases Deep.open_strs Tryz.underlying32 Tryz.underlying9 (by kernel_rfl) h with ⟨hcs, _⟩ | ⟨a, len, cap, m, Sx, hcs, _, hl, hm, hmm, hx, hel⟩
  · simp only [List.cons.injEq, and_true] at hcs
    subst hcs
    exact ⟨[], none, 0, rfl, Nat.le_refl _, by unfold maxLen; omega, .inl rfl⟩
  · simp only [List.cons.injEq, and_true] at hcs
    subst hcs
    have hlm : len ≤ m := by rw [hmm]; split <;> omega
    refine ⟨(List.range len).map Sx, some a, cap, by simp, by simpa using hl, hm, ?_⟩
    by_cases h0 : len = 0
    · subst h0; exact .inl rfl
    · obtain ⟨b, off, spot⟩ := a
      have hspot : spot = none := by simpa [Addr.add] using World.cell?_spot (hel 0 (by omega)).1
      subst hspot
      refine .inr ⟨b, off, rfl, World.block_lt_of_cell? w (⟨b, off, none⟩ : Addr) (by have := (hel 0 (by omega)).1; rw [addr_add] at this; exact this), fun i hi => ?_⟩
      have hi' : i < len := by simpa using hi
      have := (hel i (by omega)).1
      rw [addr_add] at this
      rw [this]
      simp
end Go.Proofs.YtecjodcaeldidaaGreatDoor
namespace Go.Proofs.YtecjodcaeldidaaGreatDoor
open Go Go.RowKit
set_option maxRecDepth 20000 in
theorem outn_in_P (p r : Nat) (w : World) (hp : Blk w p #[.nilIface] 29) :
    Calls Tryz.prog 73 #[.pointer (some ⟨p, 0, none⟩), .pointer (some ⟨r, 0, none⟩)] w fun e w' => e = .returned (.tuple #[]) ∧ Ext w w' := by
  have hpl := hp.lt
  have hE1 : Ext w (w.alloc (.cells #[.pointer none] 78)) := by go_grown
  have hp1 := (hp.ext hE1).cell 0
  have has := as_nil_P (.iface 128 (.pointer (some ⟨w.heap.size, 0, none⟩))) (w.alloc (.cells #[.pointer none] 78))
  go_enter Tryz.func73, Tryz.ntmps73
  go_wp2_with fail
  refine has.mono ?_
  rintro e w9 ⟨rfl, rfl⟩
  go_wp2
  go_end0
  exact ⟨rfl, hE1⟩
set_option maxRecDepth 20000 in
theorem outn_P (w : World) :
    Calls Tryz.prog 32 #[.nilIface] w fun e w' => e = .returned (.pointer none) ∧ Ext w w' := by
  have hmf : ∀ (fn : Fn) (first cap : Array Value) (w : World), (Instr.makeFunc fn first cap).run Tryz.prog w = .ok (.func fn first cap) w := fun _ _ _ _ => rfl
  have hE : Ext w ((w.alloc (.cells #[.nilIface] 29)).alloc (.cells #[.pointer none] 78)) := by go_grown
  have b0 := (Blk.new w #[.nilIface] 29).alloc (.cells #[.pointer none] 78)
  have b1 := Blk.new (w.alloc (.cells #[.nilIface] 29)) #[.pointer none] 78
  have e1 : (w.alloc (.cells #[.nilIface] 29)).heap.size = w.heap.size + 1 := by simp
  rw [e1] at b1
  have hin := outn_in_P w.heap.size (w.heap.size + 1) _ b0
  have hg := grd_of 73 _ _ _ (out_enter_P _ _) hin
  go_enter Tryz.func32, Tryz.ntmps32
  go_wp2_with fail
  refine hg.mono ?_
  rintro e w9 ⟨rfl, hE2⟩
  have c0 := (b1.ext hE2).cell 0
  go_wp2
  go_ret
  exact ⟨rfl, bel_call hE hE2⟩
set_option maxRecDepth 20000 in
theorem outn_in_N (p r : Nat) (w : World) (hp : Blk w p #[.nilIface] 29) :
    Calls Tryz.prog 75 #[.pointer (some ⟨p, 0, none⟩), .pointer (some ⟨r, 0, none⟩)] w fun e w' => e = .returned (.tuple #[]) ∧ Ext w w' := by
  have hpl := hp.lt
  have hE1 : Ext w (w.alloc (.cells #[.pointer none] 84)) := by go_grown
  have hp1 := (hp.ext hE1).cell 0
  have has := as_nil_N (.iface 129 (.pointer (some ⟨w.heap.size, 0, none⟩))) (w.alloc (.cells #[.pointer none] 84))
  go_enter Tryz.func75, Tryz.ntmps75
  go_wp2_with fail
  refine has.mono ?_
  rintro e w9 ⟨rfl, rfl⟩
  go_wp2
  go_end0
  exact ⟨rfl, hE1⟩
set_option maxRecDepth 20000 in
theorem outn_N (w : World) :
    Calls Tryz.prog 33 #[.nilIface] w fun e w' => e = .returned (.pointer none) ∧ Ext w w' := by
  have hmf : ∀ (fn : Fn) (first cap : Array Value) (w : World), (Instr.makeFunc fn first cap).run Tryz.prog w = .ok (.func fn first cap) w := fun _ _ _ _ => rfl
  have hE : Ext w ((w.alloc (.cells #[.nilIface] 29)).alloc (.cells #[.pointer none] 84)) := by go_grown
  have b0 := (Blk.new w #[.nilIface] 29).alloc (.cells #[.pointer none] 84)
  have b1 := Blk.new (w.alloc (.cells #[.nilIface] 29)) #[.pointer none] 84
  have e1 : (w.alloc (.cells #[.nilIface] 29)).heap.size = w.heap.size + 1 := by simp
  rw [e1] at b1
  have hin := outn_in_N w.heap.size (w.heap.size + 1) _ b0
  have hg := grd_of 75 _ _ _ (out_enter_N _ _) hin
  go_enter Tryz.func33, Tryz.ntmps33
  go_wp2_with fail
  refine hg.mono ?_
  rintro e w9 ⟨rfl, hE2⟩
  have c0 := (b1.ext hE2).cell 0
  go_wp2
  go_ret
  exact ⟨rfl, bel_call hE hE2⟩
set_option maxRecDepth 20000 in
theorem outn_in_R (p r : Nat) (w : World) (hp : Blk w p #[.nilIface] 29) :
    Calls Tryz.prog 76 #[.pointer (some ⟨p, 0, none⟩), .pointer (some ⟨r, 0, none⟩)] w fun e w' => e = .returned (.tuple #[]) ∧ Ext w w' := by
  have hpl := hp.lt
  have hE1 : Ext w (w.alloc (.cells #[.pointer none] 89)) := by go_grown
  have hp1 := (hp.ext hE1).cell 0
  have has := as_nil_R (.iface 130 (.pointer (some ⟨w.heap.size, 0, none⟩))) (w.alloc (.cells #[.pointer none] 89))
  go_enter Tryz.func76, Tryz.ntmps76
  go_wp2_with fail
  refine has.mono ?_
  rintro e w9 ⟨rfl, rfl⟩
  go_wp2
  go_end0
  exact ⟨rfl, hE1⟩
set_option maxRecDepth 20000 in
theorem outn_R (w : World) :
    Calls Tryz.prog 35 #[.nilIface] w fun e w' => e = .returned (.pointer none) ∧ Ext w w' := by
  have hmf : ∀ (fn : Fn) (first cap : Array Value) (w : World), (Instr.makeFunc fn first cap).run Tryz.prog w = .ok (.func fn first cap) w := fun _ _ _ _ => rfl
  have hE : Ext w ((w.alloc (.cells #[.nilIface] 29)).alloc (.cells #[.pointer none] 89)) := by go_grown
  have b0 := (Blk.new w #[.nilIface] 29).alloc (.cells #[.pointer none] 89)
  have b1 := Blk.new (w.alloc (.cells #[.nilIface] 29)) #[.pointer none] 89
  have e1 : (w.alloc (.cells #[.nilIface] 29)).heap.size = w.heap.size + 1 := by simp
  rw [e1] at b1
  have hin := outn_in_R w.heap.size (w.heap.size + 1) _ b0
  have hg := grd_of 76 _ _ _ (out_enter_R _ _) hin
  go_enter Tryz.func35, Tryz.ntmps35
  go_wp2_with fail
  refine hg.mono ?_
  rintro e w9 ⟨rfl, hE2⟩
  have c0 := (b1.ext hE2).cell 0
  go_wp2
  go_ret
  exact ⟨rfl, bel_call hE hE2⟩
set_option maxRecDepth 20000 in
theorem outn_in_S (p r : Nat) (w : World) (hp : Blk w p #[.nilIface] 29) :
    Calls Tryz.prog 77 #[.pointer (some ⟨p, 0, none⟩), .pointer (some ⟨r, 0, none⟩)] w fun e w' => e = .returned (.tuple #[]) ∧ Ext w w' := by
  have hpl := hp.lt
  have hE1 : Ext w (w.alloc (.cells #[.pointer none] 93)) := by go_grown
  have hp1 := (hp.ext hE1).cell 0
  have has := as_nil_S (.iface 131 (.pointer (some ⟨w.heap.size, 0, none⟩))) (w.alloc (.cells #[.pointer none] 93))
  go_enter Tryz.func77, Tryz.ntmps77
  go_wp2_with fail
  refine has.mono ?_
  rintro e w9 ⟨rfl, rfl⟩
  go_wp2
  go_end0
  exact ⟨rfl, hE1⟩
set_option maxRecDepth 20000 in
theorem outn_S (w : World) :
    Calls Tryz.prog 36 #[.nilIface] w fun e w' => e = .returned (.pointer none) ∧ Ext w w' := by
  have hmf : ∀ (fn : Fn) (first cap : Array Value) (w : World), (Instr.makeFunc fn first cap).run Tryz.prog w = .ok (.func fn first cap) w := fun _ _ _ _ => rfl
  have hE : Ext w ((w.alloc (.cells #[.nilIface] 29)).alloc (.cells #[.pointer none] 93)) := by go_grown
  have b0 := (Blk.new w #[.nilIface] 29).alloc (.cells #[.pointer none] 93)
  have b1 := Blk.new (w.alloc (.cells #[.nilIface] 29)) #[.pointer none] 93
  have e1 : (w.alloc (.cells #[.nilIface] 29)).heap.size = w.heap.size + 1 := by simp
  rw [e1] at b1
  have hin := outn_in_S w.heap.size (w.heap.size + 1) _ b0
  have hg := grd_of 77 _ _ _ (out_enter_S _ _) hin
  go_enter Tryz.func36, Tryz.ntmps36
  go_wp2_with fail
  refine hg.mono ?_
  rintro e w9 ⟨rfl, hE2⟩
  have c0 := (b1.ext hE2).cell 0
  go_wp2
  go_ret
  exact ⟨rfl, bel_call hE hE2⟩
theorem code_nil (w : World) : Calls Tryz.prog 31 #[.nilIface] w fun e w' => e = .returned (.int .i64 0) ∧ w' = w := by
  go_enter Tryz.func31, Tryz.ntmps31
  go_wp2
  go_ret
  exact ⟨rfl, rfl⟩
set_option maxHeartbeats 2000000 in
set_option maxRecDepth 20000 in
theorem tell_nil (w : World) :
    Calls Tryz.prog 16 #[.nilIface] w fun e w' => ∃ f, e = .returned f ∧ Fault w' f 0 0 0 0 [] ∧ Below w.heap.size w w' := by
  have hE0 : Ext w (w.alloc (.cells #[.int .i64 0, .int .i64 0, .int .i64 0, .int .i64 0, .slice none 0 0] 34)) := by go_grown
  have hcode := code_nil (w.alloc (.cells #[.int .i64 0, .int .i64 0, .int .i64 0, .int .i64 0, .slice none 0 0] 34))
  have kR := Blk.new w #[.int .i64 0, .int .i64 0, .int .i64 0, .int .i64 0, .slice none 0 0] 34
  go_enter Tryz.func16, Tryz.ntmps16
  go_wp2_with fail
  refine hcode.mono ?_
  rintro e w1 ⟨rfl, rfl⟩
  obtain ⟨w1, hw1⟩ : ∃ w1, w.alloc (.cells #[.int .i64 0, .int .i64 0, .int .i64 0, .int .i64 0, .slice none 0 0] 34) = w1 := ⟨_, rfl⟩
  rw [hw1] at hE0 kR ⊢
  have hw1s : w.heap.size < w1.heap.size := kR.lt
  clear hcode hw1
  have kF := Blk.new w1 #[.int .i64 0, .int .i64 0, .int .i64 0, .int .i64 0, .slice none 0 0] 34
  replace kR := kR.alloc (.cells #[.int .i64 0, .int .i64 0, .int .i64 0, .int .i64 0, .slice none 0 0] 34)
  have hx := bel_alloc hE0 (Below.refl _ _) (.cells #[.int .i64 0, .int .i64 0, .int .i64 0, .int .i64 0, .slice none 0 0] 34)
  go_wp2_with fail
  refine (outn_P _).mono ?_
  rintro e w2 ⟨rfl, hE⟩
  replace hx := bel_call hx hE
  replace kF := kF.ext hE
  replace kR := kR.ext hE
  clear hE
  go_wp2_with fail
  refine (outn_N _).mono ?_
  rintro e w3 ⟨rfl, hE⟩
  replace hx := bel_call hx hE
  replace kF := kF.ext hE
  replace kR := kR.ext hE
  clear hE
  go_wp2_with fail
  refine (outn_R _).mono ?_
  rintro e w4 ⟨rfl, hE⟩
  replace hx := bel_call hx hE
  replace kF := kF.ext hE
  replace kR := kR.ext hE
  clear hE
  go_wp2_with fail
  refine (outn_S _).mono ?_
  rintro e w5 ⟨rfl, hE⟩
  replace hx := bel_call hx hE
  replace kF := kF.ext hE
  replace kR := kR.ext hE
  clear hE
  obtain ⟨p0, p1, p2, p3, p4⟩ := kF.cells5
  obtain ⟨q0, q1, q2, q3, q4⟩ := kR.cells5
  have f0 := kR.free 0
  have f1 := kR.free 1
  have f2 := kR.free 2
  have f3 := kR.free 3
  have f4 := kR.free 4
  have hlt := kR.lt
  have kZ := ((((kR.set 0 (.int .i64 0)).set 1 (.int .i64 0)).set 2 (.int .i64 0)).set 3 (.int .i64 0)).set 4 (.slice none 0 0)
  obtain ⟨z0, z1, z2, z3, z4⟩ := kZ.cells5
  clear kF kR
  go_wp2
  refine bodyPost_ret (v := .agg #[.int .i64 0, .int .i64 0, .int .i64 0, .int .i64 0, .slice none 0 0]) ?_ rfl ⟨_, rfl, ⟨_, rfl, Texts.nil _⟩, by (repeat' (first | (with_reducible exact Below.refl _ _) | (with_reducible assumption) | (with_reducible refine below_drewN ?_ _) | (with_reducible refine Below.alloc ?_ ?_ _) | (with_reducible refine Below.drew ?_) | (with_reducible refine Below.setCell ?_ ?_ _) | (with_reducible refine Below.trans ?_ (Below.mono (by with_reducible assumption) ?_)) | go_size))⟩
  simp [results, Tryz.results16, go_sem, z0, z1, z2, z3, z4]
end Go.Proofs.YtecjodcaeldidaaGreatDoor
namespace Go.Proofs.YtecjodcaeldidaaGreatDoor
open Go Go.ChangeShapes Go.WideShapes Go.ChangeAt Go.RowKit
structure Kg (w : World) (ea : Nat → Addr) : Prop where
  sent : Sent w ea
  errT : ErrT w
  kn : Kn w (ea 1) (ea 2)
  tab : Tab w
theorem Kg.ext {w w' : World} {ea : Nat → Addr} (h : Kg w ea) (hx : Ext w w') : Kg w' ea := ⟨h.sent.ext hx, h.errT.ext hx, h.kn.ext hx, h.tab.ext hx⟩
theorem code_sent {w : World} {ea : Nat → Addr} (h : Sent w ea) : ∀ f k j, f + k = 16 → j < 16 → k ≤ j → codeAt ea (ea j) f k = (j : Int) + 2
  | 0, k, j, hf, hj, hk => by omega
  | f + 1, k, j, hf, hj, hk => by
    unfold codeAt
    by_cases e : ea j = ea k
    · rw [if_pos e]
      have := h.inj j k hj (by omega) e
      omega
    · rw [if_neg e]
      have : k ≠ j := fun e2 => e (by rw [e2])
      exact code_sent h f (k + 1) j (by omega) hj (by omega)
/-- An error as data: none; or which of the sixteen, at what place. -/
def Er (w : World) (ea : Nat → Addr) (v : Value) : Option (Nat × Int) → Prop
  | none => v = .nilIface
  | some (j, q) => j < 16 ∧ ErrOf w [.place q] v (ea j)
theorem Er.ext {w w' : World} {ea : Nat → Addr} {v : Value} {d : Option (Nat × Int)} (h : Er w ea v d) (hx : Ext w w') : Er w' ea v d := by
  cases d with
  | none => exact h
  | some x => exact ⟨h.1, h.2.ext hx⟩
theorem Er.iface {w : World} {ea : Nat → Addr} {v : Value} {x : Nat × Int} (h : Er w ea v (some x)) : ∃ T x, v = .iface T x := ErrOf.iface h.2
/-- What it tells. -/
def erC : Option (Nat × Int) → Int
  | none => 0
  | some (j, _) => (j : Int) + 2
def erA : Option (Nat × Int) → Int
  | none => 0
  | some (_, q) => q
theorem tell_er (ea : Nat → Addr) (v : Value) (d : Option (Nat × Int)) (w : World) (hK : Kg w ea) (h : Er w ea v d) :
    Calls Tryz.prog 16 #[v] w fun e w' => ∃ f, e = .returned f ∧ Fault w' f (erC d) 0 0 (erA d) [] ∧ Below w.heap.size w w' := by
  cases d with
  | none => obtain rfl : v = .nilIface := h; exact tell_nil w
  | some x =>
    obtain ⟨j, q⟩ := x
    obtain ⟨hj, h⟩ := h
    have ht := tell_err ea (ea j) [.place q] v w hK.sent hK.errT h
    rw [code_sent hK.sent 16 0 j rfl hj (Nat.zero_le _)] at ht
    exact ht
theorem er_placed {w : World} {ea : Nat → Addr} {v : Value} {j : Nat} {q : Int} (hK : Sent w ea) (hj : j < 16) (h : Placed w v (ea j) q) : Er w ea v (some (j, q)) := by
  obtain ⟨p, t, rfl, hb, hlp⟩ := h
  exact ⟨hj, [(78, .int .i64 q)], ⟨p, strAt (ea j), t, by simp [wt], rfl, hb, hlp, rfl⟩, ⟨rfl, rfl, trivial⟩, hb.lt, hK.row j hj⟩
/-- What Parse tells, in parts. -/
def pS : Sum (Bool × Nat) (BitVec 256 × Nat) → BitVec 256
  | .inl _ => 0#256
  | .inr (S, _) => S
def pN : Sum (Bool × Nat) (BitVec 256 × Nat) → Int
  | .inl _ => 0
  | .inr (_, m) => (m : Int)
def pE : Sum (Bool × Nat) (BitVec 256 × Nat) → Option (Nat × Int)
  | .inl (b, q) => some (if b = true then 2 else 1, (q : Int))
  | .inr _ => none
theorem parse_er (ea : Nat → Addr) (s : ByteArray) (a : Int) (hs : s.size ≤ 4294967000) (w : World) (hK : Kg w ea) (x : Sum (Bool × Nat) (BitVec 256 × Nat)) (hx : prs s a = x) :
    Calls Tryz.prog 8 #[.string s, .int .i64 a] w fun e w' => ∃ v, e = .returned (.tuple #[sv (pS x), .int .i64 (pN x), v]) ∧ Er w' ea v (pE x) ∧ Ext w w' := by
  refine (parse_any s a (ea 1) (ea 2) hs w hK.kn x hx).mono ?_
  rintro e w' h
  cases x with
  | inl x =>
    obtain ⟨b, q⟩ := x
    obtain ⟨v, rfl, hP, hE⟩ := h
    refine ⟨v, by simp only [pS, pN, sv_zero], ?_, hE⟩
    cases b with
    | true => exact er_placed (hK.sent.ext hE) (by decide) hP
    | false => exact er_placed (hK.sent.ext hE) (by decide) hP
  | inr x =>
    obtain ⟨S, m⟩ := x
    obtain ⟨rfl, hE⟩ := h
    exact ⟨_, rfl, rfl, hE⟩
/-- What Unquote tells, in parts. -/
def uS : Sum Nat (List UInt8 × Nat) → ByteArray
  | .inl _ => ⟨#[]⟩
  | .inr (A, _) => ⟨A.toArray⟩
def uN : Sum Nat (List UInt8 × Nat) → Int
  | .inl _ => 0
  | .inr (_, m) => (m : Int)
def uE : Sum Nat (List UInt8 × Nat) → Option (Nat × Int)
  | .inl q => some (1, (q : Int))
  | .inr _ => none
theorem unquote_er (ea : Nat → Addr) (s : ByteArray) (a : Int) (hs : s.size ≤ 4294967000) (w : World) (hK : Kg w ea) (x : Sum Nat (List UInt8 × Nat)) (hx : uqs s a = x) :
    Calls Tryz.prog 68 #[.string s, .int .i64 a] w fun e w' => ∃ v, e = .returned (.tuple #[.string (uS x), .int .i64 (uN x), v]) ∧ Er w' ea v (uE x) ∧ Ext w w' := by
  refine (unquote_any s a (ea 1) (ea 2) hs w hK.kn x hx).mono ?_
  rintro e w' h
  cases x with
  | inl q =>
    obtain ⟨v, rfl, hP, hE⟩ := h
    exact ⟨v, rfl, er_placed (hK.sent.ext hE) (by omega) hP, hE⟩
  | inr x =>
    obtain ⟨A, m⟩ := x
    obtain ⟨rfl, hE⟩ := h
    exact ⟨_, rfl, rfl, hE⟩
def RsF (k : Nat) (c t : Int) : Nat → Option (Value → World → Prop) := fun j => if j = k then some (fun v w => Fault w v c 0 0 t []) else none
theorem RsF_mono (k : Nat) (c t : Int) : G.RsMono Ext (RsF k c t) := by
  intro j R h
  unfold RsF at h
  split at h
  · cases h; exact fun v w w' hx hR => Fault.ext hR hx
  · cases h
set_option maxHeartbeats 1000000 in
set_option maxRecDepth 20000 in
/-- An error says what it says. -/
theorem same_er (ea : Nat → Addr) (v f : Value) (d : Option (Nat × Int)) (w : World) (hK : Kg w ea) (h : Er w ea v d) (hf : Fault w f (erC d) 0 0 (erA d) []) :
    Calls Tryz.prog 10 #[v, f] w fun e w' => e = .returned (.bool true) ∧ Below w.heap.size w w' := by
  have HF := Lib.hid hf
  obtain ⟨ns, rfl, hns⟩ := hf
  obtain ⟨na, nc, rfl⟩ := hns.slice
  have hx0 : Ext w (w.alloc (.cells #[.int .i64 (erC d), .int .i64 0, .int .i64 0, .int .i64 (erA d), .slice na ([] : List ByteArray).length nc] 34)) := by go_grown
  have hb0 := Blk.new w #[.int .i64 (erC d), .int .i64 0, .int .i64 0, .int .i64 (erA d), .slice na ([] : List ByteArray).length nc] 34
  have HX0 := Lib.hid hx0
  have HB0 := Lib.hid hb0
  have HH := Lib.hid h
  have HK := Lib.hid hK
  clear hns hx0 hb0 hK
  cases d with
  | none =>
    obtain rfl : v = .nilIface := h
    simp only [erC, erA] at HB0 HX0 ⊢
    go_enter Tryz.func10, Tryz.ntmps10
    go_wp2
    go_ret
    exact ⟨rfl, HX0.out⟩
  | some x =>
    obtain ⟨T, y, rfl⟩ := h.iface
    obtain ⟨c, hc⟩ : ∃ c, erC (some x) = c := ⟨_, rfl⟩
    obtain ⟨t, ht⟩ : ∃ t, erA (some x) = t := ⟨_, rfl⟩
    have hc0 : (c != 0) = true := by
      obtain ⟨j, q⟩ := x
      simp only [erC] at hc
      simp; omega
    have HTl := Lib.hid (fun w hK h => tell_er ea (.iface T y) (some x) w hK h)
    rw [hc, ht] at HB0 HX0 HTl HF ⊢
    clear hc ht h
    go_enter Tryz.func10, Tryz.ntmps10
    go_wp2_with fail
    generalize hp : w.heap.size = p at HB0 ⊢
    replace hp := Lib.hid hp
    generalize w.alloc (.cells #[.int .i64 c, .int .i64 0, .int .i64 0, .int .i64 t, .slice na ([] : List ByteArray).length nc] 34) = w1 at HX0 HB0 ⊢
    refine G.wp_region_stab (G := Ext) (RsF 5 c t) (by kernel_rfl) (by kernel_rfl) (RsF_mono _ _ _) (fun hex => ?_)
    iterate 5
      (refine G.wpS_one (A := ?_) hex rfl rfl (by simp) ?_ ?_ ?_
       rotate_left 2
       · intro w' hC K hK
         obtain ⟨p0, p1, p2, p3, p4⟩ := (HB0.out.ext hC.1).cells5
         go_wp2_with (fail)
         refine hK _ ?_
         first | exact Below.refl _ _ | assumption | ((repeat' (first | (with_reducible exact Below.refl _ _) | (with_reducible assumption) | (with_reducible refine below_drewN ?_ _) | (with_reducible refine Below.alloc ?_ ?_ _) | (with_reducible refine Below.drew ?_) | (with_reducible refine Below.setCell ?_ ?_ _) | (with_reducible refine Below.trans ?_ (Below.mono (by with_reducible assumption) ?_)) | go_size)))
       rotate_left 1
       · rfl
       clear hex; intro hex)
    refine G.wpS_rel (fun v w => Fault w v c 0 0 t []) rfl rfl (by simp) (by first | rfl | (simp [Region.wanted, yielded]; done)) ?_ ?_
    · intro w' hC K hK
      simp only [Act.put, List.setIfInBounds_toArray, List.set_cons_succ, List.set_cons_zero] at hK
      go_wp2_with (refine (HTl.out _ (HK.out.ext (bel_call HX0.out hC.1)) (HH.out.ext (bel_call HX0.out hC.1))).mono ?_; rintro e w2 ⟨v', rfl, h2, hE1⟩)
      refine hK _ _ ?_ ?_
      · first | exact Below.refl _ _ | assumption | ((repeat' (first | (with_reducible exact Below.refl _ _) | (with_reducible assumption) | (with_reducible refine below_drewN ?_ _) | (with_reducible refine Below.alloc ?_ ?_ _) | (with_reducible refine Below.drew ?_) | (with_reducible refine Below.setCell ?_ ?_ _) | (with_reducible refine Below.trans ?_ (Below.mono (by with_reducible assumption) ?_)) | go_size)))
      · exact h2
    clear hex
    intro v1 w' hex hv1
    replace hex := Exists.intro w' hex
    simp only [Act.put, List.setIfInBounds_toArray, List.set_cons_succ, List.set_cons_zero]
    refine G.wpS_one (A := ?_) hex rfl rfl (by simp) ?_ ?_ ?_
    rotate_left 2
    · intro w' hC K hK
      obtain ⟨p0, p1, p2, p3, p4⟩ := (HB0.out.ext hC.1).cells5
      go_wp2_with (fail)
      refine hK _ ?_
      first | exact Below.refl _ _ | assumption | ((repeat' (first | (with_reducible exact Below.refl _ _) | (with_reducible assumption) | (with_reducible refine below_drewN ?_ _) | (with_reducible refine Below.alloc ?_ ?_ _) | (with_reducible refine Below.drew ?_) | (with_reducible refine Below.setCell ?_ ?_ _) | (with_reducible refine Below.trans ?_ (Below.mono (by with_reducible assumption) ?_)) | go_size)))
    rotate_left 1
    · rfl
    clear hex; intro hex
    refine G.wpS_one (A := ?_) hex rfl rfl (by simp) ?_ ?_ ?_
    rotate_left 2
    · intro w' hC K hK
      have hF1 := (hC.2 5 (by simp [Region.binds])).1 rfl
      go_wp2_with (refine (eqfault_any v1 _ c 0 0 t c 0 0 t [] [] _ hF1 (HF.out.ext (bel_call HX0.out hC.1)) true (by simp)).mono ?_; rintro e w2 ⟨rfl, hE1⟩)
      refine hK _ ?_
      first | exact Below.refl _ _ | assumption | ((repeat' (first | (with_reducible exact Below.refl _ _) | (with_reducible assumption) | (with_reducible refine below_drewN ?_ _) | (with_reducible refine Below.alloc ?_ ?_ _) | (with_reducible refine Below.drew ?_) | (with_reducible refine Below.setCell ?_ ?_ _) | (with_reducible refine Below.trans ?_ (Below.mono (by with_reducible assumption) ?_)) | go_size)))
    rotate_left 1
    · rfl
    clear hex; intro hex
    iterate 2
      (refine G.wpS_one (A := ?_) hex rfl rfl (by simp) ?_ ?_ ?_
       rotate_left 2
       · intro w' hC K hK
         go_wp2_with (fail)
         refine hK _ ?_
         first | exact Below.refl _ _ | assumption | ((repeat' (first | (with_reducible exact Below.refl _ _) | (with_reducible assumption) | (with_reducible refine below_drewN ?_ _) | (with_reducible refine Below.alloc ?_ ?_ _) | (with_reducible refine Below.drew ?_) | (with_reducible refine Below.setCell ?_ ?_ _) | (with_reducible refine Below.trans ?_ (Below.mono (by with_reducible assumption) ?_)) | go_size)))
       rotate_left 1
       · rfl
       clear hex; intro hex)
    refine G.wpS_nil fun w4 hAll => ?_
    have HG := Lib.hid (bel_call HX0.out hAll.1)
    clear hAll hex
    go_wp2_with fail
    go_ret
    exact ⟨rfl, HG.out⟩
set_option maxRecDepth 20000 in
theorem code_er (ea : Nat → Addr) (v : Value) (d : Option (Nat × Int)) (w : World) (hK : Kg w ea) (h : Er w ea v d) :
    Calls Tryz.prog 18 #[v] w fun e w' => e = .returned (.int .i64 (erC d)) ∧ Below w.heap.size w w' := by
  have ht := tell_er ea v d w hK h
  go_enter Tryz.func18, Tryz.ntmps18
  go_wp2_with fail
  refine ht.mono ?_
  rintro e w1 ⟨f, rfl, ⟨ns, rfl, hns⟩, hE⟩
  obtain ⟨na, nc, rfl⟩ := hns.slice
  clear hns
  have hfl : ∀ w, (Instr.field 34 (.agg #[.int .i64 (erC d), .int .i64 0, .int .i64 0, .int .i64 (erA d), .slice na 0 nc]) 0).run Tryz.prog w = .ok (.int .i64 (erC d)) w := fun _ => by kernel_rfl
  go_wp2_with fail
  go_ret
  exact ⟨rfl, hE⟩
end Go.Proofs.YtecjodcaeldidaaGreatDoor
namespace Go.Proofs.YtecjodcaeldidaaGreatDoor
open Go Go.RowKit
theorem cutq_len (l : List UInt8) (h : (Lib.cut l [58, 93]).2.2 = true) : (Lib.cut l [58, 93]).1.length + 2 ≤ l.length := by
  unfold Lib.cut at h ⊢
  split at h
  · rename_i h0
    rw [if_pos h0]
    rcases Lib.indexB_cases ⟨l.toArray⟩ ⟨#[58, 93]⟩ with e | ⟨i, e, hle⟩
    · have e' : Lib.index l [58, 93] = -1 := by simpa [Lib.indexB] using e
      omega
    · have e' : Lib.index l [58, 93] = i := by simpa [Lib.indexB] using e
      have hs : (⟨l.toArray⟩ : ByteArray).size = l.length := by show l.toArray.size = l.length; simp
      have h2 : (⟨#[58, 93]⟩ : ByteArray).size = 2 := rfl
      rw [hs, h2] at hle
      simp only [e', Int.toNat_natCast, List.length_take]
      omega
  · cases h
theorem pfx_len {l p : List UInt8} (h : Lib.hasPrefix l p = true) : p.length ≤ l.length := (List.isPrefixOf_iff_prefix.1 h).length_le
theorem nmq_len (l : List UInt8) : (∀ d, nmq l = .inl d → d = 0) ∧ ∀ S m, nmq l = .inr (S, m) → 0 < m ∧ m ≤ l.length := by
  unfold nmq
  constructor
  · intro d h
    split at h
    · cases h; rfl
    · split at h
      · cases h
      · cases h; rfl
  · intro S m h
    split at h
    · cases h
    · split at h
      · rename_i hc
        have := cutq_len _ hc
        cases h
        rw [List.length_drop] at this
        omega
      · cases h
theorem spq_len (l : List UInt8) : (∀ d, spq unq l = .inl d → d ≤ l.length) ∧ ∀ S m, spq unq l = .inr (S, m) → 0 < m ∧ m ≤ l.length := by
  unfold spq
  cases h1 : chr unq marks.data.toList l with
  | none => exact ⟨fun d h => (by cases h; omega), fun S m h => (by cases h)⟩
  | some x =>
    obtain ⟨b, n⟩ := x
    have hb := chr_lt unq_len unq_byte h1
    simp only
    by_cases hq : Lib.hasPrefix (l.drop n) [45, 45] = true ∨ Lib.hasPrefix (l.drop n) [45] = false
    · rw [if_pos hq]
      exact ⟨fun d h => (by cases h), fun S m h => (by cases h; exact hb.2)⟩
    · rw [if_neg hq]
      have hp : Lib.hasPrefix (l.drop n) [45] = true := by
        cases hx : Lib.hasPrefix (l.drop n) [45] with
        | true => rfl
        | false => exact absurd (.inr hx) hq
      have hl := pfx_len hp
      rw [List.length_drop] at hl
      simp only [List.length_cons, List.length_nil] at hl
      cases h2 : chr unq marks.data.toList (l.drop (n + 1)) with
      | none => exact ⟨fun d h => (by cases h; omega), fun S m h => (by cases h)⟩
      | some y =>
        obtain ⟨c, k⟩ := y
        have hc := chr_lt unq_len unq_byte h2
        rw [List.length_drop] at hc
        simp only
        by_cases hcb : c < b
        · rw [if_pos hcb]
          exact ⟨fun d h => (by cases h; omega), fun S m h => (by cases h)⟩
        · rw [if_neg hcb]
          exact ⟨fun d h => (by cases h), fun S m h => (by cases h; omega)⟩
theorem itm_len (l : List UInt8) : (∀ d, itm unq l = .inl d → d ≤ l.length) ∧ ∀ S m, itm unq l = .inr (S, m) → 0 < m ∧ m ≤ l.length := by
  unfold itm
  split
  · exact ⟨fun d h => (by rw [(nmq_len l).1 d h]; omega), (nmq_len l).2⟩
  · exact spq_len l
theorem ims_len : ∀ (n : Nat) (l : List UInt8) (S : BitVec 256) (k : Nat), (∀ d, ims unq n l S k = .inl d → d ≤ k + l.length) ∧ ∀ T m, ims unq n l S k = .inr (T, m) → k ≤ m ∧ m ≤ k + l.length
  | 0, l, S, k => ⟨fun d h => by unfold ims at h; cases h; omega, fun T m h => by unfold ims at h; cases h⟩
  | n + 1, l, S, k => by
    unfold ims
    split
    · exact ⟨fun d h => (by cases h), fun T m h => (by cases h; omega)⟩
    · cases hi : itm unq l with
      | inl d => exact ⟨fun d' h => (by cases h; have := (itm_len l).1 _ hi; omega), fun T m h => (by cases h)⟩
      | inr x =>
        obtain ⟨T, m⟩ := x
        have hm := (itm_len l).2 _ _ hi
        have ih := ims_len n (l.drop m) (S ||| T) (k + m)
        rw [List.length_drop] at ih
        exact ⟨fun d h => (by have := ih.1 d h; omega), fun T' m' h => (by have := ih.2 T' m' h; omega)⟩
theorem cls_len : ∀ n, (∀ o l k, (∀ b q, cls unq n o l k = .inl (b, q) → k ≤ q ∧ q ≤ k + l.length) ∧ ∀ S m, cls unq n o l k = .inr (S, m) → k < m ∧ m ≤ k + l.length) ∧ (∀ o S l k, (∀ b q, tls unq n o S l k = .inl (b, q) → k ≤ q ∧ q ≤ k + l.length) ∧ ∀ T m, tls unq n o S l k = .inr (T, m) → k < m ∧ m ≤ k + l.length)
  | 0 => ⟨fun o l k => ⟨fun b q h => (by rw [cls] at h; cases h; omega), fun S m h => (by rw [cls] at h; cases h)⟩, fun o S l k => ⟨fun b q h => (by rw [tls] at h; cases h; omega), fun T m h => (by rw [tls] at h; cases h)⟩⟩
  | n + 1 => by
    obtain ⟨ih1, ih2⟩ := cls_len n
    constructor
    · intro o l k
      rw [cls]
      split
      · exact ⟨fun b q h => (by cases h; omega), fun S m h => (by cases h)⟩
      · rename_i h0
        have hl := pfx_len (l := l) (p := [91]) (by simpa using h0)
        simp only [List.length_cons, List.length_nil] at hl
        split
        · exact ⟨fun b q h => (by cases h; omega), fun S m h => (by cases h)⟩
        · split
          · rename_i h1
            have hl2 := pfx_len h1
            rw [List.length_drop] at hl2
            simp only [List.length_cons, List.length_nil] at hl2
            have hi := ims_len (l.length + 1) (l.drop 2) 0#256 0
            rw [List.length_drop] at hi
            split
            · rename_i d hd
              have := hi.1 d hd
              exact ⟨fun b q h => (by cases h; omega), fun S m h => (by cases h)⟩
            · rename_i S m hm
              have hm2 := hi.2 S m hm
              have h3 := ih2 (o + 1) (~~~S) (l.drop (2 + m)) (k + 2 + m)
              rw [List.length_drop] at h3
              exact ⟨fun b q h => (by have := h3.1 b q h; omega), fun T q h => (by have := h3.2 T q h; omega)⟩
          · have hi := ims_len (l.length + 1) (l.drop 1) 0#256 0
            rw [List.length_drop] at hi
            split
            · rename_i d hd
              have := hi.1 d hd
              exact ⟨fun b q h => (by cases h; omega), fun S m h => (by cases h)⟩
            · rename_i S m hm
              have hm2 := hi.2 S m hm
              have h3 := ih2 (o + 1) S (l.drop (1 + m)) (k + 1 + m)
              rw [List.length_drop] at h3
              exact ⟨fun b q h => (by have := h3.1 b q h; omega), fun T q h => (by have := h3.2 T q h; omega)⟩
    · intro o S l k
      rw [tls]
      have two : ∀ (p : List UInt8), p.length = 2 → Lib.hasPrefix l p = true → ∀ (S' : BitVec 256 → BitVec 256), (∀ b q, (match cls unq n o (l.drop 2) (k + 2) with
          | .inl x => .inl x
          | .inr (T, m) => tls unq n o (S' T) (l.drop (m - k)) m : Sum (Bool × Nat) (BitVec 256 × Nat)) = .inl (b, q) → k ≤ q ∧ q ≤ k + l.length) ∧ ∀ T m, (match cls unq n o (l.drop 2) (k + 2) with
          | .inl x => .inl x
          | .inr (T, m) => tls unq n o (S' T) (l.drop (m - k)) m : Sum (Bool × Nat) (BitVec 256 × Nat)) = .inr (T, m) → k < m ∧ m ≤ k + l.length := by
        intro p hp hq S'
        have hl := pfx_len hq
        have hc := ih1 o (l.drop 2) (k + 2)
        rw [List.length_drop] at hc
        split
        · rename_i x hx
          obtain ⟨b0, q0⟩ := x
          have := hc.1 b0 q0 hx
          exact ⟨fun b q h => (by cases h; omega), fun T m h => (by cases h)⟩
        · rename_i T m hm
          have := hc.2 T m hm
          have h3 := ih2 o (S' T) (l.drop (m - k)) m
          rw [List.length_drop] at h3
          exact ⟨fun b q h => (by have := h3.1 b q h; omega), fun T q h => (by have := h3.2 T q h; omega)⟩
      split
      · rename_i h0
        have hl := pfx_len h0
        simp only [List.length_cons, List.length_nil] at hl
        exact ⟨fun b q h => (by cases h), fun T m h => (by cases h; omega)⟩
      · split
        · rename_i h1
          exact two [45, 45] rfl h1 (fun T => S &&& ~~~T)
        · split
          · rename_i h1
            exact two [38, 38] rfl h1 (fun T => S &&& T)
          · exact ⟨fun b q h => (by cases h; omega), fun S m h => (by cases h)⟩
theorem quo_len : ∀ (n : Nat) (l A : List UInt8) (k : Nat), (∀ d, quo unq n l A k = .inl d → k ≤ d ∧ d ≤ k + l.length) ∧ ∀ T m, quo unq n l A k = .inr (T, m) → k < m ∧ m ≤ k + l.length
  | 0, l, A, k => ⟨fun d h => by unfold quo at h; cases h; omega, fun T m h => by unfold quo at h; cases h⟩
  | n + 1, l, A, k => by
    unfold quo
    split
    · rename_i h0
      have hl := pfx_len h0
      simp only [List.length_cons, List.length_nil] at hl
      exact ⟨fun d h => (by cases h), fun T m h => (by cases h; omega)⟩
    · cases hi : chr unq [10] l with
      | none => exact ⟨fun d' h => (by cases h; omega), fun T m h => (by cases h)⟩
      | some x =>
        obtain ⟨b, m⟩ := x
        have hm := chr_lt unq_len unq_byte hi
        have ih := quo_len n (l.drop m) (A ++ [UInt8.ofNat b]) (k + m)
        rw [List.length_drop] at ih
        exact ⟨fun d h => (by have := ih.1 d h; omega), fun T' m' h => (by have := ih.2 T' m' h; omega)⟩
theorem quq_len (l : List UInt8) (k : Nat) : (∀ d, quq unq l k = .inl d → k ≤ d ∧ d ≤ k + l.length) ∧ ∀ T m, quq unq l k = .inr (T, m) → k < m ∧ m ≤ k + l.length := by
  unfold quq
  split
  · rename_i h0
    have hl := pfx_len h0
    simp only [List.length_cons, List.length_nil] at hl
    have h := quo_len (l.length + 1) (l.drop 1) [] (k + 1)
    rw [List.length_drop] at h
    exact ⟨fun d h' => (by have := h.1 d h'; omega), fun T' m' h' => (by have := h.2 T' m' h'; omega)⟩
  · exact ⟨fun d h => (by cases h; omega), fun T m h => (by cases h)⟩
theorem prs_len (s : ByteArray) (a : Int) : (∀ b q, prs s a = .inl (b, q) → q ≤ s.size) ∧ ∀ S m, prs s a = .inr (S, m) → pos s a < m ∧ m ≤ s.size := by
  have h := (cls_len ((rest s (pos s a)).length + 1)).1 0 (rest s (pos s a)) (pos s a)
  have hp := pos_le s a
  have hr := rest_len hp
  unfold prs
  generalize pos s a = i at *
  exact ⟨fun b q hx => (by have := h.1 b q hx; omega), fun S m hx => (by have := h.2 S m hx; omega)⟩
theorem uqs_len (s : ByteArray) (a : Int) : (∀ q, uqs s a = .inl q → q ≤ s.size) ∧ ∀ S m, uqs s a = .inr (S, m) → pos s a < m ∧ m ≤ s.size := by
  have h := quq_len (rest s (pos s a)) (pos s a)
  have hp := pos_le s a
  have hr := rest_len hp
  unfold uqs
  generalize pos s a = i at *
  exact ⟨fun q hx => (by have := h.1 q hx; omega), fun S m hx => (by have := h.2 S m hx; omega)⟩
end Go.Proofs.YtecjodcaeldidaaGreatDoor
namespace Go.Proofs.YtecjodcaeldidaaGreatDoor
open Go Go.ChangeShapes Go.WideShapes Go.ChangeAt Go.RowKit
abbrev laid_classReads : List (String × DataW Unit) := Rows.classReadsRow.laid.filter fun x => x.2.handleName?.isNone
theorem mem_classReads : ∀ k, k < 16 → (snm.getD k "", sdat k) ∈ laid_classReads
  | 0, _ => List.mem_of_getElem? (i := 5) (by kernel_rfl)
  | 1, _ => List.mem_of_getElem? (i := 6) (by kernel_rfl)
  | 2, _ => List.mem_of_getElem? (i := 7) (by kernel_rfl)
  | 3, _ => List.mem_of_getElem? (i := 8) (by kernel_rfl)
  | 4, _ => List.mem_of_getElem? (i := 9) (by kernel_rfl)
  | 5, _ => List.mem_of_getElem? (i := 10) (by kernel_rfl)
  | 6, _ => List.mem_of_getElem? (i := 11) (by kernel_rfl)
  | 7, _ => List.mem_of_getElem? (i := 12) (by kernel_rfl)
  | 8, _ => List.mem_of_getElem? (i := 13) (by kernel_rfl)
  | 9, _ => List.mem_of_getElem? (i := 14) (by kernel_rfl)
  | 10, _ => List.mem_of_getElem? (i := 15) (by kernel_rfl)
  | 11, _ => List.mem_of_getElem? (i := 16) (by kernel_rfl)
  | 12, _ => List.mem_of_getElem? (i := 17) (by kernel_rfl)
  | 13, _ => List.mem_of_getElem? (i := 18) (by kernel_rfl)
  | 14, _ => List.mem_of_getElem? (i := 19) (by kernel_rfl)
  | 15, _ => List.mem_of_getElem? (i := 20) (by kernel_rfl)
  | n + 16, h => by omega
theorem known_classReads {W : World} (h : laidMetH Tryz.prog Rows.classReadsRow.laid W) (hs : W.ShapedOpen Tryz.prog) : ∃ ea, Kg W ea := by
  have h' : laidMet Tryz.prog laid_classReads W ∧ handlesMet Tryz.prog [("errors.errorType", Rows.laid_errors_errorType)] W := h
  obtain ⟨ea, h1, h2⟩ := errs_of_laid h'.1 mem_classReads
  obtain ⟨ev, h3, _⟩ := laid_str h'.1 _ _ (show ("strconv.ErrSyntax", (Rows.laid_strconv_ErrSyntax : DataW Unit)) ∈ laid_classReads from List.mem_of_getElem? (i := 4) (by kernel_rfl)) _ gS3 tS3
  have lt : ∀ k, k < 16 → (ea k).block < W.heap.size := fun k hk => by obtain ⟨c, t, hc⟩ := h1.row k hk; exact (Array.getElem?_eq_some_iff.1 hc).1
  exact ⟨ea, h1, errT_of_laid h'.2, ⟨h1.held 1 (by omega), h1.held 2 (by omega), ⟨_, _, h3⟩, ml_of_shaped hs, lt 1 (by omega), lt 2 (by omega)⟩, laid_tab h'.1 (List.mem_of_getElem? (i := 1) (by kernel_rfl))⟩
abbrev laid_lexExact : List (String × DataW Unit) := Rows.lexExactRow.laid.filter fun x => x.2.handleName?.isNone
theorem mem_lexExact : ∀ k, k < 16 → (snm.getD k "", sdat k) ∈ laid_lexExact
  | 0, _ => List.mem_of_getElem? (i := 5) (by kernel_rfl)
  | 1, _ => List.mem_of_getElem? (i := 6) (by kernel_rfl)
  | 2, _ => List.mem_of_getElem? (i := 7) (by kernel_rfl)
  | 3, _ => List.mem_of_getElem? (i := 8) (by kernel_rfl)
  | 4, _ => List.mem_of_getElem? (i := 9) (by kernel_rfl)
  | 5, _ => List.mem_of_getElem? (i := 10) (by kernel_rfl)
  | 6, _ => List.mem_of_getElem? (i := 11) (by kernel_rfl)
  | 7, _ => List.mem_of_getElem? (i := 12) (by kernel_rfl)
  | 8, _ => List.mem_of_getElem? (i := 13) (by kernel_rfl)
  | 9, _ => List.mem_of_getElem? (i := 14) (by kernel_rfl)
  | 10, _ => List.mem_of_getElem? (i := 15) (by kernel_rfl)
  | 11, _ => List.mem_of_getElem? (i := 16) (by kernel_rfl)
  | 12, _ => List.mem_of_getElem? (i := 17) (by kernel_rfl)
  | 13, _ => List.mem_of_getElem? (i := 18) (by kernel_rfl)
  | 14, _ => List.mem_of_getElem? (i := 19) (by kernel_rfl)
  | 15, _ => List.mem_of_getElem? (i := 20) (by kernel_rfl)
  | n + 16, h => by omega
theorem known_lexExact {W : World} (h : laidMetH Tryz.prog Rows.lexExactRow.laid W) (hs : W.ShapedOpen Tryz.prog) : ∃ ea, Kg W ea := by
  have h' : laidMet Tryz.prog laid_lexExact W ∧ handlesMet Tryz.prog [("errors.errorType", Rows.laid_errors_errorType)] W := h
  obtain ⟨ea, h1, h2⟩ := errs_of_laid h'.1 mem_lexExact
  obtain ⟨ev, h3, _⟩ := laid_str h'.1 _ _ (show ("strconv.ErrSyntax", (Rows.laid_strconv_ErrSyntax : DataW Unit)) ∈ laid_lexExact from List.mem_of_getElem? (i := 4) (by kernel_rfl)) _ gS3 tS3
  have lt : ∀ k, k < 16 → (ea k).block < W.heap.size := fun k hk => by obtain ⟨c, t, hc⟩ := h1.row k hk; exact (Array.getElem?_eq_some_iff.1 hc).1
  exact ⟨ea, h1, errT_of_laid h'.2, ⟨h1.held 1 (by omega), h1.held 2 (by omega), ⟨_, _, h3⟩, ml_of_shaped hs, lt 1 (by omega), lt 2 (by omega)⟩, laid_tab h'.1 (List.mem_of_getElem? (i := 1) (by kernel_rfl))⟩
abbrev laid_lexSame : List (String × DataW Unit) := Rows.lexSameRow.laid.filter fun x => x.2.handleName?.isNone
theorem mem_lexSame : ∀ k, k < 16 → (snm.getD k "", sdat k) ∈ laid_lexSame
  | 0, _ => List.mem_of_getElem? (i := 5) (by kernel_rfl)
  | 1, _ => List.mem_of_getElem? (i := 6) (by kernel_rfl)
  | 2, _ => List.mem_of_getElem? (i := 7) (by kernel_rfl)
  | 3, _ => List.mem_of_getElem? (i := 8) (by kernel_rfl)
  | 4, _ => List.mem_of_getElem? (i := 9) (by kernel_rfl)
  | 5, _ => List.mem_of_getElem? (i := 10) (by kernel_rfl)
  | 6, _ => List.mem_of_getElem? (i := 11) (by kernel_rfl)
  | 7, _ => List.mem_of_getElem? (i := 12) (by kernel_rfl)
  | 8, _ => List.mem_of_getElem? (i := 13) (by kernel_rfl)
  | 9, _ => List.mem_of_getElem? (i := 14) (by kernel_rfl)
  | 10, _ => List.mem_of_getElem? (i := 15) (by kernel_rfl)
  | 11, _ => List.mem_of_getElem? (i := 16) (by kernel_rfl)
  | 12, _ => List.mem_of_getElem? (i := 17) (by kernel_rfl)
  | 13, _ => List.mem_of_getElem? (i := 18) (by kernel_rfl)
  | 14, _ => List.mem_of_getElem? (i := 19) (by kernel_rfl)
  | 15, _ => List.mem_of_getElem? (i := 20) (by kernel_rfl)
  | n + 16, h => by omega
theorem known_lexSame {W : World} (h : laidMetH Tryz.prog Rows.lexSameRow.laid W) (hs : W.ShapedOpen Tryz.prog) : ∃ ea, Kg W ea := by
  have h' : laidMet Tryz.prog laid_lexSame W ∧ handlesMet Tryz.prog [("errors.errorType", Rows.laid_errors_errorType)] W := h
  obtain ⟨ea, h1, h2⟩ := errs_of_laid h'.1 mem_lexSame
  obtain ⟨ev, h3, _⟩ := laid_str h'.1 _ _ (show ("strconv.ErrSyntax", (Rows.laid_strconv_ErrSyntax : DataW Unit)) ∈ laid_lexSame from List.mem_of_getElem? (i := 4) (by kernel_rfl)) _ gS3 tS3
  have lt : ∀ k, k < 16 → (ea k).block < W.heap.size := fun k hk => by obtain ⟨c, t, hc⟩ := h1.row k hk; exact (Array.getElem?_eq_some_iff.1 hc).1
  exact ⟨ea, h1, errT_of_laid h'.2, ⟨h1.held 1 (by omega), h1.held 2 (by omega), ⟨_, _, h3⟩, ml_of_shaped hs, lt 1 (by omega), lt 2 (by omega)⟩, laid_tab h'.1 (List.mem_of_getElem? (i := 1) (by kernel_rfl))⟩
abbrev laid_lexJoins : List (String × DataW Unit) := Rows.lexJoinsRow.laid.filter fun x => x.2.handleName?.isNone
theorem mem_lexJoins : ∀ k, k < 16 → (snm.getD k "", sdat k) ∈ laid_lexJoins
  | 0, _ => List.mem_of_getElem? (i := 5) (by kernel_rfl)
  | 1, _ => List.mem_of_getElem? (i := 6) (by kernel_rfl)
  | 2, _ => List.mem_of_getElem? (i := 7) (by kernel_rfl)
  | 3, _ => List.mem_of_getElem? (i := 8) (by kernel_rfl)
  | 4, _ => List.mem_of_getElem? (i := 9) (by kernel_rfl)
  | 5, _ => List.mem_of_getElem? (i := 10) (by kernel_rfl)
  | 6, _ => List.mem_of_getElem? (i := 11) (by kernel_rfl)
  | 7, _ => List.mem_of_getElem? (i := 12) (by kernel_rfl)
  | 8, _ => List.mem_of_getElem? (i := 13) (by kernel_rfl)
  | 9, _ => List.mem_of_getElem? (i := 14) (by kernel_rfl)
  | 10, _ => List.mem_of_getElem? (i := 15) (by kernel_rfl)
  | 11, _ => List.mem_of_getElem? (i := 16) (by kernel_rfl)
  | 12, _ => List.mem_of_getElem? (i := 17) (by kernel_rfl)
  | 13, _ => List.mem_of_getElem? (i := 18) (by kernel_rfl)
  | 14, _ => List.mem_of_getElem? (i := 19) (by kernel_rfl)
  | 15, _ => List.mem_of_getElem? (i := 20) (by kernel_rfl)
  | n + 16, h => by omega
theorem known_lexJoins {W : World} (h : laidMetH Tryz.prog Rows.lexJoinsRow.laid W) (hs : W.ShapedOpen Tryz.prog) : ∃ ea, Kg W ea := by
  have h' : laidMet Tryz.prog laid_lexJoins W ∧ handlesMet Tryz.prog [("errors.errorType", Rows.laid_errors_errorType)] W := h
  obtain ⟨ea, h1, h2⟩ := errs_of_laid h'.1 mem_lexJoins
  obtain ⟨ev, h3, _⟩ := laid_str h'.1 _ _ (show ("strconv.ErrSyntax", (Rows.laid_strconv_ErrSyntax : DataW Unit)) ∈ laid_lexJoins from List.mem_of_getElem? (i := 4) (by kernel_rfl)) _ gS3 tS3
  have lt : ∀ k, k < 16 → (ea k).block < W.heap.size := fun k hk => by obtain ⟨c, t, hc⟩ := h1.row k hk; exact (Array.getElem?_eq_some_iff.1 hc).1
  exact ⟨ea, h1, errT_of_laid h'.2, ⟨h1.held 1 (by omega), h1.held 2 (by omega), ⟨_, _, h3⟩, ml_of_shaped hs, lt 1 (by omega), lt 2 (by omega)⟩, laid_tab h'.1 (List.mem_of_getElem? (i := 1) (by kernel_rfl))⟩
abbrev laid_lexLong : List (String × DataW Unit) := Rows.lexLongRow.laid.filter fun x => x.2.handleName?.isNone
theorem mem_lexLong : ∀ k, k < 16 → (snm.getD k "", sdat k) ∈ laid_lexLong
  | 0, _ => List.mem_of_getElem? (i := 5) (by kernel_rfl)
  | 1, _ => List.mem_of_getElem? (i := 6) (by kernel_rfl)
  | 2, _ => List.mem_of_getElem? (i := 7) (by kernel_rfl)
  | 3, _ => List.mem_of_getElem? (i := 8) (by kernel_rfl)
  | 4, _ => List.mem_of_getElem? (i := 9) (by kernel_rfl)
  | 5, _ => List.mem_of_getElem? (i := 10) (by kernel_rfl)
  | 6, _ => List.mem_of_getElem? (i := 11) (by kernel_rfl)
  | 7, _ => List.mem_of_getElem? (i := 12) (by kernel_rfl)
  | 8, _ => List.mem_of_getElem? (i := 13) (by kernel_rfl)
  | 9, _ => List.mem_of_getElem? (i := 14) (by kernel_rfl)
  | 10, _ => List.mem_of_getElem? (i := 15) (by kernel_rfl)
  | 11, _ => List.mem_of_getElem? (i := 16) (by kernel_rfl)
  | 12, _ => List.mem_of_getElem? (i := 17) (by kernel_rfl)
  | 13, _ => List.mem_of_getElem? (i := 18) (by kernel_rfl)
  | 14, _ => List.mem_of_getElem? (i := 19) (by kernel_rfl)
  | 15, _ => List.mem_of_getElem? (i := 20) (by kernel_rfl)
  | n + 16, h => by omega
theorem known_lexLong {W : World} (h : laidMetH Tryz.prog Rows.lexLongRow.laid W) (hs : W.ShapedOpen Tryz.prog) : ∃ ea, Kg W ea := by
  have h' : laidMet Tryz.prog laid_lexLong W ∧ handlesMet Tryz.prog [("errors.errorType", Rows.laid_errors_errorType)] W := h
  obtain ⟨ea, h1, h2⟩ := errs_of_laid h'.1 mem_lexLong
  obtain ⟨ev, h3, _⟩ := laid_str h'.1 _ _ (show ("strconv.ErrSyntax", (Rows.laid_strconv_ErrSyntax : DataW Unit)) ∈ laid_lexLong from List.mem_of_getElem? (i := 4) (by kernel_rfl)) _ gS3 tS3
  have lt : ∀ k, k < 16 → (ea k).block < W.heap.size := fun k hk => by obtain ⟨c, t, hc⟩ := h1.row k hk; exact (Array.getElem?_eq_some_iff.1 hc).1
  exact ⟨ea, h1, errT_of_laid h'.2, ⟨h1.held 1 (by omega), h1.held 2 (by omega), ⟨_, _, h3⟩, ml_of_shaped hs, lt 1 (by omega), lt 2 (by omega)⟩, laid_tab h'.1 (List.mem_of_getElem? (i := 1) (by kernel_rfl))⟩
end Go.Proofs.YtecjodcaeldidaaGreatDoor
