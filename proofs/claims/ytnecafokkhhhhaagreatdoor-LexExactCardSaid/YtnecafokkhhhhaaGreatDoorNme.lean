/- A named set between "[:" and ":]": the reader's name. -/
import Derived.Test.YtnecafokkhhhhaaGreatDoorNmd
import Derived.Test.YtnecafokkhhhhaaGreatDoorChr
namespace Go.Proofs.YtnecafokkhhhhaaGreatDoor
open Go Go.RowKit
theorem pre_two_len {l : List UInt8} {c d : UInt8} (h : Lib.hasPrefix l [c, d] = true) : 2 ≤ l.length := by
  match l with
  | [] => cases h
  | [x] =>
    have h1 : ((c == x) && List.isPrefixOf [d] []) = true := h
    rw [show List.isPrefixOf [d] ([] : List UInt8) = false from rfl, Bool.and_false] at h1
    cases h1
  | x :: y :: l => simp
theorem cut_len (l : List UInt8) (h : (Lib.cut l [58, 93]).2.2 = true) : (Lib.cut l [58, 93]).1.length + 2 ≤ l.length := by
  unfold Lib.cut at h ⊢
  split at h
  · rename_i hc
    rw [if_pos hc]
    have := Lib.index_room l [58, 93] hc
    simp at this ⊢
    omega
  · cases h
set_option maxHeartbeats 1000000 in
theorem name_any (r : Nat) (s : ByteArray) (i : Nat) (es ed : Addr) (w : World) (h : Rdr w r s i) (hE : Errs w r es ed) (hq : Lib.hasPrefix (rest s i) [91, 58] = true) (m : Int) (hm : w.cell? ⟨17, 0, none⟩ = some (.int .i64 m)) (o : Sum Nat (BitVec 256 × Nat)) (ho : nmq (rest s i) = o) :
    Calls Tryz.prog 93 #[.pointer (some ⟨r, 0, none⟩)] w fun e w' => SetEnd w w' r s i es e o := by
  have hsz := h.size
  have hrw := h.blk.lt
  have hi : i + 2 ≤ s.size := by
    have h1 := pre_two_len hq
    have h2 := rest_len h.le
    omega
  have hse : (s.extract (i + 2) s.size).size ≤ 4294967000 := by
    have := ByteArray.size_extract (a := s) (b := i + 2) (e := s.size)
    omega
  have hcut := fun (w' : World) (hx : Ext w w') => Tryz.strings_Cut (s.extract (i + 2) s.size) ⟨#[58, 93]⟩ m w' (by omega) (by rw [hx.cell (World.block_lt_of_cell? w _ hm)]; exact hm)
  rw [ext_rest, rest_drop] at hcut
  have hlen := cut_len ((rest s i).drop 2)
  have hrl := rest_len h.le
  rw [List.length_drop] at hlen
  unfold nmq at ho
  obtain ⟨⟨W, A, q⟩, hW⟩ : ∃ x, Lib.cut ((rest s i).drop 2) [58, 93] = x := ⟨_, rfl⟩
  have hW2 : Lib.cut ((rest s i).drop 2) (ByteArray.mk #[58, 93]).data.toList = (W, A, q) := hW
  rw [hW2] at hcut
  rw [hW] at ho hlen
  simp only at ho hlen hcut
  obtain ⟨x, hx⟩ : ∃ x, nmd W = x := ⟨_, rfl⟩
  have hnm := fun (w' : World) => named_all ⟨W.toArray⟩ w' x (by simpa using hx)
  rw [hx] at ho
  have hWs : (ByteArray.mk W.toArray).size = W.length := by show W.toArray.size = _; simp
  have HC := Lib.hid hcut
  have HN := Lib.hid hnm
  have HE := Lib.hid hE
  have HL := Lib.hid hlen
  have HO := Lib.hid ho
  clear hcut hnm hE hlen ho hW hW2 hx hq hm
  go_enter Tryz.func93, Tryz.ntmps93
  go_wp2_with fail
  have hx0 : Ext w (w.alloc (.cells #[.int .u64 0, .int .u64 0, .int .u64 0, .int .u64 0] 36)) := by go_grown
  have h1 := h.ext hx0
  have HX := Lib.hid hx0
  have hl0 := Blk.new w #[.int .u64 0, .int .u64 0, .int .u64 0, .int .u64 0] 36
  have HB := Lib.hid hl0
  clear hx0 hl0
  generalize w.alloc (.cells #[.int .u64 0, .int .u64 0, .int .u64 0, .int .u64 0] 36) = w0 at h1 HX HB ⊢
  refine G.wp_region_stab (G := Ext) (fun _ => none) (by kernel_rfl) (by kernel_rfl) (fun _ _ h => by cases h) (fun hex => ?_)
  iterate 10
    (refine G.wpS_one (A := ?_) hex rfl rfl (by simp) ?_ ?_ ?_
     rotate_left 2
     · intro w' hC K hK
       have c0 := (h1.ext hC.1).blk.cell 0; have c1 := (h1.ext hC.1).blk.cell 1
       go_wp2_with (fail)
       refine hK _ ?_
       first | exact Below.refl _ _ | assumption | ((repeat' (first | (with_reducible exact Below.refl _ _) | (with_reducible assumption) | (with_reducible refine below_drewN ?_ _) | (with_reducible refine Below.alloc ?_ ?_ _) | (with_reducible refine Below.drew ?_) | (with_reducible refine Below.setCell ?_ ?_ _) | (with_reducible refine Below.trans ?_ (Below.mono (by with_reducible assumption) ?_)) | go_size)))
     rotate_left 1
     · rfl
     clear hex; intro hex)
  refine G.wpS_one (A := ?_) hex rfl rfl (by simp) ?_ ?_ ?_
  rotate_left 2
  · intro w' hC K hK
    go_wp2_with (refine (HC.out _ (bel_call HX.out hC.1)).mono ?_; rintro e w2 ⟨rfl, hk⟩; (have hE1 := (show Ext w' w2 from by obtain ⟨k, rfl⟩ := hk; exact drew_ext _ _)))
    refine hK _ ?_
    first | exact Below.refl _ _ | assumption | ((repeat' (first | (with_reducible exact Below.refl _ _) | (with_reducible assumption) | (with_reducible refine below_drewN ?_ _) | (with_reducible refine Below.alloc ?_ ?_ _) | (with_reducible refine Below.drew ?_) | (with_reducible refine Below.setCell ?_ ?_ _) | (with_reducible refine Below.trans ?_ (Below.mono (by with_reducible assumption) ?_)) | go_size)))
  rotate_left 1
  · rfl
  clear hex; intro hex
  iterate 7
    (refine G.wpS_one (A := ?_) hex rfl rfl (by simp) ?_ ?_ ?_
     rotate_left 2
     · intro w' hC K hK
       go_wp2_with (fail)
       refine hK _ ?_
       first | exact Below.refl _ _ | assumption | ((repeat' (first | (with_reducible exact Below.refl _ _) | (with_reducible assumption) | (with_reducible refine below_drewN ?_ _) | (with_reducible refine Below.alloc ?_ ?_ _) | (with_reducible refine Below.drew ?_) | (with_reducible refine Below.setCell ?_ ?_ _) | (with_reducible refine Below.trans ?_ (Below.mono (by with_reducible assumption) ?_)) | go_size)))
     rotate_left 1
     · rfl
     clear hex; intro hex)
  refine G.wpS_nil fun w2 hAll => ?_
  have hx2 := hAll.1
  clear hAll hex
  have h2 := h1.ext hx2
  have HB2 := Lib.hid (HB.out.ext hx2)
  have HX2 := Lib.hid (bel_call HX.out hx2)
  clear hx2 h1 HB HX HC
  go_wp2_with fail
  refine (HN.out _).mono ?_
  rintro e w3 ⟨rfl, hE3⟩
  have h3 := Lib.hid (h2.ext hE3)
  have HB3 := Lib.hid (HB2.out.ext hE3)
  have HX3 := Lib.hid (bel_call HX2.out hE3)
  clear hE3 h2 HB2 HX2
  have hlt := HB3.out.lt
  cases x with
  | none =>
    cases q with
    | false =>
      replace HO := Lib.hid (show Sum.inl 0 = o from HO.out)
      have hre := fun (w' : World) (hx : Ext w3 w') => refuse_any r s i es ed w' (h3.out.ext hx) (HE.out.moved (grown_of_ext (bel_call HX3.out hx)))
      have HR := Lib.hid hre
      clear hre
      go_wp2_with fail
      refine (HR.out _ (by (repeat' (first | (with_reducible exact Below.refl _ _) | (with_reducible assumption) | (with_reducible refine below_drewN ?_ _) | (with_reducible refine Below.alloc ?_ ?_ _) | (with_reducible refine Below.drew ?_) | (with_reducible refine Below.setCell ?_ ?_ _) | (with_reducible refine Below.trans ?_ (Below.mono (by with_reducible assumption) ?_)) | go_size)))).mono ?_
      rintro e w4 ⟨v, rfl, ⟨p, tp, rfl, hP, hlp⟩, hE4⟩
      have HLP := Lib.hid hlp
      clear hlp
      have hE5 : Ext w3 w4 := bel_call (show Ext w3 _ from by (repeat' (first | (with_reducible exact Below.refl _ _) | (with_reducible assumption) | (with_reducible refine below_drewN ?_ _) | (with_reducible refine Below.alloc ?_ ?_ _) | (with_reducible refine Below.drew ?_) | (with_reducible refine Below.setCell ?_ ?_ _) | (with_reducible refine Below.trans ?_ (Below.mono (by with_reducible assumption) ?_)) | go_size))) hE4
      have hB4 := HB3.out.ext hE5
      have hne : w.heap.size ≠ p := by
        intro e
        have g0 := hP.cell 0
        have g1 := hB4.cell 0
        rw [← e, g1] at g0
        simp at g0
      have HX5 := Lib.hid (bel_call HX3.out hE5)
      obtain ⟨z0, z1, z2, z3⟩ := hB4.cells4
      have f0 := hB4.free 0
      have f1 := hB4.free 1
      have f2 := hB4.free 2
      have f3 := hB4.free 3
      obtain ⟨y0, y1, y2, y3⟩ := (hB4.store4 (.int .u64 0) (.int .u64 0) (.int .u64 0) (.int .u64 0)).cells4
      have HP := Lib.hid hP
      have HNE := Lib.hid hne
      clear hE4 hE5 hB4 hP hne
      go_wp2
      refine bodyPost_ret (v := .tuple #[sv0, .iface 70 (.pointer (some ⟨p, 0, none⟩))]) ?_ rfl ?_
      · simp [results, Tryz.results93, go_sem, y0, y1, y2, y3]
      · rw [← HO.out]
        refine ⟨_, rfl, ⟨p, tp, rfl, ?_, HLP.out⟩, ?_⟩
        · exact HP.out.grown (row := some w.heap.size) (grown_trans (grown_trans (grown_trans (grown_set _ _ _ _) (grown_set _ _ _ _)) (grown_set _ _ _ _)) (grown_set _ _ _ _)) (by simpa using HNE.out)
        · refine grown_store (grown_store (grown_store (grown_store (grown_of_ext HX5.out) _ _ _ ?_) _ _ _ ?_) _ _ _ ?_) _ _ _ ?_ <;> exact Nat.le_refl _
    | true =>
      replace HO := Lib.hid (show Sum.inl 0 = o from HO.out)
      have hre := fun (w' : World) (hx : Ext w3 w') => refuse_any r s i es ed w' (h3.out.ext hx) (HE.out.moved (grown_of_ext (bel_call HX3.out hx)))
      have HR := Lib.hid hre
      clear hre
      go_wp2_with fail
      refine (HR.out _ (by (repeat' (first | (with_reducible exact Below.refl _ _) | (with_reducible assumption) | (with_reducible refine below_drewN ?_ _) | (with_reducible refine Below.alloc ?_ ?_ _) | (with_reducible refine Below.drew ?_) | (with_reducible refine Below.setCell ?_ ?_ _) | (with_reducible refine Below.trans ?_ (Below.mono (by with_reducible assumption) ?_)) | go_size)))).mono ?_
      rintro e w4 ⟨v, rfl, ⟨p, tp, rfl, hP, hlp⟩, hE4⟩
      have HLP := Lib.hid hlp
      clear hlp
      have hE5 : Ext w3 w4 := bel_call (show Ext w3 _ from by (repeat' (first | (with_reducible exact Below.refl _ _) | (with_reducible assumption) | (with_reducible refine below_drewN ?_ _) | (with_reducible refine Below.alloc ?_ ?_ _) | (with_reducible refine Below.drew ?_) | (with_reducible refine Below.setCell ?_ ?_ _) | (with_reducible refine Below.trans ?_ (Below.mono (by with_reducible assumption) ?_)) | go_size))) hE4
      have hB4 := HB3.out.ext hE5
      have hne : w.heap.size ≠ p := by
        intro e
        have g0 := hP.cell 0
        have g1 := hB4.cell 0
        rw [← e, g1] at g0
        simp at g0
      have HX5 := Lib.hid (bel_call HX3.out hE5)
      obtain ⟨z0, z1, z2, z3⟩ := hB4.cells4
      have f0 := hB4.free 0
      have f1 := hB4.free 1
      have f2 := hB4.free 2
      have f3 := hB4.free 3
      obtain ⟨y0, y1, y2, y3⟩ := (hB4.store4 (.int .u64 0) (.int .u64 0) (.int .u64 0) (.int .u64 0)).cells4
      have HP := Lib.hid hP
      have HNE := Lib.hid hne
      clear hE4 hE5 hB4 hP hne
      go_wp2
      refine bodyPost_ret (v := .tuple #[sv0, .iface 70 (.pointer (some ⟨p, 0, none⟩))]) ?_ rfl ?_
      · simp [results, Tryz.results93, go_sem, y0, y1, y2, y3]
      · rw [← HO.out]
        refine ⟨_, rfl, ⟨p, tp, rfl, ?_, HLP.out⟩, ?_⟩
        · exact HP.out.grown (row := some w.heap.size) (grown_trans (grown_trans (grown_trans (grown_set _ _ _ _) (grown_set _ _ _ _)) (grown_set _ _ _ _)) (grown_set _ _ _ _)) (by simpa using HNE.out)
        · refine grown_store (grown_store (grown_store (grown_store (grown_of_ext HX5.out) _ _ _ ?_) _ _ _ ?_) _ _ _ ?_) _ _ _ ?_ <;> exact Nat.le_refl _
  | some S =>
    cases q with
    | false =>
      replace HO := Lib.hid (show Sum.inl 0 = o from HO.out)
      have hre := fun (w' : World) (hx : Ext w3 w') => refuse_any r s i es ed w' (h3.out.ext hx) (HE.out.moved (grown_of_ext (bel_call HX3.out hx)))
      have HR := Lib.hid hre
      clear hre
      go_wp2_with fail
      refine (HR.out _ (by (repeat' (first | (with_reducible exact Below.refl _ _) | (with_reducible assumption) | (with_reducible refine below_drewN ?_ _) | (with_reducible refine Below.alloc ?_ ?_ _) | (with_reducible refine Below.drew ?_) | (with_reducible refine Below.setCell ?_ ?_ _) | (with_reducible refine Below.trans ?_ (Below.mono (by with_reducible assumption) ?_)) | go_size)))).mono ?_
      rintro e w4 ⟨v, rfl, ⟨p, tp, rfl, hP, hlp⟩, hE4⟩
      have HLP := Lib.hid hlp
      clear hlp
      have hE5 : Ext w3 w4 := bel_call (show Ext w3 _ from by (repeat' (first | (with_reducible exact Below.refl _ _) | (with_reducible assumption) | (with_reducible refine below_drewN ?_ _) | (with_reducible refine Below.alloc ?_ ?_ _) | (with_reducible refine Below.drew ?_) | (with_reducible refine Below.setCell ?_ ?_ _) | (with_reducible refine Below.trans ?_ (Below.mono (by with_reducible assumption) ?_)) | go_size))) hE4
      have hB4 := HB3.out.ext hE5
      have hne : w.heap.size ≠ p := by
        intro e
        have g0 := hP.cell 0
        have g1 := hB4.cell 0
        rw [← e, g1] at g0
        simp at g0
      have HX5 := Lib.hid (bel_call HX3.out hE5)
      obtain ⟨z0, z1, z2, z3⟩ := hB4.cells4
      have f0 := hB4.free 0
      have f1 := hB4.free 1
      have f2 := hB4.free 2
      have f3 := hB4.free 3
      obtain ⟨y0, y1, y2, y3⟩ := (hB4.store4 (.int .u64 0) (.int .u64 0) (.int .u64 0) (.int .u64 0)).cells4
      have HP := Lib.hid hP
      have HNE := Lib.hid hne
      clear hE4 hE5 hB4 hP hne
      go_wp2
      refine bodyPost_ret (v := .tuple #[sv0, .iface 70 (.pointer (some ⟨p, 0, none⟩))]) ?_ rfl ?_
      · simp [results, Tryz.results93, go_sem, y0, y1, y2, y3]
      · rw [← HO.out]
        refine ⟨_, rfl, ⟨p, tp, rfl, ?_, HLP.out⟩, ?_⟩
        · exact HP.out.grown (row := some w.heap.size) (grown_trans (grown_trans (grown_trans (grown_set _ _ _ _) (grown_set _ _ _ _)) (grown_set _ _ _ _)) (grown_set _ _ _ _)) (by simpa using HNE.out)
        · refine grown_store (grown_store (grown_store (grown_store (grown_of_ext HX5.out) _ _ _ ?_) _ _ _ ?_) _ _ _ ?_) _ _ _ ?_ <;> exact Nat.le_refl _
    | true =>
      have hl2 := HL.out rfl
      have ho2 : Sum.inr (S, W.length + 4) = o := HO.out
      have hwl : i + (W.length + 4) ≤ s.size := by omega
      have HO2 := Lib.hid ho2
      have c1 := h3.out.blk.cell 1
      have f1 := h3.out.blk.free 1
      obtain ⟨z0, z1, z2, z3⟩ := HB3.out.cells4
      have g0 := HB3.out.free 0
      have g1 := HB3.out.free 1
      have g2 := HB3.out.free 2
      have g3 := HB3.out.free 3
      have hrl3 := h3.out.blk.lt
      clear hl2 ho2 HO HL HE HN
      simp only [Option.getD_some, Option.isSome_some]
      go_wp2
      refine bodyPost_ret (v := .tuple #[sv S, .nilIface]) ?_ rfl ?_
      · have y0 := fun v => ((((HB3.out.set_other (a := ⟨r, 1, none⟩) (by simp; omega) v).store4 (.int .u64 (wd S 0)) (.int .u64 (wd S 1)) (.int .u64 (wd S 2)) (.int .u64 (wd S 3))).alloc (.cells #[.int .u64 (wd S 0), .int .u64 (wd S 1), .int .u64 (wd S 2), .int .u64 (wd S 3)] 36)).cell 0)
        have y1 := fun v => ((((HB3.out.set_other (a := ⟨r, 1, none⟩) (by simp; omega) v).store4 (.int .u64 (wd S 0)) (.int .u64 (wd S 1)) (.int .u64 (wd S 2)) (.int .u64 (wd S 3))).alloc (.cells #[.int .u64 (wd S 0), .int .u64 (wd S 1), .int .u64 (wd S 2), .int .u64 (wd S 3)] 36)).cell 1)
        have y2 := fun v => ((((HB3.out.set_other (a := ⟨r, 1, none⟩) (by simp; omega) v).store4 (.int .u64 (wd S 0)) (.int .u64 (wd S 1)) (.int .u64 (wd S 2)) (.int .u64 (wd S 3))).alloc (.cells #[.int .u64 (wd S 0), .int .u64 (wd S 1), .int .u64 (wd S 2), .int .u64 (wd S 3)] 36)).cell 2)
        have y3 := fun v => ((((HB3.out.set_other (a := ⟨r, 1, none⟩) (by simp; omega) v).store4 (.int .u64 (wd S 0)) (.int .u64 (wd S 1)) (.int .u64 (wd S 2)) (.int .u64 (wd S 3))).alloc (.cells #[.int .u64 (wd S 0), .int .u64 (wd S 1), .int .u64 (wd S 2), .int .u64 (wd S 3)] 36)).cell 3)
        simp [results, Tryz.results93, go_sem, y0, y1, y2, y3]
      · rw [← HO2.out]
        refine ⟨rfl, ?_, ?_, hwl, h3.out.size⟩
        · refine grown_ext (grown_store (grown_store (grown_store (grown_store (grown_trans (grown_of_ext HX3.out) (grown_set _ _ _ _)) _ _ _ ?_) _ _ _ ?_) _ _ _ ?_) _ _ _ ?_) (Below.alloc (Below.refl _ _) (Nat.le_refl _) _) <;> exact Nat.le_refl _
        · have k := ((h3.out.blk.set 1 (.int .i64 ((i : Int) + (2 + (W.length : Int) + 2)))).other4 (b := w.heap.size) (by omega) (.int .u64 (wd S 0)) (.int .u64 (wd S 1)) (.int .u64 (wd S 2)) (.int .u64 (wd S 3))).alloc (.cells #[.int .u64 (wd S 0), .int .u64 (wd S 1), .int .u64 (wd S 2), .int .u64 (wd S 3)] 36)
          rw [show ((i + (W.length + 4) : Nat) : Int) = (i : Int) + (2 + (W.length : Int) + 2) by omega]
          exact k
end Go.Proofs.YtnecafokkhhhhaaGreatDoor
