/- A quoted text is read: quoted, Unquote. -/
import Derived.Test.YtnecafokkhhhhaaGreatDoorPrs
import Derived.Test.YtnecafokkhhhhaaGreatDoorMB
import Derived.Lib.SlBytesRow
import Derived.Lib.BufferRead
namespace Go.Proofs.YtnecafokkhhhhaaGreatDoor
open Go Go.RowKit
theorem own_grown {w w' : World} {b e sz n : Nat} {v : Value} {xs : List Value} {row : Option Nat} (h : w.ownsRow b e sz v n xs) (hg : w.grownBy w' row) (hr : ∀ j, row = some j → j < b) : w'.ownsRow b e sz v n xs := by
  obtain ⟨h1, h2 | ⟨g, cap, cur, hv, hb, hh, rest⟩⟩ := h
  · exact ⟨h1, .inl h2⟩
  · exact ⟨h1, .inr ⟨g, cap, cur, hv, hb, by rw [hg.block g (Array.getElem?_eq_some_iff.1 hh).1 (fun e => by have := hr g e.symm; omega)]; exact hh, rest⟩⟩
/-- Bytes of one's own, as a text. -/
theorem own_str {w : World} {b : Nat} {v : Value} {L : List UInt8} (h : w.ownsRow b 5 1 v L.length (L.map ub)) : (convert 58 9 v).run Tryz.prog w = .ok (.string ⟨L.toArray⟩) w := by
  obtain ⟨hl, ⟨rfl, h0⟩ | ⟨g, cap, cur, rfl, hb, hg, h1, h2, h3, h4⟩⟩ := h
  · have hL : L = [] := List.length_eq_zero_iff.1 h0
    subst hL
    exact Lib.run_convert_nil_bytes w _ _ 5 0 Tryz.underlying58 Tryz.underlying5 Tryz.underlying9
  · have hs : (ByteArray.mk L.toArray).size = L.length := by show L.toArray.size = _; simp
    have hk := Lib.run_convert_whole (P := Tryz.prog) w 58 5 9 Tryz.underlying58 Tryz.underlying5 Tryz.underlying9 g 0 ⟨L.toArray⟩ (fun i hi => by
      rw [hs] at hi
      have hc : i < L.length * 1 := by omega
      simp only [World.cell?, hg, Nat.zero_add]
      have e : (cur.toList.take (L.length * 1))[i]? = (L.map ub)[i]? := by rw [h4]
      rw [List.getElem?_take_of_lt hc] at e
      rw [List.getElem?_map, List.getElem?_eq_getElem hi] at e
      have e2 : cur[i]? = cur.toList[i]? := by simp
      rw [e2, e]
      rfl) cap
    rw [hs] at hk
    exact hk
def QuoEnd (w w' : World) (r : Nat) (s : ByteArray) (es : Addr) (e : Ending) : Sum Nat (List UInt8 × Nat) → Prop
  | .inl q => ∃ v, e = .returned (.tuple #[.string ⟨#[]⟩, v]) ∧ Placed w' v es q ∧ w.grownBy w' (some r)
  | .inr (A, m) => e = .returned (.tuple #[.string ⟨A.toArray⟩, .nilIface]) ∧ Moved w w' r s m
set_option maxHeartbeats 4000000 in
set_option maxRecDepth 20000 in
theorem quoted_any (r : Nat) (s : ByteArray) (i : Nat) (es ed : Addr) (w : World) (h : Rdr w r s i) (hK : Rk unq w r es ed) (x : Sum Nat (List UInt8 × Nat)) (hx : quq unq (rest s i) i = x) :
    Calls Tryz.prog 50 #[.pointer (some ⟨r, 0, none⟩)] w fun e w' => QuoEnd w w' r s es e x := by
  obtain ⟨i0, hi, hz0, hz1, hz2⟩ := info_parts info_u8
  have hrw := h.blk.lt
  have hsz := h.size
  have hrl := rest_len h.le
  have HH := Lib.hid h
  have HK := Lib.hid hK
  unfold quq at hx
  cases hq : Lib.hasPrefix (rest s i) [34] with
  | false =>
    have hps := pass_no r s ⟨#[34]⟩ i w h hq
    rw [if_neg (by rw [hq]; simp)] at hx
    subst hx
    clear h hK
    go_enter Tryz.func50, Tryz.ntmps50
    go_wp2_with fail
    refine hps.mono ?_
    rintro e w1 ⟨rfl, hk⟩
    have hx1 : Ext w w1 := by obtain ⟨k, rfl⟩ := hk; exact drew_ext _ _
    clear hk hps
    have hre := refuse_any r s i es ed w1 (HH.out.ext hx1) (HK.out.ext hx1).errs
    go_wp2_with fail
    refine hre.mono ?_
    rintro e w2 ⟨v, rfl, hP, hE⟩
    have HP := Lib.hid (And.intro hP (grown_of_ext (row := some r) (bel_call hx1 hE)))
    clear hP hE hx1 hre
    go_wp2_with fail
    go_ret2
    exact ⟨v, rfl, HP.out.1, HP.out.2⟩
  | true =>
    have hl1 := pre_len hq
    have hps := pass_yes r s ⟨#[34]⟩ i w h hq (by show i + 1 ≤ s.size; omega)
    rw [if_pos hq, ← rest_drop] at hx
    have HX := Lib.hid hx
    clear h hK hx
    go_enter Tryz.func50, Tryz.ntmps50
    go_wp2_with fail
    refine hps.mono ?_
    rintro e w1 ⟨rfl, hM⟩
    replace hM : Moved w w1 r s (i + 1) := hM
    have HM := Lib.hid hM
    clear hM hps
    go_wp2_with fail
    go_loopg [4] ((rest s i).length + 1) (fun g v wr => ∃ (A : List UInt8) (k : Nat), (rest s k).length < g ∧ A.length + (rest s k).length ≤ s.size ∧ Hid (quo unq g (rest s k) A k = x) ∧ Hid (w.grownBy wr (some r)) ∧ Hid (Rdr wr r s k) ∧ Hid (wr.ownsRow w.heap.size 5 1 v A.length (A.map ub)))
    case atStart =>
      have hrl1 := rest_len HM.out.2.le
      exact ⟨[], i + 1, by omega, by simp; omega, HX, Lib.hid HM.out.1, Lib.hid HM.out.2, Lib.hid (World.ownsRow_nil _ _ _ _)⟩
    case round =>
      clear HM HX
      obtain ⟨A, k, hlen, hAl, hO, hG, hR, hown⟩ := hrel
      obtain ⟨g, rfl⟩ : ∃ g, gk = g + 1 := ⟨gk - 1, by omega⟩
      have hrlk := rest_len hR.out.le
      cases hq2 : Lib.hasPrefix (rest s k) [34] with
      | true =>
        have hl2 := pre_len hq2
        have hps2 := pass_yes r s ⟨#[34]⟩ k wr hR.out hq2 (by show k + 1 ≤ s.size; omega)
        have HX := Lib.hid (show Sum.inr (A, k + 1) = x by rw [← hO.out, quo, if_pos hq2])
        clear hO
        go_wp2_with fail
        refine hps2.mono ?_
        rintro e w2 ⟨rfl, hM⟩
        replace hM : Moved wr w2 r s (k + 1) := hM
        have hcv := own_str (own_grown hown.out hM.1 (fun j hj => by cases hj; omega))
        have HG := Lib.hid (And.intro (grown_trans hG.out hM.1) hM.2)
        clear hM hps2 hG hR hown
        go_wp2_with fail
        go_ret2
        rw [← HX.out]
        exact ⟨rfl, HG.out.1, HG.out.2⟩
      | false =>
        have hps2 := pass_no r s ⟨#[34]⟩ k wr hR.out hq2
        go_wp2_with fail
        refine hps2.mono ?_
        rintro e w2 ⟨rfl, hk⟩
        have hx2 : Ext wr w2 := by obtain ⟨kk, rfl⟩ := hk; exact drew_ext _ _
        clear hk hps2
        have hx1 := hO.out
        rw [quo, if_neg (by rw [hq2]; simp)] at hx1
        obtain ⟨y, hy⟩ : ∃ y, chr unq [10] (rest s k) = y := ⟨_, rfl⟩
        rw [hy] at hx1
        have hrk := HK.out.moved (grown_ext hG.out hx2)
        have hch := char_any unq unq_len r s ⟨#[10]⟩ k es ed w2 (hR.out.ext hx2) hrk.errs hrk.un hrk.errv y hy
        have hown2 := own_grown hown.out (grown_of_ext (row := none) hx2) (fun j hj => by cases hj)
        have HG := Lib.hid (grown_ext hG.out hx2)
        have HW := Lib.hid hown2
        clear hO hG hown hown2 hrk hx2 hR
        cases y with
        | none =>
          have HX := Lib.hid hx1
          clear hx1 hy
          go_wp2_with fail
          refine hch.mono ?_
          rintro e w3 ⟨v3, rfl, ⟨p, tp, rfl, hP⟩, hE⟩
          have HP := Lib.hid hP
          have HG3 := Lib.hid (grown_ext HG.out hE)
          clear hP hE hch
          go_wp2_with fail
          go_ret2
          rw [← HX.out]
          exact ⟨_, rfl, ⟨p, tp, rfl, HP.out⟩, HG3.out⟩
        | some bm =>
          obtain ⟨b, m⟩ := bm
          obtain ⟨hb, hm0, hml⟩ := chr_lt unq_len unq_byte hy
          simp only at hx1
          rw [← rest_drop] at hx1
          have HX := Lib.hid hx1
          clear hx1 hy
          go_wp2_with fail
          refine hch.mono ?_
          rintro e w3 ⟨rfl, hM⟩
          have hrl3 := rest_len hM.2.le
          have HR3 := Lib.hid hM.2
          have HG3 := Lib.hid (grown_trans HG.out hM.1)
          have hown := own_grown HW.out hM.1 (fun j hj => by cases hj; omega)
          have hsz3 := HG3.out.size
          clear hM hch HG HW
          go_wp2_with (at_builtin; refine wpList_append_own _ rfl (.tmp 23) (.tmp 25) 58 rfl w.heap.size 5 i0 (.int .u8 0) 1 1 Tryz.underlying58 hi hz0 hz1 hz2 rfl (by decide) _ _ _ rfl (hown.alloc _) ⟨w3.heap.size, 0, none⟩ 1 1 [_] rfl rfl (cell_one_new _ _ _) (by intro u hu; simp at hu; subst hu; rfl) (by unfold maxLen; omega) (by omega) (by simp; omega) ?_; intro v1 w4 hown1 hgrow1 hnil1)
          go_roundg g
          case rel =>
            have hg4 : w.grownBy w4 (some r) := by
              have h0 := grown_ext HG3.out (show Ext w3 (w3.alloc (.cells #[.int .u8 (b : Int)] 5)) from by (repeat' (first | (with_reducible exact Below.refl _ _) | (with_reducible assumption) | (with_reducible refine below_drewN ?_ _) | (with_reducible refine Below.alloc ?_ ?_ _) | (with_reducible refine Below.drew ?_) | (with_reducible refine Below.setCell ?_ ?_ _) | (with_reducible refine Below.trans ?_ (Below.mono (by with_reducible assumption) ?_)) | go_size)))
              exact ⟨hgrow1.os.trans h0.os, hgrow1.tape.trans h0.tape, hgrow1.output.trans h0.output, Nat.le_trans h0.size hgrow1.size, fun j hj hne => (hgrow1.block j (Nat.lt_of_lt_of_le hj h0.size) (fun e => by have := (hown.lt j e.symm).1; omega)).trans (h0.block j hj hne)⟩
            refine ⟨A ++ [UInt8.ofNat b], k + m, by omega, by simp; omega, HX, Lib.hid hg4, Lib.hid ?_, Lib.hid ?_⟩
            · exact (HR3.out.ext (show Ext w3 (w3.alloc (.cells #[.int .u8 (b : Int)] 5)) from by (repeat' (first | (with_reducible exact Below.refl _ _) | (with_reducible assumption) | (with_reducible refine below_drewN ?_ _) | (with_reducible refine Below.alloc ?_ ?_ _) | (with_reducible refine Below.drew ?_) | (with_reducible refine Below.setCell ?_ ?_ _) | (with_reducible refine Below.trans ?_ (Below.mono (by with_reducible assumption) ?_)) | go_size)))).grown hgrow1 (fun e => by have := (hown.lt r e).1; omega)
            · rw [List.length_append, List.map_append]
              have e : ([UInt8.ofNat b].map ub) = [.int .u8 (b : Int)] := by simp [ub]; omega
              rw [e]
              exact hown1
          case measure => exact Nat.lt_succ_self g
/-- What 'Unquote' says of a text at a place. -/
def uqs (s : ByteArray) (a : Int) : Sum Nat (List UInt8 × Nat) := quq unq (rest s (pos s a)) (pos s a)
def UnqEnd (w w' : World) (es : Addr) (e : Ending) : Sum Nat (List UInt8 × Nat) → Prop
  | .inl q => ∃ v, e = .returned (.tuple #[.string ⟨#[]⟩, .int .i64 0, v]) ∧ Placed w' v es q ∧ Ext w w'
  | .inr (A, m) => e = .returned (.tuple #[.string ⟨A.toArray⟩, .int .i64 m, .nilIface]) ∧ Ext w w'
set_option maxHeartbeats 4000000 in
set_option maxRecDepth 20000 in
theorem unquote_any (s : ByteArray) (a : Int) (es ed : Addr) (hs : s.size ≤ 4294967000) (w : World) (hK : Kn w es ed) (x : Sum Nat (List UInt8 × Nat)) (hx : uqs s a = x) :
    Calls Tryz.prog 30 #[.string s, .int .i64 a] w fun e w' => UnqEnd w w' es e x := by
  have hbg := fun w => begin_any s a hs w
  unfold uqs at hx
  generalize pos s a = i at hbg hx
  have HX := Lib.hid hx
  have HK := Lib.hid hK
  clear hx hK
  go_enter Tryz.func30, Tryz.ntmps30
  go_wp2_with fail
  refine (hbg _).mono ?_
  rintro e w1 ⟨r, rfl, hr, hx1, hR1⟩
  have hq := quoted_any r s i es ed w1 hR1 (HK.out.rk hx1 hr) x HX.out
  have HX1 := Lib.hid hx1
  have HC := Lib.hid hq
  clear hx1 hq hbg HX hR1
  go_wp2_with fail
  refine HC.out.mono ?_
  rintro e w2 hres
  cases x with
  | inl q =>
    obtain ⟨v, rfl, ⟨p, tp, rfl, hP⟩, hG⟩ := hres
    have HP := Lib.hid (And.intro hP (ext_of_own HX1.out hG hr))
    clear hP hG HC HX1
    go_wp2_with fail
    go_ret3
    exact ⟨_, rfl, ⟨p, tp, rfl, HP.out.1⟩, HP.out.2⟩
  | inr Am =>
    obtain ⟨A, m⟩ := Am
    obtain ⟨rfl, hM⟩ := hres
    have HM := Lib.hid hM.2
    have HG := Lib.hid (ext_of_own HX1.out hM.1 hr)
    clear hM HC HX1
    go_wp2_with fail
    refine G.wp_region_stab (G := Ext) (fun _ => none) (by kernel_rfl) (by kernel_rfl) (fun _ _ h => by cases h) (fun hex => ?_)
    iterate 8
      (refine G.wpS_one (A := ?_) hex rfl rfl (by simp) ?_ ?_ ?_
       rotate_left 2
       · intro w' hC K hK
         have c1 := (HM.out.ext hC.1).blk.cell 1
         go_wp2_with (fail)
         refine hK _ ?_
         first | exact Below.refl _ _ | assumption | ((repeat' (first | (with_reducible exact Below.refl _ _) | (with_reducible assumption) | (with_reducible refine below_drewN ?_ _) | (with_reducible refine Below.alloc ?_ ?_ _) | (with_reducible refine Below.drew ?_) | (with_reducible refine Below.setCell ?_ ?_ _) | (with_reducible refine Below.trans ?_ (Below.mono (by with_reducible assumption) ?_)) | go_size)))
       rotate_left 1
       · rfl
       clear hex; intro hex)
    refine G.wpS_nil fun w4 hAll => ?_
    have HG4 := Lib.hid (bel_call HG.out hAll.1)
    clear hAll hex HG HM
    go_wp2_with fail
    go_ret3
    exact ⟨rfl, HG4.out⟩
end Go.Proofs.YtnecafokkhhhhaaGreatDoor
