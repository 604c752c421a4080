/- rows.classesOf: of each byte its class, and each class's first byte. -/
import Derived.Test.YtgcjclglhijchaaDoorCos
import Derived.Test.YtgcjclglhijchaaDoorNrw
namespace Go.Proofs.YtgcjclglhijchaaDoor
open Go Go.RowKit Go.Maps
abbrev fq15 : Value := .func (.func 52) #[] #[]
set_option maxHeartbeats 2000000 in
set_option maxRecDepth 20000 in
theorem clo15_any {w : World} {B p ab lk xb f c : Nat} {R : List (List Int)} {cs : List Value} {a : Option Addr} {k : Nat} (hC : Cols w B (.slice a 256 k) 256 p R cs) (h1 : Blk w ab #[fq15] 89) (h2 : Blk w lk #[.slice a 256 k] 87) (h3 : Blk w xb #[cs.getD c nilS] 86)
    (hf : f < 256) (hc : c < 256) (hp : R.length ≤ p * 8) (hp6 : p ≤ 76) :
    Calls Tryd.prog 68 #[.int .i64 (f : Int), .pointer (some ⟨ab, 0, none⟩), .pointer (some ⟨lk, 0, none⟩), .pointer (some ⟨xb, 0, none⟩)] w fun e w' => e = .returned (.bool (alike R f c)) ∧ Ext w w' := by
  have HA := Lib.hid (cfull_eq R f c hp)
  have hcl : cs.length = 256 := by have := hC.own.1; omega
  obtain ⟨gl, kl, hal, -, -, -, -⟩ := own_some hC.own (by decide)
  cases hal
  obtain ⟨g1, e1, o1⟩ := hC.col f hf
  obtain ⟨g2, e2, o2⟩ := hC.col c hc
  have hcell : w.cell? ⟨gl, f, none⟩ = some (.slice (some ⟨g1, 0, none⟩) p p) := by
    rw [hC.own.cellAt f (by omega), ← e1, getD_get (by omega), List.getElem?_eq_getElem]
  rw [e2] at h3
  have HCE := Lib.hid hcell
  have H1 := Lib.hid h1
  have H2 := Lib.hid h2
  have H3 := Lib.hid h3
  have HL := Lib.hid (hC.own.lt gl rfl)
  have HEQ := Lib.hid (fun w' (hx : Ext w w') => eqcol_any (cfull R p f) (cfull R p c) p B B (.slice (some ⟨g1, 0, none⟩) p p) (.slice (some ⟨g2, 0, none⟩) p p) w' ⟨g1, rfl, by rw [← e1]; exact own_ex o1 hx⟩ ⟨g2, rfl, by rw [← e2]; exact own_ex o2 hx⟩ (cfull_len R f hp) (cfull_len R c hp) hp6)
  rw [HA.out] at HEQ
  clear hC h1 h2 h3 hcl e1 e2 o1 o2 hcell HA hp
  generalize alike R f c = bb at *
  go_enter Tryd.func68, Tryd.ntmps68
  go_upto_region 1 with fail
  refine G.wp_region_stab (G := Ext) (fun _ => none) (by kernel_rfl) (by kernel_rfl) (fun _ _ h => by cases h) (fun hex => ?_)
  iterate 6
    (refine G.wpS_one (A := ?_) hex rfl rfl (by simp) ?_ ?_ ?_
     rotate_left 2
     · intro w' hC K hK
       have q1 := (H1.out.ext hC.1).cell 0; have q2 := (H2.out.ext hC.1).cell 0; have q3 := (H3.out.ext hC.1).cell 0; have q4 := (hC.1.cell (p := ⟨gl, f, none⟩) HL.out.2).trans HCE.out
       go_wp2_with (fail)
       refine hK _ ?_
       first | exact Below.refl _ _ | assumption | ((repeat' (first | (with_reducible exact Below.refl _ _) | (with_reducible assumption) | (with_reducible refine below_drewN ?_ _) | (with_reducible refine Below.alloc ?_ ?_ _) | (with_reducible refine Below.drew ?_) | (with_reducible refine Below.setCell ?_ ?_ _) | (with_reducible refine Below.trans ?_ (Below.mono (by with_reducible assumption) ?_)) | go_size)))
     rotate_left 1
     · rfl
     clear hex; intro hex)
  refine G.wpS_one (A := ?_) hex rfl rfl (by simp) ?_ ?_ ?_
  rotate_left 2
  · intro w' hC K hK
    skip
    go_wp2_with (refine (HEQ.out w' hC.1).mono ?_; rintro e w9 ⟨rfl, x9⟩)
    refine hK _ ?_
    first | exact Below.refl _ _ | assumption | ((repeat' (first | (with_reducible exact Below.refl _ _) | (with_reducible assumption) | (with_reducible refine below_drewN ?_ _) | (with_reducible refine Below.alloc ?_ ?_ _) | (with_reducible refine Below.drew ?_) | (with_reducible refine Below.setCell ?_ ?_ _) | (with_reducible refine Below.trans ?_ (Below.mono (by with_reducible assumption) ?_)) | go_size)))
  rotate_left 1
  · rfl
  clear hex; intro hex
  refine G.wpS_one (A := ?_) hex rfl rfl (by simp) ?_ ?_ ?_
  rotate_left 2
  · intro w' hC K hK
    go_wp2_with (fail)
    refine hK _ ?_
    first | exact Below.refl _ _ | assumption | ((repeat' (first | (with_reducible exact Below.refl _ _) | (with_reducible assumption) | (with_reducible refine below_drewN ?_ _) | (with_reducible refine Below.alloc ?_ ?_ _) | (with_reducible refine Below.drew ?_) | (with_reducible refine Below.setCell ?_ ?_ _) | (with_reducible refine Below.trans ?_ (Below.mono (by with_reducible assumption) ?_)) | go_size)))
  rotate_left 1
  · rfl
  clear hex; intro hex
  refine G.wpS_nil fun w6 hAll => ?_
  have HE := Lib.hid hAll.1
  clear hAll hex
  go_wp2_with fail
  go_ret
  exact ⟨rfl, HE.out⟩
theorem findIdx_take {E : Nat → Bool} {F : List Nat} {i : Nat} (hi : i < F.length) (h : ∀ j (hj : j < F.length), j < i → E F[j] = false) : (E F[i] = true → F.findIdx E = i) := fun hq => by
  rw [List.findIdx_eq hi]
  exact ⟨hq, fun j hji => by have := h j (by omega) hji; simpa using this⟩
theorem findIdx_none {E : Nat → Bool} {F : List Nat} (h : ∀ j (hj : j < F.length), E F[j] = false) : F.findIdx E = F.length := by
  rw [List.findIdx_eq_length]
  intro x hx
  obtain ⟨j, hj, rfl⟩ := List.getElem_of_mem hx
  exact h j hj
def idxV (E : Nat → Bool) (F : List Nat) : Int := if F.findIdx E < F.length then ((F.findIdx E : Nat) : Int) else -1
set_option maxHeartbeats 2000000 in
set_option maxRecDepth 20000 in
theorem idx15_any (E : Nat → Bool) (F : List Nat) (vf : Value) (cap : Array Value) (w : World) (hF : Ints w vf (nzl F)) (hcl : ∀ w', Ext w w' → ∀ f ∈ F, Calls Tryd.prog 68 (#[.int .i64 (f : Int)] ++ cap) w' fun e w'' => e = .returned (.bool (E f)) ∧ Ext w' w'') :
    Calls Tryd.prog 67 #[vf, .func (.func 68) #[] cap] w fun e w' => e = .returned (.int .i64 (idxV E F)) ∧ Ext w w' := by
  obtain ⟨a, k, rfl, _⟩ := hF.shape
  have hnl : (nzl F).length = F.length := by simp
  have H := hF
  rw [hnl] at H
  rw [hnl]
  have H := Lib.hid H
  have HCL := Lib.hid hcl
  obtain ⟨m, hm⟩ : ∃ m, F.length = m := ⟨_, rfl⟩
  have hm2 : m ≤ 140737488355328 := by obtain ⟨_, _, _, _, h, _⟩ := hF.shape; rw [← hm]; simpa using h
  rw [hm] at H ⊢
  have HM := Lib.hid hm
  clear hF hcl hnl hm
  go_enter Tryd.func67, Tryd.ntmps67
  go_wp2_with fail
  go_loopw [8] (fun s8 wr => ∃ i : Nat, i ≤ m ∧ s8 = .int .i64 i ∧ Hid (∀ j (hj : j < F.length), j < i → E F[j] = false) ∧ Hid (Ext w wr)) (fun s8 _ => m - (intOf s8).toNat)
  case atStart => exact ⟨0, Nat.zero_le _, rfl, Lib.hid (fun j _ h => by omega), Lib.hid (Below.refl _ _)⟩
  case round =>
    obtain ⟨i, hi, rfl, hall, hE⟩ := hrel
    by_cases him : i < m
    · have hiF : i < F.length := by rw [HM.out]; exact him
      obtain ⟨b, o, rfl, hb, hc, -, -⟩ := (H.out.ext hE.out).cell (k := i) (by simpa using hiF)
      have hf : (nzl F)[i]'(by simpa using hiF) = ((F[i] : Nat) : Int) := by simp
      rw [hf] at hc
      have HC := Lib.hid (HCL.out wr hE.out F[i] (List.getElem_mem hiF))
      have HHIT := Lib.hid (findIdx_take hiF hall.out)
      obtain ⟨f, hff⟩ : ∃ f, F[i] = f := ⟨_, rfl⟩
      rw [hff] at hc HC HHIT
      have HFF := Lib.hid hff
      clear hf hff
      cases hq : E f
      · rw [hq] at HC
        have HQ := Lib.hid hq
        clear hq
        go_wp2_with fail
        refine HC.out.mono ?_
        rintro e w7 ⟨rfl, x7⟩
        have E7 := Lib.hid (bel_call hE.out x7)
        clear x7
        go_wp2_with fail
        go_roundw
        case rel => exact ⟨i + 1, by omega, by go_num, Lib.hid (fun j hj hji => by
          by_cases e : j = i
          · subst e; rw [HFF.out]; exact HQ.out
          · exact hall.out j hj (by omega)), E7⟩
        case measure => simp [intOf]; omega
      · rw [hq] at HC
        have HR := Lib.hid (show idxV E F = (i : Int) by unfold idxV; rw [HHIT.out hq, if_pos hiF])
        clear hq
        go_wp2_with fail
        refine HC.out.mono ?_
        rintro e w7 ⟨rfl, x7⟩
        have E7 := Lib.hid (bel_call hE.out x7)
        clear x7
        go_wp2_with fail
        go_ret
        exact ⟨by rw [HR.out]; rfl, E7.out⟩
    · have HR := Lib.hid (show idxV E F = -1 by
        unfold idxV
        rw [findIdx_none (fun j hj => hall.out j hj (by have := HM.out; omega)), if_neg (by omega)])
      go_wp2_with fail
      go_ret
      exact ⟨by rw [HR.out]; rfl, hE.out⟩
theorem clsN_two {E : Nat → Nat → Bool} (c : Nat) : (clsN E (c + 1)).1 = (clsN E c).1 ++ [(((clsN E c).2.findIdx fun f => E f c : Nat) : Int)] ∧ (clsN E (c + 1)).2 = if (clsN E c).2.findIdx (fun f => E f c) = (clsN E c).2.length then (clsN E c).2 ++ [c] else (clsN E c).2 := ⟨rfl, rfl⟩
set_option maxHeartbeats 4000000 in
set_option maxRecDepth 20000 in
theorem clsof_any {w : World} {B p k : Nat} {R : List (List Int)} {cs : List Value} {a : Option Addr} (hC : Cols w B (.slice a 256 k) 256 p R cs) (hp : R.length ≤ p * 8) (hp6 : p ≤ 76) :
    Calls Tryd.prog 50 #[.slice a 256 k, fq15] w fun e w' => ∃ v1 v2, e = .returned (.tuple #[v1, v2]) ∧ w'.ownsRow w.heap.size 3 1 v1 256 ((clsN (alike R) 256).1.map iv) ∧ w'.ownsRow w.heap.size 3 1 v2 (clsN (alike R) 256).2.length ((clsN (alike R) 256).2.map nv) ∧ Dj v1 v2 ∧ Ext w w' := by
  obtain ⟨i0, hi, hz0, hz1, hz2⟩ := info_parts info_int
  obtain ⟨gl, kl, hal, -, -, hgl, -⟩ := own_some hC.own (by decide)
  cases hal
  have HC := Lib.hid hC
  have HPP := Lib.hid (And.intro hp hp6)
  have hxa : Ext w ((w.alloc (.cells #[.slice (some ⟨gl, 0, none⟩) 256 k] 87)).alloc (.cells #[fq15] 89)) := by go_grown
  have HXA := Lib.hid hxa
  have BA := Lib.hid ((Blk.new w #[.slice (some ⟨gl, 0, none⟩) 256 k] 87).alloc (.cells #[fq15] 89))
  have BB := Lib.hid (Blk.new (w.alloc (.cells #[.slice (some ⟨gl, 0, none⟩) 256 k] 87)) #[fq15] 89)
  rw [show (w.alloc (.cells #[.slice (some ⟨gl, 0, none⟩) 256 k] 87)).heap.size = w.heap.size + 1 by simp] at BB
  clear hC hp hp6 hxa
  go_enter Tryd.func50, Tryd.ntmps50
  go_wp2_with fail
  generalize (w.alloc (.cells #[.slice (some ⟨gl, 0, none⟩) 256 k] 87)).alloc (.cells #[fq15] 89) = w1 at *
  go_loopw [11, 4, 5] (fun s11 s4 s5 wr => ∃ c : Nat, c ≤ 256 ∧ s11 = .int .i64 c ∧ Hid (wr.ownsRow (w.heap.size + 2) 3 1 s4 c ((clsN (alike R) c).1.map iv)) ∧ Hid (wr.ownsRow (w.heap.size + 2) 3 1 s5 (clsN (alike R) c).2.length ((clsN (alike R) c).2.map nv)) ∧ Hid (Dj s4 s5) ∧ Hid (Ext w wr) ∧ Hid (Blk wr w.heap.size #[.slice (some ⟨gl, 0, none⟩) 256 k] 87) ∧ Hid (Blk wr (w.heap.size + 1) #[fq15] 89)) (fun s11 _ _ _ => 256 - (intOf s11).toNat)
  case atStart => exact ⟨0, Nat.zero_le _, rfl, Lib.hid (own_nil _ _ _ _), Lib.hid (own_nil _ _ _ _), Lib.hid (Dj.nil _), HXA, BA, BB⟩
  case round =>
    clear HXA BA BB
    obtain ⟨c, hc, rfl, OC, OF, HDJ, hE, hA, hB⟩ := hrel
    obtain ⟨a4, k4, rfl⟩ := own_shp OC.out
    obtain ⟨a5, k5, rfl⟩ := own_shp OF.out
    have hfl := (clsN_fst_le (E := alike R) c).1
    have HFM := Lib.hid (clsN_fst_le (E := alike R) c).2
    have HTW := Lib.hid (clsN_two (E := alike R) c)
    obtain ⟨m, hm⟩ : ∃ m, (clsN (alike R) c).2.length = m := ⟨_, rfl⟩
    rw [hm] at hfl OF HDJ
    rw [hm]
    have HM := Lib.hid hm
    clear hm
    by_cases hcl : c < 256
    · have hsz : w.heap.size + 2 ≤ wr.heap.size := by have := hB.out.lt; omega
      have hcs : cs.length = 256 := by have := HC.out.own.1; omega
      obtain ⟨g2, e2, o2⟩ := HC.out.col c hcl
      have hcc : w.cell? ⟨gl, c, none⟩ = some (.slice (some ⟨g2, 0, none⟩) p p) := by
        rw [HC.out.own.cellAt c (by omega), ← e2, getD_get (by omega), List.getElem?_eq_getElem]
      have kc := (hE.out.cell (p := ⟨gl, c, none⟩) hgl).trans hcc
      have HE2 := Lib.hid e2
      have x7 := ext_box wr #[.slice (some ⟨g2, 0, none⟩) p p] 86
      have HF7 : Hid (Ints (wr.alloc (.cells #[.slice (some ⟨g2, 0, none⟩) p p] 86)) (.slice a5 m k5) (nzl (clsN (alike R) c).2)) := Lib.hid (by
        refine ⟨?_, fun x hx => ?_⟩
        · have h := own_ex OF.out x7
          rw [show (clsN (alike R) c).2.map nv = (nzl (clsN (alike R) c).2).map iv by simp [List.map_map, Function.comp_def]] at h
          rw [show (nzl (clsN (alike R) c).2).length = m by rw [List.length_map]; exact HM.out]
          exact Slc.of_own h (by omega)
        · obtain ⟨f, hf, rfl⟩ := List.mem_map.1 hx
          have := HFM.out f hf
          omega)
      have HIC := Lib.hid (idx15_any (fun f => alike R f c) _ _ #[.pointer (some ⟨w.heap.size + 1, 0, none⟩), .pointer (some ⟨w.heap.size, 0, none⟩), .pointer (some ⟨wr.heap.size, 0, none⟩)] _ HF7.out (fun w' hx f hf =>
        clo15_any (HC.out.ext (bel_call hE.out (bel_call x7 hx))) (hB.out.ext (bel_call x7 hx)) (hA.out.ext (bel_call x7 hx)) (by rw [HE2.out]; exact (Blk.new wr #[.slice (some ⟨g2, 0, none⟩) p p] 86).ext hx) (by have := HFM.out f hf; omega) hcl HPP.out.1 HPP.out.2))
      have X7 := Lib.hid x7
      have HIV : Hid (idxV (fun f => alike R f c) (clsN (alike R) c).2 = if (clsN (alike R) c).2.findIdx (fun f => alike R f c) < m then (((clsN (alike R) c).2.findIdx (fun f => alike R f c) : Nat) : Int) else -1) := Lib.hid (by unfold idxV; rw [HM.out])
      have hfle : (clsN (alike R) c).2.findIdx (fun f => alike R f c) ≤ m := by rw [← HM.out]; exact List.findIdx_le_length
      obtain ⟨j, hj⟩ : ∃ j, (clsN (alike R) c).2.findIdx (fun f => alike R f c) = j := ⟨_, rfl⟩
      rw [hj] at hfle HIV
      have HIX := Lib.hid hj
      clear e2 o2 hcc x7 HF7 hj hcs
      go_wp2_with fail
      refine HIC.out.mono ?_
      rintro e w7 ⟨rfl, hx7⟩
      have hx := bel_call X7.out hx7
      have OC7 := Lib.hid (own_ex OC.out hx)
      have OF7 := Lib.hid (own_ex OF.out hx)
      have E7 := Lib.hid (bel_call hE.out hx)
      have B7a := Lib.hid (hA.out.ext hx)
      have B7b := Lib.hid (hB.out.ext hx)
      have hs7 := hx.size
      rw [HIV.out]
      clear hx hx7 HIC X7 OC OF hE hA hB kc
      by_cases hjm : j < m
      · rw [if_pos hjm]
        have hjl : ((clsN (alike R) c).2.findIdx fun f => alike R f c) ≠ (clsN (alike R) c).2.length := by rw [HIX.out, HM.out]; omega
        have OC8 := OC7
        have OF8 := OF7
        have D8 := HDJ
        have E8 := E7
        have B8a := B7a
        have B8b := B7b
        have hs8 : w7.heap.size ≤ w7.heap.size := Nat.le_refl _
        have HJL := Lib.hid hjl
        clear hjl
        go_upto_region 9 with (at_builtin; refine wpList_append_own_at _ rfl (.tmp 27) (.tmp 29) 26 rfl (w.heap.size + 2) 3 i0 (.int .i64 0) 1 8 Tryd.underlying26 hi hz0 hz1 hz2 rfl (by decide) _ _ _ rfl (OC8.out.alloc _) ⟨_, 0, none⟩ 1 1 [iv ((j : Int))] rfl rfl (cell_nwb _ [iv ((j : Int))] _ _ (by simp)) (iv_one _) (by unfold maxLen; omega) (by omega) (by simp; omega) ?_; intro v9 w9 hown9 hgrow9 hnil9 hloc9; obtain ⟨a9, c9, rfl⟩ := own_shp hown9)
        have f9 := ap_fr hgrow9
        have OF9 := Lib.hid (f9.own OF8.out (fun g hg q => D8.out g q hg))
        have D9 := Lib.hid (ap_dj hloc9 OF8.out D8.out)
        have E9 := Lib.hid (ap_ext E8.out (by omega) OC8.out f9)
        have B9a := Lib.hid (f9.blk B8a.out (fun q => by have := (OC8.out.lt _ q).1; omega))
        have B9b := Lib.hid (f9.blk B8b.out (fun q => by have := (OC8.out.lt _ q).1; omega))
        have OC9 := Lib.hid hown9
        clear hown9 hgrow9 hnil9 hloc9 f9
        go_wp2_with fail
        go_roundw
        case rel =>
          refine ⟨c + 1, by omega, by go_num, Lib.hid ?_, Lib.hid ?_, D9, E9, B9a, B9b⟩
          · rw [(HTW.out).1, HIX.out, List.map_append]
            first | exact OC9.out | (rw [HJM.out]; exact OC9.out)
          · rw [(HTW.out).2, HIX.out]
            (rw [if_neg (by have := HM.out; omega)]; rw [HM.out]; exact OF9.out)
        case measure => simp [intOf]; omega
      · rw [if_neg hjm]
        have hjm2 : j = m := by omega
        have HJM := Lib.hid hjm2
        clear hjm2
        go_upto_region 8 with (at_builtin; refine wpList_append_own_at _ rfl (.tmp 23) (.tmp 25) 26 rfl (w.heap.size + 2) 3 i0 (.int .i64 0) 1 8 Tryd.underlying26 hi hz0 hz1 hz2 rfl (by decide) _ _ _ rfl (OF7.out.alloc _) ⟨_, 0, none⟩ 1 1 [nv c] rfl rfl (cell_nwb _ [nv c] _ _ (by simp)) (iv_one _) (by unfold maxLen; omega) (by omega) (by simp; omega) ?_; intro v8 w8 hown8 hgrow8 hnil8 hloc8; obtain ⟨a8, c8, rfl⟩ := own_shp hown8)
        have f8 := ap_fr hgrow8
        have OC8 := Lib.hid (f8.own OC7.out (fun g hg q => HDJ.out g hg q))
        have D8 := Lib.hid (ap_dj hloc8 OC7.out HDJ.out.symm).symm
        have E8 := Lib.hid (ap_ext E7.out (by omega) OF7.out f8)
        have B8a := Lib.hid (f8.blk B7a.out (fun q => by have := (OF7.out.lt _ q).1; omega))
        have B8b := Lib.hid (f8.blk B7b.out (fun q => by have := (OF7.out.lt _ q).1; omega))
        have OF8 := Lib.hid hown8
        have hs8 := f8.2.2.2.1
        clear hown8 hgrow8 hnil8 hloc8 f8
        go_upto_region 9 with (at_builtin; refine wpList_append_own_at _ rfl (.tmp 27) (.tmp 29) 26 rfl (w.heap.size + 2) 3 i0 (.int .i64 0) 1 8 Tryd.underlying26 hi hz0 hz1 hz2 rfl (by decide) _ _ _ rfl (OC8.out.alloc _) ⟨_, 0, none⟩ 1 1 [iv ((m : Int))] rfl rfl (cell_nwb _ [iv ((m : Int))] _ _ (by simp)) (iv_one _) (by unfold maxLen; omega) (by omega) (by simp; omega) ?_; intro v9 w9 hown9 hgrow9 hnil9 hloc9; obtain ⟨a9, c9, rfl⟩ := own_shp hown9)
        have f9 := ap_fr hgrow9
        have OF9 := Lib.hid (f9.own OF8.out (fun g hg q => D8.out g q hg))
        have D9 := Lib.hid (ap_dj hloc9 OF8.out D8.out)
        have E9 := Lib.hid (ap_ext E8.out (by omega) OC8.out f9)
        have B9a := Lib.hid (f9.blk B8a.out (fun q => by have := (OC8.out.lt _ q).1; omega))
        have B9b := Lib.hid (f9.blk B8b.out (fun q => by have := (OC8.out.lt _ q).1; omega))
        have OC9 := Lib.hid hown9
        clear hown9 hgrow9 hnil9 hloc9 f9
        go_wp2_with fail
        go_roundw
        case rel =>
          refine ⟨c + 1, by omega, by go_num, Lib.hid ?_, Lib.hid ?_, D9, E9, B9a, B9b⟩
          · rw [(HTW.out).1, HIX.out, List.map_append]
            first | exact OC9.out | (rw [HJM.out]; exact OC9.out)
          · rw [(HTW.out).2, HIX.out]
            (rw [if_pos (by have := HM.out; have := HJM.out; omega), List.length_append, List.map_append, HM.out]; exact OF9.out)
        case measure => simp [intOf]; omega
    · have ec : c = 256 := by omega
      have HEC := Lib.hid ec
      clear ec
      go_wp2_with fail
      go_ret2
      have OC9 := OC.out
      have OF9 := OF.out
      rw [HEC.out] at OC9
      have HM9 := HM.out
      rw [HEC.out] at HM9 OF9
      refine ⟨_, _, rfl, ?_, ?_, ?_, hE.out⟩
      · rw [HEC.out]; exact OC9.mono (by omega)
      · rw [HM9]; exact OF9.mono (by omega)
      · exact HDJ.out
end Go.Proofs.YtgcjclglhijchaaDoor
