/- LengthTrails: the walk. -/
import Derived.Test.YtnmdfhnfheekgaaDoorXtw
import Derived.Test.YtnmdfhnfheekgaaDoorLt3
import Derived.Test.YtnmdfhnfheekgaaDoorWk8
import Derived.Test.YtnmdfhnfheekgaaDoorSz
import Derived.Test.YtnmdfhnfheekgaaDoorLlp
import Derived.Deep.CutBlock
import Derived.Deep.QuietTactic
import Derived.BigQuiet
import Derived.IntWalk
import Derived.Deep.CutRange
import Derived.Deep.RegionLaw
namespace Go.Proofs.YtnmdfhnfheekgaaDoor
open Go Go.RowKit
theorem info_core : (Tryd.prog.info? 48).map (fun i => (i.zero, i.size, i.bytes)) = some (some (.agg #[.int .i64 0, .int .i64 0, .int .u64 0, .int .u64 0, .int .u64 0, .int .u64 0, .string ⟨#[]⟩, .int .i64 0, .int .i64 0, .slice none 0 0, .bool false, .int .i64 0, .int .i64 0, .int .u64 0, .int .u64 0, .int .u64 0, .int .u64 0, .string ⟨#[]⟩, .int .i64 0, .int .i64 0, .slice none 0 0]), 21, 216) := by kernel_rfl
theorem blk_gr2 {w w' : World} {b base e sz n : Nat} {vs : Array Value} {t : TypeId} {v : Value} {xs : List Value} {w0 : World} (h : Blk w b vs t) (hg : w.grownBy w' v.ownBlock) (ho : w0.ownsRow base e sz v n xs) (hb : w0.heap.size ≤ b) : Blk w' b vs t := by
  have := h.lt
  unfold Blk at *
  rw [hg.block b this (fun e => by have := (ho.lt b e.symm).2; omega)]; exact h
instance : G.GOK Ext := ⟨fun w => Below.refl _ w, fun h k => bel_call h k, fun _ => ⟨rfl, rfl, rfl, Nat.le_refl _, fun _ _ => rfl⟩⟩
set_option maxHeartbeats 8000000 in
set_option maxRecDepth 20000 in
theorem trails_round (L : List (Xp × Xp)) (a : Option Addr) (c : Nat) (ea : Nat → Addr) (w : World) (hx : Tat w w.heap.size a L) (hlen : L.length ≤ maxLen) (hS : Sent w ea) (hG : ErrT w) (hA : Ag w (ea 13) (ea 8)) :
    Calls Tryd.prog 6 #[.slice a L.length c] w fun e w' => e = .returned (.bool true) ∧ Ext w w' := by
  have HX := Lib.hid hx
  have HA := Lib.hid hA
  have HSG := Lib.hid (And.intro hS hG)
  have hmx : maxLen ≤ 9223372036854775807 := by decide
  have hl1 : L.length ≤ 9223372036854775807 := by omega
  obtain ⟨i0, hi, hz0, hz1, hz2⟩ := info_parts info_core
  have HWK := Lib.hid (fun w h => wakes8_any (ea 13) (ea 8) w h)
  clear hx hS hG hA hlen hmx
  go_enter Tryd.func6, Tryd.ntmps6
  go_wp2_with fail
  go_loopw [3, 4, 5] (fun v q i wr => ∃ (k m bd : Nat) (T : List Qd), k ≤ L.length ∧ k ≤ 20 ∧ i = .int .i64 k ∧ q = .int .i64 bd ∧ T.length = m ∧ m ≤ k ∧ Hid (Bd (T.map (·.1)) bd) ∧ Hid (wr.ownsRow w.heap.size 48 21 v m (crl T)) ∧ Hid (TOk w T) ∧ Hid (Ext w wr)) (fun _ _ i _ => L.length - (intOf i).toNat)
  case atStart => exact ⟨0, 0, 0, [], Nat.zero_le _, by omega, rfl, rfl, rfl, Nat.le_refl _, Lib.hid Bd.nil, Lib.hid (own_nil _ _ _ _), Lib.hid (fun t ht => by cases ht), Lib.hid (Below.refl _ _)⟩
  case round =>
    obtain ⟨k, m, bd, T, hk, hk20, rfl, rfl, hTl, hmk, hBd, hown, hel, hEr⟩ := hrel
    obtain ⟨va, vc, rfl⟩ := own_shp hown.out
    by_cases hkl : k < L.length
    · have k1 : decide ((k : Int) < (L.length : Int)) = true := by simp; omega
      by_cases hk2 : k < 20
      · have k2 : decide ((k : Int) < (20 : Int)) = true := by simp; omega
        obtain ⟨b, o, rfl, hbb, x, y, a1, c1', a2, c2', _, hokx, hoky, hxa, hya, hp⟩ := (HX.out).cells hkl
        have HPC := Lib.hid (fun w' (h : Ext w w') => hp.ext hbb h)
        have HXS := Lib.hid (fun w' (h : Ext w w') => size_any x 0 0 a1 c1' w' rfl (by omega) (hxa.ext h))
        have HYS := Lib.hid (fun w' (h : Ext w w') => size_any y 0 0 a2 c2' w' rfl (by omega) (hya.ext h))
        have HXO := Lib.hid (fun w' (h : Ext w w') => lenof_any x a1 c1' (ea 13) (ea 8) w' (hxa.ext h) (HA.out.ext h))
        have HYO := Lib.hid (fun w' (h : Ext w w') => lenof_any y a2 c2' (ea 13) (ea 8) w' (hya.ext h) (HA.out.ext h))
        have HQ := Lib.hid (QdOk.mk (t := (⟨x, true, y⟩, (a1, c1'), (a2, c2'))) hokx hoky hxa hya)
        have hszx := sz_le x 0 (by omega)
        have hszy := sz_le y 0 (by omega)
        generalize sz x 0 = SX at *
        generalize sz y 0 = SY at *
        have i0' : (0 : Int) ≤ (k : Int) := by omega
        have i1 : (k : Int) < (L.length : Int) := by omega
        have i2 : (k : Int) + 1 ≤ 21 := by omega
        obtain ⟨c0, c1, c2, c3, c4, c5, c6, c7, c8, c9, d0, d1, d2, d3, d4, d5, d6, d7, d8, d9⟩ := HPC.out wr hEr.out
        have HM := Lib.hid (And.intro hTl (And.intro hmk hk2))
        clear hxa hya hp hokx hoky hmk hk20 hTl
        by_cases hbig : 2000 < SX + SY
        · have d1' : decide ((2000 : Int) < (SX : Int) + (SY : Int)) = true := by simp; omega
          clear hbig
          as_aux_lemma =>
            go_wp2_with fail
            refine wp_region_stab (fun _ => none) (by kernel_rfl) (by kernel_rfl) (fun _ _ h => by cases h) (fun hex => ?_)
            iterate 14
              (refine wpS_one (A := ?_) hex rfl rfl (by simp) ?_ ?_ ?_
               rotate_left 2
               · intro w' hC K hK
                 obtain ⟨hcell, hfrz⟩ := bcell hC.1.ext
                 have hwE := bel_call hEr.out hC.1.ext; obtain ⟨c0, c1, c2, c3, c4, c5, c6, c7, c8, c9, d0, d1, d2, d3, d4, d5, d6, d7, d8, d9⟩ := HPC.out _ hwE; clear hcell hfrz
                 go_wp2_with (go_at_call 7; first | (with_reducible refine (HXS.out _ hwE).mono ?_; rintro e w2 ⟨rfl, hb2⟩) | (with_reducible refine (HYS.out _ hwE).mono ?_; rintro e w2 ⟨rfl, hb2⟩))
                 refine hK _ ?_
                 first | exact Gr.refl _ _ | exact Gr.of_ext (by assumption) hC.1.1.size
               rotate_left 1
               · rfl
               clear hex; intro hex)
            refine wpS_nil fun w2 hE => ?_
            replace hE := hE.1.ext
            obtain ⟨hcell_w2, hfrz_w2⟩ := bcell hE
            have XE := Lib.hid hE
            clear hE hex
            go_wp2_with fail
            go_roundw
            case rel => exact ⟨k + 1, m, bd, T, by omega, by omega, by go_num, rfl, HM.out.1, by have := HM.out.2.1; omega, hBd, Lib.hid (own_xt hown.out XE.out), hel, Lib.hid (bel_call hEr.out XE.out)⟩
            case measure => simp [intOf] <;> omega
        · have d1' : decide ((2000 : Int) < (SX : Int) + (SY : Int)) = false := by simp; omega
          obtain ⟨n1, l1, m1, hv1⟩ : ∃ (n : Bool) (l m : Int), lnv x = .agg #[.bool n, .int .i64 l, .int .i64 m] := by
            unfold lnv
            split
            · exact ⟨_, _, _, Wv.lv_eq _⟩
            · exact ⟨_, _, _, rfl⟩
          obtain ⟨n2, l2, m2, hv2⟩ : ∃ (n : Bool) (l m : Int), lnv y = .agg #[.bool n, .int .i64 l, .int .i64 m] := by
            unfold lnv
            split
            · exact ⟨_, _, _, Wv.lv_eq _⟩
            · exact ⟨_, _, _, rfl⟩
          rw [hv1] at HXO
          rw [hv2] at HYO
          by_cases hcx : Chk x
          · rw [lne_of hcx] at HXO
            by_cases hcy : Chk y
            · rw [lne_of hcy] at HYO
              have HV := Lib.hid (And.intro hv1 (And.intro hv2 (And.intro hcx hcy)))
              clear hv1 hv2 hcx hcy hbig
              as_aux_lemma =>
                go_wp2_with fail
                refine wp_region_stab (fun _ => none) (by kernel_rfl) (by kernel_rfl) (fun _ _ h => by cases h) (fun hex => ?_)
                iterate 14
                  (refine wpS_one (A := ?_) hex rfl rfl (by simp) ?_ ?_ ?_
                   rotate_left 2
                   · intro w' hC K hK
                     obtain ⟨hcell, hfrz⟩ := bcell hC.1.ext
                     have hwE := bel_call hEr.out hC.1.ext; obtain ⟨c0, c1, c2, c3, c4, c5, c6, c7, c8, c9, d0, d1, d2, d3, d4, d5, d6, d7, d8, d9⟩ := HPC.out _ hwE; clear hcell hfrz
                     go_wp2_with (go_at_call 7; first | (with_reducible refine (HXS.out _ hwE).mono ?_; rintro e w2 ⟨rfl, hb2⟩) | (with_reducible refine (HYS.out _ hwE).mono ?_; rintro e w2 ⟨rfl, hb2⟩))
                     refine hK _ ?_
                     first | exact Gr.refl _ _ | exact Gr.of_ext (by assumption) hC.1.1.size
                   rotate_left 1
                   · rfl
                   clear hex; intro hex)
                refine wpS_nil fun w2 hE => ?_
                replace hE := hE.1.ext
                obtain ⟨hcell_w2, hfrz_w2⟩ := bcell hE
                have XQ := Lib.hid hE
                have XE := Lib.hid hE
                clear hE hex c0 c1 c2 c3 c4 c5 c6 c7 c8 c9 d0 d1 d2 d3 d4 d5 d6 d7 d8 d9
                obtain ⟨c0, c1, c2, c3, c4, c5, c6, c7, c8, c9, d0, d1, d2, d3, d4, d5, d6, d7, d8, d9⟩ := HPC.out w2 (bel_call hEr.out XE.out)
                go_wp2_with fail
                refine (HXO.out _ (bel_call hEr.out XE.out)).mono ?_
                rintro e w3 ⟨rfl, x3⟩
                have hE3 : Ext w3 (w3.alloc (.cells #[.bool n1, .int .i64 l1, .int .i64 m1] 31)) := by go_grown
                have HB3 := Lib.hid (Blk.new w3 #[.bool n1, .int .i64 l1, .int .i64 m1] 31)
                clear c0 c1 c2 c3 c4 c5 c6 c7 c8 c9 d0 d1 d2 d3 d4 d5 d6 d7 d8 d9
                obtain ⟨c0, c1, c2, c3, c4, c5, c6, c7, c8, c9, d0, d1, d2, d3, d4, d5, d6, d7, d8, d9⟩ := HPC.out _ (bel_call hEr.out (bel_call (bel_call XE.out x3) hE3))
                go_wp2_with fail
                generalize w3.alloc (.cells #[.bool n1, .int .i64 l1, .int .i64 m1] 31) = w4 at *
                refine (HYO.out _ (bel_call hEr.out (bel_call (bel_call XE.out x3) hE3))).mono ?_
                rintro e w5 ⟨rfl, x5⟩
                have hE5 : Ext w5 (w5.alloc (.cells #[.bool n2, .int .i64 l2, .int .i64 m2] 31)) := by go_grown
                have hb5 := Blk.new w5 #[.bool n2, .int .i64 l2, .int .i64 m2] 31
                clear c0 c1 c2 c3 c4 c5 c6 c7 c8 c9 d0 d1 d2 d3 d4 d5 d6 d7 d8 d9
                have HB1 := Lib.hid (HB3.out.ext (bel_call x5 hE5))
                have HB2 := Lib.hid hb5
                have XE := Lib.hid (bel_call (bel_call (bel_call XE.out x3) hE3) (bel_call x5 hE5))
                have hs1 : wr.heap.size ≤ w3.heap.size := Nat.le_trans XQ.out.size x3.size
                have hs2 : wr.heap.size ≤ w5.heap.size := by have := hE3.size; have := x5.size; omega
                clear hE3 hE5 x3 x5 hb5
                obtain ⟨c0, c1, c2, c3, c4, c5, c6, c7, c8, c9, d0, d1, d2, d3, d4, d5, d6, d7, d8, d9⟩ := HPC.out _ (bel_call hEr.out XE.out)
                have hown2 := Lib.hid (own_xt hown.out XE.out)
                go_upto_region 10 with fail
                generalize w5.alloc (.cells #[.bool n2, .int .i64 l2, .int .i64 m2] 31) = w6 at *
                have hm20 : m ≤ 20 := by have := HM.out.2.1; have := HM.out.2.2; omega
                have hsw : w.heap.size ≤ w6.heap.size := Nat.le_trans hEr.out.size XE.out.size
                have hw6 := bel_call hEr.out XE.out
                have hm20' : m + 1 ≤ maxLen := by unfold maxLen; omega
                have hm21 : (m + 1) * 216 ≤ 140737488355328 := by omega
                refine G.wp_region_tail (G := Ext) (RsQ w6.heap.size (⟨x, true, y⟩, (a1, c1'), (a2, c2'))) 13 (by kernel_rfl) (by kernel_rfl) (RsQ_mono _ _) (fun hex => ?_)
                simp only [List.take_succ_cons, List.take_zero, List.drop_succ_cons, List.drop_zero]
                iterate 11
                  (refine G.wpS_one (A := ?_) hex rfl rfl (by simp) ?_ ?_ ?_
                   rotate_left 2
                   · intro w' hC K hK
                     have hwE := bel_call hw6 hC.1; obtain ⟨c0, c1, c2, c3, c4, c5, c6, c7, c8, c9, d0, d1, d2, d3, d4, d5, d6, d7, d8, d9⟩ := HPC.out _ hwE
                     go_wp2_with (fail)
                     refine hK _ ?_
                     first | exact Below.refl _ _ | assumption | ((repeat' (first | (with_reducible exact Below.refl _ _) | (with_reducible assumption) | (with_reducible refine below_drewN ?_ _) | (with_reducible refine Below.alloc ?_ ?_ _) | (with_reducible refine Below.drew ?_) | (with_reducible refine Below.setCell ?_ ?_ _) | (with_reducible refine Below.trans ?_ (Below.mono (by with_reducible assumption) ?_)) | go_size)))
                   rotate_left 1
                   · rfl
                   clear hex; intro hex)
                refine G.wpS_one (A := ?_) hex rfl rfl (by simp) ?_ ?_ ?_
                rotate_left 2
                · intro w' hC K hK
                  refine wpList_core rfl (.tmp 69) (.const (.bool true)) (.tmp 74) rfl ⟨x, true, y⟩ a1 a2 c1' c2' rfl rfl rfl ?_
                  exact hK _ (Below.refl _ _)
                rotate_left 1
                · rfl
                clear hex; intro hex
                simp only [Act.put, List.setIfInBounds_toArray, List.set_cons_succ, List.set_cons_zero]
                refine G.wpS_rel (fun v w => OneQ w6.heap.size (⟨x, true, y⟩, (a1, c1'), (a2, c2')) v w) rfl rfl (by simp) (by first | rfl | (simp [Region.wanted, yielded]; done)) ?_ ?_
                · intro w' hC K hK
                  refine wpList_core1 rfl (.tmp 75) rfl ⟨x, true, y⟩ a1 a2 c1' c2' rfl ?_
                  exact hK _ _ ((Below.refl _ _).alloc (Nat.le_refl _) _) ⟨_, rfl, hC.1.size, by simp, Blk.new _ _ _⟩
                clear hex
                intro v1 w' hex hv1
                replace hex := Exists.intro w' hex
                simp only [Act.put, List.setIfInBounds_toArray, List.set_cons_succ, List.set_cons_zero]
                refine G.wpS_nil fun w7 hAll => ?_
                obtain ⟨b7, rfl, hb7, hb7', hB7⟩ := (hAll.2 12).1 rfl
                have X7 := Lib.hid hAll.1
                have own7 := Lib.hid (own_xt hown2.out hAll.1)
                have hsz7 := hAll.1.size
                clear hAll hex c0 c1 c2 c3 c4 c5 c6 c7 c8 c9 d0 d1 d2 d3 d4 d5 d6 d7 d8 d9
                go_upto_region 11 with (at_builtin; refine wpList_append_lies _ rfl (.tmp 64) (.tmp 76) 46 rfl w.heap.size 48 i0 _ 21 216 Tryd.underlying46 hi hz0 hz1 hz2 rfl (by decide) _ m (crl T) rfl own7.out ⟨b7, 0, none⟩ 1 1 (qcs (⟨x, true, y⟩, (a1, c1'), (a2, c2'))) rfl rfl (World.news_of_block hB7) (qcs_one _) (by decide) hm20' hm21 (by omega) _ rfl ?_; intro g8 cap8 w8 hown8 hgrow8 hv8 hg8)
                have HX8 := Lib.hid (ext_gr (bel_call hw6 X7.out) hgrow8 own7.out (Nat.le_refl _))
                have HL1 := Lib.hid (blk_gr2 (HB1.out.ext X7.out) hgrow8 hown.out hs1)
                have HL2 := Lib.hid (blk_gr2 (HB2.out.ext X7.out) hgrow8 hown.out hs2)
                have HT8 := Lib.hid (tok_put (t := (⟨x, true, y⟩, (a1, c1'), (a2, c2'))) hel.out ⟨HQ.out, HV.out.2.2.1, HV.out.2.2.2, rfl⟩)
                have HCL := Lib.hid (cat_last hown8 HM.out.1 HT8.out HX8.out)
                have hcap := own_cap hown8
                have hcap1 : (m : Int) < (cap8 : Int) := by omega
                have hcap2 : (cap8 : Int) ≤ 9223372036854775807 := by have := hcap.2; unfold maxLen at this; omega
                have HOWN8 := Lib.hid hown8
                have HP := Lib.hid (lnv_parts HV.out.2.2.1 HV.out.1)
                have HQ2 := Lib.hid (lnv_parts HV.out.2.2.2 HV.out.2.1)
                have HCX := Lib.hid HV.out.2.2
                obtain ⟨B, hB⟩ : ∃ B, B = (decide (bd = 0) && tb x y) := ⟨_, rfl⟩
                obtain ⟨bd', hbd1, hbd2⟩ : ∃ bd' : Nat, Bd ((T ++ [((⟨x, true, y⟩ : Cr), (a1, c1'), (a2, c2'))] : List Qd).map (fun t => t.1)) bd' ∧ bd' = if B = true then m + 1 else bd := by
                  have hput := hBd.out.put ⟨x, true, y⟩
                  rw [List.map_append]
                  by_cases hbt : bd = 0 ∧ cut1 ⟨x, true, y⟩ = none
                  · rw [if_pos hbt, List.length_map, HM.out.1] at hput
                    refine ⟨m + 1, hput, ?_⟩
                    rw [hB, (cut1_none x y).1 hbt.2, hbt.1]
                    rfl
                  · rw [if_neg hbt] at hput
                    refine ⟨bd, hput, ?_⟩
                    have : B = false := by
                      rw [hB]
                      cases htb : tb x y
                      · simp
                      · have : bd ≠ 0 := fun h => hbt ⟨h, (cut1_none x y).2 htb⟩
                        simp [this]
                    rw [this]
                    rfl
                have HBB := Lib.hid hB
                have HBD1 := Lib.hid hbd1
                have HBD2 := Lib.hid hbd2
                generalize hO1 : (wo x).ol.2 = o1 at *
                generalize hO2 : (wo y).ol.2 = o2 at *
                have HO1 := Lib.hid hO1
                have HO2 := Lib.hid hO2
                have hg8' := hg8
                clear hB hbd1 hbd2 hcap hown8 hgrow8 hv8 hB7 X7 own7 HB1 HB2 HV HXS HYS HXO HYO hsz7 hb7 hb7' hw6 hsw hs1 hs2 XE XQ hO1 hO2 hown2
                go_cut [10] from 16 to 195 (fun s10 wx => s10 = .bool o1 ∧ w8 = wx)
                case first =>
                  obtain ⟨p0, p1, p2⟩ := HL1.out.cells3
                  cases n1 with
                  | true =>
                    have HR := Lib.hid (show o1 = true from HP.out.1)
                    as_aux_lemma =>
                      go_wp2_with fail
                      go_meet
                      exact ⟨by rw [HR.out], rfl⟩
                  | false =>
                    by_cases hlm : l1 = m1
                    · have HR := Lib.hid (show o1 = true by rw [HP.out.1, hlm]; simp)
                      have q : (l1 == m1) = true := by rw [hlm]; simp
                      clear hlm
                      as_aux_lemma =>
                        go_wp2_with fail
                        go_meet
                        exact ⟨by rw [HR.out], rfl⟩
                    · have HR := Lib.hid (show o1 = false by rw [HP.out.1]; simp [hlm])
                      have q : (l1 == m1) = false := by simpa using hlm
                      clear hlm
                      as_aux_lemma =>
                        go_wp2_with fail
                        go_meet
                        exact ⟨by rw [HR.out], rfl⟩
                case rest =>
                  obtain ⟨rfl, hwc⟩ := hcut
                  subst hwc
                  go_upto_region 12 with fail
                  go_cut [11] from 16 to 195 (fun s10 wx => s10 = .bool o2 ∧ w8 = wx)
                  case first =>
                    obtain ⟨p0, p1, p2⟩ := HL2.out.cells3
                    cases n2 with
                    | true =>
                      have HR := Lib.hid (show o2 = true from HQ2.out.1)
                      as_aux_lemma =>
                        go_wp2_with fail
                        go_meet
                        exact ⟨by rw [HR.out], rfl⟩
                    | false =>
                      by_cases hlm : l2 = m2
                      · have HR := Lib.hid (show o2 = true by rw [HQ2.out.1, hlm]; simp)
                        have q : (l2 == m2) = true := by rw [hlm]; simp
                        clear hlm
                        as_aux_lemma =>
                          go_wp2_with fail
                          go_meet
                          exact ⟨by rw [HR.out], rfl⟩
                      · have HR := Lib.hid (show o2 = false by rw [HQ2.out.1]; simp [hlm])
                        have q : (l2 == m2) = false := by simpa using hlm
                        clear hlm
                        as_aux_lemma =>
                          go_wp2_with fail
                          go_meet
                          exact ⟨by rw [HR.out], rfl⟩
                  case rest =>
                    obtain ⟨rfl, hwc⟩ := hcut
                    subst hwc
                    go_upto_region 13 with fail
                    go_cut [115] from 16 to 195 (fun s10 wx => s10 = .bool B ∧ w8 = wx)
                    case first =>
                      have HTB := Lib.hid (show tb x y = ((!n1 && decide (l1 = 0)) || (!o1 && !o2)) by unfold tb; rw [HO1.out, HO2.out, HP.out.2.1])
                      obtain ⟨p0, p1, p2⟩ := HL1.out.cells3
                      by_cases hb0 : bd = 0
                      · have b0 : ((bd : Int) == 0) = true := by simp [hb0]
                        cases n1 with
                        | true =>
                          obtain rfl : o1 = true := HP.out.1
                          have HR := Lib.hid (show B = false by rw [HBB.out, HTB.out]; simp)
                          clear hb0
                          as_aux_lemma =>
                            go_wp2_with fail
                            go_meet
                            exact ⟨by rw [HR.out], rfl⟩
                        | false =>
                          by_cases hl0 : l1 = 0
                          · have q : (l1 == 0) = true := by simp [hl0]
                            have HR := Lib.hid (show B = true by rw [HBB.out, HTB.out]; simp [hb0, hl0])
                            clear hb0 hl0
                            as_aux_lemma =>
                              go_wp2_with fail
                              go_meet
                              exact ⟨by rw [HR.out], rfl⟩
                          · have q : (l1 == 0) = false := by simpa using hl0
                            have HR := Lib.hid (show B = (!o1 && !o2) by rw [HBB.out, HTB.out]; simp [hb0, hl0])
                            clear hb0 hl0
                            cases o1 with
                            | true =>
                              have HR := Lib.hid (show B = false from HR.out)
                              as_aux_lemma =>
                                go_wp2_with fail
                                go_meet
                                exact ⟨by rw [HR.out], rfl⟩
                            | false =>
                              have HR := Lib.hid (show B = !o2 from HR.out)
                              as_aux_lemma =>
                                go_wp2_with fail
                                go_meet
                                exact ⟨by rw [HR.out], rfl⟩
                      · have b0 : ((bd : Int) == 0) = false := by simp; omega
                        have HR := Lib.hid (show B = false by rw [HBB.out]; simp [hb0])
                        clear hb0
                        as_aux_lemma =>
                          go_wp2_with fail
                          go_meet
                          exact ⟨by rw [HR.out], rfl⟩
                    case rest =>
                      obtain ⟨rfl, hwc⟩ := hcut
                      subst hwc
                      go_upto_if 115 with fail
                      go_cut [4] from 16 to 195 (fun s10 wx => s10 = .int .i64 (bd' : Int) ∧ w8 = wx)
                      case first =>
                        cases B with
                        | true =>
                          have HR := Lib.hid (show (bd' : Int) = (m : Int) + 1 by have := HBD2.out; simp at this; omega)
                          as_aux_lemma =>
                            go_wp2_with fail
                            go_meet
                            exact ⟨by rw [HR.out], rfl⟩
                        | false =>
                          have HR := Lib.hid (show (bd' : Int) = (bd : Int) by have := HBD2.out; simp at this; omega)
                          as_aux_lemma =>
                            go_wp2_with fail
                            go_meet
                            exact ⟨by rw [HR.out], rfl⟩
                      case rest =>
                        obtain ⟨rfl, hwc⟩ := hcut
                        subst hwc
                        clear HBD2 HBB
                        go_wp2_with fail
                        cases htb : tb x y with
                        | true =>
                          have HC1 := Lib.hid (cuts1_bad x y _ _ (ea 13) (ea 8) w8 HCL.out (HA.out.ext HX8.out) HCX.out.1 HCX.out.2 htb)
                          clear htb
                          as_aux_lemma =>
                            refine HC1.out.mono ?_
                            rintro e w9 ⟨⟨T9, v9, rfl⟩, x9⟩
                            have HX9 := Lib.hid (bel_call HX8.out x9)
                            have HOWN9 := Lib.hid (own_xt HOWN8.out x9)
                            clear x9
                            go_upto_region 18 with fail
                            go_quiet (fail)
                            go_wp2_with fail
                            go_roundw
                            case rel => exact ⟨k + 1, m + 1, bd', T ++ [(⟨x, true, y⟩, (a1, c1'), (a2, c2'))], by omega, by omega, by go_num, rfl, by have := HM.out.1; simp; omega, by have := HM.out.2.1; omega, HBD1, Lib.hid (by rw [crl_app]; exact own_xt HOWN9.out (below_drewN (Below.refl _ _) _)), HT8, Lib.hid (below_drewN HX9.out _)⟩
                            case measure => simp [intOf] <;> omega
                        | false =>
                          have hc1 := cuts1_ok x y _ _ (ea 13) (ea 8) w8 HCL.out (HA.out.ext HX8.out) HCX.out.1 HCX.out.2 htb
                          have HTB := Lib.hid (show ((!n1 && decide (l1 = 0)) || (!o1 && !o2)) = false by rw [← htb]; unfold tb; rw [HO1.out, HO2.out, HP.out.2.1])
                          unfold OneE kdv knv at hc1
                          rw [HO2.out] at hc1
                          clear htb
                          cases o2 with
                          | true =>
                            simp only [if_true] at hc1
                            cases o1 with
                            | false =>
                              generalize (((wo y).ol.1 : Nat) : Int) = NN at hc1
                              have HC1 := Lib.hid hc1
                              clear hc1
                              as_aux_lemma =>
                                refine HC1.out.mono ?_
                                rintro e w9 ⟨⟨g9, c9', rfl, k0, k1, hg9, hg9b⟩, x9⟩
                                have HX9 := Lib.hid (bel_call HX8.out x9)
                                have HOWN9 := Lib.hid (own_xt HOWN8.out x9)
                                obtain ⟨p0, p1, p2⟩ := (HL1.out.ext x9).cells3
                                obtain ⟨r0, r1, r2⟩ := (HL2.out.ext x9).cells3
                                clear x9
                                go_upto_region 18 with fail
                                go_quiet (fail)
                                go_wp2_with fail
                                go_roundw
                                case rel => exact ⟨k + 1, m + 1, bd', T ++ [(⟨x, true, y⟩, (a1, c1'), (a2, c2'))], by omega, by omega, by go_num, rfl, by have := HM.out.1; simp; omega, by have := HM.out.2.1; omega, HBD1, Lib.hid (by rw [crl_app]; exact own_xt HOWN9.out (below_drewN (Below.refl _ _) _)), HT8, Lib.hid (below_drewN HX9.out _)⟩
                                case measure => simp [intOf] <;> omega
                            | true =>
                              cases n1 with
                              | true =>
                                generalize (((wo y).ol.1 : Nat) : Int) = NN at hc1
                                have HC1 := Lib.hid hc1
                                clear hc1
                                as_aux_lemma =>
                                  refine HC1.out.mono ?_
                                  rintro e w9 ⟨⟨g9, c9', rfl, k0, k1, hg9, hg9b⟩, x9⟩
                                  have HX9 := Lib.hid (bel_call HX8.out x9)
                                  have HOWN9 := Lib.hid (own_xt HOWN8.out x9)
                                  obtain ⟨p0, p1, p2⟩ := (HL1.out.ext x9).cells3
                                  obtain ⟨r0, r1, r2⟩ := (HL2.out.ext x9).cells3
                                  clear x9
                                  go_upto_region 18 with fail
                                  go_quiet (fail)
                                  go_wp2_with fail
                                  go_roundw
                                  case rel => exact ⟨k + 1, m + 1, bd', T ++ [(⟨x, true, y⟩, (a1, c1'), (a2, c2'))], by omega, by omega, by go_num, rfl, by have := HM.out.1; simp; omega, by have := HM.out.2.1; omega, HBD1, Lib.hid (by rw [crl_app]; exact own_xt HOWN9.out (below_drewN (Below.refl _ _) _)), HT8, Lib.hid (below_drewN HX9.out _)⟩
                                  case measure => simp [intOf] <;> omega
                              | false =>
                                cases n2 with
                                | true =>
                                  generalize (((wo y).ol.1 : Nat) : Int) = NN at hc1
                                  have HC1 := Lib.hid hc1
                                  clear hc1
                                  as_aux_lemma =>
                                    refine HC1.out.mono ?_
                                    rintro e w9 ⟨⟨g9, c9', rfl, k0, k1, hg9, hg9b⟩, x9⟩
                                    have HX9 := Lib.hid (bel_call HX8.out x9)
                                    have HOWN9 := Lib.hid (own_xt HOWN8.out x9)
                                    obtain ⟨p0, p1, p2⟩ := (HL1.out.ext x9).cells3
                                    obtain ⟨r0, r1, r2⟩ := (HL2.out.ext x9).cells3
                                    clear x9
                                    go_upto_region 18 with fail
                                    go_quiet (fail)
                                    go_wp2_with fail
                                    go_roundw
                                    case rel => exact ⟨k + 1, m + 1, bd', T ++ [(⟨x, true, y⟩, (a1, c1'), (a2, c2'))], by omega, by omega, by go_num, rfl, by have := HM.out.1; simp; omega, by have := HM.out.2.1; omega, HBD1, Lib.hid (by rw [crl_app]; exact own_xt HOWN9.out (below_drewN (Below.refl _ _) _)), HT8, Lib.hid (below_drewN HX9.out _)⟩
                                    case measure => simp [intOf] <;> omega
                                | false =>
                                  have hl1b := HP.out.2.2 rfl
                                  have hl2b := HQ2.out.2.2 rfl
                                  rw [hl2b.2.2 rfl] at hc1
                                  have g1 : 0 ≤ l1 := hl1b.1
                                  have g2 : l1 ≤ 65536 := hl1b.2.1
                                  have g3 : 0 ≤ l2 := hl2b.1
                                  have g4 : l2 ≤ 65536 := hl2b.2.1
                                  clear hl1b hl2b
                                  have HC1 := Lib.hid hc1
                                  clear hc1
                                  have s1 : IntKind.i64.wrap (l1 + l2) = l1 + l2 := IntWalk.i64_in _ (by omega)
                                  have s2 : IntKind.i64.wrap (l1 + l2 - l2) = l1 := by rw [show l1 + l2 - l2 = l1 by omega]; exact IntWalk.i64_in _ (by omega)
                                  as_aux_lemma =>
                                    refine HC1.out.mono ?_
                                    rintro e w9 ⟨⟨g9, c9', rfl, k0, k1, hg9, hg9b⟩, x9⟩
                                    have HX9 := Lib.hid (bel_call HX8.out x9)
                                    have HOWN9 := Lib.hid (own_xt HOWN8.out x9)
                                    obtain ⟨p0, p1, p2⟩ := (HL1.out.ext x9).cells3
                                    obtain ⟨r0, r1, r2⟩ := (HL2.out.ext x9).cells3
                                    clear x9
                                    go_upto_region 18 with fail
                                    go_quiet (fail)
                                    clear s1 s2
                                    go_wp2_with fail
                                    go_roundw
                                    case rel => exact ⟨k + 1, m + 1, bd', T ++ [(⟨x, true, y⟩, (a1, c1'), (a2, c2'))], by omega, by omega, by go_num, rfl, by have := HM.out.1; simp; omega, by have := HM.out.2.1; omega, HBD1, Lib.hid (by rw [crl_app]; exact own_xt HOWN9.out (below_drewN (Below.refl _ _) _)), HT8, Lib.hid (below_drewN HX9.out _)⟩
                                    case measure => simp [intOf] <;> omega
                          | false =>
                            simp only [Bool.false_eq_true, if_false] at hc1
                            obtain rfl : o1 = true := by have := HTB.out; cases o1 <;> simp_all
                            generalize ((max (wo x).ol.1 1 : Nat) : Int) = NN at hc1
                            have HC1 := Lib.hid hc1
                            clear hc1
                            as_aux_lemma =>
                              refine HC1.out.mono ?_
                              rintro e w9 ⟨⟨g9, c9', rfl, k0, k1, hg9, hg9b⟩, x9⟩
                              have HX9 := Lib.hid (bel_call HX8.out x9)
                              have HOWN9 := Lib.hid (own_xt HOWN8.out x9)
                              obtain ⟨p0, p1, p2⟩ := (HL1.out.ext x9).cells3
                              obtain ⟨r0, r1, r2⟩ := (HL2.out.ext x9).cells3
                              clear x9
                              go_upto_region 18 with fail
                              go_quiet (fail)
                              go_wp2_with fail
                              go_roundw
                              case rel => exact ⟨k + 1, m + 1, bd', T ++ [(⟨x, true, y⟩, (a1, c1'), (a2, c2'))], by omega, by omega, by go_num, rfl, by have := HM.out.1; simp; omega, by have := HM.out.2.1; omega, HBD1, Lib.hid (by rw [crl_app]; exact own_xt HOWN9.out (below_drewN (Below.refl _ _) _)), HT8, Lib.hid (below_drewN HX9.out _)⟩
                              case measure => simp [intOf] <;> omega
            · rw [lne_not hcy] at HYO
              clear hv1 hv2 hcx hcy hbig
              as_aux_lemma =>
                go_wp2_with fail
                refine wp_region_stab (fun _ => none) (by kernel_rfl) (by kernel_rfl) (fun _ _ h => by cases h) (fun hex => ?_)
                iterate 14
                  (refine wpS_one (A := ?_) hex rfl rfl (by simp) ?_ ?_ ?_
                   rotate_left 2
                   · intro w' hC K hK
                     obtain ⟨hcell, hfrz⟩ := bcell hC.1.ext
                     have hwE := bel_call hEr.out hC.1.ext; obtain ⟨c0, c1, c2, c3, c4, c5, c6, c7, c8, c9, d0, d1, d2, d3, d4, d5, d6, d7, d8, d9⟩ := HPC.out _ hwE; clear hcell hfrz
                     go_wp2_with (go_at_call 7; first | (with_reducible refine (HXS.out _ hwE).mono ?_; rintro e w2 ⟨rfl, hb2⟩) | (with_reducible refine (HYS.out _ hwE).mono ?_; rintro e w2 ⟨rfl, hb2⟩))
                     refine hK _ ?_
                     first | exact Gr.refl _ _ | exact Gr.of_ext (by assumption) hC.1.1.size
                   rotate_left 1
                   · rfl
                   clear hex; intro hex)
                refine wpS_nil fun w2 hE => ?_
                replace hE := hE.1.ext
                obtain ⟨hcell_w2, hfrz_w2⟩ := bcell hE
                have XQ := Lib.hid hE
                have XE := Lib.hid hE
                clear hE hex c0 c1 c2 c3 c4 c5 c6 c7 c8 c9 d0 d1 d2 d3 d4 d5 d6 d7 d8 d9
                obtain ⟨c0, c1, c2, c3, c4, c5, c6, c7, c8, c9, d0, d1, d2, d3, d4, d5, d6, d7, d8, d9⟩ := HPC.out w2 (bel_call hEr.out XE.out)
                go_wp2_with fail
                refine (HXO.out _ (bel_call hEr.out XE.out)).mono ?_
                rintro e w3 ⟨rfl, x3⟩
                have hE3 : Ext w3 (w3.alloc (.cells #[.bool n1, .int .i64 l1, .int .i64 m1] 31)) := by go_grown
                have HB3 := Lib.hid (Blk.new w3 #[.bool n1, .int .i64 l1, .int .i64 m1] 31)
                clear c0 c1 c2 c3 c4 c5 c6 c7 c8 c9 d0 d1 d2 d3 d4 d5 d6 d7 d8 d9
                obtain ⟨c0, c1, c2, c3, c4, c5, c6, c7, c8, c9, d0, d1, d2, d3, d4, d5, d6, d7, d8, d9⟩ := HPC.out _ (bel_call hEr.out (bel_call (bel_call XE.out x3) hE3))
                go_wp2_with fail
                generalize w3.alloc (.cells #[.bool n1, .int .i64 l1, .int .i64 m1] 31) = w4 at *
                refine (HYO.out _ (bel_call hEr.out (bel_call (bel_call XE.out x3) hE3))).mono ?_
                rintro e w5 ⟨rfl, x5⟩
                have hE5 : Ext w5 (w5.alloc (.cells #[.bool n2, .int .i64 l2, .int .i64 m2] 31)) := by go_grown
                have hb5 := Blk.new w5 #[.bool n2, .int .i64 l2, .int .i64 m2] 31
                clear c0 c1 c2 c3 c4 c5 c6 c7 c8 c9 d0 d1 d2 d3 d4 d5 d6 d7 d8 d9
                have XE := Lib.hid (bel_call (bel_call (bel_call XE.out x3) hE3) (bel_call x5 hE5))
                clear hE3 hE5 x3 x5 hb5
                go_wp2_with fail
                go_roundw
                case rel => exact ⟨k + 1, m, bd, T, by omega, by omega, by go_num, rfl, HM.out.1, by have := HM.out.2.1; omega, hBd, Lib.hid (own_xt hown.out XE.out), hel, Lib.hid (bel_call hEr.out XE.out)⟩
                case measure => simp [intOf] <;> omega
          · rw [lne_not hcx] at HXO
            generalize lne y (ea 13) = e2 at *
            clear hv1 hv2 hcx hbig
            as_aux_lemma =>
              go_wp2_with fail
              refine wp_region_stab (fun _ => none) (by kernel_rfl) (by kernel_rfl) (fun _ _ h => by cases h) (fun hex => ?_)
              iterate 14
                (refine wpS_one (A := ?_) hex rfl rfl (by simp) ?_ ?_ ?_
                 rotate_left 2
                 · intro w' hC K hK
                   obtain ⟨hcell, hfrz⟩ := bcell hC.1.ext
                   have hwE := bel_call hEr.out hC.1.ext; obtain ⟨c0, c1, c2, c3, c4, c5, c6, c7, c8, c9, d0, d1, d2, d3, d4, d5, d6, d7, d8, d9⟩ := HPC.out _ hwE; clear hcell hfrz
                   go_wp2_with (go_at_call 7; first | (with_reducible refine (HXS.out _ hwE).mono ?_; rintro e w2 ⟨rfl, hb2⟩) | (with_reducible refine (HYS.out _ hwE).mono ?_; rintro e w2 ⟨rfl, hb2⟩))
                   refine hK _ ?_
                   first | exact Gr.refl _ _ | exact Gr.of_ext (by assumption) hC.1.1.size
                 rotate_left 1
                 · rfl
                 clear hex; intro hex)
              refine wpS_nil fun w2 hE => ?_
              replace hE := hE.1.ext
              obtain ⟨hcell_w2, hfrz_w2⟩ := bcell hE
              have XQ := Lib.hid hE
              have XE := Lib.hid hE
              clear hE hex c0 c1 c2 c3 c4 c5 c6 c7 c8 c9 d0 d1 d2 d3 d4 d5 d6 d7 d8 d9
              obtain ⟨c0, c1, c2, c3, c4, c5, c6, c7, c8, c9, d0, d1, d2, d3, d4, d5, d6, d7, d8, d9⟩ := HPC.out w2 (bel_call hEr.out XE.out)
              go_wp2_with fail
              refine (HXO.out _ (bel_call hEr.out XE.out)).mono ?_
              rintro e w3 ⟨rfl, x3⟩
              have hE3 : Ext w3 (w3.alloc (.cells #[.bool n1, .int .i64 l1, .int .i64 m1] 31)) := by go_grown
              have HB3 := Lib.hid (Blk.new w3 #[.bool n1, .int .i64 l1, .int .i64 m1] 31)
              clear c0 c1 c2 c3 c4 c5 c6 c7 c8 c9 d0 d1 d2 d3 d4 d5 d6 d7 d8 d9
              obtain ⟨c0, c1, c2, c3, c4, c5, c6, c7, c8, c9, d0, d1, d2, d3, d4, d5, d6, d7, d8, d9⟩ := HPC.out _ (bel_call hEr.out (bel_call (bel_call XE.out x3) hE3))
              go_wp2_with fail
              generalize w3.alloc (.cells #[.bool n1, .int .i64 l1, .int .i64 m1] 31) = w4 at *
              refine (HYO.out _ (bel_call hEr.out (bel_call (bel_call XE.out x3) hE3))).mono ?_
              rintro e w5 ⟨rfl, x5⟩
              have hE5 : Ext w5 (w5.alloc (.cells #[.bool n2, .int .i64 l2, .int .i64 m2] 31)) := by go_grown
              have hb5 := Blk.new w5 #[.bool n2, .int .i64 l2, .int .i64 m2] 31
              clear c0 c1 c2 c3 c4 c5 c6 c7 c8 c9 d0 d1 d2 d3 d4 d5 d6 d7 d8 d9
              have XE := Lib.hid (bel_call (bel_call (bel_call XE.out x3) hE3) (bel_call x5 hE5))
              clear hE3 hE5 x3 x5 hb5
              go_wp2_with fail
              go_roundw
              case rel => exact ⟨k + 1, m, bd, T, by omega, by omega, by go_num, rfl, HM.out.1, by have := HM.out.2.1; omega, hBd, Lib.hid (own_xt hown.out XE.out), hel, Lib.hid (bel_call hEr.out XE.out)⟩
              case measure => simp [intOf] <;> omega
      · have k2 : decide ((k : Int) < (20 : Int)) = false := by simp; omega
        have hm20 : T.length ≤ 20 := by omega
        subst hTl
        obtain ⟨a9, c9, hva, hcat⟩ := cat_all hown.out rfl hel.out hEr.out
        injection hva with e1 e2 e3
        subst e1 e3
        have hT200 : T.length ≤ 200 := by omega
        by_cases hb0 : bd = 0
        · subst hb0
          have HCT := Lib.hid (cutsT_ok T _ _ (ea 13) (ea 8) wr hcat (HA.out.ext hEr.out) hel.out hT200 hBd.out)
          clear hcat
          as_aux_lemma =>
            go_wp2_with fail
            refine HCT.out.mono ?_
            rintro e w2 ⟨⟨a8, c8, rfl⟩, x2⟩
            have X2 := Lib.hid (bel_call hEr.out x2)
            clear x2
            go_wp2_with fail
            refine (HWK.out _ (HA.out.ext X2.out)).mono ?_
            rintro e w3 ⟨rfl, x3⟩
            have X3 := Lib.hid (bel_call X2.out x3)
            clear x3
            go_wp2_with fail
            go_ret
            exact ⟨rfl, X3.out⟩
        · have g0 : decide ((0 : Int) < (bd : Int)) = true := by simp; omega
          have g1 : 0 < bd := by omega
          have HCT := Lib.hid (cutsT_bad T bd _ _ (ea 13) (ea 8) wr hcat (HA.out.ext hEr.out) hel.out hT200 hBd.out (by omega))
          clear hcat hb0
          as_aux_lemma =>
            go_wp2_with fail
            refine HCT.out.mono ?_
            rintro e w2 ⟨⟨v9, rfl, hv9⟩, x2⟩
            have X2 := Lib.hid (bel_call hEr.out x2)
            have HSM := Lib.hid (same_err8 ea [.rule (bd : Int)] v9 (.agg #[.int .i64 10, .int .i64 0, .int .i64 (bd : Int), .int .i64 0, .slice none 0 0]) (ea 8) 10 0 (bd : Int) 0 [] w2 (HSG.out.1.ext X2.out) (HSG.out.2.ext X2.out) hv9 (code_at (HSG.out.1.ext X2.out) 16 0 8 rfl (by omega) (by omega)) rfl rfl rfl rfl (by decide) ⟨_, rfl, Texts.nil w2⟩)
            obtain ⟨T9, u9, rfl⟩ := hv9.iface
            clear x2 hv9
            go_wp2_with fail
            refine HSM.out.mono ?_
            rintro e w3 ⟨rfl, x3⟩
            have X3 := Lib.hid (bel_call X2.out x3)
            clear x3
            go_wp2_with fail
            refine (HWK.out _ (HA.out.ext X3.out)).mono ?_
            rintro e w4 ⟨rfl, x4⟩
            have X4 := Lib.hid (bel_call X3.out x4)
            clear x4
            go_wp2_with fail
            go_ret
            exact ⟨rfl, X4.out⟩
    · have k1 : decide ((k : Int) < (L.length : Int)) = false := by simp; omega
      have hm20 : T.length ≤ 20 := by omega
      subst hTl
      obtain ⟨a9, c9, hva, hcat⟩ := cat_all hown.out rfl hel.out hEr.out
      injection hva with e1 e2 e3
      subst e1 e3
      have hT200 : T.length ≤ 200 := by omega
      by_cases hb0 : bd = 0
      · subst hb0
        have HCT := Lib.hid (cutsT_ok T _ _ (ea 13) (ea 8) wr hcat (HA.out.ext hEr.out) hel.out hT200 hBd.out)
        clear hcat
        as_aux_lemma =>
          go_wp2_with fail
          refine HCT.out.mono ?_
          rintro e w2 ⟨⟨a8, c8, rfl⟩, x2⟩
          have X2 := Lib.hid (bel_call hEr.out x2)
          clear x2
          go_wp2_with fail
          refine (HWK.out _ (HA.out.ext X2.out)).mono ?_
          rintro e w3 ⟨rfl, x3⟩
          have X3 := Lib.hid (bel_call X2.out x3)
          clear x3
          go_wp2_with fail
          go_ret
          exact ⟨rfl, X3.out⟩
      · have g0 : decide ((0 : Int) < (bd : Int)) = true := by simp; omega
        have g1 : 0 < bd := by omega
        have HCT := Lib.hid (cutsT_bad T bd _ _ (ea 13) (ea 8) wr hcat (HA.out.ext hEr.out) hel.out hT200 hBd.out (by omega))
        clear hcat hb0
        as_aux_lemma =>
          go_wp2_with fail
          refine HCT.out.mono ?_
          rintro e w2 ⟨⟨v9, rfl, hv9⟩, x2⟩
          have X2 := Lib.hid (bel_call hEr.out x2)
          have HSM := Lib.hid (same_err8 ea [.rule (bd : Int)] v9 (.agg #[.int .i64 10, .int .i64 0, .int .i64 (bd : Int), .int .i64 0, .slice none 0 0]) (ea 8) 10 0 (bd : Int) 0 [] w2 (HSG.out.1.ext X2.out) (HSG.out.2.ext X2.out) hv9 (code_at (HSG.out.1.ext X2.out) 16 0 8 rfl (by omega) (by omega)) rfl rfl rfl rfl (by decide) ⟨_, rfl, Texts.nil w2⟩)
          obtain ⟨T9, u9, rfl⟩ := hv9.iface
          clear x2 hv9
          go_wp2_with fail
          refine HSM.out.mono ?_
          rintro e w3 ⟨rfl, x3⟩
          have X3 := Lib.hid (bel_call X2.out x3)
          clear x3
          go_wp2_with fail
          refine (HWK.out _ (HA.out.ext X3.out)).mono ?_
          rintro e w4 ⟨rfl, x4⟩
          have X4 := Lib.hid (bel_call X3.out x4)
          clear x4
          go_wp2_with fail
          go_ret
          exact ⟨rfl, X4.out⟩
end Go.Proofs.YtnmdfhnfheekgaaDoor
