/- RowsApart: the walk. -/
import Derived.Test.YtgcjclglhijchaaDoorCls15
namespace Go.Proofs.YtgcjclglhijchaaDoor
open Go Go.RowKit
/-- What is said of one automaton's part of the table. -/
theorem apt_plain {L : List Dd} (hL : ∀ d ∈ L, d.Ok) {m : Nat} (hm : m < L.length) :
    (tabOf L).st.getD m 0 = (bas L m : Int) ∧ (tabOf [L[m]]).st.getD 0 0 = 0 ∧ (tabOf [L[m]]).nx.length = L[m].kept.length ∧ bas L m + L[m].kept.length ≤ (tabOf L).nx.length ∧ bas L (m + 1) = bas L m + L[m].kept.length ∧
    (∀ s, s < L[m].kept.length → (tabOf [L[m]]).lb.getD s 0 = (tabOf L).lb.getD (bas L m + s) 0) ∧
    (∀ s c, s < L[m].kept.length → c < 256 → ((tabOf [L[m]]).ent s c < 0 → (tabOf L).ent (bas L m + s) c = -1) ∧ (0 ≤ (tabOf [L[m]]).ent s c → (tabOf L).ent (bas L m + s) c = (tabOf [L[m]]).ent s c + bas L m)) := by
  have hd := hL _ (List.getElem_mem hm)
  have h1 : ∀ d ∈ [L[m]], d.Ok := fun d h => by rw [List.mem_singleton.1 h]; exact hd
  have hx := wide_get h1 (m := 0) (by simp)
  have hg := wide_get hL hm
  have hs := bas_succ hm
  have hb := bas_mono (L := L) (m := m + 1) (j := L.length - (m + 1)) (by omega)
  rw [show m + 1 + (L.length - (m + 1)) = L.length by omega, bas_all] at hb
  have hnx : (tabOf L).nx.length = (wideOf L).nx.length := by unfold tabOf Wd.tb; simp
  refine ⟨hg.1, hx.1, tab_one_kept.1, by omega, hs, fun s hsk => ?_, fun s c hsk hc => ?_⟩
  · have e1 := (hx.2 s hsk).2.2
    have e2 := (hg.2 s hsk).2.2
    simp only [bas_zero, Nat.zero_add] at e1
    show (wideOf [L[m]]).lb.getD s 0 = (wideOf L).lb.getD (bas L m + s) 0
    rw [e1, e2]; rfl
  · have e1 := tab_ent h1 (m := 0) (by simp) (j := s) (c := c) hsk hc
    have e2 := tab_ent hL hm hsk hc
    simp only [bas_zero, Nat.zero_add] at e1
    have e1 : (tabOf [L[m]]).ent s c = L[m].num 0 (L[m].to L[m].kept[s] c) := e1
    rw [e1, e2]
    exact num_moved _ _ _
theorem Dls.sub {w : World} {a : Option Addr} {L : List Dd} (h : Dls w a L) {m : Nat} (hm : m < L.length) : ∃ b o, a = some ⟨b, o, none⟩ ∧ Dls w (some ⟨b, o + m * 2, none⟩) [L[m]] := by
  rcases h with h | ⟨b, o, e, hb, h⟩
  · rw [h] at hm; simp at hm
  · refine ⟨b, o, e, .inr ⟨b, o + m * 2, rfl, hb, fun i hi => ?_⟩⟩
    have hi : i < 1 := hi
    obtain rfl : i = 0 := by omega
    obtain ⟨p, q, h1, h2, h3, h4⟩ := h m hm
    exact ⟨p, q, by simpa using h1, by simpa using h2, h3, h4⟩
theorem amB_one {L : List Dd} (h : amB L = true) {m : Nat} (hm : m < L.length) : amB [L[m]] = true := by
  obtain ⟨_, _, h3, h4⟩ := amB_iff.1 h
  refine amB_iff.2 ⟨by simp, by simp, fun d hd => by rw [List.mem_singleton.1 hd]; exact h3 _ (List.getElem_mem hm), ?_⟩
  have := sumN_take L hm
  have e : sumN [L[m]] = L[m].nx.length := by unfold sumN; simp
  omega
theorem ent_range {t : Tb} (ht : t.Ok) {s c : Nat} (hs : s < t.nx.length) (hc : c < 256) : -1 ≤ t.ent s c ∧ t.ent s c < (t.nx.length : Int) := by
  have hcl : c < t.cl.length := by rw [ht.cl]; exact hc
  have hrange := clsK_get _ _ _ (by omega) ht.cn _ (List.getElem_mem hcl)
  have hrow := ht.row _ (List.getElem_mem hs)
  obtain ⟨j, hj⟩ : ∃ j : Nat, t.cl[c] = (j : Int) := ⟨t.cl[c].toNat, by omega⟩
  have hjl : j < t.nx[s].length := by omega
  have hent : t.ent s c = t.nx[s][j] := by
    unfold Tb.ent
    rw [getD_get hs, getD_get hcl, hj, Int.toNat_natCast, getD_get hjl]
  rw [hent]
  exact hrow.2 _ (List.getElem_mem hjl)
/-- A list's cell by its number. -/
theorem Ints.at {w : World} {a : Option Addr} {n k : Nat} {l : List Int} (h : Ints w (.slice a n k) l) {i : Nat} (hi : i < l.length) : ∃ b o, a = some ⟨b, o, none⟩ ∧ b < w.heap.size ∧ w.cell? ⟨b, o + i, none⟩ = some (.int .i64 (l.getD i 0)) := by
  obtain ⟨b, o, e, hb, hc, -⟩ := h.cell hi
  exact ⟨b, o, e, hb, by rw [hc, getD_get hi]⟩
set_option maxHeartbeats 8000000 in
set_option maxRecDepth 20000 in
theorem apt15_any (L : List Dd) (a : Option Addr) (c : Nat) (w : World) (h : Dls w a L) (hl : L.length ≤ 140737488355328) (hc : L.length ≤ c) (_ : c ≤ maxLen) :
    Calls Tryd.prog 6 #[.slice a L.length c] w fun e w' => e = .returned (.bool true) ∧ Ext w w' := by
  have HM := Lib.hid (may15_any L a c w h hl)
  have HD := Lib.hid h
  obtain ⟨n, hn⟩ : ∃ n, L.length = n := ⟨_, rfl⟩
  rw [hn] at hl HM hc ⊢
  have HN := Lib.hid hn
  clear h hn
  go_enter Tryd.func6, Tryd.ntmps6
  go_wp2_with fail
  refine HM.out.mono ?_
  rintro e w1 ⟨b, rfl, hb, x1⟩
  have X1 := Lib.hid x1
  clear x1 HM
  cases b
  · clear hb
    go_wp2_with fail
    refine (wakes15_any _).mono ?_
    rintro e w2 ⟨rfl, x2⟩
    have X2 := Lib.hid (bel_call X1.out x2)
    clear x2 X1
    go_wp2_with fail
    go_ret
    exact ⟨rfl, X2.out⟩
  · obtain ⟨hm, -⟩ := hb rfl
    have HMM := Lib.hid hm
    have HAM := Lib.hid (amB_iff.1 hm)
    have HB := build_ok L a c w1 (HD.out.ext X1.out) hm
    have hok : (tabOf L).Ok := tab_ok HAM.out.2.2.1 HAM.out.1 HAM.out.2.1 HAM.out.2.2.2
    have HAP := Lib.hid (fun m hm => apt_plain HAM.out.2.2.1 (m := m) hm)
    have hall : bas L n = (tabOf L).nx.length := by rw [← HN.out, bas_all]; unfold tabOf Wd.tb; simp
    have hstl : (tabOf L).st.length = n := by rw [← HN.out]; have := (wide_len (L := L) L.length (Nat.le_refl _)).1; rw [take_all] at this; exact this
    rw [HN.out] at HB
    obtain ⟨T, hT⟩ : ∃ T, tabOf L = T := ⟨_, rfl⟩
    rw [hT] at HB hok HAP hall hstl
    have HB := Lib.hid HB
    have HOK := Lib.hid hok
    have HALL := Lib.hid hall
    have HSTL := Lib.hid hstl
    clear hT hok hm hb hall hstl
    go_wp2_with fail
    refine HB.out.mono ?_
    rintro e w2 ⟨vC, vS, vN, vL, vs, rfl, tb, x2⟩
    have TB := tb.tbm HOK.out
    obtain ⟨aC, kC, eC⟩ := own_shp tb.cl
    obtain ⟨aS, kS, eS⟩ := own_shp tb.st
    obtain ⟨aN, kN, eN⟩ := own_shp tb.nx.rn
    obtain ⟨aL, kL, eL⟩ := own_shp tb.lb
    subst eC eS eN eL
    have X2 := Lib.hid (bel_call X1.out x2)
    have hN6 := HOK.out.le
    rw [HOK.out.cl, HSTL.out, HOK.out.lbl] at TB
    rw [HOK.out.cl, HSTL.out, HOK.out.lbl]
    obtain ⟨n3, hn3⟩ : ∃ n3, T.nx.length = n3 := ⟨_, rfl⟩
    rw [hn3] at TB hN6
    rw [hn3]
    have TB := Lib.hid TB
    have HN3 := Lib.hid hn3
    have HBX := Lib.hid (Blk.new w2 #[.slice aC 256 kC, .int .i64 T.cn, .slice aS n kS, .slice aN n3 kN, .slice aL n3 kL] 29)
    have HX3 := Lib.hid (ext_bx5 w2 (.slice aC 256 kC) (.int .i64 T.cn) (.slice aS n kS) (.slice aN n3 kN) (.slice aL n3 kL) 29)
    have HMR := Lib.hid (mayr_ok T _ _ (TB.out.ext HX3.out) HOK.out)
    clear tb x2 HB X1 hn3
    go_wp2_with fail
    refine HMR.out.mono ?_
    rintro e w3 ⟨rfl, x3⟩
    have X3 := Lib.hid (bel_call HX3.out x3)
    have B3 := Lib.hid (HBX.out.ext x3)
    have r2 := B3.out.cell 2
    clear x3 HMR HBX HX3
    go_wp2_with fail
    clear r2
    go_loopw [6, 5] (fun i j wr => ∃ m : Nat, m ≤ n ∧ i = .int .i64 m ∧ j = .int .i64 ((bas L m : Nat) : Int) ∧ bas L m ≤ 600 ∧ Hid (Ext w3 wr)) (fun i _ _ => n - (intOf i).toNat)
    case atStart => exact ⟨0, Nat.zero_le _, rfl, rfl, by rw [bas_zero]; omega, Lib.hid (Below.refl _ _)⟩
    case round =>
      obtain ⟨m, hm, rfl, rfl, hb6, hX⟩ := hrel
      by_cases hml : m < n
      · have hmL : m < L.length := by rw [HN.out]; exact hml
        obtain ⟨p1, p2, p3, p4, p5, p6, p7⟩ := HAP.out m hmL
        have HB2 := fun w' (hx : Ext w w') => HD.out.sub hmL
        obtain ⟨bb, oo, rfl, hsub⟩ := HD.out.sub hmL
        have XW := Lib.hid (bel_call X2.out (bel_call X3.out hX.out))
        have HBD := fun cc => build_ok [L[m]] (some ⟨bb, oo + m * 2, none⟩) cc wr (hsub.ext XW.out) (amB_one HMM.out hmL)
        have hokx : (tabOf [L[m]]).Ok := by
          obtain ⟨q1, q2, q3, q4⟩ := amB_iff.1 (amB_one HMM.out hmL)
          exact tab_ok q3 q1 q2 q4
        have hstx : (tabOf [L[m]]).st.length = 1 := by have := (wide_len (L := [L[m]]) 1 (by simp)).1; exact this
        obtain ⟨b, hbb⟩ : ∃ b, bas L m = b := ⟨_, rfl⟩
        obtain ⟨X, hXX⟩ : ∃ X, tabOf [L[m]] = X := ⟨_, rfl⟩
        obtain ⟨K, hK⟩ : ∃ K, L[m].kept.length = K := ⟨_, rfl⟩
        simp only [hXX, hbb, hK] at p1 p2 p3 p4 p5 p6 p7 HBD hokx hstx hb6
        rw [show ([L[m]] : List Dd).length = 1 from rfl] at HBD
        rw [hbb]
        rw [HN3.out] at p4
        have P1 := Lib.hid p1
        have P2 := Lib.hid p2
        have P3 := Lib.hid p3
        have P5 := Lib.hid p5
        have P6 := Lib.hid p6
        have P7 := Lib.hid p7
        have HBD := Lib.hid HBD
        have HOX := Lib.hid hokx
        have HSX := Lib.hid hstx
        clear p1 p2 p3 p5 p6 p7 hokx hstx hbb hXX hK HB2 hsub hmL
        go_wp2_with fail
        refine (HBD.out _).mono ?_
        rintro e w4 ⟨yC, yS, yN, yL, ys, rfl, tx, x4⟩
        have TX := tx.tbm HOX.out
        obtain ⟨bC, lC, eC⟩ := own_shp tx.cl
        obtain ⟨bS, lS, eS⟩ := own_shp tx.st
        obtain ⟨bN, lN, eN⟩ := own_shp tx.nx.rn
        obtain ⟨bL, lL, eL⟩ := own_shp tx.lb
        subst eC eS eN eL
        rw [HOX.out.cl, HSX.out, HOX.out.lbl, P3.out] at TX
        rw [HOX.out.cl, HSX.out, HOX.out.lbl, P3.out]
        have TX := Lib.hid TX
        have X4 := Lib.hid (bel_call hX.out x4)
        have BX4 := Lib.hid (Blk.new w4 #[.slice bC 256 lC, .int .i64 X.cn, .slice bS 1 lS, .slice bN K lN, .slice bL K lL] 29)
        have HX5 := Lib.hid (ext_bx5 w4 (.slice bC 256 lC) (.int .i64 X.cn) (.slice bS 1 lS) (.slice bN K lN) (.slice bL K lL) 29)
        have HMX := Lib.hid (mayr_ok X _ _ (TX.out.ext HX5.out) HOX.out)
        clear tx x4 HBD hX
        go_wp2_with fail
        refine HMX.out.mono ?_
        rintro e w5 ⟨rfl, x5⟩
        have X45 := Lib.hid (bel_call HX5.out x5)
        have X5 := Lib.hid (bel_call X4.out X45.out)
        have B5x := Lib.hid (BX4.out.ext x5)
        have TX5 := Lib.hid (TX.out.ext X45.out)
        have TB5 := Lib.hid (TB.out.ext (bel_call X3.out X5.out))
        obtain ⟨bs, os, rfl, hbs, hcs⟩ := TB5.out.parts.2.1.at (i := m) (by rw [HSTL.out]; exact hml)
        obtain ⟨bs', os', rfl, hbs', hcs'⟩ := TX5.out.parts.2.1.at (i := 0) (by rw [HSX.out]; omega)
        rw [P1.out] at hcs
        rw [P2.out, Nat.add_zero] at hcs'
        obtain ⟨bi, hbi⟩ : ∃ bi : Int, (b : Int) = bi := ⟨_, rfl⟩
        have e1 : (bi != (b : Int)) = false := by simp [hbi]
        have e2 : (bi == (b : Int)) = true := by simp [hbi]
        rw [hbi] at hcs
        have e3 : decide ((n3 : Int) < (b : Int) + (K : Int)) = false := by simp; omega
        have r2 := (B3.out.ext X5.out).cell 2
        have r3 := (B3.out.ext X5.out).cell 3
        have y2 := B5x.out.cell 2
        have y3 := B5x.out.cell 3
        clear hbi x5 HMX BX4 HX5 X4 X45
        go_wp2_with fail
        clear e1 e2 e3 hcs hcs' r2 r3 y2 y3
        go_loopw [9] (fun i wr => ∃ s : Nat, s ≤ K ∧ i = .int .i64 s ∧ Hid (Ext w5 wr)) (fun i _ => K - (intOf i).toNat)
        case atStart => exact ⟨0, Nat.zero_le _, rfl, Lib.hid (Below.refl _ _)⟩
        case round =>
          obtain ⟨s, hs, rfl, hX⟩ := hrel
          have y3 := (B5x.out.ext hX.out).cell 3
          by_cases hsl : s < K
          · obtain ⟨b4, o4, rfl, hb4, hc4⟩ := (TX5.out.ext hX.out).parts.2.2.2.at (i := s) (by rw [HOX.out.lbl, P3.out]; exact hsl)
            obtain ⟨b4', o4', rfl, hb4', hc4'⟩ := (TB5.out.ext hX.out).parts.2.2.2.at (i := b + s) (by rw [HOK.out.lbl, HN3.out]; omega)
            have hq6 := P6.out s hsl
            obtain ⟨u, hu⟩ : ∃ u, X.lb.getD s 0 = u := ⟨_, rfl⟩
            obtain ⟨u', hu'⟩ : ∃ u', T.lb.getD (b + s) 0 = u' := ⟨_, rfl⟩
            rw [hu] at hc4 hq6
            rw [hu'] at hc4' hq6
            have C4 := Lib.hid hc4
            have C4' := Lib.hid hc4'
            have EU := Lib.hid (show (u != u') = false by rw [hq6]; simp)
            clear hc4 hc4' hq6 hu hu'
            go_upto_region 16 with fail
            have e4 := EU.out
            refine G.wp_region_stab (G := Ext) (fun _ => none) (by kernel_rfl) (by kernel_rfl) (fun _ _ h => by cases h) (fun hex => ?_)
            iterate 13
              (refine G.wpS_one (A := ?_) hex rfl rfl (by simp) ?_ ?_ ?_
               rotate_left 2
               · intro w' hC K hK
                 have z1 := (B5x.out.ext (bel_call hX.out hC.1)).cell 4; have z2 := (B3.out.ext (bel_call X5.out (bel_call hX.out hC.1))).cell 4; have q1 := (hC.1.cell (p := ⟨b4, o4 + s, none⟩) hb4).trans C4.out; have q2 := (hC.1.cell (p := ⟨b4', o4' + (b + s), none⟩) hb4').trans C4'.out
                 go_wp2_with (fail)
                 refine hK _ ?_
                 first | exact Below.refl _ _ | assumption | ((repeat' (first | (with_reducible exact Below.refl _ _) | (with_reducible assumption) | (with_reducible refine below_drewN ?_ _) | (with_reducible refine Below.alloc ?_ ?_ _) | (with_reducible refine Below.drew ?_) | (with_reducible refine Below.setCell ?_ ?_ _) | (with_reducible refine Below.trans ?_ (Below.mono (by with_reducible assumption) ?_)) | go_size)))
               rotate_left 1
               · rfl
               clear hex; intro hex)
            refine G.wpS_nil fun w6 hAll => ?_
            have X6 := Lib.hid (bel_call hX.out hAll.1)
            clear hAll hex y3 hX
            go_wp2_with fail
            clear e4
            go_loopw [10] (fun i wr => ∃ x : Nat, x ≤ 256 ∧ i = .int .i64 x ∧ Hid (Ext w5 wr)) (fun i _ => 256 - (intOf i).toNat)
            case atStart => exact ⟨0, Nat.zero_le _, rfl, X6⟩
            case round =>
              clear X6
              obtain ⟨x, hx, rfl, hX⟩ := hrel
              by_cases hxl : x < 256
              · have hsX : s < X.nx.length := by rw [P3.out]; exact hsl
                have hsT : b + s < T.nx.length := by rw [HN3.out]; omega
                obtain ⟨b1, o1, b3, o3, a5, o5, m5, c5, j, e1, e3, hb1, hb3, ha5, c1, -, c3, hjm, hm47, cE, -, -⟩ := (TX5.out.ext hX.out).look HOX.out hsX hxl
                obtain ⟨b1', o1', b3', o3', a6, o6, m6, c6, j', e1', e3', hb1', hb3', ha6, c1', -, c3', hjm', hm47', cE', -, -⟩ := (TB5.out.ext hX.out).look HOK.out hsT hxl
                subst e1 e3 e1' e3'
                have hr := ent_range HOX.out hsX hxl
                rw [P3.out] at hr
                have h7 := P7.out s x hsl hxl
                obtain ⟨u, hu⟩ : ∃ u, X.ent s x = u := ⟨_, rfl⟩
                obtain ⟨u', hu'⟩ : ∃ u, T.ent (b + s) x = u := ⟨_, rfl⟩
                rw [hu] at cE hr h7
                rw [hu'] at cE' h7
                have C1 := Lib.hid c1
                have C1' := Lib.hid c1'
                have C3 := Lib.hid c3
                have C3' := Lib.hid c3'
                have CE := Lib.hid cE
                have CE' := Lib.hid cE'
                have H7 := Lib.hid h7
                have HR := Lib.hid hr
                clear c1 c1' c3 c3' cE cE' hu hu' hsX hsT h7 hr
                go_upto_region 21 with fail
                refine G.wp_region_stab (G := Ext) (fun _ => none) (by kernel_rfl) (by kernel_rfl) (fun _ _ h => by cases h) (fun hex => ?_)
                iterate 13
                  (refine G.wpS_one (A := ?_) hex rfl rfl (by simp) ?_ ?_ ?_
                   rotate_left 2
                   · intro w' hC K hK
                     have z0 := (B5x.out.ext (bel_call hX.out hC.1)).cell 0; have z3 := (B5x.out.ext (bel_call hX.out hC.1)).cell 3; have q1 := (hC.1.cell (p := ⟨b1, o1 + x, none⟩) hb1).trans C1.out; have q3 := (hC.1.cell (p := ⟨b3, o3 + s, none⟩) hb3).trans C3.out; have q4 := (hC.1.cell (p := ⟨a5, o5 + j, none⟩) ha5).trans CE.out
                     go_wp2_with (fail)
                     refine hK _ ?_
                     first | exact Below.refl _ _ | assumption | ((repeat' (first | (with_reducible exact Below.refl _ _) | (with_reducible assumption) | (with_reducible refine below_drewN ?_ _) | (with_reducible refine Below.alloc ?_ ?_ _) | (with_reducible refine Below.drew ?_) | (with_reducible refine Below.setCell ?_ ?_ _) | (with_reducible refine Below.trans ?_ (Below.mono (by with_reducible assumption) ?_)) | go_size)))
                   rotate_left 1
                   · rfl
                   clear hex; intro hex)
                refine G.wpS_nil fun w7 hAll => ?_
                have HA7 := Lib.hid hAll.1
                clear hAll hex
                go_upto_region 22 with fail
                refine G.wp_region_stab (G := Ext) (fun _ => none) (by kernel_rfl) (by kernel_rfl) (fun _ _ h => by cases h) (fun hex => ?_)
                iterate 15
                  (refine G.wpS_one (A := ?_) hex rfl rfl (by simp) ?_ ?_ ?_
                   rotate_left 2
                   · intro w' hC K hK
                     have hC7 := bel_call HA7.out hC.1; have z0 := (B3.out.ext (bel_call X5.out (bel_call hX.out hC7))).cell 0; have z3 := (B3.out.ext (bel_call X5.out (bel_call hX.out hC7))).cell 3; have q1 := (hC7.cell (p := ⟨b1', o1' + x, none⟩) hb1').trans C1'.out; have q3 := (hC7.cell (p := ⟨b3', o3' + (b + s), none⟩) hb3').trans C3'.out; have q4 := (hC7.cell (p := ⟨a6, o6 + j', none⟩) ha6).trans CE'.out
                     go_wp2_with (fail)
                     refine hK _ ?_
                     first | exact Below.refl _ _ | assumption | ((repeat' (first | (with_reducible exact Below.refl _ _) | (with_reducible assumption) | (with_reducible refine below_drewN ?_ _) | (with_reducible refine Below.alloc ?_ ?_ _) | (with_reducible refine Below.drew ?_) | (with_reducible refine Below.setCell ?_ ?_ _) | (with_reducible refine Below.trans ?_ (Below.mono (by with_reducible assumption) ?_)) | go_size)))
                   rotate_left 1
                   · rfl
                   clear hex; intro hex)
                refine G.wpS_nil fun w8 hAll => ?_
                have X8 := Lib.hid (bel_call hX.out (bel_call HA7.out hAll.1))
                clear hAll hex HA7
                by_cases hneg : u < 0
                · have t1 : decide (u < 0) = true := by simpa using hneg
                  have t2 : (u' != -1) = false := by simp [H7.out.1 hneg]
                  have t3 : decide (0 ≤ u) = false := by simp; omega
                  clear hneg
                  go_wp2_with fail
                  go_roundw
                  case rel => exact ⟨x + 1, by omega, by go_num, X8⟩
                  case measure => simp [intOf]; omega
                · have t1 : decide (u < 0) = false := by simpa using hneg
                  have t3 : decide (0 ≤ u) = true := by simp; omega
                  have t2 : (u' != u + (b : Int)) = false := by simp [H7.out.2 (by omega)]
                  have hu1 := HR.out.1
                  have hu2 := HR.out.2
                  clear hneg
                  go_wp2_with fail
                  go_roundw
                  case rel => exact ⟨x + 1, by omega, by go_num, X8⟩
                  case measure => simp [intOf]; omega
              · go_wp2_with fail
                go_roundw
                case rel => exact ⟨s + 1, by omega, by go_num, hX⟩
                case measure => simp [intOf]; omega
          · go_wp2_with fail
            go_roundw
            case rel =>
              have h5 := P5.out
              exact ⟨m + 1, by omega, by go_num, by rw [h5]; push_cast; rfl, by rw [h5]; omega, Lib.hid (bel_call X5.out hX.out)⟩
            case measure => simp [intOf]; omega
      · have em : m = n := by omega
        have r3 := (B3.out.ext hX.out).cell 3
        have HA9 := HALL.out
        rw [← em, HN3.out] at HA9
        obtain ⟨b, hbb⟩ : ∃ b, bas L m = b := ⟨_, rfl⟩
        rw [hbb] at HA9 hb6
        rw [hbb]
        have e1 : ((b : Int) == (n3 : Int)) = true := by simp [HA9]
        clear em HA9 hbb
        go_wp2_with fail
        refine (wakes15_any _).mono ?_
        rintro e w9 ⟨rfl, x9⟩
        have X9 := Lib.hid (bel_call X2.out (bel_call X3.out (bel_call hX.out x9)))
        clear x9
        go_wp2_with fail
        go_ret
        exact ⟨rfl, X9.out⟩
end Go.Proofs.YtgcjclglhijchaaDoor
