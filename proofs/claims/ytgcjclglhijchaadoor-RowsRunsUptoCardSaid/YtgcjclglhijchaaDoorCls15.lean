/- RowsClasses: the walk. -/
import Derived.Test.YtgcjclglhijchaaDoorMr15
namespace Go.Proofs.YtgcjclglhijchaaDoor
open Go Go.RowKit
/-- A table that is built: what is said of its entries and classes. -/
theorem tab_cls {L : List Dd} {a b : Nat} (ha : a < 256) (hb : b < 256) : (tabOf L).cl.getD a 0 = (tabOf L).cl.getD b 0 ↔ ∀ s, s < (tabOf L).nx.length → (tabOf L).ent s a = (tabOf L).ent s b := by
  have h1 : (tabOf L).cl = (clsN (alike (wideOf L).nx) 256).1 := rfl
  have h2 : (tabOf L).nx.length = (wideOf L).nx.length := by unfold tabOf Wd.tb; simp
  rw [h1, clsN_eq (alike_refl _) alike_symm alike_trans ha hb, alike_iff, h2]
  constructor
  · intro h s hs
    unfold tabOf
    rw [tb_ent hs ha, tb_ent hs hb, getD_get hs]
    exact h _ (List.getElem_mem hs)
  · intro h r hr
    obtain ⟨s, hs, rfl⟩ := List.getElem_of_mem hr
    have := h s hs
    unfold tabOf at this
    rw [tb_ent hs ha, tb_ent hs hb, getD_get hs] at this
    exact this
/-- A table's cells, for a state and a byte. -/
theorem Tbm.look {w : World} {p1 p2 p3 p4 : Option Addr} {n1 k1 n2 k2 n3 k3 n4 k4 : Nat} {cn : Int} {t : Tb} (h : Tbm w (.agg #[.slice p1 n1 k1, .int .i64 cn, .slice p2 n2 k2, .slice p3 n3 k3, .slice p4 n4 k4]) t) (ht : t.Ok) {s b : Nat} (hs : s < t.nx.length) (hb : b < 256) :
    ∃ b1 o1 b3 o3 a5 o5 m c5 j, p1 = some ⟨b1, o1, none⟩ ∧ p3 = some ⟨b3, o3, none⟩ ∧ b1 < w.heap.size ∧ b3 < w.heap.size ∧ a5 < w.heap.size ∧ w.cell? ⟨b1, o1 + b, none⟩ = some (.int .i64 ((j : Nat) : Int)) ∧ t.cl.getD b 0 = (j : Int) ∧ w.cell? ⟨b3, o3 + s, none⟩ = some (.slice (some ⟨a5, o5, none⟩) m c5) ∧ j < m ∧ m ≤ 140737488355328 ∧ w.cell? ⟨a5, o5 + j, none⟩ = some (.int .i64 (t.ent s b)) ∧ n1 = 256 ∧ n3 = t.nx.length := by
  obtain ⟨h1, -, h3, -⟩ := h.parts
  have e1 : n1 = t.cl.length := by obtain ⟨_, _, e, _⟩ := h1.shape; simp only [Value.slice.injEq] at e; exact e.2.1
  have e3 : n3 = t.nx.length := by obtain ⟨_, _, e, _⟩ := h3.shape; simp only [Value.slice.injEq] at e; exact e.2.1
  have hcl : b < t.cl.length := by rw [ht.cl]; exact hb
  obtain ⟨b1, o1, rfl, hb1, hc1, -, -⟩ := h1.cell hcl
  have hrange := clsK_get _ _ _ (by omega) ht.cn _ (List.getElem_mem hcl)
  obtain ⟨b3, o3, a5, c5, rfl, hb3, hc3, hI5, hm⟩ := h3.cell hs
  have hrow := (ht.row _ (List.getElem_mem hs)).1
  obtain ⟨j, hj⟩ : ∃ j : Nat, t.cl[b] = (j : Int) := ⟨t.cl[b].toNat, by omega⟩
  have hjl : j < t.nx[s].length := by omega
  obtain ⟨b5, o5, rfl, hb5, hc5, -, -⟩ := hI5.cell hjl
  have hent : t.ent s b = t.nx[s][j] := by
    unfold Tb.ent
    rw [getD_get hs, getD_get hcl, hj, Int.toNat_natCast, getD_get hjl]
  exact ⟨b1, o1, b3, o3, b5, o5, _, c5, j, rfl, rfl, hb1, hb3, hb5, by rw [hc1, hj], by rw [getD_get hcl, hj], hc3, hjl, hm, by rw [hc5, hent], by rw [e1, ht.cl], e3⟩
set_option maxHeartbeats 8000000 in
set_option maxRecDepth 20000 in
theorem cls15_any (L : List Dd) (a : Option Addr) (c : Nat) (w : World) (h : Dls w a L) (hl : L.length ≤ 140737488355328) :
    Calls Tryd.prog 5 #[.slice a L.length c] w fun e w' => e = .returned (.bool true) ∧ Ext w w' := by
  have HM := Lib.hid (may15_any L a c w h hl)
  have HD := Lib.hid h
  obtain ⟨n, hn⟩ : ∃ n, L.length = n := ⟨_, rfl⟩
  rw [hn] at hl HM ⊢
  have HN := Lib.hid hn
  clear h hn
  go_enter Tryd.func5, Tryd.ntmps5
  go_wp2_with fail
  refine HM.out.mono ?_
  rintro e w1 ⟨b, rfl, hb, x1⟩
  have X1 := Lib.hid x1
  clear x1 HM
  cases b
  · clear hb
    go_wp2_with fail
    refine (wakes15_any _).mono ?_
    rintro e w2 ⟨rfl, x2⟩
    have X2 := Lib.hid (bel_call X1.out x2)
    clear x2 X1
    go_wp2_with fail
    go_ret
    exact ⟨rfl, X2.out⟩
  · obtain ⟨hm, -⟩ := hb rfl
    have HAM := Lib.hid (amB_iff.1 hm)
    have HB := build_ok L a c w1 (HD.out.ext X1.out) hm
    have hok : (tabOf L).Ok := tab_ok HAM.out.2.2.1 HAM.out.1 HAM.out.2.1 HAM.out.2.2.2
    have HCL := Lib.hid (fun a b ha hb => tab_cls (L := L) (a := a) (b := b) ha hb)
    rw [HN.out] at HB
    obtain ⟨T, hT⟩ : ∃ T, tabOf L = T := ⟨_, rfl⟩
    rw [hT] at HB hok HCL
    have HB := Lib.hid HB
    have HOK := Lib.hid hok
    clear hT hok hm hb
    go_wp2_with fail
    refine HB.out.mono ?_
    rintro e w2 ⟨vC, vS, vN, vL, vs, rfl, tb, x2⟩
    have TB := tb.tbm HOK.out
    obtain ⟨aC, kC, eC⟩ := own_shp tb.cl
    obtain ⟨aS, kS, eS⟩ := own_shp tb.st
    obtain ⟨aN, kN, eN⟩ := own_shp tb.nx.rn
    obtain ⟨aL, kL, eL⟩ := own_shp tb.lb
    subst eC eS eN eL
    have TB := Lib.hid TB
    have X2 := Lib.hid (bel_call X1.out x2)
    have hN6 := HOK.out.le
    rw [HOK.out.cl] at TB
    rw [HOK.out.cl]
    generalize T.st.length = n2 at *
    obtain ⟨n3, hn3⟩ : ∃ n3, T.nx.length = n3 := ⟨_, rfl⟩
    rw [hn3] at TB hN6
    rw [hn3]
    generalize T.lb.length = n4 at *
    have HN3 := Lib.hid hn3
    have HBX := Lib.hid (Blk.new w2 #[.slice aC 256 kC, .int .i64 T.cn, .slice aS n2 kS, .slice aN n3 kN, .slice aL n4 kL] 29)
    have HX3 := Lib.hid (ext_bx5 w2 (.slice aC 256 kC) (.int .i64 T.cn) (.slice aS n2 kS) (.slice aN n3 kN) (.slice aL n4 kL) 29)
    have HMR := Lib.hid (mayr_ok T _ _ (TB.out.ext HX3.out) HOK.out)
    clear tb x2 HB X1 hn3
    go_wp2_with fail
    refine HMR.out.mono ?_
    rintro e w3 ⟨rfl, x3⟩
    have X3 := Lib.hid (bel_call HX3.out x3)
    have B3 := Lib.hid (HBX.out.ext x3)
    clear x3 HMR HBX HX3
    go_wp2_with fail
    go_loopw [5] (fun i wr => ∃ a : Nat, a ≤ 256 ∧ i = .int .i64 a ∧ Hid (Ext w3 wr)) (fun i _ => 256 - (intOf i).toNat)
    case atStart => exact ⟨0, Nat.zero_le _, rfl, Lib.hid (Below.refl _ _)⟩
    case round =>
      obtain ⟨x, hx, rfl, hX⟩ := hrel
      by_cases hxl : x < 256
      · go_wp2_with fail
        go_loopw [6] (fun i wr => ∃ b : Nat, b ≤ x ∧ i = .int .i64 b ∧ Hid (Ext w3 wr)) (fun i _ => x - (intOf i).toNat)
        case atStart => exact ⟨0, Nat.zero_le _, rfl, hX⟩
        case round =>
          clear hX
          obtain ⟨y, hy, rfl, hX⟩ := hrel
          by_cases hyl : y < x
          · have HQ := Lib.hid (HCL.out x y hxl (by omega))
            go_wp2_with fail
            go_loopw [8, 7] (fun s8 s7 wr => ∃ s : Nat, s ≤ n3 ∧ s8 = .int .i64 s ∧ ∃ q, s7 = .bool q ∧ Hid (q = true → ∀ s', s' < s → T.ent s' x = T.ent s' y) ∧ Hid (q = false → ∃ s', s' < n3 ∧ T.ent s' x ≠ T.ent s' y) ∧ Hid (Ext w3 wr)) (fun s8 _ _ => n3 - (intOf s8).toNat)
            case atStart => exact ⟨0, Nat.zero_le _, rfl, true, rfl, Lib.hid (fun _ s' h => by omega), Lib.hid (fun h => by cases h), hX⟩
            case round =>
              clear hX
              obtain ⟨s, hs, rfl, q, rfl, hT, hF, hX⟩ := hrel
              have z3 := (B3.out.ext hX.out).cell 3
              by_cases hgo : s < n3 ∧ q = true
              · obtain ⟨hsl, rfl⟩ := hgo
                have HT2 := Lib.hid (hT.out rfl)
                clear hT hF
                have XE := Lib.hid (bel_call X3.out hX.out)
                have hsT : s < T.nx.length := by rw [HN3.out]; exact hsl
                obtain ⟨b1, o1, b3, o3, a5, o5, m, c5, j, e1, e3, hb1, hb3, ha5, c1, l1, c3, hjm, hm47, cE, -, -⟩ := (TB.out.ext XE.out).look HOK.out hsT hxl
                obtain ⟨b1', o1', b3', o3', a6, o6, m', c6, j', e1', e3', -, -, -, c1', l1', c3', hjm', -, cE', -, -⟩ := (TB.out.ext XE.out).look HOK.out hsT (show y < 256 by omega)
                rw [e1] at e1'
                rw [e3] at e3'
                cases e1'
                cases e3'
                have hc := c3.symm.trans c3'
                simp only [Option.some.injEq, Value.slice.injEq, Addr.mk.injEq, and_true] at hc
                obtain ⟨⟨rfl, rfl⟩, rfl, rfl⟩ := hc
                subst e1 e3
                have C1 := Lib.hid c1
                have C1' := Lib.hid c1'
                have C3 := Lib.hid c3
                have CE := Lib.hid cE
                have CE' := Lib.hid cE'
                obtain ⟨u, hu⟩ : ∃ u, T.ent s x = u := ⟨_, rfl⟩
                obtain ⟨u', hu'⟩ : ∃ u, T.ent s y = u := ⟨_, rfl⟩
                rw [hu] at CE
                rw [hu'] at CE'
                have HU := Lib.hid hu
                have HU' := Lib.hid hu'
                clear c1 c1' c3 c3' cE cE' l1 l1' hu hu' hsT
                go_upto_region 16 with fail
                refine G.wp_region_stab (G := Ext) (fun _ => none) (by kernel_rfl) (by kernel_rfl) (fun _ _ h => by cases h) (fun hex => ?_)
                iterate 26
                  (refine G.wpS_one (A := ?_) hex rfl rfl (by simp) ?_ ?_ ?_
                   rotate_left 2
                   · intro w' hC K hK
                     have y0 := (B3.out.ext (bel_call hX.out hC.1)).cell 0; have y3 := (B3.out.ext (bel_call hX.out hC.1)).cell 3; have q1 := (hC.1.cell (p := ⟨b1, o1 + x, none⟩) hb1).trans C1.out; have q2 := (hC.1.cell (p := ⟨b1, o1 + y, none⟩) hb1).trans C1'.out; have q3 := (hC.1.cell (p := ⟨b3, o3 + s, none⟩) hb3).trans C3.out; have q4 := (hC.1.cell (p := ⟨a5, o5 + j, none⟩) ha5).trans CE.out; have q5 := (hC.1.cell (p := ⟨a5, o5 + j', none⟩) ha5).trans CE'.out
                     go_wp2_with (fail)
                     refine hK _ ?_
                     first | exact Below.refl _ _ | assumption | ((repeat' (first | (with_reducible exact Below.refl _ _) | (with_reducible assumption) | (with_reducible refine below_drewN ?_ _) | (with_reducible refine Below.alloc ?_ ?_ _) | (with_reducible refine Below.drew ?_) | (with_reducible refine Below.setCell ?_ ?_ _) | (with_reducible refine Below.trans ?_ (Below.mono (by with_reducible assumption) ?_)) | go_size)))
                   rotate_left 1
                   · rfl
                   clear hex; intro hex)
                refine G.wpS_nil fun w6 hAll => ?_
                have X6 := Lib.hid (bel_call hX.out hAll.1)
                clear hAll hex z3
                go_wp2_with fail
                go_roundw
                case rel =>
                  refine ⟨s + 1, by omega, by go_num, _, rfl, Lib.hid (fun hq s' hs' => ?_), Lib.hid (fun hq => ⟨s, hsl, ?_⟩), X6⟩
                  · by_cases e : s' = s
                    · subst e; rw [HU.out, HU'.out]; simpa using hq
                    · exact HT2.out s' (by omega)
                  · rw [HU.out, HU'.out]; simpa using hq
                case measure => simp [intOf]; omega
              · have HQE := Lib.hid (show q = decide (T.cl.getD x 0 = T.cl.getD y 0) by
                  cases q
                  · obtain ⟨s', h1, h2⟩ := hF.out rfl
                    symm
                    rw [decide_eq_false_iff_not]
                    intro h
                    exact h2 (HQ.out.1 h s' (by rw [HN3.out]; exact h1))
                  · have hse : s = n3 := by
                      by_cases hsl : s < n3
                      · exact absurd ⟨hsl, rfl⟩ hgo
                      · omega
                    symm
                    rw [decide_eq_true_eq]
                    exact HQ.out.2 (fun s' hs' => hT.out rfl s' (by rw [hse, ← HN3.out]; exact hs')))
                have XE := Lib.hid (bel_call X3.out hX.out)
                obtain ⟨b1, o1, b3, o3, a5, o5, m, c5, j, e1, e3, hb1, hb3, ha5, c1, l1, c3, hjm, hm47, cE, -, -⟩ := (TB.out.ext XE.out).look HOK.out (show 0 < T.nx.length from HOK.out.pos) hxl
                obtain ⟨b1', o1', b3', o3', a6, o6, m', c6, j', e1', e3', -, -, -, c1', l1', c3', hjm', -, cE', -, -⟩ := (TB.out.ext XE.out).look HOK.out (show 0 < T.nx.length from HOK.out.pos) (show y < 256 by omega)
                rw [e1] at e1'
                cases e1'
                subst e1
                rw [l1, l1'] at HQE
                have C1 := Lib.hid c1
                have C1' := Lib.hid c1'
                have HE9 := Lib.hid (show ((j : Int) == (j' : Int)) = q by rw [HQE.out, Bool.eq_iff_iff, beq_iff_eq, decide_eq_true_eq])
                clear c1 c1' c3 c3' cE cE' l1 l1' e3 e3' hjm hjm' hm47 hb3 ha5 HQE
                have hstop : (decide (s < n3) && q) = false := by
                  cases q
                  · simp
                  · simp only [Bool.and_true, decide_eq_false_iff_not]; intro h; exact hgo ⟨h, rfl⟩
                clear hgo hT hF
                cases q
                · by_cases hsl : s < n3
                  · clear hstop
                    go_upto_region 17 with fail
                    have e9 := HE9.out
                    refine G.wp_region_stab (G := Ext) (fun _ => none) (by kernel_rfl) (by kernel_rfl) (fun _ _ h => by cases h) (fun hex => ?_)
                    iterate 13
                      (refine G.wpS_one (A := ?_) hex rfl rfl (by simp) ?_ ?_ ?_
                       rotate_left 2
                       · intro w' hC K hK
                         have y0 := (B3.out.ext (bel_call hX.out hC.1)).cell 0; have q1 := (hC.1.cell (p := ⟨b1, o1 + x, none⟩) hb1).trans C1.out; have q2 := (hC.1.cell (p := ⟨b1, o1 + y, none⟩) hb1).trans C1'.out
                         go_wp2_with (fail)
                         refine hK _ ?_
                         first | exact Below.refl _ _ | assumption | ((repeat' (first | (with_reducible exact Below.refl _ _) | (with_reducible assumption) | (with_reducible refine below_drewN ?_ _) | (with_reducible refine Below.alloc ?_ ?_ _) | (with_reducible refine Below.drew ?_) | (with_reducible refine Below.setCell ?_ ?_ _) | (with_reducible refine Below.trans ?_ (Below.mono (by with_reducible assumption) ?_)) | go_size)))
                       rotate_left 1
                       · rfl
                       clear hex; intro hex)
                    refine G.wpS_nil fun w6 hAll => ?_
                    have X6 := Lib.hid (bel_call hX.out hAll.1)
                    clear hAll hex z3 e9
                    go_wp2_with fail
                    go_roundw
                    case rel => exact ⟨y + 1, by omega, by go_num, X6⟩
                    case measure => simp [intOf]; omega
                  · clear hstop
                    go_upto_region 17 with fail
                    have e9 := HE9.out
                    refine G.wp_region_stab (G := Ext) (fun _ => none) (by kernel_rfl) (by kernel_rfl) (fun _ _ h => by cases h) (fun hex => ?_)
                    iterate 13
                      (refine G.wpS_one (A := ?_) hex rfl rfl (by simp) ?_ ?_ ?_
                       rotate_left 2
                       · intro w' hC K hK
                         have y0 := (B3.out.ext (bel_call hX.out hC.1)).cell 0; have q1 := (hC.1.cell (p := ⟨b1, o1 + x, none⟩) hb1).trans C1.out; have q2 := (hC.1.cell (p := ⟨b1, o1 + y, none⟩) hb1).trans C1'.out
                         go_wp2_with (fail)
                         refine hK _ ?_
                         first | exact Below.refl _ _ | assumption | ((repeat' (first | (with_reducible exact Below.refl _ _) | (with_reducible assumption) | (with_reducible refine below_drewN ?_ _) | (with_reducible refine Below.alloc ?_ ?_ _) | (with_reducible refine Below.drew ?_) | (with_reducible refine Below.setCell ?_ ?_ _) | (with_reducible refine Below.trans ?_ (Below.mono (by with_reducible assumption) ?_)) | go_size)))
                       rotate_left 1
                       · rfl
                       clear hex; intro hex)
                    refine G.wpS_nil fun w6 hAll => ?_
                    have X6 := Lib.hid (bel_call hX.out hAll.1)
                    clear hAll hex z3 e9
                    go_wp2_with fail
                    go_roundw
                    case rel => exact ⟨y + 1, by omega, by go_num, X6⟩
                    case measure => simp [intOf]; omega
                · have hsl : ¬ s < n3 := by simpa using hstop
                  clear hstop
                  go_upto_region 17 with fail
                  have e9 := HE9.out
                  refine G.wp_region_stab (G := Ext) (fun _ => none) (by kernel_rfl) (by kernel_rfl) (fun _ _ h => by cases h) (fun hex => ?_)
                  iterate 13
                    (refine G.wpS_one (A := ?_) hex rfl rfl (by simp) ?_ ?_ ?_
                     rotate_left 2
                     · intro w' hC K hK
                       have y0 := (B3.out.ext (bel_call hX.out hC.1)).cell 0; have q1 := (hC.1.cell (p := ⟨b1, o1 + x, none⟩) hb1).trans C1.out; have q2 := (hC.1.cell (p := ⟨b1, o1 + y, none⟩) hb1).trans C1'.out
                       go_wp2_with (fail)
                       refine hK _ ?_
                       first | exact Below.refl _ _ | assumption | ((repeat' (first | (with_reducible exact Below.refl _ _) | (with_reducible assumption) | (with_reducible refine below_drewN ?_ _) | (with_reducible refine Below.alloc ?_ ?_ _) | (with_reducible refine Below.drew ?_) | (with_reducible refine Below.setCell ?_ ?_ _) | (with_reducible refine Below.trans ?_ (Below.mono (by with_reducible assumption) ?_)) | go_size)))
                     rotate_left 1
                     · rfl
                     clear hex; intro hex)
                  refine G.wpS_nil fun w6 hAll => ?_
                  have X6 := Lib.hid (bel_call hX.out hAll.1)
                  clear hAll hex z3 e9
                  go_wp2_with fail
                  go_roundw
                  case rel => exact ⟨y + 1, by omega, by go_num, X6⟩
                  case measure => simp [intOf]; omega
          · go_wp2_with fail
            go_roundw
            case rel => exact ⟨x + 1, by omega, by go_num, hX⟩
            case measure => simp [intOf]; omega
      · go_wp2_with fail
        refine (wakes15_any _).mono ?_
        rintro e w9 ⟨rfl, x9⟩
        have X9 := Lib.hid (bel_call X2.out (bel_call X3.out (bel_call hX.out x9)))
        clear x9
        go_wp2_with fail
        go_ret
        exact ⟨rfl, X9.out⟩
end Go.Proofs.YtgcjclglhijchaaDoor
