/- RowsRuns: the walk. -/
import Derived.Test.YtgcjclglhijchaaDoorRn15
namespace Go.Proofs.YtgcjclglhijchaaDoor
open Go Go.RowKit Go.Maps
/-- A list of texts as lists of bytes. -/
def Txs (w : World) (v : Value) (T : List (List UInt8)) : Prop := ∃ vs : List Value, vs.length = T.length ∧ Slc w v T.length vs ∧ ∀ (i : Nat) (h : i < T.length), ∃ u, vs[i]? = some u ∧ Bytes w u T[i]
theorem Txs.ext {w w' : World} {v : Value} {T : List (List UInt8)} (h : Txs w v T) (hx : Ext w w') : Txs w' v T := by
  obtain ⟨vs, h1, h2, h3⟩ := h
  exact ⟨vs, h1, h2.ext hx, fun i hi => by obtain ⟨u, e, hu⟩ := h3 i hi; exact ⟨u, e, hu.ext hx⟩⟩
theorem Txs.shapeq {w : World} {v : Value} {T : List (List UInt8)} (h : Txs w v T) : ∃ a cap, v = .slice a T.length cap ∧ T.length ≤ 140737488355328 := by
  obtain ⟨vs, _, ⟨a, cap, e, h1, h2, _⟩, _⟩ := h
  exact ⟨a, cap, e, h2.1⟩
theorem Txs.cellq {w : World} {a : Option Addr} {n cap : Nat} {T : List (List UInt8)} (h : Txs w (.slice a n cap) T) {k : Nat} (hk : k < T.length) : ∃ b o a2 c2, a = some ⟨b, o, none⟩ ∧ b < w.heap.size ∧ w.cell? ⟨b, o + k, none⟩ = some (.slice a2 T[k].length c2) ∧ Bytes w (.slice a2 T[k].length c2) T[k] := by
  obtain ⟨vs, hl, ⟨a', cap', e, h1, h2, h⟩, h3⟩ := h
  cases e
  rcases h with h | ⟨b, o, rfl, hb, h⟩
  · rw [h] at hl; simp at hl; omega
  · obtain ⟨u, e, hu⟩ := h3 k hk
    obtain ⟨a2, c2, rfl, hc⟩ := hu.shapeq
    exact ⟨b, o, a2, c2, rfl, hb, by rw [h k (by omega), e], hu⟩
theorem runs_plain {L : List Dd} (hL : ∀ d ∈ L, d.Ok) {m : Nat} (hm : m < L.length) :
    (tabOf L).st.getD m 0 = (bas L m : Int) ∧
    (∀ s, s < L[m].nx.length → L[m].kp s = true → bas L m + L[m].rk s < (tabOf L).nx.length ∧ (tabOf L).lb.getD (bas L m + L[m].rk s) 0 = L[m].lab s) ∧
    (∀ s c, s < L[m].nx.length → L[m].kp s = true → c < 256 → (tabOf L).ent (bas L m + L[m].rk s) c = L[m].num (bas L m) (L[m].to s c)) := by
  have hg := wide_get hL hm
  have hk : ∀ s, s < L[m].nx.length → L[m].kp s = true → ∃ h : L[m].rk s < L[m].kept.length, L[m].kept[L[m].rk s] = s := fun s hs hq => by
    have := Dd.kept_get (d := L[m]) hs hq
    exact List.getElem?_eq_some_iff.1 this
  have hnx : (tabOf L).nx.length = (wideOf L).nx.length := by unfold tabOf Wd.tb; simp
  refine ⟨hg.1, fun s hs hq => ?_, fun s c hs hq hc => ?_⟩
  · obtain ⟨h1, h2⟩ := hk s hs hq
    obtain ⟨e1, _, e3⟩ := hg.2 _ h1
    rw [h2] at e3
    exact ⟨by rw [hnx]; exact e1, e3⟩
  · obtain ⟨h1, h2⟩ := hk s hs hq
    have := tab_ent hL hm h1 hc
    rw [h2] at this
    exact this
set_option maxHeartbeats 8000000 in
set_option maxRecDepth 20000 in
theorem rowsruns_any (L : List Dd) (a : Option Addr) (c : Nat) (tv : Value) (TT : List (List UInt8)) (w : World) (h : Dls w a L) (hl : L.length ≤ 140737488355328) (ht : Txs w tv TT) :
    Calls Tryd.prog 7 #[.agg #[.slice a L.length c, tv]] w fun e w' => e = .returned (.bool true) ∧ Ext w w' := by
  obtain ⟨ta, tk, rfl, ht47⟩ := ht.shapeq
  have hx0 := ext_box w #[.slice a L.length c, .slice ta TT.length tk] 58
  have HM := may15_any L a c _ (h.ext hx0) hl
  have HD := Lib.hid (h.ext hx0)
  have HTX := ht.ext hx0
  have HBP := Blk.new w #[.slice a L.length c, .slice ta TT.length tk] 58
  have HX0 := Lib.hid hx0
  obtain ⟨w0, hw0⟩ : ∃ w0, w.alloc (.cells #[.slice a L.length c, .slice ta TT.length tk] 58) = w0 := ⟨_, rfl⟩
  rw [hw0] at HM HD HTX HBP HX0
  obtain ⟨n, hn⟩ : ∃ n, L.length = n := ⟨_, rfl⟩
  obtain ⟨z, hz⟩ : ∃ z, TT.length = z := ⟨_, rfl⟩
  rw [hn] at hl HM HBP hw0
  rw [hz] at HTX HBP hw0 ht47
  rw [hn, hz]
  have HM := Lib.hid HM
  have HTX := Lib.hid HTX
  have HBP := Lib.hid HBP
  have HN := Lib.hid hn
  have HZ := Lib.hid hz
  clear h ht hx0 hn hz
  have z0 := HBP.out.cell 0
  go_enter Tryd.func7, Tryd.ntmps7
  go_wp2_with fail
  clear hw0
  refine HM.out.mono ?_
  rintro e w1 ⟨b, rfl, hb, x1⟩
  have X1 := Lib.hid x1
  clear x1 HM z0
  cases b
  · clear hb
    go_wp2_with fail
    refine (wakes15_any _).mono ?_
    rintro e w2 ⟨rfl, x2⟩
    have X2 := Lib.hid (bel_call HX0.out (bel_call X1.out x2))
    clear x2 X1
    go_wp2_with fail
    go_ret
    exact ⟨rfl, X2.out⟩
  · obtain ⟨hm, -⟩ := hb rfl
    have HAM := Lib.hid (amB_iff.1 hm)
    have HB := build_ok L a c w1 (HD.out.ext X1.out) hm
    have hok : (tabOf L).Ok := tab_ok HAM.out.2.2.1 HAM.out.1 HAM.out.2.1 HAM.out.2.2.2
    have HRP := Lib.hid (fun m hm => runs_plain HAM.out.2.2.1 (m := m) hm)
    have hstl : (tabOf L).st.length = n := by rw [← HN.out]; have := (wide_len (L := L) L.length (Nat.le_refl _)).1; rw [take_all] at this; exact this
    rw [HN.out] at HB
    obtain ⟨T, hT⟩ : ∃ T, tabOf L = T := ⟨_, rfl⟩
    rw [hT] at HB hok HRP hstl
    have HB := Lib.hid HB
    have HOK := Lib.hid hok
    have HSTL := Lib.hid hstl
    have z0 := (HBP.out.ext X1.out).cell 0
    clear hT hok hm hb hstl
    go_wp2_with fail
    refine HB.out.mono ?_
    rintro e w2 ⟨vC, vS, vN, vL, vs, rfl, tb, x2⟩
    have TB := tb.tbm HOK.out
    obtain ⟨aC, kC, eC⟩ := own_shp tb.cl
    obtain ⟨aS, kS, eS⟩ := own_shp tb.st
    obtain ⟨aN, kN, eN⟩ := own_shp tb.nx.rn
    obtain ⟨aL, kL, eL⟩ := own_shp tb.lb
    subst eC eS eN eL
    have X2 := Lib.hid (bel_call X1.out x2)
    have hN6 := HOK.out.le
    rw [HOK.out.cl, HSTL.out, HOK.out.lbl] at TB
    rw [HOK.out.cl, HSTL.out, HOK.out.lbl]
    obtain ⟨n3, hn3⟩ : ∃ n3, T.nx.length = n3 := ⟨_, rfl⟩
    rw [hn3] at TB hN6
    rw [hn3]
    have TB := Lib.hid TB
    have HN3 := Lib.hid hn3
    have HBX := Lib.hid (Blk.new w2 #[.slice aC 256 kC, .int .i64 T.cn, .slice aS n kS, .slice aN n3 kN, .slice aL n3 kL] 29)
    have HX3 := Lib.hid (ext_bx5 w2 (.slice aC 256 kC) (.int .i64 T.cn) (.slice aS n kS) (.slice aN n3 kN) (.slice aL n3 kL) 29)
    have HMR := Lib.hid (mayr_ok T _ _ (TB.out.ext HX3.out) HOK.out)
    clear tb x2 HB X1 hn3 z0
    go_wp2_with fail
    refine HMR.out.mono ?_
    rintro e w3 ⟨rfl, x3⟩
    have X3 := Lib.hid (bel_call HX3.out x3)
    have X03 := Lib.hid (bel_call X2.out X3.out)
    have B3 := Lib.hid (HBX.out.ext x3)
    have r2 := B3.out.cell 2
    have z0 := (HBP.out.ext X03.out).cell 0
    clear x3 HMR HBX HX3
    go_wp2_with fail
    clear r2 z0
    go_loopw [5] (fun i wr => ∃ m : Nat, m ≤ n ∧ i = .int .i64 m ∧ Hid (Ext w3 wr)) (fun i _ => n - (intOf i).toNat)
    case atStart => exact ⟨0, Nat.zero_le _, rfl, Lib.hid (Below.refl _ _)⟩
    case round =>
      obtain ⟨m, hm, rfl, hX⟩ := hrel
      have XW := Lib.hid (bel_call X03.out hX.out)
      have z0 := (HBP.out.ext XW.out).cell 0
      by_cases hml : m < n
      · have hmL : m < L.length := by rw [HN.out]; exact hml
        obtain ⟨p1, p2, p3⟩ := HRP.out m hmL
        have hdk := HAM.out.2.2.1 _ (List.getElem_mem hmL)
        rcases HD.out with h0 | ⟨bb, oo, ea, hbb, h0⟩
        · rw [h0] at hmL; simp at hmL
        · obtain ⟨p, q, c1, c2, d1, d2⟩ := h0 m hmL
          subst ea
          have k1 := (XW.out.cell (p := ⟨bb, oo + m * 2, none⟩) hbb).trans c1
          have k2 := (XW.out.cell (p := ⟨bb, oo + m * 2 + 1, none⟩) hbb).trans c2
          obtain ⟨d, hd⟩ : ∃ d, L[m] = d := ⟨_, rfl⟩
          simp only [hd] at p2 p3 hdk d1 d2
          have DN := Lib.hid (show Dns w0 (.agg #[p, q]) d from ⟨p, q, rfl, d1, d2⟩)
          have HRE := Lib.hid (reach_any d (.agg #[p, q]) wr hdk (DN.out.ext XW.out))
          obtain ⟨pa, pc, rfl, _⟩ := d1.shape
          obtain ⟨qa, qc, rfl, _⟩ := d2.shape
          obtain ⟨b, hbas⟩ : ∃ b, bas L m = b := ⟨_, rfl⟩
          rw [hbas] at p1 p2 p3
          have HDK := Lib.hid hdk
          have P1 := Lib.hid p1
          have P2 := Lib.hid p2
          have P3 := Lib.hid p3
          have C1 := Lib.hid c1
          have C2 := Lib.hid c2
          clear h0 c1 c2 d1 d2 p1 p2 p3 hd hdk hbas
          go_wp2_with fail
          refine HRE.out.mono ?_
          rintro e w4 ⟨gi, rfl, og, x4⟩
          have OG := Lib.hid og
          have X4 := Lib.hid (bel_call hX.out x4)
          clear og x4 HRE hX k1 k2 z0
          go_wp2_with fail
          go_loopw [7] (fun i wr => ∃ y : Nat, y ≤ z ∧ i = .int .i64 y ∧ Hid (Ext w4 wr)) (fun i _ => z - (intOf i).toNat)
          case atStart => exact ⟨0, Nat.zero_le _, rfl, Lib.hid (Below.refl _ _)⟩
          case round =>
            obtain ⟨y, hy, rfl, hX⟩ := hrel
            have X3R := Lib.hid (bel_call X4.out hX.out)
            have XWR := Lib.hid (bel_call X03.out X3R.out)
            have z1 := (HBP.out.ext XWR.out).cell 1
            by_cases hgo : y < z ∧ y < 6
            · obtain ⟨hyz, hy6⟩ := hgo
              have hy9 : y < TT.length := by rw [HZ.out]; exact hyz
              obtain ⟨bt, ot, a2, c2, et, hbt, hct, hbytes⟩ := (HTX.out.ext XWR.out).cellq (k := y) hy9
              obtain ⟨bs, os, es, hbs, hcs⟩ := (TB.out.ext (bel_call X3.out X3R.out)).parts.2.1.at (i := m) (by rw [HSTL.out]; exact hml)
              rw [P1.out] at hcs
              have HRU := Lib.hid (fun w' (hx : Ext wr w') => runs15_any d T b gi _ (.agg #[.slice pa d.nx.length pc, .slice qa d.lb.length qc]) (.agg #[.slice aC 256 kC, .int .i64 T.cn, .slice aS n kS, .slice aN n3 kN, .slice aL n3 kL]) (.slice a2 TT[y].length c2) TT[y] w' HDK.out HOK.out (DN.out.ext (bel_call XWR.out hx)) (TB.out.ext (bel_call X3.out (bel_call X3R.out hx))) (hbytes.ext hx) (own_ex OG.out (bel_call hX.out hx)) P2.out P3.out)
              have CT := Lib.hid hct
              have CS := Lib.hid hcs
              subst et es
              clear hct hcs hbytes
              go_upto_region 13 with fail
              refine G.wp_region_stab (G := Ext) (fun _ => none) (by kernel_rfl) (by kernel_rfl) (fun _ _ h => by cases h) (fun hex => ?_)
              iterate 17
                (refine G.wpS_one (A := ?_) hex rfl rfl (by simp) ?_ ?_ ?_
                 rotate_left 2
                 · intro w' hC K hK
                   have hX9 := bel_call XWR.out hC.1; have hX8 := bel_call X3R.out hC.1; have z0 := (HBP.out.ext hX9).cell 0; have z1 := (HBP.out.ext hX9).cell 1; have k1 := (hX9.cell (p := ⟨bb, oo + m * 2, none⟩) hbb).trans C1.out; have k2 := (hX9.cell (p := ⟨bb, oo + m * 2 + 1, none⟩) hbb).trans C2.out; have r0 := (B3.out.ext hX8).cell 0; have r1 := (B3.out.ext hX8).cell 1; have r2 := (B3.out.ext hX8).cell 2; have r3 := (B3.out.ext hX8).cell 3; have r4 := (B3.out.ext hX8).cell 4; have s1 := (hC.1.cell (p := ⟨bs, os + m, none⟩) hbs).trans CS.out; have s2 := (hC.1.cell (p := ⟨bt, ot + y, none⟩) hbt).trans CT.out
                   go_wp2_with (fail)
                   refine hK _ ?_
                   first | exact Below.refl _ _ | assumption | ((repeat' (first | (with_reducible exact Below.refl _ _) | (with_reducible assumption) | (with_reducible refine below_drewN ?_ _) | (with_reducible refine Below.alloc ?_ ?_ _) | (with_reducible refine Below.drew ?_) | (with_reducible refine Below.setCell ?_ ?_ _) | (with_reducible refine Below.trans ?_ (Below.mono (by with_reducible assumption) ?_)) | go_size)))
                 rotate_left 1
                 · rfl
                 clear hex; intro hex)
              refine G.wpS_one (A := ?_) hex rfl rfl (by simp) ?_ ?_ ?_
              rotate_left 2
              · intro w' hC K hK
                skip
                go_wp2_with (refine (HRU.out w' hC.1).mono ?_; rintro e w9 ⟨rfl, x9⟩)
                refine hK _ ?_
                first | exact Below.refl _ _ | assumption | ((repeat' (first | (with_reducible exact Below.refl _ _) | (with_reducible assumption) | (with_reducible refine below_drewN ?_ _) | (with_reducible refine Below.alloc ?_ ?_ _) | (with_reducible refine Below.drew ?_) | (with_reducible refine Below.setCell ?_ ?_ _) | (with_reducible refine Below.trans ?_ (Below.mono (by with_reducible assumption) ?_)) | go_size)))
              rotate_left 1
              · rfl
              clear hex; intro hex
              refine G.wpS_one (A := ?_) hex rfl rfl (by simp) ?_ ?_ ?_
              rotate_left 2
              · intro w' hC K hK
                go_wp2_with (fail)
                refine hK _ ?_
                first | exact Below.refl _ _ | assumption | ((repeat' (first | (with_reducible exact Below.refl _ _) | (with_reducible assumption) | (with_reducible refine below_drewN ?_ _) | (with_reducible refine Below.alloc ?_ ?_ _) | (with_reducible refine Below.drew ?_) | (with_reducible refine Below.setCell ?_ ?_ _) | (with_reducible refine Below.trans ?_ (Below.mono (by with_reducible assumption) ?_)) | go_size)))
              rotate_left 1
              · rfl
              clear hex; intro hex
              refine G.wpS_nil fun w8 hAll => ?_
              have X8 := Lib.hid (bel_call hX.out hAll.1)
              clear hAll hex
              go_wp2_with fail
              go_roundw
              case rel => exact ⟨y + 1, by omega, by go_num, X8⟩
              case measure => simp [intOf]; omega
            · have z0 := (HBP.out.ext XWR.out).cell 0
              by_cases hyz : y < z
              · have hy6 : ¬ y < 6 := fun h => hgo ⟨hyz, h⟩
                go_wp2_with fail
                go_roundw
                case rel => exact ⟨m + 1, by omega, by go_num, X3R⟩
                case measure => simp [intOf]; omega
              · go_wp2_with fail
                go_roundw
                case rel => exact ⟨m + 1, by omega, by go_num, X3R⟩
                case measure => simp [intOf]; omega
      · go_wp2_with fail
        refine (wakes15_any _).mono ?_
        rintro e w9 ⟨rfl, x9⟩
        have X9 := Lib.hid (bel_call HX0.out (bel_call XW.out x9))
        clear x9
        go_wp2_with fail
        go_ret
        exact ⟨rfl, X9.out⟩
end Go.Proofs.YtgcjclglhijchaaDoor
