/- bolterref15.May of a table that may be; bolterlaw15.may. -/
import Derived.Test.YtgcjclglhijchaaDoorWk15
import Derived.Test.YtgcjclglhijchaaDoorMay
namespace Go.Proofs.YtgcjclglhijchaaDoor
open Go Go.RowKit
set_option maxHeartbeats 2000000 in
set_option maxRecDepth 20000 in
theorem mcl_ok (L : List Int) (cn : Int) (v : Value) (w : World) (h : Ints w v L) (hl : L.length = 256) (hk : clsK 0 L = some cn) :
    Calls Tryd.prog 40 #[v, .int .i64 cn] w fun e w' => e = .returned (.bool true) ∧ w = w' := by
  obtain ⟨a, k, rfl, _⟩ := h.shape
  have H := h
  rw [hl] at H
  have H := Lib.hid H
  have HK := Lib.hid hk
  have HLL := Lib.hid hl
  have hcn := clsK_le _ _ _ hk
  rw [hl] at hcn ⊢
  have HG := Lib.hid (clsK_get _ _ _ (by omega) hk)
  clear h hl hk
  go_enter Tryd.func40, Tryd.ntmps40
  go_wp2
  go_loop [6, 5] (fun i f => ∃ k : Nat, k ≤ 256 ∧ i = .int .i64 k ∧ ∃ m : Int, f = .int .i64 m ∧ 0 ≤ m ∧ m ≤ k ∧ Hid (clsK 0 (L.take k) = some m)) (fun i _ => 256 - (intOf i).toNat)
  case atStart => exact ⟨0, Nat.zero_le _, rfl, 0, rfl, by omega, by omega, Lib.hid rfl⟩
  case round =>
    obtain ⟨k, hk, rfl, m, rfl, m0, m1, hK⟩ := hrel
    by_cases hkl : k < 256
    · have hkL : k < L.length := by rw [HLL.out]; exact hkl
      obtain ⟨b, o, rfl, hb, hc, r1, r2⟩ := H.out.cell hkL
      have HST := Lib.hid (clsK_take hkL 0)
      have hNO : ¬ (L[k] < 0 ∨ m < L[k]) := fun q => by
        have := clsK_no hkL hK.out q
        rw [HK.out] at this; cases this
      obtain ⟨x, hx⟩ : ∃ x, L[k] = x := ⟨_, rfl⟩
      rw [hx] at hc HST r1 r2 hNO
      clear hx
      have t1 : decide (x < 0) = false := by simp; omega
      have t2 : decide (m < x) = false := by simp; omega
      have HS := Lib.hid (show clsK 0 (L.take (k + 1)) = some (if x = m then m + 1 else m) by rw [HST.out, hK.out]; show (if _ then none else _) = _; rw [if_neg hNO])
      by_cases g2 : x = m
      · rw [if_pos g2] at HS
        subst g2
        clear hNO
        go_wp2
        go_round
        case rel => exact ⟨k + 1, by omega, by go_num, x + 1, rfl, by omega, by omega, HS⟩
        case measure => simp [intOf]; omega
      · rw [if_neg g2] at HS
        have t3 : (x == m) = false := by simpa using g2
        clear hNO
        go_wp2
        go_round
        case rel => exact ⟨k + 1, by omega, by go_num, m, rfl, by omega, by omega, HS⟩
        case measure => simp [intOf]; omega
    · have e : k = 256 := by omega
      subst e
      have hK2 := hK.out
      rw [List.take_of_length_le (by rw [HLL.out]; exact Nat.le_refl _), HK.out] at hK2
      have hK2 := Option.some.inj hK2
      have t9 : (m == cn) = true := by simp [hK2]
      clear hK2
      go_wp2
      go_ret
      exact ⟨rfl, rfl⟩
set_option maxHeartbeats 4000000 in
set_option maxRecDepth 20000 in
theorem mayr_ok (t : Tb) (v : Value) (w : World) (h : Tbm w v t) (ht : t.Ok) :
    Calls Tryd.prog 19 #[v] w fun e w' => e = .returned (.bool true) ∧ Ext w w' := by
  obtain ⟨p1, k1, p2, k2, p3, k3, p4, k4, rfl, h1, h2, h3, h4, l1, l2, l3, l4⟩ := h.box
  have hE := ext_bx5 w (.slice p1 t.cl.length k1) (.int .i64 t.cn) (.slice p2 t.st.length k2) (.slice p3 t.nx.length k3) (.slice p4 t.lb.length k4) 29
  have HBX := Lib.hid (Blk.new w #[.slice p1 t.cl.length k1, .int .i64 t.cn, .slice p2 t.st.length k2, .slice p3 t.nx.length k3, .slice p4 t.lb.length k4] 29)
  have HM := Lib.hid (mcl_ok t.cl t.cn _ _ (h1.ext hE) ht.cl ht.cn)
  have H2 := Lib.hid (h2.ext hE)
  have H3 := Lib.hid (h3.ext hE)
  have H4 := Lib.hid (h4.ext hE)
  have HE := Lib.hid hE
  have HT := Lib.hid ht
  obtain ⟨w1, hw1⟩ : ∃ w1, w.alloc (.cells #[.slice p1 t.cl.length k1, .int .i64 t.cn, .slice p2 t.st.length k2, .slice p3 t.nx.length k3, .slice p4 t.lb.length k4] 29) = w1 := ⟨_, rfl⟩
  rw [hw1] at HBX HM H2 H3 H4 HE
  have hn1 := ht.cl
  have hn2a := ht.sp
  have hn2b := ht.sl
  have hn3a := ht.pos
  have hn3b := ht.le
  have hn4 := ht.lbl
  obtain ⟨n, hn⟩ : ∃ n, t.nx.length = n := ⟨_, rfl⟩
  obtain ⟨n2, hn2⟩ : ∃ n, t.st.length = n := ⟨_, rfl⟩
  rw [hn4] at HBX H4 hw1 l4
  rw [hn4]
  rw [hn] at HBX H3 H4 hw1 l4 l3 hn3a hn3b
  rw [hn2] at HBX H2 hw1 l2 hn2a hn2b
  rw [hn1] at HBX HM hw1 l1
  rw [hn, hn2, hn1]
  have HN := Lib.hid hn
  have HN2 := Lib.hid hn2
  have HN4 := Lib.hid (hn4.trans hn)
  clear h h1 h2 h3 h4 hE ht hn hn2 hn1 hn4
  have t1 : decide ((n2 : Int) < 1) = false := by simp; omega
  have t2 : decide ((16 : Int) < (n2 : Int)) = false := by simp; omega
  have t3 : decide ((n : Int) < 1) = false := by simp; omega
  have t4 : decide ((600 : Int) < (n : Int)) = false := by simp; omega
  have z0 := HBX.out.cell 0
  have z1 := HBX.out.cell 1
  have z2 := HBX.out.cell 2
  have z3 := HBX.out.cell 3
  have z4 := HBX.out.cell 4
  go_enter Tryd.func19, Tryd.ntmps19
  go_wp2_with fail
  refine HM.out.mono ?_
  rintro e w2 ⟨rfl, rfl⟩
  go_wp2_with fail
  clear t1 t2 t3 t4 z0 z1 z3 z4 hw1
  go_loopw [4] (fun i wr => ∃ k : Nat, k ≤ n2 ∧ i = .int .i64 k ∧ Hid (w1 = wr)) (fun i _ => n2 - (intOf i).toNat)
  case atStart => exact ⟨0, Nat.zero_le _, rfl, Lib.hid rfl⟩
  case round =>
    obtain ⟨k, hk, rfl, hw⟩ := hrel
    obtain rfl := hw.out
    by_cases hkl : k < n2
    · have hkS : k < t.st.length := by rw [HN2.out]; exact hkl
      obtain ⟨b, o, rfl, hb, hc, r1, r2⟩ := H2.out.cell hkS
      have hst := HT.out.st _ (List.getElem_mem hkS)
      rw [HN.out] at hst
      obtain ⟨x, hx⟩ : ∃ x, t.st[k] = x := ⟨_, rfl⟩
      rw [hx] at hc hst r1 r2
      clear hx
      have t1 : decide (x < 0) = false := by simp; omega
      have t2 : decide ((n : Int) ≤ x) = false := by simp; omega
      clear hst
      go_wp2_with fail
      go_roundw
      case rel => exact ⟨k + 1, by omega, by go_num, Lib.hid trivial⟩
      case measure => simp [intOf]; omega
    · go_wp2_with fail
      clear z2
      go_loopw [5] (fun i wr => ∃ k : Nat, k ≤ n ∧ i = .int .i64 k ∧ Hid (Ext w1 wr)) (fun i _ => n - (intOf i).toNat)
      case atStart => exact ⟨0, Nat.zero_le _, rfl, Lib.hid (Below.refl _ _)⟩
      case round =>
        obtain ⟨s, hs, rfl, hX⟩ := hrel
        by_cases hsl : s < n
        · have hsN : s < t.nx.length := by rw [HN.out]; exact hsl
          have hsL : s < t.lb.length := by rw [HN4.out]; exact hsl
          obtain ⟨b3, o3, a5, c5, rfl, hb3, hc3, hI5, hm47⟩ := (H3.out.ext hX.out).cell hsN
          obtain ⟨b4, o4, rfl, hb4, hc4, -, -⟩ := (H4.out.ext hX.out).cell hsL
          have hrow := HT.out.row _ (List.getElem_mem hsN)
          have hlab := HT.out.lb _ (List.getElem_mem hsL)
          rw [HN.out] at hrow
          obtain ⟨m, hm⟩ : ∃ m, t.nx[s].length = m := ⟨_, rfl⟩
          obtain ⟨y, hy⟩ : ∃ y, t.lb[s] = y := ⟨_, rfl⟩
          rw [hm] at hc3 hrow hI5 hm47
          rw [hy] at hc4 hlab
          have HC3 := Lib.hid hc3
          have HC4 := Lib.hid hc4
          have HI5 := Lib.hid hI5
          have HRW := Lib.hid hrow.2
          have HMM := Lib.hid hm
          have hmc := hrow.1
          have e1 : ((m : Int) != t.cn) = false := by simp [hmc]
          have e2 : decide (y < -1) = false := by simp; omega
          have e3 : decide (200 ≤ y) = false := by simp; omega
          have e4 : ((m : Int) == t.cn) = true := by simp [hmc]
          clear hrow hlab hm hy hc3 hc4 hI5 hmc
          go_upto_region 12 with fail
          refine G.wp_region_stab (G := Ext) (fun _ => none) (by kernel_rfl) (by kernel_rfl) (fun _ _ h => by cases h) (fun hex => ?_)
          iterate 25
            (refine G.wpS_one (A := ?_) hex rfl rfl (by simp) ?_ ?_ ?_
             rotate_left 2
             · intro w' hC K hK
               have hX9 := bel_call hX.out hC.1; have z1 := (HBX.out.ext hX9).cell 1; have z3 := (HBX.out.ext hX9).cell 3; have z4 := (HBX.out.ext hX9).cell 4; have q3 := (hC.1.cell (p := ⟨b3, o3 + s, none⟩) hb3).trans HC3.out; have q4 := (hC.1.cell (p := ⟨b4, o4 + s, none⟩) hb4).trans HC4.out
               go_wp2_with (fail)
               refine hK _ ?_
               first | exact Below.refl _ _ | assumption | ((repeat' (first | (with_reducible exact Below.refl _ _) | (with_reducible assumption) | (with_reducible refine below_drewN ?_ _) | (with_reducible refine Below.alloc ?_ ?_ _) | (with_reducible refine Below.drew ?_) | (with_reducible refine Below.setCell ?_ ?_ _) | (with_reducible refine Below.trans ?_ (Below.mono (by with_reducible assumption) ?_)) | go_size)))
             rotate_left 1
             · rfl
             clear hex; intro hex)
          refine G.wpS_nil fun w6 hAll => ?_
          have X6 := Lib.hid (bel_call hX.out hAll.1)
          have I6 := Lib.hid (HI5.out.ext hAll.1)
          have z3 := (HBX.out.ext X6.out).cell 3
          have q3 := (hAll.1.cell (p := ⟨b3, o3 + s, none⟩) hb3).trans HC3.out
          clear hAll hex e1 e2 e3 e4
          go_wp2_with fail
          go_loopw [6] (fun i wr => ∃ k : Nat, k ≤ m ∧ i = .int .i64 k ∧ Hid (w6 = wr)) (fun i _ => m - (intOf i).toNat)
          case atStart => exact ⟨0, Nat.zero_le _, rfl, Lib.hid rfl⟩
          case round =>
            obtain ⟨j, hj, rfl, hw⟩ := hrel
            obtain rfl := hw.out
            by_cases hjl : j < m
            · have hjN : j < t.nx[s].length := by rw [HMM.out]; exact hjl
              obtain ⟨b5, o5, rfl, hb5, hc5, -, -⟩ := I6.out.cell hjN
              have hx := HRW.out _ (List.getElem_mem hjN)
              obtain ⟨x, hxx⟩ : ∃ x, t.nx[s][j] = x := ⟨_, rfl⟩
              rw [hxx] at hc5 hx
              clear hxx
              have t1 : decide (x < -1) = false := by simp; omega
              have t2 : decide ((n : Int) ≤ x) = false := by simp; omega
              clear hx
              go_wp2_with fail
              go_roundw
              case rel => exact ⟨j + 1, by omega, by go_num, Lib.hid trivial⟩
              case measure => simp [intOf]; omega
            · go_wp2_with fail
              go_roundw
              case rel => exact ⟨s + 1, by omega, by go_num, X6⟩
              case measure => simp [intOf]; omega
        · go_wp2_with fail
          go_ret
          exact ⟨rfl, bel_call HE.out hX.out⟩
set_option maxHeartbeats 2000000 in
set_option maxRecDepth 20000 in
theorem light_ok (L : List Dd) (a : Option Addr) (c : Nat) (w : World) (h : Dls w a L) (hl : L.length ≤ 140737488355328) (hd : ∀ d ∈ L, d.nx.length ≤ 600) :
    Calls Tryd.prog 8 #[.slice a L.length c] w fun e w' => e = .returned (.bool (decide (sumN L ≤ 80) && decide (L.length ≤ 40))) ∧ w = w' := by
  have H := Lib.hid h
  have HD := Lib.hid hd
  obtain ⟨n, hn⟩ : ∃ n, L.length = n := ⟨_, rfl⟩
  rw [hn] at hl ⊢
  have HN := Lib.hid hn
  clear h hd hn
  go_enter Tryd.func8, Tryd.ntmps8
  go_wp2_with fail
  go_loopw [4, 3] (fun s4 s3 wr => ∃ k : Nat, k ≤ n ∧ s4 = .int .i64 k ∧ ∃ m : Nat, s3 = .int .i64 (m : Int) ∧ m ≤ k * 600 ∧ Hid (sumN (L.take k) = m) ∧ Hid (w = wr)) (fun s4 _ _ => n - (intOf s4).toNat)
  case atStart => exact ⟨0, Nat.zero_le _, rfl, 0, rfl, by omega, Lib.hid rfl, Lib.hid rfl⟩
  case round =>
    obtain ⟨k, hk, rfl, m, rfl, hm, hsum, hw⟩ := hrel
    obtain rfl := hw.out
    by_cases hkn : k < n
    · have hkL : k < L.length := by rw [HN.out]; exact hkn
      rcases H.out with h0 | ⟨b, o, rfl, hb, h0⟩
      · rw [h0] at hkL; simp at hkL
      · obtain ⟨p, q, c1, c2, r1, r2⟩ := h0 k hkL
        obtain ⟨pa, pc, rfl, _⟩ := r1.shape
        have HSS := Lib.hid (sumN_succ L hkL)
        have hle := HD.out _ (List.getElem_mem hkL)
        obtain ⟨z, hz⟩ : ∃ z, L[k].nx.length = z := ⟨_, rfl⟩
        rw [hz] at hle HSS c1
        clear h0 c2 r1 r2 hz
        go_wp2_with fail
        go_roundw
        case rel => exact ⟨k + 1, by omega, by go_num, m + z, by simp, by omega, Lib.hid (by rw [HSS.out, hsum.out]), Lib.hid trivial⟩
        case measure => simp [intOf]; omega
    · have ek : k = n := by omega
      have h2 : sumN L = m := by rw [← hsum.out, ek, ← HN.out, take_all]
      have HS2 := Lib.hid h2
      have HF := Lib.hid (show (decide ((m : Int) ≤ 80)) = decide (sumN L ≤ 80) by rw [h2, Bool.eq_iff_iff, decide_eq_true_eq, decide_eq_true_eq]; omega)
      have HF2 := Lib.hid (show (decide ((n : Int) ≤ 40)) = decide (n ≤ 40) by rw [Bool.eq_iff_iff, decide_eq_true_eq, decide_eq_true_eq]; omega)
      clear h2 ek
      obtain ⟨b2, hb2⟩ : ∃ b2, decide ((n : Int) ≤ 40) = b2 := ⟨_, rfl⟩
      rw [hb2] at HF2
      cases hb1 : decide ((m : Int) ≤ 80)
      · rw [hb1] at HF
        go_wp2_with fail
        go_ret
        exact ⟨by rw [← HF.out]; rfl, rfl⟩
      · rw [hb1] at HF
        go_wp2_with fail
        go_ret
        exact ⟨by rw [← HF.out, ← HF2.out]; rfl, rfl⟩
set_option maxHeartbeats 2000000 in
set_option maxRecDepth 20000 in
theorem may15_any (L : List Dd) (a : Option Addr) (c : Nat) (w : World) (h : Dls w a L) (hl : L.length ≤ 140737488355328) :
    Calls Tryd.prog 23 #[.slice a L.length c] w fun e w' => ∃ b, e = .returned (.bool b) ∧ (b = true → amB L = true ∧ sumN L ≤ 80) ∧ Ext w w' := by
  have H := Lib.hid h
  have HLT := Lib.hid (fun w' (hx : Ext w w') hd => light_ok L a c w' (h.ext hx) hl hd)
  obtain ⟨n, hn⟩ : ∃ n, L.length = n := ⟨_, rfl⟩
  rw [hn] at hl HLT ⊢
  have HN := Lib.hid hn
  clear h hn
  go_enter Tryd.func23, Tryd.ntmps23
  go_wp2_with fail
  go_loopw [3] (fun s3 wr => ∃ k : Nat, k ≤ n ∧ s3 = .int .i64 k ∧ Hid (∀ j (hj : j < L.length), j < k → okB L[j] = true) ∧ Hid (Ext w wr)) (fun s3 _ => n - (intOf s3).toNat)
  case atStart => exact ⟨0, Nat.zero_le _, rfl, Lib.hid (fun j _ h => by omega), Lib.hid (Below.refl _ _)⟩
  case round =>
    obtain ⟨k, hk, rfl, hall, hE⟩ := hrel
    by_cases hkn : k < n
    · have hkL : k < L.length := by rw [HN.out]; exact hkn
      rcases H.out with h0 | ⟨b, o, rfl, hb, h0⟩
      · rw [h0] at hkL; simp at hkL
      · obtain ⟨p, q, c1, c2, r1, r2⟩ := h0 k hkL
        have k1 := (hE.out.cell (p := ⟨b, o + k * 2, none⟩) hb).trans c1
        have k2 := (hE.out.cell (p := ⟨b, o + k * 2 + 1, none⟩) hb).trans c2
        have HC := may_any L[k] (.agg #[p, q]) wr ⟨p, q, rfl, r1.ext hE.out, r2.ext hE.out⟩
        cases hq : okB L[k]
        · rw [hq] at HC
          have HC := Lib.hid HC
          clear hq h0 c1 c2 r1 r2
          go_wp2_with fail
          refine HC.out.mono ?_
          rintro e w7 ⟨rfl, x7⟩
          have E7 := Lib.hid (bel_call hE.out x7)
          clear x7 HC
          go_wp2_with fail
          go_ret
          exact ⟨false, rfl, fun h => (by cases h), E7.out⟩
        · rw [hq] at HC
          have HC := Lib.hid HC
          have HQ := Lib.hid hq
          clear hq h0 c1 c2 r1 r2
          go_wp2_with fail
          refine HC.out.mono ?_
          rintro e w7 ⟨rfl, x7⟩
          have E7 := Lib.hid (bel_call hE.out x7)
          clear x7 HC
          go_wp2_with fail
          go_roundw
          case rel => exact ⟨k + 1, by omega, by go_num, Lib.hid (fun j hj hjk => by
            by_cases e : j = k
            · subst e; exact HQ.out
            · exact hall.out j hj (by omega)), E7⟩
          case measure => simp [intOf]; omega
    · have ek : k = n := by omega
      have hok : ∀ d ∈ L, d.Ok := fun d hd => by
        obtain ⟨j, hj, rfl⟩ := List.getElem_of_mem hd
        exact okB_ok.1 (hall.out j hj (by have := HN.out; omega))
      have HOK := Lib.hid hok
      have HL2 := Lib.hid (HLT.out wr hE.out (fun d hd => (hok d hd).le))
      clear hok ek
      obtain ⟨b1, hb1⟩ : ∃ b1, (decide (sumN L ≤ 80) && decide (n ≤ 40)) = b1 := ⟨_, rfl⟩
      rw [hb1] at HL2
      have HB1 := Lib.hid hb1
      clear hb1
      go_wp2_with fail
      refine HL2.out.mono ?_
      rintro e w7 ⟨rfl, rfl⟩
      clear HL2
      cases b1
      · go_wp2_with fail
        go_ret
        exact ⟨false, rfl, fun h => (by cases h), hE.out⟩
      · by_cases h0 : 0 < n
        · have t1 : decide ((0 : Int) < (n : Int)) = true := by simp; omega
          obtain ⟨b2, hb2⟩ : ∃ b2, decide ((n : Int) ≤ 16) = b2 := ⟨_, rfl⟩
          have HB2 := Lib.hid hb2
          have H0 := Lib.hid h0
          clear h0
          go_wp2_with fail
          go_ret
          refine ⟨b2, by rw [← HB2.out]; rfl, fun h => ?_, hE.out⟩
          rw [h] at HB2
          have h16 := of_decide_eq_true HB2.out
          have h80 := HB1.out
          rw [Bool.and_eq_true, decide_eq_true_eq, decide_eq_true_eq] at h80
          have := HN.out
          have := H0.out
          exact ⟨amB_iff.2 ⟨by omega, by omega, HOK.out, by omega⟩, h80.1⟩
        · have hn0 : n = 0 := by omega
          subst hn0
          clear h0
          go_wp2_with fail
          go_ret
          exact ⟨false, rfl, fun h => (by cases h), hE.out⟩
end Go.Proofs.YtgcjclglhijchaaDoor
