/- bolterlaw15.runs: what a table tells behind a text. -/
import Derived.Test.YtgcjclglhijchaaDoorRun15
import Derived.Test.YtgcjclglhijchaaDoorApt15
namespace Go.Proofs.YtgcjclglhijchaaDoor
open Go Go.RowKit Go.Maps
theorem Bytes.shapeq {w : World} {v : Value} {l : List UInt8} (h : Bytes w v l) : ∃ a cap, v = .slice a l.length cap ∧ l.length ≤ 140737488355328 := by
  obtain ⟨a, cap, e, h1, h2, _⟩ := h
  exact ⟨a, cap, e, h2.1⟩
theorem Bytes.cellq {w : World} {a : Option Addr} {n cap : Nat} {l : List UInt8} (h : Bytes w (.slice a n cap) l) {k : Nat} (hk : k < l.length) : ∃ b o, a = some ⟨b, o, none⟩ ∧ b < w.heap.size ∧ w.cell? ⟨b, o + k, none⟩ = some (.int .u8 (l[k].toNat : Int)) := by
  obtain ⟨a', cap', e, h1, h2, h⟩ := h
  cases e
  rcases h with h | ⟨b, o, rfl, hb, h⟩
  · have := congrArg List.length h; rw [List.length_map, List.length_nil] at this; omega
  · refine ⟨b, o, rfl, hb, ?_⟩
    rw [h k (by simpa using hk)]
    simp [List.getElem?_eq_getElem hk]
set_option maxHeartbeats 8000000 in
set_option maxRecDepth 20000 in
theorem runs15_any (d : Dd) (T : Tb) (b gi B0 : Nat) (vd vr vt : Value) (l : List UInt8) (w : World) (hd : d.Ok) (hT : T.Ok) (h : Dns w vd d) (hr : Tbm w vr T) (ht : Bytes w vt l)
    (hv : w.ownsRow B0 4 1 (.slice (some ⟨gi, 0, none⟩) d.nx.length d.nx.length) d.nx.length (((List.range d.nx.length).map d.lv).map bvl))
    (p1 : ∀ s, s < d.nx.length → d.kp s = true → b + d.rk s < T.nx.length ∧ T.lb.getD (b + d.rk s) 0 = d.lab s)
    (p2 : ∀ s c, s < d.nx.length → d.kp s = true → c < 256 → T.ent (b + d.rk s) c = d.num b (d.to s c)) :
    Calls Tryd.prog 25 #[vd, vr, .int .i64 (b : Int), .slice (some ⟨gi, 0, none⟩) d.nx.length d.nx.length, vt] w fun e w' => e = .returned (.bool true) ∧ Ext w w' := by
  obtain ⟨va, vb, rfl, h1, h2⟩ := h
  obtain ⟨a1, c1, rfl, _⟩ := h1.shape
  obtain ⟨a2, c2, rfl, _⟩ := h2.shape
  have hr0 := hr
  obtain ⟨q1, k1, q2, k2, q3, k3, q4, k4, rfl, -, -, -, -, -⟩ := hr.box
  obtain ⟨at5, ct5, rfl, ht47⟩ := ht.shapeq
  rw [hd.lbl, hT.lbl]
  have hE := bel_call (ext_box w #[.slice a1 d.nx.length c1, .slice a2 d.nx.length c2] 62) (ext_bx5 (w.alloc (.cells #[.slice a1 d.nx.length c1, .slice a2 d.nx.length c2] 62)) (.slice q1 T.cl.length k1) (.int .i64 T.cn) (.slice q2 T.st.length k2) (.slice q3 T.nx.length k3) (.slice q4 T.nx.length k4) 29)
  have HBD := Lib.hid ((Blk.new w #[.slice a1 d.nx.length c1, .slice a2 d.nx.length c2] 62).alloc (.cells #[.slice q1 T.cl.length k1, .int .i64 T.cn, .slice q2 T.st.length k2, .slice q3 T.nx.length k3, .slice q4 T.nx.length k4] 29))
  have HBR := Blk.new (w.alloc (.cells #[.slice a1 d.nx.length c1, .slice a2 d.nx.length c2] 62)) #[.slice q1 T.cl.length k1, .int .i64 T.cn, .slice q2 T.st.length k2, .slice q3 T.nx.length k3, .slice q4 T.nx.length k4] 29
  rw [show (w.alloc (.cells #[.slice a1 d.nx.length c1, .slice a2 d.nx.length c2] 62)).heap.size = w.heap.size + 1 by simp] at HBR
  obtain ⟨w1, hw1⟩ : ∃ w1, (w.alloc (.cells #[.slice a1 d.nx.length c1, .slice a2 d.nx.length c2] 62)).alloc (.cells #[.slice q1 T.cl.length k1, .int .i64 T.cn, .slice q2 T.st.length k2, .slice q3 T.nx.length k3, .slice q4 T.nx.length k4] 29) = w1 := ⟨_, rfl⟩
  rw [hw1] at hE HBD HBR
  have HBR := Lib.hid HBR
  have HE := Lib.hid hE
  have H1 := Lib.hid (h1.ext hE)
  have H2 := Lib.hid (h2.ext hE)
  have HR := Lib.hid (hr0.ext hE)
  have HV := Lib.hid (own_ex hv hE)
  have HTT := Lib.hid (ht.ext hE)
  have HD := Lib.hid hd
  have HOK := Lib.hid hT
  have P1 := Lib.hid p1
  have P2 := Lib.hid p2
  have hd0 := hd.pos
  rw [hT.lbl] at HR
  have hT6 := hT.le
  obtain ⟨N, hN⟩ : ∃ N, T.nx.length = N := ⟨_, rfl⟩
  obtain ⟨n, hn⟩ : ∃ n, d.nx.length = n := ⟨_, rfl⟩
  obtain ⟨z, hz⟩ : ∃ z, l.length = z := ⟨_, rfl⟩
  have hlbl := hd.lbl
  have HLB := Lib.hid (hlbl.trans hn)
  rw [hN] at HBR HR hw1 hT6
  rw [hn] at HBD HV hw1 hd0 H1
  rw [hlbl, hn] at H2
  rw [hz] at HTT ht47
  rw [hN, hn, hz]
  have HNN := Lib.hid hN
  have HN := Lib.hid hn
  have HZ := Lib.hid hz
  clear h1 h2 hr hr0 ht hv p1 p2 hd hT hE hN hn hz hlbl
  go_enter Tryd.func25, Tryd.ntmps25
  go_wp2_with fail
  clear hw1
  go_loopw [12, 2, 11] (fun i j k wr => ∃ x : Nat, x ≤ z ∧ i = .int .i64 x ∧ ∃ s : Nat, s < n ∧ k = .int .i64 s ∧ ∃ at' : Nat, j = .int .i64 (at' : Int) ∧ at' < N ∧ Hid (at' = b + d.rk s ∧ d.kp s = true) ∧ Hid (Ext w1 wr)) (fun i _ _ _ => z - (intOf i).toNat)
  case atStart =>
    have h0 := (P1.out 0 (by rw [HN.out]; omega) (Dd.kp_zero d)).1
    rw [Dd.rk_zero, Nat.add_zero, HNN.out] at h0
    exact ⟨0, Nat.zero_le _, rfl, 0, by omega, rfl, b, rfl, h0, Lib.hid ⟨by rw [Dd.rk_zero, Nat.add_zero], Dd.kp_zero d⟩, Lib.hid (Below.refl _ _)⟩
  case round =>
    obtain ⟨x, hx, rfl, s, hs, rfl, at', rfl, hat, hK, hX⟩ := hrel
    by_cases hxz : x < z
    · by_cases hx60 : x < 60
      · have hsd : s < d.nx.length := by rw [HN.out]; exact hs
        have q1 := (P1.out s hsd hK.out.2)
        rw [← hK.out.1] at q1
        obtain ⟨b4, o4, e4, hb4, hc4⟩ := (HR.out.ext hX.out).parts.2.2.2.at (i := at') (by rw [HOK.out.lbl, HNN.out]; exact hat)
        obtain ⟨b5, o5, e5, hb5, hc5⟩ := (H2.out.ext hX.out).at (i := s) (by rw [HLB.out]; exact hs)
        have hll : T.lb.getD at' 0 = d.lb.getD s 0 := q1.2
        obtain ⟨u, hu⟩ : ∃ u, T.lb.getD at' 0 = u := ⟨_, rfl⟩
        obtain ⟨u', hu'⟩ : ∃ u, d.lb.getD s 0 = u := ⟨_, rfl⟩
        rw [hu] at hc4 hll
        rw [hu'] at hc5 hll
        have C4 := Lib.hid hc4
        have C5 := Lib.hid hc5
        have EU := Lib.hid (show (u != u') = false by rw [hll]; simp)
        subst e4 e5
        clear hc4 hc5 hll hu hu' q1
        go_upto_region 5 with fail
        have e9 := EU.out
        refine G.wp_region_stab (G := Ext) (fun _ => none) (by kernel_rfl) (by kernel_rfl) (fun _ _ h => by cases h) (fun hex => ?_)
        iterate 11
          (refine G.wpS_one (A := ?_) hex rfl rfl (by simp) ?_ ?_ ?_
           rotate_left 2
           · intro w' hC K hK
             have hX9 := bel_call hX.out hC.1; have z1 := (HBR.out.ext hX9).cell 4; have z2 := (HBD.out.ext hX9).cell 1; have r1 := (hC.1.cell (p := ⟨b4, o4 + at', none⟩) hb4).trans C4.out; have r2 := (hC.1.cell (p := ⟨b5, o5 + s, none⟩) hb5).trans C5.out
             go_wp2_with (fail)
             refine hK _ ?_
             first | exact Below.refl _ _ | assumption | ((repeat' (first | (with_reducible exact Below.refl _ _) | (with_reducible assumption) | (with_reducible refine below_drewN ?_ _) | (with_reducible refine Below.alloc ?_ ?_ _) | (with_reducible refine Below.drew ?_) | (with_reducible refine Below.setCell ?_ ?_ _) | (with_reducible refine Below.trans ?_ (Below.mono (by with_reducible assumption) ?_)) | go_size)))
           rotate_left 1
           · rfl
           clear hex; intro hex)
        refine G.wpS_nil fun w6 hAll => ?_
        have X6 := Lib.hid (bel_call hX.out hAll.1)
        clear hAll hex e9
        have hxl : x < l.length := by rw [HZ.out]; exact hxz
        obtain ⟨bT, oT, eT, hbT, hcT⟩ := (HTT.out.ext X6.out).cellq hxl
        obtain ⟨y, hy⟩ : ∃ y, l[x].toNat = y := ⟨_, rfl⟩
        have hy256 : y < 256 := by rw [← hy]; exact l[x].toNat_lt
        rw [hy] at hcT
        obtain ⟨bR, oR, aR, cR, eR, hbR, hcR, hIR, _⟩ := (H1.out.ext X6.out).cell hsd
        have hrl : d.nx[s].length = 256 := by have := HD.out.row s hsd; rwa [getD_get hsd] at this
        rw [hrl] at hcR
        obtain ⟨bE, oE, eE, hbE, hcE, -, -⟩ := hIR.cell (show y < d.nx[s].length by omega)
        have hent := HD.out.ent s y hsd hy256
        have hee : d.nx[s][y]'(by omega) = ((d.to s y : Nat) : Int) := by
          have : d.ent s y = d.nx[s][y]'(by omega) := by unfold Dd.ent; rw [getD_get hsd, getD_get]
          unfold Dd.to
          rw [this] at hent ⊢
          omega
        have htt := HD.out.to hsd hy256
        have hp2 := P2.out s y hsd hK.out.2 hy256
        rw [← hK.out.1] at hp2
        rw [hee] at hcE
        have hnum := Dd.num_lt (d := d) (b := b) htt
        obtain ⟨tt, htq⟩ : ∃ tt, d.to s y = tt := ⟨_, rfl⟩
        rw [htq] at hcE htt hp2 hnum
        have hp1 := fun hk => P1.out tt htt hk
        have hcV : w1.cell? ⟨gi, tt, none⟩ = some (.bool (d.lv tt)) := by
          rw [HV.out.cellAt tt (by rw [← HN.out]; omega)]
          simp [show tt < n by rw [← HN.out]; exact htt]
        have hgi := (HV.out.lt gi rfl).2
        have HEN := fun w' (hx : Ext w1 w') => entry_ok T at' y _ w' (HR.out.ext hx) HOK.out (by rw [HNN.out]; exact hat) hy256
        rw [hp2] at HEN
        have HEN := Lib.hid HEN
        have CT := Lib.hid hcT
        have CR := Lib.hid hcR
        have CE := Lib.hid hcE
        have CV := Lib.hid hcV
        have HP1 := Lib.hid hp1
        have HNU := Lib.hid hnum
        have HTN := Lib.hid htt
        rw [HN.out] at htt
        subst eT eR eE
        clear hcT hcR hcE hcV hent hee hrl hIR hp1 hp2 hnum hy htq
        go_upto_region 7 with fail
        refine G.wp_region_stab (G := Ext) (fun _ => none) (by kernel_rfl) (by kernel_rfl) (fun _ _ h => by cases h) (fun hex => ?_)
        iterate 13
          (refine G.wpS_one (A := ?_) hex rfl rfl (by simp) ?_ ?_ ?_
           rotate_left 2
           · intro w' hC K hK
             have z2 := (HBD.out.ext (bel_call X6.out hC.1)).cell 0; have r1 := (hC.1.cell (p := ⟨bT, oT + x, none⟩) hbT).trans CT.out; have r2 := (hC.1.cell (p := ⟨bR, oR + s, none⟩) hbR).trans CR.out; have r3 := (hC.1.cell (p := ⟨bE, oE + y, none⟩) hbE).trans CE.out
             go_wp2_with (fail)
             refine hK _ ?_
             first | exact Below.refl _ _ | assumption | ((repeat' (first | (with_reducible exact Below.refl _ _) | (with_reducible assumption) | (with_reducible refine below_drewN ?_ _) | (with_reducible refine Below.alloc ?_ ?_ _) | (with_reducible refine Below.drew ?_) | (with_reducible refine Below.setCell ?_ ?_ _) | (with_reducible refine Below.trans ?_ (Below.mono (by with_reducible assumption) ?_)) | go_size)))
           rotate_left 1
           · rfl
           clear hex; intro hex)
        refine G.wpS_nil fun w7 hAll => ?_
        have X7 := Lib.hid (bel_call X6.out hAll.1)
        have CT7 := Lib.hid ((hAll.1.cell (p := ⟨bT, oT + x, none⟩) hbT).trans CT.out)
        have hs67 := hAll.1.size
        clear hAll hex
        go_upto_region 8 with fail
        refine G.wp_region_stab (G := Ext) (fun _ => none) (by kernel_rfl) (by kernel_rfl) (fun _ _ h => by cases h) (fun hex => ?_)
        iterate 6
          (refine G.wpS_one (A := ?_) hex rfl rfl (by simp) ?_ ?_ ?_
           rotate_left 2
           · intro w' hC K hK
             have hX9 := bel_call X7.out hC.1; have z0 := (HBR.out.ext hX9).cell 0; have z1 := (HBR.out.ext hX9).cell 1; have z2 := (HBR.out.ext hX9).cell 2; have z3 := (HBR.out.ext hX9).cell 3; have z4 := (HBR.out.ext hX9).cell 4; have r1 := (hC.1.cell (p := ⟨bT, oT + x, none⟩) (by show bT < w7.heap.size; omega)).trans CT7.out
             go_wp2_with (fail)
             refine hK _ ?_
             first | exact Below.refl _ _ | assumption | ((repeat' (first | (with_reducible exact Below.refl _ _) | (with_reducible assumption) | (with_reducible refine below_drewN ?_ _) | (with_reducible refine Below.alloc ?_ ?_ _) | (with_reducible refine Below.drew ?_) | (with_reducible refine Below.setCell ?_ ?_ _) | (with_reducible refine Below.trans ?_ (Below.mono (by with_reducible assumption) ?_)) | go_size)))
           rotate_left 1
           · rfl
           clear hex; intro hex)
        refine G.wpS_one (A := ?_) hex rfl rfl (by simp) ?_ ?_ ?_
        rotate_left 2
        · intro w' hC K hK
          skip
          go_wp2_with (refine (HEN.out w' (bel_call X7.out hC.1)).mono ?_; rintro e w9 ⟨rfl, x9⟩)
          refine hK _ ?_
          first | exact Below.refl _ _ | assumption | ((repeat' (first | (with_reducible exact Below.refl _ _) | (with_reducible assumption) | (with_reducible refine below_drewN ?_ _) | (with_reducible refine Below.alloc ?_ ?_ _) | (with_reducible refine Below.drew ?_) | (with_reducible refine Below.setCell ?_ ?_ _) | (with_reducible refine Below.trans ?_ (Below.mono (by with_reducible assumption) ?_)) | go_size)))
        rotate_left 1
        · rfl
        clear hex; intro hex
        iterate 5
          (refine G.wpS_one (A := ?_) hex rfl rfl (by simp) ?_ ?_ ?_
           rotate_left 2
           · intro w' hC K hK
             go_wp2_with (fail)
             refine hK _ ?_
             first | exact Below.refl _ _ | assumption | ((repeat' (first | (with_reducible exact Below.refl _ _) | (with_reducible assumption) | (with_reducible refine below_drewN ?_ _) | (with_reducible refine Below.alloc ?_ ?_ _) | (with_reducible refine Below.drew ?_) | (with_reducible refine Below.setCell ?_ ?_ _) | (with_reducible refine Below.trans ?_ (Below.mono (by with_reducible assumption) ?_)) | go_size)))
           rotate_left 1
           · rfl
           clear hex; intro hex)
        refine G.wpS_nil fun w8 hAll => ?_
        have X8 := Lib.hid (bel_call X7.out hAll.1)
        clear hAll hex
        have kV := (X8.out.cell (p := ⟨gi, tt, none⟩) hgi).trans CV.out
        have z4 := (HBR.out.ext X8.out).cell 4
        cases hlv : d.lv tt
        · have hnu : d.num b tt = -1 := by
            rcases HNU.out with h | h
            · exact h.1
            · rw [hlv] at h; exact absurd h.1 (by decide)
          rw [hlv] at kV
          rw [hnu]
          clear hlv hnu
          go_wp2_with fail
          go_ret
          exact ⟨rfl, bel_call HE.out X8.out⟩
        · have hkp := Dd.kp_lv hlv
          have hnu : d.num b tt = ((b + d.rk tt : Nat) : Int) := by
            rcases HNU.out with h | h
            · rw [hlv] at h; exact absurd h.2 (by decide)
            · exact h.2.1
          have hlt := (HP1.out hkp).1
          rw [HNN.out] at hlt
          rw [hlv] at kV
          have HKP := Lib.hid hkp
          obtain ⟨v, hv⟩ : ∃ v, b + d.rk tt = v := ⟨_, rfl⟩
          rw [hv] at hnu hlt
          rw [hnu]
          have HV9 := Lib.hid hv
          clear hlv hnu hkp hv
          go_wp2_with fail
          go_roundw
          case rel => exact ⟨x + 1, by omega, by go_num, tt, htt, rfl, v, rfl, hlt, Lib.hid ⟨HV9.out.symm, HKP.out⟩, X8⟩
          case measure => simp [intOf]; omega
      · go_wp2_with fail
        go_ret
        exact ⟨rfl, bel_call HE.out hX.out⟩
    · go_wp2_with fail
      go_ret
      exact ⟨rfl, bel_call HE.out hX.out⟩
end Go.Proofs.YtgcjclglhijchaaDoor
