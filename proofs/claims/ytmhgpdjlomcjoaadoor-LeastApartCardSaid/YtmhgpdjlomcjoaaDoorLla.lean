/- LeastLabels: behind each text the labels are those of the least automaton. -/
import Derived.Test.YtmhgpdjlomcjoaaDoorWkk
import Derived.Test.YtmhgpdjlomcjoaaDoorRun
namespace Go.Proofs.YtmhgpdjlomcjoaaDoor
open Go Go.RowKit
/-- A list of texts as lists of bytes. -/
def Txs (w : World) (v : Value) (T : List (List UInt8)) : Prop := ∃ vs : List Value, vs.length = T.length ∧ Slc w v T.length vs ∧ ∀ (i : Nat) (h : i < T.length), ∃ u, vs[i]? = some u ∧ Bytes w u T[i]
theorem Txs.ext {w w' : World} {v : Value} {T : List (List UInt8)} (h : Txs w v T) (hx : Ext w w') : Txs w' v T := by
  obtain ⟨vs, h1, h2, h3⟩ := h
  exact ⟨vs, h1, h2.ext hx, fun i hi => by obtain ⟨u, e, hu⟩ := h3 i hi; exact ⟨u, e, hu.ext hx⟩⟩
theorem Txs.shape {w : World} {v : Value} {T : List (List UInt8)} (h : Txs w v T) : ∃ a cap, v = .slice a T.length cap ∧ T.length ≤ cap ∧ T.length ≤ 140737488355328 ∧ cap ≤ maxLen := by
  obtain ⟨vs, _, ⟨a, cap, e, h1, h2, _⟩, _⟩ := h
  exact ⟨a, cap, e, h1, h2.1, h2.2⟩
theorem Txs.cell {w : World} {a : Option Addr} {n cap : Nat} {T : List (List UInt8)} (h : Txs w (.slice a n cap) T) {k : Nat} (hk : k < T.length) : ∃ b o a2 c2, a = some ⟨b, o, none⟩ ∧ b < w.heap.size ∧ w.cell? ⟨b, o + k, none⟩ = some (.slice a2 T[k].length c2) ∧ Bytes w (.slice a2 T[k].length c2) T[k] ∧ T[k].length ≤ 140737488355328 := by
  obtain ⟨vs, hl, ⟨a', cap', e, h1, h2, h⟩, h3⟩ := h
  cases e
  rcases h with h | ⟨b, o, rfl, hb, h⟩
  · rw [h] at hl; simp at hl; omega
  · obtain ⟨u, e, hu⟩ := h3 k hk
    obtain ⟨a2, c2, rfl, _, hc, _⟩ := hu.shape
    exact ⟨b, o, a2, c2, rfl, hb, by rw [h k (by omega), e], hu, hc⟩
theorem Dns.agg {w : World} {a b : Value} {d : Dd} (h1 : Rws w a d.nx) (h2 : Ints w b d.lb) : Dns w (.agg #[a, b]) d := ⟨a, b, rfl, h1, h2⟩
theorem beh_lab {d : Dd} (hd : d.Ok) (l : List UInt8) : -1 ≤ d.beh 0 (tx l) := (hd.lab _ (runA_lt hd (tx l) 0 hd.pos (tx_lt l))).1
theorem eqd_same (d : Dd) (v u : Value) (w : World) (h : Dns w v d) (h' : Dns w u d) : Calls Tryd.prog 14 #[v, u] w fun x w' => x = .returned (.bool true) ∧ Ext w w' := by
  have := eqd_any d d v u w h h'
  rwa [eqdB_iff.2 rfl] at this
set_option maxHeartbeats 4000000 in
set_option maxRecDepth 20000 in
theorem labels_any (d : Dd) (T : List (List UInt8)) (a b t : Value) (w : World) (h1 : Rws w a d.nx) (h2 : Ints w b d.lb) (ht : Txs w t T) :
    Calls Tryd.prog 4 #[.agg #[a, b, t]] w fun e w' => e = .returned (.bool true) ∧ Ext w w' := by
  obtain ⟨p, cap, rfl, _⟩ := h1.shape
  obtain ⟨p2, cap2, rfl, _⟩ := h2.shape
  obtain ⟨p3, cap3, rfl, _⟩ := ht.shape
  obtain ⟨n, hn⟩ : ∃ n, d.nx.length = n := ⟨_, rfl⟩
  obtain ⟨m, hm⟩ : ∃ m, T.length = m := ⟨_, rfl⟩
  rw [hn] at h1 ⊢
  rw [hm] at ht ⊢
  generalize d.lb.length = n2 at *
  have HEB := Lib.hid (ext_box w #[.slice p n cap, .slice p2 n2 cap2, .slice p3 m cap3] 50)
  have HBX := Lib.hid (Blk.new w #[.slice p n cap, .slice p2 n2 cap2, .slice p3 m cap3] 50)
  have HD := Lib.hid ((Dns.agg h1 h2).ext HEB.out)
  have HT := Lib.hid (ht.ext HEB.out)
  have HN := Lib.hid hn
  have HM := Lib.hid hm
  clear h1 h2 ht hn hm
  by_cases q1 : 200 < n
  · have t1 : decide ((200 : Int) < n) = true := by simp; omega
    clear q1
    go_enter Tryd.func4, Tryd.ntmps4
    generalize hw0 : w.alloc (.cells #[.slice p n cap, .slice p2 n2 cap2, .slice p3 m cap3] 50) = w0 at HEB HBX HD HT
    have z0 := HBX.out.cell 0
    go_wp2_with fail
    refine (wakes12_any _).mono ?_; rintro e w1 ⟨rfl, E1⟩
    have E1 := Lib.hid E1
    go_wp2_with fail
    go_ret
    exact ⟨rfl, bel_call HEB.out E1.out⟩
  have t1 : decide ((200 : Int) < n) = false := by simp; omega
  clear q1
  have C1 := may_any d _ _ HD.out
  by_cases hd : d.Ok
  rotate_left
  · rw [show okB d = false from by
      cases q : okB d with
      | false => rfl
      | true => exact absurd (okB_ok.1 q) hd] at C1
    have C1 := Lib.hid C1
    clear hd
    go_enter Tryd.func4, Tryd.ntmps4
    generalize hw0 : w.alloc (.cells #[.slice p n cap, .slice p2 n2 cap2, .slice p3 m cap3] 50) = w0 at HEB HBX HD HT C1
    have z0 := HBX.out.cell 0
    have z1 := HBX.out.cell 1
    go_wp2_with fail
    refine C1.out.mono ?_; rintro e w1 ⟨rfl, E1⟩
    have E1 := Lib.hid E1
    go_wp2_with fail
    refine (wakes12_any _).mono ?_; rintro e w2 ⟨rfl, E2⟩
    have E2 := Lib.hid E2
    go_wp2_with fail
    go_ret
    exact ⟨rfl, bel_call HEB.out (bel_call E1.out E2.out)⟩
  rw [okB_ok.2 hd] at C1
  have C1 := Lib.hid C1
  have HO := Lib.hid hd
  clear hd
  go_enter Tryd.func4, Tryd.ntmps4
  generalize hw0 : w.alloc (.cells #[.slice p n cap, .slice p2 n2 cap2, .slice p3 m cap3] 50) = w0 at HEB HBX HD HT C1
  have z0 := HBX.out.cell 0
  have z1 := HBX.out.cell 1
  go_wp2_with fail
  refine C1.out.mono ?_; rintro e w1 ⟨rfl, E1⟩
  have HBX := Lib.hid (HBX.out.ext E1)
  have HD := Lib.hid (HD.out.ext E1)
  have HT := Lib.hid (HT.out.ext E1)
  have E1 := Lib.hid (bel_call HEB.out E1)
  have z0 := HBX.out.cell 0
  have z1 := HBX.out.cell 1
  clear HEB C1
  go_wp2_with fail
  refine (least_ok d _ _ HO.out HD.out).mono ?_; rintro e w2 ⟨m1, vN, vL, vs, rfl, c1, o1, e2⟩
  obtain ⟨aN, kN, rfl⟩ := own_shp o1.rn
  obtain ⟨aL, kL, rfl⟩ := own_shp o1.rl
  have dm := o1.dns c1.ok
  have CM := Lib.hid c1
  have HLE := Lib.hid (c1.le HO.out)
  obtain ⟨n1, hn1⟩ : ∃ n1, m1.nx.length = n1 := ⟨_, rfl⟩
  obtain ⟨l1, hl1⟩ : ∃ l1, m1.lb.length = l1 := ⟨_, rfl⟩
  rw [hn1] at HLE
  rw [hn1, hl1] at dm
  rw [hn1, hl1]
  have hx2 : Ext w2 (w2.alloc (.cells #[.slice aN n1 kN, .slice aL l1 kL] 26)) := by go_grown
  have hb2 := Blk.new w2 #[.slice aN n1 kN, .slice aL l1 kL] 26
  have HB2 := Lib.hid hb2
  have HBX2 := Lib.hid ((HBX.out.ext e2).ext hx2)
  have HT2 := Lib.hid ((HT.out.ext e2).ext hx2)
  have HD2 := Lib.hid ((HD.out.ext e2).ext hx2)
  have DM2 := Lib.hid (dm.ext hx2)
  have E2 := Lib.hid (bel_call (bel_call E1.out e2) hx2)
  clear o1 dm c1 hn1 hl1 hx2 hb2 HBX HT HD E1 e2
  go_wp2_with fail
  generalize w2.alloc (.cells #[.slice aN n1 kN, .slice aL l1 kL] 26) = w3 at *
  generalize hs2 : w2.heap.size = s2 at *
  clear hs2
  refine (least_ok m1 _ _ CM.out.ok DM2.out).mono ?_; rintro e w4 ⟨m2, vN2, vL2, vs2, rfl, c2, o2, e4⟩
  obtain ⟨aN2, kN2, rfl⟩ := own_shp o2.rn
  obtain ⟨aL2, kL2, rfl⟩ := own_shp o2.rl
  obtain rfl : m1 = m2 := CM.out.self.uniq c2 (Beq.refl _)
  have dm2 := o2.dns c2.ok
  obtain ⟨n1', hn1⟩ : ∃ n1, m1.nx.length = n1 := ⟨_, rfl⟩
  obtain ⟨l1', hl1⟩ : ∃ l1, m1.lb.length = l1 := ⟨_, rfl⟩
  rw [hn1, hl1] at dm2
  rw [hn1, hl1]
  have hx4 : Ext w4 (w4.alloc (.cells #[.slice aN2 n1' kN2, .slice aL2 l1' kL2] 26)) := by go_grown
  have hb4 := Blk.new w4 #[.slice aN2 n1' kN2, .slice aL2 l1' kL2] 26
  have HB5 := Lib.hid hb4
  have HB2' := Lib.hid ((HB2.out.ext e4).ext hx4)
  have HBX5 := Lib.hid ((HBX2.out.ext e4).ext hx4)
  have HT5 := Lib.hid ((HT2.out.ext e4).ext hx4)
  have HD5 := Lib.hid ((HD2.out.ext e4).ext hx4)
  have DM5 := Lib.hid ((DM2.out.ext e4).ext hx4)
  have DN5 := Lib.hid (dm2.ext hx4)
  have E5 := Lib.hid (bel_call (bel_call E2.out e4) hx4)
  clear o2 dm2 c2 hn1 hl1 hx4 hb4 HBX2 HT2 HD2 DM2 HB2 E2 e4 z0 z1
  go_upto_region 5 with fail
  generalize w4.alloc (.cells #[.slice aN2 n1' kN2, .slice aL2 l1' kL2] 26) = w5 at *
  generalize hs4 : w4.heap.size = s4 at *
  clear hs4
  have HQ := Lib.hid (eqd_same m1 _ _ w5 DM5.out DN5.out)
  have t3 : decide ((n : Int) < (n1 : Int)) = false := by have := HLE.out; have := HN.out; simp; omega
  have t3' : decide (n < n1) = false := by have := HLE.out; have := HN.out; simp; omega
  have z0 := HBX5.out.cell 0
  have z1 := HBX5.out.cell 1
  have y0 := HB2'.out.cell 0
  have y1 := HB2'.out.cell 1
  have x0 := HB5.out.cell 0
  have x1 := HB5.out.cell 1
  go_wp2_with fail
  refine HQ.out.mono ?_; rintro e w6 ⟨rfl, e6⟩
  have HB6 := Lib.hid (HB2'.out.ext e6)
  have HBX6 := Lib.hid (HBX5.out.ext e6)
  have HT6 := Lib.hid (HT5.out.ext e6)
  have HD6 := Lib.hid (HD5.out.ext e6)
  have DM6 := Lib.hid (DM5.out.ext e6)
  have E6 := Lib.hid (bel_call E5.out e6)
  clear HB5 HB2' HBX5 HT5 HD5 DM5 DN5 E5 e6 HQ z0 z1 y0 y1 x0 x1
  have z0 := HBX6.out.cell 0
  have y0 := HB6.out.cell 0
  go_wp2_with fail
  go_loopw [7] (fun i wr => ∃ k : Nat, i = .int .i64 k ∧ Hid (Ext w6 wr)) (fun i _ => 18 - (intOf i).toNat)
  case atStart => exact ⟨0, rfl, Lib.hid (Below.refl _ _)⟩
  case round =>
    obtain ⟨k, rfl, hE⟩ := hrel
    have HB7 := Lib.hid (HB6.out.ext hE.out)
    have HBX7 := Lib.hid (HBX6.out.ext hE.out)
    have HT7 := Lib.hid (HT6.out.ext hE.out)
    have HD7 := Lib.hid (HD6.out.ext hE.out)
    have DM7 := Lib.hid (DM6.out.ext hE.out)
    have E7 := Lib.hid (bel_call E6.out hE.out)
    have z2 := HBX7.out.cell 2
    by_cases q1 : k < m
    · by_cases q2 : k < 18
      · have t4 : decide ((k : Int) < (m : Int)) = true := by simp; omega
        have t4' : decide (k < m) = true := by simp; omega
        have t5 : decide ((k : Int) < 18) = true := by simp; omega
        have k1 : k < T.length := by rw [HM.out]; exact q1
        obtain ⟨bT, oT, aT, cT, rfl, hbT, hcT, hBT, -⟩ := HT7.out.cell k1
        have hst := CM.out.start (tx T[k]) (tx_lt _)
        have hge := beh_lab HO.out T[k]
        have HQm := fun w' (hx : Ext wr w') => label_ok m1 _ _ T[k] w' CM.out.ok (DM7.out.ext hx) (hBT.ext hx)
        have HQd := fun w' (hx : Ext wr w') => label_ok d _ _ T[k] w' HO.out (HD7.out.ext hx) (hBT.ext hx)
        rw [hst] at HQm
        generalize d.beh 0 (tx T[k]) = y at HQm HQd hge
        generalize T[k].length = lT at HQm HQd hcT
        have HQm := Lib.hid HQm
        have HQd := Lib.hid HQd
        have HcT := Lib.hid hcT
        have HbT := Lib.hid hbT
        have t6 : (y == -2) = false := by simp; omega
        clear hBT hst hge hcT hbT
        have hEo := hE
        go_upto_region 10 with fail
        refine wp_region_stab (fun _ => none) (by kernel_rfl) (by kernel_rfl) (fun _ _ h => by cases h) (fun hex => ?_)
        iterate 26
          (refine wpS_one (A := ?_) hex rfl rfl (by simp) ?_ ?_ ?_
           rotate_left 2
           · intro w' hC K hK
             obtain ⟨hcell, hfrz⟩ := bcell hC.1.ext
             have hxC := hC.1.1; have z0 := (HBX7.out.ext hxC).cell 0; have z1 := (HBX7.out.ext hxC).cell 1; have z2 := (HBX7.out.ext hxC).cell 2; have y0 := (HB7.out.ext hxC).cell 0; have y1 := (HB7.out.ext hxC).cell 1; have zT := (hxC.cell (p := ⟨bT, oT + k, none⟩) HbT.out).trans HcT.out
             go_wp2_with (go_at_call 20; first | (with_reducible refine (HQm.out _ hxC).mono ?_; rintro e w9 ⟨rfl, hx9⟩) | (with_reducible refine (HQd.out _ hxC).mono ?_; rintro e w9 ⟨rfl, hx9⟩))
             refine hK _ ?_
             first | exact Gr.refl _ _ | exact Gr.of_ext (by assumption) hC.1.1.size
           rotate_left 1
           · rfl
           clear hex; intro hex)
        refine wpS_nil fun w9 hE => ?_
        replace hE := hE.1.ext
        obtain ⟨hcell_w9, hfrz_w9⟩ := bcell hE
        have hE2 := Lib.hid (bel_call hEo.out hE)
        clear hE hex hcell_w9 hfrz_w9
        go_wp2_with fail
        go_roundw
        case rel => exact ⟨k + 1, by go_num, hE2⟩
        case measure => simp [intOf]; omega
      · have t4 : decide ((k : Int) < (m : Int)) = true := by simp; omega
        have t4' : decide (k < m) = true := by simp; omega
        have t5 : decide ((k : Int) < 18) = false := by simp; omega
        go_wp2_with fail
        refine (wakes12_any _).mono ?_; rintro e w8 ⟨rfl, e8⟩
        have E8 := Lib.hid (bel_call E7.out e8)
        clear e8
        go_wp2_with fail
        go_ret
        exact ⟨rfl, E8.out⟩
    · have t4 : decide ((k : Int) < (m : Int)) = false := by simp; omega
      have t4' : decide (k < m) = false := by simp; omega
      go_wp2_with fail
      refine (wakes12_any _).mono ?_; rintro e w8 ⟨rfl, e8⟩
      have E8 := Lib.hid (bel_call E7.out e8)
      clear e8
      go_wp2_with fail
      go_ret
      exact ⟨rfl, E8.out⟩
end Go.Proofs.YtmhgpdjlomcjoaaDoor
