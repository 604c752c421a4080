/- bolterlaw14.between: the next word of as many bytes is the one at the next place, or has not the label. -/
import Derived.Test.YtniamfaiamgncaaDoorKla
namespace Go.Proofs.YtniamfaiamgncaaDoor
open Go Go.RowKit
theorem succL_255 {l : List Nat} (h : succL l = none) : succL (255 :: l) = none := by
  rw [succL, h]; rfl
theorem succL_app {c : Nat} {l : List Nat} (h : succL l = none) (hc : c < 255) : ∀ p : List Nat, succL (p ++ c :: l) = some (p ++ (c + 1) :: List.replicate l.length 0)
  | [] => by rw [List.nil_append, List.nil_append, succL, h]; simp [hc]
  | a :: p => by rw [List.cons_append, succL, succL_app h hc p]; rfl
theorem put_set {L : List Nat} {k y : Nat} {R : List Nat} (hk : k < L.length) : (L.take (k + 1) ++ R).set k y = L.take k ++ y :: R := by
  rw [List.take_succ_eq_append_getElem hk, List.append_assoc, List.set_append_right _ _ (by rw [List.length_take]; omega), List.length_take, Nat.min_eq_left (by omega), Nat.sub_self]
  rfl
theorem rep_cons {n k : Nat} (h : k < n) : (0 : Nat) :: List.replicate (n - (k + 1)) 0 = List.replicate (n - k) 0 := by
  rw [show n - k = (n - (k + 1)) + 1 by omega, List.replicate_succ]
theorem txw_back (l : List UInt8) : (txw l).map UInt8.ofNat = l := by
  unfold txw
  rw [List.map_map]
  conv => rhs; rw [← List.map_id l]
  exact List.map_congr_left fun c _ => UInt8.ofNat_toNat
set_option maxHeartbeats 4000000 in
set_option maxRecDepth 20000 in
theorem between_any (d : Dd) (a b kk v u : Value) (x : Int) (l m : List UInt8) (q : List Nat) (w : World) (hd : d.Ok) (h1 : Rws w a d.nx) (h2 : Ints w b d.lb) (hk : ∃ p n c, kk = .slice p n c)
    (hv : Bytes w v l) (hu : Bytes w u m) (hl : l.length ≤ 64) (hs : succL (txw l) = some q) (hq : d.lab (runA d.to 0 q) = x → q = txw m) (hq6 : ∀ c ∈ q, c < 256) :
    Calls Tryd.prog 39 #[.agg #[a, b, .int .i64 x, kk], v, u] w fun e w' => e = .returned (.bool true) ∧ Ext w w' := by
  obtain ⟨p, cap, rfl, _⟩ := h1.shape
  obtain ⟨p2, cap2, rfl, _⟩ := h2.shape
  obtain ⟨p3, n3, c3, rfl⟩ := hk
  obtain ⟨pu, cu, rfl, _⟩ := hu.shp
  have HV := Lib.hid hv
  obtain ⟨pv, cw, rfl, hl1, hl2, hl3⟩ := hv.shp
  have HE := Lib.hid (ext_box w #[.slice p d.nx.length cap, .slice p2 d.lb.length cap2, .int .i64 x, .slice p3 n3 c3] 74)
  have HBX := Lib.hid (Blk.new w #[.slice p d.nx.length cap, .slice p2 d.lb.length cap2, .int .i64 x, .slice p3 n3 c3] 74)
  have HD := Lib.hid ((show Dns w (.agg #[.slice p d.nx.length cap, .slice p2 d.lb.length cap2]) d from ⟨_, _, rfl, h1, h2⟩).ext HE.out)
  have HVE := Lib.hid (HV.out.ext HE.out)
  have HU := Lib.hid (hu.ext HE.out)
  have HO := Lib.hid hd
  have HS := Lib.hid hs
  have HQ := Lib.hid hq
  have HQ6 := Lib.hid hq6
  have HQL := Lib.hid (show q.length = l.length by rw [succL_len hs, txw_len])
  obtain ⟨n, hn⟩ : ∃ n, l.length = n := ⟨_, rfl⟩
  obtain ⟨y, hy⟩ : ∃ y, d.lab (runA d.to 0 q) = y := ⟨_, rfl⟩
  have HY := Lib.hid hy
  have HC := Lib.hid (copyby_any l _ _ HVE.out (by omega))
  rw [hn] at HVE HV HC hl hl1 hl2 HQL ⊢
  have HN := Lib.hid hn
  generalize d.nx.length = nx at *
  generalize d.lb.length = nl at *
  generalize m.length = lm at *
  clear h1 h2 hv hu hd hs hq hq6 hn hy hl1
  go_enter Tryd.func39, Tryd.ntmps39
  go_wp2_with fail
  generalize w.alloc (.cells #[.slice p nx cap, .slice p2 nl cap2, .int .i64 x, .slice p3 n3 c3] 74) = w1 at *
  refine HC.out.mono ?_
  rintro e w2 ⟨X, rfl, ho, e2⟩
  have hn0 : 0 < n := by
    rcases Nat.eq_zero_or_pos n with h | h
    · have hz : l = [] := List.eq_nil_of_length_eq_zero (by rw [HN.out, h])
      have := HS.out
      rw [hz] at this
      cases this
    · exact h
  obtain ⟨g, cX, rfl, hcX, hgX, hgX2, hmX⟩ := own_some ho hn0
  have HG := Lib.hid (show w1.heap.size ≤ g from hgX)
  have HO2 := Lib.hid (show w2.ownsRow w1.heap.size 5 1 (.slice (some ⟨g, 0, none⟩) n cX) n (((txw l).take n ++ List.replicate (n - n) 0).map bv) by
    rw [List.take_of_length_le (by rw [txw_len, HN.out]; exact Nat.le_refl _), Nat.sub_self, List.replicate_zero, List.append_nil]; exact ho)
  have E2 := Lib.hid e2
  have HN2 := Lib.hid (show succL ((txw l).drop n) = none by rw [List.drop_of_length_le (by rw [txw_len, HN.out]; exact Nat.le_refl _)]; rfl)
  clear ho e2 HC hcX hgX hgX2 hmX
  go_wp2_with fail
  go_loopw [8] (fun s8 wr => ∃ (j : Nat) (z : Int), j ≤ n ∧ s8 = .int .i64 z ∧ z = (j : Int) - 1 ∧ Hid (wr.ownsRow w1.heap.size 5 1 (.slice (some ⟨g, 0, none⟩) n cX) n (((txw l).take j ++ List.replicate (n - j) 0).map bv)) ∧ Hid (succL ((txw l).drop j) = none) ∧ Hid (Ext w1 wr)) (fun s8 _ => (intOf s8 + 1).toNat)
  case atStart => exact ⟨n, (n : Int) - 1, Nat.le_refl _, by go_num, rfl, HO2, HN2, E2⟩
  case round =>
    clear HO2 HN2 E2
    obtain ⟨j, z, hj, rfl, hz, hO, hNn, hEr⟩ := hrel
    rcases Nat.eq_zero_or_pos j with h0 | h0
    · exfalso
      subst h0
      have h1 := hNn.out
      have h2 := HS.out
      rw [List.drop_zero, h2] at h1
      cases h1
    · obtain ⟨k, rfl⟩ : ∃ k, j = k + 1 := ⟨j - 1, by omega⟩
      obtain rfl : z = (k : Int) := by omega
      clear hz h0
      have k1 : k < (txw l).length := by rw [txw_len, HN.out]; omega
      obtain ⟨c, hc⟩ : ∃ c, (txw l)[k] = c := ⟨_, rfl⟩
      have hc6 : c < 256 := by rw [← hc]; exact txw_lt l _ (List.getElem_mem k1)
      have y0 : wr.cell? ⟨g, k, none⟩ = some (.int .u8 (c : Int)) := by
        rw [hO.out.cellAt k (by omega), List.getElem?_map, List.getElem?_append_left (by rw [List.length_take]; omega), List.getElem?_take_of_lt (by omega), List.getElem?_eq_getElem k1, hc]; rfl
      have y2 := hO.out.frozenAt k
      have t0 : decide ((0 : Int) ≤ (k : Int)) = true := by simp
      have hdr : (txw l).drop k = c :: (txw l).drop (k + 1) := by rw [List.drop_eq_getElem_cons k1, hc]
      by_cases hlt : c < 255
      · have t1 : decide ((c : Int) < 255) = true := by simp; omega
        have O9 := (hO.out.stored k (bv (c + 1))).1
        have hqe : (txw l).take k ++ (c + 1) :: List.replicate (n - (k + 1)) 0 = q := by
          have := succL_app hNn.out hlt ((txw l).take k)
          rw [← hdr, List.take_append_drop, HS.out, List.length_drop, txw_len, HN.out] at this
          exact (Option.some.inj this).symm
        rw [← List.map_set, put_set k1, hqe] at O9
        have BX := own_bytes (by rw [HQL.out]; exact O9) (by rw [HQL.out]; omega) HQ6.out
        have BX := Lib.hid BX
        have E9 := Lib.hid (hEr.out.setCell (p := ⟨g, k, none⟩) HG.out (bv (c + 1)))
        clear hO hNn hEr hdr hc hqe O9 k1
        have hcw : Value.int .u8 ((c : Int) + 1) = bv (c + 1) := rfl
        have HCW := Lib.hid hcw
        clear hcw
        go_upto_region 8 with fail
        rw [HCW.out]
        generalize wr.setCell ⟨g, k, none⟩ (bv (c + 1)) = w5 at *
        have HB5 := Lib.hid (HBX.out.ext E9.out)
        by_cases hqm : q = txw m
        · have CE := Lib.hid (fun (w' : World) (hx : Ext w5 w') => eqby_any _ _ _ _ w' (BX.out.ext hx) ((HU.out.ext E9.out).ext hx))
          rw [show decide (q.map UInt8.ofNat = m) = true from decide_eq_true (by rw [hqm, txw_back])] at CE
          clear hqm y0 y2
          refine G.wp_region_stab (G := Ext) (fun _ => none) (by kernel_rfl) (by kernel_rfl) (fun _ _ h => by cases h) (fun hex => ?_)
          iterate 13
            (refine G.wpS_one (A := ?_) hex rfl rfl (by simp) ?_ ?_ ?_
             rotate_left 2
             · intro w' hC K hK
               have hCx := hC.1; have z0 := (HB5.out.ext hCx).cell 0; have z1 := (HB5.out.ext hCx).cell 1; have z2 := (HB5.out.ext hCx).cell 2
               go_wp2_with (go_at_call 19; with_reducible refine (CE.out w' hCx).mono ?_; rintro e w9 ⟨rfl, x9⟩)
               refine hK _ ?_
               first | exact Below.refl _ _ | assumption | ((repeat' (first | (with_reducible exact Below.refl _ _) | (with_reducible assumption) | (with_reducible refine below_drewN ?_ _) | (with_reducible refine Below.alloc ?_ ?_ _) | (with_reducible refine Below.drew ?_) | (with_reducible refine Below.setCell ?_ ?_ _) | (with_reducible refine Below.trans ?_ (Below.mono (by with_reducible assumption) ?_)) | go_size)))
             rotate_left 1
             · rfl
             clear hex; intro hex)
          refine G.wpS_nil fun w9 hAll => ?_
          have hE := hAll.1
          have E10 := Lib.hid (bel_call HE.out (bel_call E9.out hE))
          clear hAll hex hE
          go_wp2_with fail
          go_ret
          exact ⟨rfl, E10.out⟩
        · have hyx : y ≠ x := fun e => hqm (HQ.out (by rw [HY.out, e]))
          have CE := Lib.hid (fun (w' : World) (hx : Ext w5 w') => eqby_any _ _ _ _ w' (BX.out.ext hx) ((HU.out.ext E9.out).ext hx))
          rw [show decide (q.map UInt8.ofNat = m) = false from decide_eq_false (fun e => hqm (by rw [← e, txw_of HQ6.out]))] at CE
          have CL := Lib.hid (fun (w' : World) (hx : Ext w5 w') => label14_any d _ _ _ w' HO.out ((HD.out.ext E9.out).ext hx) (BX.out.ext hx))
          rw [txw_of HQ6.out, HY.out] at CL
          have hne : (y != x) = true := by simpa using hyx
          clear hqm y0 y2 hyx
          refine G.wp_region_stab (G := Ext) (fun _ => none) (by kernel_rfl) (by kernel_rfl) (fun _ _ h => by cases h) (fun hex => ?_)
          iterate 13
            (refine G.wpS_one (A := ?_) hex rfl rfl (by simp) ?_ ?_ ?_
             rotate_left 2
             · intro w' hC K hK
               have hCx := hC.1; have z0 := (HB5.out.ext hCx).cell 0; have z1 := (HB5.out.ext hCx).cell 1; have z2 := (HB5.out.ext hCx).cell 2
               go_wp2_with (first | (go_at_call 19; with_reducible refine (CE.out w' hCx).mono ?_; rintro e w9 ⟨rfl, x9⟩) | (go_at_call 37; with_reducible refine (CL.out w' hCx).mono ?_; rintro e w9 ⟨rfl, x9⟩))
               refine hK _ ?_
               first | exact Below.refl _ _ | assumption | ((repeat' (first | (with_reducible exact Below.refl _ _) | (with_reducible assumption) | (with_reducible refine below_drewN ?_ _) | (with_reducible refine Below.alloc ?_ ?_ _) | (with_reducible refine Below.drew ?_) | (with_reducible refine Below.setCell ?_ ?_ _) | (with_reducible refine Below.trans ?_ (Below.mono (by with_reducible assumption) ?_)) | go_size)))
             rotate_left 1
             · rfl
             clear hex; intro hex)
          refine G.wpS_nil fun w9 hAll => ?_
          have hE := hAll.1
          have E10 := Lib.hid (bel_call HE.out (bel_call E9.out hE))
          clear hAll hex hE
          go_wp2_with fail
          go_ret
          exact ⟨rfl, E10.out⟩
      · obtain rfl : c = 255 := by omega
        have t1 : decide (((255 : Nat) : Int) < 255) = false := by simp
        have O9 := (hO.out.stored k (bv 0)).1
        rw [← List.map_set, put_set k1, rep_cons (by omega)] at O9
        have O9 := Lib.hid O9
        have E9 := Lib.hid (hEr.out.setCell (p := ⟨g, k, none⟩) HG.out (bv 0))
        have N9 := Lib.hid (show succL ((txw l).drop k) = none by rw [hdr]; exact succL_255 hNn.out)
        clear hO hNn hEr hdr hc hlt hc6 k1
        go_wp2_with fail
        go_roundw
        case rel => exact ⟨k, (k : Int) - 1, by omega, by go_num, rfl, O9, N9, E9⟩
        case measure => simp [intOf]
end Go.Proofs.YtniamfaiamgncaaDoor
