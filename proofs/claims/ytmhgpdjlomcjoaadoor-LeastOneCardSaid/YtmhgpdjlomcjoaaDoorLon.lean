/- LeastOne: numbered otherwise, with copies of states beside it, an automaton has the same least one. -/
import Derived.Test.YtmhgpdjlomcjoaaDoorLoq
import Derived.Test.YtmhgpdjlomcjoaaDoorLpa
namespace Go.Proofs.YtmhgpdjlomcjoaaDoor
open Go Go.RowKit
theorem ni_set (L : List Nat) (i x : Nat) : (ni L).set i (x : Int) = ni (L.set i x) := by unfold ni; rw [List.map_set]
theorem ni_app (L : List Nat) (x : Nat) : ni L ++ [(x : Int)] = ni (L ++ [x]) := by simp [ni]
/-- The list of where states go. -/
def NumW (w : World) (B g n : Nat) (num : List Nat) : Prop := w.ownsRow B 3 1 (.slice (some ⟨g, 0, none⟩) n n) n ((ni num).map iv)
theorem NumW.set {w : World} {B g n i x : Nat} {num : List Nat} (h : NumW w B g n num) : NumW (w.setCell ⟨g, i, none⟩ (iv x)) B g n (num.set i x) := by
  have := (h.stored i (iv x)).1
  rw [← List.map_set, ni_set] at this
  exact this
theorem NumW.get {w : World} {B g n i : Nat} {num : List Nat} (h : NumW w B g n num) (hi : i < n) : w.cell? ⟨g, i, none⟩ = some (.int .i64 ((num.getD i 0 : Nat) : Int)) := by
  have hl := h.1
  rw [List.length_map, ni_len] at hl
  have hi2 : i < (ni num).length := by rw [ni_len]; omega
  rw [World.ownsRow.cellAt h i (by omega), List.getElem?_map, List.getElem?_eq_getElem hi2, ni_get hi2]; rfl
theorem NumW.ints {w : World} {B g n : Nat} {num : List Nat} (h : NumW w B g n num) (hn : n ≤ 1000) (hlt : ∀ i, i < n → num.getD i 0 < n) : Ints w (.slice (some ⟨g, 0, none⟩) n n) (ni num) := by
  have hl := h.1
  rw [List.length_map, ni_len] at hl
  refine ⟨by rw [ni_len, show num.length = n by omega]; exact Slc.of_own h (by omega), fun x hx => ?_⟩
  obtain ⟨i, hi, rfl⟩ := List.getElem_of_mem hx
  have := hlt i (by rw [ni_len] at hi; omega)
  rw [ni_get hi]; omega
theorem range_set {n k : Nat} (h : k < n) : (List.range k ++ List.replicate (n - k) 0).set k k = List.range (k + 1) ++ List.replicate (n - (k + 1)) 0 := by
  rw [List.set_append_right _ _ (by simp), List.length_range, Nat.sub_self, show n - k = (n - (k + 1)) + 1 by omega, List.replicate_succ, List.set_cons_zero, List.range_succ, List.append_assoc]
  rfl
set_option maxHeartbeats 8000000 in
set_option maxRecDepth 20000 in
theorem one_any (d : Dd) (LB LC : List Int) (a b t u : Value) (w : World) (h1 : Rws w a d.nx) (h2 : Ints w b d.lb) (h3 : Ints w t LB) (h4 : Ints w u LC) :
    Calls Tryd.prog 6 #[.agg #[a, b, t, u]] w fun e w' => e = .returned (.bool true) ∧ Ext w w' := by
  obtain ⟨p, cap, rfl, _⟩ := h1.shape
  obtain ⟨p2, cap2, rfl, _⟩ := h2.shape
  obtain ⟨p3, cap3, rfl, _⟩ := h3.shape
  obtain ⟨p4, cap4, rfl, _⟩ := h4.shape
  obtain ⟨n, hn⟩ : ∃ n, d.nx.length = n := ⟨_, rfl⟩
  obtain ⟨mB, hB⟩ : ∃ n, LB.length = n := ⟨_, rfl⟩
  obtain ⟨mC, hC⟩ : ∃ n, LC.length = n := ⟨_, rfl⟩
  rw [hn] at h1 ⊢
  rw [hB] at h3 ⊢
  rw [hC] at h4 ⊢
  generalize d.lb.length = n2 at *
  have HEB := Lib.hid (ext_box w #[.slice p n cap, .slice p2 n2 cap2, .slice p3 mB cap3, .slice p4 mC cap4] 56)
  have HBX := Lib.hid (Blk.new w #[.slice p n cap, .slice p2 n2 cap2, .slice p3 mB cap3, .slice p4 mC cap4] 56)
  have HD := Lib.hid ((Dns.agg h1 h2).ext HEB.out)
  have H3 := Lib.hid (h3.ext HEB.out)
  have H4 := Lib.hid (h4.ext HEB.out)
  have HN := Lib.hid hn
  have HMB := Lib.hid hB
  have HMC := Lib.hid hC
  clear h1 h2 h3 h4 hn hB hC
  by_cases q1 : 60 < n
  · have t1 : decide ((60 : Int) < n) = true := by simp; omega
    clear q1
    go_enter Tryd.func6, Tryd.ntmps6
    generalize hw0 : w.alloc (.cells #[.slice p n cap, .slice p2 n2 cap2, .slice p3 mB cap3, .slice p4 mC cap4] 56) = w0 at HEB HBX HD
    have z0 := HBX.out.cell 0
    go_wp2_with fail
    refine (wakes12_any _).mono ?_; rintro e w1 ⟨rfl, E1⟩
    have E1 := Lib.hid E1
    go_wp2_with fail
    go_ret
    exact ⟨rfl, bel_call HEB.out E1.out⟩
  have t1 : decide ((60 : Int) < n) = false := by simp; omega
  have C1 := may_any d _ _ HD.out
  by_cases hd : d.Ok
  rotate_left
  · rw [show okB d = false from by
      cases q : okB d with
      | false => rfl
      | true => exact absurd (okB_ok.1 q) hd] at C1
    have C1 := Lib.hid C1
    clear hd
    go_enter Tryd.func6, Tryd.ntmps6
    generalize hw0 : w.alloc (.cells #[.slice p n cap, .slice p2 n2 cap2, .slice p3 mB cap3, .slice p4 mC cap4] 56) = w0 at HEB HBX HD C1
    have z0 := HBX.out.cell 0
    have z1 := HBX.out.cell 1
    go_wp2_with fail
    refine C1.out.mono ?_; rintro e w1 ⟨rfl, E1⟩
    have E1 := Lib.hid E1
    go_wp2_with fail
    refine (wakes12_any _).mono ?_; rintro e w2 ⟨rfl, E2⟩
    have E2 := Lib.hid E2
    go_wp2_with fail
    go_ret
    exact ⟨rfl, bel_call HEB.out (bel_call E1.out E2.out)⟩
  rw [okB_ok.2 hd] at C1
  have C1 := Lib.hid C1
  have HO := Lib.hid hd
  have h60 : n ≤ 60 := by omega
  have h0 : 0 < n := by have := hd.pos; have := HN.out; omega
  clear hd q1
  obtain ⟨i0, hi, hz0, hz1, hz2⟩ := info_parts info_int
  go_enter Tryd.func6, Tryd.ntmps6
  generalize hw0 : w.alloc (.cells #[.slice p n cap, .slice p2 n2 cap2, .slice p3 mB cap3, .slice p4 mC cap4] 56) = w0 at HEB HBX HD C1 H3 H4
  have z0 := HBX.out.cell 0
  have z1 := HBX.out.cell 1
  go_wp2_with fail
  refine C1.out.mono ?_; rintro e w1 ⟨rfl, e1⟩
  have HBX1 := Lib.hid (HBX.out.ext e1)
  have HD1 := Lib.hid (HD.out.ext e1)
  have H31 := Lib.hid (H3.out.ext e1)
  have H41 := Lib.hid (H4.out.ext e1)
  have E1 := Lib.hid (bel_call HEB.out e1)
  clear HEB C1 HBX HD H3 H4 e1 z0 z1
  go_wp2_with (at_make; refine wpList_make_full _ rfl _ _ 24 rfl w1.heap.size 3 i0 (.int .i64 0) 1 Tryd.underlying24 hi hz0 hz1 .i64 .i64 _ _ n rfl rfl rfl rfl (by rw [hz2]; omega) (by unfold maxLen; omega) (by omega) ?_; intro wm hown hgm)
  have z3 := toList_madeCells_one (.int .i64 0) n
  have hown2 : NumW wm w1.heap.size w1.heap.size n (List.range 0 ++ List.replicate (n - 0) 0) := by
    unfold NumW ni
    rw [List.range_zero, List.nil_append, Nat.sub_zero, List.map_replicate, List.map_replicate, show iv ((0 : Nat) : Int) = Value.int .i64 0 from rfl, ← z3]; simpa [Value.cells] using hown
  have HN1 := Lib.hid hown2
  have HE1 := Lib.hid (show Ext w1 wm from ⟨hgm.os, hgm.tape, hgm.output, hgm.size, fun k hk => hgm.block k hk (by simp)⟩)
  obtain ⟨g, hg⟩ : ∃ g, w1.heap.size = g := ⟨_, rfl⟩
  have HG := Lib.hid (Nat.le_of_eq hg)
  simp only [hg] at HN1 ⊢
  clear hown hown2 hgm z3 hg
  go_loopw [5] (fun s5 wr => ∃ k : Nat, k ≤ n ∧ s5 = .int .i64 k ∧ Hid (NumW wr g g n (List.range k ++ List.replicate (n - k) 0)) ∧ Hid (Ext w1 wr)) (fun s5 _ => n - (intOf s5).toNat)
  case atStart => exact ⟨0, Nat.zero_le _, rfl, HN1, HE1⟩
  case round =>
    clear HN1 HE1
    obtain ⟨k, hk, rfl, hO, hE⟩ := hrel
    by_cases hkn : k < n
    · have y0 := hO.out.get hkn
      have y1 := World.ownsRow.frozenAt hO.out k
      have O9 := hO.out.set (i := k) (x := k)
      rw [range_set hkn] at O9
      have O9 := Lib.hid O9
      have E9 := Lib.hid (hE.out.setCell (p := ⟨g, k, none⟩) HG.out (iv k))
      clear hO hE
      go_wp2_with fail
      go_roundw
      case rel => exact ⟨k + 1, by omega, by go_num, O9, E9⟩
      case measure => simp [intOf]; omega
    · obtain rfl : n = k := by omega
      have HM := Lib.hid (Nmb.start h0)
      have hO2 := hO.out
      rw [Nat.sub_self, List.replicate_zero, List.append_nil] at hO2
      have HN2 := Lib.hid hO2
      generalize hnum : List.range n = num at HM HN2
      clear hO hO2 hnum
      as_aux_lemma =>
        have z2 := (HBX1.out.ext hE.out).cell 2
        go_upto_block 2 with fail
        obtain ⟨w2, rfl⟩ : ∃ wo : World, wo = wr := ⟨_, rfl⟩
        go_cut [6, 7, 8] from 42 to 84 (fun s6 s7 s8 wx => ∃ num, Hid (Nmb n num) ∧ Hid (NumW wx g g n num) ∧ Hid (Ext w1 wx))
        case rest =>
          as_aux_lemma =>
            clear HM HN2 hE num
            obtain ⟨num, HM, HN2, hE⟩ := hcut
            have hgc : g < wc.heap.size := (World.ownsRow.lt HN2.out g rfl).2
            have hwc := hE.out.size
            have z3 := (HBX1.out.ext hE.out).cell 3
            go_upto_block 4 with fail
            obtain ⟨wd, rfl⟩ : ∃ wo : World, wo = wc := ⟨_, rfl⟩
            go_cut [9, 10] from 85 to 105 (fun s9 s10 wx => ∃ cp : List Nat, Hid (cp.length ≤ 10 ∧ ∀ k, k < cp.length → cp.getD k 0 < n) ∧ Hid (wx.ownsRow wd.heap.size 3 1 s9 cp.length ((ni cp).map iv)) ∧ Hid (NumW wx g g n num) ∧ Hid (Ext w1 wx))
            case first =>
              go_wp2_with fail
              go_loopw [9, 10] (fun s9 s10 wr => ∃ (i : Nat) (cp : List Nat), i ≤ mC ∧ i ≤ 10 ∧ s10 = .int .i64 i ∧ Hid (cp.length = i ∧ ∀ k, k < cp.length → cp.getD k 0 < n) ∧ Hid (wr.ownsRow wd.heap.size 3 1 s9 i ((ni cp).map iv)) ∧ Hid (NumW wr g g n num) ∧ Hid (Ext wd wr)) (fun _ s10 _ => mC - (intOf s10).toNat)
              case atStart => exact ⟨0, [], Nat.zero_le _, Nat.zero_le _, rfl, Lib.hid ⟨rfl, fun k hk => absurd hk (by simp)⟩, Lib.hid (own_nil _ _ _ _), HN2, Lib.hid (Below.refl _ _)⟩
              case round =>
                clear z3 HN2
                obtain ⟨i, cp, hiC, hi10, rfl, hcp, hO, HN2, hE9⟩ := hrel
                obtain ⟨a9, c9, rfl⟩ := own_shp hO.out
                have EW := Lib.hid (bel_call hE.out hE9.out)
                have z3 := (HBX1.out.ext EW.out).cell 3
                by_cases q1 : i < mC
                · have t4 : decide ((i : Int) < (mC : Int)) = true := by simp; omega
                  have t4' : decide (i < mC) = true := by simp; omega
                  by_cases q2 : i < 10
                  · have t5 : decide ((i : Int) < 10) = true := by simp; omega
                    have k4 : i < LC.length := by rw [HMC.out]; exact q1
                    obtain ⟨bC, oC, rfl, hbC, hcC, r1, r2⟩ := (H41.out.ext EW.out).cell k4
                    obtain ⟨y, hy⟩ : ∃ y, LC[i] = y := ⟨_, rfl⟩
                    rw [hy] at hcC r1 r2
                    have hws := hE9.out.size
                    clear hy
                    go_wp2_with fail
                    refine (within_any y n wr h0 r1 r2 (by omega)).mono ?_; rintro e w9 ⟨r, hr, rfl, hw9⟩
                    subst hw9
                    go_wp2_with (at_builtin; refine wpList_append_own _ rfl _ _ 24 rfl wd.heap.size 3 i0 (.int .i64 0) 1 8 Tryd.underlying24 hi hz0 hz1 hz2 rfl (by decide) _ _ _ rfl (hO.out.alloc _) ⟨_, 0, none⟩ 1 1 [iv r] rfl rfl (cell_nwb _ [iv r] _ _ (by simp)) (iv_one _) (by unfold maxLen; omega) (by omega) (by simp; omega) ?_; intro v1 w4 hown1 hgrow1 hnil1)
                    have O9 := Lib.hid (show w4.ownsRow wd.heap.size 3 1 v1 (i + 1) ((ni (cp ++ [r])).map iv) by rw [← ni_app, List.map_append]; exact hown1)
                    have hxa : Ext wr (wr.alloc (.cells [iv r].toArray 3)) := by go_grown
                    have N9 := Lib.hid (show NumW w4 g g n num from World.ownsRow.kept (own_ex HN2.out hxa) hgrow1 (.inr (fun q => by have := (own_lo hO.out g q.symm).1; omega)))
                    have E9 := Lib.hid (ext_gr (bel_call hE9.out hxa) hgrow1 (hO.out.alloc _) (Nat.le_refl _))
                    have C9 := Lib.hid (show (cp ++ [r]).length = i + 1 ∧ ∀ k, k < (cp ++ [r]).length → (cp ++ [r]).getD k 0 < n from ⟨by simp [hcp.out.1], fun k hk => by
                      have hl := hcp.out.1
                      by_cases e : k < cp.length
                      · rw [getD_app_l e]; exact hcp.out.2 k e
                      · rw [getD_app_r (by simp at hk; omega)]; exact hr⟩)
                    clear hown1 hgrow1 hnil1
                    go_wp2_with fail
                    go_roundw
                    case rel => exact ⟨i + 1, _, by omega, by omega, by go_num, C9, O9, N9, E9⟩
                    case measure => simp [intOf]; omega
                  · have t5 : decide ((i : Int) < 10) = false := by simp; omega
                    have C9 := Lib.hid (show cp.length ≤ 10 ∧ ∀ k, k < cp.length → cp.getD k 0 < n from ⟨by have := hcp.out.1; omega, hcp.out.2⟩)
                    go_wp2_with fail
                    go_meet
                    case rel => exact ⟨cp, C9, by rw [hcp.out.1]; exact hO.out, HN2, EW⟩
                · have t4 : decide ((i : Int) < (mC : Int)) = false := by simp; omega
                  have t4' : decide (i < mC) = false := by simp; omega
                  have C9 := Lib.hid (show cp.length ≤ 10 ∧ ∀ k, k < cp.length → cp.getD k 0 < n from ⟨by have := hcp.out.1; omega, hcp.out.2⟩)
                  go_wp2_with fail
                  go_meet
                  case rel => exact ⟨cp, C9, by rw [hcp.out.1]; exact hO.out, HN2, EW⟩
            case rest =>
              as_aux_lemma =>
                clear HN2 hE z3 hgc hwc
                obtain ⟨cp, hcp, hO, HN2, hE⟩ := hcut
                obtain ⟨hc10, hcl⟩ := hcp.out
                have HCL := Lib.hid hcl
                obtain ⟨m, hm⟩ : ∃ m, cp.length = m := ⟨_, rfl⟩
                obtain ⟨aC, cC, e9⟩ := own_shp hO.out
                subst e9
                rw [hm] at hc10 hO ⊢
                have HM9 := Lib.hid hm
                clear hcl hcp hm
                obtain ⟨N, hN⟩ : ∃ N, n + m = N := ⟨_, rfl⟩
                have hNI : (n : Int) + (m : Int) = (N : Int) := by omega
                have HNN := Lib.hid hN
                have hN70 : N ≤ 70 := by omega
                clear hN
                obtain ⟨j0, hj, hy0, hy1, hy2⟩ := info_parts info_sli
                go_upto_region 20 with fail
                refine G.wp_region_tail (G := Ext) (RsF [(4, RMk wc.heap.size 24 N nilS), (9, RMk wc.heap.size 3 N (.int .i64 0)), (11, RBk wc.heap.size #[nilS, nilS] 26)]) 12 (by kernel_rfl) (by kernel_rfl) (RsF_mono (by simp only [List.forall_mem_cons, List.not_mem_nil, false_implies, implies_true, and_true]; exact ⟨RMk_ext _ _ _ _, RMk_ext _ _ _ _, RBk_ext _ _ _⟩)) (fun hex => ?_)
                simp only [List.take_succ_cons, List.take_zero, List.drop_succ_cons, List.drop_zero]
                iterate 4
                  (refine G.wpS_one (A := ?_) hex rfl rfl (by simp) ?_ ?_ ?_
                   rotate_left 2
                   · intro w' hC K hK
                     go_wp2_with (fail)
                     refine hK _ ?_
                     first | exact Below.refl _ _ | assumption | ((repeat' (first | (with_reducible exact Below.refl _ _) | (with_reducible assumption) | (with_reducible refine below_drewN ?_ _) | (with_reducible refine Below.alloc ?_ ?_ _) | (with_reducible refine Below.drew ?_) | (with_reducible refine Below.setCell ?_ ?_ _) | (with_reducible refine Below.trans ?_ (Below.mono (by with_reducible assumption) ?_)) | go_size)))
                   rotate_left 1
                   · rfl
                   clear hex; intro hex)
                refine G.wpS_rel (RMk wc.heap.size 24 N nilS) rfl rfl (by simp) (by first | rfl | (simp [Region.wanted, yielded]; done)) ?_ ?_
                · intro w' hC K hK
                  simp only [Act.put, List.setIfInBounds_toArray, List.set_cons_succ, List.set_cons_zero] at hK
                  have hsC := hC.1.size
                  go_wp2_with (at_make; refine wpList_make_full _ rfl _ _ 23 rfl wc.heap.size 24 j0 nilS 1 Tryd.underlying23 hj hy0 hy1 .i64 .i64 _ _ N rfl rfl rfl rfl (by rw [hy2]; omega) (by unfold maxLen; omega) hsC ?_; intro wm hown hgm; have hxm : Ext w' wm := ⟨hgm.os, hgm.tape, hgm.output, hgm.size, fun k hk => hgm.block k hk (by simp)⟩)
                  refine hK _ _ ?_ ?_
                  · first | exact Below.refl _ _ | assumption | ((repeat' (first | (with_reducible exact Below.refl _ _) | (with_reducible assumption) | (with_reducible refine below_drewN ?_ _) | (with_reducible refine Below.alloc ?_ ?_ _) | (with_reducible refine Below.drew ?_) | (with_reducible refine Below.setCell ?_ ?_ _) | (with_reducible refine Below.trans ?_ (Below.mono (by with_reducible assumption) ?_)) | go_size)))
                  · exact ⟨_, rfl, by rw [← toList_madeCells_one]; simpa [Value.cells] using hown⟩
                clear hex
                intro v4 w' hex hv4
                replace hex := Exists.intro w' hex
                simp only [Act.put, List.setIfInBounds_toArray, List.set_cons_succ, List.set_cons_zero]
                obtain ⟨gX, rfl, -⟩ := hv4
                iterate 4
                  (refine G.wpS_one (A := ?_) hex rfl rfl (by simp) ?_ ?_ ?_
                   rotate_left 2
                   · intro w' hC K hK
                     go_wp2_with (fail)
                     refine hK _ ?_
                     first | exact Below.refl _ _ | assumption | ((repeat' (first | (with_reducible exact Below.refl _ _) | (with_reducible assumption) | (with_reducible refine below_drewN ?_ _) | (with_reducible refine Below.alloc ?_ ?_ _) | (with_reducible refine Below.drew ?_) | (with_reducible refine Below.setCell ?_ ?_ _) | (with_reducible refine Below.trans ?_ (Below.mono (by with_reducible assumption) ?_)) | go_size)))
                   rotate_left 1
                   · rfl
                   clear hex; intro hex)
                refine G.wpS_rel (RMk wc.heap.size 3 N (.int .i64 0)) rfl rfl (by simp) (by first | rfl | (simp [Region.wanted, yielded]; done)) ?_ ?_
                · intro w' hC K hK
                  simp only [Act.put, List.setIfInBounds_toArray, List.set_cons_succ, List.set_cons_zero] at hK
                  have hsC := hC.1.size
                  go_wp2_with (at_make; refine wpList_make_full _ rfl _ _ 24 rfl wc.heap.size 3 i0 (.int .i64 0) 1 Tryd.underlying24 hi hz0 hz1 .i64 .i64 _ _ N rfl rfl rfl rfl (by rw [hz2]; omega) (by unfold maxLen; omega) hsC ?_; intro wm hown hgm; have hxm : Ext w' wm := ⟨hgm.os, hgm.tape, hgm.output, hgm.size, fun k hk => hgm.block k hk (by simp)⟩)
                  refine hK _ _ ?_ ?_
                  · first | exact Below.refl _ _ | assumption | ((repeat' (first | (with_reducible exact Below.refl _ _) | (with_reducible assumption) | (with_reducible refine below_drewN ?_ _) | (with_reducible refine Below.alloc ?_ ?_ _) | (with_reducible refine Below.drew ?_) | (with_reducible refine Below.setCell ?_ ?_ _) | (with_reducible refine Below.trans ?_ (Below.mono (by with_reducible assumption) ?_)) | go_size)))
                  · exact ⟨_, rfl, by rw [← toList_madeCells_one]; simpa [Value.cells] using hown⟩
                clear hex
                intro v9 w' hex hv9
                replace hex := Exists.intro w' hex
                simp only [Act.put, List.setIfInBounds_toArray, List.set_cons_succ, List.set_cons_zero]
                obtain ⟨gY, rfl, -⟩ := hv9
                refine G.wpS_one (A := ?_) hex rfl rfl (by simp) ?_ ?_ ?_
                rotate_left 2
                · intro w' hC K hK
                  go_wp2_with (fail)
                  refine hK _ ?_
                  first | exact Below.refl _ _ | assumption | ((repeat' (first | (with_reducible exact Below.refl _ _) | (with_reducible assumption) | (with_reducible refine below_drewN ?_ _) | (with_reducible refine Below.alloc ?_ ?_ _) | (with_reducible refine Below.drew ?_) | (with_reducible refine Below.setCell ?_ ?_ _) | (with_reducible refine Below.trans ?_ (Below.mono (by with_reducible assumption) ?_)) | go_size)))
                rotate_left 1
                · rfl
                clear hex; intro hex
                refine G.wpS_rel (RBk wc.heap.size #[nilS, nilS] 26) rfl rfl (by simp) (by first | rfl | (simp [Region.wanted, yielded]; done)) ?_ ?_
                · intro w' hC K hK
                  simp only [Act.put, List.setIfInBounds_toArray, List.set_cons_succ, List.set_cons_zero] at hK
                  skip
                  go_wp2_with (fail)
                  refine hK _ _ ?_ ?_
                  · first | exact Below.refl _ _ | assumption | ((repeat' (first | (with_reducible exact Below.refl _ _) | (with_reducible assumption) | (with_reducible refine below_drewN ?_ _) | (with_reducible refine Below.alloc ?_ ?_ _) | (with_reducible refine Below.drew ?_) | (with_reducible refine Below.setCell ?_ ?_ _) | (with_reducible refine Below.trans ?_ (Below.mono (by with_reducible assumption) ?_)) | go_size)))
                  · exact ⟨_, rfl, Blk.new _ _ _, hC.1.size⟩
                clear hex
                intro v11 w' hex hv11
                replace hex := Exists.intro w' hex
                simp only [Act.put, List.setIfInBounds_toArray, List.set_cons_succ, List.set_cons_zero]
                obtain ⟨lk, rfl, -⟩ := hv11
                refine G.wpS_nil fun w8 hAll => ?_
                obtain ⟨lk', e1, hbk, hlk⟩ := (hAll.2 11).1 rfl
                cases e1
                obtain ⟨gY', e2, hY⟩ := (hAll.2 9).2.1 rfl
                cases e2
                obtain ⟨gX', e3, hX⟩ := (hAll.2 4).2.2.1 rfl
                cases e3
                have hcpl : cp.length = m := HM9.out
                have L0 := Lib.hid (Lo.start (N := N) (vC := .slice aC m cC) (cp := cp) HN2.out (by rw [hcpl]; exact hO.out) hAll.1 hE.out hX hY hbk hlk)
                have F0 := Lib.hid (Fil.start d (num := num) (cp := cp) (show n + cp.length = N by rw [hcpl]; exact HNN.out))
                have f0 := hbk.free 0
                have p0 := hbk.cell 0
                have p1 := (hbk.set 0 (.slice (some ⟨gX, 0, none⟩) N N)).cell 1
                have f1 := (hbk.set 0 (.slice (some ⟨gX, 0, none⟩) N N)).free 1
                generalize List.replicate N nilS = vs0 at L0
                generalize (Dd.mk (List.replicate N []) (List.replicate N 0)) = x0 at L0 F0
                have HB := Lib.hid (show g < wc.heap.size ∧ w1.heap.size ≤ wc.heap.size from L0.out.lo.2.1 |> fun q => ⟨q, L0.out.lo.1⟩)
                clear hAll hex hbk hlk hX hY hO HN2 hE hcpl hj hy0 hy1 hy2 hi hz0 hz1 hz2
                go_wp2_with fail
                generalize (w8.setCell ⟨lk, 0, none⟩ (.slice (some ⟨gX, 0, none⟩) N N)).setCell ⟨lk, 1, none⟩ (.slice (some ⟨gY, 0, none⟩) N N) = w9 at *
                generalize wc.heap.size = B at *
                clear f0 p0 p1 f1
                as_aux_lemma =>
                  go_loopw [12] (fun s12 wr => ∃ (i : Nat) (vs : List Value) (x : Dd), i ≤ n ∧ s12 = .int .i64 i ∧ Hid (Lo w1 wr g n num cp (.slice aC m cC) wd.heap.size B gX gY N lk vs x) ∧ Hid (Fil d n num cp x i 0)) (fun s12 _ => n - (intOf s12).toNat)
                  case atStart => exact ⟨0, vs0, x0, Nat.zero_le _, rfl, L0, F0⟩
                  case round =>
                    clear L0 F0
                    obtain ⟨i, vs, x, hi9, rfl, hL, hF⟩ := hrel
                    by_cases hin : i < n
                    · have i1 : i < d.nx.length := by rw [HN.out]; exact hin
                      have hnumi := HM.out.lt i hin
                      have hxn : x.nx.length = N := by rw [hF.out.len, HM9.out]; exact HNN.out
                      have hxl : x.lb.length = N := by rw [hF.out.ll, HM9.out]; exact HNN.out
                      have hBw : B ≤ wr.heap.size := by
                        have := (own_lo hL.out.od.rn gX rfl)
                        omega
                      obtain ⟨bR, oR, aR, cR, rfl, hbR, hcR, hIR, -⟩ := ((HD1.out.ext hL.out.ex).rws).cell i1
                      have hrl : d.nx[i].length = 256 := by have := HO.out.row i i1; rwa [getD_get i1] at this
                      have hIN := NumW.ints (show NumW wr g g n num from hL.out.nw) (by omega) HM.out.lt
                      have hIC := hL.out.cpi (by rw [HM9.out]; exact hc10) (by omega) HCL.out
                      have HT := fun w' (hx : Ext wr w') => turned_ok (n := n) (num := num) (cp := cp) (.slice aR d.nx[i].length cR) (.slice (some ⟨g, 0, none⟩) n n) (.slice aC m cC) i w' (hIR.ext hx) (hIN.ext hx) (hIC.ext hx) hrl
                        (fun c hc => by have := HO.out.ent i c i1 hc; unfold Dd.ent at this; rw [getD_get i1, HN.out] at this; exact this) HM.out.len HM.out.lt (by rw [HM9.out]; exact hc10) (by omega) (by omega)
                      rw [hrl] at HT hcR
                      have HTR := Lib.hid (show ∀ O, Trn n num cp d.nx[i] O → Trn n num cp (d.nx.getD i []) O from fun O h => by rw [getD_get i1]; exact h)
                      generalize d.nx[i] = Lr at HT hIR HTR hrl
                      have HT := Lib.hid HT
                      have hyN := NumW.get (show NumW wr g g n num from hL.out.nw) hin
                      have hgl := (own_lo hL.out.nw g rfl).2
                      obtain ⟨nu, hnu⟩ : ∃ x, num.getD i 0 = x := ⟨_, rfl⟩
                      rw [hnu] at hyN hnumi
                      have HNU := Lib.hid hnu
                      have HYN := Lib.hid hyN
                      have HGL := Lib.hid hgl
                      have HCR := Lib.hid hcR
                      have HBR := Lib.hid hbR
                      have HBX9 := Lib.hid (HBX1.out.ext hL.out.ex)
                      have hnN : nu < N := by omega
                      clear hIR hIN hIC hrl hcR hbR hyN hgl hnu
                      go_upto_region 24 with fail
                      refine G.wp_region_tail (G := Ext) (RsF [(16, RTr wr.heap.size n num cp Lr)]) 18 (by kernel_rfl) (by kernel_rfl) (RsF_mono (by simp only [List.forall_mem_cons, List.not_mem_nil, false_implies, implies_true, and_true]; exact RTr_ext _ _ _ _ _)) (fun hex => ?_)
                      simp only [List.take_succ_cons, List.take_zero, List.drop_succ_cons, List.drop_zero]
                      iterate 16
                        (refine G.wpS_one (A := ?_) hex rfl rfl (by simp) ?_ ?_ ?_
                         rotate_left 2
                         · intro w' hC K hK
                           have hxC := hC.1; have z0 := (HBX9.out.ext hxC).cell 0; have x0 := (hL.out.bk.ext hxC).cell 0; have yN := (hxC.cell (p := ⟨g, i, none⟩) HGL.out).trans HYN.out; have yR := (hxC.cell (p := ⟨bR, oR + i, none⟩) HBR.out).trans HCR.out
                           go_wp2_with (fail)
                           refine hK _ ?_
                           first | exact Below.refl _ _ | assumption | ((repeat' (first | (with_reducible exact Below.refl _ _) | (with_reducible assumption) | (with_reducible refine below_drewN ?_ _) | (with_reducible refine Below.alloc ?_ ?_ _) | (with_reducible refine Below.drew ?_) | (with_reducible refine Below.setCell ?_ ?_ _) | (with_reducible refine Below.trans ?_ (Below.mono (by with_reducible assumption) ?_)) | go_size)))
                         rotate_left 1
                         · rfl
                         clear hex; intro hex)
                      refine G.wpS_rel (RTr wr.heap.size n num cp Lr) rfl rfl (by simp) (by first | rfl | (simp [Region.wanted, yielded]; done)) ?_ ?_
                      · intro w' hC K hK
                        simp only [Act.put, List.setIfInBounds_toArray, List.set_cons_succ, List.set_cons_zero] at hK
                        have hxC := hC.1
                        go_wp2_with (go_at_call 23; refine (HT.out w' hxC).mono ?_; rintro e w5 ⟨v5, O5, rfl, o5, t5, x5⟩)
                        refine hK _ _ ?_ ?_
                        · first | exact Below.refl _ _ | assumption | ((repeat' (first | (with_reducible exact Below.refl _ _) | (with_reducible assumption) | (with_reducible refine below_drewN ?_ _) | (with_reducible refine Below.alloc ?_ ?_ _) | (with_reducible refine Below.drew ?_) | (with_reducible refine Below.setCell ?_ ?_ _) | (with_reducible refine Below.trans ?_ (Below.mono (by with_reducible assumption) ?_)) | go_size)))
                        · exact ⟨O5, o5.mono hxC.size, t5⟩
                      clear hex
                      intro v16 w' hex hv16
                      replace hex := Exists.intro w' hex
                      simp only [Act.put, List.setIfInBounds_toArray, List.set_cons_succ, List.set_cons_zero]
                      obtain ⟨O6, o6, -⟩ := hv16
                      obtain ⟨a16, c16, rfl⟩ := own_shp o6
                      clear o6
                      refine G.wpS_one (A := ?_) hex rfl rfl (by simp) ?_ ?_ ?_
                      rotate_left 2
                      · intro w' hC K hK
                        go_wp2_with (fail)
                        refine hK _ ?_
                        first | exact Below.refl _ _ | assumption | ((repeat' (first | (with_reducible exact Below.refl _ _) | (with_reducible assumption) | (with_reducible refine below_drewN ?_ _) | (with_reducible refine Below.alloc ?_ ?_ _) | (with_reducible refine Below.drew ?_) | (with_reducible refine Below.setCell ?_ ?_ _) | (with_reducible refine Below.trans ?_ (Below.mono (by with_reducible assumption) ?_)) | go_size)))
                      rotate_left 1
                      · rfl
                      clear hex; intro hex
                      refine G.wpS_nil fun w8 hAll => ?_
                      obtain ⟨O, hO16, hT16⟩ := (hAll.2 16).1 rfl
                      have hx8 := hAll.1
                      have hol : O.length = 256 := hT16.1
                      rw [← hol] at hO16
                      have L8 := hL.out.ext hx8
                      have L9 := Lib.hid (hL.out.row hx8 hO16 hBw hxn hnN)
                      have F9 := hF.out.state HM.out hin (HTR.out O hT16)
                      rw [HNU.out] at F9
                      have y0 := L8.od.cellN (i := nu) (by rw [hxn]; exact hnN)
                      have y1 := World.ownsRow.frozenAt (by have := L8.od.rn; rw [hxn] at this; exact this) nu
                      rw [hol] at L9
                      have hxl9 : (Dd.mk (x.nx.set nu O) x.lb).lb.length = N := hxl
                      generalize vs.getD nu nilS = uo at y0
                      have F9 := Lib.hid F9
                      clear hAll hex hx8 hO16 hT16 L8 HT HTR hol
                      go_upto_region 25 with fail
                      generalize w8.setCell ⟨gX, nu, none⟩ (.slice a16 256 c16) = w9 at *
                      have hlb : n2 = d.lb.length := by
                        obtain ⟨_, _, e, _⟩ := (HD1.out.ints).shape
                        cases e; rfl
                      have i2 : i < d.lb.length := by rw [HO.out.lbl]; exact i1
                      have hin2 : i < n2 := by omega
                      obtain ⟨bY, oY, rfl, hbY, hcY, -⟩ := ((HD1.out.ext L9.out.ex).ints).cell i2
                      have hyl : d.lb[i] = d.lab i := by unfold Dd.lab; rw [getD_get i2]
                      rw [hyl] at hcY
                      have HLB := Lib.hid hlb
                      generalize d.lab i = yl at hcY F9
                      have z1 := (HBX1.out.ext L9.out.ex).cell 1
                      have x1 := L9.out.bk.cell 1
                      have yN := NumW.get (show NumW w9 g g n num from L9.out.nw) hin
                      rw [HNU.out] at yN
                      have hrl9 := L9.out.od.rl
                      rw [hxl9] at hrl9
                      obtain ⟨ul, y3⟩ : ∃ u, w9.cell? ⟨gY, nu, none⟩ = some u := ⟨_, (World.ownsRow.cellAt hrl9 nu (by omega)).trans (List.getElem?_eq_getElem (by rw [hrl9.1]; omega))⟩
                      have y4 := World.ownsRow.frozenAt hrl9 nu
                      have LA := Lib.hid ((L9.out.lab (t := nu) hxl9 yl).ext (drew_ext _))
                      clear L9 hL hF hlb hyl hrl9 hxl9 hxl hxn i1 i2
                      go_region
                      generalize (w9.setCell ⟨gY, nu, none⟩ (.int .i64 yl)).drew = wA at *
                      go_wp2_with fail
                      go_roundw
                      case rel => exact ⟨i + 1, _, _, by omega, by go_num, LA, F9⟩
                      case measure => simp [intOf]; omega
                    · obtain rfl : n = i := by omega
                      go_wp2_with fail
                      as_aux_lemma =>
                        go_loopw [13] (fun s13 wr => ∃ (k : Nat) (vs : List Value) (x : Dd), k ≤ m ∧ s13 = .int .i64 k ∧ Hid (Lo w1 wr g n num cp (.slice aC m cC) wd.heap.size B gX gY N lk vs x) ∧ Hid (Fil d n num cp x n k)) (fun s13 _ => m - (intOf s13).toNat)
                        case atStart => exact ⟨0, vs, x, Nat.zero_le _, rfl, hL, hF⟩
                        case round =>
                          clear hL hF
                          obtain ⟨k, vs, x, hk9, rfl, hL, hF⟩ := hrel
                          by_cases hkm : k < m
                          · have hkc : k < cp.length := by rw [HM9.out]; exact hkm
                            obtain ⟨i, hci⟩ : ∃ i, cp.getD k 0 = i := ⟨_, rfl⟩
                            have hin : i < n := by rw [← hci]; exact HCL.out k hkc
                            have HCI := Lib.hid hci
                            have i1 : i < d.nx.length := by rw [HN.out]; exact hin
                            clear hci
                            have hxn : x.nx.length = N := by rw [hF.out.len, HM9.out]; exact HNN.out
                            have hxl : x.lb.length = N := by rw [hF.out.ll, HM9.out]; exact HNN.out
                            have hBw : B ≤ wr.heap.size := by
                              have := (own_lo hL.out.od.rn gX rfl)
                              omega
                            obtain ⟨bR, oR, aR, cR, rfl, hbR, hcR, hIR, -⟩ := ((HD1.out.ext hL.out.ex).rws).cell i1
                            have hrl : d.nx[i].length = 256 := by have := HO.out.row i i1; rwa [getD_get i1] at this
                            have hIN := NumW.ints (show NumW wr g g n num from hL.out.nw) (by omega) HM.out.lt
                            have hIC := hL.out.cpi (by rw [HM9.out]; exact hc10) (by omega) HCL.out
                            have HT := fun w' (hx : Ext wr w') => turned_ok (n := n) (num := num) (cp := cp) (.slice aR d.nx[i].length cR) (.slice (some ⟨g, 0, none⟩) n n) (.slice aC m cC) (k + 1) w' (hIR.ext hx) (hIN.ext hx) (hIC.ext hx) hrl
                              (fun c hc => by have := HO.out.ent i c i1 hc; unfold Dd.ent at this; rw [getD_get i1, HN.out] at this; exact this) HM.out.len HM.out.lt (by rw [HM9.out]; exact hc10) (by omega) (by omega)
                            rw [hrl] at HT hcR
                            have HTR := Lib.hid (show ∀ O, Trn n num cp d.nx[i] O → Trn n num cp (d.nx.getD i []) O from fun O h => by rw [getD_get i1]; exact h)
                            generalize d.nx[i] = Lr at HT hIR HTR hrl
                            have HTS := HT
                            rw [show (((k + 1 : Nat)) : Int) = (k : Int) + 1 from rfl] at HTS
                            obtain ⟨bC, oC, e9, hbC, hcC, -⟩ := hIC.cell (k := k) (by rw [ni_len]; exact hkc)
                            rw [ni_get (by rw [ni_len]; exact hkc), HCI.out] at hcC
                            subst e9
                            have HYN := Lib.hid hcC
                            have HGL := Lib.hid hbC
                            have HT := Lib.hid HTS
                            clear HTS hcC hbC
                            have HCR := Lib.hid hcR
                            have HBR := Lib.hid hbR
                            have HBX9 := Lib.hid (HBX1.out.ext hL.out.ex)
                            have hnN : n + k < N := by have := HNN.out; omega
                            clear hIR hIN hIC hrl hcR hbR
                            go_upto_region 29 with fail
                            refine G.wp_region_tail (G := Ext) (RsF [(19, RTr wr.heap.size n num cp Lr)]) 21 (by kernel_rfl) (by kernel_rfl) (RsF_mono (by simp only [List.forall_mem_cons, List.not_mem_nil, false_implies, implies_true, and_true]; exact RTr_ext _ _ _ _ _)) (fun hex => ?_)
                            simp only [List.take_succ_cons, List.take_zero, List.drop_succ_cons, List.drop_zero]
                            iterate 19
                              (refine G.wpS_one (A := ?_) hex rfl rfl (by simp) ?_ ?_ ?_
                               rotate_left 2
                               · intro w' hC K hK
                                 have hxC := hC.1; have z0 := (HBX9.out.ext hxC).cell 0; have x0 := (hL.out.bk.ext hxC).cell 0; have yN := (hxC.cell (p := ⟨bC, oC + k, none⟩) HGL.out).trans HYN.out; have yR := (hxC.cell (p := ⟨bR, oR + i, none⟩) HBR.out).trans HCR.out
                                 go_wp2_with (fail)
                                 refine hK _ ?_
                                 first | exact Below.refl _ _ | assumption | ((repeat' (first | (with_reducible exact Below.refl _ _) | (with_reducible assumption) | (with_reducible refine below_drewN ?_ _) | (with_reducible refine Below.alloc ?_ ?_ _) | (with_reducible refine Below.drew ?_) | (with_reducible refine Below.setCell ?_ ?_ _) | (with_reducible refine Below.trans ?_ (Below.mono (by with_reducible assumption) ?_)) | go_size)))
                               rotate_left 1
                               · rfl
                               clear hex; intro hex)
                            refine G.wpS_rel (RTr wr.heap.size n num cp Lr) rfl rfl (by simp) (by first | rfl | (simp [Region.wanted, yielded]; done)) ?_ ?_
                            · intro w' hC K hK
                              simp only [Act.put, List.setIfInBounds_toArray, List.set_cons_succ, List.set_cons_zero] at hK
                              have hxC := hC.1
                              go_wp2_with (go_at_call 23; refine (HT.out w' hxC).mono ?_; rintro e w5 ⟨v5, O5, rfl, o5, t5, x5⟩)
                              refine hK _ _ ?_ ?_
                              · first | exact Below.refl _ _ | assumption | ((repeat' (first | (with_reducible exact Below.refl _ _) | (with_reducible assumption) | (with_reducible refine below_drewN ?_ _) | (with_reducible refine Below.alloc ?_ ?_ _) | (with_reducible refine Below.drew ?_) | (with_reducible refine Below.setCell ?_ ?_ _) | (with_reducible refine Below.trans ?_ (Below.mono (by with_reducible assumption) ?_)) | go_size)))
                              · exact ⟨O5, o5.mono hxC.size, t5⟩
                            clear hex
                            intro v16 w' hex hv16
                            replace hex := Exists.intro w' hex
                            simp only [Act.put, List.setIfInBounds_toArray, List.set_cons_succ, List.set_cons_zero]
                            obtain ⟨O6, o6, -⟩ := hv16
                            obtain ⟨a16, c16, rfl⟩ := own_shp o6
                            clear o6
                            refine G.wpS_one (A := ?_) hex rfl rfl (by simp) ?_ ?_ ?_
                            rotate_left 2
                            · intro w' hC K hK
                              go_wp2_with (fail)
                              refine hK _ ?_
                              first | exact Below.refl _ _ | assumption | ((repeat' (first | (with_reducible exact Below.refl _ _) | (with_reducible assumption) | (with_reducible refine below_drewN ?_ _) | (with_reducible refine Below.alloc ?_ ?_ _) | (with_reducible refine Below.drew ?_) | (with_reducible refine Below.setCell ?_ ?_ _) | (with_reducible refine Below.trans ?_ (Below.mono (by with_reducible assumption) ?_)) | go_size)))
                            rotate_left 1
                            · rfl
                            clear hex; intro hex
                            refine G.wpS_nil fun w8 hAll => ?_
                            obtain ⟨O, hO16, hT16⟩ := (hAll.2 19).1 rfl
                            have hx8 := hAll.1
                            have hol : O.length = 256 := hT16.1
                            rw [← hol] at hO16
                            have L8 := hL.out.ext hx8
                            have L9 := Lib.hid (hL.out.row hx8 hO16 hBw hxn hnN)
                            have F9 := hF.out.copy HM.out hkc (by rw [HCI.out]; exact HTR.out O hT16)
                            rw [HCI.out] at F9
                            have y0 := L8.od.cellN (i := n + k) (by rw [hxn]; exact hnN)
                            have y1 := World.ownsRow.frozenAt (by have := L8.od.rn; rw [hxn] at this; exact this) (n + k)
                            rw [hol] at L9
                            have hxl9 : (Dd.mk (x.nx.set (n + k) O) x.lb).lb.length = N := hxl
                            generalize vs.getD (n + k) nilS = uo at y0
                            have F9 := Lib.hid F9
                            clear hAll hex hx8 hO16 hT16 L8 HT HTR hol
                            go_upto_region 30 with fail
                            generalize w8.setCell ⟨gX, n + k, none⟩ (.slice a16 256 c16) = w9 at *
                            have hlb : n2 = d.lb.length := by
                              obtain ⟨_, _, e, _⟩ := (HD1.out.ints).shape
                              cases e; rfl
                            have i2 : i < d.lb.length := by rw [HO.out.lbl]; exact i1
                            have hin2 : i < n2 := by omega
                            obtain ⟨bY, oY, rfl, hbY, hcY, -⟩ := ((HD1.out.ext L9.out.ex).ints).cell i2
                            have hyl : d.lb[i] = d.lab i := by unfold Dd.lab; rw [getD_get i2]
                            rw [hyl] at hcY
                            have HLB := Lib.hid hlb
                            generalize d.lab i = yl at hcY F9
                            have z1 := (HBX1.out.ext L9.out.ex).cell 1
                            have x1 := L9.out.bk.cell 1
                            obtain ⟨b9, o9, e9, hb9, yN, -⟩ := (L9.out.cpi (by rw [HM9.out]; exact hc10) (by omega) HCL.out).cell (k := k) (by rw [ni_len]; exact hkc)
                            rw [ni_get (by rw [ni_len]; exact hkc), HCI.out] at yN
                            cases e9
                            have hrl9 := L9.out.od.rl
                            rw [hxl9] at hrl9
                            obtain ⟨ul, y3⟩ : ∃ u, w9.cell? ⟨gY, n + k, none⟩ = some u := ⟨_, (World.ownsRow.cellAt hrl9 (n + k) (by omega)).trans (List.getElem?_eq_getElem (by rw [hrl9.1]; omega))⟩
                            have y4 := World.ownsRow.frozenAt hrl9 (n + k)
                            have LA := Lib.hid ((L9.out.lab (t := n + k) hxl9 yl).ext (drew_ext _))
                            clear L9 hL hF hlb hyl hrl9 hxl9 hxl hxn i1 i2
                            go_region
                            generalize (w9.setCell ⟨gY, n + k, none⟩ (.int .i64 yl)).drew = wA at *
                            go_wp2_with fail
                            go_roundw
                            case rel => exact ⟨k + 1, _, _, by omega, by go_num, LA, F9⟩
                            case measure => simp [intOf]; omega
                          · obtain rfl : m = k := by omega
                            have hF2 := hF.out
                            rw [← HM9.out] at hF2
                            have h600 : n + cp.length ≤ 600 := by rw [HM9.out]; omega
                            have XOK := hF2.ok HO.out HN.out HM.out HCL.out h600
                            have HXO := Lib.hid XOK
                            have HXB := Lib.hid (hF2.beh HM.out h0)
                            have hxn : x.nx.length = N := by rw [hF2.len, HM9.out]; exact HNN.out
                            have hxl : x.lb.length = N := by rw [hF2.ll, HM9.out]; exact HNN.out
                            have DX := Lib.hid (hL.out.od.dns XOK)
                            have DD := Lib.hid (HD1.out.ext hL.out.ex)
                            have BK := Lib.hid hL.out.bk
                            have EE := Lib.hid (bel_call E1.out hL.out.ex)
                            have z0 := (HBX1.out.ext hL.out.ex).cell 0
                            have z1 := (HBX1.out.ext hL.out.ex).cell 1
                            clear hF hF2 h600 XOK hL
                            go_wp2_with fail
                            refine (least_ok d _ _ HO.out DD.out).mono ?_; rintro e wb ⟨m1, vN, vL, vz, rfl, c1, o1, eb⟩
                            obtain ⟨aN, kN, rfl⟩ := own_shp o1.rn
                            obtain ⟨aL, kL, rfl⟩ := own_shp o1.rl
                            have dm := o1.dns c1.ok
                            have CM := Lib.hid c1
                            generalize m1.nx.length = l1 at dm ⊢
                            generalize m1.lb.length = l2 at dm ⊢
                            have hxb : Ext wb (wb.alloc (.cells #[.slice aN l1 kN, .slice aL l2 kL] 26)) := by go_grown
                            have hbb := Blk.new wb #[.slice aN l1 kN, .slice aL l2 kL] 26
                            have BK2 := Lib.hid ((BK.out.ext eb).ext hxb)
                            have DX2 := Lib.hid ((DX.out.ext eb).ext hxb)
                            have DM := Lib.hid (dm.ext hxb)
                            have EE2 := Lib.hid (bel_call (bel_call EE.out eb) hxb)
                            have HBB := Lib.hid hbb
                            clear o1 dm c1 hxb hbb BK DX DD EE eb z0 z1
                            go_upto_region 32 with fail
                            generalize wb.alloc (.cells #[.slice aN l1 kN, .slice aL l2 kL] 26) = wc2 at *
                            generalize hsb : wb.heap.size = sb at *
                            clear hsb
                            have x0 := BK2.out.cell 0
                            have x1 := BK2.out.cell 1
                            go_wp2_with fail
                            refine (least_ok x _ _ HXO.out DX2.out).mono ?_; rintro e we ⟨m2, vN2, vL2, vz2, rfl, c2, o2, ee⟩
                            obtain ⟨aN2, kN2, rfl⟩ := own_shp o2.rn
                            obtain ⟨aL2, kL2, rfl⟩ := own_shp o2.rl
                            obtain rfl : m1 = m2 := CM.out.uniq c2 HXB.out.symm
                            have dm2 := o2.dns c2.ok
                            generalize m1.nx.length = l3 at dm2 ⊢
                            generalize m1.lb.length = l4 at dm2 ⊢
                            have hxe : Ext we (we.alloc (.cells #[.slice aN2 l3 kN2, .slice aL2 l4 kL2] 26)) := by go_grown
                            have hbe := Blk.new we #[.slice aN2 l3 kN2, .slice aL2 l4 kL2] 26
                            have HBB2 := Lib.hid ((HBB.out.ext ee).ext hxe)
                            have DM3 := (DM.out.ext ee).ext hxe
                            have HQ := Lib.hid (eqd_same m1 _ _ _ DM3 (dm2.ext hxe))
                            have EE3 := Lib.hid (bel_call (bel_call EE2.out ee) hxe)
                            have HBE := Lib.hid hbe
                            clear o2 dm2 c2 hxe hbe DM3 BK2 DX2 EE2 ee x0 x1 HBB DM
                            go_upto_region 33 with fail
                            generalize we.alloc (.cells #[.slice aN2 l3 kN2, .slice aL2 l4 kL2] 26) = wf at *
                            generalize hse : we.heap.size = se at *
                            clear hse
                            have y0 := HBB2.out.cell 0
                            have y1 := HBB2.out.cell 1
                            have x0 := HBE.out.cell 0
                            have x1 := HBE.out.cell 1
                            go_wp2_with fail
                            refine HQ.out.mono ?_; rintro e wg ⟨rfl, eg⟩
                            have EE4 := Lib.hid (bel_call EE3.out eg)
                            clear eg
                            go_wp2_with fail
                            refine (wakes12_any _).mono ?_; rintro e wh ⟨rfl, eh⟩
                            have EE5 := Lib.hid (bel_call EE4.out eh)
                            clear eh
                            go_wp2_with fail
                            go_ret
                            exact ⟨rfl, EE5.out⟩
        case first =>
          go_wp2_with fail
          go_loopw [6] (fun s6 wr => ∃ (i : Nat) (num : List Nat), i ≤ mB ∧ s6 = .int .i64 i ∧ Hid (Nmb n num) ∧ Hid (NumW wr g g n num) ∧ Hid (Ext w1 wr)) (fun s6 _ => mB - (intOf s6).toNat)
          case atStart => exact ⟨0, num, Nat.zero_le _, rfl, HM, HN2, hE⟩
          case round =>
            clear HN2 hE HM z2
            obtain ⟨i, num, hi9, rfl, HM, hO, hE⟩ := hrel
            have EW := Lib.hid (show Ext w1 wr from hE.out)
            by_cases qs : i < mB ∧ i < 100 ∧ 2 < n
            · obtain ⟨q1, q2, q3⟩ := qs
              have k3 : i < LB.length := by rw [HMB.out]; exact q1
              have z2 := ((HBX1.out.ext EW.out)).cell 2
              obtain ⟨bB, oB, rfl, hbB, hcB, r1, r2⟩ := (H31.out.ext EW.out).cell k3
              obtain ⟨y, hy⟩ : ∃ y, LB[i] = y := ⟨_, rfl⟩
              rw [hy] at hcB r1 r2
              obtain ⟨m1, hm1⟩ : ∃ m, n - 1 = m := ⟨_, rfl⟩
              have hm2 : (n : Int) - 1 = (m1 : Int) := by omega
              have hm3 : 0 < m1 := by omega
              obtain ⟨ra, hra⟩ : ∃ r, i % m1 = r := ⟨_, rfl⟩
              have hra2 : ra < m1 := by rw [← hra]; exact Nat.mod_lt _ hm3
              have hra3 : (i : Int) % (m1 : Int) = (ra : Int) := by rw [← hra]; simp
              have t4 : decide ((i : Int) < (mB : Int)) = true := by simp; omega
              have t4' : decide (i < mB) = true := by simp; omega
              have t5 : decide ((i : Int) < 100) = true := by simp; omega
              have t6 : decide ((2 : Int) < (n : Int)) = true := by simp; omega
              have t6' : decide (2 < n) = true := by simp; omega
              clear hy hm1 hra
              go_wp2_with fail
              refine (within_any y m1 wr hm3 r1 r2 (by omega)).mono ?_; rintro e w9 ⟨rb, hrb, rfl, hw9⟩
              subst hw9
              go_upto_region 14 with fail
              have ga := hO.out.get (i := 1 + ra) (by omega)
              have gb := hO.out.get (i := 1 + rb) (by omega)
              have fa := World.ownsRow.frozenAt hO.out (1 + ra)
              have fb := World.ownsRow.frozenAt hO.out (1 + rb)
              have O1 := hO.out.set (i := 1 + ra) (x := num.getD (1 + rb) 0)
              have gc := (cell_drew _ _).trans (O1.get (i := 1 + rb) (by omega))
              have fc := (frz_drew _ _).trans (World.ownsRow.frozenAt O1 (1 + rb))
              have O2 := Lib.hid (show NumW _ g g n _ from own_ex (O1.set (i := 1 + rb) (x := num.getD (1 + ra) 0)) (drew_ext _))
              have M2 := Lib.hid (HM.out.swap (a := 1 + ra) (b := 1 + rb) (by omega) (by omega) (by omega) (by omega))
              have E2 := Lib.hid (bel_call ((hE.out.setCell (p := ⟨g, 1 + ra, none⟩) HG.out (iv (num.getD (1 + rb) 0))).setCell (p := ⟨g, 1 + rb, none⟩) HG.out (iv (num.getD (1 + ra) 0))) (drew_ext _))
              generalize ((num.set (1 + ra) (num.getD (1 + rb) 0)).getD (1 + rb) 0) = xc at gc
              generalize (num.set (1 + ra) (num.getD (1 + rb) 0)).set (1 + rb) (num.getD (1 + ra) 0) = num2 at O2 M2
              generalize num.getD (1 + ra) 0 = xa at *
              generalize num.getD (1 + rb) 0 = xb at *
              clear O1 hO hE HM EW z2 hcB
              go_region
              generalize ((wr.setCell ⟨g, 1 + ra, none⟩ (.int .i64 (xb : Int))).setCell ⟨g, 1 + rb, none⟩ (.int .i64 (xa : Int))).drew = w9 at *
              go_wp2_with fail
              go_roundw
              case rel => exact ⟨i + 1, num2, by omega, by go_num, M2, O2, E2⟩
              case measure => simp [intOf]; omega
            · have z2 := (HBX1.out.ext EW.out).cell 2
              by_cases q1 : i < mB
              · have t4 : decide ((i : Int) < (mB : Int)) = true := by simp; omega
                have t4' : decide (i < mB) = true := by simp; omega
                by_cases q2 : i < 100
                · have t5 : decide ((i : Int) < 100) = true := by simp; omega
                  have t6 : decide ((2 : Int) < (n : Int)) = false := by simp; omega
                  have t6' : decide (2 < n) = false := by simp; omega
                  clear qs
                  go_wp2_with fail
                  go_meet
                  case rel => exact ⟨num, HM, hO, hE⟩
                · have t5 : decide ((i : Int) < 100) = false := by simp; omega
                  clear qs
                  go_wp2_with fail
                  go_meet
                  case rel => exact ⟨num, HM, hO, hE⟩
              · have t4 : decide ((i : Int) < (mB : Int)) = false := by simp; omega
                have t4' : decide (i < mB) = false := by simp; omega
                clear qs
                go_wp2_with fail
                go_meet
                case rel => exact ⟨num, HM, hO, hE⟩
end Go.Proofs.YtmhgpdjlomcjoaaDoor
