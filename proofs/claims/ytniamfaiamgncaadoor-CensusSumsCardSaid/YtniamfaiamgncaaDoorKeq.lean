/- bolterref0.Eq: two lists of bytes are held against each other. -/
import Derived.Test.YtniamfaiamgncaaDoorKtb
namespace Go.Proofs.YtniamfaiamgncaaDoor
open Go Go.RowKit
theorem eq_take {a b : List UInt8} {k : Nat} (ha : k < a.length) (hb : k < b.length) (h : a.take k = b.take k) (he : a[k] = b[k]) : a.take (k + 1) = b.take (k + 1) := by
  rw [List.take_succ_eq_append_getElem ha, List.take_succ_eq_append_getElem hb, h, he]
set_option maxHeartbeats 1000000 in
set_option maxRecDepth 20000 in
theorem eqby_any (v u : Value) (a b : List UInt8) (w : World) (hv : Bytes w v a) (hu : Bytes w u b) :
    Calls Tryd.prog 19 #[v, u] w fun e w' => e = .returned (.bool (decide (a = b))) ∧ Ext w w' := by
  obtain ⟨pa, ca, rfl, ha1, ha2, _⟩ := hv.shp
  obtain ⟨pb, cb, rfl, hb1, hb2, _⟩ := hu.shp
  have HA := Lib.hid hv
  have HB := Lib.hid hu
  obtain ⟨r, hr⟩ : ∃ r, decide (a = b) = r := ⟨_, rfl⟩
  rw [hr]
  have HR := Lib.hid hr
  obtain ⟨n, hn⟩ : ∃ n, a.length = n := ⟨_, rfl⟩
  obtain ⟨m, hm⟩ : ∃ n, b.length = n := ⟨_, rfl⟩
  rw [hn] at HA ha1 ha2 ⊢
  rw [hm] at HB hb1 hb2 ⊢
  have HN := Lib.hid (And.intro hn hm)
  clear hv hu hr hn hm ha1 hb1
  by_cases q : n = m
  · subst q
    have t1 : ((n : Int) != (n : Int)) = false := by simp
    go_enter Tryd.func19, Tryd.ntmps19
    go_wp2_with fail
    go_loopw [5] (fun s5 wr => ∃ k : Nat, k ≤ n ∧ s5 = .int .i64 k ∧ Hid (a.take k = b.take k) ∧ Hid (Ext w wr)) (fun s5 _ => n - (intOf s5).toNat)
    case atStart => exact ⟨0, Nat.zero_le _, rfl, Lib.hid rfl, Lib.hid (Below.refl _ _)⟩
    case round =>
      obtain ⟨k, hk, rfl, hT, hEr⟩ := hrel
      by_cases hkn : k < n
      · have ka : k < a.length := by rw [HN.out.1]; exact hkn
        have kb : k < b.length := by rw [HN.out.2]; exact hkn
        obtain ⟨bA, oA, rfl, hbA, hcA⟩ := (HA.out.ext hEr.out).cel ka
        obtain ⟨bB, oB, rfl, hbB, hcB⟩ := (HB.out.ext hEr.out).cel kb
        obtain ⟨x, hx⟩ : ∃ x, a[k] = x := ⟨_, rfl⟩
        obtain ⟨y, hy⟩ : ∃ y, b[k] = y := ⟨_, rfl⟩
        rw [hx] at hcA
        rw [hy] at hcB
        have CA := Lib.hid hcA
        have CB := Lib.hid hcB
        by_cases hxy : x = y
        · have T9 := Lib.hid (eq_take ka kb hT.out (by rw [hx, hy, hxy]))
          subst hxy
          clear hx hy ka kb hcA hcB
          obtain ⟨c, hc⟩ : ∃ c, x.toNat = c := ⟨_, rfl⟩
          rw [hc] at CA CB
          clear hc
          go_upto_region 6 with fail
          refine G.wp_region_stab (G := Ext) (fun _ => none) (by kernel_rfl) (by kernel_rfl) (fun _ _ h => by cases h) (fun hex => ?_)
          iterate 9
            (refine G.wpS_one (A := ?_) hex rfl rfl (by simp) ?_ ?_ ?_
             rotate_left 2
             · intro w' hC K hK
               have c0 := (hC.1.cell (p := ⟨bA, oA + k, none⟩) hbA).trans CA.out; have c1 := (hC.1.cell (p := ⟨bB, oB + k, none⟩) hbB).trans CB.out
               go_wp2_with (fail)
               refine hK _ ?_
               first | exact Below.refl _ _ | assumption | ((repeat' (first | (with_reducible exact Below.refl _ _) | (with_reducible assumption) | (with_reducible refine below_drewN ?_ _) | (with_reducible refine Below.alloc ?_ ?_ _) | (with_reducible refine Below.drew ?_) | (with_reducible refine Below.setCell ?_ ?_ _) | (with_reducible refine Below.trans ?_ (Below.mono (by with_reducible assumption) ?_)) | go_size)))
             rotate_left 1
             · rfl
             clear hex; intro hex)
          refine G.wpS_nil fun w9 hAll => ?_
          have hE := hAll.1
          have E9 := Lib.hid (bel_call hEr.out hE)
          clear hAll hex hE
          go_wp2_with fail
          go_roundw
          case rel => exact ⟨k + 1, by omega, by go_num, T9, E9⟩
          case measure => simp [intOf]; omega
        · have hrf : r = false := by
            rw [← HR.out]
            refine decide_eq_false fun e => hxy ?_
            subst e
            rw [← hx, ← hy]
          subst hrf
          have hne : ((x.toNat : Int) != (y.toNat : Int)) = true := by
            simp only [bne_iff_ne, ne_eq]
            intro e
            exact hxy (UInt8.toNat_inj.1 (by omega))
          clear hx hy ka kb hcA hcB
          obtain ⟨c, hc⟩ : ∃ c, x.toNat = c := ⟨_, rfl⟩
          obtain ⟨d, hd⟩ : ∃ c, y.toNat = c := ⟨_, rfl⟩
          rw [hc] at CA hne
          rw [hd] at CB hne
          clear hc hd hxy
          go_upto_region 6 with fail
          refine G.wp_region_stab (G := Ext) (fun _ => none) (by kernel_rfl) (by kernel_rfl) (fun _ _ h => by cases h) (fun hex => ?_)
          iterate 9
            (refine G.wpS_one (A := ?_) hex rfl rfl (by simp) ?_ ?_ ?_
             rotate_left 2
             · intro w' hC K hK
               have c0 := (hC.1.cell (p := ⟨bA, oA + k, none⟩) hbA).trans CA.out; have c1 := (hC.1.cell (p := ⟨bB, oB + k, none⟩) hbB).trans CB.out
               go_wp2_with (fail)
               refine hK _ ?_
               first | exact Below.refl _ _ | assumption | ((repeat' (first | (with_reducible exact Below.refl _ _) | (with_reducible assumption) | (with_reducible refine below_drewN ?_ _) | (with_reducible refine Below.alloc ?_ ?_ _) | (with_reducible refine Below.drew ?_) | (with_reducible refine Below.setCell ?_ ?_ _) | (with_reducible refine Below.trans ?_ (Below.mono (by with_reducible assumption) ?_)) | go_size)))
             rotate_left 1
             · rfl
             clear hex; intro hex)
          refine G.wpS_nil fun w9 hAll => ?_
          have hE := hAll.1
          have E9 := Lib.hid (bel_call hEr.out hE)
          clear hAll hex hE
          go_wp2_with fail
          go_ret
          exact ⟨rfl, E9.out⟩
      · obtain rfl : k = n := by omega
        have hrt : r = true := by
          rw [← HR.out]
          refine decide_eq_true ?_
          have := hT.out
          rwa [List.take_of_length_le (by rw [HN.out.1]; exact Nat.le_refl _), List.take_of_length_le (by rw [HN.out.2]; exact Nat.le_refl _)] at this
        subst hrt
        go_wp2_with fail
        go_ret
        exact ⟨rfl, hEr.out⟩
  · have hrf : r = false := by
      rw [← HR.out]
      exact decide_eq_false fun e => q (by rw [← HN.out.1, ← HN.out.2, e])
    subst hrf
    have t1 : ((n : Int) != (m : Int)) = true := by
      simp only [bne_iff_ne, ne_eq]
      omega
    go_enter Tryd.func19, Tryd.ntmps19
    go_wp2_with fail
    go_ret
    exact ⟨rfl, Below.refl _ _⟩
end Go.Proofs.YtniamfaiamgncaaDoor
