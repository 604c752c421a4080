/- CensusSteps: the words of n bytes are, for each first byte, those of n - 1 bytes from the state that it leads to. -/
import Derived.Test.YtniamfaiamgncaaDoorKwk
import Derived.Test.YtniamfaiamgncaaDoorBgn14
import Derived.Test.YtniamfaiamgncaaDoorMay
namespace Go.Proofs.YtniamfaiamgncaaDoor
open Go Go.RowKit
theorem Dns.duo {w : World} {a b : Value} {d : Dd} (h1 : Rws w a d.nx) (h2 : Ints w b d.lb) : Dns w (.agg #[a, b]) d := ⟨a, b, rfl, h1, h2⟩
theorem okB_nt {d : Dd} (h : ¬ d.Ok) : okB d = false := by
  cases q : okB d with
  | false => rfl
  | true => exact absurd (okB_ok.1 q) h
theorem info_u64 : (Tryd.prog.info? 70).map (fun i => (i.zero, i.size, i.bytes)) = some (some (.int .u64 0), 1, 8) := by kernel_rfl
abbrev uv (x : Nat) : Value := .int .u64 (x : Int)
theorem uv_one (x : Nat) : ∀ u ∈ [uv x], u.oneCell' = true := by
  intro u hu
  rw [List.mem_singleton.1 hu]; rfl
theorem cnt_small {dl : Nat → Nat → Nat} {lab : Nat → Int} {x : Int} {n s : Nat} (hn : n ≤ 7) : cnt dl lab x n s < T64 := by
  have h1 := cnt_le (dl := dl) (lab := lab) (x := x) n s
  have h2 : 256 ^ n ≤ 256 ^ 7 := Nat.pow_le_pow_right (by decide) hn
  have h3 : (256 : Nat) ^ 7 < T64 := by decide
  omega
set_option maxHeartbeats 4000000 in
set_option maxRecDepth 20000 in
theorem steps_any (d : Dd) (a b : Value) (w : World) (h1 : Rws w a d.nx) (h2 : Ints w b d.lb) :
    Calls Tryd.prog 10 #[.agg #[a, b]] w fun e w' => e = .returned (.bool true) ∧ Ext w w' := by
  obtain ⟨p, cap, rfl, _⟩ := h1.shape
  obtain ⟨p2, cap2, rfl, _⟩ := h2.shape
  obtain ⟨n, hn⟩ : ∃ n, d.nx.length = n := ⟨_, rfl⟩
  rw [hn] at h1 ⊢
  generalize d.lb.length = n2 at *
  have HEB := Lib.hid (ext_box w #[.slice p n cap, .slice p2 n2 cap2] 25)
  have HBX := Lib.hid (Blk.new w #[.slice p n cap, .slice p2 n2 cap2] 25)
  have HD := Lib.hid ((Dns.duo h1 h2).ext HEB.out)
  have HN := Lib.hid hn
  clear h1 h2 hn
  by_cases q1 : 12 < n
  · have t1 : decide ((12 : Int) < n) = true := by simp; omega
    clear q1
    go_enter Tryd.func10, Tryd.ntmps10
    generalize hw0 : w.alloc (.cells #[.slice p n cap, .slice p2 n2 cap2] 25) = w0 at HEB HBX HD
    have z0 := HBX.out.cell 0
    go_wp2_with fail
    refine (wakes14_any _).mono ?_; rintro e w1 ⟨rfl, E1⟩
    have E1 := Lib.hid E1
    go_wp2_with fail
    go_ret
    exact ⟨rfl, bel_call HEB.out E1.out⟩
  have t1 : decide ((12 : Int) < n) = false := by simp; omega
  have C1 := may_any d _ _ HD.out
  by_cases hd : d.Ok
  rotate_left
  · rw [okB_nt hd] at C1
    have C1 := Lib.hid C1
    clear hd
    go_enter Tryd.func10, Tryd.ntmps10
    generalize hw0 : w.alloc (.cells #[.slice p n cap, .slice p2 n2 cap2] 25) = w0 at HEB HBX HD C1
    have z0 := HBX.out.cell 0
    have z1 := HBX.out.cell 1
    go_wp2_with fail
    refine C1.out.mono ?_; rintro e w1 ⟨rfl, E1⟩
    have E1 := Lib.hid E1
    go_wp2_with fail
    refine (wakes14_any _).mono ?_; rintro e w2 ⟨rfl, E2⟩
    have E2 := Lib.hid E2
    go_wp2_with fail
    go_ret
    exact ⟨rfl, bel_call HEB.out (bel_call E1.out E2.out)⟩
  rw [okB_ok.2 hd] at C1
  have C1 := Lib.hid C1
  have HO := Lib.hid hd
  have h12 : n ≤ 12 := by omega
  have hp : 0 < n := by have := hd.pos; have := HN.out; omega
  clear hd q1
  obtain ⟨i0, hi0, hz0, hz1, hz2⟩ := info_parts info_u64
  go_enter Tryd.func10, Tryd.ntmps10
  generalize hw0 : w.alloc (.cells #[.slice p n cap, .slice p2 n2 cap2] 25) = w0 at HEB HBX HD C1
  have z0 := HBX.out.cell 0
  have z1 := HBX.out.cell 1
  go_wp2_with fail
  refine C1.out.mono ?_; rintro e w1 ⟨rfl, E1⟩
  have HBX1 := Lib.hid (HBX.out.ext E1)
  have HD1 := Lib.hid (HD.out.ext E1)
  have E1' := Lib.hid (bel_call HEB.out E1)
  clear HEB C1 HBX HD E1 z0 z1
  go_wp2_with fail
  go_loopw [3] (fun s3 wr => ∃ m : Nat, m ≤ 6 ∧ s3 = .int .i64 ((m : Int) + 1) ∧ Hid (Ext w1 wr)) (fun s3 _ => 7 - (intOf s3).toNat)
  case atStart => exact ⟨0, by omega, rfl, Lib.hid (Below.refl _ _)⟩
  case round =>
    obtain ⟨m, hm6, rfl, hEr⟩ := hrel
    by_cases hll : m < 6
    · have t7 : decide ((m : Int) + 1 < 7) = true := decide_eq_true (by omega)
      have z0 := (HBX1.out.ext hEr.out).cell 0
      have z1 := (HBX1.out.ext hEr.out).cell 1
      go_wp2_with fail
      obtain ⟨wo, rfl⟩ : ∃ wo : World, wo = wr := ⟨_, rfl⟩
      clear z0 z1
      have hwo := hEr.out.size
      have hO0 := Lib.hid (show wo.ownsRow w1.heap.size 70 1 (.slice none 0 0) 0 ((List.range 0).map fun i => uv (cnt d.to d.lab 0 m i)) from own_nil _ _ _ _)
      go_loopw [4, 5] (fun s4 s5 wr => ∃ s : Nat, s ≤ n ∧ s5 = .int .i64 s ∧ Hid (wr.ownsRow w1.heap.size 70 1 s4 s ((List.range s).map fun i => uv (cnt d.to d.lab 0 m i))) ∧ Hid (Ext w1 wr)) (fun _ s5 _ => n - (intOf s5).toNat)
      case atStart => exact ⟨0, Nat.zero_le _, rfl, hO0, hEr⟩
      case round =>
        clear hO0
        obtain ⟨s, hs, rfl, hO, hE⟩ := hrel
        by_cases hsn : s < n
        · have z0 := (HBX1.out.ext hE.out).cell 0
          have z1 := (HBX1.out.ext hE.out).cell 1
          obtain ⟨ea, ec, rfl⟩ := own_shp hO.out
          go_wp2_with fail
          have hsd : s < d.nx.length := by rw [HN.out]; exact hsn
          refine (begun_ok d s _ wr HO.out hsd (HD1.out.ext hE.out)).mono ?_
          rintro e w3 ⟨vN, vL, vs, rfl, od, e3⟩
          have D3 := Lib.hid (od.dns (bgn_ok HO.out hsd))
          obtain ⟨aN, cN, rfl⟩ := own_shp od.rn
          obtain ⟨aL, cL, rfl⟩ := own_shp od.rl
          have O3 := Lib.hid (own_xx hO.out e3)
          have E3 := Lib.hid (bel_call hE.out e3)
          have HC := count_ok (bgn d s) _ 0 m w3 (bgn_ok HO.out hsd) D3.out (by omega) (by omega) (by omega)
          rw [cnt_beh (x := 0) m 0 s (bgn_beh HO.out hsd), sN_of (cnt_small (by omega)), sB_of (cnt_small (by omega))] at HC
          have HC := Lib.hid HC
          clear od e3 hO hE z0 z1
          generalize (bgn d s).nx.length = nb at *
          generalize (bgn d s).lb.length = nb2 at *
          go_wp2_with fail
          refine HC.out.mono ?_
          rintro e w4 ⟨rfl, e4⟩
          have O4 := Lib.hid (own_xx O3.out e4)
          have E4 := Lib.hid (bel_call E3.out e4)
          have hw4 := E4.out.size
          obtain ⟨y, hy⟩ : ∃ y, cnt d.to d.lab 0 m s = y := ⟨_, rfl⟩
          rw [hy]
          have HY := Lib.hid hy
          clear O3 E3 HC e4 hy
          go_wp2_with (at_builtin; refine wpList_append_own_at _ rfl (.tmp 51) (.tmp 53) 64 rfl w1.heap.size 70 i0 (.int .u64 0) 1 8 Tryd.underlying64 hi0 hz0 hz1 hz2 rfl (by decide) _ _ _ rfl (O4.out.alloc _) ⟨_, 0, none⟩ 1 1 [uv y] rfl rfl (cell_nwb _ [uv y] _ _ (by simp)) (uv_one _) (by unfold maxLen; omega) (by omega) (by simp; omega) ?_; intro v6 w6 hown6 hgrow6 hnil6 hloc6)
          have hx6 := ext_box w4 #[uv y] 70
          have O6 := Lib.hid (show w6.ownsRow w1.heap.size 70 1 v6 (s + 1) ((List.range (s + 1)).map fun i => uv (cnt d.to d.lab 0 m i)) from by
            rw [List.range_succ, List.map_append]
            show w6.ownsRow w1.heap.size 70 1 v6 (s + 1) (_ ++ [uv (cnt d.to d.lab 0 m s)])
            rw [HY.out]; exact hown6)
          have E6 := Lib.hid (ext_gr (bel_call E4.out hx6) hgrow6 (O4.out.alloc _) (Nat.le_refl _))
          clear hown6 hgrow6 hnil6 hloc6 hx6 O4 E4
          go_wp2_with fail
          go_roundw
          case rel => exact ⟨s + 1, by omega, by go_num, O6, E6⟩
          case measure => simp [intOf]; omega
        · obtain rfl : n = s := by omega
          have z0 := (HBX1.out.ext hE.out).cell 0
          have z1 := (HBX1.out.ext hE.out).cell 1
          obtain ⟨a1, b1, e1, hR, _⟩ := HD1.out
          cases e1
          have hpd : 0 < d.nx.length := by rw [HN.out]; exact hp
          obtain ⟨b0, o0, aR, cR, rfl, hb0, hc0, hI0, _⟩ := hR.cell hpd
          have hr1 : d.nx[0].length = 256 := by have := HO.out.row 0 hpd; rwa [getD_get hpd] at this
          have hto : ∀ (i : Nat) (h : i < d.nx[0].length), d.nx[0][i] = ((d.to 0 i : Nat) : Int) := fun i hi => dd_nx HO.out hpd (by omega)
          rw [hr1] at hc0 hI0
          obtain ⟨L, hr2, hto2, hI2⟩ : ∃ L : List Int, L.length = 256 ∧ (∀ (i : Nat) (h : i < L.length), L[i] = ((d.to 0 i : Nat) : Int)) ∧ Ints w1 (.slice aR 256 cR) L := ⟨d.nx[0], hr1, hto, hI0⟩
          have htl : ∀ c, c < 256 → d.to 0 c < n := fun c hc => by have := HO.out.to hpd hc; rw [HN.out] at this; exact this
          have y0 := (hE.out.cell (p := ⟨b0, o0 + 0, none⟩) hb0).trans hc0
          have HY0 := Lib.hid y0
          have HIN := Lib.hid (hI2.ext hE.out)
          have HTO := Lib.hid hto2
          have HTL := Lib.hid htl
          have HLL := Lib.hid hr2
          obtain ⟨gE, cE, rfl, hcE, hgE, hgl, hcm⟩ := own_some hO.out hp
          have hbd : ∀ k, k ≤ 256 → sumB (fun c => cnt d.to d.lab 0 m (d.to 0 c)) k ≤ 256 * 256 ^ 6 := fun k hk => by
            refine Nat.le_trans (sumB_mono hk) (Nat.le_trans (sumB_le (g := fun _ => 256 ^ 6) fun c _ => Nat.le_trans (cnt_le m _) (Nat.pow_le_pow_right (by decide) (by omega))) ?_)
            rw [sumB_const]; exact Nat.le_refl _
          have HBD := Lib.hid hbd
          clear hR hc0 hI0 hr1 hto hr2 hto2 hI2 htl y0 hbd hcE hgE hgl hcm
          have hS0 := Lib.hid (show (0 : Nat) = sumB (fun c => cnt d.to d.lab 0 m (d.to 0 c)) 0 from rfl)
          have y0 : wr.cell? ⟨b0, o0, none⟩ = some (.slice aR 256 cR) := HY0.out
          go_wp2_with fail
          obtain ⟨wq, hwq⟩ : ∃ wq : World, wq = wr := ⟨_, rfl⟩
          go_loopw [9, 10] (fun s9 s10 wx => ∃ c S : Nat, c ≤ 256 ∧ s10 = .int .i64 c ∧ s9 = .int .u64 S ∧ Hid (S = sumB (fun c => cnt d.to d.lab 0 m (d.to 0 c)) c) ∧ wx = wq) (fun _ s10 _ => 256 - (intOf s10).toNat)
          case atStart => exact ⟨0, 0, Nat.zero_le _, rfl, rfl, hS0, hwq.symm⟩
          case round =>
            clear hS0
            obtain ⟨c, S, hc, rfl, rfl, hS, rfl⟩ := hrel
            subst hwq
            by_cases hc6 : c < 256
            · have hcl : c < L.length := by rw [HLL.out]; exact hc6
              obtain ⟨bE, oE, rfl, hbE, hcE, -⟩ := HIN.out.cell hcl
              rw [HTO.out c hcl] at hcE
              have ht := HTL.out c hc6
              obtain ⟨t, htq⟩ : ∃ t, d.to 0 c = t := ⟨_, rfl⟩
              rw [htq] at hcE ht
              obtain ⟨y, hy⟩ : ∃ y, cnt d.to d.lab 0 m t = y := ⟨_, rfl⟩
              have x0 : wr.cell? ⟨gE, t, none⟩ = some (.int .u64 (y : Int)) := by
                rw [hO.out.cellAt t (by omega), List.getElem?_map, List.getElem?_range ht, ← hy]; rfl
              have hS9 : S + y = sumB (fun c => cnt d.to d.lab 0 m (d.to 0 c)) (c + 1) := by rw [sumB, ← hS.out, htq, hy]
              have hb9 : S + y < 18446744073709551616 := by
                have h1 := HBD.out (c + 1) (by omega)
                have h2 : (256 : Nat) * 256 ^ 6 = 72057594037927936 := by decide
                omega
              have HS9 := Lib.hid hS9
              clear hcl htq hy hS9 hS
              go_wp2_with fail
              go_roundw
              case rel => exact ⟨c + 1, S + y, by omega, by go_num, by go_num, HS9, by first | trivial | rfl⟩
              case measure => simp [intOf]; omega
            · obtain rfl : c = 256 := by omega
              have hcn : cnt d.to d.lab 0 (m + 1) 0 = S := by rw [cnt]; exact hS.out.symm
              have HC := count_ok d _ 0 (m + 1) wr HO.out (HD1.out.ext hE.out) (by omega) (by omega) (by omega)
              rw [hcn, sN_of (by rw [← hcn]; exact cnt_small (by omega)), sB_of (by rw [← hcn]; exact cnt_small (by omega))] at HC
              have HC := Lib.hid HC
              clear hcn
              go_wp2_with fail
              refine HC.out.mono ?_
              rintro e w4 ⟨rfl, e4⟩
              have E4 := Lib.hid (bel_call hE.out e4)
              clear HC e4 z0 z1 y0 hS
              go_wp2_with fail
              go_roundw
              case rel => exact ⟨m + 1, by omega, by go_num, E4⟩
              case measure => simp [intOf]; omega
    · obtain rfl : m = 6 := by omega
      go_wp2_with fail
      refine (wakes14_any _).mono ?_; rintro e w2 ⟨rfl, E2⟩
      have E2 := Lib.hid (bel_call (bel_call E1'.out hEr.out) E2)
      go_wp2_with fail
      go_ret
      exact ⟨rfl, E2.out⟩
end Go.Proofs.YtniamfaiamgncaaDoor
