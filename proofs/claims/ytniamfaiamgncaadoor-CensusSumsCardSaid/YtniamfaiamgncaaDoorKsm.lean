/- CensusSums: the words of all labels of n bytes are 256^n together; an automaton and its least one have as many. -/
import Derived.Test.YtniamfaiamgncaaDoorKsp
import Derived.Test.YtniamfaiamgncaaDoorMay
import Derived.Test.YtniamfaiamgncaaDoorLst2
namespace Go.Proofs.YtniamfaiamgncaaDoor
open Go Go.RowKit
theorem okB_nok {d : Dd} (h : ¬ d.Ok) : okB d = false := by
  cases q : okB d with
  | false => rfl
  | true => exact absurd (okB_ok.1 q) h
theorem pow_le7 {n : Nat} (h : n ≤ 7) : 256 ^ n ≤ 72057594037927936 := by
  have h1 : (256 : Nat) ^ n ≤ 256 ^ 7 := Nat.pow_le_pow_right (by decide) h
  have h2 : (256 : Nat) ^ 7 = 72057594037927936 := by decide +kernel
  omega
theorem pow_le6 {n : Nat} (h : n < 7) : 256 ^ n * 256 ≤ 72057594037927936 := by
  rw [← Nat.pow_succ]; exact pow_le7 h
theorem cnt_call (d : Dd) (v : Value) (x : Int) (l c : Nat) (w : World) (hd : d.Ok) (h : Dns w v d) (hx : -1 ≤ x) (hx2 : x ≤ 9223372036854775807) (hl : l ≤ 7) (hc : cnt d.to d.lab x l 0 = c) :
    Calls Tryd.prog 34 #[v, .int .i64 x, .int .i64 (l : Int)] w fun e w' => e = .returned (.tuple #[.int .u64 (c : Int), .bool true, .nilIface]) ∧ Ext w w' := by
  have H := count_ok d v x l w hd h hx hx2 (by omega)
  have hb : c < T64 := by
    have h1 := cnt_le (dl := d.to) (lab := d.lab) (x := x) l 0
    have h2 := pow_le7 hl
    rw [hc] at h1
    unfold T64
    omega
  rw [hc, sN_of hb, sB_of hb] at H
  exact H
set_option maxHeartbeats 8000000 in
set_option maxRecDepth 20000 in
theorem sums_any (d : Dd) (a b : Value) (w : World) (h1 : Rws w a d.nx) (h2 : Ints w b d.lb) :
    Calls Tryd.prog 8 #[.agg #[a, b]] w fun e w' => e = .returned (.bool true) ∧ Ext w w' := by
  obtain ⟨p, cap, rfl, _⟩ := h1.shape
  obtain ⟨p2, cap2, rfl, _⟩ := h2.shape
  obtain ⟨n, hn⟩ : ∃ n, d.nx.length = n := ⟨_, rfl⟩
  obtain ⟨n2, hn2⟩ : ∃ n, d.lb.length = n := ⟨_, rfl⟩
  rw [hn] at h1 ⊢
  rw [hn2] at h2 ⊢
  have HE := Lib.hid (ext_box w #[.slice p n cap, .slice p2 n2 cap2] 25)
  have HBX := Lib.hid (Blk.new w #[.slice p n cap, .slice p2 n2 cap2] 25)
  have HI := Lib.hid (h2.ext HE.out)
  have HD := Lib.hid ((show Dns w (.agg #[.slice p n cap, .slice p2 n2 cap2]) d from ⟨_, _, rfl, h1, h2⟩).ext HE.out)
  have HN := Lib.hid hn
  have HN2 := Lib.hid hn2
  clear h1 h2 hn hn2
  by_cases q1 : 40 < n
  · have t1 : decide ((40 : Int) < n) = true := by simp; omega
    clear q1
    go_enter Tryd.func8, Tryd.ntmps8
    generalize hw0 : w.alloc (.cells #[.slice p n cap, .slice p2 n2 cap2] 25) = w0 at HE HBX HD
    have z0 := HBX.out.cell 0
    go_wp2_with fail
    refine (wakes14_any _).mono ?_; rintro e w1 ⟨rfl, E1⟩
    have E1 := Lib.hid E1
    go_wp2_with fail
    go_ret
    exact ⟨rfl, bel_call HE.out E1.out⟩
  have t1 : decide ((40 : Int) < n) = false := by simp; omega
  have C1 := may_any d _ _ HD.out
  by_cases hd : d.Ok
  rotate_left
  · rw [okB_nok hd] at C1
    have C1 := Lib.hid C1
    clear hd
    go_enter Tryd.func8, Tryd.ntmps8
    generalize hw0 : w.alloc (.cells #[.slice p n cap, .slice p2 n2 cap2] 25) = w0 at HE HBX HD C1
    have z0 := HBX.out.cell 0
    have z1 := HBX.out.cell 1
    go_wp2_with fail
    refine C1.out.mono ?_; rintro e w1 ⟨rfl, E1⟩
    have E1 := Lib.hid E1
    go_wp2_with fail
    refine (wakes14_any _).mono ?_; rintro e w2 ⟨rfl, E2⟩
    have E2 := Lib.hid E2
    go_wp2_with fail
    go_ret
    exact ⟨rfl, bel_call HE.out (bel_call E1.out E2.out)⟩
  rw [okB_ok.2 hd] at C1
  have C1 := Lib.hid C1
  have HO := Lib.hid hd
  have hn40 : n2 ≤ 40 := by have := hd.lbl; rw [HN.out, HN2.out] at this; omega
  have HLB := Lib.hid (fun x (hx : x ∈ d.lb) => show -1 ≤ x ∧ x ≤ 9223372036854775807 from by
    obtain ⟨i, hi, rfl⟩ := List.getElem_of_mem hx
    have := hd.lab i (by rw [← hd.lbl]; exact hi)
    unfold Dd.lab at this
    rw [getD_get hi] at this
    omega)
  clear hd q1
  go_enter Tryd.func8, Tryd.ntmps8
  generalize hw0 : w.alloc (.cells #[.slice p n cap, .slice p2 n2 cap2] 25) = w0 at HE HBX HD C1 HI
  have z0 := HBX.out.cell 0
  have z1 := HBX.out.cell 1
  go_wp2_with fail
  refine C1.out.mono ?_; rintro e w1 ⟨rfl, E1⟩
  have HBX1 := Lib.hid (HBX.out.ext E1)
  have HD1 := Lib.hid (HD.out.ext E1)
  have HI1 := Lib.hid (HI.out.ext E1)
  have E1' := Lib.hid (bel_call HE.out E1)
  have z0 := HBX1.out.cell 0
  have z1 := HBX1.out.cell 1
  clear HE C1 HBX HD E1 HI
  go_wp2_with fail
  refine (least_ok d _ w1 HO.out HD1.out).mono ?_
  rintro e w2 ⟨m, vN, vL, vs, rfl, hcm, om, e2⟩
  have DM := Lib.hid (om.dns hcm.ok)
  obtain ⟨aN, kN, rfl⟩ := own_shp om.rn
  obtain ⟨aL, kL, rfl⟩ := own_shp om.rl
  have HCM := Lib.hid hcm
  generalize m.nx.length = mn at *
  generalize m.lb.length = ml at *
  have x2 := ext_box w2 #[.slice aN mn kN, .slice aL ml kL] 25
  have HB3 := Lib.hid (Blk.new w2 #[.slice aN mn kN, .slice aL ml kL] 25)
  have HBX3 := Lib.hid (HBX1.out.ext (bel_call e2 x2))
  have HD3 := Lib.hid (HD1.out.ext (bel_call e2 x2))
  have HI3 := Lib.hid (HI1.out.ext (bel_call e2 x2))
  have DM3 := Lib.hid (DM.out.ext x2)
  have E3 := Lib.hid (bel_call E1'.out (bel_call e2 x2))
  clear om hcm e2 x2 HBX1 HD1 HI1 DM E1' z0 z1
  go_wp2_with fail
  generalize hw3 : w2.alloc (.cells #[.slice aN mn kN, .slice aL ml kL] 25) = w3 at *
  clear hw3
  generalize w2.heap.size = s2 at *
  have hO0 := Lib.hid (show w3.ownsRow w3.heap.size 3 1 (.slice none 0 0) 0 (([] : List Int).map iv) from own_nil _ _ _ _)
  go_loopw [5, 6] (fun s5 s6 wr => ∃ (L : List Int) (i : Nat), i ≤ n2 ∧ L.length ≤ i ∧ s6 = .int .i64 (i : Int) ∧ Hid (wr.ownsRow w3.heap.size 3 1 s5 L.length (L.map iv)) ∧ Hid L.Nodup ∧ Hid (∀ x, x ∈ L ↔ x ∈ d.lb.take i) ∧ Hid (Ext w3 wr)) (fun _ s6 _ => n2 - (intOf s6).toNat)
  case atStart => exact ⟨[], 0, Nat.zero_le _, Nat.le_refl _, rfl, hO0, Lib.hid List.nodup_nil, Lib.hid (fun x => by simp), Lib.hid (Below.refl _ _)⟩
  case round =>
    clear hO0
    obtain ⟨L, i, hi, hLi, rfl, hO, hND, hM, hEr⟩ := hrel
    obtain ⟨a5, c5, rfl⟩ := own_shp hO.out
    obtain ⟨lL, hlL⟩ : ∃ k, L.length = k := ⟨_, rfl⟩
    rw [hlL] at hO hLi ⊢
    have HLL := Lib.hid hlL
    clear hlL
    by_cases hin : i < n2
    · have hil : i < d.lb.length := by rw [HN2.out]; exact hin
      obtain ⟨bE, oE, rfl, hbE, hcE, -⟩ := HI3.out.cell hil
      have y0 := (hEr.out.cell (p := ⟨bE, oE + i, none⟩) hbE).trans hcE
      obtain ⟨x, hx⟩ : ∃ x, d.lb[i] = x := ⟨_, rfl⟩
      rw [hx] at y0
      have HT := Lib.hid (show d.lb.take (i + 1) = d.lb.take i ++ [x] by rw [List.take_succ_eq_append_getElem hil, hx])
      have z1 := (HBX3.out.ext hEr.out).cell 1
      clear hil hcE hx
      go_wp2_with fail
      refine (with_any L x _ w3 wr hEr.out (by rw [HLL.out]; exact hO.out) (by rw [HLL.out]; omega)).mono ?_
      rintro e w4 ⟨v4, rfl, ho, e4⟩
      have O4 := Lib.hid ho
      have E4 := Lib.hid e4
      have hwl := withL_len L x
      rw [HLL.out] at hwl
      obtain ⟨a6, c6, rfl⟩ := own_shp ho
      generalize hl6 : (withL L x).length = l6 at *
      have HL6 := Lib.hid hl6
      clear hl6 ho e4 y0 z1
      go_wp2_with fail
      go_roundw
      case rel => exact ⟨withL L x, i + 1, by omega, by rw [HL6.out]; omega, by go_num, Lib.hid (by rw [HL6.out]; exact O4.out), Lib.hid (withL_nodup hND.out), Lib.hid (fun y => by rw [withL_mem, hM.out, HT.out, List.mem_append, List.mem_singleton]), E4⟩
      case measure => simp [intOf]; omega
    · obtain rfl : i = n2 := by omega
      have hall := hM.out
      rw [List.take_of_length_le (by rw [HN2.out]; exact Nat.le_refl _)] at hall
      have HAL := Lib.hid hall
      obtain ⟨wl, rfl⟩ : ∃ wl : World, wl = wr := ⟨_, rfl⟩
      have hS := Lib.hid (fun (k : Nat) => sumL_all (dl := d.to) (lab := d.lab) (N := d.nx.length) L hND.out (fun s hs => (hall _).2 (by
        have hsl : s < d.lb.length := by rw [HO.out.lbl]; exact hs
        show d.lab s ∈ d.lb
        unfold Dd.lab
        rw [getD_get hsl]
        exact List.getElem_mem hsl)) (fun s c hs hc => HO.out.to hs hc) k 0 HO.out.pos)
      clear hall hin
      have z1 := (HBX3.out.ext hEr.out).cell 1
      go_wp2_with fail
      clear z1
      go_loopw [7, 8] (fun s7 s8 wq => ∃ (k : Nat) (A : Int), k ≤ 8 ∧ s8 = .int .i64 (k : Int) ∧ s7 = .int .u64 A ∧ Hid (k < 8 → A = ((256 ^ k : Nat) : Int)) ∧ Hid (Ext wl wq)) (fun _ s8 _ => 8 - (intOf s8).toNat)
      case atStart => exact ⟨0, 1, by omega, rfl, rfl, Lib.hid (fun _ => rfl), Lib.hid (Below.refl _ _)⟩
      case round =>
        obtain ⟨k, A, hk8, rfl, rfl, hA, hEq⟩ := hrel
        by_cases hk : k < 8
        · have t8 : decide ((k : Int) < 8) = true := by simp; omega
          have hA0 := hA.out hk
          obtain ⟨P, hP⟩ : ∃ P, 256 ^ k = P := ⟨_, rfl⟩
          rw [hP] at hA0
          subst hA0
          have hP7 : P ≤ 72057594037927936 := by rw [← hP]; exact pow_le7 (by omega)
          have HSK := Lib.hid (show sumL d.to d.lab L k 0 = P by rw [hS.out k, hP])
          have HP6 := Lib.hid (fun (h : k < 7) => show P * 256 ≤ 72057594037927936 by rw [← hP]; exact pow_le6 h)
          have HP := Lib.hid hP
          clear hP hA
          go_wp2_with fail
          obtain ⟨wk, rfl⟩ : ∃ wk : World, wk = wr := ⟨_, rfl⟩
          go_loopw [9, 10] (fun s9 s10 wx => ∃ (j S : Nat), j ≤ lL ∧ s10 = .int .i64 (j : Int) ∧ s9 = .int .u64 (S : Int) ∧ Hid (S = sumL d.to d.lab (L.take j) k 0) ∧ Hid (Ext wk wx)) (fun _ s10 _ => lL - (intOf s10).toNat)
          case atStart => exact ⟨0, 0, Nat.zero_le _, rfl, rfl, Lib.hid rfl, Lib.hid (Below.refl _ _)⟩
          case round =>
            obtain ⟨j, S, hj, rfl, rfl, hSj, hEx⟩ := hrel
            by_cases hjl : j < lL
            · have EX := bel_call hEr.out (bel_call hEq.out hEx.out)
              have hjL : j < L.length := by rw [HLL.out]; exact hjl
              obtain ⟨x, hx⟩ : ∃ x, L[j] = x := ⟨_, rfl⟩
              have xm := (HAL.out x).1 (by rw [← hx]; exact List.getElem_mem hjL)
              obtain ⟨b1, b2⟩ := HLB.out x xm
              obtain ⟨c, hc⟩ : ∃ c, cnt d.to d.lab x k 0 = c := ⟨_, rfl⟩
              have hcm : cnt m.to m.lab x k 0 = c := by rw [← hc]; exact cnt_beh k 0 0 HCM.out.start
              have CE := Lib.hid (fun (w' : World) (hx : Ext wr w') => cnt_call d _ x k c w' HO.out ((HD3.out.ext EX).ext hx) b1 b2 (by omega) hc)
              have CM := Lib.hid (fun (w' : World) (hx : Ext wr w') => cnt_call m _ x k c w' HCM.out.ok ((DM3.out.ext EX).ext hx) b1 b2 (by omega) hcm)
              have HS9 := Lib.hid (show S + c = sumL d.to d.lab (L.take (j + 1)) k 0 by rw [List.take_succ_eq_append_getElem hjL, hx, sumL_snoc, ← hSj.out, hc])
              have hb : S + c ≤ 72057594037927936 := by
                have := sumL_take (dl := d.to) (lab := d.lab) L (j + 1) k 0
                rw [← HS9.out, HSK.out] at this
                omega
              have hOx := own_xx hO.out (bel_call hEq.out hEx.out)
              obtain ⟨g, cc, e, hcg, hgB, hgl, _⟩ := own_some hOx (by omega)
              cases e
              have CL := Lib.hid (show wr.cell? ⟨g, j, none⟩ = some (.int .i64 x) by
                rw [hOx.cellAt j (by omega), List.getElem?_map, List.getElem?_eq_getElem hjL, hx]; rfl)
              have HBr := Lib.hid (HBX3.out.ext EX)
              have HCr := Lib.hid (HB3.out.ext EX)
              clear hOx hgB hcg hcm hc xm b1 b2 hx EX hjL
              go_upto_region 19 with fail
              refine G.wp_region_stab (G := Ext) (fun _ => none) (by kernel_rfl) (by kernel_rfl) (fun _ _ h => by cases h) (fun hex => ?_)
              iterate 14
                (refine G.wpS_one (A := ?_) hex rfl rfl (by simp) ?_ ?_ ?_
                 rotate_left 2
                 · intro w' hC K hK
                   have hCx := hC.1; have z0 := (HBr.out.ext hCx).cell 0; have z1 := (HBr.out.ext hCx).cell 1; have c0 := (hCx.cell (p := ⟨g, j, none⟩) hgl).trans CL.out
                   go_wp2_with (go_at_call 34; with_reducible refine (CE.out w' hCx).mono ?_; rintro e w9 ⟨rfl, x9⟩)
                   refine hK _ ?_
                   first | exact Below.refl _ _ | assumption | ((repeat' (first | (with_reducible exact Below.refl _ _) | (with_reducible assumption) | (with_reducible refine below_drewN ?_ _) | (with_reducible refine Below.alloc ?_ ?_ _) | (with_reducible refine Below.drew ?_) | (with_reducible refine Below.setCell ?_ ?_ _) | (with_reducible refine Below.trans ?_ (Below.mono (by with_reducible assumption) ?_)) | go_size)))
                 rotate_left 1
                 · rfl
                 clear hex; intro hex)
              refine G.wpS_nil fun w9 hAll => ?_
              have hE := hAll.1
              have E9 := Lib.hid hE
              clear hAll hex hE
              go_upto_region 20 with fail
              refine G.wp_region_stab (G := Ext) (fun _ => none) (by kernel_rfl) (by kernel_rfl) (fun _ _ h => by cases h) (fun hex => ?_)
              iterate 14
                (refine G.wpS_one (A := ?_) hex rfl rfl (by simp) ?_ ?_ ?_
                 rotate_left 2
                 · intro w' hC K hK
                   have hCx := bel_call E9.out hC.1; have z0 := (HCr.out.ext hCx).cell 0; have z1 := (HCr.out.ext hCx).cell 1; have c0 := (hCx.cell (p := ⟨g, j, none⟩) hgl).trans CL.out
                   go_wp2_with (go_at_call 34; with_reducible refine (CM.out w' hCx).mono ?_; rintro e w11 ⟨rfl, x9⟩)
                   refine hK _ ?_
                   first | exact Below.refl _ _ | assumption | ((repeat' (first | (with_reducible exact Below.refl _ _) | (with_reducible assumption) | (with_reducible refine below_drewN ?_ _) | (with_reducible refine Below.alloc ?_ ?_ _) | (with_reducible refine Below.drew ?_) | (with_reducible refine Below.setCell ?_ ?_ _) | (with_reducible refine Below.trans ?_ (Below.mono (by with_reducible assumption) ?_)) | go_size)))
                 rotate_left 1
                 · rfl
                 clear hex; intro hex)
              refine G.wpS_nil fun w10 hAll => ?_
              have hE := hAll.1
              have E10 := Lib.hid (bel_call hEx.out (bel_call E9.out hE))
              clear hAll hex hE CE CM
              go_wp2_with fail
              go_roundw
              case rel => exact ⟨j + 1, S + c, by omega, by go_num, by go_num, HS9, E10⟩
              case measure => simp [intOf]; omega
            · obtain rfl : j = lL := by omega
              have hSP : S = P := by
                have := hSj.out
                rwa [List.take_of_length_le (by rw [HLL.out]; exact Nat.le_refl _), HSK.out] at this
              subst hSP
              have E10 := Lib.hid (bel_call hEq.out hEx.out)
              by_cases hk7 : k < 7
              · have hb := HP6.out hk7
                go_wp2_with fail
                go_roundw
                case rel => exact ⟨k + 1, (S : Int) * 256, by omega, by go_num, by go_num, Lib.hid (fun _ => by rw [Nat.pow_succ, HP.out]; simp), E10⟩
                case measure => simp [intOf]; omega
              · obtain rfl : k = 7 := by omega
                go_wp2_with fail
                go_roundw
                case rel => exact ⟨8, _, by omega, by go_num, rfl, Lib.hid (fun h => absurd h (by omega)), E10⟩
                case measure => simp [intOf]
        · have t8 : decide ((k : Int) < 8) = false := by simp; omega
          go_wp2_with fail
          refine (wakes14_any _).mono ?_; rintro e w5 ⟨rfl, E5⟩
          have E5 := Lib.hid (bel_call (bel_call E3.out hEr.out) (bel_call hEq.out E5))
          go_wp2_with fail
          go_ret
          exact ⟨rfl, E5.out⟩
end Go.Proofs.YtniamfaiamgncaaDoor
