/- bolterlaw14.label, ahead; bolterref0.Copy. -/
import Derived.Test.YtniamfaiamgncaaDoorKwk
namespace Go.Proofs.YtniamfaiamgncaaDoor
open Go Go.RowKit
theorem run_take {tr : Nat → Nat → Nat} : ∀ (l : List Nat) (s k : Nat) (hk : k < l.length), runA tr s (l.take (k + 1)) = tr (runA tr s (l.take k)) l[k]
  | [], _, _, h => absurd h (by simp)
  | c :: l, s, 0, _ => by simp [runA]
  | c :: l, s, k + 1, h => by
    rw [List.take_succ_cons, List.take_succ_cons, runA, runA, run_take l _ k (by simpa using h)]; rfl
theorem run_lt {d : Dd} (hd : d.Ok) : ∀ (l : List Nat) (s : Nat), s < d.nx.length → (∀ c ∈ l, c < 256) → runA d.to s l < d.nx.length
  | [], _, h, _ => h
  | c :: l, _, h, hl => run_lt hd l _ (hd.to h (hl c (List.mem_cons_self ..))) fun x hx => hl x (List.mem_cons_of_mem _ hx)
set_option maxHeartbeats 2000000 in
set_option maxRecDepth 20000 in
theorem label14_any (d : Dd) (v t : Value) (l : List UInt8) (w : World) (hd : d.Ok) (h : Dns w v d) (ht : Bytes w t l) :
    Calls Tryd.prog 37 #[v, t] w fun e w' => e = .returned (.int .i64 (d.lab (runA d.to 0 (txw l)))) ∧ Ext w w' := by
  obtain ⟨a, b, rfl, h1, h2⟩ := h
  obtain ⟨p, cap, rfl, _⟩ := h1.shape
  obtain ⟨p2, cap2, rfl, _⟩ := h2.shape
  obtain ⟨p3, cap3, rfl, _, hml, _⟩ := ht.shp
  have HE := Lib.hid (ext_box w #[.slice p d.nx.length cap, .slice p2 d.lb.length cap2] 25)
  have HBX := Lib.hid (Blk.new w #[.slice p d.nx.length cap, .slice p2 d.lb.length cap2] 25)
  have H1 := Lib.hid (h1.ext HE.out)
  have H2 := Lib.hid (h2.ext HE.out)
  have HT := Lib.hid (ht.ext HE.out)
  have HO := Lib.hid hd
  obtain ⟨n, hn⟩ : ∃ n, d.nx.length = n := ⟨_, rfl⟩
  obtain ⟨n2, hn2⟩ : ∃ n, d.lb.length = n := ⟨_, rfl⟩
  obtain ⟨m, hm⟩ : ∃ m, l.length = m := ⟨_, rfl⟩
  obtain ⟨y, hy⟩ : ∃ y, d.lab (runA d.to 0 (txw l)) = y := ⟨_, rfl⟩
  have hnn : n2 = n := by rw [← hn, ← hn2]; exact hd.lbl
  subst hnn
  rw [hn, hn2] at HBX HE
  rw [hn] at H1 H2 HT
  rw [hn2] at H1 H2 HT
  rw [hm] at HT
  rw [hm] at hml
  rw [hn, hn2, hm, hy]
  have HN := Lib.hid hn
  have HN2 := Lib.hid hn2
  have HM := Lib.hid hm
  have HY := Lib.hid hy
  clear h1 h2 hd ht hn hn2 hm hy
  go_enter Tryd.func37, Tryd.ntmps37
  go_wp2_with fail
  generalize w.alloc (.cells #[.slice p n2 cap, .slice p2 n2 cap2] 25) = w1 at *
  go_loopw [5, 6] (fun s i wr => ∃ k q : Nat, k ≤ m ∧ i = .int .i64 k ∧ s = .int .i64 q ∧ Hid (runA d.to 0 ((txw l).take k) = q) ∧ Hid (Ext w1 wr)) (fun _ i _ => m - (intOf i).toNat)
  case atStart => exact ⟨0, 0, Nat.zero_le _, rfl, rfl, Lib.hid rfl, Lib.hid (Below.refl _ _)⟩
  case round =>
    obtain ⟨k, q, hk, rfl, rfl, hq, hEr⟩ := hrel
    have hqn : q < d.nx.length := by rw [← hq.out]; exact run_lt HO.out _ _ HO.out.pos fun c hc => txw_lt l c (List.mem_of_mem_take hc)
    by_cases hkl : k < m
    · have k1 : k < l.length := by rw [HM.out]; exact hkl
      obtain ⟨bT, oT, rfl, hbT, hcT⟩ := HT.out.cel k1
      have k2 : k < (txw l).length := by rw [txw_len]; exact k1
      obtain ⟨c, hc⟩ : ∃ c, l[k].toNat = c := ⟨_, rfl⟩
      have hc256 : c < 256 := by rw [← hc]; exact l[k].toNat_lt
      have HX := Lib.hid (show runA d.to 0 ((txw l).take (k + 1)) = d.to q c by rw [run_take _ _ _ k2, hq.out, txw_get k1, hc])
      rw [hc] at hcT
      clear hc
      obtain ⟨bR, oR, aR, cR, rfl, hbR, hcR, hIR, -⟩ := H1.out.cell hqn
      have hrl : d.nx[q].length = 256 := by have := HO.out.row q hqn; rwa [getD_get hqn] at this
      obtain ⟨bE, oE, rfl, hbE, hcE, -⟩ := hIR.cell (k := c) (by omega)
      have he : d.nx[q][c] = ((d.to q c : Nat) : Int) := dd_nx HO.out hqn hc256
      rw [he] at hcE
      rw [hrl] at hcR
      obtain ⟨x, hx⟩ : ∃ x, d.to q c = x := ⟨_, rfl⟩
      rw [hx] at hcE
      have HX2 := Lib.hid (HX.out.trans hx)
      rw [HN.out] at hqn
      have CT := Lib.hid hcT
      have CR := Lib.hid hcR
      have CE := Lib.hid hcE
      clear he hx HX hIR hrl k1 k2 hcT hcR hcE
      go_upto_region 5 with fail
      refine G.wp_region_stab (G := Ext) (fun _ => none) (by kernel_rfl) (by kernel_rfl) (fun _ _ h => by cases h) (fun hex => ?_)
      iterate 13
        (refine G.wpS_one (A := ?_) hex rfl rfl (by simp) ?_ ?_ ?_
         rotate_left 2
         · intro w' hC K hK
           have z0 := ((HBX.out.ext hEr.out).ext hC.1).cell 0; have c0 := ((hEr.out.trans hC.1).cell (p := ⟨bT, oT + k, none⟩) hbT).trans CT.out; have c1 := ((hEr.out.trans hC.1).cell (p := ⟨bR, oR + q, none⟩) hbR).trans CR.out; have c2 := ((hEr.out.trans hC.1).cell (p := ⟨bE, oE + c, none⟩) hbE).trans CE.out
           go_wp2_with (fail)
           refine hK _ ?_
           first | exact Below.refl _ _ | assumption | ((repeat' (first | (with_reducible exact Below.refl _ _) | (with_reducible assumption) | (with_reducible refine below_drewN ?_ _) | (with_reducible refine Below.alloc ?_ ?_ _) | (with_reducible refine Below.drew ?_) | (with_reducible refine Below.setCell ?_ ?_ _) | (with_reducible refine Below.trans ?_ (Below.mono (by with_reducible assumption) ?_)) | go_size)))
         rotate_left 1
         · rfl
         clear hex; intro hex)
      refine G.wpS_nil fun w9 hAll => ?_
      have hE := hAll.1
      have E9 := Lib.hid (bel_call hEr.out hE)
      clear hAll hex hE
      go_wp2_with fail
      go_roundw
      case rel => exact ⟨k + 1, x, by omega, by go_num, rfl, HX2, E9⟩
      case measure => simp [intOf]; omega
    · obtain rfl : k = m := by omega
      have hq2 := hq.out
      rw [List.take_of_length_le (by rw [txw_len, HM.out]; exact Nat.le_refl _)] at hq2
      have hql : q < d.lb.length := by rw [HN2.out, ← HN.out]; exact hqn
      obtain ⟨bL, oL, rfl, hbL, hcL, -⟩ := H2.out.cell hql
      have hye : d.lb[q] = y := by
        rw [← HY.out, hq2]; unfold Dd.lab; rw [getD_get hql]
      rw [hye] at hcL
      have c0 := (hEr.out.cell (p := ⟨bL, oL + q, none⟩) hbL).trans hcL
      have z1 := (HBX.out.ext hEr.out).cell 1
      rw [HN2.out] at hql
      clear hye hq2 hcL hqn
      go_wp2_with fail
      go_ret
      exact ⟨rfl, bel_call HE.out hEr.out⟩
theorem lexB_drop {A B : List Nat} {k : Nat} (ha : k < A.length) (hb : k < B.length) : lexB (A.drop k) (B.drop k) = if A[k] = B[k] then lexB (A.drop (k + 1)) (B.drop (k + 1)) else decide (A[k] < B[k]) := by
  rw [List.drop_eq_getElem_cons ha, List.drop_eq_getElem_cons hb]; rfl
set_option maxHeartbeats 2000000 in
set_option maxRecDepth 20000 in
theorem ahead_any (v u : Value) (a b : List UInt8) (w : World) (hv : Bytes w v a) (hu : Bytes w u b) (h : aheadB (txw a) (txw b) = true) :
    Calls Tryd.prog 38 #[v, u] w fun e w' => e = .returned (.bool true) ∧ Ext w w' := by
  obtain ⟨pa, ca, rfl, ha1, ha2, _⟩ := hv.shp
  obtain ⟨pb, cb, rfl, hb1, hb2, _⟩ := hu.shp
  have HA := Lib.hid hv
  have HB := Lib.hid hu
  unfold aheadB at h
  rw [txw_len, txw_len] at h
  obtain ⟨n, hn⟩ : ∃ n, a.length = n := ⟨_, rfl⟩
  obtain ⟨m, hm⟩ : ∃ n, b.length = n := ⟨_, rfl⟩
  rw [hn, hm] at h
  rw [hn] at HA ha1 ha2 ⊢
  rw [hm] at HB hb1 hb2 ⊢
  have HN := Lib.hid (And.intro hn hm)
  clear hv hu hn hm ha1 hb1
  by_cases q : n = m
  · subst q
    rw [if_pos rfl] at h
    have HL := Lib.hid h
    clear h
    have t1 : ((n : Int) != (n : Int)) = false := by simp
    go_enter Tryd.func38, Tryd.ntmps38
    go_wp2_with fail
    go_loopw [5] (fun s5 wr => ∃ k : Nat, k ≤ n ∧ s5 = .int .i64 k ∧ Hid (lexB ((txw a).drop k) ((txw b).drop k) = true) ∧ Hid (Ext w wr)) (fun s5 _ => n - (intOf s5).toNat)
    case atStart => exact ⟨0, Nat.zero_le _, rfl, Lib.hid HL.out, Lib.hid (Below.refl _ _)⟩
    case round =>
      obtain ⟨k, hk, rfl, hT, hEr⟩ := hrel
      by_cases hkn : k < n
      · have ka : k < a.length := by rw [HN.out.1]; exact hkn
        have kb : k < b.length := by rw [HN.out.2]; exact hkn
        have ht := hT.out
        rw [lexB_drop (by rw [txw_len]; exact ka) (by rw [txw_len]; exact kb), txw_get ka, txw_get kb] at ht
        obtain ⟨bA, oA, rfl, hbA, hcA⟩ := (HA.out.ext hEr.out).cel ka
        obtain ⟨bB, oB, rfl, hbB, hcB⟩ := (HB.out.ext hEr.out).cel kb
        obtain ⟨x, hx⟩ : ∃ x, a[k].toNat = x := ⟨_, rfl⟩
        obtain ⟨y, hy⟩ : ∃ y, b[k].toNat = y := ⟨_, rfl⟩
        rw [hx] at hcA
        rw [hy] at hcB
        rw [hx, hy] at ht
        have CA := Lib.hid hcA
        have CB := Lib.hid hcB
        clear hcA hcB hx hy ka kb
        by_cases hxy : x = y
        · rw [if_pos hxy] at ht
          have T9 := Lib.hid ht
          subst hxy
          clear ht
          go_upto_region 6 with fail
          refine G.wp_region_stab (G := Ext) (fun _ => none) (by kernel_rfl) (by kernel_rfl) (fun _ _ h => by cases h) (fun hex => ?_)
          iterate 9
            (refine G.wpS_one (A := ?_) hex rfl rfl (by simp) ?_ ?_ ?_
             rotate_left 2
             · intro w' hC K hK
               have c0 := (hC.1.cell (p := ⟨bA, oA + k, none⟩) hbA).trans CA.out; have c1 := (hC.1.cell (p := ⟨bB, oB + k, none⟩) hbB).trans CB.out
               go_wp2_with (fail)
               refine hK _ ?_
               first | exact Below.refl _ _ | assumption | ((repeat' (first | (with_reducible exact Below.refl _ _) | (with_reducible assumption) | (with_reducible refine below_drewN ?_ _) | (with_reducible refine Below.alloc ?_ ?_ _) | (with_reducible refine Below.drew ?_) | (with_reducible refine Below.setCell ?_ ?_ _) | (with_reducible refine Below.trans ?_ (Below.mono (by with_reducible assumption) ?_)) | go_size)))
             rotate_left 1
             · rfl
             clear hex; intro hex)
          refine G.wpS_nil fun w9 hAll => ?_
          have hE := hAll.1
          have E9 := Lib.hid (bel_call hEr.out hE)
          clear hAll hex hE
          go_wp2_with fail
          go_roundw
          case rel => exact ⟨k + 1, by omega, by go_num, T9, E9⟩
          case measure => simp [intOf]; omega
        · rw [if_neg hxy, decide_eq_true_eq] at ht
          have hne : ((x : Int) != (y : Int)) = true := by
            simp only [bne_iff_ne, ne_eq]
            omega
          have hlt : decide (x < y) = true := by simp; omega
          clear hxy ht
          go_upto_region 6 with fail
          refine G.wp_region_stab (G := Ext) (fun _ => none) (by kernel_rfl) (by kernel_rfl) (fun _ _ h => by cases h) (fun hex => ?_)
          iterate 9
            (refine G.wpS_one (A := ?_) hex rfl rfl (by simp) ?_ ?_ ?_
             rotate_left 2
             · intro w' hC K hK
               have c0 := (hC.1.cell (p := ⟨bA, oA + k, none⟩) hbA).trans CA.out; have c1 := (hC.1.cell (p := ⟨bB, oB + k, none⟩) hbB).trans CB.out
               go_wp2_with (fail)
               refine hK _ ?_
               first | exact Below.refl _ _ | assumption | ((repeat' (first | (with_reducible exact Below.refl _ _) | (with_reducible assumption) | (with_reducible refine below_drewN ?_ _) | (with_reducible refine Below.alloc ?_ ?_ _) | (with_reducible refine Below.drew ?_) | (with_reducible refine Below.setCell ?_ ?_ _) | (with_reducible refine Below.trans ?_ (Below.mono (by with_reducible assumption) ?_)) | go_size)))
             rotate_left 1
             · rfl
             clear hex; intro hex)
          refine G.wpS_nil fun w9 hAll => ?_
          have hE := hAll.1
          have E9 := Lib.hid (bel_call hEr.out hE)
          have hb8 := hE.size
          have CA := Lib.hid ((hE.cell (p := ⟨bA, oA + k, none⟩) hbA).trans CA.out)
          have CB := Lib.hid ((hE.cell (p := ⟨bB, oB + k, none⟩) hbB).trans CB.out)
          have hbA : bA < w9.heap.size := by omega
          have hbB : bB < w9.heap.size := by omega
          clear hAll hex hE hb8
          go_upto_region 7 with fail
          refine G.wp_region_stab (G := Ext) (fun _ => none) (by kernel_rfl) (by kernel_rfl) (fun _ _ h => by cases h) (fun hex => ?_)
          iterate 10
            (refine G.wpS_one (A := ?_) hex rfl rfl (by simp) ?_ ?_ ?_
             rotate_left 2
             · intro w' hC K hK
               have c0 := (hC.1.cell (p := ⟨bA, oA + k, none⟩) hbA).trans CA.out; have c1 := (hC.1.cell (p := ⟨bB, oB + k, none⟩) hbB).trans CB.out
               go_wp2_with (fail)
               refine hK _ ?_
               first | exact Below.refl _ _ | assumption | ((repeat' (first | (with_reducible exact Below.refl _ _) | (with_reducible assumption) | (with_reducible refine below_drewN ?_ _) | (with_reducible refine Below.alloc ?_ ?_ _) | (with_reducible refine Below.drew ?_) | (with_reducible refine Below.setCell ?_ ?_ _) | (with_reducible refine Below.trans ?_ (Below.mono (by with_reducible assumption) ?_)) | go_size)))
             rotate_left 1
             · rfl
             clear hex; intro hex)
          refine G.wpS_nil fun w8 hAll => ?_
          have hE := hAll.1
          have E8 := Lib.hid (bel_call E9.out hE)
          clear hAll hex hE
          go_wp2_with fail
          go_ret
          exact ⟨rfl, E8.out⟩
      · obtain rfl : k = n := by omega
        have ht := hT.out
        rw [List.drop_of_length_le (by rw [txw_len, HN.out.1]; exact Nat.le_refl _)] at ht
        exact absurd ht (by simp [lexB])
  · rw [if_neg q, decide_eq_true_eq] at h
    have t1 : ((n : Int) != (m : Int)) = true := by
      simp only [bne_iff_ne, ne_eq]
      omega
    have t2 : decide (n < m) = true := by simp; omega
    clear h q
    go_enter Tryd.func38, Tryd.ntmps38
    go_wp2_with fail
    go_ret
    exact ⟨rfl, Below.refl _ _⟩
theorem bv_ones (L : List Nat) : ∀ u ∈ L.map bv, u.oneCell' = true := by
  intro u hu
  obtain ⟨x, _, rfl⟩ := List.mem_map.1 hu
  rfl
theorem txw_bv (l : List UInt8) : (txw l).map bv = l.map ub := by
  unfold txw; rw [List.map_map]; rfl
set_option maxRecDepth 20000 in
theorem copyby_any (l : List UInt8) (v : Value) (w : World) (h : Bytes w v l) (h8 : l.length ≤ 1000) :
    Calls Tryd.prog 78 #[v] w fun e w' => ∃ v', e = .returned v' ∧ w'.ownsRow w.heap.size 5 1 v' l.length ((txw l).map bv) ∧ Ext w w' := by
  obtain ⟨i0, hi, hz0, hz1, hz2⟩ := info_parts info_by
  have hown : w.ownsRow w.heap.size 5 1 (.slice none 0 0) 0 [] := own_nil _ _ _ _
  obtain ⟨a, cap, rfl, _, _, hc⟩ := h
  rw [txw_bv]
  cases a with
  | none =>
    have : l = [] := by
      rcases hc with hc | ⟨b, o, e, _⟩
      · simpa using hc
      · cases e
    subst this
    go_enter Tryd.func78, Tryd.ntmps78
    go_wp2_with (at_builtin; refine wpList_append_noneq rfl _ _ 32 rfl w.heap.size 5 i0 1 Tryd.underlying32 hi _ 0 [] rfl hown cap rfl ?_)
    go_ret
    exact ⟨_, rfl, hown, Below.refl _ _⟩
  | some a =>
    have hcs : ∀ j u, (l.map ub)[j]? = some u → w.cell? (a.add j) = some u := by
      intro j u hu
      have hj := (List.getElem?_eq_some_iff.1 hu).1
      rcases hc with hc | ⟨b, o, e, _, hc⟩
      · rw [hc] at hj; simp at hj
      · cases e
        rw [show (⟨b, o, none⟩ : Addr).add j = ⟨b, o + j, none⟩ by unfold Addr.add; split <;> simp_all, hc j hj, hu]
    clear hc
    go_enter Tryd.func78, Tryd.ntmps78
    go_wp2_with (at_builtin; refine wpList_append_own _ rfl _ _ 32 rfl w.heap.size 5 i0 (.int .u8 0) 1 1 Tryd.underlying32 hi hz0 hz1 hz2 rfl (by decide) _ 0 [] rfl hown a l.length cap (l.map ub) rfl (by simp) hcs (by rw [← txw_bv]; exact bv_ones _) (by unfold maxLen; omega) (by omega) (Nat.le_refl _) ?_; intro v' w2 hown2 hgrow2 _)
    go_ret
    exact ⟨_, rfl, by simpa using hown2, (Below.refl _ _).grown hgrow2 (Nat.le_refl _) (fun j hj => by cases hj)⟩
end Go.Proofs.YtniamfaiamgncaaDoor
