/- bolterref0.EqRows, EqDense: equal rows, equal automata. -/
import Derived.Test.YtgcjclglhijchaaDoorGn
import Derived.BigQuiet
namespace Go.Proofs.YtgcjclglhijchaaDoor
open Go Go.RowKit
theorem eql_no {L M : List Int} {k : Nat} (h1 : k < L.length) (h2 : k < M.length) (h : L[k] ≠ M[k]) : decide (L = M) = false := by
  rw [decide_eq_false_iff_not]; rintro rfl; exact h rfl
theorem eql_yes {L M : List Int} (hl : L.length = M.length) (h : ∀ j (h1 : j < L.length) (h2 : j < M.length), L[j] = M[j]) : decide (L = M) = true := by
  rw [decide_eq_true_eq]; exact List.ext_getElem hl h
set_option maxHeartbeats 1000000 in
set_option maxRecDepth 20000 in
theorem eqi_any (L M : List Int) (v u : Value) (w : World) (h : Ints w v L) (h' : Ints w u M) :
    Calls Tryd.prog 34 #[v, u] w fun e w' => e = .returned (.bool (decide (L = M))) ∧ Ext w w' := by
  obtain ⟨a, cap, rfl, _, hl, _⟩ := h.shape
  obtain ⟨a2, cap2, rfl, _, hl2, _⟩ := h'.shape
  have H := Lib.hid h
  have H' := Lib.hid h'
  clear h h'
  by_cases hlm : L.length = M.length
  rotate_left
  · have e : decide (L = M) = false := by rw [decide_eq_false_iff_not]; rintro rfl; exact hlm rfl
    rw [e]
    have d1 : ((L.length : Int) == (M.length : Int)) = false := by simp; omega
    have d2 : ((L.length : Int) != (M.length : Int)) = true := by simp; omega
    have d3 : (L.length == M.length) = false := by simp; omega
    clear e hlm
    go_enter Tryd.func34, Tryd.ntmps34
    go_wp2_with fail
    go_ret
    exact ⟨rfl, Below.refl _ _⟩
  · obtain ⟨n, hn⟩ : ∃ n, L.length = n := ⟨_, rfl⟩
    rw [hn] at H hl hlm ⊢
    rw [← hlm] at H' hl2 ⊢
    have HN := Lib.hid hn
    have HM := Lib.hid hlm
    clear hn hlm
    go_enter Tryd.func34, Tryd.ntmps34
    go_wp2_with fail
    go_loopw [5] (fun i wr => ∃ k : Nat, k ≤ n ∧ i = .int .i64 k ∧ Hid (∀ j (h1 : j < L.length) (h2 : j < M.length), j < k → L[j] = M[j]) ∧ Hid (Ext w wr)) (fun i _ => n - (intOf i).toNat)
    case atStart => exact ⟨0, Nat.zero_le _, rfl, Lib.hid (fun j _ _ h => by omega), Lib.hid (Below.refl _ _)⟩
    case round =>
      obtain ⟨k, hk, rfl, hall, hE⟩ := hrel
      by_cases hkl : k < n
      · have k1 : k < L.length := by rw [HN.out]; exact hkl
        have k2 : k < M.length := by rw [← HM.out]; exact hkl
        obtain ⟨b, o, rfl, hb, hc, _⟩ := (H.out.ext hE.out).cell k1
        obtain ⟨b2, o2, rfl, hb2, hc2, _⟩ := (H'.out.ext hE.out).cell k2
        obtain ⟨x, hx⟩ : ∃ x, L[k] = x := ⟨_, rfl⟩
        obtain ⟨y, hy⟩ : ∃ y, M[k] = y := ⟨_, rfl⟩
        rw [hx] at hc
        rw [hy] at hc2
        by_cases hxy : x = y
        · have HX := Lib.hid (show L[k] = M[k] by rw [hx, hy, hxy])
          subst hxy
          clear hx hy
          go_wp2_with fail
          go_quiet (fail)
          have hE2 := Lib.hid (bel_call hE.out (drn_ext wr nq))
          generalize wr.drewN nq = w2 at *
          go_wp2_with fail
          go_roundw
          case rel => exact ⟨k + 1, by omega, by go_num, Lib.hid (fun j h1 h2 hjk => by
            by_cases e : j = k
            · subst e; exact HX.out
            · exact hall.out j h1 h2 (by omega)), hE2⟩
          case measure => simp [intOf]; omega
        · have HB := Lib.hid (eql_no k1 k2 (by rw [hx, hy]; exact hxy))
          have d1 : (x == y) = false := by simpa using hxy
          have d2 : (x != y) = true := by simpa using hxy
          clear hx hy hxy
          go_wp2_with fail
          go_quiet (fail)
          have hE2 := Lib.hid (bel_call hE.out (drn_ext wr nq))
          generalize wr.drewN nq = w2 at *
          go_wp2_with fail
          go_ret
          exact ⟨ret_bool HB.out.symm, hE2.out⟩
      · obtain rfl : k = n := by omega
        have HB := Lib.hid (eql_yes (L := L) (M := M) (by rw [HN.out, HM.out]) (fun j h1 h2 => hall.out j h1 h2 (by have := HN.out; omega)))
        go_wp2_with fail
        go_ret
        exact ⟨ret_bool HB.out.symm, hE.out⟩
end Go.Proofs.YtgcjclglhijchaaDoor
namespace Go.Proofs.YtgcjclglhijchaaDoor
open Go Go.RowKit
theorem erl_no {L M : List (List Int)} {k : Nat} (h1 : k < L.length) (h2 : k < M.length) (h : L[k] ≠ M[k]) : decide (L = M) = false := by
  rw [decide_eq_false_iff_not]; rintro rfl; exact h rfl
theorem erl_yes {L M : List (List Int)} (hl : L.length = M.length) (h : ∀ j (h1 : j < L.length) (h2 : j < M.length), L[j] = M[j]) : decide (L = M) = true := by
  rw [decide_eq_true_eq]; exact List.ext_getElem hl h
set_option maxHeartbeats 1000000 in
set_option maxRecDepth 20000 in
theorem eqr_any (L M : List (List Int)) (v u : Value) (w : World) (h : Rws w v L) (h' : Rws w u M) :
    Calls Tryd.prog 35 #[v, u] w fun e w' => e = .returned (.bool (decide (L = M))) ∧ Ext w w' := by
  obtain ⟨a, cap, rfl, _, hl, _⟩ := h.shape
  obtain ⟨a2, cap2, rfl, _, hl2, _⟩ := h'.shape
  have H := Lib.hid h
  have H' := Lib.hid h'
  clear h h'
  by_cases hlm : L.length = M.length
  rotate_left
  · have e : decide (L = M) = false := by rw [decide_eq_false_iff_not]; rintro rfl; exact hlm rfl
    rw [e]
    have d1 : ((L.length : Int) == (M.length : Int)) = false := by simp; omega
    have d2 : ((L.length : Int) != (M.length : Int)) = true := by simp; omega
    have d3 : (L.length == M.length) = false := by simp; omega
    clear e hlm
    go_enter Tryd.func35, Tryd.ntmps35
    go_wp2_with fail
    go_ret
    exact ⟨rfl, Below.refl _ _⟩
  · obtain ⟨n, hn⟩ : ∃ n, L.length = n := ⟨_, rfl⟩
    rw [hn] at H hl hlm ⊢
    rw [← hlm] at H' hl2 ⊢
    have HN := Lib.hid hn
    have HM := Lib.hid hlm
    clear hn hlm
    go_enter Tryd.func35, Tryd.ntmps35
    go_wp2_with fail
    go_loopw [5] (fun i wr => ∃ k : Nat, k ≤ n ∧ i = .int .i64 k ∧ Hid (∀ j (h1 : j < L.length) (h2 : j < M.length), j < k → L[j] = M[j]) ∧ Hid (Ext w wr)) (fun i _ => n - (intOf i).toNat)
    case atStart => exact ⟨0, Nat.zero_le _, rfl, Lib.hid (fun j _ _ h => by omega), Lib.hid (Below.refl _ _)⟩
    case round =>
      obtain ⟨k, hk, rfl, hall, hE⟩ := hrel
      by_cases hkl : k < n
      · have k1 : k < L.length := by rw [HN.out]; exact hkl
        have k2 : k < M.length := by rw [← HM.out]; exact hkl
        obtain ⟨b, o, a3, c3, rfl, hb, hc, hI, _⟩ := (H.out.ext hE.out).cell k1
        obtain ⟨b2, o2, a4, c4, rfl, hb2, hc2, hI2, _⟩ := (H'.out.ext hE.out).cell k2
        have HQ := Lib.hid (fun w' (hx : Ext wr w') => eqi_any L[k] M[k] _ _ w' (hI.ext hx) (hI2.ext hx))
        have HE0 := hE
        have HK1 := Lib.hid hc
        have HK2 := Lib.hid hc2
        have Hb := Lib.hid hb
        have Hb2 := Lib.hid hb2
        obtain ⟨q, hq⟩ : ∃ q, decide (L[k] = M[k]) = q := ⟨_, rfl⟩
        rw [hq] at HQ
        obtain ⟨l3, e3⟩ : ∃ l, L[k].length = l := ⟨_, rfl⟩
        obtain ⟨l4, e4⟩ : ∃ l, M[k].length = l := ⟨_, rfl⟩
        rw [e3] at HQ HK1
        rw [e4] at HQ HK2
        clear hc hc2 hb hb2 hI hI2 e3 e4
        cases q
        · have HB := Lib.hid (erl_no k1 k2 (by simpa using hq))
          clear hq
          go_upto_region 6 with fail
          refine wp_region_stab (fun _ => none) (by kernel_rfl) (by kernel_rfl) (fun _ _ h => by cases h) (fun hex => ?_)
          iterate 10
            (refine wpS_one (A := ?_) hex rfl rfl (by simp) ?_ ?_ ?_
             rotate_left 2
             · intro w' hC K hK
               obtain ⟨hcell, hfrz⟩ := bcell hC.1.ext
               have z1 := (hC.1.1.cell (p := ⟨b, o + k, none⟩) Hb.out).trans HK1.out; have z2 := (hC.1.1.cell (p := ⟨b2, o2 + k, none⟩) Hb2.out).trans HK2.out
               go_wp2_with (go_at_call 34; refine (HQ.out _ hC.1.1).mono ?_; rintro e w9 ⟨rfl, hx9⟩)
               refine hK _ ?_
               first | exact Gr.refl _ _ | exact Gr.of_ext (by assumption) hC.1.1.size
             rotate_left 1
             · rfl
             clear hex; intro hex)
          refine wpS_nil fun w2 hE => ?_
          replace hE := hE.1.ext
          obtain ⟨hcell_w2, hfrz_w2⟩ := bcell hE
          have hE2 := Lib.hid (bel_call HE0.out hE)
          clear hE hex hcell_w2 hfrz_w2
          go_wp2_with fail
          go_ret
          exact ⟨ret_bool HB.out.symm, hE2.out⟩
        · have HX := Lib.hid (show L[k] = M[k] by simpa using hq)
          clear hq
          go_upto_region 6 with fail
          refine wp_region_stab (fun _ => none) (by kernel_rfl) (by kernel_rfl) (fun _ _ h => by cases h) (fun hex => ?_)
          iterate 10
            (refine wpS_one (A := ?_) hex rfl rfl (by simp) ?_ ?_ ?_
             rotate_left 2
             · intro w' hC K hK
               obtain ⟨hcell, hfrz⟩ := bcell hC.1.ext
               have z1 := (hC.1.1.cell (p := ⟨b, o + k, none⟩) Hb.out).trans HK1.out; have z2 := (hC.1.1.cell (p := ⟨b2, o2 + k, none⟩) Hb2.out).trans HK2.out
               go_wp2_with (go_at_call 34; refine (HQ.out _ hC.1.1).mono ?_; rintro e w9 ⟨rfl, hx9⟩)
               refine hK _ ?_
               first | exact Gr.refl _ _ | exact Gr.of_ext (by assumption) hC.1.1.size
             rotate_left 1
             · rfl
             clear hex; intro hex)
          refine wpS_nil fun w2 hE => ?_
          replace hE := hE.1.ext
          obtain ⟨hcell_w2, hfrz_w2⟩ := bcell hE
          have hE2 := Lib.hid (bel_call HE0.out hE)
          clear hE hex hcell_w2 hfrz_w2
          go_wp2_with fail
          go_roundw
          case rel => exact ⟨k + 1, by omega, by go_num, Lib.hid (fun j h1 h2 hjk => by
            by_cases e : j = k
            · subst e; exact HX.out
            · exact hall.out j h1 h2 (by omega)), hE2⟩
          case measure => simp [intOf]; omega
      · obtain rfl : k = n := by omega
        have HB := Lib.hid (erl_yes (L := L) (M := M) (by rw [HN.out, HM.out]) (fun j h1 h2 => hall.out j h1 h2 (by have := HN.out; omega)))
        go_wp2_with fail
        go_ret
        exact ⟨ret_bool HB.out.symm, hE.out⟩
def eqdB (d e : Dd) : Bool := decide (d.nx = e.nx) && decide (d.lb = e.lb)
theorem eqdB_iff {d e : Dd} : eqdB d e = true ↔ d = e := by
  unfold eqdB
  rw [Bool.and_eq_true, decide_eq_true_eq, decide_eq_true_eq]
  constructor
  · rintro ⟨h1, h2⟩; cases d; cases e; simp only at h1 h2; rw [h1, h2]
  · rintro rfl; exact ⟨rfl, rfl⟩
theorem dns_box {w : World} {a b : Value} (t : TypeId) : Ext w (w.alloc (.cells #[a, b] t)) := by go_grown
set_option maxHeartbeats 1000000 in
set_option maxRecDepth 20000 in
theorem eqd_any (d e : Dd) (v u : Value) (w : World) (h : Dns w v d) (h' : Dns w u e) :
    Calls Tryd.prog 36 #[v, u] w fun x w' => x = .returned (.bool (eqdB d e)) ∧ Ext w w' := by
  obtain ⟨a, b, rfl, h1, h2⟩ := h
  obtain ⟨a', b', rfl, h1', h2'⟩ := h'
  obtain ⟨p, cap, rfl, _⟩ := h1.shape
  obtain ⟨p2, cap2, rfl, _⟩ := h2.shape
  obtain ⟨p3, cap3, rfl, _⟩ := h1'.shape
  obtain ⟨p4, cap4, rfl, _⟩ := h2'.shape
  generalize d.nx.length = l1 at *
  generalize d.lb.length = l2 at *
  generalize e.nx.length = l3 at *
  generalize e.lb.length = l4 at *
  have EB := Lib.hid (show Ext w ((w.alloc (.cells #[.slice p l1 cap, .slice p2 l2 cap2] 62)).alloc (.cells #[.slice p3 l3 cap3, .slice p4 l4 cap4] 62)) by go_grown)
  have HB1 := Lib.hid ((Blk.new w #[.slice p l1 cap, .slice p2 l2 cap2] 62).alloc (.cells #[.slice p3 l3 cap3, .slice p4 l4 cap4] 62))
  have HB2 := Lib.hid (Blk.new (w.alloc (.cells #[.slice p l1 cap, .slice p2 l2 cap2] 62)) #[.slice p3 l3 cap3, .slice p4 l4 cap4] 62)
  rw [show (w.alloc (.cells #[.slice p l1 cap, .slice p2 l2 cap2] 62)).heap.size = w.heap.size + 1 by simp] at HB2
  have H1 := Lib.hid (eqr_any d.nx e.nx _ _ _ (h1.ext EB.out) (h1'.ext EB.out))
  have H2 := Lib.hid (h2.ext EB.out)
  have H2' := Lib.hid (h2'.ext EB.out)
  have HE : Hid (eqdB d e = (decide (d.nx = e.nx) && decide (d.lb = e.lb))) := Lib.hid rfl
  generalize decide (d.nx = e.nx) = q at *
  clear h1 h2 h1' h2'
  cases q
  · go_enter Tryd.func36, Tryd.ntmps36
    go_wp2_with fail
    refine H1.out.mono ?_
    rintro x w1 ⟨rfl, E1⟩
    go_wp2_with fail
    go_ret
    exact ⟨ret_bool (by rw [HE.out]; rfl), bel_call EB.out E1⟩
  · go_enter Tryd.func36, Tryd.ntmps36
    go_wp2_with fail
    refine H1.out.mono ?_
    rintro x w1 ⟨rfl, E1⟩
    have z1 := (HB1.out.ext E1).cell 1
    have z2 := (HB2.out.ext E1).cell 1
    have H3 := Lib.hid (eqi_any d.lb e.lb _ _ w1 (H2.out.ext E1) (H2'.out.ext E1))
    have E1 := Lib.hid E1
    go_wp2_with fail
    refine H3.out.mono ?_
    rintro x w2 ⟨rfl, E2⟩
    go_wp2_with fail
    go_ret
    exact ⟨ret_bool (by rw [HE.out]; simp), bel_call EB.out (bel_call E1.out E2)⟩
end Go.Proofs.YtgcjclglhijchaaDoor
