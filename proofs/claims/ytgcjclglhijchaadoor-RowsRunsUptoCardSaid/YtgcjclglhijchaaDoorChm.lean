/- subset.Check: whether an automaton may be. -/
import Derived.Test.YtgcjclglhijchaaDoorDen
import Derived.StillTailTactics
import Derived.Handy
namespace Go.Proofs.YtgcjclglhijchaaDoor
open Go Go.RowKit
def rowsB (R : List (List Int)) (n : Nat) : Bool := R.all fun L => rowB L (n : Int)
def labsB (L : List Int) : Bool := L.all fun x => decide (-1 ≤ x ∧ x < 200)
def cntB (d : Dd) : Bool := decide (1 ≤ d.nx.length) && (decide (d.nx.length ≤ 600) && decide (d.lb.length = d.nx.length))
def okB (d : Dd) : Bool := cntB d && (rowsB d.nx d.nx.length && labsB d.lb)
theorem okB_ok {d : Dd} : okB d = true ↔ d.Ok := by
  unfold okB cntB rowsB labsB rowB
  simp only [Bool.and_eq_true, decide_eq_true_eq, List.all_eq_true, beq_iff_eq]
  constructor
  · rintro ⟨⟨h1, h2, h3⟩, h4, h5⟩
    have hrow : ∀ s, (hs : s < d.nx.length) → d.nx.getD s [] = d.nx[s] := fun s hs => by simp [List.getD_eq_getElem?_getD, List.getElem?_eq_getElem hs]
    refine ⟨h1, h2, h3, fun s hs => ?_, fun s c hs hc => ?_, fun s hs => ?_⟩
    · rw [hrow s hs]; exact (h4 _ (List.getElem_mem hs)).1
    · obtain ⟨a, b⟩ := h4 _ (List.getElem_mem hs)
      unfold Dd.ent
      rw [hrow s hs]
      have hc' : c < d.nx[s].length := by omega
      have := b _ (List.getElem_mem hc')
      simpa [List.getD_eq_getElem?_getD, List.getElem?_eq_getElem hc'] using this
    · have hs' : s < d.lb.length := by omega
      have := h5 _ (List.getElem_mem hs')
      simpa [Dd.lab, List.getD_eq_getElem?_getD, List.getElem?_eq_getElem hs'] using this
  · intro h
    refine ⟨⟨h.pos, h.le, h.lbl⟩, fun L hL => ?_, fun x hx => ?_⟩
    · obtain ⟨s, hs, rfl⟩ := List.getElem_of_mem hL
      have hrow : d.nx.getD s [] = d.nx[s] := by simp [List.getD_eq_getElem?_getD, List.getElem?_eq_getElem hs]
      have h1 := h.row s hs
      rw [hrow] at h1
      refine ⟨h1, fun x hx => ?_⟩
      obtain ⟨c, hc, rfl⟩ := List.getElem_of_mem hx
      have := h.ent s c hs (by omega)
      unfold Dd.ent at this
      rw [hrow] at this
      simpa [List.getD_eq_getElem?_getD, List.getElem?_eq_getElem hc] using this
    · obtain ⟨s, hs, rfl⟩ := List.getElem_of_mem hx
      have := h.lab s (by have := h.lbl; omega)
      simpa [Dd.lab, List.getD_eq_getElem?_getD, List.getElem?_eq_getElem hs] using this
theorem rowsB_no {R : List (List Int)} {n k : Nat} (hk : k < R.length) (h : rowB R[k] n = false) : rowsB R n = false := by
  unfold rowsB
  rw [List.all_eq_false]
  exact ⟨R[k], List.getElem_mem hk, by simp [h]⟩
theorem rowsB_yes {R : List (List Int)} {n : Nat} (h : ∀ j (hj : j < R.length), rowB R[j] n = true) : rowsB R n = true := by
  unfold rowsB
  rw [List.all_eq_true]
  exact fun x hx => by obtain ⟨j, hj, rfl⟩ := List.getElem_of_mem hx; exact h j hj
theorem labsB_no {L : List Int} {k : Nat} (hk : k < L.length) (h : ¬ (-1 ≤ L[k] ∧ L[k] < 200)) : labsB L = false := by
  unfold labsB
  rw [List.all_eq_false]
  exact ⟨L[k], List.getElem_mem hk, by simpa using h⟩
theorem labsB_yes {L : List Int} (h : ∀ j (hj : j < L.length), -1 ≤ L[j] ∧ L[j] < 200) : labsB L = true := by
  unfold labsB
  rw [List.all_eq_true]
  exact fun x hx => by obtain ⟨j, hj, rfl⟩ := List.getElem_of_mem hx; simpa using h j hj
theorem ext_box (w : World) (c : Array Value) (t : TypeId) : Ext w (w.alloc (.cells c t)) := by go_grown
set_option maxHeartbeats 1000000 in
set_option maxRecDepth 20000 in
theorem rowsmay_any (d : Dd) (v : Value) (w : World) (h : Dns w v d) :
    Calls Tryd.prog 63 #[v] w fun e w' => e = .returned (.bool (rowsB d.nx d.nx.length)) ∧ Ext w w' := by
  obtain ⟨a, b, rfl, h1, h2⟩ := h
  obtain ⟨p, cap, rfl, _, hl, _⟩ := h1.shape
  obtain ⟨p2, cap2, rfl, _⟩ := h2.shape
  have H := Lib.hid (h1.ext (ext_box w #[.slice p d.nx.length cap, .slice p2 d.lb.length cap2] 62))
  have HE := Lib.hid (ext_box w #[.slice p d.nx.length cap, .slice p2 d.lb.length cap2] 62)
  clear h1 h2
  go_enter Tryd.func63, Tryd.ntmps63
  go_wp2_with fail
  go_loop [8] (fun i => ∃ k : Nat, k ≤ d.nx.length ∧ i = .int .i64 k ∧ Hid (∀ j (hj : j < d.nx.length), j < k → rowB d.nx[j] d.nx.length = true)) (fun i => d.nx.length - (intOf i).toNat)
  case atStart => exact ⟨0, Nat.zero_le _, rfl, Lib.hid (fun j _ h => by omega)⟩
  case round =>
    obtain ⟨k, hk, rfl, hall⟩ := hrel
    by_cases hkl : k < d.nx.length
    · obtain ⟨b, o, a2, c2, rfl, hb, hc, hI, _⟩ := H.out.cell hkl
      have HC := Lib.hid (rowmay_any _ _ (d.nx.length : Int) _ hI)
      clear hI
      cases hq : rowB d.nx[k] d.nx.length
      · have HB := Lib.hid (rowsB_no hkl hq)
        rw [hq] at HC
        clear hq
        go_wp2_with (refine HC.out.mono ?_; rintro e w' ⟨rfl, rfl⟩)
        go_ret
        exact ⟨ret_bool HB.out.symm, HE.out⟩
      · have HQ := Lib.hid hq
        rw [hq] at HC
        clear hq
        go_wp2_with (refine HC.out.mono ?_; rintro e w' ⟨rfl, rfl⟩)
        go_round
        case rel => exact ⟨k + 1, by omega, by go_num, Lib.hid (fun j hj hjk => by
          by_cases e : j = k
          · subst e; exact HQ.out
          · exact hall.out j hj (by omega))⟩
        case measure => simp [intOf]; omega
    · have HB := Lib.hid (rowsB_yes (n := d.nx.length) (fun j hj => hall.out j hj (by omega)))
      go_wp2_with fail
      go_ret
      exact ⟨ret_bool HB.out.symm, HE.out⟩
set_option maxHeartbeats 1000000 in
set_option maxRecDepth 20000 in
theorem labsmay_any (d : Dd) (v : Value) (w : World) (h : Dns w v d) :
    Calls Tryd.prog 64 #[v] w fun e w' => e = .returned (.bool (labsB d.lb)) ∧ Ext w w' := by
  obtain ⟨a, b, rfl, h1, h2⟩ := h
  obtain ⟨p, cap, rfl, _⟩ := h1.shape
  obtain ⟨p2, cap2, rfl, _, hl, _⟩ := h2.shape
  have H := Lib.hid (h2.ext (ext_box w #[.slice p d.nx.length cap, .slice p2 d.lb.length cap2] 62))
  have HE := Lib.hid (ext_box w #[.slice p d.nx.length cap, .slice p2 d.lb.length cap2] 62)
  clear h1 h2
  go_enter Tryd.func64, Tryd.ntmps64
  go_wp2_with fail
  go_loop [8] (fun i => ∃ k : Nat, k ≤ d.lb.length ∧ i = .int .i64 k ∧ Hid (∀ j (hj : j < d.lb.length), j < k → -1 ≤ d.lb[j] ∧ d.lb[j] < 200)) (fun i => d.lb.length - (intOf i).toNat)
  case atStart => exact ⟨0, Nat.zero_le _, rfl, Lib.hid (fun j _ h => by omega)⟩
  case round =>
    obtain ⟨k, hk, rfl, hall⟩ := hrel
    by_cases hkl : k < d.lb.length
    · obtain ⟨b, o, rfl, hb, hc, r1, r2⟩ := H.out.cell hkl
      by_cases hg : -1 ≤ d.lb[k] ∧ d.lb[k] < 200
      · obtain ⟨g1, g2⟩ := hg
        obtain ⟨x, hx⟩ : ∃ x, d.lb[k] = x := ⟨_, rfl⟩
        rw [hx] at hc g1 g2
        have HX := Lib.hid hx
        have G1 := Lib.hid g1
        have G2 := Lib.hid g2
        clear hx r1 r2
        have t1 : decide (x < -1) = false := by simp; omega
        have t2 : decide (200 ≤ x) = false := by simp; omega
        go_wp2
        go_round
        case rel => exact ⟨k + 1, by omega, by go_num, Lib.hid (fun j hj hjk => by
          by_cases e : j = k
          · subst e; rw [HX.out]; exact ⟨G1.out, G2.out⟩
          · exact hall.out j hj (by omega))⟩
        case measure => simp [intOf]; omega
      · have HB := Lib.hid (labsB_no hkl hg)
        obtain ⟨x, hx⟩ : ∃ x, d.lb[k] = x := ⟨_, rfl⟩
        rw [hx] at hc hg r1 r2
        clear hx
        by_cases h0 : x < -1
        · have t1 : decide (x < -1) = true := by simpa using h0
          go_wp2
          go_ret
          exact ⟨ret_bool HB.out.symm, HE.out⟩
        · have t1 : decide (x < -1) = false := by simpa using h0
          have t2 : decide (200 ≤ x) = true := by simp; omega
          clear hg
          go_wp2
          go_ret
          exact ⟨ret_bool HB.out.symm, HE.out⟩
    · have HB := Lib.hid (labsB_yes (fun j hj => hall.out j hj (by omega)))
      go_wp2
      go_ret
      exact ⟨ret_bool HB.out.symm, HE.out⟩
set_option maxHeartbeats 1000000 in
set_option maxRecDepth 20000 in
theorem cntmay_any (d : Dd) (v : Value) (w : World) (h : Dns w v d) :
    Calls Tryd.prog 62 #[v] w fun e w' => e = .returned (.bool (cntB d)) ∧ Ext w w' := by
  obtain ⟨a, b, rfl, h1, h2⟩ := h
  obtain ⟨p, cap, rfl, _, hl1, _⟩ := h1.shape
  obtain ⟨p2, cap2, rfl, _, hl2, _⟩ := h2.shape
  have HE := Lib.hid (ext_box w #[.slice p d.nx.length cap, .slice p2 d.lb.length cap2] 62)
  clear h1 h2
  replace HE := HE.out
  obtain ⟨n, hn⟩ : ∃ n, d.nx.length = n := ⟨_, rfl⟩
  obtain ⟨m, hm⟩ : ∃ n, d.lb.length = n := ⟨_, rfl⟩
  unfold cntB
  simp only [hn, hm] at hl1 hl2 HE ⊢
  clear hn hm
  replace HE := Lib.hid HE
  by_cases h1 : 1 ≤ n
  rotate_left
  · have t1 : decide ((1 : Int) ≤ (n : Int)) = false := by simp; omega
    have HB := Lib.hid (show (decide (1 ≤ n) && (decide (n ≤ 600) && decide (m = n))) = false by simp [h1])
    clear h1
    go_enter Tryd.func62, Tryd.ntmps62
    go_wp2
    go_ret
    exact ⟨ret_bool HB.out.symm, HE.out⟩
  by_cases h2 : n ≤ 600
  rotate_left
  · have t1 : decide ((1 : Int) ≤ (n : Int)) = true := by simp; omega
    have t2 : decide ((n : Int) ≤ 600) = false := by simp; omega
    have HB := Lib.hid (show (decide (1 ≤ n) && (decide (n ≤ 600) && decide (m = n))) = false by simp [h2])
    clear h1 h2
    go_enter Tryd.func62, Tryd.ntmps62
    go_wp2
    go_ret
    exact ⟨ret_bool HB.out.symm, HE.out⟩
  by_cases h3 : m = n
  all_goals
    have t1 : decide ((1 : Int) ≤ (n : Int)) = true := by simp; omega
    have t2 : decide ((n : Int) ≤ 600) = true := by simp; omega
    obtain ⟨q, hq⟩ : ∃ q, decide (m = n) = q := ⟨_, rfl⟩
    have t3 : ((m : Int) == (n : Int)) = q := by rw [← hq, Bool.eq_iff_iff, beq_iff_eq, decide_eq_true_eq]; omega
    have HB := Lib.hid (show (decide (1 ≤ n) && (decide (n ≤ 600) && decide (m = n))) = q by rw [hq]; simp [h1, h2])
    clear h1 h2 h3 hq
    go_enter Tryd.func62, Tryd.ntmps62
    go_wp2
    go_ret
    exact ⟨ret_bool HB.out.symm, HE.out⟩
set_option maxHeartbeats 1000000 in
set_option maxRecDepth 20000 in
theorem checkd_any (d : Dd) (v : Value) (w : World) (h : Dns w v d) :
    Calls Tryd.prog 48 #[v] w fun e w' => e = .returned (.bool (okB d)) ∧ Ext w w' := by
  obtain ⟨a, b, rfl, h1, h2⟩ := h
  have HE := Lib.hid (ext_box w #[a, b] 62)
  have h0 : Dns w (.agg #[a, b]) d := ⟨a, b, rfl, h1, h2⟩
  have HD := Lib.hid (h0.ext HE.out)
  obtain ⟨p, cap, rfl, _⟩ := h1.shape
  obtain ⟨p2, cap2, rfl, _⟩ := h2.shape
  clear h0 h1 h2
  have C1 := Lib.hid (cntmay_any d _ _ HD.out)
  cases q1 : cntB d
  · have HB := Lib.hid (show okB d = false by unfold okB; rw [q1]; rfl)
    rw [q1] at C1
    clear q1
    go_enter Tryd.func48, Tryd.ntmps48
    go_wp2_with fail
    refine C1.out.mono ?_; rintro e w1 ⟨rfl, E1⟩
    go_wp2_with fail
    go_ret
    exact ⟨ret_bool HB.out.symm, bel_call HE.out E1⟩
  · rw [q1] at C1
    cases q2 : rowsB d.nx d.nx.length
    · have HB := Lib.hid (show okB d = false by unfold okB; rw [q1, q2]; rfl)
      have Q2 := Lib.hid q2
      clear q1 q2
      go_enter Tryd.func48, Tryd.ntmps48
      go_wp2_with fail
      refine C1.out.mono ?_; rintro e w1 ⟨rfl, E1⟩
      have C2 := rowsmay_any d _ _ (HD.out.ext E1)
      rw [Q2.out] at C2
      have C2 := Lib.hid C2
      have hA := E1.cell (p := ⟨w.heap.size, 0, none⟩) (by simp)
      have hB := E1.cell (p := ⟨w.heap.size, 1, none⟩) (by simp)
      simp at hA hB
      have E1 := Lib.hid E1
      go_wp2_with fail
      refine C2.out.mono ?_; rintro e w2 ⟨rfl, E2⟩
      go_wp2_with fail
      go_ret
      exact ⟨ret_bool HB.out.symm, bel_call HE.out (bel_call E1.out E2)⟩
    · have HB := Lib.hid (show okB d = labsB d.lb by unfold okB; rw [q1, q2]; rfl)
      have Q2 := Lib.hid q2
      clear q1 q2
      go_enter Tryd.func48, Tryd.ntmps48
      go_wp2_with fail
      refine C1.out.mono ?_; rintro e w1 ⟨rfl, E1⟩
      have C2 := rowsmay_any d _ _ (HD.out.ext E1)
      rw [Q2.out] at C2
      have C2 := Lib.hid C2
      have hA := E1.cell (p := ⟨w.heap.size, 0, none⟩) (by simp)
      have hB := E1.cell (p := ⟨w.heap.size, 1, none⟩) (by simp)
      simp at hA hB
      have E1 := Lib.hid E1
      go_wp2_with fail
      refine C2.out.mono ?_; rintro e w2 ⟨rfl, E2⟩
      have C3 := Lib.hid (labsmay_any d _ _ (HD.out.ext (bel_call E1.out E2)))
      have hA2 := (bel_call E1.out E2).cell (p := ⟨w.heap.size, 0, none⟩) (by simp)
      have hB2 := (bel_call E1.out E2).cell (p := ⟨w.heap.size, 1, none⟩) (by simp)
      simp at hA2 hB2
      have E2 := Lib.hid E2
      go_wp2_with fail
      refine C3.out.mono ?_; rintro e w3 ⟨rfl, E3⟩
      go_wp2_with fail
      go_ret
      exact ⟨ret_bool HB.out.symm, bel_call HE.out (bel_call (bel_call E1.out E2.out) E3)⟩
end Go.Proofs.YtgcjclglhijchaaDoor
