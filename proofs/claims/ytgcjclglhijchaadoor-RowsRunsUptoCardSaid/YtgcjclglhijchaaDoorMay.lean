/- bolterref11.May of an automaton that may be. -/
import Derived.Test.YtgcjclglhijchaaDoorGn
import Derived.Test.YtgcjclglhijchaaDoorEqr
namespace Go.Proofs.YtgcjclglhijchaaDoor
open Go Go.RowKit
set_option maxHeartbeats 4000000 in
set_option maxRecDepth 20000 in
theorem may_ok (d : Dd) (v : Value) (w : World) (hd : d.Ok) (h : Dns w v d) :
    Calls Tryd.prog 27 #[v] w fun e w' => e = .returned (.bool true) ∧ Ext w w' := by
  obtain ⟨a, b, rfl, h1, h2⟩ := h
  obtain ⟨n, hn⟩ : ∃ n, d.nx.length = n := ⟨_, rfl⟩
  have hm : d.lb.length = n := by rw [hd.lbl, hn]
  have h0 := hd.pos
  have h6 := hd.le
  rw [hn] at h0 h6
  obtain ⟨p, cap, rfl, _⟩ := h1.shape
  obtain ⟨p2, cap2, rfl, _⟩ := h2.shape
  rw [hn] at h1 ⊢
  rw [hm] at h2 ⊢
  have HEB := Lib.hid (ext_box w #[.slice p n cap, .slice p2 n cap2] 62)
  have HBX := Lib.hid (Blk.new w #[.slice p n cap, .slice p2 n cap2] 62)
  have H1 := Lib.hid (h1.ext HEB.out)
  have H2 := Lib.hid (h2.ext HEB.out)
  have HD := Lib.hid hd
  have HN := Lib.hid hn
  have HM := Lib.hid hm
  clear h1 h2 hd hn hm
  have t1 : decide ((n : Int) < 1) = false := by simp; omega
  have t2 : decide ((600 : Int) < n) = false := by simp; omega
  go_enter Tryd.func27, Tryd.ntmps27
  generalize hw0 : w.alloc (.cells #[.slice p n cap, .slice p2 n cap2] 62) = w0 at H1 H2 HBX HEB
  have z0 := HBX.out.cell 0
  have z1 := HBX.out.cell 1
  go_wp2_with fail
  go_loopw [4] (fun i wr => ∃ k : Nat, k ≤ n ∧ i = .int .i64 k ∧ Hid (Ext w0 wr)) (fun i _ => n - (intOf i).toNat)
  case atStart => exact ⟨0, Nat.zero_le _, rfl, Lib.hid (Below.refl _ _)⟩
  case round =>
    obtain ⟨k, hk, rfl, hE⟩ := hrel
    by_cases hkl : k < n
    · have k1 : k < d.nx.length := by rw [HN.out]; exact hkl
      have k2 : k < d.lb.length := by rw [HM.out]; exact hkl
      have z0 := (HBX.out.ext hE.out).cell 0
      have z1 := (HBX.out.ext hE.out).cell 1
      obtain ⟨bR, oR, aR, cR, rfl, hbR, hcR, hIR, _⟩ := (H1.out.ext hE.out).cell k1
      obtain ⟨bL, oL, rfl, hbL, hcL, _⟩ := (H2.out.ext hE.out).cell k2
      have hrl : d.nx[k].length = 256 := by have := HD.out.row k k1; rwa [getD_get k1] at this
      rw [hrl] at hcR hIR
      have hlb := HD.out.lab k k1
      unfold Dd.lab at hlb
      rw [getD_get k2] at hlb
      obtain ⟨y, hy⟩ : ∃ y, d.lb[k] = y := ⟨_, rfl⟩
      rw [hy] at hcL hlb
      obtain ⟨g1, g2⟩ := hlb
      obtain ⟨bE, oE, rfl, _⟩ := hIR.cell (k := 0) (by omega)
      have HIR := Lib.hid hIR
      have HCR := Lib.hid hcR
      have t3 : decide (y < -1) = false := by simp; omega
      have t4 : decide ((200 : Int) ≤ y) = false := by simp; omega
      have EN := Lib.hid (show ∀ (c : Nat) (hc : c < d.nx[k].length), 0 ≤ d.nx[k][c] ∧ d.nx[k][c] < (n : Int) from fun c hc => by
        have := HD.out.ent k c k1 (by omega)
        unfold Dd.ent at this
        rw [getD_get k1, getD_get hc, HN.out] at this
        exact this)
      clear hIR hy g1 g2
      go_wp2_with fail
      obtain ⟨wo, rfl⟩ : ∃ wo : World, wo = wr := ⟨_, rfl⟩
      go_loopw [5] (fun i wr => ∃ c : Nat, c ≤ 256 ∧ i = .int .i64 c ∧ Hid (Ext wo wr)) (fun i _ => 256 - (intOf i).toNat)
      case atStart => exact ⟨0, Nat.zero_le _, rfl, Lib.hid (Below.refl _ _)⟩
      case round =>
        obtain ⟨c, hc, rfl, hE2⟩ := hrel
        by_cases hcl : c < 256
        · have z0 := (HBX.out.ext (bel_call hE.out hE2.out)).cell 0
          have hcR := (hE2.out.cell (p := ⟨bR, oR + k, none⟩) hbR).trans HCR.out
          obtain ⟨bE2, oE2, e2, hbE, hcE, _⟩ := (HIR.out.ext hE2.out).cell (k := c) (by omega)
          cases e2
          have hc5 : c < d.nx[k].length := by rw [hrl]; exact hcl
          obtain ⟨g1, g2⟩ := EN.out c hc5
          obtain ⟨x, hx⟩ : ∃ x, d.nx[k][c] = x := ⟨_, rfl⟩
          rw [hx] at hcE g1 g2
          clear hx
          have t5 : decide (x < 0) = false := by simp; omega
          have t6 : decide ((n : Int) ≤ x) = false := by simp; omega
          go_wp2_with fail
          go_roundw
          case rel => exact ⟨c + 1, by omega, by go_num, hE2⟩
          case measure => simp [intOf]; omega
        · go_wp2_with fail
          go_roundw
          case rel => exact ⟨k + 1, by omega, by go_num, Lib.hid (bel_call hE.out hE2.out)⟩
          case measure => simp [intOf]; omega
    · go_wp2_with fail
      go_ret
      exact ⟨rfl, bel_call HEB.out hE.out⟩
def Rok (d : Dd) (n j : Nat) : Prop := (d.nx.getD j []).length = 256 ∧ (-1 ≤ d.lab j ∧ d.lab j < 200) ∧ ∀ c, c < 256 → 0 ≤ d.ent j c ∧ d.ent j c < n
set_option maxHeartbeats 4000000 in
set_option maxRecDepth 20000 in
theorem may_no (d : Dd) (v : Value) (w : World) (hd : ¬ d.Ok) (h : Dns w v d) :
    Calls Tryd.prog 27 #[v] w fun e w' => e = .returned (.bool false) ∧ Ext w w' := by
  obtain ⟨a, b, rfl, h1, h2⟩ := h
  obtain ⟨n, hn⟩ : ∃ n, d.nx.length = n := ⟨_, rfl⟩
  obtain ⟨m, hm⟩ : ∃ m, d.lb.length = m := ⟨_, rfl⟩
  obtain ⟨p, cap, rfl, _⟩ := h1.shape
  obtain ⟨p2, cap2, rfl, _⟩ := h2.shape
  rw [hn] at h1 ⊢
  rw [hm] at h2 ⊢
  have HEB := Lib.hid (ext_box w #[.slice p n cap, .slice p2 m cap2] 62)
  have HBX := Lib.hid (Blk.new w #[.slice p n cap, .slice p2 m cap2] 62)
  have H1 := Lib.hid (h1.ext HEB.out)
  have H2 := Lib.hid (h2.ext HEB.out)
  have HD := Lib.hid hd
  have HN := Lib.hid hn
  have HM := Lib.hid hm
  clear h1 h2 hd hn hm
  by_cases q1 : n < 1
  · have t1 : decide ((n : Int) < 1) = true := by simp; omega
    have t0 : decide (n = 0) = true := by simp; omega
    go_enter Tryd.func27, Tryd.ntmps27
    generalize hw0 : w.alloc (.cells #[.slice p n cap, .slice p2 m cap2] 62) = w0 at H1 H2 HBX HEB
    have z0 := HBX.out.cell 0
    have z1 := HBX.out.cell 1
    go_wp2_with fail
    go_ret
    exact ⟨rfl, HEB.out⟩
  have t1 : decide ((n : Int) < 1) = false := by simp; omega
  by_cases q2 : 600 < n
  · have t2 : decide ((600 : Int) < n) = true := by simp; omega
    go_enter Tryd.func27, Tryd.ntmps27
    generalize hw0 : w.alloc (.cells #[.slice p n cap, .slice p2 m cap2] 62) = w0 at H1 H2 HBX HEB
    have z0 := HBX.out.cell 0
    have z1 := HBX.out.cell 1
    go_wp2_with fail
    go_ret
    exact ⟨rfl, HEB.out⟩
  have t2 : decide ((600 : Int) < n) = false := by simp; omega
  by_cases q3 : m ≠ n
  · have d1 : ((m : Int) == (n : Int)) = false := by simp; omega
    have d2 : ((m : Int) != (n : Int)) = true := by simp; omega
    have d3 : (m == n) = false := by simp; omega
    go_enter Tryd.func27, Tryd.ntmps27
    generalize hw0 : w.alloc (.cells #[.slice p n cap, .slice p2 m cap2] 62) = w0 at H1 H2 HBX HEB
    have z0 := HBX.out.cell 0
    have z1 := HBX.out.cell 1
    go_wp2_with fail
    go_ret
    exact ⟨rfl, HEB.out⟩
  have q3 : m = n := by omega
  subst q3
  go_enter Tryd.func27, Tryd.ntmps27
  generalize hw0 : w.alloc (.cells #[.slice p m cap, .slice p2 m cap2] 62) = w0 at H1 H2 HBX HEB
  have z0 := HBX.out.cell 0
  have z1 := HBX.out.cell 1
  go_wp2_with fail
  go_loopw [4] (fun i wr => ∃ k : Nat, k ≤ m ∧ i = .int .i64 k ∧ Hid (∀ j, j < k → Rok d m j) ∧ Hid (Ext w0 wr)) (fun i _ => m - (intOf i).toNat)
  case atStart => exact ⟨0, Nat.zero_le _, rfl, Lib.hid (fun j h => absurd h (by omega)), Lib.hid (Below.refl _ _)⟩
  case round =>
    obtain ⟨k, hk, rfl, hJ, hE⟩ := hrel
    by_cases hkl : k < m
    · have k1 : k < d.nx.length := by rw [HN.out]; exact hkl
      have k2 : k < d.lb.length := by rw [HM.out]; exact hkl
      have z0 := (HBX.out.ext hE.out).cell 0
      have z1 := (HBX.out.ext hE.out).cell 1
      obtain ⟨bR, oR, aR, cR, rfl, hbR, hcR, hIR, _⟩ := (H1.out.ext hE.out).cell k1
      obtain ⟨bL, oL, rfl, hbL, hcL, _⟩ := (H2.out.ext hE.out).cell k2
      have HRET := Lib.hid (show Ext w wr from bel_call HEB.out hE.out)
      by_cases q4 : d.nx[k].length = 256
      rotate_left
      · have d1 : ((d.nx[k].length : Int) == 256) = false := by simp; omega
        have d2 : ((d.nx[k].length : Int) != 256) = true := by simp; omega
        have d3 : (d.nx[k].length == 256) = false := by simp; omega
        generalize d.nx[k].length = lr at *
        clear q4 hIR
        go_wp2_with fail
        go_ret
        exact ⟨rfl, HRET.out⟩
      rw [q4] at hcR hIR
      obtain ⟨y, hy⟩ : ∃ y, d.lb[k] = y := ⟨_, rfl⟩
      rw [hy] at hcL
      by_cases q5 : y < -1
      · have t3 : decide (y < -1) = true := by simp; omega
        clear q4 hIR hy q5
        go_wp2_with fail
        go_ret
        exact ⟨rfl, HRET.out⟩
      have t3 : decide (y < -1) = false := by simp; omega
      by_cases q6 : 200 ≤ y
      · have t4 : decide ((200 : Int) ≤ y) = true := by simp; omega
        clear q4 hIR hy q5 q6
        go_wp2_with fail
        go_ret
        exact ⟨rfl, HRET.out⟩
      have t4 : decide ((200 : Int) ≤ y) = false := by simp; omega
      have HL := Lib.hid (show -1 ≤ d.lab k ∧ d.lab k < 200 by unfold Dd.lab; rw [getD_get k2, hy]; omega)
      obtain ⟨bE, oE, rfl, _⟩ := hIR.cell (k := 0) (by omega)
      have HIR := Lib.hid hIR
      have HCR := Lib.hid hcR
      have HQ4 := Lib.hid q4
      clear hIR hy q5 q6 HRET
      go_wp2_with fail
      obtain ⟨wo, rfl⟩ : ∃ wo : World, wo = wr := ⟨_, rfl⟩
      go_loopw [5] (fun i wr => ∃ c : Nat, c ≤ 256 ∧ i = .int .i64 c ∧ Hid (∀ e, e < c → 0 ≤ d.ent k e ∧ d.ent k e < m) ∧ Hid (Ext wo wr)) (fun i _ => 256 - (intOf i).toNat)
      case atStart => exact ⟨0, Nat.zero_le _, rfl, Lib.hid (fun e h => absurd h (by omega)), Lib.hid (Below.refl _ _)⟩
      case round =>
        obtain ⟨c, hc, rfl, hC, hE2⟩ := hrel
        by_cases hcl : c < 256
        · have z0 := (HBX.out.ext (bel_call hE.out hE2.out)).cell 0
          have hcR := (hE2.out.cell (p := ⟨bR, oR + k, none⟩) hbR).trans HCR.out
          have HRET := Lib.hid (show Ext w wr from bel_call HEB.out (bel_call hE.out hE2.out))
          have hc5 : c < d.nx[k].length := by rw [HQ4.out]; exact hcl
          obtain ⟨bE2, oE2, e2, hbE, hcE, _⟩ := (HIR.out.ext hE2.out).cell (k := c) hc5
          cases e2
          obtain ⟨x, hx⟩ : ∃ x, d.nx[k][c] = x := ⟨_, rfl⟩
          have HX := Lib.hid (show d.ent k c = x by unfold Dd.ent; rw [getD_get k1, getD_get hc5, hx])
          rw [hx] at hcE
          clear hx
          by_cases q7 : x < 0
          · have t5 : decide (x < 0) = true := by simp; omega
            clear q7
            go_wp2_with fail
            go_ret
            exact ⟨rfl, HRET.out⟩
          have t5 : decide (x < 0) = false := by simp; omega
          by_cases q8 : (m : Int) ≤ x
          · have t6 : decide ((m : Int) ≤ x) = true := by simp; omega
            clear q7 q8
            go_wp2_with fail
            go_ret
            exact ⟨rfl, HRET.out⟩
          have t6 : decide ((m : Int) ≤ x) = false := by simp; omega
          have hC2 := Lib.hid (show ∀ e, e < c + 1 → 0 ≤ d.ent k e ∧ d.ent k e < m from fun e he => by
            by_cases e1 : e = c
            · subst e1; rw [HX.out]; omega
            · exact hC.out e (by omega))
          clear q7 q8
          go_wp2_with fail
          go_roundw
          case rel => exact ⟨c + 1, by omega, by go_num, hC2, hE2⟩
          case measure => simp [intOf]; omega
        · obtain rfl : c = 256 := by omega
          have hJ2 := Lib.hid (show ∀ j, j < k + 1 → Rok d m j from fun j hj => by
            by_cases e1 : j = k
            · subst e1; exact ⟨by rw [getD_get k1]; exact HQ4.out, HL.out, hC.out⟩
            · exact hJ.out j (by omega))
          go_wp2_with fail
          go_roundw
          case rel => exact ⟨k + 1, by omega, by go_num, hJ2, Lib.hid (bel_call hE.out hE2.out)⟩
          case measure => simp [intOf]; omega
    · obtain rfl : k = m := by omega
      refine absurd ⟨?_, ?_, ?_, ?_, ?_, ?_⟩ HD.out
      · rw [HN.out]; omega
      · rw [HN.out]; omega
      · rw [HN.out, HM.out]
      · intro s hs; rw [HN.out] at hs; exact (hJ.out s hs).1
      · intro s c hs hc; rw [HN.out] at hs ⊢; exact (hJ.out s hs).2.2 c hc
      · intro s hs; rw [HN.out] at hs; exact (hJ.out s hs).2.1
theorem may_any (d : Dd) (v : Value) (w : World) (h : Dns w v d) :
    Calls Tryd.prog 27 #[v] w fun e w' => e = .returned (.bool (okB d)) ∧ Ext w w' := by
  by_cases hd : d.Ok
  · rw [okB_ok.2 hd]; exact may_ok d v w hd h
  · have e : okB d = false := by
      cases q : okB d with
      | false => rfl
      | true => exact absurd (okB_ok.1 q) hd
    rw [e]; exact may_no d v w hd h
end Go.Proofs.YtgcjclglhijchaaDoor
