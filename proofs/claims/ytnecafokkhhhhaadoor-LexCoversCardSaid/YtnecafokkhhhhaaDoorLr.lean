/- How many bytes from a text's beginning on are of a kind: run. -/
import Derived.Test.YtnecafokkhhhhaaDoorLd
namespace Go.Proofs.YtnecafokkhhhhaaDoor
open Go Go.RowKit
theorem take_run (P : Nat → Bool) (v : Bool) (hv : ∀ c, 128 ≤ c → P c = v) (s : ByteArray) (p : Nat) (C : UInt8) (t : List UInt8) (h : rest s p = C :: t) :
    P (Utf8.decode s p).1 = P C.toNat ∧ (P C.toNat = true → run P (rest s p) = (Utf8.decode s p).2 + run P (rest s (p + (Utf8.decode s p).2))) := by
  by_cases hC : C.toNat < 128
  · rw [dec_low s p C t h hC]
    refine ⟨rfl, fun hp => ?_⟩
    rw [h, run_cons_true P C t hp, rest_drop, h]
    simp only [List.drop_succ_cons, List.drop_zero]
    omega
  · obtain ⟨h1, h2, h3, h4⟩ := dec_high s p C t h (by omega)
    refine ⟨(hv _ h1).trans (hv _ (by omega)).symm, fun hp => ?_⟩
    have hvt : v = true := by rw [← hv C.toNat (by omega)]; exact hp
    have e : rest s p = (rest s p).take (Utf8.decode s p).2 ++ rest s (p + (Utf8.decode s p).2) := by rw [rest_drop, List.take_append_drop]
    conv => lhs; rw [e]
    rw [run_all P _ _ (fun c hc => (hv _ (h4 c hc)).trans hvt), List.length_take, Nat.min_eq_left h3]
theorem iterPos_of {w : World} {k : Nat} {s : ByteArray} {p : Nat} (h : w.heap[k]? = some (.stringIter s p)) : w.iterPos k = p := by simp [World.iterPos, h]
theorem iter_ext {w w' : World} {k : Nat} {s : ByteArray} {p : Nat} (h : w.heap[k]? = some (.stringIter s p)) (hx : Ext w w') : w'.heap[k]? = some (.stringIter s p) := by
  rw [hx.block k ((Array.getElem?_eq_some_iff.1 h).1)]; exact h
theorem width_pos (s : ByteArray) (p : Nat) (h : p < s.size) : 1 ≤ (Utf8.decode s p).2 := by
  obtain ⟨C, hC⟩ := lx_unc s p h
  by_cases hc : C.toNat < 128
  · rw [dec_low s p C _ hC hc]; exact Nat.le_refl _
  · exact (dec_high s p C _ hC (by omega)).2.1
theorem nmc_high (c : Nat) (h : 128 ≤ c) : nmc c = false := by unfold nmc ltr dgt; simp; omega
theorem dgt_high (c : Nat) (h : 128 ≤ c) : dgt c = false := by unfold dgt; simp; omega
theorem rmk_high (c : Nat) (h : 128 ≤ c) : rmk c = true := by unfold rmk; simp; omega
set_option maxHeartbeats 1000000 in
set_option maxRecDepth 20000 in
theorem run_name (s : ByteArray) (n : Nat) (hn : run nmc (rest s 0) = n) (w : World) :
    Calls Tryd.prog 12 #[.string s, .func (Fn.func 21) #[] #[]] w fun e w' => e = .returned (.int .i64 (n : Int)) ∧ Ext w w' := by
  have hv : ∀ c, 128 ≤ c → nmc c = false := nmc_high
  have HF := Lib.hid inname_any
  have HN := Lib.hid hn
  have hit0 := World.iter_heap w s 0
  have hx0 : Ext w (w.iter s 0) := (Below.refl _ _).alloc (Nat.le_refl _) _
  have HI := Lib.hid (And.intro hit0 hx0)
  clear hn hit0 hx0
  go_enter Tryd.func12, Tryd.ntmps12
  go_wp2_with fail
  go_loopw [] (fun wr => ∃ p, p ≤ s.size ∧ Hid (wr.heap[w.heap.size]? = some (.stringIter s p)) ∧ Hid (Ext w wr) ∧ Hid (p + run nmc (rest s p) = n)) (fun wr => s.size - wr.iterPos w.heap.size)
  case atStart => exact ⟨0, Nat.zero_le _, Lib.hid HI.out.1, Lib.hid HI.out.2, Lib.hid (by rw [Nat.zero_add]; exact HN.out)⟩
  case round =>
    clear HI HN
    obtain ⟨p, hp, hit, hE, hR⟩ := hrel
    have hpos0 := Lib.hid (iterPos_of hit.out)
    by_cases hps : p < s.size
    · have hnx : ∀ ty, (Instr.next (.pointer (some ⟨w.heap.size, 0, none⟩)) true ty).run Tryd.prog wr = _ := fun ty => Lib.run_next_any_at wr w.heap.size s p ty hit.out hps
      obtain ⟨C, hC⟩ := lx_unc s p hps
      obtain ⟨ht1, ht2⟩ := take_run nmc false hv s p C _ hC
      have hwd := width_pos s p hps
      have hwl : p + (Utf8.decode s p).2 ≤ s.size := by
        by_cases hc : C.toNat < 128
        · rw [dec_low s p C _ hC hc]; exact hps
        · have := (dec_high s p C _ hC (by omega)).2.2.1
          have := rest_len hp
          omega
      have hit2 := Lib.hid (Lib.iterAt_heap wr w.heap.size s p (p + (Utf8.decode s p).2) hit.out)
      have hE2 := Lib.hid (Lib.below_iterAt hE.out (k := w.heap.size) (Nat.le_refl _) s (p + (Utf8.decode s p).2))
      generalize (Utf8.decode s p).2 = d at hnx hit2 hE2 hwd hwl ht2
      generalize (Utf8.decode s p).1 = rn at hnx ht1
      obtain ⟨W1, hW1⟩ : ∃ W1, W1 = wr.iterAt w.heap.size s (p + d) := ⟨_, rfl⟩
      rw [← hW1] at hnx hit2 hE2
      obtain ⟨b, hb⟩ : ∃ b, nmc rn = b := ⟨_, rfl⟩
      have HC := Lib.hid (HF.out rn b hb)
      have HT := Lib.hid (And.intro (ht1.symm.trans hb) ht2)
      have HC0 := Lib.hid hC
      clear hW1 hC ht1 ht2 hb
      go_wp2_with fail
      refine (HC.out _).mono ?_
      rintro e w3 ⟨rfl, hE3⟩
      have hit3 := iter_ext hit2.out hE3
      have E3 := Lib.hid (bel_call hE2.out hE3)
      have I3 := Lib.hid hit3
      have HP3 := Lib.hid (iterPos_of hit3)
      clear hE3 hit3 hit2 hE2 hit hE HC hnx
      cases b with
      | true =>
        have hr2 : p + d + run nmc (rest s (p + d)) = n := by
          have := HT.out.2 HT.out.1
          have := hR.out
          omega
        have HR2 := Lib.hid hr2
        clear hr2
        go_wp2_with fail
        go_roundw
        case rel => exact ⟨p + d, hwl, I3, E3, HR2⟩
        case measure => rw [HP3.out, hpos0.out]; omega
      | false =>
        have hpn : p = n := by
          have h1 := hR.out
          rw [HC0.out, run_cons_false nmc C _ HT.out.1] at h1
          exact h1
        go_wp2_with fail
        go_ret
        exact ⟨rfl, E3.out⟩
    · have hnx : ∀ ty, (Instr.next (.pointer (some ⟨w.heap.size, 0, none⟩)) true ty).run Tryd.prog wr = _ := fun ty => Lib.run_next_end_at wr w.heap.size s p ty hit.out hps
      have hpn : s.size = n := by
        have h1 := hR.out
        rw [lx_end s p (by omega)] at h1
        have : run nmc [] = 0 := rfl
        omega
      have HPN := Lib.hid hpn
      clear hpn
      go_wp2_with fail
      go_ret
      exact ⟨by rw [← HPN.out]; rfl, hE.out⟩
set_option maxHeartbeats 1000000 in
set_option maxRecDepth 20000 in
theorem run_digit (s : ByteArray) (n : Nat) (hn : run dgt (rest s 0) = n) (w : World) :
    Calls Tryd.prog 12 #[.string s, .func (Fn.func 16) #[] #[]] w fun e w' => e = .returned (.int .i64 (n : Int)) ∧ Ext w w' := by
  have hv : ∀ c, 128 ≤ c → dgt c = false := dgt_high
  have HF := Lib.hid digit_any
  have HN := Lib.hid hn
  have hit0 := World.iter_heap w s 0
  have hx0 : Ext w (w.iter s 0) := (Below.refl _ _).alloc (Nat.le_refl _) _
  have HI := Lib.hid (And.intro hit0 hx0)
  clear hn hit0 hx0
  go_enter Tryd.func12, Tryd.ntmps12
  go_wp2_with fail
  go_loopw [] (fun wr => ∃ p, p ≤ s.size ∧ Hid (wr.heap[w.heap.size]? = some (.stringIter s p)) ∧ Hid (Ext w wr) ∧ Hid (p + run dgt (rest s p) = n)) (fun wr => s.size - wr.iterPos w.heap.size)
  case atStart => exact ⟨0, Nat.zero_le _, Lib.hid HI.out.1, Lib.hid HI.out.2, Lib.hid (by rw [Nat.zero_add]; exact HN.out)⟩
  case round =>
    clear HI HN
    obtain ⟨p, hp, hit, hE, hR⟩ := hrel
    have hpos0 := Lib.hid (iterPos_of hit.out)
    by_cases hps : p < s.size
    · have hnx : ∀ ty, (Instr.next (.pointer (some ⟨w.heap.size, 0, none⟩)) true ty).run Tryd.prog wr = _ := fun ty => Lib.run_next_any_at wr w.heap.size s p ty hit.out hps
      obtain ⟨C, hC⟩ := lx_unc s p hps
      obtain ⟨ht1, ht2⟩ := take_run dgt false hv s p C _ hC
      have hwd := width_pos s p hps
      have hwl : p + (Utf8.decode s p).2 ≤ s.size := by
        by_cases hc : C.toNat < 128
        · rw [dec_low s p C _ hC hc]; exact hps
        · have := (dec_high s p C _ hC (by omega)).2.2.1
          have := rest_len hp
          omega
      have hit2 := Lib.hid (Lib.iterAt_heap wr w.heap.size s p (p + (Utf8.decode s p).2) hit.out)
      have hE2 := Lib.hid (Lib.below_iterAt hE.out (k := w.heap.size) (Nat.le_refl _) s (p + (Utf8.decode s p).2))
      generalize (Utf8.decode s p).2 = d at hnx hit2 hE2 hwd hwl ht2
      generalize (Utf8.decode s p).1 = rn at hnx ht1
      obtain ⟨W1, hW1⟩ : ∃ W1, W1 = wr.iterAt w.heap.size s (p + d) := ⟨_, rfl⟩
      rw [← hW1] at hnx hit2 hE2
      obtain ⟨b, hb⟩ : ∃ b, dgt rn = b := ⟨_, rfl⟩
      have HC := Lib.hid (HF.out rn b hb)
      have HT := Lib.hid (And.intro (ht1.symm.trans hb) ht2)
      have HC0 := Lib.hid hC
      clear hW1 hC ht1 ht2 hb
      go_wp2_with fail
      refine (HC.out _).mono ?_
      rintro e w3 ⟨rfl, hE3⟩
      have hit3 := iter_ext hit2.out hE3
      have E3 := Lib.hid (bel_call hE2.out hE3)
      have I3 := Lib.hid hit3
      have HP3 := Lib.hid (iterPos_of hit3)
      clear hE3 hit3 hit2 hE2 hit hE HC hnx
      cases b with
      | true =>
        have hr2 : p + d + run dgt (rest s (p + d)) = n := by
          have := HT.out.2 HT.out.1
          have := hR.out
          omega
        have HR2 := Lib.hid hr2
        clear hr2
        go_wp2_with fail
        go_roundw
        case rel => exact ⟨p + d, hwl, I3, E3, HR2⟩
        case measure => rw [HP3.out, hpos0.out]; omega
      | false =>
        have hpn : p = n := by
          have h1 := hR.out
          rw [HC0.out, run_cons_false dgt C _ HT.out.1] at h1
          exact h1
        go_wp2_with fail
        go_ret
        exact ⟨rfl, E3.out⟩
    · have hnx : ∀ ty, (Instr.next (.pointer (some ⟨w.heap.size, 0, none⟩)) true ty).run Tryd.prog wr = _ := fun ty => Lib.run_next_end_at wr w.heap.size s p ty hit.out hps
      have hpn : s.size = n := by
        have h1 := hR.out
        rw [lx_end s p (by omega)] at h1
        have : run dgt [] = 0 := rfl
        omega
      have HPN := Lib.hid hpn
      clear hpn
      go_wp2_with fail
      go_ret
      exact ⟨by rw [← HPN.out]; rfl, hE.out⟩
set_option maxHeartbeats 1000000 in
set_option maxRecDepth 20000 in
theorem run_remark (s : ByteArray) (n : Nat) (hn : run rmk (rest s 0) = n) (w : World) :
    Calls Tryd.prog 12 #[.string s, .func (Fn.func 13) #[] #[]] w fun e w' => e = .returned (.int .i64 (n : Int)) ∧ Ext w w' := by
  have hv : ∀ c, 128 ≤ c → rmk c = true := rmk_high
  have HF := Lib.hid remark_any
  have HN := Lib.hid hn
  have hit0 := World.iter_heap w s 0
  have hx0 : Ext w (w.iter s 0) := (Below.refl _ _).alloc (Nat.le_refl _) _
  have HI := Lib.hid (And.intro hit0 hx0)
  clear hn hit0 hx0
  go_enter Tryd.func12, Tryd.ntmps12
  go_wp2_with fail
  go_loopw [] (fun wr => ∃ p, p ≤ s.size ∧ Hid (wr.heap[w.heap.size]? = some (.stringIter s p)) ∧ Hid (Ext w wr) ∧ Hid (p + run rmk (rest s p) = n)) (fun wr => s.size - wr.iterPos w.heap.size)
  case atStart => exact ⟨0, Nat.zero_le _, Lib.hid HI.out.1, Lib.hid HI.out.2, Lib.hid (by rw [Nat.zero_add]; exact HN.out)⟩
  case round =>
    clear HI HN
    obtain ⟨p, hp, hit, hE, hR⟩ := hrel
    have hpos0 := Lib.hid (iterPos_of hit.out)
    by_cases hps : p < s.size
    · have hnx : ∀ ty, (Instr.next (.pointer (some ⟨w.heap.size, 0, none⟩)) true ty).run Tryd.prog wr = _ := fun ty => Lib.run_next_any_at wr w.heap.size s p ty hit.out hps
      obtain ⟨C, hC⟩ := lx_unc s p hps
      obtain ⟨ht1, ht2⟩ := take_run rmk true hv s p C _ hC
      have hwd := width_pos s p hps
      have hwl : p + (Utf8.decode s p).2 ≤ s.size := by
        by_cases hc : C.toNat < 128
        · rw [dec_low s p C _ hC hc]; exact hps
        · have := (dec_high s p C _ hC (by omega)).2.2.1
          have := rest_len hp
          omega
      have hit2 := Lib.hid (Lib.iterAt_heap wr w.heap.size s p (p + (Utf8.decode s p).2) hit.out)
      have hE2 := Lib.hid (Lib.below_iterAt hE.out (k := w.heap.size) (Nat.le_refl _) s (p + (Utf8.decode s p).2))
      generalize (Utf8.decode s p).2 = d at hnx hit2 hE2 hwd hwl ht2
      generalize (Utf8.decode s p).1 = rn at hnx ht1
      obtain ⟨W1, hW1⟩ : ∃ W1, W1 = wr.iterAt w.heap.size s (p + d) := ⟨_, rfl⟩
      rw [← hW1] at hnx hit2 hE2
      obtain ⟨b, hb⟩ : ∃ b, rmk rn = b := ⟨_, rfl⟩
      have HC := Lib.hid (HF.out rn b hb)
      have HT := Lib.hid (And.intro (ht1.symm.trans hb) ht2)
      have HC0 := Lib.hid hC
      clear hW1 hC ht1 ht2 hb
      go_wp2_with fail
      refine (HC.out _).mono ?_
      rintro e w3 ⟨rfl, hE3⟩
      have hit3 := iter_ext hit2.out hE3
      have E3 := Lib.hid (bel_call hE2.out hE3)
      have I3 := Lib.hid hit3
      have HP3 := Lib.hid (iterPos_of hit3)
      clear hE3 hit3 hit2 hE2 hit hE HC hnx
      cases b with
      | true =>
        have hr2 : p + d + run rmk (rest s (p + d)) = n := by
          have := HT.out.2 HT.out.1
          have := hR.out
          omega
        have HR2 := Lib.hid hr2
        clear hr2
        go_wp2_with fail
        go_roundw
        case rel => exact ⟨p + d, hwl, I3, E3, HR2⟩
        case measure => rw [HP3.out, hpos0.out]; omega
      | false =>
        have hpn : p = n := by
          have h1 := hR.out
          rw [HC0.out, run_cons_false rmk C _ HT.out.1] at h1
          exact h1
        go_wp2_with fail
        go_ret
        exact ⟨rfl, E3.out⟩
    · have hnx : ∀ ty, (Instr.next (.pointer (some ⟨w.heap.size, 0, none⟩)) true ty).run Tryd.prog wr = _ := fun ty => Lib.run_next_end_at wr w.heap.size s p ty hit.out hps
      have hpn : s.size = n := by
        have h1 := hR.out
        rw [lx_end s p (by omega)] at h1
        have : run rmk [] = 0 := rfl
        omega
      have HPN := Lib.hid hpn
      clear hpn
      go_wp2_with fail
      go_ret
      exact ⟨by rw [← HPN.out]; rfl, hE.out⟩
end Go.Proofs.YtnecafokkhhhhaaDoor
