/- bolterref12.alike: do two states lead to the same classes? -/
import Derived.Test.YtnnkomdkggepjaaDoorSpp
import Derived.Test.YtnnkomdkggepjaaDoorDdq
namespace Go.Proofs.YtnnkomdkggepjaaDoor
open Go Go.RowKit
def nj (L : List Nat) : List Int := L.map fun (x : Nat) => (x : Int)
theorem nj_len (L : List Nat) : (nj L).length = L.length := by simp [nj]
theorem nj_get {L : List Nat} {i : Nat} (h : i < (nj L).length) : (nj L)[i] = ((L.getD i 0 : Nat) : Int) := by
  rw [nj_len] at h
  simp [nj, List.getD_eq_getElem?_getD, List.getElem?_eq_getElem h]
theorem nj_set (L : List Nat) (i x : Nat) : (nj L).set i (x : Int) = nj (L.set i x) := by unfold nj; rw [List.map_set]
theorem nj_app (L : List Nat) (x : Nat) : nj L ++ [(x : Int)] = nj (L ++ [x]) := by simp [nj]
theorem drewx (w : World) : Ext w w.drew := ⟨rfl, rfl, rfl, Nat.le_refl _, fun _ _ => rfl⟩
set_option maxHeartbeats 2000000 in
set_option maxRecDepth 20000 in
theorem alike_ok (d : Dd) (C : List Nat) (v u : Value) (i k : Nat) (w : World) (hd : d.Ok) (h : Dns w v d) (hC : Ints w u (nj C)) (hl : C.length = d.nx.length) (hi : i < d.nx.length) (hk : k < d.nx.length) :
    Calls Tryd.prog 27 #[v, u, .int .i64 i, .int .i64 k] w fun e w' => ∃ b, e = .returned (.bool b) ∧ (b = true ↔ ∀ c, c < 256 → C.getD (d.to i c) 0 = C.getD (d.to k c) 0) ∧ Ext w w' := by
  obtain ⟨a, b, rfl, h1, h2⟩ := h
  obtain ⟨p, cap, rfl, _⟩ := h1.shape
  obtain ⟨p2, cap2, rfl, _⟩ := h2.shape
  obtain ⟨p3, cap3, rfl, _⟩ := hC.shape
  have hi0 := hi
  have hk0 := hk
  obtain ⟨n, hn⟩ : ∃ n, d.nx.length = n := ⟨_, rfl⟩
  have hcl : (nj C).length = n := by rw [nj_len, hl, hn]
  have h6 := hd.le
  rw [hn] at h1 hi hk h6 ⊢
  rw [hcl] at hC ⊢
  generalize d.lb.length = n2 at *
  have HEB := Lib.hid (ext_box w #[.slice p n cap, .slice p2 n2 cap2] 26)
  have HBX := Lib.hid (Blk.new w #[.slice p n cap, .slice p2 n2 cap2] 26)
  have H1 := Lib.hid (h1.ext HEB.out)
  have HC := Lib.hid (hC.ext HEB.out)
  have HO := Lib.hid hd
  have HN := Lib.hid hn
  have HCL := Lib.hid hcl
  clear h1 h2 hC hd hn hcl hl
  go_enter Tryd.func27, Tryd.ntmps27
  generalize hw0 : w.alloc (.cells #[.slice p n cap, .slice p2 n2 cap2] 26) = w0 at HEB HBX H1 HC
  go_wp2_with fail
  go_loopw [9] (fun s9 wr => ∃ c : Nat, c ≤ 256 ∧ s9 = .int .i64 c ∧ Hid (∀ e, e < c → C.getD (d.to i e) 0 = C.getD (d.to k e) 0) ∧ Hid (Ext w0 wr)) (fun s9 _ => 256 - (intOf s9).toNat)
  case atStart => exact ⟨0, Nat.zero_le _, rfl, Lib.hid (fun e h => absurd h (by omega)), Lib.hid (Below.refl _ _)⟩
  case round =>
    obtain ⟨c, hc, rfl, hA, hE⟩ := hrel
    by_cases hcn : c < 256
    · have z0 := (HBX.out.ext hE.out).cell 0
      obtain ⟨bR, oR, aR, cR, rfl, hbR, hcR, hIR, -⟩ := (H1.out.ext hE.out).cell hi0
      obtain ⟨bR2, oR2, aR2, cR2, e2, hbR2, hcR2, hIR2, -⟩ := (H1.out.ext hE.out).cell hk0
      cases e2
      have hr1 : d.nx[i].length = 256 := by have := HO.out.row i hi0; rwa [getD_get hi0] at this
      have hr2 : d.nx[k].length = 256 := by have := HO.out.row k hk0; rwa [getD_get hk0] at this
      obtain ⟨bE, oE, rfl, hbE, hcE, -⟩ := hIR.cell (k := c) (by omega)
      obtain ⟨bE2, oE2, rfl, hbE2, hcE2, -⟩ := hIR2.cell (k := c) (by omega)
      rw [dd_ent HO.out hi0 hcn] at hcE
      rw [dd_ent HO.out hk0 hcn] at hcE2
      rw [hr1] at hcR
      rw [hr2] at hcR2
      have l1 := HO.out.to hi0 hcn
      have l2 := HO.out.to hk0 hcn
      obtain ⟨t1, ht1⟩ : ∃ x, d.to i c = x := ⟨_, rfl⟩
      obtain ⟨t2, ht2⟩ : ∃ x, d.to k c = x := ⟨_, rfl⟩
      rw [ht1] at hcE l1
      rw [ht2] at hcE2 l2
      rw [HN.out] at l1 l2
      obtain ⟨bC, oC, rfl, hbC, hc1, -⟩ := (HC.out.ext hE.out).cell (k := t1) (by rw [HCL.out]; exact l1)
      obtain ⟨bC2, oC2, e3, hbC2, hc2, -⟩ := (HC.out.ext hE.out).cell (k := t2) (by rw [HCL.out]; exact l2)
      cases e3
      rw [nj_get (by rw [HCL.out]; exact l1)] at hc1
      rw [nj_get (by rw [HCL.out]; exact l2)] at hc2
      have HT := Lib.hid (And.intro ht1 ht2)
      obtain ⟨x, hx⟩ : ∃ x, C.getD t1 0 = x := ⟨_, rfl⟩
      obtain ⟨y, hy⟩ : ∃ y, C.getD t2 0 = y := ⟨_, rfl⟩
      rw [hx] at hc1
      rw [hy] at hc2
      have HX := Lib.hid (And.intro hx hy)
      have E9 := Lib.hid (bel_call hE.out (drewx wr))
      clear hIR hIR2 hr1 hr2 ht1 ht2 hx hy
      by_cases q : x = y
      · have A9 := Lib.hid (show ∀ e, e < c + 1 → C.getD (d.to i e) 0 = C.getD (d.to k e) 0 from fun e he => by
          by_cases e1 : e = c
          · subst e1; rw [HT.out.1, HT.out.2, HX.out.1, HX.out.2, q]
          · exact hA.out e (by omega))
        subst q
        clear hA
        go_wp2_with fail
        go_region
        clear hE z0 hcR hcR2 hcE hcE2 hc1 hc2
        generalize wr.drew = w9 at *
        go_wp2_with fail
        go_roundw
        case rel => exact ⟨c + 1, by omega, by go_num, A9, E9⟩
        case measure => simp [intOf]; omega
      · have t3 : ((x : Int) == (y : Int)) = false := by simp; omega
        have t4 : ((x : Int) != (y : Int)) = true := by simp; omega
        have t5 : (x == y) = false := by simp; omega
        have HF := Lib.hid (show (false = true ↔ ∀ c, c < 256 → C.getD (d.to i c) 0 = C.getD (d.to k c) 0) from ⟨(fun e => by cases e), fun e => absurd (e c hcn) (by rw [HT.out.1, HT.out.2, HX.out.1, HX.out.2]; exact q)⟩)
        clear q
        go_wp2_with fail
        go_region
        clear hE z0 hcR hcR2 hcE hcE2 hc1 hc2
        generalize wr.drew = w9 at *
        go_wp2_with fail
        go_ret
        exact ⟨false, rfl, HF.out, bel_call HEB.out E9.out⟩
    · obtain rfl : c = 256 := by omega
      go_wp2_with fail
      go_ret
      exact ⟨true, rfl, ⟨fun _ => hA.out, fun _ => rfl⟩, bel_call HEB.out hE.out⟩
end Go.Proofs.YtnnkomdkggepjaaDoor
