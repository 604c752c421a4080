/- length.coresMayBe. -/
import Derived.Test.YtnmdfhnfheekgaaDoorCz
namespace Go.Proofs.YtnmdfhnfheekgaaDoor
open Go Go.RowKit
def Mays (L : List Cr) : Prop := L.length ≤ 200 ∧ ∀ r ∈ L, Chk r.h ∧ Tmb r
instance (L : List Cr) : Decidable (Mays L) := by unfold Mays; infer_instance
set_option maxHeartbeats 4000000 in
set_option maxRecDepth 20000 in
theorem cores_any (L : List Cr) (a : Option Addr) (c : Nat) (w : World) (hx : Cat w w.heap.size a c L) :
    Calls Tryd.prog 28 #[.slice a L.length c] w fun e w' => e = .returned (.bool (decide (Mays L))) ∧ Ext w w' := by
  have HX := Lib.hid hx
  have hlen := hx.len
  have hmx : maxLen ≤ 9223372036854775807 := by decide
  have hL1 : L.length ≤ 9223372036854775807 := by omega
  clear hlen hmx
  by_cases h2 : 200 < L.length
  · have hq : decide (Mays L) = false := by simp only [decide_eq_false_iff_not]; intro h; have := h.1; omega
    rw [hq]
    have d1 : decide ((200 : Int) < (L.length : Int)) = true := by simp; omega
    clear hq hx
    go_enter Tryd.func28, Tryd.ntmps28
    go_wp2_with fail
    go_ret
    exact ⟨rfl, Below.refl _ _⟩
  · have d1 : decide ((200 : Int) < (L.length : Int)) = false := by simp; omega
    clear hx
    go_enter Tryd.func28, Tryd.ntmps28
    go_wp2_with fail
    go_loopw [10] (fun i wr => ∃ k : Nat, k ≤ L.length ∧ i = .int .i64 k ∧ Hid (∀ j (h : j < L.length), j < k → Chk L[j].h ∧ Tmb L[j]) ∧ Hid (Ext w wr)) (fun i _ => L.length - (intOf i).toNat)
    case atStart => exact ⟨0, Nat.zero_le _, rfl, Lib.hid (fun j _ h => by omega), Lib.hid (Below.refl _ _)⟩
    case round =>
      obtain ⟨k, hk, rfl, hm, hEr⟩ := hrel
      by_cases hkl : k < L.length
      · have k1 : decide ((k : Int) < (L.length : Int)) = true := by simp; omega
        obtain ⟨b, o, rfl, hbb, r, a1, c1, a2, c2, hy, hmem, hok, hok2, hya, hyb, hcc⟩ := (HX.out.ext hEr.out).cells hkl
        have hrg := Lib.hid hcc.range
        obtain ⟨z0, z1, z2, z3, z4, z5, z6, z7, z8, z9, z10, z11, z12, z13, z14, z15, z16, z17, z18, z19, z20⟩ := Blk.cells21 (Blk.new wr (cbx r a1 c1 a2 c2) 48)
        have hEa : Ext wr (wr.alloc (.cells (cbx r a1 c1 a2 c2) 48)) := by go_grown
        have hC1 := Lib.hid (check_any r.h a1 c1 _ (hya.ext hEa))
        have hBn := Lib.hid (Blk.new wr (cbx r a1 c1 a2 c2) 48)
        have hYB := Lib.hid (hyb.ext hEa)
        have HEa := Lib.hid hEa
        have i0 : (0 : Int) ≤ (k : Int) := by omega
        have hi1 := Lib.hid (show (k : Int) + 1 ≤ 9223372036854775807 by omega)
        have hyk := Lib.hid hy
        have hmm := Lib.hid hmem
        clear hEa hya hyb hcc hy hmem hok hok2
        go_upto_region 5 with fail
        iterate 5 go_step
        refine wp_load_mid 48 (.tmp 12) rfl b (o + k * 21) rfl (ccs r a1 c1 a2 c2) _ hrg.out Tryd.underlying48 rfl core_info ?_
        simp only [Act.put, List.setIfInBounds_toArray, List.set_cons_succ, List.set_cons_zero]
        iterate 5 go_step
        refine wp_store_row 48 (.tmp 4) (.tmp 13) rfl wr.heap.size ((ccs r a1 c1 a2 c2).toArray) rfl rfl 48 _ (heap_alloc_last _ _) core_info rfl (cbx_one _ _ _ _ _) ?_
        rw [World.setRow_alloc_new]
        simp only [Act.put]
        by_cases hc : Chk r.h
        · rw [decide_eq_true hc] at hC1
          have HCC := Lib.hid hc
          clear hc
          go_wp2_with fail
          refine hC1.out.mono ?_
          rintro e w3 ⟨rfl, x3⟩
          have hrg3 : Hid (w3.rangeAt wr.heap.size 0 (ccs r a1 c1 a2 c2)) := Lib.hid (fun j v hv => by rw [Nat.zero_add, (hBn.out.ext x3).cell j]; simpa using hv)
          have hT := Lib.hid (trail_any r a1 c1 a2 c2 w3 (hYB.out.ext x3))
          have X3 := Lib.hid (bel_call (bel_call hEr.out HEa.out) x3)
          clear x3
          by_cases ht : Tmb r
          · rw [decide_eq_true ht] at hT
            have HTT := Lib.hid ht
            clear ht
            as_aux_lemma =>
              simp only []
              iterate 7 go_step
              refine BigFrame.wpList_want rfl (fun K3 hK3 => ?_)
              refine wp_load_mid 48 (.tmp 4) rfl wr.heap.size (0) rfl (ccs r a1 c1 a2 c2) _ hrg3.out Tryd.underlying48 rfl core_info ?_
              simp only [Act.put, List.setIfInBounds_toArray, List.set_cons_succ, List.set_cons_zero]
              refine hK3 _ _ ?_
              go_wp2_with fail
              refine hT.out.mono ?_
              rintro e w4 ⟨rfl, x4⟩
              have X4 := Lib.hid (bel_call X3.out x4)
              clear x4
              go_wp2_with fail
              go_roundw
              case rel =>
                have i1 := hi1.out
                refine ⟨k + 1, by omega, by go_num, Lib.hid (fun j hj hjk => ?_), X4⟩
                by_cases hjk2 : j < k
                · exact hm.out j hj hjk2
                · obtain rfl : j = k := by omega
                  rw [hyk.out]; exact ⟨HCC.out, HTT.out⟩
              case measure => simp [intOf] <;> omega
          · rw [decide_eq_false ht] at hT
            have hq : decide (Mays L) = false := by simp only [decide_eq_false_iff_not]; intro h; exact ht (h.2 r hmm.out).2
            have HQ := Lib.hid hq
            clear ht hq
            as_aux_lemma =>
              simp only []
              iterate 7 go_step
              refine BigFrame.wpList_want rfl (fun K3 hK3 => ?_)
              refine wp_load_mid 48 (.tmp 4) rfl wr.heap.size (0) rfl (ccs r a1 c1 a2 c2) _ hrg3.out Tryd.underlying48 rfl core_info ?_
              simp only [Act.put, List.setIfInBounds_toArray, List.set_cons_succ, List.set_cons_zero]
              refine hK3 _ _ ?_
              go_wp2_with fail
              refine hT.out.mono ?_
              rintro e w4 ⟨rfl, x4⟩
              have X4 := Lib.hid (bel_call X3.out x4)
              clear x4
              go_wp2_with fail
              go_ret
              exact ⟨by rw [HQ.out]; rfl, X4.out⟩
        · rw [decide_eq_false hc] at hC1
          have hq : decide (Mays L) = false := by simp only [decide_eq_false_iff_not]; intro h; exact hc (h.2 r hmm.out).1
          have HQ := Lib.hid hq
          clear hc hq
          as_aux_lemma =>
            go_wp2_with fail
            refine hC1.out.mono ?_
            rintro e w3 ⟨rfl, x3⟩
            have X3 := Lib.hid (bel_call (bel_call hEr.out HEa.out) x3)
            clear x3
            go_wp2_with fail
            go_ret
            exact ⟨by rw [HQ.out]; rfl, X3.out⟩
      · have k1 : decide ((k : Int) < (L.length : Int)) = false := by simp; omega
        have hq : decide (Mays L) = true := by
          simp only [decide_eq_true_eq]
          refine ⟨by omega, fun r hr => ?_⟩
          obtain ⟨j, hj, rfl⟩ := List.getElem_of_mem hr
          exact hm.out j hj (by omega)
        have HQ := Lib.hid hq
        clear hq
        go_wp2_with fail
        go_ret
        exact ⟨by rw [HQ.out]; rfl, hEr.out⟩
end Go.Proofs.YtnmdfhnfheekgaaDoor
