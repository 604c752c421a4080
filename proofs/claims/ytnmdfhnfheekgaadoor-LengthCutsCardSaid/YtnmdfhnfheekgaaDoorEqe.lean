/- An expression and its like, held against each other: bolterref0.EqExpr. -/
import Derived.Test.YtnmdfhnfheekgaaDoorFok
import Derived.Test.YtnmdfhnfheekgaaDoorSz
import Derived.Test.YtnmdfhnfheekgaaDoorStab2
namespace Go.Proofs.YtnmdfhnfheekgaaDoor
open Go Go.RowKit
set_option maxHeartbeats 4000000 in
set_option maxRecDepth 20000 in
theorem eqx_same : ∀ (x : Xp) (a : Option Addr) (c : Nat) (a' : Option Addr) (c' : Nat) (w : World), Xat w w.heap.size a c x.args → Xat w w.heap.size a' c' x.args →
    Calls Tryd.prog 12 #[xv x a c, xv x a' c'] w fun e w' => e = .returned (.bool true) ∧ Ext w w' := by
  intro x
  induction x using Xp.ind with
  | h x ih =>
  intro a c a' c' w hx hy
  have hlen := hx.len
  have hE : Ext w ((w.alloc (.cells (xbx x a c) 28)).alloc (.cells (xbx x a' c') 28)) := by go_grown
  have HB1 := Lib.hid ((Blk.new w (xbx x a c) 28).alloc (.cells (xbx x a' c') 28))
  have hb2 := Blk.new (w.alloc (.cells (xbx x a c) 28)) (xbx x a' c') 28
  rw [show (w.alloc (.cells (xbx x a c) 28)).heap.size = w.heap.size + 1 by simp] at hb2
  have HB2 := Lib.hid hb2
  have HE := Lib.hid hE
  have HX := Lib.hid (hx.ext hE)
  have HY := Lib.hid (hy.ext hE)
  have IH := Lib.hid ih
  have hse := set_eq x.set x.set
  rw [decide_eq_true rfl] at hse
  have hmx : maxLen ≤ 9223372036854775807 := by decide
  have hl1 : x.args.length ≤ 9223372036854775807 := by omega
  clear ih hx hy hE hb2 hlen hmx
  go_enter Tryd.func12, Tryd.ntmps12
  go_wp2_with fail
  generalize (w.alloc (.cells (xbx x a c) 28)).alloc (.cells (xbx x a' c') 28) = wa at *
  go_loopw [5] (fun i wr => ∃ k : Nat, k ≤ x.args.length ∧ i = .int .i64 k ∧ Hid (Ext wa wr)) (fun i _ => x.args.length - (intOf i).toNat)
  case atStart => exact ⟨0, Nat.zero_le _, rfl, Lib.hid (Below.refl _ _)⟩
  case round =>
    obtain ⟨k, hk, rfl, hEr⟩ := hrel
    have z9 := (HB1.out.ext hEr.out).cell 9
    have y9 := (HB2.out.ext hEr.out).cell 9
    simp only [xbx, List.getElem?_toArray, List.getElem?_cons_succ, List.getElem?_cons_zero] at z9 y9
    by_cases hkl : k < x.args.length
    · have k1 : decide ((k : Int) < (x.args.length : Int)) = true := by simp; omega
      obtain ⟨b, o, rfl, hbb, y, a1, c1, hy, hmem, hok, hya, c0⟩ := (HX.out.ext hEr.out).cells hkl
      obtain ⟨b', o', rfl, hbb', y', a1', c1', hy', _, _, hya', d0⟩ := (HY.out.ext hEr.out).cells hkl
      obtain rfl : y = y' := hy.symm.trans hy'
      have HC := Lib.hid (fun w h h' => IH.out y hmem a1 c1 a1' c1' w h h')
      have HCC := Lib.hid c0
      have HDD := Lib.hid d0
      have HYA := Lib.hid (And.intro hya hya')
      have i0 : (0 : Int) ≤ (k : Int) := by omega
      have i1 : (k : Int) < (x.args.length : Int) := by omega
      have hi2 := Lib.hid (show (k : Int) + 1 ≤ 9223372036854775807 by omega)
      clear c0 d0 hya hya' hy hy' hmem hok
      go_wp2_with fail
      clear z9 y9
      refine wp_region_stab (fun _ => none) (by kernel_rfl) (by kernel_rfl) (fun _ _ h => by cases h) (fun hex => ?_)
      iterate 12
        (refine wpS_one (A := ?_) hex rfl rfl (by simp) ?_ ?_ ?_
         rotate_left 2
         · intro w' hC K hK
           obtain ⟨hcell, hfrz⟩ := bcell hC.1.ext
           have HYE := And.intro (HYA.out.1.ext hC.1.ext) (HYA.out.2.ext hC.1.ext); have z9 := ((HB1.out.ext hEr.out).ext hC.1.ext).cell 9; have y9 := ((HB2.out.ext hEr.out).ext hC.1.ext).cell 9; simp only [xbx, List.getElem?_toArray, List.getElem?_cons_succ, List.getElem?_cons_zero] at z9 y9; obtain ⟨c0, c1, c2, c3, c4, c5, c6, c7, c8, c9⟩ := HCC.out; rw [← hC.1.ext.cell (p := ⟨b, _, none⟩) hbb] at c0 c1 c2 c3 c4 c5 c6 c7 c8 c9; obtain ⟨d0, d1, d2, d3, d4, d5, d6, d7, d8, d9⟩ := HDD.out; rw [← hC.1.ext.cell (p := ⟨b', _, none⟩) hbb'] at d0 d1 d2 d3 d4 d5 d6 d7 d8 d9; clear hcell hfrz
           go_wp2_with (go_at_call 12; with_reducible refine (HC.out _ HYE.1 HYE.2).mono ?_; rintro e w2 ⟨rfl, hb2⟩)
           refine hK _ ?_
           first | exact Gr.refl _ _ | exact Gr.of_ext (by assumption) hC.1.1.size
         rotate_left 1
         · rfl
         clear hex; intro hex)
      refine wpS_nil fun w6 hE => ?_
      replace hE := hE.1.ext
      obtain ⟨hcell_w6, hfrz_w6⟩ := bcell hE
      have X6 := Lib.hid (bel_call hEr.out hE)
      clear hE hex hcell_w6 hfrz_w6
      have i2 := hi2.out
      go_wp2_with fail
      go_roundw
      case rel => exact ⟨k + 1, by omega, by go_num, X6⟩
      case measure => simp [intOf] <;> omega
    · have k1 : decide ((k : Int) < (x.args.length : Int)) = false := by simp; omega
      go_wp2_with fail
      go_ret
      exact ⟨rfl, bel_call HE.out hEr.out⟩
end Go.Proofs.YtnmdfhnfheekgaaDoor
