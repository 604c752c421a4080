/- Lengths by the document: bolterref8.of. -/
import Derived.Test.YtnmdfhnfheekgaaDoorEi8
import Derived.Test.YtnmdfhnfheekgaaDoorCt7
import Derived.Deep.RegionLaw
namespace Go.Proofs.YtnmdfhnfheekgaaDoor
open Go Go.RowKit
theorem Blk.cells10x {w : World} {b : Nat} {t : TypeId} {x : Xp} {a : Option Addr} {c : Nat} (h : Blk w b (xbx x a c) t) : w.cell? ⟨b, 0, none⟩ = some (.int .i64 x.op) ∧ w.cell? ⟨b, 1, none⟩ = some (.int .i64 x.at_) ∧ w.cell? ⟨b, 2, none⟩ = some (.int .u64 (wd x.set 0)) ∧ w.cell? ⟨b, 3, none⟩ = some (.int .u64 (wd x.set 1)) ∧ w.cell? ⟨b, 4, none⟩ = some (.int .u64 (wd x.set 2)) ∧ w.cell? ⟨b, 5, none⟩ = some (.int .u64 (wd x.set 3)) ∧ w.cell? ⟨b, 6, none⟩ = some (.string x.text) ∧ w.cell? ⟨b, 7, none⟩ = some (.int .i64 x.mn) ∧ w.cell? ⟨b, 8, none⟩ = some (.int .i64 x.mx) ∧ w.cell? ⟨b, 9, none⟩ = some (.slice a x.args.length c) :=
  ⟨h.cell 0, h.cell 1, h.cell 2, h.cell 3, h.cell 4, h.cell 5, h.cell 6, h.cell 7, h.cell 8, h.cell 9⟩
theorem ext_drew (w : World) : Ext w w.drew := Below.drew (Below.refl _ _)
theorem lv_shape (v : Wv) : ∃ (n : Bool) (l m : Int), v.lv = .agg #[.bool n, .int .i64 l, .int .i64 m] := by
  cases v with
  | none => exact ⟨_, _, _, rfl⟩
  | bounded l m => exact ⟨_, _, _, rfl⟩
  | endless l => exact ⟨_, _, _, rfl⟩
def OfIH (x : Xp) : Prop := ∀ y ∈ x.args, ∀ (a : Option Addr) (c : Nat) (w : World), Good y → nn y ≤ 1000000 → Xat w w.heap.size a c y.args → Calls Tryd.prog 24 #[xv y a c] w fun e w' => e = .returned (wo y).lv ∧ Ext w w'
set_option maxHeartbeats 4000000 in
set_option maxRecDepth 20000 in
theorem of_set (x : Xp) (a : Option Addr) (c : Nat) (w : World) (h2 : x.op = 2) : Calls Tryd.prog 24 #[xv x a c] w fun e w' => e = .returned (wo x).lv ∧ Ext w w' := by
  rw [wo_eq, show wcomb x.op x.set x.mn x.mx (x.args.map wo) = if x.set = 0#256 then .none else .bounded 1 1 by unfold wcomb; rw [if_pos h2]]
  have eo : (x.op == 2) = true := by simpa using h2
  have eo' : decide (x.op = 2) = true := by simpa using h2
  have hse := set_eq0 x.set
  clear h2
  by_cases hs : x.set = 0#256
  · rw [if_pos hs]
    have es : decide (x.set = 0#256) = true := decide_eq_true hs
    clear hs
    simp only [Wv.lv]
    go_enter Tryd.func24, Tryd.ntmps24
    go_wp2_with fail
    refine bodyPost_ret (v := .agg #[.bool true, .int .i64 0, .int .i64 0]) ?_ rfl ⟨rfl, by go_grown⟩
    simp [results, Tryd.results24, go_sem]
  · rw [if_neg hs]
    have es : decide (x.set = 0#256) = false := decide_eq_false hs
    clear hs
    simp only [Wv.lv]
    go_enter Tryd.func24, Tryd.ntmps24
    go_wp2_with fail
    refine bodyPost_ret (v := .agg #[.bool false, .int .i64 1, .int .i64 1]) ?_ rfl ⟨rfl, by go_grown⟩
    simp [results, Tryd.results24, go_sem]
set_option maxHeartbeats 4000000 in
set_option maxRecDepth 20000 in
theorem of_none (x : Xp) (a : Option Addr) (c : Nat) (w : World) (h : x.op ≠ 2 ∧ x.op ≠ 5 ∧ x.op ≠ 6 ∧ x.op ≠ 7) : Calls Tryd.prog 24 #[xv x a c] w fun e w' => e = .returned (wo x).lv ∧ Ext w w' := by
  obtain ⟨h2, h5, h6, h7⟩ := h
  rw [wo_eq, show wcomb x.op x.set x.mn x.mx (x.args.map wo) = .bounded 0 0 by unfold wcomb; rw [if_neg h2, if_neg h5, if_neg h6, if_neg h7]]
  have eo2 : (x.op == 2) = false := by simpa using h2
  have eo2' : decide (x.op = 2) = false := by simpa using h2
  have eo5 : (x.op == 5) = false := by simpa using h5
  have eo5' : decide (x.op = 5) = false := by simpa using h5
  have eo6 : (x.op == 6) = false := by simpa using h6
  have eo6' : decide (x.op = 6) = false := by simpa using h6
  have eo7 : (x.op == 7) = false := by simpa using h7
  have eo7' : decide (x.op = 7) = false := by simpa using h7
  clear h2 h5 h6 h7
  simp only [Wv.lv]
  go_enter Tryd.func24, Tryd.ntmps24
  go_wp2_with fail
  refine bodyPost_ret (v := .agg #[.bool false, .int .i64 0, .int .i64 0]) ?_ rfl ⟨rfl, by go_grown⟩
  simp [results, Tryd.results24, go_sem]
set_option maxHeartbeats 4000000 in
set_option maxRecDepth 20000 in
theorem of_rep (x : Xp) (a : Option Addr) (c : Nat) (w : World) (hg : Good x) (hnn : nn x ≤ 1000000) (hx : Xat w w.heap.size a c x.args) (ih : OfIH x) (h7 : x.op = 7) : Calls Tryd.prog 24 #[xv x a c] w fun e w' => e = .returned (wo x).lv ∧ Ext w w' := by
  have hfok := ((good_eq x).1 hg).1
  have hE : Ext w ((w.alloc (.cells (xbx x a c) 28)).alloc (.cells #[.bool false, .int .i64 0, .int .i64 0] 31)) := by go_grown
  have hb := (Blk.new w (xbx x a c) 28).alloc (.cells #[.bool false, .int .i64 0, .int .i64 0] 31)
  have hr := Blk.new (w.alloc (.cells (xbx x a c) 28)) #[.bool false, .int .i64 0, .int .i64 0] 31
  rw [show (w.alloc (.cells (xbx x a c) 28)).heap.size = w.heap.size + 1 by simp] at hr
  rw [wo_eq, show wcomb x.op x.set x.mn x.mx (x.args.map wo) = ((x.args.map wo).headD (.bounded 0 0)).rep x.mn x.mx by unfold wcomb; rw [if_neg (show ¬ x.op = 2 by omega), if_neg (show ¬ x.op = 5 by omega), if_neg (show ¬ x.op = 6 by omega), if_pos h7]]
  have eo : (x.op == 7) = true := by simpa using h7
  have eo' : decide (x.op = 7) = true := by simpa using h7
  have eo2 : (x.op == 2) = false := by rw [h7]; rfl
  have eo2' : decide (x.op = 2) = false := by rw [h7]; rfl
  have eo5 : (x.op == 5) = false := by rw [h7]; rfl
  have eo5' : decide (x.op = 5) = false := by rw [h7]; rfl
  have eo6 : (x.op == 6) = false := by rw [h7]; rfl
  have eo6' : decide (x.op = 6) = false := by rw [h7]; rfl
  have hfk : x.args.length = 1 ∧ Cnt x.mn x.mx := by
    rcases hfok.2.2 with h | h | h | h
    · omega
    · omega
    · omega
    · exact h.2.2
  obtain ⟨hl1, hcn⟩ := hfk
  obtain ⟨b, o, rfl, hbb, y, a', c', hy, hmem, hok, hya, c0⟩ := (hx.ext hE).cells (k := 0) (by omega)
  have hhd : (x.args.map wo).headD (.bounded 0 0) = wo y := by
    cases hl : x.args with
    | nil => rw [hl] at hl1; simp at hl1
    | cons z l => simp [hl] at hy; simp [hy]
  rw [hhd]
  have hle1 := nn_mem hmem
  have HC := Lib.hid (fun w h => ih y hmem a' c' w (goods_mem ((good_eq x).1 hg).2 y hmem) (by omega) h)
  have HD := Lib.hid (fun w => rti_any x (some ⟨b, o, none⟩) c (wo y) 1000000 w ((wo_le y).mono (by omega)) hcn)
  obtain ⟨n1, l1, m1, hv1⟩ := lv_shape (wo y)
  obtain ⟨n2, l2, m2, hv2⟩ := lv_shape ((wo y).rep x.mn x.mx)
  rw [hv1] at HC HD
  rw [hv2] at HD ⊢
  simp only [Nat.zero_mul, Nat.add_zero] at c0
  have CS := Lib.hid c0
  have HYA := Lib.hid hya
  have HB := Lib.hid hb
  have HR := Lib.hid hr
  have HE := Lib.hid hE
  have i1 : (0 : Int) < (x.args.length : Int) := by omega
  have i1n : 0 < x.args.length := by omega
  clear hg hfok hx ih h7 hy hhd hmem hok hya c0 hb hr hE hv1 hv2 hcn hle1 hnn hl1
  go_enter Tryd.func24, Tryd.ntmps24
  go_wp2_with fail
  generalize ((w.alloc (.cells (xbx x (some ⟨b, o, none⟩) c) 28)).alloc (.cells #[.bool false, .int .i64 0, .int .i64 0] 31)) = wa at *
  obtain ⟨x0, x1, x2, x3, x4, x5, x6, x7, x8, x9⟩ := Blk.cells10x (HB.out.ext (ext_drew wa)); obtain ⟨c0, c1, c2, c3, c4, c5, c6, c7, c8, c9⟩ := CS.out; rw [← Below.cell (ext_drew wa) (p := ⟨b, _, none⟩) hbb] at c0 c1 c2 c3 c4 c5 c6 c7 c8 c9; obtain ⟨y0, y1, y2⟩ := (HR.out.ext (ext_drew wa)).cells3; have f0 := (HR.out.ext (ext_drew wa)).free 0; have f1 := (HR.out.ext (ext_drew wa)).free 1; have f2 := (HR.out.ext (ext_drew wa)).free 2
  go_region_law (first | (go_simp; go_at_call 24; refine (HC.out _ (HYA.out.ext (ext_drew _))).mono ?_; rintro e w2 ⟨rfl, hx2⟩; have X2 := Lib.hid (bel_call (ext_drew wa) hx2); clear hx2; obtain ⟨x0, x1, x2, x3, x4, x5, x6, x7, x8, x9⟩ := Blk.cells10x (HB.out.ext (X2.out)); obtain ⟨c0, c1, c2, c3, c4, c5, c6, c7, c8, c9⟩ := CS.out; rw [← Below.cell (X2.out) (p := ⟨b, _, none⟩) hbb] at c0 c1 c2 c3 c4 c5 c6 c7 c8 c9; obtain ⟨y0, y1, y2⟩ := (HR.out.ext (X2.out)).cells3; have f0 := (HR.out.ext (X2.out)).free 0; have f1 := (HR.out.ext (X2.out)).free 1; have f2 := (HR.out.ext (X2.out)).free 2) | (go_simp; go_at_call 43; refine (HD.out _).mono ?_; rintro e w3 ⟨rfl, hx3⟩; have X3 := Lib.hid (bel_call X2.out hx3); clear hx3; obtain ⟨x0, x1, x2, x3, x4, x5, x6, x7, x8, x9⟩ := Blk.cells10x (HB.out.ext (X3.out)); obtain ⟨c0, c1, c2, c3, c4, c5, c6, c7, c8, c9⟩ := CS.out; rw [← Below.cell (X3.out) (p := ⟨b, _, none⟩) hbb] at c0 c1 c2 c3 c4 c5 c6 c7 c8 c9; obtain ⟨y0, y1, y2⟩ := (HR.out.ext (X3.out)).cells3; have f0 := (HR.out.ext (X3.out)).free 0; have f1 := (HR.out.ext (X3.out)).free 1; have f2 := (HR.out.ext (X3.out)).free 2))
  all_goals
    go_wp2_with fail
    obtain ⟨q0, q1, q2⟩ := ((((HR.out.ext X3.out).set 0 (.bool n2)).set 1 (.int .i64 l2)).set 2 (.int .i64 m2)).cells3
    refine bodyPost_ret (v := .agg #[.bool n2, .int .i64 l2, .int .i64 m2]) ?_ rfl ⟨rfl, Below.trans (B := w.heap.size) (bel_call HE.out X3.out) (by go_grown)⟩
    simp [results, Tryd.results24, go_sem, q0, q1, q2]
set_option maxHeartbeats 4000000 in
set_option maxRecDepth 20000 in
theorem of_alt (x : Xp) (a : Option Addr) (c : Nat) (w : World) (hg : Good x) (hnn : nn x ≤ 1000000) (hx : Xat w w.heap.size a c x.args) (ih : OfIH x) (h6 : x.op = 6) : Calls Tryd.prog 24 #[xv x a c] w fun e w' => e = .returned (wo x).lv ∧ Ext w w' := by
  have hE : Ext w (((w.alloc (.cells (xbx x a c) 28)).alloc (.cells #[.bool false, .int .i64 0, .int .i64 0] 31)).alloc (.cells #[.bool true, .int .i64 0, .int .i64 0] 31)) := by go_grown
  have hb := ((Blk.new w (xbx x a c) 28).alloc (.cells #[.bool false, .int .i64 0, .int .i64 0] 31)).alloc (.cells #[.bool true, .int .i64 0, .int .i64 0] 31)
  have hr := (Blk.new (w.alloc (.cells (xbx x a c) 28)) #[.bool false, .int .i64 0, .int .i64 0] 31).alloc (.cells #[.bool true, .int .i64 0, .int .i64 0] 31)
  have hs := Blk.new ((w.alloc (.cells (xbx x a c) 28)).alloc (.cells #[.bool false, .int .i64 0, .int .i64 0] 31)) #[.bool true, .int .i64 0, .int .i64 0] 31
  rw [show (w.alloc (.cells (xbx x a c) 28)).heap.size = w.heap.size + 1 by simp] at hr
  rw [show ((w.alloc (.cells (xbx x a c) 28)).alloc (.cells #[.bool false, .int .i64 0, .int .i64 0] 31)).heap.size = w.heap.size + 1 + 1 by simp] at hs
  rw [wo_eq, show wcomb x.op x.set x.mn x.mx (x.args.map wo) = (x.args.map wo).foldl Wv.alt .none by unfold wcomb; rw [if_neg (show ¬ x.op = 2 by omega), if_neg (show ¬ x.op = 5 by omega), if_pos h6]]
  have eo : (x.op == 6) = true := by simpa using h6
  have eo' : decide (x.op = 6) = true := by simpa using h6
  have eo2 : (x.op == 2) = false := by rw [h6]; rfl
  have eo2' : decide (x.op = 2) = false := by rw [h6]; rfl
  have eo5 : (x.op == 5) = false := by rw [h6]; rfl
  have eo5' : decide (x.op = 5) = false := by rw [h6]; rfl
  have IH := Lib.hid ih
  have HX := Lib.hid hx
  have HG := Lib.hid (goods_mem ((good_eq x).1 hg).2)
  have HN := Lib.hid hnn
  have hlen := hx.len
  have hmx : maxLen ≤ 9223372036854775807 := by decide
  have hl1 : x.args.length ≤ 9223372036854775807 := by omega
  have HB := Lib.hid hb
  have HR := Lib.hid hr
  have HS := Lib.hid hs
  have HE := Lib.hid hE
  clear hg hnn hx ih h6 hb hr hs hE hlen hmx
  go_enter Tryd.func24, Tryd.ntmps24
  go_wp2_with fail
  generalize (((w.alloc (.cells (xbx x a c) 28)).alloc (.cells #[.bool false, .int .i64 0, .int .i64 0] 31)).alloc (.cells #[.bool true, .int .i64 0, .int .i64 0] 31)) = wa at *
  go_loopw [7] (fun i wr => ∃ (k : Nat) (n : Bool) (l m : Int), k ≤ x.args.length ∧ i = .int .i64 k ∧ Hid ((((x.args.take k).map wo).foldl Wv.alt .none).lv = .agg #[.bool n, .int .i64 l, .int .i64 m]) ∧ Hid (Blk wr w.heap.size (xbx x a c) 28) ∧ Hid (Blk wr (w.heap.size + 1) #[.bool false, .int .i64 0, .int .i64 0] 31) ∧ Hid (Blk wr (w.heap.size + 1 + 1) #[.bool n, .int .i64 l, .int .i64 m] 31) ∧ Hid (Ext w wr)) (fun i _ => x.args.length - (intOf i).toNat)
  case atStart => exact ⟨0, true, 0, 0, Nat.zero_le _, rfl, Lib.hid rfl, HB, HR, HS, HE⟩
  case round =>
    obtain ⟨k, n, l, m, hk, rfl, hv, hB, hR, hS, hEr⟩ := hrel
    clear HB HR HS HE
    obtain ⟨z0, z1, z2, z3, z4, z5, z6, z7, z8, z9⟩ := hB.out.cells10x
    obtain ⟨s0, s1, s2⟩ := hS.out.cells3
    by_cases hkl : k < x.args.length
    · have k1 : decide ((k : Int) < (x.args.length : Int)) = true := by simp; omega
      obtain ⟨b, o, rfl, hbb, y, a', c', hy, hmem, hok, hya, c0⟩ := (HX.out.ext hEr.out).cells hkl
      have hf := fold_take hkl Wv.alt .none
      rw [hy] at hf
      have hle1 := nn_mem hmem
      have HC := Lib.hid (fun w h => IH.out y hmem a' c' w (HG.out y hmem) (by have := HN.out; omega) h)
      have HEI := Lib.hid (fun w => rei_any (((x.args.take k).map wo).foldl Wv.alt .none) (wo y) w)
      rw [← hf, hv.out] at HEI
      obtain ⟨n1, l1, m1, hv1⟩ := lv_shape (wo y)
      obtain ⟨n2, l2, m2, hv2⟩ := lv_shape (((x.args.take (k + 1)).map wo).foldl Wv.alt .none)
      rw [hv1] at HC HEI
      rw [hv2] at HEI
      have HV2 := Lib.hid hv2
      have HYA := Lib.hid hya
      have CS := Lib.hid c0
      have i0 : (0 : Int) ≤ (k : Int) := by omega
      have i0n : k < x.args.length := hkl
      have hi2 := Lib.hid (show (k : Int) + 1 ≤ 9223372036854775807 by omega)
      clear hf hle1 hv1 hv2 hya c0 hy hmem hok
      go_wp2_with fail
      clear z0 z1 z2 z3 z4 z5 z6 z7 z8 z9 s0 s1 s2
      obtain ⟨x0, x1, x2, x3, x4, x5, x6, x7, x8, x9⟩ := Blk.cells10x (hB.out.ext (ext_drew wr)); obtain ⟨c0, c1, c2, c3, c4, c5, c6, c7, c8, c9⟩ := CS.out; rw [← Below.cell (ext_drew wr) (p := ⟨b, _, none⟩) hbb] at c0 c1 c2 c3 c4 c5 c6 c7 c8 c9; obtain ⟨y0, y1, y2⟩ := (hS.out.ext (ext_drew wr)).cells3; have f0 := (hS.out.ext (ext_drew wr)).free 0; have f1 := (hS.out.ext (ext_drew wr)).free 1; have f2 := (hS.out.ext (ext_drew wr)).free 2
      go_region_law (first | (go_simp; go_at_call 24; refine (HC.out _ (HYA.out.ext (ext_drew _))).mono ?_; rintro e w2 ⟨rfl, hx2⟩; have X2 := Lib.hid (bel_call (ext_drew wr) hx2); clear hx2; obtain ⟨x0, x1, x2, x3, x4, x5, x6, x7, x8, x9⟩ := Blk.cells10x (hB.out.ext (X2.out)); obtain ⟨c0, c1, c2, c3, c4, c5, c6, c7, c8, c9⟩ := CS.out; rw [← Below.cell (X2.out) (p := ⟨b, _, none⟩) hbb] at c0 c1 c2 c3 c4 c5 c6 c7 c8 c9; obtain ⟨y0, y1, y2⟩ := (hS.out.ext (X2.out)).cells3; have f0 := (hS.out.ext (X2.out)).free 0; have f1 := (hS.out.ext (X2.out)).free 1; have f2 := (hS.out.ext (X2.out)).free 2) | (go_simp; go_at_call 42; refine (HEI.out _).mono ?_; rintro e w3 ⟨rfl, hx3⟩; have X3 := Lib.hid (bel_call X2.out hx3); clear hx3; obtain ⟨x0, x1, x2, x3, x4, x5, x6, x7, x8, x9⟩ := Blk.cells10x (hB.out.ext (X3.out)); obtain ⟨c0, c1, c2, c3, c4, c5, c6, c7, c8, c9⟩ := CS.out; rw [← Below.cell (X3.out) (p := ⟨b, _, none⟩) hbb] at c0 c1 c2 c3 c4 c5 c6 c7 c8 c9; obtain ⟨y0, y1, y2⟩ := (hS.out.ext (X3.out)).cells3; have f0 := (hS.out.ext (X3.out)).free 0; have f1 := (hS.out.ext (X3.out)).free 1; have f2 := (hS.out.ext (X3.out)).free 2))
      all_goals
        have i2 := hi2.out
        have hS3 := Lib.hid ((((hS.out.ext X3.out).set 0 (.bool n2)).set 1 (.int .i64 l2)).set 2 (.int .i64 m2))
        have hB3 := Lib.hid ((((hB.out.ext X3.out).set_other (a := ⟨w.heap.size + 1 + 1, 0, none⟩) (by show w.heap.size + 1 + 1 ≠ _; omega) (.bool n2)).set_other (a := ⟨w.heap.size + 1 + 1, 1, none⟩) (by show w.heap.size + 1 + 1 ≠ _; omega) (.int .i64 l2)).set_other (a := ⟨w.heap.size + 1 + 1, 2, none⟩) (by show w.heap.size + 1 + 1 ≠ _; omega) (.int .i64 m2))
        have hR3 := Lib.hid ((((hR.out.ext X3.out).set_other (a := ⟨w.heap.size + 1 + 1, 0, none⟩) (by show w.heap.size + 1 + 1 ≠ _; omega) (.bool n2)).set_other (a := ⟨w.heap.size + 1 + 1, 1, none⟩) (by show w.heap.size + 1 + 1 ≠ _; omega) (.int .i64 l2)).set_other (a := ⟨w.heap.size + 1 + 1, 2, none⟩) (by show w.heap.size + 1 + 1 ≠ _; omega) (.int .i64 m2))
        go_wp2_with fail
        go_roundw
        case rel => exact ⟨k + 1, n2, l2, m2, by omega, by go_num, HV2, hB3, hR3, hS3, Lib.hid (Below.trans (B := w.heap.size) (bel_call hEr.out X3.out) (by go_grown))⟩
        case measure => simp [intOf] <;> omega
    · have k1 : decide ((k : Int) < (x.args.length : Int)) = false := by simp; omega
      have hkl2 : x.args.take k = x.args := List.take_of_length_le (by omega)
      rw [hkl2] at hv
      obtain ⟨r0, r1, r2⟩ := hR.out.cells3
      have g0 := hR.out.free 0
      have g1 := hR.out.free 1
      have g2 := hR.out.free 2
      clear hkl2
      go_wp2_with fail
      obtain ⟨q0, q1, q2⟩ := (((hR.out.set 0 (.bool n)).set 1 (.int .i64 l)).set 2 (.int .i64 m)).cells3
      refine bodyPost_ret (v := .agg #[.bool n, .int .i64 l, .int .i64 m]) ?_ rfl ⟨by rw [hv.out], Below.trans (B := w.heap.size) hEr.out (by go_grown)⟩
      simp [results, Tryd.results24, go_sem, q0, q1, q2]
theorem fold_none : ∀ l : List Wv, l.foldl Wv.join .none = .none
  | [] => rfl
  | v :: l => by rw [List.foldl_cons, show Wv.join .none v = .none from rfl, fold_none l]
/-- A length's three cells. -/
def lvc : Wv → Array Value
  | .none => #[.bool true, .int .i64 0, .int .i64 0]
  | .bounded l m => #[.bool false, .int .i64 (l : Int), .int .i64 (m : Int)]
  | .endless l => #[.bool false, .int .i64 (l : Int), .int .i64 (-1)]
set_option maxHeartbeats 8000000 in
set_option maxRecDepth 20000 in
theorem of_cat (x : Xp) (a : Option Addr) (c : Nat) (w : World) (hg : Good x) (hnn : nn x ≤ 1000000) (hx : Xat w w.heap.size a c x.args) (ih : OfIH x) (h5 : x.op = 5) : Calls Tryd.prog 24 #[xv x a c] w fun e w' => e = .returned (wo x).lv ∧ Ext w w' := by
  have hE : Ext w (((w.alloc (.cells (xbx x a c) 28)).alloc (.cells #[.bool false, .int .i64 0, .int .i64 0] 31)).alloc (.cells #[.bool false, .int .i64 0, .int .i64 0] 31)) := by go_grown
  have hb := ((Blk.new w (xbx x a c) 28).alloc (.cells #[.bool false, .int .i64 0, .int .i64 0] 31)).alloc (.cells #[.bool false, .int .i64 0, .int .i64 0] 31)
  have hr := (Blk.new (w.alloc (.cells (xbx x a c) 28)) #[.bool false, .int .i64 0, .int .i64 0] 31).alloc (.cells #[.bool false, .int .i64 0, .int .i64 0] 31)
  have hs := Blk.new ((w.alloc (.cells (xbx x a c) 28)).alloc (.cells #[.bool false, .int .i64 0, .int .i64 0] 31)) #[.bool false, .int .i64 0, .int .i64 0] 31
  rw [show (w.alloc (.cells (xbx x a c) 28)).heap.size = w.heap.size + 1 by simp] at hr
  rw [show ((w.alloc (.cells (xbx x a c) 28)).alloc (.cells #[.bool false, .int .i64 0, .int .i64 0] 31)).heap.size = w.heap.size + 1 + 1 by simp] at hs
  rw [wo_eq, show wcomb x.op x.set x.mn x.mx (x.args.map wo) = (x.args.map wo).foldl Wv.join (.bounded 0 0) by unfold wcomb; rw [if_neg (show ¬ x.op = 2 by omega), if_pos h5]]
  have eo : (x.op == 5) = true := by simpa using h5
  have eo' : decide (x.op = 5) = true := by simpa using h5
  have eo2 : (x.op == 2) = false := by rw [h5]; rfl
  have eo2' : decide (x.op = 2) = false := by rw [h5]; rfl
  have IH := Lib.hid ih
  have HX := Lib.hid hx
  have HG := Lib.hid (goods_mem ((good_eq x).1 hg).2)
  have HN := Lib.hid hnn
  have hlen := hx.len
  have hmx : maxLen ≤ 9223372036854775807 := by decide
  have hl1 : x.args.length ≤ 9223372036854775807 := by omega
  have HB := Lib.hid hb
  have HR := Lib.hid hr
  have HS := Lib.hid hs
  have HE := Lib.hid hE
  clear hg hnn hx ih h5 hb hr hs hE hlen hmx
  go_enter Tryd.func24, Tryd.ntmps24
  go_wp2_with fail
  generalize (((w.alloc (.cells (xbx x a c) 28)).alloc (.cells #[.bool false, .int .i64 0, .int .i64 0] 31)).alloc (.cells #[.bool false, .int .i64 0, .int .i64 0] 31)) = wa at *
  go_loopw [4] (fun i wr => ∃ (k : Nat) (v : Wv), k ≤ x.args.length ∧ i = .int .i64 k ∧ Hid (((x.args.take k).map wo).foldl Wv.join (.bounded 0 0) = v ∧ v ≠ .none) ∧ Hid (Blk wr w.heap.size (xbx x a c) 28) ∧ Hid (Blk wr (w.heap.size + 1) #[.bool false, .int .i64 0, .int .i64 0] 31) ∧ Hid (Blk wr (w.heap.size + 1 + 1) (lvc v) 31) ∧ Hid (Ext w wr)) (fun i _ => x.args.length - (intOf i).toNat)
  case atStart => exact ⟨0, .bounded 0 0, Nat.zero_le _, rfl, Lib.hid ⟨rfl, by simp⟩, HB, HR, HS, HE⟩
  case round =>
    obtain ⟨k, v, hk, rfl, hv, hB, hR, hS, hEr⟩ := hrel
    clear HB HR HS HE
    obtain ⟨z0, z1, z2, z3, z4, z5, z6, z7, z8, z9⟩ := hB.out.cells10x
    clear z0 z1 z2 z3 z4 z5 z6 z7 z8
    by_cases hkl : k < x.args.length
    · have k1 : decide ((k : Int) < (x.args.length : Int)) = true := by simp; omega
      obtain ⟨b, o, rfl, hbb, y, a', c', hy, hmem, hok, hya, c0, c1, c2, c3, c4, c5, c6, c7, c8, c9⟩ := (HX.out.ext hEr.out).cells hkl
      have hf := fold_take hkl Wv.join (.bounded 0 0)
      rw [hy, hv.out.1] at hf
      have hle1 := nn_mem hmem
      have HC := Lib.hid (fun w h => IH.out y hmem a' c' w (HG.out y hmem) (by have := HN.out; omega) h)
      have hyl := (wo_le y).mono (m := 1000000) (by have := HN.out; omega)
      have hvl : v.le 1000000 := by
        have h1 := foldl_le Wv.join (fun _ _ _ _ => Wv.le_join) (x.args.take k) (.bounded 0 0) 0 (fun y _ => wo_le y) (by simp [Wv.le])
        have h2 := nns_take x.args k
        have h3 := HN.out
        rw [nn_eq] at h3
        rw [hv.out.1] at h1
        exact h1.mono (by omega)
      have HYA := Lib.hid hya
      have i0 : (0 : Int) ≤ (k : Int) := by omega
      have i0n : k < x.args.length := hkl
      have hi2 := Lib.hid (show (k : Int) + 1 ≤ 9223372036854775807 by omega)
      have hlw := hS.out.lt
      have hvn := hv.out.2
      have hlast : wo y = .none → (x.args.map wo).foldl Wv.join (.bounded 0 0) = .none := fun e => by
        rw [← List.take_append_drop (k + 1) x.args, List.map_append, List.foldl_append, hf, e, show v.join .none = .none by cases v <;> rfl, fold_none]
      clear hle1 hya hy hmem hok
      generalize wo y = u at *
      cases u with
      | none =>
        have HL := Lib.hid (hlast rfl)
        clear hlast hf hvl hyl hvn
        simp only [Wv.lv] at HC
        as_aux_lemma =>
          go_wp2_with fail
          refine (HC.out _ HYA.out).mono ?_
          rintro e w2 ⟨rfl, x2⟩
          have hEa : Ext w2 (w2.alloc (.cells #[.bool true, .int .i64 0, .int .i64 0] 31)) := by go_grown
          have kR := (hR.out.ext x2).ext hEa
          have KR := Lib.hid kR
          have X3 := Lib.hid (bel_call hEr.out (bel_call x2 hEa))
          obtain ⟨r0, r1, r2⟩ := kR.cells3
          have g0 := kR.free 0
          have g1 := kR.free 1
          have g2 := kR.free 2
          clear x2 hEa kR
          go_wp2_with fail
          obtain ⟨q0, q1, q2⟩ := (((KR.out.set 0 (.bool true)).set 1 (.int .i64 0)).set 2 (.int .i64 0)).cells3
          refine bodyPost_ret (v := .agg #[.bool true, .int .i64 0, .int .i64 0]) ?_ rfl ⟨by rw [HL.out]; rfl, Below.trans (B := w.heap.size) X3.out (by go_grown)⟩
          simp [results, Tryd.results24, go_sem, q0, q1, q2]
      | bounded j q =>
        clear hlast
        cases v with
        | none => exact absurd rfl hvn
        | bounded l m =>
        · skip
          simp only [Wv.lv] at HC
          have bl : (l : Int) ≤ 1000000 := by have := hvl; simp only [Wv.le] at this; omega
          have bj : (j : Int) ≤ 1000000 := by have := hyl; simp only [Wv.le] at this; omega
          have dm1 : decide ((m : Int) < 0) = false := by simp
          have bm : (m : Int) ≤ 1000000 := by have := hvl; simp only [Wv.le] at this; omega
          have dq1 : decide ((q : Int) < 0) = false := by simp
          have bq : (q : Int) ≤ 1000000 := by have := hyl; simp only [Wv.le] at this; omega
          have hfv : ((x.args.take (k + 1)).map wo).foldl Wv.join (.bounded 0 0) = .bounded (l + j) (m + q) := hf
          have HFV := Lib.hid hfv
          clear hf hvl hyl hfv
          as_aux_lemma =>
            go_wp2_with fail
            refine (HC.out _ HYA.out).mono ?_
            rintro e w2 ⟨rfl, x2⟩
            have hEa : Ext w2 (w2.alloc (.cells #[.bool false, .int .i64 (j : Int), .int .i64 (q : Int)] 31)) := by go_grown
            have hsz2 := x2.size
            have X3 := Lib.hid (bel_call hEr.out (bel_call x2 hEa))
            have kS := (hS.out.ext x2).ext hEa
            have hS3 := Lib.hid ((kS.set 1 (.int .i64 ((l : Int) + (j : Int)))).set 2 (.int .i64 ((m : Int) + (q : Int))))
            have hB3 := Lib.hid ((((hB.out.ext x2).ext hEa).set_other (a := ⟨w.heap.size + 1 + 1, 1, none⟩) (by show w.heap.size + 1 + 1 ≠ _; omega) (.int .i64 ((l : Int) + (j : Int)))).set_other (a := ⟨w.heap.size + 1 + 1, 2, none⟩) (by show w.heap.size + 1 + 1 ≠ _; omega) (.int .i64 ((m : Int) + (q : Int))))
            have hR3 := Lib.hid ((((hR.out.ext x2).ext hEa).set_other (a := ⟨w.heap.size + 1 + 1, 1, none⟩) (by show w.heap.size + 1 + 1 ≠ _; omega) (.int .i64 ((l : Int) + (j : Int)))).set_other (a := ⟨w.heap.size + 1 + 1, 2, none⟩) (by show w.heap.size + 1 + 1 ≠ _; omega) (.int .i64 ((m : Int) + (q : Int))))
            obtain ⟨s0, s1, s2⟩ := kS.cells3
            have f0 := kS.free 0
            have f1 := kS.free 1
            have f2 := kS.free 2
            have ne1 : w.heap.size + 1 + 1 ≠ w2.heap.size := by omega
            have ne2 : w2.heap.size ≠ w.heap.size + 1 + 1 := by omega
            have kY := (Blk.new w2 #[.bool false, .int .i64 (j : Int), .int .i64 (q : Int)] 31).set_other (a := ⟨w.heap.size + 1 + 1, 1, none⟩) ne1 (.int .i64 ((l : Int) + (j : Int)))
            obtain ⟨t0, t1, t2⟩ := kY.cells3
            have kS1 := ((kS.set 1 (.int .i64 ((l : Int) + (j : Int)))).cell 2).trans (show _ = some (.int .i64 (m : Int)) from rfl)
            have kF1 := (kS.set 1 (.int .i64 ((l : Int) + (j : Int)))).free 2
            clear x2 hEa kS kY
            go_wp2_with fail
            have i2 := hi2.out
            go_roundw
            case rel => exact ⟨k + 1, .bounded (l + j) (m + q), by omega, by go_num, Lib.hid ⟨HFV.out, by simp⟩, hB3, hR3, Lib.hid (by simp only [lvc, Int.natCast_add]; exact hS3.out), Lib.hid (Below.trans (B := w.heap.size) X3.out (by go_grown))⟩
            case measure => simp [intOf] <;> omega
        | endless l =>
        · skip
          simp only [Wv.lv] at HC
          have bl : (l : Int) ≤ 1000000 := by have := hvl; simp only [Wv.le] at this; omega
          have bj : (j : Int) ≤ 1000000 := by have := hyl; simp only [Wv.le] at this; omega
          have dq1 : decide ((q : Int) < 0) = false := by simp
          have bq : (q : Int) ≤ 1000000 := by have := hyl; simp only [Wv.le] at this; omega
          have hfv : ((x.args.take (k + 1)).map wo).foldl Wv.join (.bounded 0 0) = .endless (l + j) := hf
          have HFV := Lib.hid hfv
          clear hf hvl hyl hfv
          as_aux_lemma =>
            go_wp2_with fail
            refine (HC.out _ HYA.out).mono ?_
            rintro e w2 ⟨rfl, x2⟩
            have hEa : Ext w2 (w2.alloc (.cells #[.bool false, .int .i64 (j : Int), .int .i64 (q : Int)] 31)) := by go_grown
            have hsz2 := x2.size
            have X3 := Lib.hid (bel_call hEr.out (bel_call x2 hEa))
            have kS := (hS.out.ext x2).ext hEa
            have hS3 := Lib.hid ((kS.set 1 (.int .i64 ((l : Int) + (j : Int)))).set 2 (.int .i64 (-1)))
            have hB3 := Lib.hid ((((hB.out.ext x2).ext hEa).set_other (a := ⟨w.heap.size + 1 + 1, 1, none⟩) (by show w.heap.size + 1 + 1 ≠ _; omega) (.int .i64 ((l : Int) + (j : Int)))).set_other (a := ⟨w.heap.size + 1 + 1, 2, none⟩) (by show w.heap.size + 1 + 1 ≠ _; omega) (.int .i64 (-1)))
            have hR3 := Lib.hid ((((hR.out.ext x2).ext hEa).set_other (a := ⟨w.heap.size + 1 + 1, 1, none⟩) (by show w.heap.size + 1 + 1 ≠ _; omega) (.int .i64 ((l : Int) + (j : Int)))).set_other (a := ⟨w.heap.size + 1 + 1, 2, none⟩) (by show w.heap.size + 1 + 1 ≠ _; omega) (.int .i64 (-1)))
            obtain ⟨s0, s1, s2⟩ := kS.cells3
            have f0 := kS.free 0
            have f1 := kS.free 1
            have f2 := kS.free 2
            have ne1 : w.heap.size + 1 + 1 ≠ w2.heap.size := by omega
            have ne2 : w2.heap.size ≠ w.heap.size + 1 + 1 := by omega
            have kY := (Blk.new w2 #[.bool false, .int .i64 (j : Int), .int .i64 (q : Int)] 31).set_other (a := ⟨w.heap.size + 1 + 1, 1, none⟩) ne1 (.int .i64 ((l : Int) + (j : Int)))
            obtain ⟨t0, t1, t2⟩ := kY.cells3
            have kS1 := ((kS.set 1 (.int .i64 ((l : Int) + (j : Int)))).cell 2).trans (show _ = some (.int .i64 (-1)) from rfl)
            have kF1 := (kS.set 1 (.int .i64 ((l : Int) + (j : Int)))).free 2
            clear x2 hEa kS kY
            go_wp2_with fail
            have i2 := hi2.out
            go_roundw
            case rel => exact ⟨k + 1, .endless (l + j), by omega, by go_num, Lib.hid ⟨HFV.out, by simp⟩, hB3, hR3, Lib.hid (by simp only [lvc, Int.natCast_add]; exact hS3.out), Lib.hid (Below.trans (B := w.heap.size) X3.out (by go_grown))⟩
            case measure => simp [intOf] <;> omega
      | endless j =>
        clear hlast
        cases v with
        | none => exact absurd rfl hvn
        | bounded l m =>
        · skip
          simp only [Wv.lv] at HC
          have bl : (l : Int) ≤ 1000000 := by have := hvl; simp only [Wv.le] at this; omega
          have bj : (j : Int) ≤ 1000000 := by have := hyl; simp only [Wv.le] at this; omega
          have dm1 : decide ((m : Int) < 0) = false := by simp
          have bm : (m : Int) ≤ 1000000 := by have := hvl; simp only [Wv.le] at this; omega
          have hfv : ((x.args.take (k + 1)).map wo).foldl Wv.join (.bounded 0 0) = .endless (l + j) := hf
          have HFV := Lib.hid hfv
          clear hf hvl hyl hfv
          as_aux_lemma =>
            go_wp2_with fail
            refine (HC.out _ HYA.out).mono ?_
            rintro e w2 ⟨rfl, x2⟩
            have hEa : Ext w2 (w2.alloc (.cells #[.bool false, .int .i64 (j : Int), .int .i64 (-1)] 31)) := by go_grown
            have hsz2 := x2.size
            have X3 := Lib.hid (bel_call hEr.out (bel_call x2 hEa))
            have kS := (hS.out.ext x2).ext hEa
            have hS3 := Lib.hid ((kS.set 1 (.int .i64 ((l : Int) + (j : Int)))).set 2 (.int .i64 (-1)))
            have hB3 := Lib.hid ((((hB.out.ext x2).ext hEa).set_other (a := ⟨w.heap.size + 1 + 1, 1, none⟩) (by show w.heap.size + 1 + 1 ≠ _; omega) (.int .i64 ((l : Int) + (j : Int)))).set_other (a := ⟨w.heap.size + 1 + 1, 2, none⟩) (by show w.heap.size + 1 + 1 ≠ _; omega) (.int .i64 (-1)))
            have hR3 := Lib.hid ((((hR.out.ext x2).ext hEa).set_other (a := ⟨w.heap.size + 1 + 1, 1, none⟩) (by show w.heap.size + 1 + 1 ≠ _; omega) (.int .i64 ((l : Int) + (j : Int)))).set_other (a := ⟨w.heap.size + 1 + 1, 2, none⟩) (by show w.heap.size + 1 + 1 ≠ _; omega) (.int .i64 (-1)))
            obtain ⟨s0, s1, s2⟩ := kS.cells3
            have f0 := kS.free 0
            have f1 := kS.free 1
            have f2 := kS.free 2
            have ne1 : w.heap.size + 1 + 1 ≠ w2.heap.size := by omega
            have ne2 : w2.heap.size ≠ w.heap.size + 1 + 1 := by omega
            have kY := (Blk.new w2 #[.bool false, .int .i64 (j : Int), .int .i64 (-1)] 31).set_other (a := ⟨w.heap.size + 1 + 1, 1, none⟩) ne1 (.int .i64 ((l : Int) + (j : Int)))
            obtain ⟨t0, t1, t2⟩ := kY.cells3
            have kS1 := ((kS.set 1 (.int .i64 ((l : Int) + (j : Int)))).cell 2).trans (show _ = some (.int .i64 (m : Int)) from rfl)
            have kF1 := (kS.set 1 (.int .i64 ((l : Int) + (j : Int)))).free 2
            clear x2 hEa kS kY
            go_wp2_with fail
            have i2 := hi2.out
            go_roundw
            case rel => exact ⟨k + 1, .endless (l + j), by omega, by go_num, Lib.hid ⟨HFV.out, by simp⟩, hB3, hR3, Lib.hid (by simp only [lvc, Int.natCast_add]; exact hS3.out), Lib.hid (Below.trans (B := w.heap.size) X3.out (by go_grown))⟩
            case measure => simp [intOf] <;> omega
        | endless l =>
        · skip
          simp only [Wv.lv] at HC
          have bl : (l : Int) ≤ 1000000 := by have := hvl; simp only [Wv.le] at this; omega
          have bj : (j : Int) ≤ 1000000 := by have := hyl; simp only [Wv.le] at this; omega
          have hfv : ((x.args.take (k + 1)).map wo).foldl Wv.join (.bounded 0 0) = .endless (l + j) := hf
          have HFV := Lib.hid hfv
          clear hf hvl hyl hfv
          as_aux_lemma =>
            go_wp2_with fail
            refine (HC.out _ HYA.out).mono ?_
            rintro e w2 ⟨rfl, x2⟩
            have hEa : Ext w2 (w2.alloc (.cells #[.bool false, .int .i64 (j : Int), .int .i64 (-1)] 31)) := by go_grown
            have hsz2 := x2.size
            have X3 := Lib.hid (bel_call hEr.out (bel_call x2 hEa))
            have kS := (hS.out.ext x2).ext hEa
            have hS3 := Lib.hid ((kS.set 1 (.int .i64 ((l : Int) + (j : Int)))).set 2 (.int .i64 (-1)))
            have hB3 := Lib.hid ((((hB.out.ext x2).ext hEa).set_other (a := ⟨w.heap.size + 1 + 1, 1, none⟩) (by show w.heap.size + 1 + 1 ≠ _; omega) (.int .i64 ((l : Int) + (j : Int)))).set_other (a := ⟨w.heap.size + 1 + 1, 2, none⟩) (by show w.heap.size + 1 + 1 ≠ _; omega) (.int .i64 (-1)))
            have hR3 := Lib.hid ((((hR.out.ext x2).ext hEa).set_other (a := ⟨w.heap.size + 1 + 1, 1, none⟩) (by show w.heap.size + 1 + 1 ≠ _; omega) (.int .i64 ((l : Int) + (j : Int)))).set_other (a := ⟨w.heap.size + 1 + 1, 2, none⟩) (by show w.heap.size + 1 + 1 ≠ _; omega) (.int .i64 (-1)))
            obtain ⟨s0, s1, s2⟩ := kS.cells3
            have f0 := kS.free 0
            have f1 := kS.free 1
            have f2 := kS.free 2
            have ne1 : w.heap.size + 1 + 1 ≠ w2.heap.size := by omega
            have ne2 : w2.heap.size ≠ w.heap.size + 1 + 1 := by omega
            have kY := (Blk.new w2 #[.bool false, .int .i64 (j : Int), .int .i64 (-1)] 31).set_other (a := ⟨w.heap.size + 1 + 1, 1, none⟩) ne1 (.int .i64 ((l : Int) + (j : Int)))
            obtain ⟨t0, t1, t2⟩ := kY.cells3
            have kS1 := ((kS.set 1 (.int .i64 ((l : Int) + (j : Int)))).cell 2).trans (show _ = some (.int .i64 (-1)) from rfl)
            have kF1 := (kS.set 1 (.int .i64 ((l : Int) + (j : Int)))).free 2
            clear x2 hEa kS kY
            go_wp2_with fail
            have i2 := hi2.out
            go_roundw
            case rel => exact ⟨k + 1, .endless (l + j), by omega, by go_num, Lib.hid ⟨HFV.out, by simp⟩, hB3, hR3, Lib.hid (by simp only [lvc, Int.natCast_add]; exact hS3.out), Lib.hid (Below.trans (B := w.heap.size) X3.out (by go_grown))⟩
            case measure => simp [intOf] <;> omega
    · have k1 : decide ((k : Int) < (x.args.length : Int)) = false := by simp; omega
      have hkl2 : x.args.take k = x.args := List.take_of_length_le (by omega)
      rw [hkl2] at hv
      obtain ⟨r0, r1, r2⟩ := hR.out.cells3
      have g0 := hR.out.free 0
      have g1 := hR.out.free 1
      have g2 := hR.out.free 2
      have HV := Lib.hid (show ((x.args.map wo).foldl Wv.join (.bounded 0 0)).lv = .agg (lvc v) by rw [hv.out.1]; cases v <;> rfl)
      obtain ⟨n, l, m, hlv⟩ : ∃ (n : Bool) (l m : Int), lvc v = #[.bool n, .int .i64 l, .int .i64 m] := by
        cases v with
        | none => exact ⟨_, _, _, rfl⟩
        | bounded l m => exact ⟨_, _, _, rfl⟩
        | endless l => exact ⟨_, _, _, rfl⟩
      rw [hlv] at HV hS
      obtain ⟨s0, s1, s2⟩ := hS.out.cells3
      clear hkl2 hlv
      go_wp2_with fail
      obtain ⟨q0, q1, q2⟩ := (((hR.out.set 0 (.bool n)).set 1 (.int .i64 l)).set 2 (.int .i64 m)).cells3
      refine bodyPost_ret (v := .agg #[.bool n, .int .i64 l, .int .i64 m]) ?_ rfl ⟨by rw [HV.out], Below.trans (B := w.heap.size) hEr.out (by go_grown)⟩
      simp [results, Tryd.results24, go_sem, q0, q1, q2]
theorem of_any : ∀ (x : Xp) (a : Option Addr) (c : Nat) (w : World), Good x → nn x ≤ 1000000 → Xat w w.heap.size a c x.args → Calls Tryd.prog 24 #[xv x a c] w fun e w' => e = .returned (wo x).lv ∧ Ext w w' := by
  intro x
  induction x using Xp.ind with
  | h x ih =>
  intro a c w hg hn hx
  by_cases h2 : x.op = 2
  · exact of_set x a c w h2
  by_cases h5 : x.op = 5
  · exact of_cat x a c w hg hn hx ih h5
  by_cases h6 : x.op = 6
  · exact of_alt x a c w hg hn hx ih h6
  by_cases h7 : x.op = 7
  · exact of_rep x a c w hg hn hx ih h7
  · exact of_none x a c w ⟨h2, h5, h6, h7⟩
end Go.Proofs.YtnmdfhnfheekgaaDoor
