/- Where tokens end: length.hasEmpty, oneLength, cutOf. -/
import Derived.Test.YtnmdfhnfheekgaaDoorCm
import Derived.Test.YtnmdfhnfheekgaaDoorWds
import Derived.BigQuiet
namespace Go.Proofs.YtnmdfhnfheekgaaDoor
open Go Go.RowKit
def Wv.emp : Wv → Bool
  | .none => false
  | .bounded l _ => l == 0
  | .endless l => l == 0
def Wv.ol : Wv → Nat × Bool
  | .none => (0, true)
  | .bounded l m => (l, l == m)
  | .endless _ => (0, false)
set_option maxHeartbeats 1000000 in
set_option maxRecDepth 20000 in
theorem hasempty_any (v : Wv) (w : World) : Calls Tryd.prog 52 #[v.val] w fun e w' => e = .returned (.bool v.emp) ∧ Ext w w' := by
  have hsh := shortest_any v
  cases v with
  | none =>
    simp only [Wv.sh, Wv.some, Wv.emp] at hsh ⊢
    go_enter Tryd.func52, Tryd.ntmps52
    go_wp2_with fail
    refine (hsh _).mono ?_
    rintro e w1 ⟨rfl, x1⟩
    go_wp2_with fail
    go_ret
    exact ⟨rfl, x1⟩
  | bounded l m =>
    simp only [Wv.sh, Wv.some, Wv.emp] at hsh ⊢
    have e1 : ((l : Int) == 0) = (l == 0) := by rw [Bool.eq_iff_iff]; simp
    have e2 : decide ((l : Int) = 0) = (l == 0) := by rw [Bool.eq_iff_iff]; simp
    generalize (l == 0) = q at *
    go_enter Tryd.func52, Tryd.ntmps52
    go_wp2_with fail
    refine (hsh _).mono ?_
    rintro e w1 ⟨rfl, x1⟩
    go_wp2_with fail
    go_ret
    exact ⟨rfl, x1⟩
  | endless l =>
    simp only [Wv.sh, Wv.some, Wv.emp] at hsh ⊢
    have e1 : ((l : Int) == 0) = (l == 0) := by rw [Bool.eq_iff_iff]; simp
    have e2 : decide ((l : Int) = 0) = (l == 0) := by rw [Bool.eq_iff_iff]; simp
    generalize (l == 0) = q at *
    go_enter Tryd.func52, Tryd.ntmps52
    go_wp2_with fail
    refine (hsh _).mono ?_
    rintro e w1 ⟨rfl, x1⟩
    go_wp2_with fail
    go_ret
    exact ⟨rfl, x1⟩
theorem ta_nn (v : Value) (w : World) : (Instr.typeAssert (.iface 88 v) 68 88 true).run Tryd.prog w = .ok (.tuple #[v, .bool true]) w := by kernel_rfl
theorem ta_bn (v : Value) (w : World) : (Instr.typeAssert (.iface 118 v) 68 88 true).run Tryd.prog w = .ok (.tuple #[.agg #[], .bool false]) w := by kernel_rfl
theorem ta_en (v : Value) (w : World) : (Instr.typeAssert (.iface 120 v) 68 88 true).run Tryd.prog w = .ok (.tuple #[.agg #[], .bool false]) w := by kernel_rfl
set_option maxHeartbeats 1000000 in
set_option maxRecDepth 20000 in
theorem onelen_any (v : Wv) (w : World) : Calls Tryd.prog 53 #[v.val] w fun e w' => e = .returned (.tuple #[.int .i64 (v.ol.1 : Int), .bool v.ol.2]) ∧ Ext w w' := by
  have t1 := ta_bb
  have t3 := ta_eb
  have t5 := ta_nb
  have t7 := ta_nn
  have t8 := ta_bn
  have t9 := ta_en
  cases v with
  | none =>
    simp only [Wv.val, Wv.ol]
    go_enter Tryd.func53, Tryd.ntmps53
    go_wp2_with fail
    go_ret2
    exact ⟨rfl, by go_grown⟩
  | bounded l m =>
    simp only [Wv.val, Wv.ol]
    have e1 : ((l : Int) == (m : Int)) = (l == m) := by rw [Bool.eq_iff_iff]; simp only [beq_iff_eq]; omega
    have e2 : decide ((l : Int) = (m : Int)) = (l == m) := by rw [Bool.eq_iff_iff]; simp only [decide_eq_true_eq, beq_iff_eq]; omega
    generalize (l == m) = q at *
    go_enter Tryd.func53, Tryd.ntmps53
    go_wp2_with fail
    go_region
    go_wp2_with fail
    go_ret2
    exact ⟨rfl, by go_grown⟩
  | endless l =>
    simp only [Wv.val, Wv.ol]
    go_enter Tryd.func53, Tryd.ntmps53
    go_wp2_with fail
    go_ret2
    exact ⟨rfl, by go_grown⟩
/-- A rule's cut, if it has one. -/
def cut1 (r : Cr) : Option (Nat × Nat) :=
  if r.ht = false then some (0, 0) else if (wo r.h).emp = true then none else if (wo r.t).ol.2 = true then some (1, (wo r.t).ol.1) else if (wo r.h).ol.2 = true then some (2, max (wo r.h).ol.1 1) else none
def cutv (o : Option (Nat × Nat)) : Value := .agg #[.int .i64 ((o.getD (0, 0)).1 : Int), .int .i64 ((o.getD (0, 0)).2 : Int)]
theorem Wv.ol_le {v : Wv} {n : Nat} (h : v.le n) : v.ol.1 ≤ n := by cases v <;> simp only [Wv.le, Wv.ol] at * <;> omega
set_option maxHeartbeats 4000000 in
set_option maxRecDepth 20000 in
theorem cutof_any (r : Cr) (a : Option Addr) (c : Nat) (a' : Option Addr) (c' : Nat) (w : World) (hgh : Good r.h) (hnh : nn r.h ≤ 65536) (hgt : r.ht = true → Good r.t ∧ nn r.t ≤ 65536) (hx : Xat w w.heap.size a c r.h.args) (hy : Xat w w.heap.size a' c' r.t.args) :
    Calls Tryd.prog 29 #[cv r a c a' c'] w fun e w' => e = .returned (.tuple #[cutv (cut1 r), .bool (cut1 r).isSome]) ∧ Ext w w' := by
  have hE : Ext w ((w.alloc (.cells (cbx r a c a' c') 48)).alloc (.cells #[.int .i64 0, .int .i64 0] 64)) := by go_grown
  have e1 : (w.alloc (.cells (cbx r a c a' c') 48)).heap.size = w.heap.size + 1 := by simp
  have hb := (Blk.new w (cbx r a c a' c') 48).alloc (.cells #[.int .i64 0, .int .i64 0] 64)
  have hr := Blk.new (w.alloc (.cells (cbx r a c a' c') 48)) #[.int .i64 0, .int .i64 0] 64
  rw [e1] at hr
  have HE := Lib.hid hE
  have HB := Lib.hid hb
  have HR := Lib.hid hr
  have HX := Lib.hid (hx.ext hE)
  have HY := Lib.hid (hy.ext hE)
  have HW1 := Lib.hid (fun w h => words_any r.h a c w hgh (by omega) h)
  obtain ⟨z0, z1, z2, z3, z4, z5, z6, z7, z8, z9, z10, z11, z12, z13, z14, z15, z16, z17, z18, z19, z20⟩ := Blk.cells21 hb
  cases hh : r.ht with
  | false =>
    have hq : cut1 r = some (0, 0) := by unfold cut1; rw [if_pos hh]
    rw [hq]
    have kr := Lib.hid hr
    obtain ⟨y0, y1⟩ := kr.out.cells2
    have f0 := kr.out.free 0
    have f1 := kr.out.free 1
    rw [hh] at z10
    rw [show cutv (some (0, 0)) = .agg #[.int .i64 0, .int .i64 0] from rfl, show (some ((0 : Nat), (0 : Nat))).isSome = true from rfl]
    clear hb hr hE hx hy HW1 hgt z0 z1 z2 z3 z4 z5 z6 z7 z8 z9 z11 z12 z13 z14 z15 z16 z17 z18 z19 z20
    as_aux_lemma =>
      go_enter Tryd.func29, Tryd.ntmps29
      go_wp2_with fail
      refine bodyPost_ret (v := .tuple #[.agg #[.int .i64 0, .int .i64 0], .bool true]) ?_ rfl ⟨rfl, by go_grown⟩
      simp [results, Tryd.results29, go_sem]
  | true =>
    obtain ⟨hgt1, hgt2⟩ := hgt hh
    have HW2 := Lib.hid (fun w h => words_any r.t a' c' w hgt1 (by omega) h)
    have hle := (wo_le r.h).mono hnh
    have hlt := (wo_le r.t).mono hgt2
    rw [hh] at z10
    have hq : cut1 r = if (wo r.h).emp = true then none else if (wo r.t).ol.2 = true then some (1, (wo r.t).ol.1) else if (wo r.h).ol.2 = true then some (2, max (wo r.h).ol.1 1) else none := by
      unfold cut1; rw [if_neg (by rw [hh]; decide)]
    rw [hq]
    generalize wo r.h = v at *
    generalize wo r.t = u at *
    have hem := Lib.hid (fun w => hasempty_any v w)
    have ho1 := Lib.hid (fun w => onelen_any u w)
    have ho2 := Lib.hid (fun w => onelen_any v w)
    have n1 := Wv.ol_le hlt
    have n2 := Wv.ol_le hle
    generalize v.ol = vo at *
    generalize u.ol = uo at *
    generalize v.emp = ve at *
    obtain ⟨vn, vb⟩ := vo
    obtain ⟨un, ub⟩ := uo
    simp only at n1 n2
    clear hb hr hE hx hy hgt z0 z1 z2 z3 z4 z5 z6 z7 z8 z9 z11 z12 z13 z14 z15 z16 z17 z18 z19 z20 hgh hnh hgt1 hgt2 hh hq hle hlt e1
    cases ve with
    | true =>
      simp only [if_true]
      rw [show cutv none = .agg #[.int .i64 0, .int .i64 0] from rfl, show (none : Option (Nat × Nat)).isSome = false from rfl]
      as_aux_lemma =>
        go_enter Tryd.func29, Tryd.ntmps29
        go_wp2_with fail
        refine wp_region_stab (fun _ => none) (by kernel_rfl) (by kernel_rfl) (fun _ _ h => by cases h) (fun hex => ?_)
        iterate 8
          (refine wpS_one (A := ?_) hex rfl rfl (by simp) ?_ ?_ ?_
           rotate_left 2
           · intro w' hC K hK
             obtain ⟨hcell, hfrz⟩ := bcell hC.1.ext
             have HXE := HX.out.ext hC.1.ext; have HYE := HY.out.ext hC.1.ext; obtain ⟨z0, z1, z2, z3, z4, z5, z6, z7, z8, z9, z10, z11, z12, z13, z14, z15, z16, z17, z18, z19, z20⟩ := (HB.out.ext hC.1.ext).cells21; clear hcell hfrz
             go_wp2_with (go_at_call 21; first | (with_reducible refine (HW1.out _ HXE).mono ?_; rintro e w2 ⟨rfl, hb2⟩) | (with_reducible refine (HW2.out _ HYE).mono ?_; rintro e w2 ⟨rfl, hb2⟩))
             refine hK _ ?_
             first | exact Gr.refl _ _ | exact Gr.of_ext (by assumption) hC.1.1.size
           rotate_left 1
           · rfl
           clear hex; intro hex)
        refine wpS_nil fun w6 hE => ?_
        replace hE := hE.1.ext
        obtain ⟨hcell_w6, hfrz_w6⟩ := bcell hE
        have HE6 := Lib.hid hE
        clear hE
        go_wp2_with fail
        refine (hem.out _).mono ?_
        rintro e w7 ⟨rfl, x7⟩
        have X8 := Lib.hid (bel_call (bel_call HE.out HE6.out) x7)
        have kr := Lib.hid ((HR.out.ext HE6.out).ext x7)
        obtain ⟨y0, y1⟩ := kr.out.cells2
        have f0 := kr.out.free 0
        have f1 := kr.out.free 1
        clear x7
        go_wp2_with fail
        obtain ⟨q0, q1⟩ := ((kr.out.set 0 (.int .i64 0)).set 1 (.int .i64 0)).cells2
        refine bodyPost_ret (v := .tuple #[.agg #[.int .i64 0, .int .i64 0], .bool false]) ?_ rfl ⟨rfl, ?_⟩
        · simp [results, Tryd.results29, go_sem, q0, q1]
        · exact Below.trans (B := w.heap.size) (X8.out) (by go_grown)
    | false =>
      simp only [Bool.false_eq_true, if_false]
      cases ub with
      | true =>
        simp only [if_true]
        rw [show cutv (some (1, un)) = .agg #[.int .i64 1, .int .i64 (un : Int)] from rfl, show (some ((1 : Nat), un)).isSome = true from rfl]
        as_aux_lemma =>
          go_enter Tryd.func29, Tryd.ntmps29
          go_wp2_with fail
          refine wp_region_stab (fun _ => none) (by kernel_rfl) (by kernel_rfl) (fun _ _ h => by cases h) (fun hex => ?_)
          iterate 8
            (refine wpS_one (A := ?_) hex rfl rfl (by simp) ?_ ?_ ?_
             rotate_left 2
             · intro w' hC K hK
               obtain ⟨hcell, hfrz⟩ := bcell hC.1.ext
               have HXE := HX.out.ext hC.1.ext; have HYE := HY.out.ext hC.1.ext; obtain ⟨z0, z1, z2, z3, z4, z5, z6, z7, z8, z9, z10, z11, z12, z13, z14, z15, z16, z17, z18, z19, z20⟩ := (HB.out.ext hC.1.ext).cells21; clear hcell hfrz
               go_wp2_with (go_at_call 21; first | (with_reducible refine (HW1.out _ HXE).mono ?_; rintro e w2 ⟨rfl, hb2⟩) | (with_reducible refine (HW2.out _ HYE).mono ?_; rintro e w2 ⟨rfl, hb2⟩))
               refine hK _ ?_
               first | exact Gr.refl _ _ | exact Gr.of_ext (by assumption) hC.1.1.size
             rotate_left 1
             · rfl
             clear hex; intro hex)
          refine wpS_nil fun w6 hE => ?_
          replace hE := hE.1.ext
          obtain ⟨hcell_w6, hfrz_w6⟩ := bcell hE
          have HE6 := Lib.hid hE
          clear hE
          go_wp2_with fail
          refine (hem.out _).mono ?_
          rintro e w7 ⟨rfl, x7⟩
          go_wp2_with fail
          refine (ho1.out _).mono ?_
          rintro e w8 ⟨rfl, x8⟩
          have X8 := Lib.hid (bel_call (bel_call (bel_call HE.out HE6.out) x7) x8)
          have kr := Lib.hid (((HR.out.ext HE6.out).ext x7).ext x8)
          obtain ⟨y0, y1⟩ := kr.out.cells2
          have f0 := kr.out.free 0
          have f1 := kr.out.free 1
          clear x7 x8
          go_wp2_with fail
          obtain ⟨q0, q1⟩ := ((kr.out.set 0 (.int .i64 1)).set 1 (.int .i64 (un : Int))).cells2
          refine bodyPost_ret (v := .tuple #[.agg #[.int .i64 1, .int .i64 (un : Int)], .bool true]) ?_ rfl ⟨rfl, ?_⟩
          · simp [results, Tryd.results29, go_sem, q0, q1]
          · exact Below.trans (B := w.heap.size) (X8.out) (by go_grown)
      | false =>
        simp only [Bool.false_eq_true, if_false]
        cases vb with
        | true =>
          simp only [if_true]
          obtain ⟨mx, hmx⟩ : ∃ m, max vn 1 = m := ⟨_, rfl⟩
          rw [hmx]
          rw [show cutv (some (2, mx)) = .agg #[.int .i64 2, .int .i64 (mx : Int)] from rfl, show (some ((2 : Nat), mx)).isSome = true from rfl]
          have HMX := Lib.hid hmx
          clear hmx
          as_aux_lemma =>
            go_enter Tryd.func29, Tryd.ntmps29
            go_wp2_with fail
            refine wp_region_stab (fun _ => none) (by kernel_rfl) (by kernel_rfl) (fun _ _ h => by cases h) (fun hex => ?_)
            iterate 8
              (refine wpS_one (A := ?_) hex rfl rfl (by simp) ?_ ?_ ?_
               rotate_left 2
               · intro w' hC K hK
                 obtain ⟨hcell, hfrz⟩ := bcell hC.1.ext
                 have HXE := HX.out.ext hC.1.ext; have HYE := HY.out.ext hC.1.ext; obtain ⟨z0, z1, z2, z3, z4, z5, z6, z7, z8, z9, z10, z11, z12, z13, z14, z15, z16, z17, z18, z19, z20⟩ := (HB.out.ext hC.1.ext).cells21; clear hcell hfrz
                 go_wp2_with (go_at_call 21; first | (with_reducible refine (HW1.out _ HXE).mono ?_; rintro e w2 ⟨rfl, hb2⟩) | (with_reducible refine (HW2.out _ HYE).mono ?_; rintro e w2 ⟨rfl, hb2⟩))
                 refine hK _ ?_
                 first | exact Gr.refl _ _ | exact Gr.of_ext (by assumption) hC.1.1.size
               rotate_left 1
               · rfl
               clear hex; intro hex)
            refine wpS_nil fun w6 hE => ?_
            replace hE := hE.1.ext
            obtain ⟨hcell_w6, hfrz_w6⟩ := bcell hE
            have HE6 := Lib.hid hE
            clear hE
            go_wp2_with fail
            refine (hem.out _).mono ?_
            rintro e w7 ⟨rfl, x7⟩
            go_wp2_with fail
            refine (ho1.out _).mono ?_
            rintro e w8 ⟨rfl, x8⟩
            go_wp2_with fail
            refine (ho2.out _).mono ?_
            rintro e w9 ⟨rfl, x9⟩
            have X8 := Lib.hid (bel_call (bel_call (bel_call (bel_call HE.out HE6.out) x7) x8) x9)
            have kr := Lib.hid ((((HR.out.ext HE6.out).ext x7).ext x8).ext x9)
            obtain ⟨y0, y1⟩ := kr.out.cells2
            have f0 := kr.out.free 0
            have f1 := kr.out.free 1
            clear x7 x8 x9
            go_wp2_with fail
            · have hm : mx = 1 := by have := HMX.out; omega
              subst hm
              obtain ⟨q0, q1⟩ := ((kr.out.set 0 (.int .i64 2)).set 1 (.int .i64 1)).cells2
              refine bodyPost_ret (v := .tuple #[.agg #[.int .i64 2, .int .i64 1], .bool true]) ?_ rfl ⟨rfl, ?_⟩
              · simp [results, Tryd.results29, go_sem, q0, q1]
              · exact Below.trans (B := w.heap.size) (X8.out) (by go_grown)
            · have hm : mx = vn := by have := HMX.out; omega
              subst hm
              obtain ⟨q0, q1⟩ := ((kr.out.set 0 (.int .i64 2)).set 1 (.int .i64 (mx : Int))).cells2
              refine bodyPost_ret (v := .tuple #[.agg #[.int .i64 2, .int .i64 (mx : Int)], .bool true]) ?_ rfl ⟨rfl, ?_⟩
              · simp [results, Tryd.results29, go_sem, q0, q1]
              · exact Below.trans (B := w.heap.size) (X8.out) (by go_grown)
        | false =>
          simp only [Bool.false_eq_true, if_false]
          rw [show cutv none = .agg #[.int .i64 0, .int .i64 0] from rfl, show (none : Option (Nat × Nat)).isSome = false from rfl]
          as_aux_lemma =>
            go_enter Tryd.func29, Tryd.ntmps29
            go_wp2_with fail
            refine wp_region_stab (fun _ => none) (by kernel_rfl) (by kernel_rfl) (fun _ _ h => by cases h) (fun hex => ?_)
            iterate 8
              (refine wpS_one (A := ?_) hex rfl rfl (by simp) ?_ ?_ ?_
               rotate_left 2
               · intro w' hC K hK
                 obtain ⟨hcell, hfrz⟩ := bcell hC.1.ext
                 have HXE := HX.out.ext hC.1.ext; have HYE := HY.out.ext hC.1.ext; obtain ⟨z0, z1, z2, z3, z4, z5, z6, z7, z8, z9, z10, z11, z12, z13, z14, z15, z16, z17, z18, z19, z20⟩ := (HB.out.ext hC.1.ext).cells21; clear hcell hfrz
                 go_wp2_with (go_at_call 21; first | (with_reducible refine (HW1.out _ HXE).mono ?_; rintro e w2 ⟨rfl, hb2⟩) | (with_reducible refine (HW2.out _ HYE).mono ?_; rintro e w2 ⟨rfl, hb2⟩))
                 refine hK _ ?_
                 first | exact Gr.refl _ _ | exact Gr.of_ext (by assumption) hC.1.1.size
               rotate_left 1
               · rfl
               clear hex; intro hex)
            refine wpS_nil fun w6 hE => ?_
            replace hE := hE.1.ext
            obtain ⟨hcell_w6, hfrz_w6⟩ := bcell hE
            have HE6 := Lib.hid hE
            clear hE
            go_wp2_with fail
            refine (hem.out _).mono ?_
            rintro e w7 ⟨rfl, x7⟩
            go_wp2_with fail
            refine (ho1.out _).mono ?_
            rintro e w8 ⟨rfl, x8⟩
            go_wp2_with fail
            refine (ho2.out _).mono ?_
            rintro e w9 ⟨rfl, x9⟩
            have X8 := Lib.hid (bel_call (bel_call (bel_call (bel_call HE.out HE6.out) x7) x8) x9)
            have kr := Lib.hid ((((HR.out.ext HE6.out).ext x7).ext x8).ext x9)
            obtain ⟨y0, y1⟩ := kr.out.cells2
            have f0 := kr.out.free 0
            have f1 := kr.out.free 1
            clear x7 x8 x9
            go_wp2_with fail
            obtain ⟨q0, q1⟩ := ((kr.out.set 0 (.int .i64 0)).set 1 (.int .i64 0)).cells2
            refine bodyPost_ret (v := .tuple #[.agg #[.int .i64 0, .int .i64 0], .bool false]) ?_ rfl ⟨rfl, ?_⟩
            · simp [results, Tryd.results29, go_sem, q0, q1]
            · exact Below.trans (B := w.heap.size) (X8.out) (by go_grown)
end Go.Proofs.YtnmdfhnfheekgaaDoor
