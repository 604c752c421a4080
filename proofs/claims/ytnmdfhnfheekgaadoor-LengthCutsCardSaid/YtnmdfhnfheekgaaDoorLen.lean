/- How long words are, told: the methods of length's types; length.Of. -/
import Derived.Test.YtnmdfhnfheekgaaDoorWds
import Derived.Test.YtnmdfhnfheekgaaDoorErr
namespace Go.Proofs.YtnmdfhnfheekgaaDoor
open Go Go.RowKit
def Wv.lv : Wv → Value
  | .none => .agg #[.bool true, .int .i64 0, .int .i64 0]
  | .bounded l m => .agg #[.bool false, .int .i64 (l : Int), .int .i64 (m : Int)]
  | .endless l => .agg #[.bool false, .int .i64 (l : Int), .int .i64 (-1)]
abbrev lv0 : Value := .agg #[.bool false, .int .i64 0, .int .i64 0]
set_option maxHeartbeats 1000000 in
set_option maxRecDepth 20000 in
theorem len_b (l m : Nat) (w : World) : Calls Tryd.prog 100 #[.agg #[.int .i64 (l : Int), .int .i64 (m : Int)]] w fun e w' => e = .returned (Wv.bounded l m).lv ∧ Ext w w' := by
  simp only [Wv.lv]
  go_enter Tryd.func100, Tryd.ntmps100
  go_wp2_with fail
  refine bodyPost_ret (v := (Wv.bounded l m).lv) ?_ rfl ⟨rfl, by go_grown⟩
  simp [results, Tryd.results100, go_sem, Wv.lv]
set_option maxHeartbeats 1000000 in
set_option maxRecDepth 20000 in
theorem len_e (l : Nat) (w : World) : Calls Tryd.prog 101 #[.agg #[.int .i64 (l : Int)]] w fun e w' => e = .returned (Wv.endless l).lv ∧ Ext w w' := by
  simp only [Wv.lv]
  go_enter Tryd.func101, Tryd.ntmps101
  go_wp2_with fail
  refine bodyPost_ret (v := (Wv.endless l).lv) ?_ rfl ⟨rfl, by go_grown⟩
  simp [results, Tryd.results101, go_sem, Wv.lv]
set_option maxHeartbeats 1000000 in
set_option maxRecDepth 20000 in
theorem len_n (w : World) : Calls Tryd.prog 94 #[.agg #[]] w fun e w' => e = .returned (Wv.none).lv ∧ Ext w w' := by
  simp only [Wv.lv]
  go_enter Tryd.func94, Tryd.ntmps94
  go_wp2_with fail
  refine bodyPost_ret (v := (Wv.none).lv) ?_ rfl ⟨rfl, by go_grown⟩
  simp [results, Tryd.results94, go_sem, Wv.lv]
/-- The errors of two codes, where they stand. -/
structure Ag (w : World) (aA aT : Addr) : Prop where
  arg : w.cell? ⟨0, 0, none⟩ = some (errAt aA)
  trl : w.cell? ⟨1, 0, none⟩ = some (errAt aT)
  l1 : 0 < w.heap.size
  l2 : 1 < w.heap.size
  rt : ∃ c t, w.heap[aT.block]? = some (.cells c t (0, 0))
theorem Ag.ext {w w' : World} {aA aT : Addr} (h : Ag w aA aT) (hx : Ext w w') : Ag w' aA aT :=
  ⟨(hx.cell (p := ⟨_, 0, none⟩) h.l1).trans h.arg, (hx.cell (p := ⟨_, 0, none⟩) h.l2).trans h.trl, Nat.lt_of_lt_of_le h.l1 hx.size, Nat.lt_of_lt_of_le h.l2 hx.size, by
    obtain ⟨c, t, hc⟩ := h.rt
    exact ⟨c, t, by rw [hx.block _ (Array.getElem?_eq_some_iff.1 hc).1]; exact hc⟩⟩
theorem Blk.cells3 {w : World} {b : Nat} {t : TypeId} {x0 x1 x2 : Value} (h : Blk w b #[x0, x1, x2] t) : w.cell? ⟨b, 0, none⟩ = some x0 ∧ w.cell? ⟨b, 1, none⟩ = some x1 ∧ w.cell? ⟨b, 2, none⟩ = some x2 := ⟨h.cell 0, h.cell 1, h.cell 2⟩
def lnv (x : Xp) : Value := if Chk x then (wo x).lv else lv0
def lne (x : Xp) (aA : Addr) : Value := if Chk x then .nilIface else errAt aA
set_option maxHeartbeats 1000000 in
set_option maxRecDepth 20000 in
theorem lenof_any (x : Xp) (a : Option Addr) (c : Nat) (aA aT : Addr) (w : World) (hx : Xat w w.heap.size a c x.args) (hA : Ag w aA aT) :
    Calls Tryd.prog 9 #[xv x a c] w fun e w' => e = .returned (.tuple #[lnv x, lne x aA]) ∧ Ext w w' := by
  have hE : Ext w ((w.alloc (.cells (xbx x a c) 28)).alloc (.cells #[.bool false, .int .i64 0, .int .i64 0] 31)) := by go_grown
  have e1 : (w.alloc (.cells (xbx x a c) 28)).heap.size = w.heap.size + 1 := by simp
  have hb := (Blk.new w (xbx x a c) 28).alloc (.cells #[.bool false, .int .i64 0, .int .i64 0] 31)
  have hr := Blk.new (w.alloc (.cells (xbx x a c) 28)) #[.bool false, .int .i64 0, .int .i64 0] 31
  rw [e1] at hr
  have hc := check_any x a c _ (hx.ext hE)
  have HE := Lib.hid hE
  have HB := Lib.hid hb
  have HR := Lib.hid hr
  have HX := Lib.hid (hx.ext hE)
  have HA := Lib.hid (hA.ext hE)
  unfold lnv lne
  by_cases h : Chk x
  · rw [if_pos h, if_pos h]
    rw [decide_eq_true h] at hc
    obtain ⟨hgd, hnn⟩ := chk_good h
    have HC := Lib.hid hc
    have HW := Lib.hid (fun w hx => words_any x a c w hgd (by omega) hx)
    clear hgd h hx hA hE hb hr hc e1
    generalize hwo : wo x = v at *
    clear hwo
    go_enter Tryd.func9, Tryd.ntmps9
    go_wp2_with fail
    refine HC.out.mono ?_
    rintro e w1 ⟨rfl, x1⟩
    have hb1 := (HB.out).ext x1
    have z0 := hb1.cell 0
    have z1 := hb1.cell 1
    have z2 := hb1.cell 2
    have z3 := hb1.cell 3
    have z4 := hb1.cell 4
    have z5 := hb1.cell 5
    have z6 := hb1.cell 6
    have z7 := hb1.cell 7
    have z8 := hb1.cell 8
    have z9 := hb1.cell 9
    simp only [xbx, List.getElem?_toArray, List.getElem?_cons_succ, List.getElem?_cons_zero] at z0 z1 z2 z3 z4 z5 z6 z7 z8 z9
    have X1 := Lib.hid x1
    clear x1 hb1
    go_wp2_with fail
    refine (HW.out _ (HX.out.ext X1.out)).mono ?_
    rintro e w2 ⟨rfl, x2⟩
    have hr2 := Lib.hid ((HR.out.ext X1.out).ext x2)
    have X2 := Lib.hid (bel_call (bel_call HE.out X1.out) x2)
    clear x2 z0 z1 z2 z3 z4 z5 z6 z7 z8 z9
    cases v with
    | none  =>
      simp only [Wv.val]
      go_wp2_with fail
      refine (len_n _).mono ?_
      rintro e w3 ⟨rfl, x3⟩
      have kr := Lib.hid (hr2.out.ext x3)
      have X3 := Lib.hid (bel_call X2.out x3)
      obtain ⟨y0, y1, y2⟩ := kr.out.cells3
      have f0 := kr.out.free 0
      have f1 := kr.out.free 1
      have f2 := kr.out.free 2
      clear x3
      simp only [Wv.lv]
      go_wp2_with fail
      obtain ⟨q0, q1, q2⟩ := (((kr.out.set 0 (.bool true)).set 1 (.int .i64 0)).set 2 (.int .i64 0)).cells3
      refine bodyPost_ret (v := .tuple #[((Wv.none)).lv, .nilIface]) ?_ rfl ⟨rfl, ?_⟩
      · simp [results, Tryd.results9, go_sem, Wv.lv, q0, q1, q2]
      · exact Below.setCell (Below.setCell (Below.setCell X3.out (by simp) _) (by simp) _) (by simp) _
    | bounded l m =>
      simp only [Wv.val]
      go_wp2_with fail
      refine (len_b l m _).mono ?_
      rintro e w3 ⟨rfl, x3⟩
      have kr := Lib.hid (hr2.out.ext x3)
      have X3 := Lib.hid (bel_call X2.out x3)
      obtain ⟨y0, y1, y2⟩ := kr.out.cells3
      have f0 := kr.out.free 0
      have f1 := kr.out.free 1
      have f2 := kr.out.free 2
      clear x3
      simp only [Wv.lv]
      go_wp2_with fail
      obtain ⟨q0, q1, q2⟩ := (((kr.out.set 0 (.bool false)).set 1 (.int .i64 (l : Int))).set 2 (.int .i64 (m : Int))).cells3
      refine bodyPost_ret (v := .tuple #[((Wv.bounded l m)).lv, .nilIface]) ?_ rfl ⟨rfl, ?_⟩
      · simp [results, Tryd.results9, go_sem, Wv.lv, q0, q1, q2]
      · exact Below.setCell (Below.setCell (Below.setCell X3.out (by simp) _) (by simp) _) (by simp) _
    | endless l =>
      simp only [Wv.val]
      go_wp2_with fail
      refine (len_e l _).mono ?_
      rintro e w3 ⟨rfl, x3⟩
      have kr := Lib.hid (hr2.out.ext x3)
      have X3 := Lib.hid (bel_call X2.out x3)
      obtain ⟨y0, y1, y2⟩ := kr.out.cells3
      have f0 := kr.out.free 0
      have f1 := kr.out.free 1
      have f2 := kr.out.free 2
      clear x3
      simp only [Wv.lv]
      go_wp2_with fail
      obtain ⟨q0, q1, q2⟩ := (((kr.out.set 0 (.bool false)).set 1 (.int .i64 (l : Int))).set 2 (.int .i64 (-1))).cells3
      refine bodyPost_ret (v := .tuple #[((Wv.endless l)).lv, .nilIface]) ?_ rfl ⟨rfl, ?_⟩
      · simp [results, Tryd.results9, go_sem, Wv.lv, q0, q1, q2]
      · exact Below.setCell (Below.setCell (Below.setCell X3.out (by simp) _) (by simp) _) (by simp) _
  · rw [if_neg h, if_neg h]
    rw [decide_eq_false h] at hc
    have HC := Lib.hid hc
    clear h hx hA hE hb hr hc e1
    go_enter Tryd.func9, Tryd.ntmps9
    go_wp2_with fail
    refine HC.out.mono ?_
    rintro e w1 ⟨rfl, x1⟩
    have X1 := Lib.hid (bel_call HE.out x1)
    have hr1 := HR.out.ext x1
    have hA1 := HA.out.ext x1
    have g0 := hA1.arg
    have kr := Lib.hid hr1
    obtain ⟨y0, y1, y2⟩ := hr1.cells3
    have f0 := hr1.free 0
    have f1 := hr1.free 1
    have f2 := hr1.free 2
    clear hr1 hA1 x1
    go_wp2_with fail
    go_region
    go_wp2_with fail
    obtain ⟨q0, q1, q2⟩ := (((kr.out.set 0 (.bool false)).set 1 (.int .i64 0)).set 2 (.int .i64 0)).cells3
    refine bodyPost_ret (v := .tuple #[lv0, errAt aA]) ?_ rfl ⟨rfl, ?_⟩
    · simp [results, Tryd.results9, go_sem, q0, q1, q2]
    · exact X1.out.trans (by go_grown)
end Go.Proofs.YtnmdfhnfheekgaaDoor
