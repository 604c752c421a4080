/- bolterref3's Parse. -/
import Derived.Test.YtnecafokkhhhhaaGreatDoorRl3
import Derived.BigRegion
namespace Go.Proofs.YtnecafokkhhhhaaGreatDoor
open Go Go.RowKit
abbrev fzer : Array Value := #[.int .i64 0, .int .i64 0, .int .i64 0, .int .i64 0, .slice none 0 0]
abbrev fcs (c q : Int) : Array Value := #[.int .i64 c, .int .i64 0, .int .i64 0, .int .i64 q, .slice none 0 0]
abbrev fag (c q : Int) : Value := .agg #[.int .i64 c, .int .i64 0, .int .i64 0, .int .i64 q, .slice none 0 0]
theorem ext_set4 {w w' : World} (h : Ext w w') {b : Nat} (hb : w.heap.size ≤ b) (y0 y1 y2 y3 : Value) : Ext w ((((w'.setCell ⟨b, 0, none⟩ y0).setCell ⟨b, 1, none⟩ y1).setCell ⟨b, 2, none⟩ y2).setCell ⟨b, 3, none⟩ y3) :=
  (((h.setCell (p := ⟨b, 0, none⟩) hb _).setCell (p := ⟨b, 1, none⟩) hb _).setCell (p := ⟨b, 2, none⟩) hb _).setCell (p := ⟨b, 3, none⟩) hb _
theorem ext_set5 {w w' : World} (h : Ext w w') {b : Nat} (hb : w.heap.size ≤ b) (y0 y1 y2 y3 y4 : Value) : Ext w (((((w'.setCell ⟨b, 0, none⟩ y0).setCell ⟨b, 1, none⟩ y1).setCell ⟨b, 2, none⟩ y2).setCell ⟨b, 3, none⟩ y3).setCell ⟨b, 4, none⟩ y4) :=
  (ext_set4 h hb y0 y1 y2 y3).setCell (p := ⟨b, 4, none⟩) hb _
theorem Blk.store5 {w : World} {b : Nat} {t : TypeId} {x0 x1 x2 x3 x4 : Value} (h : Blk w b #[x0, x1, x2, x3, x4] t) (y0 y1 y2 y3 y4 : Value) : Blk (((((w.setCell ⟨b, 0, none⟩ y0).setCell ⟨b, 1, none⟩ y1).setCell ⟨b, 2, none⟩ y2).setCell ⟨b, 3, none⟩ y3).setCell ⟨b, 4, none⟩ y4) b #[y0, y1, y2, y3, y4] t :=
  ((((h.set 0 y0).set 1 y1).set 2 y2).set 3 y3).set 4 y4
theorem Blk.other5 {w : World} {b c : Nat} {t : TypeId} {vs : Array Value} (h : Blk w c vs t) (hb : b ≠ c) (y0 y1 y2 y3 y4 : Value) : Blk (((((w.setCell ⟨b, 0, none⟩ y0).setCell ⟨b, 1, none⟩ y1).setCell ⟨b, 2, none⟩ y2).setCell ⟨b, 3, none⟩ y3).setCell ⟨b, 4, none⟩ y4) c vs t :=
  (h.other4 hb y0 y1 y2 y3).set_other (a := ⟨b, 4, none⟩) hb y4
theorem ext_of_grown {w w' : World} {r : Nat} (h : w.grownBy w' (some r)) (hr : w.heap.size ≤ r) : Ext w w' := ⟨h.os, h.tape, h.output, h.size, fun k hk => h.block k hk (by simp; omega)⟩
set_option maxHeartbeats 2000000 in
set_option maxRecDepth 20000 in
theorem rparse_no (s : ByteArray) (a : Int) (ha : a < 0 ∨ (s.size : Int) ≤ a) (w : World) :
    Calls Tryz.prog 19 #[.string s, .int .i64 a] w fun e w' => e = .returned (.tuple #[sv0, .int .i64 0, fag 3 (s.size : Int)]) ∧ Ext w w' := by
  have hx0 : Ext w ((w.alloc (.cells zer 36)).alloc (.cells fzer 25)) := by (repeat' (first | (with_reducible exact Below.refl _ _) | (with_reducible assumption) | (with_reducible refine below_drewN ?_ _) | (with_reducible refine Below.alloc ?_ ?_ _) | (with_reducible refine Below.drew ?_) | (with_reducible refine Below.setCell ?_ ?_ _) | (with_reducible refine Below.trans ?_ (Below.mono (by with_reducible assumption) ?_)) | go_size))
  have HE := Lib.hid hx0
  have HB := Lib.hid ((Blk.new w zer 36).alloc (.cells fzer 25))
  have HF := Lib.hid (show Blk ((w.alloc (.cells zer 36)).alloc (.cells fzer 25)) (w.heap.size + 1) fzer 25 from by
    have := Blk.new (w.alloc (.cells zer 36)) fzer 25
    simp only [World.size_alloc] at this
    exact this)
  clear hx0
  by_cases h0 : a < 0
  · have d1 : decide (a < 0) = true := decide_eq_true h0
    clear ha h0
    go_enter Tryz.func19, Tryz.ntmps19
    go_wp2_with fail
    refine (rat_any 3 (s.size : Int) _).mono ?_
    rintro e w2 ⟨rfl, hE2⟩
    have B2 := HB.out.ext hE2
    have F2 := HF.out.ext hE2
    have E2 := Lib.hid (bel_call HE.out hE2)
    obtain ⟨z0, z1, z2, z3⟩ := B2.cells4
    have f0 := B2.free 0
    have f1 := B2.free 1
    have f2 := B2.free 2
    have f3 := B2.free 3
    have hlt := B2.lt
    have b2 := B2.store4 (.int .u64 0) (.int .u64 0) (.int .u64 0) (.int .u64 0)
    have g2 := F2.other4 (b := w.heap.size) (by omega) (.int .u64 0) (.int .u64 0) (.int .u64 0) (.int .u64 0)
    obtain ⟨q0, q1, q2, q3, q4⟩ := g2.cells5
    have g0 := g2.free 0
    have g1 := g2.free 1
    have gg2 := g2.free 2
    have g3 := g2.free 3
    have g4 := g2.free 4
    have hlt2 := g2.lt
    obtain ⟨y0, y1, y2, y3⟩ := (b2.other5 (b := w.heap.size + 1) (by omega) (.int .i64 3) (.int .i64 0) (.int .i64 0) (.int .i64 (s.size : Int)) (.slice none 0 0)).cells4
    obtain ⟨x0, x1, x2, x3, x4⟩ := (g2.store5 (.int .i64 3) (.int .i64 0) (.int .i64 0) (.int .i64 (s.size : Int)) (.slice none 0 0)).cells5
    have EZ := Lib.hid (ext_set5 (ext_set4 E2.out (Nat.le_refl _) (.int .u64 0) (.int .u64 0) (.int .u64 0) (.int .u64 0)) (b := w.heap.size + 1) (by omega) (.int .i64 3) (.int .i64 0) (.int .i64 0) (.int .i64 (s.size : Int)) (.slice none 0 0))
    clear B2 F2 b2 g2 hE2 HE HB HF
    go_wp2_with fail
    refine bodyPost_ret (v := .tuple #[sv0, .int .i64 0, fag 3 (s.size : Int)]) ?_ rfl ⟨rfl, EZ.out⟩
    simp [results, Tryz.results19, go_sem, x0, x1, x2, x3, x4, y0, y1, y2, y3]
  · have d1 : decide (a < 0) = false := decide_eq_false h0
    have d2 : decide ((s.size : Int) ≤ a) = true := by simp; omega
    clear ha h0
    go_enter Tryz.func19, Tryz.ntmps19
    go_wp2_with fail
    refine (rat_any 3 (s.size : Int) _).mono ?_
    rintro e w2 ⟨rfl, hE2⟩
    have B2 := HB.out.ext hE2
    have F2 := HF.out.ext hE2
    have E2 := Lib.hid (bel_call HE.out hE2)
    obtain ⟨z0, z1, z2, z3⟩ := B2.cells4
    have f0 := B2.free 0
    have f1 := B2.free 1
    have f2 := B2.free 2
    have f3 := B2.free 3
    have hlt := B2.lt
    have b2 := B2.store4 (.int .u64 0) (.int .u64 0) (.int .u64 0) (.int .u64 0)
    have g2 := F2.other4 (b := w.heap.size) (by omega) (.int .u64 0) (.int .u64 0) (.int .u64 0) (.int .u64 0)
    obtain ⟨q0, q1, q2, q3, q4⟩ := g2.cells5
    have g0 := g2.free 0
    have g1 := g2.free 1
    have gg2 := g2.free 2
    have g3 := g2.free 3
    have g4 := g2.free 4
    have hlt2 := g2.lt
    obtain ⟨y0, y1, y2, y3⟩ := (b2.other5 (b := w.heap.size + 1) (by omega) (.int .i64 3) (.int .i64 0) (.int .i64 0) (.int .i64 (s.size : Int)) (.slice none 0 0)).cells4
    obtain ⟨x0, x1, x2, x3, x4⟩ := (g2.store5 (.int .i64 3) (.int .i64 0) (.int .i64 0) (.int .i64 (s.size : Int)) (.slice none 0 0)).cells5
    have EZ := Lib.hid (ext_set5 (ext_set4 E2.out (Nat.le_refl _) (.int .u64 0) (.int .u64 0) (.int .u64 0) (.int .u64 0)) (b := w.heap.size + 1) (by omega) (.int .i64 3) (.int .i64 0) (.int .i64 0) (.int .i64 (s.size : Int)) (.slice none 0 0))
    clear B2 F2 b2 g2 hE2 HE HB HF
    go_wp2_with fail
    refine bodyPost_ret (v := .tuple #[sv0, .int .i64 0, fag 3 (s.size : Int)]) ?_ rfl ⟨rfl, EZ.out⟩
    simp [results, Tryz.results19, go_sem, x0, x1, x2, x3, x4, y0, y1, y2, y3]
set_option maxHeartbeats 2000000 in
set_option maxRecDepth 20000 in
theorem rparse_at (s : ByteArray) (i : Nat) (hs : s.size ≤ 4294967000) (hi : i < s.size) (x : Sum (Bool × Nat) (BitVec 256 × Nat)) (hx : cls unq ((rest s i).length + 1) 0 (rest s i) i = x) (w : World) :
    Calls Tryz.prog 19 #[.string s, .int .i64 (i : Int)] w fun e w' => e = .returned (.tuple #[sv (pS x), .int .i64 (pN x), fag (erC (pE x)) (erA (pE x))]) ∧ Ext w w' := by
  have hx0 : Ext w (((w.alloc (.cells zer 36)).alloc (.cells fzer 25)).alloc (.cells (rcs s i 0 0 0) 93)) := by (repeat' (first | (with_reducible exact Below.refl _ _) | (with_reducible assumption) | (with_reducible refine below_drewN ?_ _) | (with_reducible refine Below.alloc ?_ ?_ _) | (with_reducible refine Below.drew ?_) | (with_reducible refine Below.setCell ?_ ?_ _) | (with_reducible refine Below.trans ?_ (Below.mono (by with_reducible assumption) ?_)) | go_size))
  have HE := Lib.hid hx0
  have HB := Lib.hid (((Blk.new w zer 36).alloc (.cells fzer 25)).alloc (.cells (rcs s i 0 0 0) 93))
  have HF := Lib.hid (show Blk (((w.alloc (.cells zer 36)).alloc (.cells fzer 25)).alloc (.cells (rcs s i 0 0 0) 93)) (w.heap.size + 1) fzer 25 from by
    have := (Blk.new (w.alloc (.cells zer 36)) fzer 25).alloc (.cells (rcs s i 0 0 0) 93)
    simp only [World.size_alloc] at this
    exact this)
  have HR := Lib.hid (show RR (((w.alloc (.cells zer 36)).alloc (.cells fzer 25)).alloc (.cells (rcs s i 0 0 0) 93)) (w.heap.size + 2) s i 0 0 0 from ⟨by
    have := Blk.new ((w.alloc (.cells zer 36)).alloc (.cells fzer 25)) (rcs s i 0 0 0) 93
    simp only [World.size_alloc] at this
    exact this, hs⟩)
  have HCL := Lib.hid (fun w1 h => rclass_ok ((rest s i).length + 1) _ (Nat.le_refl _) (w.heap.size + 2) s i w1 0 x h (by omega) (by omega) (Nat.lt_succ_self _) hx)
  have d1 : decide ((i : Int) < 0) = false := by simp
  have d2 : decide ((s.size : Int) ≤ (i : Int)) = false := by simp; omega
  have d2n : decide (s.size ≤ i) = false := by simp; omega
  clear hx0
  go_enter Tryz.func19, Tryz.ntmps19
  go_wp2_with fail
  generalize ((w.alloc (.cells zer 36)).alloc (.cells fzer 25)).alloc (.cells (rcs s i 0 0 0) 93) = w1 at HE HB HF HR ⊢
  refine (HCL.out _ HR.out).mono ?_
  rintro e w2 hce
  clear HCL hx d1 d2 d2n
  cases x with
  | inl bq =>
    obtain ⟨b, q⟩ := bq
    obtain ⟨T, j, hj, rfl, hG, hR⟩ := hce
    have hx3 : Ext w2 (w2.alloc (.cells (svs T) 36)) := by (repeat' (first | (with_reducible exact Below.refl _ _) | (with_reducible assumption) | (with_reducible refine below_drewN ?_ _) | (with_reducible refine Below.alloc ?_ ?_ _) | (with_reducible refine Below.drew ?_) | (with_reducible refine Below.setCell ?_ ?_ _) | (with_reducible refine Below.trans ?_ (Below.mono (by with_reducible assumption) ?_)) | go_size))
    have B3 := Lib.hid ((HB.out.grown hG (by simp)).ext hx3)
    have F3 := Lib.hid ((HF.out.grown hG (by simp)).ext hx3)
    have R3 := Lib.hid (hR.ext hx3)
    have E3 := Lib.hid (bel_call (ext_of_grown (grown_trans (grown_of_ext HE.out) hG) (by omega)) hx3)
    have hok := rok_any (w.heap.size + 2) s j 0 (if b = true then 4 else 3) q _ R3.out false (by cases b <;> decide)
    clear hG hR HE HB HF HR hx3
    go_wp2_with fail
    refine hok.mono ?_
    rintro e w4 ⟨rfl, hE4⟩
    have B4 := Lib.hid (B3.out.ext hE4)
    have F4 := Lib.hid (F3.out.ext hE4)
    have R4 := Lib.hid (R3.out.ext hE4)
    have E4 := Lib.hid (bel_call E3.out hE4)
    clear hE4 hok B3 F3 R3 E3
    obtain ⟨C, hC⟩ : ∃ C : Int, (if b = true then (4 : Int) else 3) = C := ⟨_, rfl⟩
    rw [hC] at R4
    have HC := Lib.hid (show erC (pE (.inl (b, q))) = C ∧ erA (pE (.inl (b, q))) = (q : Int) from ⟨by rw [← hC]; cases b <;> rfl, rfl⟩)
    clear hC
    have k3 := R4.out.blk.cell 3
    have k4 := R4.out.blk.cell 4
    have k5 := R4.out.blk.cell 5
    have k6 := R4.out.blk.cell 6
    have k7 := R4.out.blk.cell 7
    have B2 := B4.out
    have F2 := F4.out
    obtain ⟨z0, z1, z2, z3⟩ := B2.cells4
    have f0 := B2.free 0
    have f1 := B2.free 1
    have f2 := B2.free 2
    have f3 := B2.free 3
    have hlt := B2.lt
    have g0 := F2.free 0
    have g1 := F2.free 1
    have gg2 := F2.free 2
    have g3 := F2.free 3
    have g4 := F2.free 4
    obtain ⟨q0, q1, q2, q3, q4⟩ := F2.cells5
    have hlt2 := F2.lt
    clear B2 F2
    go_wp2_with fail
    go_region
    have b2 := B4.out.store4 (.int .u64 0) (.int .u64 0) (.int .u64 0) (.int .u64 0)
    have g2 := F4.out.other4 (b := w.heap.size) (by omega) (.int .u64 0) (.int .u64 0) (.int .u64 0) (.int .u64 0)
    obtain ⟨y0, y1, y2, y3⟩ := (b2.other5 (b := w.heap.size + 1) (by omega) (.int .i64 C) (.int .i64 0) (.int .i64 0) (.int .i64 (q : Int)) (.slice none 0 0)).drew.cells4
    obtain ⟨x0, x1, x2, x3, x4⟩ := (g2.store5 (.int .i64 C) (.int .i64 0) (.int .i64 0) (.int .i64 (q : Int)) (.slice none 0 0)).drew.cells5
    have EZ := Lib.hid (Below.drew (ext_set5 (ext_set4 E4.out (Nat.le_refl _) (.int .u64 0) (.int .u64 0) (.int .u64 0) (.int .u64 0)) (b := w.heap.size + 1) (by omega) (.int .i64 C) (.int .i64 0) (.int .i64 0) (.int .i64 (q : Int)) (.slice none 0 0)))
    clear b2 g2 B4 F4 z0 z1 z2 z3 q0 q1 q2 q3 q4
    go_wp2_with fail
    refine bodyPost_ret (v := .tuple #[sv0, .int .i64 0, fag C (q : Int)]) ?_ rfl ⟨by rw [HC.out.1, HC.out.2]; simp only [pS, pN, sv_zero], EZ.out⟩
    simp [results, Tryz.results19, go_sem, x0, x1, x2, x3, x4, y0, y1, y2, y3]
  | inr Tm =>
    obtain ⟨T, m⟩ := Tm
    obtain ⟨rfl, hm, hG, hR⟩ := hce
    have hx3 : Ext w2 (w2.alloc (.cells (svs T) 36)) := by (repeat' (first | (with_reducible exact Below.refl _ _) | (with_reducible assumption) | (with_reducible refine below_drewN ?_ _) | (with_reducible refine Below.alloc ?_ ?_ _) | (with_reducible refine Below.drew ?_) | (with_reducible refine Below.setCell ?_ ?_ _) | (with_reducible refine Below.trans ?_ (Below.mono (by with_reducible assumption) ?_)) | go_size))
    have B3 := Lib.hid ((HB.out.grown hG (by simp)).ext hx3)
    have F3 := Lib.hid ((HF.out.grown hG (by simp)).ext hx3)
    have R3 := Lib.hid (hR.ext hx3)
    have T3 := Lib.hid (Blk.new w2 (svs T) 36)
    have E3 := Lib.hid (bel_call (ext_of_grown (grown_trans (grown_of_ext HE.out) hG) (by omega)) hx3)
    have hok := rok_any (w.heap.size + 2) s m 0 0 0 _ R3.out true (by decide)
    clear hG hR HE HB HF HR hx3
    go_wp2_with fail
    refine hok.mono ?_
    rintro e w4 ⟨rfl, hE4⟩
    have B4 := Lib.hid (B3.out.ext hE4)
    have F4 := Lib.hid (F3.out.ext hE4)
    have R4 := Lib.hid (R3.out.ext hE4)
    have T4 := Lib.hid (T3.out.ext hE4)
    have E4 := Lib.hid (bel_call E3.out hE4)
    clear hE4 hok B3 F3 R3 E3 T3
    have k1 := R4.out.blk.cell 1
    obtain ⟨t0, t1, t2, t3⟩ := T4.out.cells4
    have B2 := B4.out
    have F2 := F4.out
    obtain ⟨z0, z1, z2, z3⟩ := B2.cells4
    have f0 := B2.free 0
    have f1 := B2.free 1
    have f2 := B2.free 2
    have f3 := B2.free 3
    have hlt := B2.lt
    have g0 := F2.free 0
    have g1 := F2.free 1
    have gg2 := F2.free 2
    have g3 := F2.free 3
    have g4 := F2.free 4
    obtain ⟨q0, q1, q2, q3, q4⟩ := F2.cells5
    have hlt2 := F2.lt
    clear B2 F2
    go_wp2_with fail
    go_region
    have b2 := B4.out.store4 (.int .u64 (wd T 0)) (.int .u64 (wd T 1)) (.int .u64 (wd T 2)) (.int .u64 (wd T 3))
    have g2 := F4.out.other4 (b := w.heap.size) (by omega) (.int .u64 (wd T 0)) (.int .u64 (wd T 1)) (.int .u64 (wd T 2)) (.int .u64 (wd T 3))
    obtain ⟨y0, y1, y2, y3⟩ := (b2.other5 (b := w.heap.size + 1) (by omega) (.int .i64 0) (.int .i64 0) (.int .i64 0) (.int .i64 0) (.slice none 0 0)).drew.cells4
    obtain ⟨x0, x1, x2, x3, x4⟩ := (g2.store5 (.int .i64 0) (.int .i64 0) (.int .i64 0) (.int .i64 0) (.slice none 0 0)).drew.cells5
    have EZ := Lib.hid (Below.drew (ext_set5 (ext_set4 E4.out (Nat.le_refl _) (.int .u64 (wd T 0)) (.int .u64 (wd T 1)) (.int .u64 (wd T 2)) (.int .u64 (wd T 3))) (b := w.heap.size + 1) (by omega) (.int .i64 0) (.int .i64 0) (.int .i64 0) (.int .i64 0) (.slice none 0 0)))
    clear b2 g2 B4 F4 z0 z1 z2 z3 q0 q1 q2 q3 q4
    go_wp2_with fail
    refine bodyPost_ret (v := .tuple #[sv T, .int .i64 (m : Int), fag 0 0]) ?_ rfl ⟨rfl, EZ.out⟩
    simp [results, Tryz.results19, go_sem, x0, x1, x2, x3, x4, y0, y1, y2, y3]
theorem rparse_any (s : ByteArray) (a : Int) (hs : s.size ≤ 4294967000) (x : Sum (Bool × Nat) (BitVec 256 × Nat)) (hx : prs s a = x) (w : World) :
    Calls Tryz.prog 19 #[.string s, .int .i64 a] w fun e w' => e = .returned (.tuple #[sv (pS x), .int .i64 (pN x), fag (erC (pE x)) (erA (pE x))]) ∧ Ext w w' := by
  by_cases ha : a < 0 ∨ (s.size : Int) ≤ a
  · have hp : pos s a = s.size := by
      unfold pos
      split
      · rfl
      · rename_i h2
        simp only [not_or, Int.not_lt] at h2
        omega
    unfold prs at hx
    rw [hp, rest_end s _ (Nat.le_refl _)] at hx
    have e : x = .inl (false, s.size) := by rw [← hx]; rfl
    subst e
    refine (rparse_no s a ha w).mono ?_
    rintro e w' ⟨rfl, hE⟩
    exact ⟨by simp only [pS, pN, sv_zero]; rfl, hE⟩
  · obtain ⟨i, rfl⟩ : ∃ i : Nat, a = (i : Int) := ⟨a.toNat, by omega⟩
    have hp : pos s i = i := by
      unfold pos
      rw [if_neg (by omega)]; omega
    unfold prs at hx
    rw [hp] at hx
    exact rparse_at s i hs (by omega) x hx w
end Go.Proofs.YtnecafokkhhhhaaGreatDoor
