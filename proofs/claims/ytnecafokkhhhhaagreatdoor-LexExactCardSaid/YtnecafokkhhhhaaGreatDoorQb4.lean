/- bolterref4: mark. -/
import Derived.Test.YtnecafokkhhhhaaGreatDoorMM
import Derived.Test.YtnecafokkhhhhaaGreatDoorMC
import Derived.Test.YtnecafokkhhhhaaGreatDoorNmd
import Derived.BigRegion
import Derived.BigQuiet
import Derived.Deep.CutBlock
import Derived.Deep.CutRange
namespace Go.Proofs.YtnecafokkhhhhaaGreatDoor
open Go Go.RowKit
def mAll : List UInt8 := [40, 41, 124, 42, 43, 63, 123, 125, 44, 47, 60, 62, 61]
/-- What mark answers. -/
def QmEnd (w w' : World) (k : Nat) (T : ByteArray) (m : Nat) (e : Ending) : Bool → Prop
  | false => ∃ (kd a en : Int) (T : ByteArray) (n x0 x1 x2 x3 : Int), e = .returned (.tuple #[.agg (lcs kd a en T n x0 x1 x2 x3), fag 3 (k : Int)]) ∧ Ext w w'
  | true => e = .returned (.tuple #[.agg (lcs 5 k ((k : Int) + m) T 0 0 0 0 0), fag 0 0]) ∧ Ext w w'
theorem mkl_all (c : Nat) (t : List UInt8) (C : UInt8) (hc : C.toNat = c) : (C ∈ mAll → mkl c t = (if c = 61 ∧ Lib.hasPrefix t [62] = true then 2 else 1)) ∧ (C ∉ mAll → mkl c t = 0 ∧ c ≠ 61) := by
  have key : C ∈ mAll ↔ (c = 61 ∨ c ∈ mrks) := by
    have h : ∀ n, n < 256 → (UInt8.ofNat n ∈ mAll ↔ (n = 61 ∨ n ∈ mrks)) := by decide +kernel
    have h2 := h C.toNat C.toNat_lt
    rw [UInt8.ofNat_toNat, hc] at h2
    exact h2
  refine ⟨fun h => ?_, fun h => ?_⟩
  · unfold mkl
    rcases key.1 h with e | e
    · rw [if_pos e]
      by_cases hp : Lib.hasPrefix t [62] = true
      · rw [if_pos hp, if_pos ⟨e, hp⟩]
      · rw [if_neg hp, if_neg (fun x => hp x.2)]
    · have h61 : c ≠ 61 := by intro e2; subst e2; revert e; decide
      rw [if_neg h61, if_pos e, if_neg (fun x => h61 x.1)]
  · have h2 := fun x => h (key.2 x)
    have h61 : c ≠ 61 := fun e => h2 (.inl e)
    unfold mkl
    rw [if_neg h61, if_neg (fun e => h2 (.inr e))]
    exact ⟨rfl, h61⟩
set_option maxHeartbeats 4000000 in
set_option maxRecDepth 20000 in
theorem qmark_any (s : ByteArray) (k : Nat) (hs : s.size ≤ 65536) (C : UInt8) (hC : rest s k = C :: rest s (k + 1)) (w : World) :
    Calls Tryz.prog 22 #[.string s, .int .i64 (k : Int), .agg (lcs 0 (k : Int) ((k : Int) + 1) ⟨#[]⟩ 0 0 0 0 0)] w fun e w' => QmEnd w w' k (s.extract k (k + (if C.toNat = 61 ∧ Lib.hasPrefix (rest s (k + 1)) [62] = true then 2 else 1))) (if C.toNat = 61 ∧ Lib.hasPrefix (rest s (k + 1)) [62] = true then 2 else 1) e (decide (C ∈ mAll)) := by
  have hk : k < s.size := by
    rcases Nat.lt_or_ge k s.size with h | h
    · exact h
    · rw [lx_end s k h] at hC; cases hC
  have hix := idx_at s k (k : Int) rfl C _ hC
  have hx0 : Ext w (((w.alloc (.cells (lcs 0 (k : Int) ((k : Int) + 1) ⟨#[]⟩ 0 0 0 0 0) 38)).alloc (.cells lxz 38)).alloc (.cells fzer 25)) := by (repeat' (first | (with_reducible exact Below.refl _ _) | (with_reducible assumption) | (with_reducible refine below_drewN ?_ _) | (with_reducible refine Below.alloc ?_ ?_ _) | (with_reducible refine Below.drew ?_) | (with_reducible refine Below.setCell ?_ ?_ _) | (with_reducible refine Below.trans ?_ (Below.mono (by with_reducible assumption) ?_)) | go_size))
  have HE := Lib.hid hx0
  have HX := Lib.hid (((Blk.new w (lcs 0 (k : Int) ((k : Int) + 1) ⟨#[]⟩ 0 0 0 0 0) 38).alloc (.cells lxz 38)).alloc (.cells fzer 25))
  have HR := Lib.hid (show Blk (((w.alloc (.cells (lcs 0 (k : Int) ((k : Int) + 1) ⟨#[]⟩ 0 0 0 0 0) 38)).alloc (.cells lxz 38)).alloc (.cells fzer 25)) (w.heap.size + 1) lxz 38 from by
    have := (Blk.new (w.alloc (.cells (lcs 0 (k : Int) ((k : Int) + 1) ⟨#[]⟩ 0 0 0 0 0) 38)) lxz 38).alloc (.cells fzer 25)
    simp only [World.size_alloc] at this
    exact this)
  have HF := Lib.hid (show Blk (((w.alloc (.cells (lcs 0 (k : Int) ((k : Int) + 1) ⟨#[]⟩ 0 0 0 0 0) 38)).alloc (.cells lxz 38)).alloc (.cells fzer 25)) (w.heap.size + 2) fzer 25 from by
    have := Blk.new ((w.alloc (.cells (lcs 0 (k : Int) ((k : Int) + 1) ⟨#[]⟩ 0 0 0 0 0) 38)).alloc (.cells lxz 38)) fzer 25
    simp only [World.size_alloc] at this
    exact this)
  clear hx0
  obtain ⟨m, hm⟩ : ∃ m, (if C.toNat = 61 ∧ Lib.hasPrefix (rest s (k + 1)) [62] = true then 2 else 1) = m := ⟨_, rfl⟩
  rw [hm]
  have hm12 : (m = 2 ∧ C.toNat = 61 ∧ Lib.hasPrefix (rest s (k + 1)) [62] = true) ∨ (m = 1 ∧ ¬(C.toNat = 61 ∧ Lib.hasPrefix (rest s (k + 1)) [62] = true)) := by
    by_cases h : C.toNat = 61 ∧ Lib.hasPrefix (rest s (k + 1)) [62] = true
    · rw [if_pos h] at hm; exact .inl ⟨hm.symm, h⟩
    · rw [if_neg h] at hm; exact .inr ⟨hm.symm, h⟩
  clear hm
  obtain ⟨b, hb⟩ : ∃ b, decide (C ∈ mAll) = b := ⟨_, rfl⟩
  rw [hb]
  have HB := Lib.hid hb
  clear hb
  rcases hm12 with ⟨rfl, h61, hp⟩ | ⟨rfl, hno⟩
  · have hk2 : k + 2 ≤ s.size := by
      have h1 := pfx_len hp
      have h2 := rest_len (show k + 1 ≤ s.size by omega)
      simp at h1
      omega
    have d1 : decide ((k : Int) + 1 < (s.size : Int)) = true := by simp; omega
    have hsl : (0 : Int) ≤ (k : Int) := by omega
    have hsl1 : (k : Int) ≤ (k : Int) + 2 := by omega
    have hsl2 : (k : Int) + 2 ≤ (s.size : Int) := by omega
    have hslt : ((k : Int) + 2).toNat = k + 2 := by omega
    have hq : ((s.extract k (k + 2)).toList == [61, 62]) = true := by
      rw [str_eq]
      refine decide_eq_true ?_
      rw [ext_lst, hC]
      obtain ⟨t, ht⟩ := List.isPrefixOf_iff_prefix.1 hp
      rw [← ht, show C = 61 from UInt8.toNat_inj.1 (h61.trans rfl)]
      rfl
    go_enter Tryz.func22, Tryz.ntmps22
    go_upto_region 1 with fail
    generalize ((w.alloc (.cells (lcs 0 (k : Int) ((k : Int) + 1) ⟨#[]⟩ 0 0 0 0 0) 38)).alloc (.cells lxz 38)).alloc (.cells fzer 25) = w1 at HX HR HF HE ⊢
    have kX := HX.out
    have x0 := kX.cell 0
    have x2 := kX.cell 2
    have x3 := kX.cell 3
    have fx0 := kX.free 0
    have fx2 := kX.free 2
    have fx3 := kX.free 3
    have hltX := kX.lt
    replace HX := Lib.hid (show Blk (((w1.setCell ⟨w.heap.size, 0, none⟩ (.int .i64 5)).setCell ⟨w.heap.size, 2, none⟩ (.int .i64 ((k : Int) + 2))).setCell ⟨w.heap.size, 3, none⟩ (.string (s.extract k (k + 2)))) (w.heap.size) (lcs (5) ((k : Int)) ((k : Int) + 2) (s.extract k (k + 2)) (0) (0) (0) (0) (0)) 38 from (((kX.set 0 (.int .i64 5)).set 2 (.int .i64 ((k : Int) + 2))).set 3 (.string (s.extract k (k + 2)))))
    replace HR := Lib.hid (((HR.out.set_other (a := ⟨w.heap.size, 0, none⟩) (by show w.heap.size ≠ w.heap.size + 1; omega) (.int .i64 5)).set_other (a := ⟨w.heap.size, 2, none⟩) (by show w.heap.size ≠ w.heap.size + 1; omega) (.int .i64 ((k : Int) + 2))).set_other (a := ⟨w.heap.size, 3, none⟩) (by show w.heap.size ≠ w.heap.size + 1; omega) (.string (s.extract k (k + 2))))
    replace HF := Lib.hid (((HF.out.set_other (a := ⟨w.heap.size, 0, none⟩) (by show w.heap.size ≠ w.heap.size + 2; omega) (.int .i64 5)).set_other (a := ⟨w.heap.size, 2, none⟩) (by show w.heap.size ≠ w.heap.size + 2; omega) (.int .i64 ((k : Int) + 2))).set_other (a := ⟨w.heap.size, 3, none⟩) (by show w.heap.size ≠ w.heap.size + 2; omega) (.string (s.extract k (k + 2))))
    replace HE := Lib.hid (show Ext w (((w1.setCell ⟨w.heap.size, 0, none⟩ (.int .i64 5)).setCell ⟨w.heap.size, 2, none⟩ (.int .i64 ((k : Int) + 2))).setCell ⟨w.heap.size, 3, none⟩ (.string (s.extract k (k + 2)))) from (((HE.out.setCell (p := ⟨w.heap.size, 0, none⟩) (by show w.heap.size ≤ w.heap.size; omega) (.int .i64 5)).setCell (p := ⟨w.heap.size, 2, none⟩) (by show w.heap.size ≤ w.heap.size; omega) (.int .i64 ((k : Int) + 2))).setCell (p := ⟨w.heap.size, 3, none⟩) (by show w.heap.size ≤ w.heap.size; omega) (.string (s.extract k (k + 2)))))
    clear kX
    go_upto_region 5 with fail
    generalize (((w1.setCell ⟨w.heap.size, 0, none⟩ (.int .i64 5)).setCell ⟨w.heap.size, 2, none⟩ (.int .i64 ((k : Int) + 2))).setCell ⟨w.heap.size, 3, none⟩ (.string (s.extract k (k + 2)))) = w2 at HX HR HF HE ⊢
    clear x0 x2 x3 fx0 fx2 fx3 hltX
    clear d1 hq hsl hsl1 hsl2 hslt hk2 hp
    go_upto_region 7 with fail
    go_loopw [9] (fun i wr => ∃ j : Nat, j ≤ 13 ∧ i = .int .i64 j ∧ Hid (∀ d ∈ mAll.take j, d ≠ C) ∧ Hid (Blk wr (w.heap.size) (lcs (5) ((k : Int)) ((k : Int) + 2) (s.extract k (k + 2)) (0) (0) (0) (0) (0)) 38) ∧ Hid (Blk wr (w.heap.size + 1) lxz 38) ∧ Hid (Blk wr (w.heap.size + 2) fzer 25) ∧ Hid (Ext w wr)) (fun i _ => 13 - (intOf i).toNat)
    case atStart => exact ⟨0, by omega, rfl, Lib.hid (by simp), HX, HR, HF, HE⟩
    case round =>
      clear HX HR HF HE
      obtain ⟨j, hj, rfl, hA, HX, HR, HF, HE⟩ := hrel
      by_cases hj13 : j < 13
      · have d1 : decide ((j : Int) < 13) = true := by simp; omega
        have d1n : decide (j < 13) = true := by simp; omega
        have hjl : j < mAll.length := hj13
        obtain ⟨D, hD⟩ : ∃ D, mAll[j] = D := ⟨_, rfl⟩
        have hiA : ∀ w, (Instr.index 9 (.string ⟨#[40, 41, 124, 42, 43, 63, 123, 125, 44, 47, 60, 62, 61]⟩) (.int .i64 (j : Int))).run Tryz.prog w = .ok (.int .u8 (D.toNat : Int)) w := by
          refine idx_at ⟨#[40, 41, 124, 42, 43, 63, 123, 125, 44, 47, 60, 62, 61]⟩ j (j : Int) rfl D (mAll.drop (j + 1)) ?_
          rw [← hD]
          exact List.drop_eq_getElem_cons hjl
        by_cases he : C = D
        · have e1 : ((C.toNat : Int) == (D.toNat : Int)) = true := by rw [he]; simp
          have hb : b = true := by
            rw [← HB.out]
            refine decide_eq_true ?_
            rw [he, ← hD]
            exact List.getElem_mem hjl
          subst hb
          clear HB hA
          go_wp2_with fail
          go_quiet (fail)
          replace HX := Lib.hid (HX.out.drewN nq)
          replace HR := Lib.hid (HR.out.drewN nq)
          replace HF := Lib.hid (HF.out.drewN nq)
          replace HE := Lib.hid (bel_call HE.out (drew_ext wr nq))
          go_upto_region 10 with fail
          generalize wr.drewN nq = w4 at HX HR HF HE ⊢
          clear hix hiA e1 d1 d1n
          have kX := HX.out
          have x0 := kX.cell 0
          have x1 := kX.cell 1
          have x2 := kX.cell 2
          have x3 := kX.cell 3
          have x4 := kX.cell 4
          have x5 := kX.cell 5
          have x6 := kX.cell 6
          have x7 := kX.cell 7
          have x8 := kX.cell 8
          have kR := HR.out
          have z0 := kR.cell 0
          have z1 := kR.cell 1
          have z2 := kR.cell 2
          have z3 := kR.cell 3
          have z4 := kR.cell 4
          have z5 := kR.cell 5
          have z6 := kR.cell 6
          have z7 := kR.cell 7
          have z8 := kR.cell 8
          have f0 := kR.free 0
          have f1 := kR.free 1
          have f2 := kR.free 2
          have f3 := kR.free 3
          have f4 := kR.free 4
          have f5 := kR.free 5
          have f6 := kR.free 6
          have f7 := kR.free 7
          have f8 := kR.free 8
          have hltR := kR.lt
          have kF := HF.out
          have q0 := kF.cell 0
          have q1 := kF.cell 1
          have q2 := kF.cell 2
          have q3 := kF.cell 3
          have q4 := kF.cell 4
          have g0 := kF.free 0
          have g1 := kF.free 1
          have g2 := kF.free 2
          have g3 := kF.free 3
          have g4 := kF.free 4
          have hltF := kF.lt
          have KR := Lib.hid ((kR.sto9 (.int .i64 (5)) (.int .i64 ((k : Int))) (.int .i64 ((k : Int) + 2)) (.string (s.extract k (k + 2))) (.int .i64 (0)) (.int .u64 (0)) (.int .u64 (0)) (.int .u64 (0)) (.int .u64 (0))).oth5 (b := w.heap.size + 2) (by omega) (.int .i64 (0)) (.int .i64 0) (.int .i64 0) (.int .i64 (0)) (.slice none 0 0))
          have KF := Lib.hid ((kF.oth9 (b := w.heap.size + 1) (by omega) (.int .i64 (5)) (.int .i64 ((k : Int))) (.int .i64 ((k : Int) + 2)) (.string (s.extract k (k + 2))) (.int .i64 (0)) (.int .u64 (0)) (.int .u64 (0)) (.int .u64 (0)) (.int .u64 (0))).store5 (.int .i64 (0)) (.int .i64 0) (.int .i64 0) (.int .i64 (0)) (.slice none 0 0))
          have EZ := Lib.hid (ext_set5 (ext_set9 HE.out (b := w.heap.size + 1) (by omega) (.int .i64 (5)) (.int .i64 ((k : Int))) (.int .i64 ((k : Int) + 2)) (.string (s.extract k (k + 2))) (.int .i64 (0)) (.int .u64 (0)) (.int .u64 (0)) (.int .u64 (0)) (.int .u64 (0))) (b := w.heap.size + 2) (by omega) (.int .i64 (0)) (.int .i64 0) (.int .i64 0) (.int .i64 (0)) (.slice none 0 0))
          clear kX kR kF HR HF HX HE
          go_wp2_with fail
          have y0 := (KR.out).cell 0
          have y1 := (KR.out).cell 1
          have y2 := (KR.out).cell 2
          have y3 := (KR.out).cell 3
          have y4 := (KR.out).cell 4
          have y5 := (KR.out).cell 5
          have y6 := (KR.out).cell 6
          have y7 := (KR.out).cell 7
          have y8 := (KR.out).cell 8
          have t0 := (KF.out).cell 0
          have t1 := (KF.out).cell 1
          have t2 := (KF.out).cell 2
          have t3 := (KF.out).cell 3
          have t4 := (KF.out).cell 4
          refine bodyPost_ret (v := .tuple #[.agg #[.int .i64 (5), .int .i64 ((k : Int)), .int .i64 ((k : Int) + 2), .string (s.extract k (k + 2)), .int .i64 (0), .int .u64 (0), .int .u64 (0), .int .u64 (0), .int .u64 (0)], fag (0) (0)]) ?_ rfl ?_
          · simp [results, Tryz.results22, go_sem, y0, y1, y2, y3, y4, y5, y6, y7, y8, t0, t1, t2, t3, t4]
          · exact ⟨rfl, EZ.out⟩
        · have e1 : ((C.toNat : Int) == (D.toNat : Int)) = false := by
            have : C.toNat ≠ D.toNat := fun e => he (UInt8.toNat_inj.1 e)
            simp; omega
          have HA2 := Lib.hid (show ∀ d ∈ mAll.take (j + 1), d ≠ C from by
            rw [List.take_succ_eq_append_getElem hjl, hD]
            intro d hd
            rcases List.mem_append.1 hd with h | h
            · exact hA.out d h
            · rw [List.mem_singleton.1 h]; exact fun e => he e.symm)
          go_wp2_with fail
          go_quiet (fail)
          go_wp2_with fail
          go_roundw
          case rel => exact ⟨j + 1, by omega, by go_num, HA2, Lib.hid (HX.out.drewN _), Lib.hid (HR.out.drewN _), Lib.hid (HF.out.drewN _), Lib.hid (bel_call HE.out (drew_ext _ _))⟩
          case measure => simp [intOf]; omega
      · have d1 : decide ((j : Int) < 13) = false := by simp; omega
        have d1n : decide (j < 13) = false := by simp; omega
        have hb : b = false := by
          rw [← HB.out]
          refine decide_eq_false fun h => ?_
          have := hA.out C (by rw [List.take_of_length_le (by show 13 ≤ j; omega)]; exact h)
          exact this rfl
        subst hb
        clear HB hA hix
        go_upto_region 11 with fail
        clear d1 d1n
        have kX := HX.out
        have x0 := kX.cell 0
        have x1 := kX.cell 1
        have x2 := kX.cell 2
        have x3 := kX.cell 3
        have x4 := kX.cell 4
        have x5 := kX.cell 5
        have x6 := kX.cell 6
        have x7 := kX.cell 7
        have x8 := kX.cell 8
        clear kX
        go_wp2_with fail
        go_region_with (first | (go_at_call 16; refine (rat_any (3) ((k : Int)) _).mono ?_; rintro e w9 ⟨rfl, hE9⟩; replace hE9 : Ext wr w9 := bel_call (by (repeat' (first | (with_reducible exact Below.refl _ _) | (with_reducible assumption) | (with_reducible refine below_drewN ?_ _) | (with_reducible refine Below.alloc ?_ ?_ _) | (with_reducible refine Below.drew ?_) | (with_reducible refine Below.setCell ?_ ?_ _) | (with_reducible refine Below.trans ?_ (Below.mono (by with_reducible assumption) ?_)) | go_size))) hE9; have kX := HX.out.ext hE9; have kR := HR.out.ext hE9; have kF := HF.out.ext hE9; have KR := Lib.hid ((kR.sto9 (.int .i64 (5)) (.int .i64 ((k : Int))) (.int .i64 ((k : Int) + 2)) (.string (s.extract k (k + 2))) (.int .i64 (0)) (.int .u64 (0)) (.int .u64 (0)) (.int .u64 (0)) (.int .u64 (0))).oth5 (b := w.heap.size + 2) (by omega) (.int .i64 (3)) (.int .i64 0) (.int .i64 0) (.int .i64 ((k : Int))) (.slice none 0 0)); have KF := Lib.hid ((kF.oth9 (b := w.heap.size + 1) (by omega) (.int .i64 (5)) (.int .i64 ((k : Int))) (.int .i64 ((k : Int) + 2)) (.string (s.extract k (k + 2))) (.int .i64 (0)) (.int .u64 (0)) (.int .u64 (0)) (.int .u64 (0)) (.int .u64 (0))).store5 (.int .i64 (3)) (.int .i64 0) (.int .i64 0) (.int .i64 ((k : Int))) (.slice none 0 0)); have EZ := Lib.hid (ext_set5 (ext_set9 (bel_call HE.out hE9) (b := w.heap.size + 1) (by omega) (.int .i64 (5)) (.int .i64 ((k : Int))) (.int .i64 ((k : Int) + 2)) (.string (s.extract k (k + 2))) (.int .i64 (0)) (.int .u64 (0)) (.int .u64 (0)) (.int .u64 (0)) (.int .u64 (0))) (b := w.heap.size + 2) (by omega) (.int .i64 (3)) (.int .i64 0) (.int .i64 0) (.int .i64 ((k : Int))) (.slice none 0 0)); have x0 := kX.cell 0; have x1 := kX.cell 1; have x2 := kX.cell 2; have x3 := kX.cell 3; have x4 := kX.cell 4; have x5 := kX.cell 5; have x6 := kX.cell 6; have x7 := kX.cell 7; have x8 := kX.cell 8; have z0 := kR.cell 0; have z1 := kR.cell 1; have z2 := kR.cell 2; have z3 := kR.cell 3; have z4 := kR.cell 4; have z5 := kR.cell 5; have z6 := kR.cell 6; have z7 := kR.cell 7; have z8 := kR.cell 8; have f0 := kR.free 0; have f1 := kR.free 1; have f2 := kR.free 2; have f3 := kR.free 3; have f4 := kR.free 4; have f5 := kR.free 5; have f6 := kR.free 6; have f7 := kR.free 7; have f8 := kR.free 8; have hltR := kR.lt; have q0 := kF.cell 0; have q1 := kF.cell 1; have q2 := kF.cell 2; have q3 := kF.cell 3; have q4 := kF.cell 4; have g0 := kF.free 0; have g1 := kF.free 1; have g2 := kF.free 2; have g3 := kF.free 3; have g4 := kF.free 4; have hltF := kF.lt; clear kX kR kF hE9))
        all_goals (
          go_wp2_with fail
          have y0 := KR.out.cell 0
          have y1 := KR.out.cell 1
          have y2 := KR.out.cell 2
          have y3 := KR.out.cell 3
          have y4 := KR.out.cell 4
          have y5 := KR.out.cell 5
          have y6 := KR.out.cell 6
          have y7 := KR.out.cell 7
          have y8 := KR.out.cell 8
          have t0 := KF.out.cell 0
          have t1 := KF.out.cell 1
          have t2 := KF.out.cell 2
          have t3 := KF.out.cell 3
          have t4 := KF.out.cell 4
          refine bodyPost_ret (v := .tuple #[.agg #[.int .i64 (5), .int .i64 ((k : Int)), .int .i64 ((k : Int) + 2), .string (s.extract k (k + 2)), .int .i64 (0), .int .u64 (0), .int .u64 (0), .int .u64 (0), .int .u64 (0)], fag (3) ((k : Int))]) ?_ rfl ?_
          · simp [results, Tryz.results22, go_sem, y0, y1, y2, y3, y4, y5, y6, y7, y8, t0, t1, t2, t3, t4]
          · exact ⟨_, _, _, _, _, _, _, _, _, rfl, EZ.out⟩)
  · have hsl : (0 : Int) ≤ (k : Int) := by omega
    have hsl3 : (k : Int) ≤ (k : Int) + 1 := by omega
    have hsl4 : (k : Int) + 1 ≤ (s.size : Int) := by omega
    have hslt1 : ((k : Int) + 1).toNat = k + 1 := by omega
    by_cases hk1 : k + 1 < s.size
    · have d1 : decide ((k : Int) + 1 < (s.size : Int)) = true := by simp; omega
      have hsl1 : (k : Int) ≤ (k : Int) + 2 := by omega
      have hsl2 : (k : Int) + 2 ≤ (s.size : Int) := by omega
      have hslt : ((k : Int) + 2).toNat = k + 2 := by omega
      have hq : ((s.extract k (k + 2)).toList == [61, 62]) = false := by
        rw [str_eq]
        refine decide_eq_false fun e => hno ?_
        rw [ext_lst, hC] at e
        obtain ⟨D, hD⟩ := lx_unc s (k + 1) hk1
        rw [hD] at e ⊢
        simp only [List.take_succ_cons, List.take_zero, List.cons.injEq, and_true] at e
        rw [e.1, e.2]
        exact ⟨rfl, rfl⟩
      go_enter Tryz.func22, Tryz.ntmps22
      go_upto_region 1 with fail
      generalize ((w.alloc (.cells (lcs 0 (k : Int) ((k : Int) + 1) ⟨#[]⟩ 0 0 0 0 0) 38)).alloc (.cells lxz 38)).alloc (.cells fzer 25) = w1 at HX HR HF HE ⊢
      have kX := HX.out
      have x0 := kX.cell 0
      have x2 := kX.cell 2
      have x3 := kX.cell 3
      have fx0 := kX.free 0
      have fx2 := kX.free 2
      have fx3 := kX.free 3
      have hltX := kX.lt
      replace HX := Lib.hid (show Blk ((w1.setCell ⟨w.heap.size, 0, none⟩ (.int .i64 5)).setCell ⟨w.heap.size, 3, none⟩ (.string (s.extract k (k + 1)))) (w.heap.size) (lcs (5) ((k : Int)) ((k : Int) + 1) (s.extract k (k + 1)) (0) (0) (0) (0) (0)) 38 from ((kX.set 0 (.int .i64 5)).set 3 (.string (s.extract k (k + 1)))))
      replace HR := Lib.hid ((HR.out.set_other (a := ⟨w.heap.size, 0, none⟩) (by show w.heap.size ≠ w.heap.size + 1; omega) (.int .i64 5)).set_other (a := ⟨w.heap.size, 3, none⟩) (by show w.heap.size ≠ w.heap.size + 1; omega) (.string (s.extract k (k + 1))))
      replace HF := Lib.hid ((HF.out.set_other (a := ⟨w.heap.size, 0, none⟩) (by show w.heap.size ≠ w.heap.size + 2; omega) (.int .i64 5)).set_other (a := ⟨w.heap.size, 3, none⟩) (by show w.heap.size ≠ w.heap.size + 2; omega) (.string (s.extract k (k + 1))))
      replace HE := Lib.hid (show Ext w ((w1.setCell ⟨w.heap.size, 0, none⟩ (.int .i64 5)).setCell ⟨w.heap.size, 3, none⟩ (.string (s.extract k (k + 1)))) from ((HE.out.setCell (p := ⟨w.heap.size, 0, none⟩) (by show w.heap.size ≤ w.heap.size; omega) (.int .i64 5)).setCell (p := ⟨w.heap.size, 3, none⟩) (by show w.heap.size ≤ w.heap.size; omega) (.string (s.extract k (k + 1)))))
      clear kX
      go_upto_region 5 with fail
      generalize ((w1.setCell ⟨w.heap.size, 0, none⟩ (.int .i64 5)).setCell ⟨w.heap.size, 3, none⟩ (.string (s.extract k (k + 1)))) = w2 at HX HR HF HE ⊢
      clear x0 x2 x3 fx0 fx2 fx3 hltX
      clear d1 hq hsl hsl1 hsl2 hslt hsl3 hsl4 hslt1 hk1 hno
      go_upto_region 7 with fail
      go_loopw [9] (fun i wr => ∃ j : Nat, j ≤ 13 ∧ i = .int .i64 j ∧ Hid (∀ d ∈ mAll.take j, d ≠ C) ∧ Hid (Blk wr (w.heap.size) (lcs (5) ((k : Int)) ((k : Int) + 1) (s.extract k (k + 1)) (0) (0) (0) (0) (0)) 38) ∧ Hid (Blk wr (w.heap.size + 1) lxz 38) ∧ Hid (Blk wr (w.heap.size + 2) fzer 25) ∧ Hid (Ext w wr)) (fun i _ => 13 - (intOf i).toNat)
      case atStart => exact ⟨0, by omega, rfl, Lib.hid (by simp), HX, HR, HF, HE⟩
      case round =>
        clear HX HR HF HE
        obtain ⟨j, hj, rfl, hA, HX, HR, HF, HE⟩ := hrel
        by_cases hj13 : j < 13
        · have d1 : decide ((j : Int) < 13) = true := by simp; omega
          have d1n : decide (j < 13) = true := by simp; omega
          have hjl : j < mAll.length := hj13
          obtain ⟨D, hD⟩ : ∃ D, mAll[j] = D := ⟨_, rfl⟩
          have hiA : ∀ w, (Instr.index 9 (.string ⟨#[40, 41, 124, 42, 43, 63, 123, 125, 44, 47, 60, 62, 61]⟩) (.int .i64 (j : Int))).run Tryz.prog w = .ok (.int .u8 (D.toNat : Int)) w := by
            refine idx_at ⟨#[40, 41, 124, 42, 43, 63, 123, 125, 44, 47, 60, 62, 61]⟩ j (j : Int) rfl D (mAll.drop (j + 1)) ?_
            rw [← hD]
            exact List.drop_eq_getElem_cons hjl
          by_cases he : C = D
          · have e1 : ((C.toNat : Int) == (D.toNat : Int)) = true := by rw [he]; simp
            have hb : b = true := by
              rw [← HB.out]
              refine decide_eq_true ?_
              rw [he, ← hD]
              exact List.getElem_mem hjl
            subst hb
            clear HB hA
            go_wp2_with fail
            go_quiet (fail)
            replace HX := Lib.hid (HX.out.drewN nq)
            replace HR := Lib.hid (HR.out.drewN nq)
            replace HF := Lib.hid (HF.out.drewN nq)
            replace HE := Lib.hid (bel_call HE.out (drew_ext wr nq))
            go_upto_region 10 with fail
            generalize wr.drewN nq = w4 at HX HR HF HE ⊢
            clear hix hiA e1 d1 d1n
            have kX := HX.out
            have x0 := kX.cell 0
            have x1 := kX.cell 1
            have x2 := kX.cell 2
            have x3 := kX.cell 3
            have x4 := kX.cell 4
            have x5 := kX.cell 5
            have x6 := kX.cell 6
            have x7 := kX.cell 7
            have x8 := kX.cell 8
            have kR := HR.out
            have z0 := kR.cell 0
            have z1 := kR.cell 1
            have z2 := kR.cell 2
            have z3 := kR.cell 3
            have z4 := kR.cell 4
            have z5 := kR.cell 5
            have z6 := kR.cell 6
            have z7 := kR.cell 7
            have z8 := kR.cell 8
            have f0 := kR.free 0
            have f1 := kR.free 1
            have f2 := kR.free 2
            have f3 := kR.free 3
            have f4 := kR.free 4
            have f5 := kR.free 5
            have f6 := kR.free 6
            have f7 := kR.free 7
            have f8 := kR.free 8
            have hltR := kR.lt
            have kF := HF.out
            have q0 := kF.cell 0
            have q1 := kF.cell 1
            have q2 := kF.cell 2
            have q3 := kF.cell 3
            have q4 := kF.cell 4
            have g0 := kF.free 0
            have g1 := kF.free 1
            have g2 := kF.free 2
            have g3 := kF.free 3
            have g4 := kF.free 4
            have hltF := kF.lt
            have KR := Lib.hid ((kR.sto9 (.int .i64 (5)) (.int .i64 ((k : Int))) (.int .i64 ((k : Int) + 1)) (.string (s.extract k (k + 1))) (.int .i64 (0)) (.int .u64 (0)) (.int .u64 (0)) (.int .u64 (0)) (.int .u64 (0))).oth5 (b := w.heap.size + 2) (by omega) (.int .i64 (0)) (.int .i64 0) (.int .i64 0) (.int .i64 (0)) (.slice none 0 0))
            have KF := Lib.hid ((kF.oth9 (b := w.heap.size + 1) (by omega) (.int .i64 (5)) (.int .i64 ((k : Int))) (.int .i64 ((k : Int) + 1)) (.string (s.extract k (k + 1))) (.int .i64 (0)) (.int .u64 (0)) (.int .u64 (0)) (.int .u64 (0)) (.int .u64 (0))).store5 (.int .i64 (0)) (.int .i64 0) (.int .i64 0) (.int .i64 (0)) (.slice none 0 0))
            have EZ := Lib.hid (ext_set5 (ext_set9 HE.out (b := w.heap.size + 1) (by omega) (.int .i64 (5)) (.int .i64 ((k : Int))) (.int .i64 ((k : Int) + 1)) (.string (s.extract k (k + 1))) (.int .i64 (0)) (.int .u64 (0)) (.int .u64 (0)) (.int .u64 (0)) (.int .u64 (0))) (b := w.heap.size + 2) (by omega) (.int .i64 (0)) (.int .i64 0) (.int .i64 0) (.int .i64 (0)) (.slice none 0 0))
            clear kX kR kF HR HF HX HE
            go_wp2_with fail
            have y0 := (KR.out).cell 0
            have y1 := (KR.out).cell 1
            have y2 := (KR.out).cell 2
            have y3 := (KR.out).cell 3
            have y4 := (KR.out).cell 4
            have y5 := (KR.out).cell 5
            have y6 := (KR.out).cell 6
            have y7 := (KR.out).cell 7
            have y8 := (KR.out).cell 8
            have t0 := (KF.out).cell 0
            have t1 := (KF.out).cell 1
            have t2 := (KF.out).cell 2
            have t3 := (KF.out).cell 3
            have t4 := (KF.out).cell 4
            refine bodyPost_ret (v := .tuple #[.agg #[.int .i64 (5), .int .i64 ((k : Int)), .int .i64 ((k : Int) + 1), .string (s.extract k (k + 1)), .int .i64 (0), .int .u64 (0), .int .u64 (0), .int .u64 (0), .int .u64 (0)], fag (0) (0)]) ?_ rfl ?_
            · simp [results, Tryz.results22, go_sem, y0, y1, y2, y3, y4, y5, y6, y7, y8, t0, t1, t2, t3, t4]
            · exact ⟨rfl, EZ.out⟩
          · have e1 : ((C.toNat : Int) == (D.toNat : Int)) = false := by
              have : C.toNat ≠ D.toNat := fun e => he (UInt8.toNat_inj.1 e)
              simp; omega
            have HA2 := Lib.hid (show ∀ d ∈ mAll.take (j + 1), d ≠ C from by
              rw [List.take_succ_eq_append_getElem hjl, hD]
              intro d hd
              rcases List.mem_append.1 hd with h | h
              · exact hA.out d h
              · rw [List.mem_singleton.1 h]; exact fun e => he e.symm)
            go_wp2_with fail
            go_quiet (fail)
            go_wp2_with fail
            go_roundw
            case rel => exact ⟨j + 1, by omega, by go_num, HA2, Lib.hid (HX.out.drewN _), Lib.hid (HR.out.drewN _), Lib.hid (HF.out.drewN _), Lib.hid (bel_call HE.out (drew_ext _ _))⟩
            case measure => simp [intOf]; omega
        · have d1 : decide ((j : Int) < 13) = false := by simp; omega
          have d1n : decide (j < 13) = false := by simp; omega
          have hb : b = false := by
            rw [← HB.out]
            refine decide_eq_false fun h => ?_
            have := hA.out C (by rw [List.take_of_length_le (by show 13 ≤ j; omega)]; exact h)
            exact this rfl
          subst hb
          clear HB hA hix
          go_upto_region 11 with fail
          clear d1 d1n
          have kX := HX.out
          have x0 := kX.cell 0
          have x1 := kX.cell 1
          have x2 := kX.cell 2
          have x3 := kX.cell 3
          have x4 := kX.cell 4
          have x5 := kX.cell 5
          have x6 := kX.cell 6
          have x7 := kX.cell 7
          have x8 := kX.cell 8
          clear kX
          go_wp2_with fail
          go_region_with (first | (go_at_call 16; refine (rat_any (3) ((k : Int)) _).mono ?_; rintro e w9 ⟨rfl, hE9⟩; replace hE9 : Ext wr w9 := bel_call (by (repeat' (first | (with_reducible exact Below.refl _ _) | (with_reducible assumption) | (with_reducible refine below_drewN ?_ _) | (with_reducible refine Below.alloc ?_ ?_ _) | (with_reducible refine Below.drew ?_) | (with_reducible refine Below.setCell ?_ ?_ _) | (with_reducible refine Below.trans ?_ (Below.mono (by with_reducible assumption) ?_)) | go_size))) hE9; have kX := HX.out.ext hE9; have kR := HR.out.ext hE9; have kF := HF.out.ext hE9; have KR := Lib.hid ((kR.sto9 (.int .i64 (5)) (.int .i64 ((k : Int))) (.int .i64 ((k : Int) + 1)) (.string (s.extract k (k + 1))) (.int .i64 (0)) (.int .u64 (0)) (.int .u64 (0)) (.int .u64 (0)) (.int .u64 (0))).oth5 (b := w.heap.size + 2) (by omega) (.int .i64 (3)) (.int .i64 0) (.int .i64 0) (.int .i64 ((k : Int))) (.slice none 0 0)); have KF := Lib.hid ((kF.oth9 (b := w.heap.size + 1) (by omega) (.int .i64 (5)) (.int .i64 ((k : Int))) (.int .i64 ((k : Int) + 1)) (.string (s.extract k (k + 1))) (.int .i64 (0)) (.int .u64 (0)) (.int .u64 (0)) (.int .u64 (0)) (.int .u64 (0))).store5 (.int .i64 (3)) (.int .i64 0) (.int .i64 0) (.int .i64 ((k : Int))) (.slice none 0 0)); have EZ := Lib.hid (ext_set5 (ext_set9 (bel_call HE.out hE9) (b := w.heap.size + 1) (by omega) (.int .i64 (5)) (.int .i64 ((k : Int))) (.int .i64 ((k : Int) + 1)) (.string (s.extract k (k + 1))) (.int .i64 (0)) (.int .u64 (0)) (.int .u64 (0)) (.int .u64 (0)) (.int .u64 (0))) (b := w.heap.size + 2) (by omega) (.int .i64 (3)) (.int .i64 0) (.int .i64 0) (.int .i64 ((k : Int))) (.slice none 0 0)); have x0 := kX.cell 0; have x1 := kX.cell 1; have x2 := kX.cell 2; have x3 := kX.cell 3; have x4 := kX.cell 4; have x5 := kX.cell 5; have x6 := kX.cell 6; have x7 := kX.cell 7; have x8 := kX.cell 8; have z0 := kR.cell 0; have z1 := kR.cell 1; have z2 := kR.cell 2; have z3 := kR.cell 3; have z4 := kR.cell 4; have z5 := kR.cell 5; have z6 := kR.cell 6; have z7 := kR.cell 7; have z8 := kR.cell 8; have f0 := kR.free 0; have f1 := kR.free 1; have f2 := kR.free 2; have f3 := kR.free 3; have f4 := kR.free 4; have f5 := kR.free 5; have f6 := kR.free 6; have f7 := kR.free 7; have f8 := kR.free 8; have hltR := kR.lt; have q0 := kF.cell 0; have q1 := kF.cell 1; have q2 := kF.cell 2; have q3 := kF.cell 3; have q4 := kF.cell 4; have g0 := kF.free 0; have g1 := kF.free 1; have g2 := kF.free 2; have g3 := kF.free 3; have g4 := kF.free 4; have hltF := kF.lt; clear kX kR kF hE9))
          all_goals (
            go_wp2_with fail
            have y0 := KR.out.cell 0
            have y1 := KR.out.cell 1
            have y2 := KR.out.cell 2
            have y3 := KR.out.cell 3
            have y4 := KR.out.cell 4
            have y5 := KR.out.cell 5
            have y6 := KR.out.cell 6
            have y7 := KR.out.cell 7
            have y8 := KR.out.cell 8
            have t0 := KF.out.cell 0
            have t1 := KF.out.cell 1
            have t2 := KF.out.cell 2
            have t3 := KF.out.cell 3
            have t4 := KF.out.cell 4
            refine bodyPost_ret (v := .tuple #[.agg #[.int .i64 (5), .int .i64 ((k : Int)), .int .i64 ((k : Int) + 1), .string (s.extract k (k + 1)), .int .i64 (0), .int .u64 (0), .int .u64 (0), .int .u64 (0), .int .u64 (0)], fag (3) ((k : Int))]) ?_ rfl ?_
            · simp [results, Tryz.results22, go_sem, y0, y1, y2, y3, y4, y5, y6, y7, y8, t0, t1, t2, t3, t4]
            · exact ⟨_, _, _, _, _, _, _, _, _, rfl, EZ.out⟩)
    · have d1 : decide ((k : Int) + 1 < (s.size : Int)) = false := by simp; omega
      go_enter Tryz.func22, Tryz.ntmps22
      go_upto_region 1 with fail
      generalize ((w.alloc (.cells (lcs 0 (k : Int) ((k : Int) + 1) ⟨#[]⟩ 0 0 0 0 0) 38)).alloc (.cells lxz 38)).alloc (.cells fzer 25) = w1 at HX HR HF HE ⊢
      have kX := HX.out
      have x0 := kX.cell 0
      have x2 := kX.cell 2
      have x3 := kX.cell 3
      have fx0 := kX.free 0
      have fx2 := kX.free 2
      have fx3 := kX.free 3
      have hltX := kX.lt
      replace HX := Lib.hid (show Blk ((w1.setCell ⟨w.heap.size, 0, none⟩ (.int .i64 5)).setCell ⟨w.heap.size, 3, none⟩ (.string (s.extract k (k + 1)))) (w.heap.size) (lcs (5) ((k : Int)) ((k : Int) + 1) (s.extract k (k + 1)) (0) (0) (0) (0) (0)) 38 from ((kX.set 0 (.int .i64 5)).set 3 (.string (s.extract k (k + 1)))))
      replace HR := Lib.hid ((HR.out.set_other (a := ⟨w.heap.size, 0, none⟩) (by show w.heap.size ≠ w.heap.size + 1; omega) (.int .i64 5)).set_other (a := ⟨w.heap.size, 3, none⟩) (by show w.heap.size ≠ w.heap.size + 1; omega) (.string (s.extract k (k + 1))))
      replace HF := Lib.hid ((HF.out.set_other (a := ⟨w.heap.size, 0, none⟩) (by show w.heap.size ≠ w.heap.size + 2; omega) (.int .i64 5)).set_other (a := ⟨w.heap.size, 3, none⟩) (by show w.heap.size ≠ w.heap.size + 2; omega) (.string (s.extract k (k + 1))))
      replace HE := Lib.hid (show Ext w ((w1.setCell ⟨w.heap.size, 0, none⟩ (.int .i64 5)).setCell ⟨w.heap.size, 3, none⟩ (.string (s.extract k (k + 1)))) from ((HE.out.setCell (p := ⟨w.heap.size, 0, none⟩) (by show w.heap.size ≤ w.heap.size; omega) (.int .i64 5)).setCell (p := ⟨w.heap.size, 3, none⟩) (by show w.heap.size ≤ w.heap.size; omega) (.string (s.extract k (k + 1)))))
      clear kX
      go_upto_region 5 with fail
      generalize ((w1.setCell ⟨w.heap.size, 0, none⟩ (.int .i64 5)).setCell ⟨w.heap.size, 3, none⟩ (.string (s.extract k (k + 1)))) = w2 at HX HR HF HE ⊢
      clear x0 x2 x3 fx0 fx2 fx3 hltX
      clear d1 hsl hsl3 hsl4 hslt1 hk1 hno
      go_upto_region 7 with fail
      go_loopw [9] (fun i wr => ∃ j : Nat, j ≤ 13 ∧ i = .int .i64 j ∧ Hid (∀ d ∈ mAll.take j, d ≠ C) ∧ Hid (Blk wr (w.heap.size) (lcs (5) ((k : Int)) ((k : Int) + 1) (s.extract k (k + 1)) (0) (0) (0) (0) (0)) 38) ∧ Hid (Blk wr (w.heap.size + 1) lxz 38) ∧ Hid (Blk wr (w.heap.size + 2) fzer 25) ∧ Hid (Ext w wr)) (fun i _ => 13 - (intOf i).toNat)
      case atStart => exact ⟨0, by omega, rfl, Lib.hid (by simp), HX, HR, HF, HE⟩
      case round =>
        clear HX HR HF HE
        obtain ⟨j, hj, rfl, hA, HX, HR, HF, HE⟩ := hrel
        by_cases hj13 : j < 13
        · have d1 : decide ((j : Int) < 13) = true := by simp; omega
          have d1n : decide (j < 13) = true := by simp; omega
          have hjl : j < mAll.length := hj13
          obtain ⟨D, hD⟩ : ∃ D, mAll[j] = D := ⟨_, rfl⟩
          have hiA : ∀ w, (Instr.index 9 (.string ⟨#[40, 41, 124, 42, 43, 63, 123, 125, 44, 47, 60, 62, 61]⟩) (.int .i64 (j : Int))).run Tryz.prog w = .ok (.int .u8 (D.toNat : Int)) w := by
            refine idx_at ⟨#[40, 41, 124, 42, 43, 63, 123, 125, 44, 47, 60, 62, 61]⟩ j (j : Int) rfl D (mAll.drop (j + 1)) ?_
            rw [← hD]
            exact List.drop_eq_getElem_cons hjl
          by_cases he : C = D
          · have e1 : ((C.toNat : Int) == (D.toNat : Int)) = true := by rw [he]; simp
            have hb : b = true := by
              rw [← HB.out]
              refine decide_eq_true ?_
              rw [he, ← hD]
              exact List.getElem_mem hjl
            subst hb
            clear HB hA
            go_wp2_with fail
            go_quiet (fail)
            replace HX := Lib.hid (HX.out.drewN nq)
            replace HR := Lib.hid (HR.out.drewN nq)
            replace HF := Lib.hid (HF.out.drewN nq)
            replace HE := Lib.hid (bel_call HE.out (drew_ext wr nq))
            go_upto_region 10 with fail
            generalize wr.drewN nq = w4 at HX HR HF HE ⊢
            clear hix hiA e1 d1 d1n
            have kX := HX.out
            have x0 := kX.cell 0
            have x1 := kX.cell 1
            have x2 := kX.cell 2
            have x3 := kX.cell 3
            have x4 := kX.cell 4
            have x5 := kX.cell 5
            have x6 := kX.cell 6
            have x7 := kX.cell 7
            have x8 := kX.cell 8
            have kR := HR.out
            have z0 := kR.cell 0
            have z1 := kR.cell 1
            have z2 := kR.cell 2
            have z3 := kR.cell 3
            have z4 := kR.cell 4
            have z5 := kR.cell 5
            have z6 := kR.cell 6
            have z7 := kR.cell 7
            have z8 := kR.cell 8
            have f0 := kR.free 0
            have f1 := kR.free 1
            have f2 := kR.free 2
            have f3 := kR.free 3
            have f4 := kR.free 4
            have f5 := kR.free 5
            have f6 := kR.free 6
            have f7 := kR.free 7
            have f8 := kR.free 8
            have hltR := kR.lt
            have kF := HF.out
            have q0 := kF.cell 0
            have q1 := kF.cell 1
            have q2 := kF.cell 2
            have q3 := kF.cell 3
            have q4 := kF.cell 4
            have g0 := kF.free 0
            have g1 := kF.free 1
            have g2 := kF.free 2
            have g3 := kF.free 3
            have g4 := kF.free 4
            have hltF := kF.lt
            have KR := Lib.hid ((kR.sto9 (.int .i64 (5)) (.int .i64 ((k : Int))) (.int .i64 ((k : Int) + 1)) (.string (s.extract k (k + 1))) (.int .i64 (0)) (.int .u64 (0)) (.int .u64 (0)) (.int .u64 (0)) (.int .u64 (0))).oth5 (b := w.heap.size + 2) (by omega) (.int .i64 (0)) (.int .i64 0) (.int .i64 0) (.int .i64 (0)) (.slice none 0 0))
            have KF := Lib.hid ((kF.oth9 (b := w.heap.size + 1) (by omega) (.int .i64 (5)) (.int .i64 ((k : Int))) (.int .i64 ((k : Int) + 1)) (.string (s.extract k (k + 1))) (.int .i64 (0)) (.int .u64 (0)) (.int .u64 (0)) (.int .u64 (0)) (.int .u64 (0))).store5 (.int .i64 (0)) (.int .i64 0) (.int .i64 0) (.int .i64 (0)) (.slice none 0 0))
            have EZ := Lib.hid (ext_set5 (ext_set9 HE.out (b := w.heap.size + 1) (by omega) (.int .i64 (5)) (.int .i64 ((k : Int))) (.int .i64 ((k : Int) + 1)) (.string (s.extract k (k + 1))) (.int .i64 (0)) (.int .u64 (0)) (.int .u64 (0)) (.int .u64 (0)) (.int .u64 (0))) (b := w.heap.size + 2) (by omega) (.int .i64 (0)) (.int .i64 0) (.int .i64 0) (.int .i64 (0)) (.slice none 0 0))
            clear kX kR kF HR HF HX HE
            go_wp2_with fail
            have y0 := (KR.out).cell 0
            have y1 := (KR.out).cell 1
            have y2 := (KR.out).cell 2
            have y3 := (KR.out).cell 3
            have y4 := (KR.out).cell 4
            have y5 := (KR.out).cell 5
            have y6 := (KR.out).cell 6
            have y7 := (KR.out).cell 7
            have y8 := (KR.out).cell 8
            have t0 := (KF.out).cell 0
            have t1 := (KF.out).cell 1
            have t2 := (KF.out).cell 2
            have t3 := (KF.out).cell 3
            have t4 := (KF.out).cell 4
            refine bodyPost_ret (v := .tuple #[.agg #[.int .i64 (5), .int .i64 ((k : Int)), .int .i64 ((k : Int) + 1), .string (s.extract k (k + 1)), .int .i64 (0), .int .u64 (0), .int .u64 (0), .int .u64 (0), .int .u64 (0)], fag (0) (0)]) ?_ rfl ?_
            · simp [results, Tryz.results22, go_sem, y0, y1, y2, y3, y4, y5, y6, y7, y8, t0, t1, t2, t3, t4]
            · exact ⟨rfl, EZ.out⟩
          · have e1 : ((C.toNat : Int) == (D.toNat : Int)) = false := by
              have : C.toNat ≠ D.toNat := fun e => he (UInt8.toNat_inj.1 e)
              simp; omega
            have HA2 := Lib.hid (show ∀ d ∈ mAll.take (j + 1), d ≠ C from by
              rw [List.take_succ_eq_append_getElem hjl, hD]
              intro d hd
              rcases List.mem_append.1 hd with h | h
              · exact hA.out d h
              · rw [List.mem_singleton.1 h]; exact fun e => he e.symm)
            go_wp2_with fail
            go_quiet (fail)
            go_wp2_with fail
            go_roundw
            case rel => exact ⟨j + 1, by omega, by go_num, HA2, Lib.hid (HX.out.drewN _), Lib.hid (HR.out.drewN _), Lib.hid (HF.out.drewN _), Lib.hid (bel_call HE.out (drew_ext _ _))⟩
            case measure => simp [intOf]; omega
        · have d1 : decide ((j : Int) < 13) = false := by simp; omega
          have d1n : decide (j < 13) = false := by simp; omega
          have hb : b = false := by
            rw [← HB.out]
            refine decide_eq_false fun h => ?_
            have := hA.out C (by rw [List.take_of_length_le (by show 13 ≤ j; omega)]; exact h)
            exact this rfl
          subst hb
          clear HB hA hix
          go_upto_region 11 with fail
          clear d1 d1n
          have kX := HX.out
          have x0 := kX.cell 0
          have x1 := kX.cell 1
          have x2 := kX.cell 2
          have x3 := kX.cell 3
          have x4 := kX.cell 4
          have x5 := kX.cell 5
          have x6 := kX.cell 6
          have x7 := kX.cell 7
          have x8 := kX.cell 8
          clear kX
          go_wp2_with fail
          go_region_with (first | (go_at_call 16; refine (rat_any (3) ((k : Int)) _).mono ?_; rintro e w9 ⟨rfl, hE9⟩; replace hE9 : Ext wr w9 := bel_call (by (repeat' (first | (with_reducible exact Below.refl _ _) | (with_reducible assumption) | (with_reducible refine below_drewN ?_ _) | (with_reducible refine Below.alloc ?_ ?_ _) | (with_reducible refine Below.drew ?_) | (with_reducible refine Below.setCell ?_ ?_ _) | (with_reducible refine Below.trans ?_ (Below.mono (by with_reducible assumption) ?_)) | go_size))) hE9; have kX := HX.out.ext hE9; have kR := HR.out.ext hE9; have kF := HF.out.ext hE9; have KR := Lib.hid ((kR.sto9 (.int .i64 (5)) (.int .i64 ((k : Int))) (.int .i64 ((k : Int) + 1)) (.string (s.extract k (k + 1))) (.int .i64 (0)) (.int .u64 (0)) (.int .u64 (0)) (.int .u64 (0)) (.int .u64 (0))).oth5 (b := w.heap.size + 2) (by omega) (.int .i64 (3)) (.int .i64 0) (.int .i64 0) (.int .i64 ((k : Int))) (.slice none 0 0)); have KF := Lib.hid ((kF.oth9 (b := w.heap.size + 1) (by omega) (.int .i64 (5)) (.int .i64 ((k : Int))) (.int .i64 ((k : Int) + 1)) (.string (s.extract k (k + 1))) (.int .i64 (0)) (.int .u64 (0)) (.int .u64 (0)) (.int .u64 (0)) (.int .u64 (0))).store5 (.int .i64 (3)) (.int .i64 0) (.int .i64 0) (.int .i64 ((k : Int))) (.slice none 0 0)); have EZ := Lib.hid (ext_set5 (ext_set9 (bel_call HE.out hE9) (b := w.heap.size + 1) (by omega) (.int .i64 (5)) (.int .i64 ((k : Int))) (.int .i64 ((k : Int) + 1)) (.string (s.extract k (k + 1))) (.int .i64 (0)) (.int .u64 (0)) (.int .u64 (0)) (.int .u64 (0)) (.int .u64 (0))) (b := w.heap.size + 2) (by omega) (.int .i64 (3)) (.int .i64 0) (.int .i64 0) (.int .i64 ((k : Int))) (.slice none 0 0)); have x0 := kX.cell 0; have x1 := kX.cell 1; have x2 := kX.cell 2; have x3 := kX.cell 3; have x4 := kX.cell 4; have x5 := kX.cell 5; have x6 := kX.cell 6; have x7 := kX.cell 7; have x8 := kX.cell 8; have z0 := kR.cell 0; have z1 := kR.cell 1; have z2 := kR.cell 2; have z3 := kR.cell 3; have z4 := kR.cell 4; have z5 := kR.cell 5; have z6 := kR.cell 6; have z7 := kR.cell 7; have z8 := kR.cell 8; have f0 := kR.free 0; have f1 := kR.free 1; have f2 := kR.free 2; have f3 := kR.free 3; have f4 := kR.free 4; have f5 := kR.free 5; have f6 := kR.free 6; have f7 := kR.free 7; have f8 := kR.free 8; have hltR := kR.lt; have q0 := kF.cell 0; have q1 := kF.cell 1; have q2 := kF.cell 2; have q3 := kF.cell 3; have q4 := kF.cell 4; have g0 := kF.free 0; have g1 := kF.free 1; have g2 := kF.free 2; have g3 := kF.free 3; have g4 := kF.free 4; have hltF := kF.lt; clear kX kR kF hE9))
          all_goals (
            go_wp2_with fail
            have y0 := KR.out.cell 0
            have y1 := KR.out.cell 1
            have y2 := KR.out.cell 2
            have y3 := KR.out.cell 3
            have y4 := KR.out.cell 4
            have y5 := KR.out.cell 5
            have y6 := KR.out.cell 6
            have y7 := KR.out.cell 7
            have y8 := KR.out.cell 8
            have t0 := KF.out.cell 0
            have t1 := KF.out.cell 1
            have t2 := KF.out.cell 2
            have t3 := KF.out.cell 3
            have t4 := KF.out.cell 4
            refine bodyPost_ret (v := .tuple #[.agg #[.int .i64 (5), .int .i64 ((k : Int)), .int .i64 ((k : Int) + 1), .string (s.extract k (k + 1)), .int .i64 (0), .int .u64 (0), .int .u64 (0), .int .u64 (0), .int .u64 (0)], fag (3) ((k : Int))]) ?_ rfl ?_
            · simp [results, Tryz.results22, go_sem, y0, y1, y2, y3, y4, y5, y6, y7, y8, t0, t1, t2, t3, t4]
            · exact ⟨_, _, _, _, _, _, _, _, _, rfl, EZ.out⟩)
end Go.Proofs.YtnecafokkhhhhaaGreatDoor
