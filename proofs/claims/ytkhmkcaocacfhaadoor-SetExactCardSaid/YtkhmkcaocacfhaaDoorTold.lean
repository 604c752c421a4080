/- What one set tells, twice. -/
import Derived.Test.YtkhmkcaocacfhaaDoorOver
namespace Go.Proofs.YtkhmkcaocacfhaaDoor
open Go Go.RowKit
theorem own_slice {w : World} {b e sz n : Nat} {v : Value} {xs : List Value} (h : w.ownsRow b e sz v n xs) : ∃ ao cap, v = .slice ao n cap := by
  obtain ⟨_, ⟨h, rfl⟩ | ⟨g, cap, cur, h, _⟩⟩ := h
  · exact ⟨none, 0, h⟩
  · exact ⟨_, cap, h⟩
theorem rleast_eq (s : BitVec 256) (d : Nat) (q : Bool) (w : World) (hd : lea s = d) (hq : decide (s ≠ 0#256) = q) :
    Calls Tryd.prog 63 #[sv s] w fun e w' => e = .returned (.tuple #[.int .u8 (d : Nat), .bool q]) ∧ Below w.heap.size w w' := by subst hd; subst hq; exact rleast_any s w
theorem eqspans_self (v u : Value) (a : List (UInt8 × UInt8)) (w : World) (hv : Spans w v a) (hu : Spans w u a) :
    Calls Tryd.prog 20 #[v, u] w fun e w' => e = .returned (.bool true) ∧ Below w.heap.size w w' := by
  have := eqspans_any v u a a w hv hu
  simpa using this
set_option maxHeartbeats 4000000 in
set_option maxRecDepth 20000 in
theorem told_any (a : BitVec 256) (w : World) (hT : Tab w) :
    Calls Tryd.prog 37 #[sv a] w fun e w' => e = .returned (.bool true) ∧ Below w.heap.size w w' := by
  obtain ⟨L, hL⟩ : ∃ L, lstN a 4 = L := ⟨_, rfl⟩
  obtain ⟨S, hS⟩ : ∃ S, spn a = S := ⟨_, rfl⟩
  obtain ⟨d, hd⟩ : ∃ d, lea a = d := ⟨_, rfl⟩
  obtain ⟨q, hq⟩ : ∃ q, decide (a ≠ 0#256) = q := ⟨_, rfl⟩
  have hn : L.length ≤ 256 := by have := lstN_len a 4; rw [hL] at this; exact this
  have hm : S.length ≤ L.length := by have := spansN_len (lstN a 4); rw [hL] at this; rw [← hS]; unfold spn; rw [hL]; exact this
  have hlt : ∀ x ∈ L, x < 256 := fun x hx => by rw [← hL] at hx; exact ((mem_lst a x).1 hx).1
  have hslt : ∀ p ∈ S, p.1 < 256 ∧ p.2 < 256 := by rw [← hS]; exact spn_lt a
  have hcnt : cnt a = L.length := by rw [cnt_len, hL]
  have hd255 : d ≤ 255 := by rw [← hd]; exact lea_le a
  have HF := Lib.hid (And.intro hL (And.intro hS (And.intro hd (And.intro hq (And.intro hlt (And.intro hslt hcnt))))))
  have HT := Lib.hid hT
  clear hL hS hd hq hlt hslt hcnt hT
  have kP := Blk.new w (svs a) 25
  have hbel : Below w.heap.size w (w.alloc (.cells (svs a) 25)) := by (repeat' (first | (with_reducible exact Below.refl _ _) | (with_reducible assumption) | (with_reducible refine below_drewN ?_ _) | (with_reducible refine Below.alloc ?_ ?_ _) | (with_reducible refine Below.drew ?_) | (with_reducible refine Below.setCell ?_ ?_ _) | (with_reducible refine Below.trans ?_ (Below.mono (by with_reducible assumption) ?_)) | go_size))
  go_enter Tryd.func37, Tryd.ntmps37
  go_wp2_with fail
  go_loopw [3] (fun i wr => ∃ k : Nat, k ≤ 2 ∧ i = .int .i64 k ∧ Blk wr w.heap.size (svs a) 25 ∧ Below w.heap.size w wr) (fun i _ => 2 - (intOf i).toNat)
  case atStart => exact ⟨0, Nat.zero_le _, rfl, kP, hbel⟩
  case round =>
    clear kP hbel
    obtain ⟨k, hk, rfl, kP, hbel⟩ := hrel
    by_cases hlt : k < 2
    · obtain ⟨p0, p1, p2, p3⟩ := kP.cells4
      have hx : Ext wr wr := Below.refl _ _
      have hwz := hbel.size
      go_wp2_with fail
      refine (list_own a _ (HT.out.ext hbel)).mono ?_
      rintro e w1 ⟨v, rfl, hown, hE⟩
      rw [HF.out.1] at hown
      have hPl : w.heap.size < wr.heap.size := kP.lt
      have hb1 : w.heap.size < w1.heap.size := by have := hE.size; omega
      replace kP := kP.ext hE
      replace hx := bel_call hx hE
      replace hbel := bel_call hbel hE
      obtain ⟨al, cl, rfl⟩ := own_slice hown
      have HO := Lib.hid hown
      clear hown hE p0 p1 p2 p3
      obtain ⟨p0, p1, p2, p3⟩ := kP.cells4
      go_wp2_with fail
      refine (spans_own a _ (HT.out.ext hbel)).mono ?_
      rintro e w2 ⟨v, rfl, hown, hE⟩
      rw [HF.out.2.1] at hown
      have hw1 : ∀ g, (Value.slice al L.length cl).ownBlock = some g → g < w1.heap.size := fun g hg => (HO.out.lt g hg).2
      replace kP := kP.ext hE
      replace hx := bel_call hx hE
      replace hbel := bel_call hbel hE
      replace HO := Lib.hid (own_below HO.out hE (Nat.le_refl _))
      obtain ⟨asl, cs, rfl⟩ := own_slice hown
      have HS := Lib.hid hown
      have HW1 := Lib.hid hw1
      clear hown hE p0 p1 p2 p3 hw1
      obtain ⟨p0, p1, p2, p3⟩ := kP.cells4
      go_wp2_with fail
      refine (least_eq a d q HF.out.2.2.1 HF.out.2.2.2.1 _ (HT.out.ext hbel)).mono ?_
      rintro e w9 ⟨rfl, hE⟩
      replace kP := kP.ext hE
      replace HO := Lib.hid (own_below HO.out hE (Nat.le_refl _))
      replace HS := Lib.hid (own_below HS.out hE (Nat.le_refl _))
      replace hx := bel_call hx hE
      replace hbel := bel_call hbel hE
      clear hE p0 p1 p2 p3
      obtain ⟨p0, p1, p2, p3⟩ := kP.cells4
      go_wp2_with fail
      refine (rleast_eq a d q _ HF.out.2.2.1 HF.out.2.2.2.1).mono ?_
      rintro e w9 ⟨rfl, hE⟩
      replace kP := kP.ext hE
      replace HO := Lib.hid (own_below HO.out hE (Nat.le_refl _))
      replace HS := Lib.hid (own_below HS.out hE (Nat.le_refl _))
      replace hx := bel_call hx hE
      replace hbel := bel_call hbel hE
      clear hE p0 p1 p2 p3
      obtain ⟨p0, p1, p2, p3⟩ := kP.cells4
      go_wp2_with fail
      refine (rlist_own a _).mono ?_
      rintro e w3 ⟨v, rfl, hown, hE⟩
      rw [HF.out.1] at hown
      replace kP := kP.ext hE
      replace hx := bel_call hx hE
      replace hbel := bel_call hbel hE
      replace HO := Lib.hid (own_below HO.out hE (Nat.le_refl _))
      replace HS := Lib.hid (own_below HS.out hE (Nat.le_refl _))
      have hB1 := Lib.hid (Bytes.of_own HO.out (by omega) HF.out.2.2.2.2.1)
      have hB2 := Lib.hid (Bytes.of_own hown (by omega) HF.out.2.2.2.2.1)
      clear hown hE p0 p1 p2 p3
      obtain ⟨p0, p1, p2, p3⟩ := kP.cells4
      go_wp2_with fail
      refine (eq_self _ _ _ _ hB1.out hB2.out).mono ?_
      rintro e w9 ⟨rfl, hE⟩
      replace kP := kP.ext hE
      replace HO := Lib.hid (own_below HO.out hE (Nat.le_refl _))
      replace HS := Lib.hid (own_below HS.out hE (Nat.le_refl _))
      replace hx := bel_call hx hE
      replace hbel := bel_call hbel hE
      clear hE p0 p1 p2 p3
      obtain ⟨p0, p1, p2, p3⟩ := kP.cells4
      clear hB1 hB2
      go_wp2_with fail
      refine (rspans_own a _).mono ?_
      rintro e w4 ⟨v, rfl, hown, hE⟩
      rw [HF.out.2.1] at hown
      replace kP := kP.ext hE
      replace hx := bel_call hx hE
      replace hbel := bel_call hbel hE
      replace HO := Lib.hid (own_below HO.out hE (Nat.le_refl _))
      replace HS := Lib.hid (own_below HS.out hE (Nat.le_refl _))
      have hB1 := Lib.hid (Spans.of_own HS.out (by omega) HF.out.2.2.2.2.2.1)
      have hB2 := Lib.hid (Spans.of_own hown (by omega) HF.out.2.2.2.2.2.1)
      clear hown hE p0 p1 p2 p3
      obtain ⟨p0, p1, p2, p3⟩ := kP.cells4
      go_wp2_with fail
      refine (eqspans_self _ _ _ _ hB1.out hB2.out).mono ?_
      rintro e w9 ⟨rfl, hE⟩
      replace kP := kP.ext hE
      replace HO := Lib.hid (own_below HO.out hE (Nat.le_refl _))
      replace HS := Lib.hid (own_below HS.out hE (Nat.le_refl _))
      replace hx := bel_call hx hE
      replace hbel := bel_call hbel hE
      clear hE p0 p1 p2 p3
      obtain ⟨p0, p1, p2, p3⟩ := kP.cells4
      clear hB1 hB2
      go_wp2_with fail
      refine (count_eq a L.length HF.out.2.2.2.2.2.2 _).mono ?_
      rintro e w9 ⟨rfl, hE⟩
      replace kP := kP.ext hE
      replace HO := Lib.hid (own_below HO.out hE (Nat.le_refl _))
      replace HS := Lib.hid (own_below HS.out hE (Nat.le_refl _))
      replace hx := bel_call hx hE
      replace hbel := bel_call hbel hE
      clear hE p0 p1 p2 p3
      obtain ⟨p0, p1, p2, p3⟩ := kP.cells4
      go_wp2_with fail
      refine (over_any _ L.length _ _ _ HO.out (by omega) hx.size).mono ?_
      rintro e w5 ⟨rfl, hg⟩
      have hne : (Value.slice asl S.length cs).ownBlock = none ∨ (Value.slice asl S.length cs).ownBlock ≠ (Value.slice al L.length cl).ownBlock := by
        cases hc : (Value.slice asl S.length cs).ownBlock with
        | none => exact .inl rfl
        | some g =>
          right
          intro e
          have h1 := (HS.out.lt g hc).1
          have h2 := HW1.out g e.symm
          omega
      have HS5 := Lib.hid (HS.out.kept hg hne)
      have hbel5 : Below w.heap.size w w5 := hbel.grown hg hbel.size (fun j hj => by have := (HO.out.lt _ hj).1; omega)
      have kP5 := kP.grown hg (fun e => by have := (HO.out.lt _ e).1; omega)
      clear hg hne kP hbel HO HS HW1 p0 p1 p2 p3
      by_cases hS0 : S.length = 0
      · rw [hS0] at HS5 ⊢
        go_wp2_with fail
        refine wp_loop_rounds 1 ?_
        rw [rounds_succ]
        go_wp2_with fail
        go_roundw
        case rel => exact ⟨k + 1, by omega, by go_num, kP5, hbel5⟩
        case measure => simp [intOf]; omega
      · obtain ⟨gs, cap, hsl, hgs, hgs2, _, _⟩ := own_some HS5.out (by omega)
        simp only [Value.slice.injEq, true_and] at hsl
        obtain ⟨rfl, rfl⟩ := hsl
        have hSp : 0 < S.length := by omega
        clear hS0
        go_wp2_with fail
        go_loopw [10] (fun i wr => ∃ (j : Nat) (ys : List Value), j ≤ S.length ∧ i = .int .i64 j ∧ wr.ownsRow w1.heap.size 39 2 (.slice (some ⟨gs, 0, none⟩) S.length cs) S.length ys ∧ Blk wr w.heap.size (svs a) 25 ∧ Below w.heap.size w wr) (fun i _ => S.length - (intOf i).toNat)
        case atStart => exact ⟨0, _, Nat.zero_le _, rfl, HS5.out, kP5, hbel5⟩
        case round =>
          clear HS5 kP5 hbel5
          obtain ⟨j, ys, hj, rfl, hown, kP, hbel⟩ := hrel
          by_cases hlt2 : j < S.length
          · have hlen : ys.length = S.length * 2 := hown.1
            have hc1 : wr.cell? ⟨gs, j * 2, none⟩ = some (ys[j * 2]'(by omega)) := by rw [hown.cellAt (j * 2) (by omega), List.getElem?_eq_getElem (by omega)]
            have hc2 : wr.cell? ⟨gs, j * 2 + 1, none⟩ = some (ys[j * 2 + 1]'(by omega)) := by rw [hown.cellAt (j * 2 + 1) (by omega), List.getElem?_eq_getElem (by omega)]
            have hf := hown.frozenAt
            have HO2 := Lib.hid (And.intro hown (And.intro kP hbel))
            clear hown kP hbel
            generalize ys[j * 2]'(by omega) = y1 at hc1
            generalize ys[j * 2 + 1]'(by omega) = y2 at hc2
            go_wp2
            go_roundw
            case rel =>
              obtain ⟨s1, s2⟩ := HO2.out.1.stored (j * 2) (.int .u8 9)
              obtain ⟨r1, r2⟩ := s1.stored (j * 2 + 1) (.int .u8 3)
              exact ⟨j + 1, _, by omega, by go_num, r1, (HO2.out.2.1.set_other (by simp; omega) _).set_other (by simp; omega) _, (HO2.out.2.2.setCell (by simp; omega) _).setCell (by simp; omega) _⟩
            case measure => simp [intOf]; omega
          · obtain rfl : j = S.length := by omega
            go_wp2_with fail
            go_roundw
            case rel => exact ⟨k + 1, by omega, by go_num, kP, hbel⟩
            case measure => simp [intOf]; omega
    · obtain rfl : k = 2 := by omega
      rw [show ((2 : Nat) : Int) = (2 : Int) from rfl]
      go_wp2_with fail
      go_loopw [11] (fun i wr => ∃ k : Nat, k ≤ 256 ∧ i = .int .i64 k ∧ Blk wr w.heap.size (svs a) 25 ∧ Below w.heap.size w wr) (fun i _ => 256 - (intOf i).toNat)
      case atStart => exact ⟨0, Nat.zero_le _, rfl, kP, hbel⟩
      case round =>
        clear kP hbel
        obtain ⟨k, hk, rfl, kP, hbel⟩ := hrel
        by_cases hlt : k < 256
        · obtain ⟨r, hr⟩ : ∃ r, a.getLsbD k = r := ⟨_, rfl⟩
          have HR := Lib.hid hr
          clear hr
          cases r
          all_goals
            go_wp2_with fail
            refine wp_region_stab (fun _ => none) (by kernel_rfl) (by kernel_rfl) (fun _ _ h => by cases h) (fun hex => ?_)
            iterate 8
              (refine wpS_one (A := ?_) hex rfl rfl (by simp) ?_ ?_ ?_
               rotate_left 2
               · intro w' hC K hK
                 obtain ⟨hcell, hfrz⟩ := bcell hC.1.ext
                 obtain ⟨p0, p1, p2, p3⟩ := (kP.ext hC.1.ext).cells4; clear hcell hfrz
                 go_wp2_with (first | (go_at_call 39; refine (has_eq a k _ _ (by omega) (by omega) HR.out).mono ?_; rintro e w2 ⟨rfl, hb2⟩) | (go_at_call 62; refine (rhas_eq a k _ _ hlt HR.out).mono ?_; rintro e w2 ⟨rfl, hb2⟩))
                 refine hK _ ?_
                 first | exact Gr.refl _ _ | exact Gr.of_ext (by assumption) hC.1.1.size
               rotate_left 1
               · rfl
               clear hex; intro hex)
            refine wpS_nil fun w3 hE => ?_
            replace hE := hE.1.ext
            obtain ⟨hcell_w3, hfrz_w3⟩ := bcell hE
            clear hcell_w3 hfrz_w3 hex
            go_wp2_with fail
            go_roundw
            case rel => exact ⟨k + 1, by omega, by go_num, kP.ext hE, bel_call hbel hE⟩
            case measure => simp [intOf]; omega
        · obtain rfl : k = 256 := by omega
          go_wp2
          go_ret
          exact ⟨rfl, hbel⟩
end Go.Proofs.YtkhmkcaocacfhaaDoor
