/- LexExact returns true for every list of texts, and leaves what it read as it was: on the conditions that the errors, the tables and the type that errors.As asks for, which the card ties to the program's text, stand in their variables when the call begins. -/
import Derived.Test.YtnecafokkhhhhaaGreatDoorMN
import Derived.Test.YtnecafokkhhhhaaGreatDoorMO
import Derived.Test.YtnecafokkhhhhaaGreatDoorMP
import Derived.Test.YtnecafokkhhhhaaGreatDoorMR
import Derived.Test.YtnecafokkhhhhaaGreatDoorMC
import Derived.Test.YtnecafokkhhhhaaGreatDoorMG
import Derived.Deep.CutBlock
import Derived.Deep.CutRange
import Derived.Test.YtnecafokkhhhhaaGreatDoorTie
import Derived.Test.YtnecafokkhhhhaaGreatDoorCards
import Derived.SevenTiedAt
import Derived.Deep.DeepWitnessRowRef
import Derived.Deep.DeepHandedRow
namespace Go.Proofs.YtnecafokkhhhhaaGreatDoor
open Go Go.RowKit
def QoEnd (w w' : World) (e : Ending) : Sum (Bool × Nat) Lxm → Prop
  | .inl (b, q) => ∃ (kd a en : Int) (T : ByteArray) (n x0 x1 x2 x3 : Int), e = .returned (.tuple #[.agg (lcs kd a en T n x0 x1 x2 x3), .agg #[.int .i64 (if b = true then 4 else 3), .int .i64 0, .int .i64 0, .int .i64 (q : Int), .slice none 0 0]]) ∧ Ext w w'
  | .inr y => e = .returned (.tuple #[.agg (lcs (y.kind : Int) (y.a : Int) (y.e : Int) ⟨y.t.toArray⟩ (y.n : Int) (wd y.S 0) (wd y.S 1) (wd y.S 2) (wd y.S 3)), .agg #[.int .i64 0, .int .i64 0, .int .i64 0, .int .i64 0, .slice none 0 0]]) ∧ Ext w w'
theorem ext_ba (s : ByteArray) (k n : Nat) : s.extract k (k + n) = ⟨((rest s k).take n).toArray⟩ := by
  rw [← ext_lst]
set_option maxHeartbeats 1000000 in
theorem rone_any (s : ByteArray) (k : Nat) (hs : s.size ≤ 65536) (C : UInt8) (hC : rest s k = C :: rest s (k + 1)) (hb : blnk C.toNat = false) (h35 : C.toNat ≠ 35) (X : Sum (Bool × Nat) Lxm) (hX : one (rest s k) k = X) (w : World) :
    Calls Tryz.prog 10 #[.string s, .int .i64 (k : Int)] w fun e w' => QoEnd w w' e X := by
  have hX : oneR C.toNat (rest s k) k = X := by rw [← hX, hC]; rfl
  unfold oneR at hX
  rw [hb, if_neg (by simp), if_neg h35] at hX
  by_cases h10 : C.toNat = 10
  · rw [if_pos h10] at hX
    subst hX
    refine (rone_lf s k hs C hC h10 w).mono ?_
    rintro e w' ⟨rfl, hE⟩
    exact ⟨by simp only [wd_zero]; rfl, hE⟩
  rw [if_neg h10] at hX
  cases hl : ltr C.toNat with
  | true =>
    rw [hl, if_pos rfl] at hX
    obtain ⟨n, hn⟩ : ∃ n, run nmc (rest s k) = n := ⟨_, rfl⟩
    rw [hn] at hX
    by_cases h32 : 32 < n
    · rw [if_pos h32] at hX
      subst hX
      exact rone_long s k hs C hC h10 hl n hn h32 w
    · rw [if_neg h32] at hX
      subst hX
      refine (rone_name s k hs C hC h10 hl n hn h32 w).mono ?_
      rintro e w' ⟨rfl, hE⟩
      exact ⟨by simp only [wd_zero]; rw [ext_ba]; rfl, hE⟩
  | false =>
    rw [hl, if_neg (by simp)] at hX
    cases hd : dgt C.toNat with
    | true =>
      rw [hd, if_pos rfl] at hX
      obtain ⟨n, hn⟩ : ∃ n, run dgt (rest s k) = n := ⟨_, rfl⟩
      rw [hn] at hX
      subst hX
      refine (rone_num s k hs C hC h10 hl hd n hn _ rfl w).mono ?_
      rintro e w' ⟨rfl, hE⟩
      exact ⟨by simp only [wd_zero]; rfl, hE⟩
    | false =>
      rw [hd, if_neg (by simp)] at hX
      by_cases h34 : C.toNat = 34
      · rw [if_pos h34] at hX
        cases hq : quq unq (rest s k) k with
        | inl q =>
          rw [hq] at hX
          subst hX
          exact rone_quo_no s k hs C hC h34 q hq w
        | inr am =>
          obtain ⟨A, m⟩ := am
          rw [hq] at hX
          subst hX
          refine (rone_quo s k hs C hC h34 A m hq w).mono ?_
          rintro e w' ⟨rfl, hE⟩
          exact ⟨by simp only [wd_zero]; rfl, hE⟩
      rw [if_neg h34] at hX
      by_cases h91 : C.toNat = 91
      · rw [if_pos h91] at hX
        cases hq : cls unq ((rest s k).length + 1) 0 (rest s k) k with
        | inl x =>
          obtain ⟨b, q⟩ := x
          rw [hq] at hX
          subst hX
          exact rone_cls_no s k hs C hC h91 b q hq _ rfl w
        | inr am =>
          obtain ⟨S, m⟩ := am
          rw [hq] at hX
          subst hX
          refine (rone_cls s k hs C hC h91 S m hq w).mono ?_
          rintro e w' ⟨rfl, hE⟩
          exact ⟨rfl, hE⟩
      rw [if_neg h91] at hX
      by_cases h46 : C.toNat = 46
      · rw [if_pos h46] at hX
        subst hX
        refine (rone_dot s k hs C hC h46 _ _ rfl rfl w).mono ?_
        rintro e w' ⟨rfl, hE⟩
        exact ⟨rfl, hE⟩
      rw [if_neg h46] at hX
      have hm := mkl_all C.toNat (rest s (k + 1)) C rfl
      have hdr : (rest s k).drop 1 = rest s (k + 1) := by rw [hC]; rfl
      rw [hdr] at hX
      by_cases hin : C ∈ mAll
      · have h1 := hm.1 hin
        rw [h1] at hX
        have h0 : (if C.toNat = 61 ∧ Lib.hasPrefix (rest s (k + 1)) [62] = true then 2 else 1) ≠ 0 := by split <;> decide
        rw [if_neg h0] at hX
        subst hX
        refine (rone_mark s k hs C hC h10 hl hd h34 h91 h46 _ rfl hin w).mono ?_
        rintro e w' ⟨rfl, hE⟩
        exact ⟨by simp only [wd_zero]; rw [ext_ba]; rfl, hE⟩
      · have h1 := (hm.2 hin).1
        rw [h1, if_pos rfl] at hX
        subst hX
        exact rone_mark_no s k hs C hC h10 hl hd h34 h91 h46 _ rfl hin w
theorem lxs_go (g : Nat) (l : List UInt8) (k : Nat) (hg : l.length ≤ g) (hl : l ≠ []) (y : Lxm) (ho : one l k = .inr y) :
    lxs g l k = (if y.kind = 0 then lxs g (l.drop (y.e - k)) y.e else (y :: (lxs g (l.drop (y.e - k)) y.e).1, (lxs g (l.drop (y.e - k)) y.e).2)) := by
  obtain ⟨g, rfl⟩ : ∃ x, g = x + 1 := ⟨g - 1, by have := List.length_pos_iff.2 hl; omega⟩
  have h1 := (one_lt ho).lo
  have hd : (l.drop (y.e - k)).length ≤ g := by rw [List.length_drop]; have := List.length_pos_iff.2 hl; omega
  rw [lxs_step g l k hl, ho]
  unfold lxN
  simp only
  rw [lxs_fuel g (g + 1) _ _ hd (by omega)]
theorem grown_put (a : World) (b o : Nat) (v : Value) : a.grownBy (a.setCell ⟨b, o, none⟩ v) (some b) :=
  ⟨rfl, rfl, rfl, by simp [World.setCell], fun k hk hne => Below.heap_setCell _ _ _ _ (by intro e; simp at e; exact hne (by rw [e]))⟩
theorem own_put5 {w : World} {B b e sz n : Nat} {v : Value} {xs : List Value} (h : w.ownsRow B e sz v n xs) (hb : b < B) (y0 y1 y2 y3 y4 : Value) :
    (((((w.setCell ⟨b, 0, none⟩ y0).setCell ⟨b, 1, none⟩ y1).setCell ⟨b, 2, none⟩ y2).setCell ⟨b, 3, none⟩ y3).setCell ⟨b, 4, none⟩ y4).ownsRow B e sz v n xs :=
  own_grown h (grown_trans (grown_trans (grown_trans (grown_trans (grown_put _ b 0 y0) (grown_put _ b 1 y1)) (grown_put _ b 2 y2)) (grown_put _ b 3 y3)) (grown_put _ b 4 y4)) (fun j hj => by cases hj; exact hb)
set_option maxHeartbeats 4000000 in
set_option maxRecDepth 20000 in
theorem rlex_any (s : ByteArray) (hs : s.size ≤ 65536) (L : List Lxm) (r : Option (Bool × Nat)) (hx : lxs s.size (rest s 0) 0 = (L, r)) (w : World) :
    Calls Tryz.prog 4 #[.string s] w fun e w' => ∃ v, e = .returned (.tuple #[v, fag (erC (dr r)) (erA (dr r))]) ∧ w'.ownsRow w.heap.size 38 9 v L.length (L.flatMap lcl) ∧ Ext w w' := by
  obtain ⟨i0, hi, hz0, hz1, hz2⟩ := info_parts info_lex
  have HX := Lib.hid hx
  have d0 : decide ((65536 : Int) < (s.size : Int)) = false := by simp; omega
  have d0n : decide (65536 < s.size) = false := by simp; omega
  have HB0 := Lib.hid (Blk.new w fzer 25)
  have HE0 := Lib.hid (show Ext w (w.alloc (.cells fzer 25)) from by (repeat' (first | (with_reducible exact Below.refl _ _) | (with_reducible assumption) | (with_reducible refine below_drewN ?_ _) | (with_reducible refine Below.alloc ?_ ?_ _) | (with_reducible refine Below.drew ?_) | (with_reducible refine Below.setCell ?_ ?_ _) | (with_reducible refine Below.trans ?_ (Below.mono (by with_reducible assumption) ?_)) | go_size)))
  clear hx
  go_enter Tryz.func4, Tryz.ntmps4
  go_upto_region 4 with fail
  generalize w.alloc (.cells fzer 25) = w1 at HB0 HE0 ⊢
  go_wp2_with fail
  clear d0 d0n
  go_loopw [4, 5] (fun v4 v5 wr => ∃ (e : Nat) (A : List Lxm), e ≤ s.size ∧ A.length ≤ e ∧ v5 = .int .i64 (e : Int) ∧ Hid (A ++ (lxs s.size (rest s e) e).1 = L ∧ (lxs s.size (rest s e) e).2 = r) ∧ Hid (Blk wr w.heap.size fzer 25) ∧ Hid (Ext w wr) ∧ Hid (wr.ownsRow (w.heap.size + 1) 38 9 v4 A.length (A.flatMap lcl))) (fun _ v5 _ => s.size - (intOf v5).toNat)
  case atStart => exact ⟨0, [], Nat.zero_le _, by simp, rfl, Lib.hid ⟨by rw [HX.out]; rfl, by rw [HX.out]⟩, HB0, HE0, Lib.hid (World.ownsRow_nil _ _ _ _)⟩
  case round =>
    clear HB0 HE0 HX
    obtain ⟨e, A, hes, hAe, rfl, hL, hB, hE, hown⟩ := hrel
    have hre := rest_len hes
    by_cases hlt : e < s.size
    · have d1 : decide ((e : Int) < (s.size : Int)) = true := by simp; omega
      have d1n : decide (e < s.size) = true := by simp; omega
      obtain ⟨C, hC⟩ := lx_unc s e hlt
      have hix := idx_at s e (e : Int) rfl C _ hC
      have hne : rest s e ≠ [] := by rw [hC]; simp
      by_cases hbk : blnk C.toNat = true
      · have ho : one (rest s e) e = .inr ⟨0, e, e + 1, [], 0, 0#256⟩ := by
          rw [hC]
          show oneR C.toNat _ e = _
          unfold oneR
          rw [if_pos hbk]
        have hgo := lxs_go s.size (rest s e) e (by omega) hne _ ho
        rw [if_pos rfl] at hgo
        simp only [Nat.add_sub_cancel_left] at hgo
        rw [← rest_drop] at hgo
        have HL2 := Lib.hid (show A ++ (lxs s.size (rest s (e + 1)) (e + 1)).1 = L ∧ (lxs s.size (rest s (e + 1)) (e + 1)).2 = r by rw [← hgo]; exact hL.out)
        have hb : C.toNat = 32 ∨ (C.toNat ≠ 32 ∧ C.toNat = 9) ∨ (C.toNat ≠ 32 ∧ C.toNat ≠ 9 ∧ C.toNat = 13) := by
          have := hbk
          unfold blnk at this
          simp at this
          omega
        clear hgo ho hL hbk hC hne
        rcases hb with h | ⟨h0, h⟩ | ⟨h0, h1, h⟩
        · have e1 : ((C.toNat : Int) == 32) = true := by simp; omega
          go_wp2_with fail
          go_roundw
          case rel => exact ⟨e + 1, A, by omega, by omega, by go_num, HL2, hB, hE, hown⟩
          case measure => simp [intOf]; omega
        · have e1 : ((C.toNat : Int) == 32) = false := (by simp; omega); have e2 : ((C.toNat : Int) == 9) = true := (by simp; omega)
          go_wp2_with fail
          go_roundw
          case rel => exact ⟨e + 1, A, by omega, by omega, by go_num, HL2, hB, hE, hown⟩
          case measure => simp [intOf]; omega
        · have e1 : ((C.toNat : Int) == 32) = false := (by simp; omega); have e2 : ((C.toNat : Int) == 9) = false := (by simp; omega); have e3 : ((C.toNat : Int) == 13) = true := (by simp; omega)
          go_wp2_with fail
          go_roundw
          case rel => exact ⟨e + 1, A, by omega, by omega, by go_num, HL2, hB, hE, hown⟩
          case measure => simp [intOf]; omega
      · have hbk : blnk C.toNat = false := by simpa using hbk
        have hnb : C.toNat ≠ 32 ∧ C.toNat ≠ 9 ∧ C.toNat ≠ 13 := by
          have := hbk
          unfold blnk at this
          simp at this
          omega
        obtain ⟨n1, n2, n3⟩ := hnb
        have e1 : ((C.toNat : Int) == 32) = false := by simp; omega
        have e2 : ((C.toNat : Int) == 9) = false := by simp; omega
        have e3 : ((C.toNat : Int) == 13) = false := by simp; omega
        by_cases h35 : C.toNat = 35
        · have e35 : ((C.toNat : Int) == 35) = true := by simp; omega
          obtain ⟨n, hn⟩ : ∃ n, run rmk (rest s e) = n := ⟨_, rfl⟩
          have hnl : e + n ≤ s.size := by have := run_le rmk (rest s e); omega
          have hn0 : 0 < n := by rw [← hn, hC, run_cons_true rmk C _ (by unfold rmk; rw [h35]; rfl)]; omega
          have ho : one (rest s e) e = .inr ⟨0, e, e + n, [], 0, 0#256⟩ := by
            rw [hC] at hn ⊢
            show oneR C.toNat _ e = _
            unfold oneR
            rw [hbk, if_neg (by simp), if_pos h35, hn]
          have hgo := lxs_go s.size (rest s e) e (by omega) hne _ ho
          rw [if_pos rfl] at hgo
          simp only [Nat.add_sub_cancel_left] at hgo
          rw [← rest_drop] at hgo
          have HL2 := Lib.hid (show A ++ (lxs s.size (rest s (e + n)) (e + n)).1 = L ∧ (lxs s.size (rest s (e + n)) (e + n)).2 = r by rw [← hgo]; exact hL.out)
          have HN := Lib.hid (show e + run rmk (rest s e) = e + n by rw [hn])
          clear hgo ho hL hbk hC hne hn h35 n1 n2 n3
          go_wp2_with fail
          clear e1 e2 e3 e35 hix d1 d1n
          go_loopw [5] (fun i wr2 => ∃ j : Nat, j ≤ s.size ∧ e ≤ j ∧ i = .int .i64 j ∧ Hid (j + run rmk (rest s j) = e + n) ∧ Hid (Blk wr2 w.heap.size fzer 25) ∧ Hid (Ext w wr2) ∧ Hid (wr2.ownsRow (w.heap.size + 1) 38 9 u4 A.length (A.flatMap lcl))) (fun i _ => s.size - (intOf i).toNat)
          case atStart => exact ⟨e, hes, Nat.le_refl _, rfl, HN, hB, hE, hown⟩
          case round =>
            clear HN hB hE hown
            obtain ⟨j, hj, hej, rfl, hN, hB, hE, hown⟩ := hrel
            by_cases hjs : j < s.size
            · have d1 : decide ((j : Int) < (s.size : Int)) = true := by simp; omega
              have d1n : decide (j < s.size) = true := by simp; omega
              obtain ⟨D, hD⟩ := lx_unc s j hjs
              have hix := idx_at s j (j : Int) rfl D _ hD
              have hrn := hN.out
              rw [hD] at hrn
              by_cases h10 : D.toNat = 10
              · have e1 : ((D.toNat : Int) != 10) = false := by simp; omega
                rw [run_cons_false rmk D _ (by unfold rmk; rw [h10]; rfl)] at hrn
                have hjn : j = e + n := hrn
                have HLj := Lib.hid (show A ++ (lxs s.size (rest s j) j).1 = L ∧ (lxs s.size (rest s j) j).2 = r by rw [hjn]; exact HL2.out)
                have hlo : e < j := by omega
                clear hrn hN hD h10 HL2 hjn
                go_wp2_with fail
                go_roundw
                case rel => exact ⟨j, A, by omega, by omega, rfl, HLj, hB, hE, hown⟩
                case measure => simp [intOf]; omega
              · have e1 : ((D.toNat : Int) != 10) = true := by simp; omega
                rw [run_cons_true rmk D _ (by unfold rmk; simp; omega)] at hrn
                have HN2 := Lib.hid (show j + 1 + run rmk (rest s (j + 1)) = e + n by omega)
                clear hrn hN hD h10
                go_wp2_with fail
                go_roundw
                case rel => exact ⟨j + 1, by omega, by omega, by go_num, HN2, hB, hE, hown⟩
                case measure => simp [intOf]; omega
            · have d1 : decide ((j : Int) < (s.size : Int)) = false := by simp; omega
              have d1n : decide (j < s.size) = false := by simp; omega
              have hjn : j = e + n := by
                have := hN.out
                rw [lx_end s j (by omega)] at this
                simpa [run] using this
              have HLj := Lib.hid (show A ++ (lxs s.size (rest s j) j).1 = L ∧ (lxs s.size (rest s j) j).2 = r by rw [hjn]; exact HL2.out)
              have hlo : e < j := by omega
              clear hN HL2 hjn
              go_wp2_with fail
              go_roundw
              case rel => exact ⟨j, A, by omega, by omega, rfl, HLj, hB, hE, hown⟩
              case measure => simp [intOf]; omega
        · have e35 : ((C.toNat : Int) == 35) = false := by simp; omega
          obtain ⟨z, hz⟩ : ∃ z, one (rest s e) e = z := ⟨_, rfl⟩
          have HON := Lib.hid (fun w => rone_any s e hs C hC hbk h35 z hz w)
          cases z with
          | inl bq =>
            obtain ⟨b, q⟩ := bq
            have hLL : A = L ∧ some (b, q) = r := by
              have h := hL.out
              obtain ⟨g, hg⟩ : ∃ g, s.size = g + 1 := ⟨s.size - 1, by omega⟩
              have e : lxs s.size (rest s e) e = lxN g (rest s e) e (.inl (b, q)) := by rw [hg, lxs_step g _ _ hne, hz]
              rw [e] at h
              simpa [lxN] using h
            have HLL := Lib.hid hLL
            clear hLL hL hz hC hne hbk h35 n1 n2 n3
            go_wp2_with fail
            refine (HON.out _).mono ?_
            rintro e2 w2 ⟨kd, a, en, T, n, x0, x1, x2, x3, rfl, hx2⟩
            clear HON e1 e3 e35 hix d1 d1n
            obtain ⟨cd, hcd⟩ : ∃ cd : Int, (if b = true then (4 : Int) else 3) = cd := ⟨_, rfl⟩
            have hcn : (cd != 0) = true := by rw [← hcd]; cases b <;> rfl
            have HCD := Lib.hid (show erC (dr (some (b, q))) = cd ∧ erA (dr (some (b, q))) = (q : Int) from ⟨by rw [← hcd]; cases b <;> rfl, rfl⟩)
            rw [hcd]
            clear hcd
            obtain ⟨W, hW⟩ : ∃ W, (w2.alloc (.cells (lcs kd a en T n x0 x1 x2 x3) 38)).alloc (.cells (fcs cd (q : Int)) 25) = W := ⟨_, rfl⟩
            have hE3 : Ext w2 ((w2.alloc (.cells (lcs kd a en T n x0 x1 x2 x3) 38)).alloc (.cells (fcs cd (q : Int)) 25)) := by (repeat' (first | (with_reducible exact Below.refl _ _) | (with_reducible assumption) | (with_reducible refine below_drewN ?_ _) | (with_reducible refine Below.alloc ?_ ?_ _) | (with_reducible refine Below.drew ?_) | (with_reducible refine Below.setCell ?_ ?_ _) | (with_reducible refine Below.trans ?_ (Below.mono (by with_reducible assumption) ?_)) | go_size))
            have HG := Lib.hid (show Blk ((w2.alloc (.cells (lcs kd a en T n x0 x1 x2 x3) 38)).alloc (.cells (fcs cd (q : Int)) 25)) (w2.heap.size + 1) (fcs cd (q : Int)) 25 from by
              have := Blk.new (w2.alloc (.cells (lcs kd a en T n x0 x1 x2 x3) 38)) (fcs cd (q : Int)) 25
              simp only [World.size_alloc] at this
              exact this)
            have hE2 := bel_call hx2 hE3
            have HB3 := Lib.hid (hB.out.ext hE2)
            have HE3 := Lib.hid (bel_call hE.out hE2)
            have HO3 := Lib.hid (own_grown hown.out (grown_of_ext (row := none) hE2) (fun j hj => by cases hj))
            have hpb : w.heap.size < w2.heap.size := Nat.lt_of_lt_of_le hB.out.lt hx2.size
            have HW := Lib.hid hW
            clear hx2 hE3 hE2 hB hE hown hW
            go_upto_region 7 with fail
            have hW := HW.out
            rw [hW] at HG HB3 HE3 HO3 ⊢
            clear hW HW
            generalize w2.heap.size = pb at hpb HG ⊢
            have g0 := HG.out.cell 0
            have g1 := HG.out.cell 1
            have g2 := HG.out.cell 2
            have g3 := HG.out.cell 3
            have g4 := HG.out.cell 4
            go_upto_region 8 with fail
            have kF := HB3.out
            have q0 := kF.cell 0
            have q1 := kF.cell 1
            have q2 := kF.cell 2
            have q3 := kF.cell 3
            have q4 := kF.cell 4
            have f0 := kF.free 0
            have f1 := kF.free 1
            have f2 := kF.free 2
            have f3 := kF.free 3
            have f4 := kF.free 4
            have hltF := kF.lt
            have KF := Lib.hid (kF.store5 (.int .i64 cd) (.int .i64 0) (.int .i64 0) (.int .i64 (q : Int)) (.slice none 0 0))
            have EZ := Lib.hid (Below.drew (ext_set5 HE3.out (b := w.heap.size) (Nat.le_refl _) (.int .i64 cd) (.int .i64 0) (.int .i64 0) (.int .i64 (q : Int)) (.slice none 0 0)))
            clear kF
            go_wp2_with fail
            go_region
            have y0 := (KF.out.drew).cell 0
            have y1 := (KF.out.drew).cell 1
            have y2 := (KF.out.drew).cell 2
            have y3 := (KF.out.drew).cell 3
            have y4 := (KF.out.drew).cell 4
            have HOZ := Lib.hid (own_grown (own_put5 HO3.out (Nat.lt_succ_self _) (.int .i64 cd) (.int .i64 0) (.int .i64 0) (.int .i64 (q : Int)) (.slice none 0 0)) (grown_of_ext (row := none) (Below.drew (Below.refl _ _))) (fun j hj => by cases hj))
            clear q0 q1 q2 q3 q4 f0 f1 f2 f3 f4 hltF g0 g1 g2 g3 g4 HB3 HE3 HO3 KF HG hpb
            go_wp2_with fail
            refine bodyPost_ret (v := .tuple #[u4, fag cd (q : Int)]) ?_ rfl ?_
            · simp [results, Tryz.results4, go_sem, y0, y1, y2, y3, y4]
            · obtain ⟨rfl, rfl⟩ := HLL.out
              refine ⟨_, by rw [HCD.out.1, HCD.out.2], ownsRow_base HOZ.out (by omega), EZ.out⟩
          | inr y =>
            have hgo := lxs_go s.size (rest s e) e (by omega) hne _ hz
            have hok := one_lt hz
            have hyk : y.kind ≠ 0 := by
              intro h0
              rcases one_pass C (rest s (e + 1)) e y (by rw [← hC]; exact hz) h0 with ⟨h, _⟩ | ⟨h, _⟩
              · rw [hbk] at h; cases h
              · exact h35 h
            have hy1 := hok.lo
            have hy2 := hok.hi
            rw [if_neg hyk, ← rest_drop, show e + (y.e - e) = y.e by omega] at hgo
            have HL2 := Lib.hid (show (A ++ [y]) ++ (lxs s.size (rest s y.e) y.e).1 = L ∧ (lxs s.size (rest s y.e) y.e).2 = r by
              have h := hL.out
              rw [hgo] at h
              exact ⟨by rw [List.append_assoc]; exact h.1, h.2⟩)
            have hye : y.e ≤ s.size := by omega
            clear hgo hok hyk hy2 hL hz hC hne hbk h35 n1 n2 n3 hre
            go_wp2_with fail
            refine (HON.out _).mono ?_
            rintro e2 w2 ⟨rfl, hx2⟩
            clear HON e1 e3 e35 hix d1 d1n
            obtain ⟨W, hW⟩ : ∃ W, (w2.alloc (.cells (lcs (y.kind : Int) (y.a : Int) (y.e : Int) ⟨y.t.toArray⟩ (y.n : Int) (wd y.S 0) (wd y.S 1) (wd y.S 2) (wd y.S 3)) 38)).alloc (.cells (fcs 0 0) 25) = W := ⟨_, rfl⟩
            have hE3 : Ext w2 ((w2.alloc (.cells (lcs (y.kind : Int) (y.a : Int) (y.e : Int) ⟨y.t.toArray⟩ (y.n : Int) (wd y.S 0) (wd y.S 1) (wd y.S 2) (wd y.S 3)) 38)).alloc (.cells (fcs 0 0) 25)) := by (repeat' (first | (with_reducible exact Below.refl _ _) | (with_reducible assumption) | (with_reducible refine below_drewN ?_ _) | (with_reducible refine Below.alloc ?_ ?_ _) | (with_reducible refine Below.drew ?_) | (with_reducible refine Below.setCell ?_ ?_ _) | (with_reducible refine Below.trans ?_ (Below.mono (by with_reducible assumption) ?_)) | go_size))
            have HG := Lib.hid (show Blk ((w2.alloc (.cells (lcs (y.kind : Int) (y.a : Int) (y.e : Int) ⟨y.t.toArray⟩ (y.n : Int) (wd y.S 0) (wd y.S 1) (wd y.S 2) (wd y.S 3)) 38)).alloc (.cells (fcs 0 0) 25)) (w2.heap.size + 1) (fcs 0 0) 25 from by
              have := Blk.new (w2.alloc (.cells (lcs (y.kind : Int) (y.a : Int) (y.e : Int) ⟨y.t.toArray⟩ (y.n : Int) (wd y.S 0) (wd y.S 1) (wd y.S 2) (wd y.S 3)) 38)) (fcs 0 0) 25
              simp only [World.size_alloc] at this
              exact this)
            have HOL := Lib.hid hown.out
            have hpb : wr.heap.size ≤ w2.heap.size := hx2.size
            have HX := Lib.hid ((Blk.new w2 (lcs (y.kind : Int) (y.a : Int) (y.e : Int) ⟨y.t.toArray⟩ (y.n : Int) (wd y.S 0) (wd y.S 1) (wd y.S 2) (wd y.S 3)) 38).alloc (.cells (fcs 0 0) 25))
            have hE2 := bel_call hx2 hE3
            have HB3 := Lib.hid (hB.out.ext hE2)
            have HE3 := Lib.hid (bel_call hE.out hE2)
            have HO3 := Lib.hid (own_grown hown.out (grown_of_ext (row := none) hE2) (fun j hj => by cases hj))
            have HW := Lib.hid hW
            clear hx2 hE3 hE2 hB hE hown hW
            go_upto_region 7 with fail
            have hW := HW.out
            rw [hW] at HG HX HB3 HE3 HO3 ⊢
            clear hW HW
            generalize w2.heap.size = pb at HG HX hpb ⊢
            have g0 := HG.out.cell 0
            have k0 := HX.out.cell 0
            have k1 := HX.out.cell 1
            have k2 := HX.out.cell 2
            have k3 := HX.out.cell 3
            have k4 := HX.out.cell 4
            have k5 := HX.out.cell 5
            have k6 := HX.out.cell 6
            have k7 := HX.out.cell 7
            have k8 := HX.out.cell 8
            have HX4 := Lib.hid (show Ext w (W.alloc (.cells (lcl y).toArray 38)) from HE3.out.alloc HE3.out.size _)
            go_upto_region 10 with (at_builtin; refine wpList_append_own _ rfl (.tmp 27) (.tmp 29) 23 rfl (w.heap.size + 1) 38 i0 (.agg #[.int .i64 0, .int .i64 0, .int .i64 0, .string ⟨#[]⟩, .int .i64 0, .int .u64 0, .int .u64 0, .int .u64 0, .int .u64 0]) 9 80 Tryz.underlying23 hi hz0 hz1 hz2 rfl (by decide) _ _ _ rfl (HO3.out.alloc _) ⟨_, 0, none⟩ 1 1 (lcl y) rfl rfl (cell_new_at _ (lcl y) _ _ (by simp)) (by intro u hu; simp [lcl] at hu; rcases hu with rfl | rfl | rfl | rfl | rfl | rfl | rfl | rfl | rfl <;> rfl) (by unfold maxLen; omega) (by omega) (by have := HE3.out.size; have := HB3.out.lt; simp; omega) ?_; intro v1 w4 hown1 hgrow1 hnil1)
            have hne4 : u4.ownBlock ≠ some pb := fun h => by have := (HOL.out.lt pb h).2; omega
            have hx4 := ((HX.out.alloc (.cells (lcl y).toArray 38)).grown hgrow1 hne4).cell 2
            have HB4 := Lib.hid ((HB3.out.alloc (.cells (lcl y).toArray 38)).grown hgrow1 (fun h => by have := (HOL.out.lt _ h).1; omega))
            have hE4 : Ext w w4 := ⟨hgrow1.os.trans HX4.out.os, hgrow1.tape.trans HX4.out.tape, hgrow1.output.trans HX4.out.output, Nat.le_trans HX4.out.size hgrow1.size, fun j hj => (hgrow1.block j (Nat.lt_of_lt_of_le hj HX4.out.size) (fun e => by have := (HOL.out.lt j e.symm).1; omega)).trans (HX4.out.block j hj)⟩
            have HE4 := Lib.hid hE4
            have HO4 := Lib.hid hown1
            have x2 : w4.cell? ⟨pb, 2, none⟩ = some (.int .i64 (y.e : Int)) := hx4
            clear hx4 hE4 hown1 hgrow1 hnil1 hne4 g0 k0 k1 k2 k3 k4 k5 k6 k7 k8 HX HG HX4 HO3 HE3 HB3 HOL hpb
            go_wp2_with fail
            go_roundw
            case rel =>
              refine ⟨y.e, A ++ [y], by omega, by simp; omega, rfl, HL2, HB4, HE4, Lib.hid ?_⟩
              rw [List.length_append, flat_app]
              exact HO4.out
            case measure => simp [intOf]; omega
    · have d1 : decide ((e : Int) < (s.size : Int)) = false := by simp; omega
      have d1n : decide (e < s.size) = false := by simp; omega
      have hend : A = L ∧ none = r := by
        have := hL.out
        rw [lx_end s e (by omega), lxs_nil] at this
        simpa using this
      have HEND := Lib.hid hend
      have kF := hB.out
      have q0 := kF.cell 0
      have q1 := kF.cell 1
      have q2 := kF.cell 2
      have q3 := kF.cell 3
      have q4 := kF.cell 4
      have f0 := kF.free 0
      have f1 := kF.free 1
      have f2 := kF.free 2
      have f3 := kF.free 3
      have f4 := kF.free 4
      have hltF := kF.lt
      have KF := Lib.hid (kF.store5 (.int .i64 0) (.int .i64 0) (.int .i64 0) (.int .i64 0) (.slice none 0 0))
      have EZ := Lib.hid (ext_set5 hE.out (b := w.heap.size) (Nat.le_refl _) (.int .i64 0) (.int .i64 0) (.int .i64 0) (.int .i64 0) (.slice none 0 0))
      have HOZ := Lib.hid (own_put5 hown.out (Nat.lt_succ_self _) (.int .i64 0) (.int .i64 0) (.int .i64 0) (.int .i64 0) (.slice none 0 0))
      clear kF hend hL hB hE hown
      go_wp2_with fail
      have y0 := KF.out.cell 0
      have y1 := KF.out.cell 1
      have y2 := KF.out.cell 2
      have y3 := KF.out.cell 3
      have y4 := KF.out.cell 4
      refine bodyPost_ret (v := .tuple #[u4, fag 0 0]) ?_ rfl ?_
      · simp [results, Tryz.results4, go_sem, y0, y1, y2, y3, y4]
      · obtain ⟨rfl, rfl⟩ := HEND.out
        exact ⟨_, rfl, ownsRow_base HOZ.out (by omega), EZ.out⟩
end Go.Proofs.YtnecafokkhhhhaaGreatDoor
namespace Go.Proofs.YtnecafokkhhhhaaGreatDoor
open Go Go.RowKit
theorem ris_any (c : Int) (w : World) : Calls Tryz.prog 9 #[.int .i64 c] w fun e w' => e = .returned (.agg #[.int .i64 c, .int .i64 0, .int .i64 0, .int .i64 0, .slice none 0 0]) ∧ Ext w w' := by
  have kR := Blk.new w #[.int .i64 0, .int .i64 0, .int .i64 0, .int .i64 0, .slice none 0 0] 25
  have kZ := ((((kR.set 0 (.int .i64 c)).set 1 (.int .i64 0)).set 2 (.int .i64 0)).set 3 (.int .i64 0)).set 4 (.slice none 0 0)
  obtain ⟨q0, q1, q2, q3, q4⟩ := kR.cells5
  have f0 := kR.free 0
  have f1 := kR.free 1
  have f2 := kR.free 2
  have f3 := kR.free 3
  have f4 := kR.free 4
  have hlt := kR.lt
  obtain ⟨z0, z1, z2, z3, z4⟩ := kZ.cells5
  have hx : Ext w (w.alloc (.cells #[.int .i64 0, .int .i64 0, .int .i64 0, .int .i64 0, .slice none 0 0] 25)) := by go_grown
  have HX := Lib.hid hx
  clear kR kZ hx
  go_enter Tryz.func9, Tryz.ntmps9
  go_wp2
  refine bodyPost_ret (v := .agg #[.int .i64 c, .int .i64 0, .int .i64 0, .int .i64 0, .slice none 0 0]) ?_ rfl ⟨rfl, by (repeat' (first | (with_reducible exact Below.refl _ _) | (with_reducible assumption) | (with_reducible refine below_drewN ?_ _) | (with_reducible refine Below.alloc ?_ ?_ _) | (with_reducible refine Below.drew ?_) | (with_reducible refine Below.setCell ?_ ?_ _) | (with_reducible refine Below.trans ?_ (Below.mono (by with_reducible assumption) ?_)) | go_size))⟩
  simp [results, Tryz.results9, go_sem]
set_option maxHeartbeats 1000000 in
theorem rlex_long (s : ByteArray) (hs : 65536 < s.size) (w : World) :
    Calls Tryz.prog 4 #[.string s] w fun e w' => e = .returned (.tuple #[.slice none 0 0, fag 2 0]) ∧ Ext w w' := by
  have d0 : decide ((65536 : Int) < (s.size : Int)) = true := by simp; omega
  have d0n : decide (65536 < s.size) = true := by simp; omega
  have HB0 := Lib.hid (Blk.new w fzer 25)
  have HE0 := Lib.hid (show Ext w (w.alloc (.cells fzer 25)) from by (repeat' (first | (with_reducible exact Below.refl _ _) | (with_reducible assumption) | (with_reducible refine below_drewN ?_ _) | (with_reducible refine Below.alloc ?_ ?_ _) | (with_reducible refine Below.drew ?_) | (with_reducible refine Below.setCell ?_ ?_ _) | (with_reducible refine Below.trans ?_ (Below.mono (by with_reducible assumption) ?_)) | go_size)))
  clear hs
  go_enter Tryz.func4, Tryz.ntmps4
  go_wp2_with fail
  refine (ris_any 2 _).mono ?_
  rintro e w2 ⟨rfl, hx⟩
  have kF := HB0.out.ext hx
  have HE := Lib.hid (bel_call HE0.out hx)
  have q0 := kF.cell 0
  have q1 := kF.cell 1
  have q2 := kF.cell 2
  have q3 := kF.cell 3
  have q4 := kF.cell 4
  have f0 := kF.free 0
  have f1 := kF.free 1
  have f2 := kF.free 2
  have f3 := kF.free 3
  have f4 := kF.free 4
  have hltF := kF.lt
  have KF := Lib.hid (kF.store5 (.int .i64 2) (.int .i64 0) (.int .i64 0) (.int .i64 0) (.slice none 0 0))
  have EZ := Lib.hid (ext_set5 HE.out (b := w.heap.size) (Nat.le_refl _) (.int .i64 2) (.int .i64 0) (.int .i64 0) (.int .i64 0) (.slice none 0 0))
  clear kF hx HB0 HE0 HE d0 d0n
  go_wp2_with fail
  have y0 := KF.out.cell 0
  have y1 := KF.out.cell 1
  have y2 := KF.out.cell 2
  have y3 := KF.out.cell 3
  have y4 := KF.out.cell 4
  refine bodyPost_ret (v := .tuple #[.slice none 0 0, fag 2 0]) ?_ rfl ?_
  · simp [results, Tryz.results4, go_sem, y0, y1, y2, y3, y4]
  · exact ⟨rfl, EZ.out⟩
/-- What both answers are: the reference's, and the program's own. -/
def Both (ea : Nat → Addr) (T : ByteArray) (Y : List Lxm) (cd q : Int) : Prop :=
  (∀ w, Calls Tryz.prog 4 #[.string T] w fun e w' => ∃ v, e = .returned (.tuple #[v, .agg #[.int .i64 cd, .int .i64 0, .int .i64 0, .int .i64 q, .slice none 0 0]]) ∧ w'.ownsRow w.heap.size 38 9 v Y.length (Y.flatMap lcl) ∧ Ext w w') ∧
  (∀ w, Kg w ea → Calls Tryz.prog 5 #[.string T] w fun e w' => ∃ v u, e = .returned (.tuple #[v, u]) ∧ w'.ownsRow w.heap.size 38 9 v Y.length (Y.flatMap lcl) ∧ Ext w w' ∧
    ∀ w2, Ext w' w2 → Calls Tryz.prog 7 #[u, .agg #[.int .i64 cd, .int .i64 0, .int .i64 0, .int .i64 q, .slice none 0 0]] w2 fun e w3 => e = .returned (.bool true) ∧ Ext w2 w3)
theorem both_any (ea : Nat → Addr) (T : ByteArray) (h : T.size ≤ 65536 ∨ 65536 < T.size) : ∃ Y cd q, Both ea T Y cd q ∧ Y.length ≤ 65536 := by
  rcases h with h | h
  · obtain ⟨⟨Y, r⟩, hx⟩ : ∃ x, lxs T.size (rest T 0) 0 = x := ⟨_, rfl⟩
    refine ⟨Y, erC (dr r), erA (dr r), ⟨fun w => rlex_any T h Y r hx w, fun w hK => ?_⟩, ?_⟩
    · refine (lex_er ea T h w hK Y r hx).mono ?_
      rintro e w' ⟨v, u, rfl, ho, hE, hX⟩
      exact ⟨v, u, rfl, ho, hX, fun w2 h2 => same_er ea u _ (dr r) w2 ((hK.ext hX).ext h2) (hE.ext h2) ⟨_, rfl, Texts.nil _⟩⟩
    · have h1 := lxs_many T.size (rest T 0) 0
      have h2 := rest_len (show 0 ≤ T.size by omega)
      rw [hx] at h1
      have h3 : Y.length ≤ (rest T 0).length := h1
      omega
  · refine ⟨[], 2, 0, ⟨fun w => ?_, fun w hK => ?_⟩, by simp⟩
    · refine (rlex_long T h w).mono ?_
      rintro e w' ⟨rfl, hX⟩
      exact ⟨_, rfl, World.ownsRow_nil _ _ _ _, hX⟩
    · refine (lexlong_any T h (ea 0) w (hK.sent.held 0 (by omega))).mono ?_
      rintro e w' ⟨rfl, hX⟩
      exact ⟨_, _, rfl, World.ownsRow_nil _ _ _ _, hX, fun w2 h2 => same_told 192 _ _ 2 0 w2 (fun w3 h3 => tell_long ea w3 (((hK.ext hX).ext h2).ext h3)) ⟨_, rfl, Texts.nil _⟩ (by decide)⟩
/-- A list that may be written over. -/
def Wrt (w : World) (B : Nat) (a : Option Addr) (n : Nat) : Prop := n = 0 ∨ ∃ g cs, a = some ⟨g, 0, none⟩ ∧ B ≤ g ∧ Blk w g cs 38 ∧ n * 9 ≤ cs.size
theorem own_wrt {w : World} {base : Nat} {v : Value} {Y : List Lxm} (h : w.ownsRow base 38 9 v Y.length (Y.flatMap lcl)) :
    ∃ a cap, v = .slice a Y.length cap ∧ Lxv w a Y ∧ Wrt w base a Y.length := by
  obtain ⟨a, cap, rfl, hx, _, _⟩ := own_list h
  refine ⟨a, cap, rfl, hx, ?_⟩
  obtain ⟨hl, ⟨h1, h0⟩ | ⟨g, cap', cur, h1, hb, hg, h2, h3, h4, h5⟩⟩ := h
  · exact .inl h0
  · cases h1
    exact .inr ⟨g, cur, rfl, hb, hg, by rw [h4]; exact Nat.mul_le_mul_right 9 h2⟩
set_option maxHeartbeats 4000000 in
set_option maxRecDepth 20000 in
theorem lexact_any (v : Value) (L : List ByteArray) (ea : Nat → Addr) (w : World) (hv : StrsIn w v L) (hK : Kg w ea) :
    Calls Tryz.prog 3 #[v] w fun e w' => e = .returned (.bool true) ∧ Below w.heap.size w w' := by
  have HV := Lib.hid hv
  have HK := Lib.hid hK
  obtain ⟨va, vc, rfl, hc1, hc2, _⟩ := hv
  clear hK
  have hL63 : L.length ≤ 9223372036854775807 := by unfold maxLen at hc2; omega
  clear hc1 hc2
  go_enter Tryz.func3, Tryz.ntmps3
  go_wp2_with fail
  go_loopw [3] (fun i wr => ∃ k : Nat, k ≤ L.length ∧ k ≤ 16 ∧ i = .int .i64 k ∧ Hid (Ext w wr)) (fun i _ => L.length - (intOf i).toNat)
  case atStart => exact ⟨0, Nat.zero_le _, by omega, rfl, Lib.hid (Below.refl _ _)⟩
  case round =>
    obtain ⟨k, hk, hk16, rfl, hEr⟩ := hrel
    have HKr := Lib.hid (HK.out.ext hEr.out)
    by_cases hkl : k < L.length
    · have d1 : decide ((k : Int) < (L.length : Int)) = true := by simp; omega
      by_cases hkc : k < 16
      · have d2 : decide ((k : Int) < 16) = true := by simp; omega
        have d2n : decide (k < 16) = true := by simp; omega
        obtain ⟨b, o, rfl, hb, hcs⟩ := HV.out.cells hkl
        obtain ⟨T, hT⟩ : ∃ T, L[k] = T := ⟨_, rfl⟩
        have HC := Lib.hid (show ∀ w', Ext w w' → w'.cell? ⟨b, o + k, none⟩ = some (.string T) from fun w' hx => by rw [hx.cell (p := ⟨b, o + k, none⟩) hb, ← hT]; exact hcs k hkl)
        have i0 : (0 : Int) ≤ (k : Int) := by omega
        have i1 : (k : Int) < (L.length : Int) := by omega
        clear hb hcs hT
        have c0 := HC.out wr hEr.out
        by_cases hm : 6000 < T.size ∧ T.size ≤ 65536
        · have d3 : decide ((6000 : Int) < (T.size : Int)) = true := by simp; omega
          have d3n : decide (6000 < T.size) = true := by simp; omega
          have d4 : decide ((T.size : Int) ≤ 65536) = true := by simp; omega
          have d4n : decide (T.size ≤ 65536) = true := by simp; omega
          clear hm
          go_wp2_with fail
          go_roundw
          case rel => exact ⟨k + 1, by omega, by omega, by go_num, hEr⟩
          case measure => simp [intOf]; omega
        · obtain ⟨Y, cd, q, ⟨hB1, hB2⟩, hYl⟩ := both_any ea T (by omega)
          have HB1 := Lib.hid hB1
          have HB2 := Lib.hid hB2
          clear hB1 hB2
          have d3 : ∃ x y : Bool, decide ((6000 : Int) < (T.size : Int)) = x ∧ decide (6000 < T.size) = x ∧ decide ((T.size : Int) ≤ 65536) = y ∧ decide (T.size ≤ 65536) = y ∧ (x = false ∨ (x = true ∧ y = false)) := by
            by_cases h1 : 6000 < T.size
            · exact ⟨true, false, by simp; omega, by simp; omega, by simp; omega, by simp; omega, .inr ⟨rfl, rfl⟩⟩
            · exact ⟨false, true, by simp; omega, by simp; omega, by simp; omega, by simp; omega, .inl rfl⟩
          clear hm
          obtain ⟨x, y, x1, x2, y1, y2, hxy⟩ := d3
          rcases hxy with rfl | ⟨rfl, rfl⟩
          · go_upto_region 5 with fail
            clear x1 x2 y1 y2
            go_wp2_with fail
            refine (HB1.out _).mono ?_
            rintro e w1 ⟨v1, rfl, hown1, hx1⟩
            obtain ⟨a1, ca1, rfl, hl1, _, _⟩ := own_list hown1
            have hxa : Ext w1 (w1.alloc (.cells (fcs cd q) 25)) := by (repeat' (first | (with_reducible exact Below.refl _ _) | (with_reducible assumption) | (with_reducible refine below_drewN ?_ _) | (with_reducible refine Below.alloc ?_ ?_ _) | (with_reducible refine Below.drew ?_) | (with_reducible refine Below.setCell ?_ ?_ _) | (with_reducible refine Below.trans ?_ (Below.mono (by with_reducible assumption) ?_)) | go_size))
            have HF := Lib.hid (Blk.new w1 (fcs cd q) 25)
            have HW := Lib.hid (hl1.ext hxa)
            have HEa := Lib.hid (bel_call (bel_call hEr.out hx1) hxa)
            clear hown1 hl1 hx1 hxa HB1 c0 hEr HKr
            go_upto_region 6 with fail
            generalize w1.heap.size = pf at HF ⊢
            generalize w1.alloc (.cells (fcs cd q) 25) = wa at HF HW HEa ⊢
            go_wp2_with fail
            go_loopw [6] (fun i wr2 => ∃ j : Nat, j ≤ 2 ∧ i = .int .i64 j ∧ Hid (Ext wa wr2)) (fun i _ => 2 - (intOf i).toNat)
            case atStart => exact ⟨0, by omega, rfl, Lib.hid (Below.refl _ _)⟩
            case round =>
              obtain ⟨j, hj, rfl, hE2⟩ := hrel
              by_cases hj2 : j < 2
              · have d3 : decide ((j : Int) < 2) = true := by simp; omega
                have d3n : decide (j < 2) = true := by simp; omega
                have c1 := HC.out _ (bel_call HEa.out hE2.out)
                go_wp2_with fail
                refine (HB2.out _ (HK.out.ext (bel_call HEa.out hE2.out))).mono ?_
                rintro e w3 ⟨v3, u3, rfl, hown3, hx3, hsame⟩
                obtain ⟨a3, ca3, rfl, hl3, hw3⟩ := own_wrt hown3
                have HQ := Lib.hid (eqlex_any a3 a1 ca3 ca1 Y w3 hl3 ((HW.out.ext hE2.out).ext hx3) (by omega))
                have HS := Lib.hid hsame
                have HE3 := Lib.hid (bel_call hE2.out hx3)
                have hwa := hE2.out.size
                have HW3 := Lib.hid (show Wrt w3 wa.heap.size a3 Y.length from by
                  rcases hw3 with h | ⟨g, cs, h1, h2, h3, h4⟩
                  · exact .inl h
                  · exact .inr ⟨g, cs, h1, Nat.le_trans hwa h2, h3, h4⟩)
                clear hown3 hl3 hw3 hsame hx3 c1 hE2 hwa
                go_wp2_with fail
                refine HQ.out.mono ?_
                rintro e w4 ⟨rfl, hx4⟩
                have kF := HF.out.ext (bel_call HE3.out hx4)
                have p0 := kF.cell 0
                have p1 := kF.cell 1
                have p2 := kF.cell 2
                have p3 := kF.cell 3
                have p4 := kF.cell 4
                clear kF HQ
                go_wp2_with fail
                refine (HS.out _ hx4).mono ?_
                rintro e w5 ⟨rfl, hx5⟩
                have HE5 := Lib.hid (bel_call (bel_call HE3.out hx4) hx5)
                have HW5 := Lib.hid (show Wrt w5 wa.heap.size a3 Y.length from by
                  rcases HW3.out with h | ⟨g, cs, h1, h2, h3, h4⟩
                  · exact .inl h
                  · exact .inr ⟨g, cs, h1, h2, (h3.ext hx4).ext hx5, h4⟩)
                clear p0 p1 p2 p3 p4 hx4 hx5 HS HE3 HW3
                go_wp2_with fail
                go_loopw [9] (fun i wr3 => ∃ n : Nat, n ≤ Y.length ∧ i = .int .i64 n ∧ Hid (Ext wa wr3) ∧ Hid (Wrt wr3 wa.heap.size a3 Y.length)) (fun i _ => Y.length - (intOf i).toNat)
                case atStart => exact ⟨0, Nat.zero_le _, rfl, HE5, HW5⟩
                case round =>
                  clear HE5 HW5
                  obtain ⟨n, hn, rfl, hE3, hW⟩ := hrel
                  by_cases hny : n < Y.length
                  · have d4 : decide ((n : Int) < (Y.length : Int)) = true := by simp; omega
                    have j0 : (0 : Int) ≤ (n : Int) := by omega
                    have j1 : (n : Int) < (Y.length : Int) := by omega
                    obtain ⟨g, cs, rfl, hg, hb, hs⟩ : ∃ g cs, a3 = some ⟨g, 0, none⟩ ∧ wa.heap.size ≤ g ∧ Blk _ g cs 38 ∧ Y.length * 9 ≤ cs.size := by
                      rcases hW.out with h | h
                      · omega
                      · exact h
                    obtain ⟨u0, e0⟩ : ∃ u, cs[n * 9]? = some u := ⟨cs[n * 9]'(by omega), by rw [Array.getElem?_eq_getElem]⟩
                    have z0 := (hb.cell (n * 9)).trans e0
                    have f0 := hb.free (n * 9)
                    obtain ⟨u1, e1⟩ : ∃ u, cs[n * 9 + 1]? = some u := ⟨cs[n * 9 + 1]'(by omega), by rw [Array.getElem?_eq_getElem]⟩
                    have z1 := (hb.cell (n * 9 + 1)).trans e1
                    have f1 := hb.free (n * 9 + 1)
                    obtain ⟨u2, e2⟩ : ∃ u, cs[n * 9 + 2]? = some u := ⟨cs[n * 9 + 2]'(by omega), by rw [Array.getElem?_eq_getElem]⟩
                    have z2 := (hb.cell (n * 9 + 2)).trans e2
                    have f2 := hb.free (n * 9 + 2)
                    obtain ⟨u3, e3⟩ : ∃ u, cs[n * 9 + 3]? = some u := ⟨cs[n * 9 + 3]'(by omega), by rw [Array.getElem?_eq_getElem]⟩
                    have z3 := (hb.cell (n * 9 + 3)).trans e3
                    have f3 := hb.free (n * 9 + 3)
                    obtain ⟨u4, e4⟩ : ∃ u, cs[n * 9 + 4]? = some u := ⟨cs[n * 9 + 4]'(by omega), by rw [Array.getElem?_eq_getElem]⟩
                    have z4 := (hb.cell (n * 9 + 4)).trans e4
                    have f4 := hb.free (n * 9 + 4)
                    obtain ⟨u5, e5⟩ : ∃ u, cs[n * 9 + 5]? = some u := ⟨cs[n * 9 + 5]'(by omega), by rw [Array.getElem?_eq_getElem]⟩
                    have z5 := (hb.cell (n * 9 + 5)).trans e5
                    have f5 := hb.free (n * 9 + 5)
                    obtain ⟨u6, e6⟩ : ∃ u, cs[n * 9 + 6]? = some u := ⟨cs[n * 9 + 6]'(by omega), by rw [Array.getElem?_eq_getElem]⟩
                    have z6 := (hb.cell (n * 9 + 6)).trans e6
                    have f6 := hb.free (n * 9 + 6)
                    obtain ⟨u7, e7⟩ : ∃ u, cs[n * 9 + 7]? = some u := ⟨cs[n * 9 + 7]'(by omega), by rw [Array.getElem?_eq_getElem]⟩
                    have z7 := (hb.cell (n * 9 + 7)).trans e7
                    have f7 := hb.free (n * 9 + 7)
                    obtain ⟨u8, e8⟩ : ∃ u, cs[n * 9 + 8]? = some u := ⟨cs[n * 9 + 8]'(by omega), by rw [Array.getElem?_eq_getElem]⟩
                    have z8 := (hb.cell (n * 9 + 8)).trans e8
                    have f8 := hb.free (n * 9 + 8)
                    have hltg := hb.lt
                    have HE4 := Lib.hid ((((((((((hE3.out.setCell (p := ⟨g, n * 9, none⟩) hg (.int .i64 99)).setCell (p := ⟨g, n * 9 + 1, none⟩) hg (.int .i64 0)).setCell (p := ⟨g, n * 9 + 2, none⟩) hg (.int .i64 0)).setCell (p := ⟨g, n * 9 + 3, none⟩) hg (.string ⟨#[]⟩)).setCell (p := ⟨g, n * 9 + 4, none⟩) hg (.int .i64 0)).setCell (p := ⟨g, n * 9 + 5, none⟩) hg (.int .u64 0)).setCell (p := ⟨g, n * 9 + 6, none⟩) hg (.int .u64 0)).setCell (p := ⟨g, n * 9 + 7, none⟩) hg (.int .u64 0)).setCell (p := ⟨g, n * 9 + 8, none⟩) hg (.int .u64 0)))
                    have HB4 := Lib.hid ((((((((((hb.set (n * 9) (.int .i64 99)).set (n * 9 + 1) (.int .i64 0)).set (n * 9 + 2) (.int .i64 0)).set (n * 9 + 3) (.string ⟨#[]⟩)).set (n * 9 + 4) (.int .i64 0)).set (n * 9 + 5) (.int .u64 0)).set (n * 9 + 6) (.int .u64 0)).set (n * 9 + 7) (.int .u64 0)).set (n * 9 + 8) (.int .u64 0)))
                    have HSZ := Lib.hid hs
                    clear hb hs e0 e1 e2 e3 e4 e5 e6 e7 e8 hE3 hW
                    go_wp2_with fail
                    go_roundw
                    case rel => exact ⟨n + 1, by omega, by go_num, HE4, Lib.hid (.inr ⟨g, _, rfl, hg, HB4.out, by simpa using HSZ.out⟩)⟩
                    case measure => simp [intOf]; omega
                  · have d4 : decide ((n : Int) < (Y.length : Int)) = false := by simp; omega
                    go_wp2_with fail
                    go_roundw
                    case rel => exact ⟨j + 1, by omega, by go_num, hE3⟩
                    case measure => simp [intOf]; omega
              · have d3 : decide ((j : Int) < 2) = false := by simp; omega
                have d3n : decide (j < 2) = false := by simp; omega
                have HEz := Lib.hid (bel_call HEa.out hE2.out)
                go_wp2_with fail
                go_roundw
                case rel => exact ⟨k + 1, by omega, by omega, by go_num, HEz⟩
                case measure => simp [intOf]; omega
          · go_upto_region 5 with fail
            clear x1 x2 y1 y2
            go_wp2_with fail
            refine (HB1.out _).mono ?_
            rintro e w1 ⟨v1, rfl, hown1, hx1⟩
            obtain ⟨a1, ca1, rfl, hl1, _, _⟩ := own_list hown1
            have hxa : Ext w1 (w1.alloc (.cells (fcs cd q) 25)) := by (repeat' (first | (with_reducible exact Below.refl _ _) | (with_reducible assumption) | (with_reducible refine below_drewN ?_ _) | (with_reducible refine Below.alloc ?_ ?_ _) | (with_reducible refine Below.drew ?_) | (with_reducible refine Below.setCell ?_ ?_ _) | (with_reducible refine Below.trans ?_ (Below.mono (by with_reducible assumption) ?_)) | go_size))
            have HF := Lib.hid (Blk.new w1 (fcs cd q) 25)
            have HW := Lib.hid (hl1.ext hxa)
            have HEa := Lib.hid (bel_call (bel_call hEr.out hx1) hxa)
            clear hown1 hl1 hx1 hxa HB1 c0 hEr HKr
            go_upto_region 6 with fail
            generalize w1.heap.size = pf at HF ⊢
            generalize w1.alloc (.cells (fcs cd q) 25) = wa at HF HW HEa ⊢
            go_wp2_with fail
            go_loopw [6] (fun i wr2 => ∃ j : Nat, j ≤ 2 ∧ i = .int .i64 j ∧ Hid (Ext wa wr2)) (fun i _ => 2 - (intOf i).toNat)
            case atStart => exact ⟨0, by omega, rfl, Lib.hid (Below.refl _ _)⟩
            case round =>
              obtain ⟨j, hj, rfl, hE2⟩ := hrel
              by_cases hj2 : j < 2
              · have d3 : decide ((j : Int) < 2) = true := by simp; omega
                have d3n : decide (j < 2) = true := by simp; omega
                have c1 := HC.out _ (bel_call HEa.out hE2.out)
                go_wp2_with fail
                refine (HB2.out _ (HK.out.ext (bel_call HEa.out hE2.out))).mono ?_
                rintro e w3 ⟨v3, u3, rfl, hown3, hx3, hsame⟩
                obtain ⟨a3, ca3, rfl, hl3, hw3⟩ := own_wrt hown3
                have HQ := Lib.hid (eqlex_any a3 a1 ca3 ca1 Y w3 hl3 ((HW.out.ext hE2.out).ext hx3) (by omega))
                have HS := Lib.hid hsame
                have HE3 := Lib.hid (bel_call hE2.out hx3)
                have hwa := hE2.out.size
                have HW3 := Lib.hid (show Wrt w3 wa.heap.size a3 Y.length from by
                  rcases hw3 with h | ⟨g, cs, h1, h2, h3, h4⟩
                  · exact .inl h
                  · exact .inr ⟨g, cs, h1, Nat.le_trans hwa h2, h3, h4⟩)
                clear hown3 hl3 hw3 hsame hx3 c1 hE2 hwa
                go_wp2_with fail
                refine HQ.out.mono ?_
                rintro e w4 ⟨rfl, hx4⟩
                have kF := HF.out.ext (bel_call HE3.out hx4)
                have p0 := kF.cell 0
                have p1 := kF.cell 1
                have p2 := kF.cell 2
                have p3 := kF.cell 3
                have p4 := kF.cell 4
                clear kF HQ
                go_wp2_with fail
                refine (HS.out _ hx4).mono ?_
                rintro e w5 ⟨rfl, hx5⟩
                have HE5 := Lib.hid (bel_call (bel_call HE3.out hx4) hx5)
                have HW5 := Lib.hid (show Wrt w5 wa.heap.size a3 Y.length from by
                  rcases HW3.out with h | ⟨g, cs, h1, h2, h3, h4⟩
                  · exact .inl h
                  · exact .inr ⟨g, cs, h1, h2, (h3.ext hx4).ext hx5, h4⟩)
                clear p0 p1 p2 p3 p4 hx4 hx5 HS HE3 HW3
                go_wp2_with fail
                go_loopw [9] (fun i wr3 => ∃ n : Nat, n ≤ Y.length ∧ i = .int .i64 n ∧ Hid (Ext wa wr3) ∧ Hid (Wrt wr3 wa.heap.size a3 Y.length)) (fun i _ => Y.length - (intOf i).toNat)
                case atStart => exact ⟨0, Nat.zero_le _, rfl, HE5, HW5⟩
                case round =>
                  clear HE5 HW5
                  obtain ⟨n, hn, rfl, hE3, hW⟩ := hrel
                  by_cases hny : n < Y.length
                  · have d4 : decide ((n : Int) < (Y.length : Int)) = true := by simp; omega
                    have j0 : (0 : Int) ≤ (n : Int) := by omega
                    have j1 : (n : Int) < (Y.length : Int) := by omega
                    obtain ⟨g, cs, rfl, hg, hb, hs⟩ : ∃ g cs, a3 = some ⟨g, 0, none⟩ ∧ wa.heap.size ≤ g ∧ Blk _ g cs 38 ∧ Y.length * 9 ≤ cs.size := by
                      rcases hW.out with h | h
                      · omega
                      · exact h
                    obtain ⟨u0, e0⟩ : ∃ u, cs[n * 9]? = some u := ⟨cs[n * 9]'(by omega), by rw [Array.getElem?_eq_getElem]⟩
                    have z0 := (hb.cell (n * 9)).trans e0
                    have f0 := hb.free (n * 9)
                    obtain ⟨u1, e1⟩ : ∃ u, cs[n * 9 + 1]? = some u := ⟨cs[n * 9 + 1]'(by omega), by rw [Array.getElem?_eq_getElem]⟩
                    have z1 := (hb.cell (n * 9 + 1)).trans e1
                    have f1 := hb.free (n * 9 + 1)
                    obtain ⟨u2, e2⟩ : ∃ u, cs[n * 9 + 2]? = some u := ⟨cs[n * 9 + 2]'(by omega), by rw [Array.getElem?_eq_getElem]⟩
                    have z2 := (hb.cell (n * 9 + 2)).trans e2
                    have f2 := hb.free (n * 9 + 2)
                    obtain ⟨u3, e3⟩ : ∃ u, cs[n * 9 + 3]? = some u := ⟨cs[n * 9 + 3]'(by omega), by rw [Array.getElem?_eq_getElem]⟩
                    have z3 := (hb.cell (n * 9 + 3)).trans e3
                    have f3 := hb.free (n * 9 + 3)
                    obtain ⟨u4, e4⟩ : ∃ u, cs[n * 9 + 4]? = some u := ⟨cs[n * 9 + 4]'(by omega), by rw [Array.getElem?_eq_getElem]⟩
                    have z4 := (hb.cell (n * 9 + 4)).trans e4
                    have f4 := hb.free (n * 9 + 4)
                    obtain ⟨u5, e5⟩ : ∃ u, cs[n * 9 + 5]? = some u := ⟨cs[n * 9 + 5]'(by omega), by rw [Array.getElem?_eq_getElem]⟩
                    have z5 := (hb.cell (n * 9 + 5)).trans e5
                    have f5 := hb.free (n * 9 + 5)
                    obtain ⟨u6, e6⟩ : ∃ u, cs[n * 9 + 6]? = some u := ⟨cs[n * 9 + 6]'(by omega), by rw [Array.getElem?_eq_getElem]⟩
                    have z6 := (hb.cell (n * 9 + 6)).trans e6
                    have f6 := hb.free (n * 9 + 6)
                    obtain ⟨u7, e7⟩ : ∃ u, cs[n * 9 + 7]? = some u := ⟨cs[n * 9 + 7]'(by omega), by rw [Array.getElem?_eq_getElem]⟩
                    have z7 := (hb.cell (n * 9 + 7)).trans e7
                    have f7 := hb.free (n * 9 + 7)
                    obtain ⟨u8, e8⟩ : ∃ u, cs[n * 9 + 8]? = some u := ⟨cs[n * 9 + 8]'(by omega), by rw [Array.getElem?_eq_getElem]⟩
                    have z8 := (hb.cell (n * 9 + 8)).trans e8
                    have f8 := hb.free (n * 9 + 8)
                    have hltg := hb.lt
                    have HE4 := Lib.hid ((((((((((hE3.out.setCell (p := ⟨g, n * 9, none⟩) hg (.int .i64 99)).setCell (p := ⟨g, n * 9 + 1, none⟩) hg (.int .i64 0)).setCell (p := ⟨g, n * 9 + 2, none⟩) hg (.int .i64 0)).setCell (p := ⟨g, n * 9 + 3, none⟩) hg (.string ⟨#[]⟩)).setCell (p := ⟨g, n * 9 + 4, none⟩) hg (.int .i64 0)).setCell (p := ⟨g, n * 9 + 5, none⟩) hg (.int .u64 0)).setCell (p := ⟨g, n * 9 + 6, none⟩) hg (.int .u64 0)).setCell (p := ⟨g, n * 9 + 7, none⟩) hg (.int .u64 0)).setCell (p := ⟨g, n * 9 + 8, none⟩) hg (.int .u64 0)))
                    have HB4 := Lib.hid ((((((((((hb.set (n * 9) (.int .i64 99)).set (n * 9 + 1) (.int .i64 0)).set (n * 9 + 2) (.int .i64 0)).set (n * 9 + 3) (.string ⟨#[]⟩)).set (n * 9 + 4) (.int .i64 0)).set (n * 9 + 5) (.int .u64 0)).set (n * 9 + 6) (.int .u64 0)).set (n * 9 + 7) (.int .u64 0)).set (n * 9 + 8) (.int .u64 0)))
                    have HSZ := Lib.hid hs
                    clear hb hs e0 e1 e2 e3 e4 e5 e6 e7 e8 hE3 hW
                    go_wp2_with fail
                    go_roundw
                    case rel => exact ⟨n + 1, by omega, by go_num, HE4, Lib.hid (.inr ⟨g, _, rfl, hg, HB4.out, by simpa using HSZ.out⟩)⟩
                    case measure => simp [intOf]; omega
                  · have d4 : decide ((n : Int) < (Y.length : Int)) = false := by simp; omega
                    go_wp2_with fail
                    go_roundw
                    case rel => exact ⟨j + 1, by omega, by go_num, hE3⟩
                    case measure => simp [intOf]; omega
              · have d3 : decide ((j : Int) < 2) = false := by simp; omega
                have d3n : decide (j < 2) = false := by simp; omega
                have HEz := Lib.hid (bel_call HEa.out hE2.out)
                go_wp2_with fail
                go_roundw
                case rel => exact ⟨k + 1, by omega, by omega, by go_num, HEz⟩
                case measure => simp [intOf]; omega
      · have d2 : decide ((k : Int) < 16) = false := by simp; omega
        have d2n : decide (k < 16) = false := by simp; omega
        go_wp2_with fail
        refine (lwakes_any (ea 1) (ea 2) _ HKr.out.kn).mono ?_
        rintro e w2 ⟨rfl, hx2⟩
        have HX := Lib.hid (bel_call hEr.out hx2)
        clear hx2
        go_wp2_with fail
        go_ret
        exact ⟨rfl, HX.out⟩
    · have d1 : decide ((k : Int) < (L.length : Int)) = false := by simp; omega
      go_wp2_with fail
      refine (lwakes_any (ea 1) (ea 2) _ HKr.out.kn).mono ?_
      rintro e w2 ⟨rfl, hx2⟩
      have HX := Lib.hid (bel_call hEr.out hx2)
      clear hx2
      go_wp2_with fail
      go_ret
      exact ⟨rfl, HX.out⟩
end Go.Proofs.YtnecafokkhhhhaaGreatDoor
namespace Go.Proofs.YtnecafokkhhhhaaGreatDoor
open Go Go.ChangeShapes Go.WideShapes Go.ChangeAt Go.RowKit
abbrev laid_lexExact : List (String × DataW Unit) := Rows.lexExactRow.laid.filter fun x => x.2.handleName?.isNone
theorem mem_lexExact : ∀ k, k < 16 → (snm.getD k "", sdat k) ∈ laid_lexExact
  | 0, _ => List.mem_of_getElem? (i := 5) (by kernel_rfl)
  | 1, _ => List.mem_of_getElem? (i := 6) (by kernel_rfl)
  | 2, _ => List.mem_of_getElem? (i := 7) (by kernel_rfl)
  | 3, _ => List.mem_of_getElem? (i := 8) (by kernel_rfl)
  | 4, _ => List.mem_of_getElem? (i := 9) (by kernel_rfl)
  | 5, _ => List.mem_of_getElem? (i := 10) (by kernel_rfl)
  | 6, _ => List.mem_of_getElem? (i := 11) (by kernel_rfl)
  | 7, _ => List.mem_of_getElem? (i := 12) (by kernel_rfl)
  | 8, _ => List.mem_of_getElem? (i := 13) (by kernel_rfl)
  | 9, _ => List.mem_of_getElem? (i := 14) (by kernel_rfl)
  | 10, _ => List.mem_of_getElem? (i := 15) (by kernel_rfl)
  | 11, _ => List.mem_of_getElem? (i := 16) (by kernel_rfl)
  | 12, _ => List.mem_of_getElem? (i := 17) (by kernel_rfl)
  | 13, _ => List.mem_of_getElem? (i := 18) (by kernel_rfl)
  | 14, _ => List.mem_of_getElem? (i := 19) (by kernel_rfl)
  | 15, _ => List.mem_of_getElem? (i := 20) (by kernel_rfl)
  | n + 16, h => by omega
theorem known_lexExact {W : World} (h : laidMetH Tryz.prog Rows.lexExactRow.laid W) (hs : W.ShapedOpen Tryz.prog) : ∃ ea, Kg W ea := by
  have h' : laidMet Tryz.prog laid_lexExact W ∧ handlesMet Tryz.prog [("errors.errorType", Rows.laid_errors_errorType)] W := h
  obtain ⟨ea, h1, h2⟩ := errs_of_laid h'.1 mem_lexExact
  obtain ⟨ev, h3, _⟩ := laid_str h'.1 _ _ (show ("strconv.ErrSyntax", (Rows.laid_strconv_ErrSyntax : DataW Unit)) ∈ laid_lexExact from List.mem_of_getElem? (i := 4) (by kernel_rfl)) _ gS3 tS3
  have lt : ∀ k, k < 16 → (ea k).block < W.heap.size := fun k hk => by obtain ⟨c, t, hc⟩ := h1.row k hk; exact (Array.getElem?_eq_some_iff.1 hc).1
  exact ⟨ea, h1, errT_of_laid h'.2, ⟨h1.held 1 (by omega), h1.held 2 (by omega), ⟨_, _, h3⟩, ml_of_shaped hs, lt 1 (by omega), lt 2 (by omega)⟩, laid_tab h'.1 (List.mem_of_getElem? (i := 1) (by kernel_rfl))⟩
end Go.Proofs.YtnecafokkhhhhaaGreatDoor
namespace Go.Proofs.YtnecafokkhhhhaaGreatDoor
open Go Go.ChangeShapes Go.WideShapes Go.ChangeAt Go.RowKit
theorem lexExact_met (os : Os) (args : Array Value) : laidMetH Tryz.prog Rows.lexExactRow.laid ((World.doorLaid Tryz.prog 400 os).forCall (fun _ _ => 0) ⟨#[], args, []⟩).memory :=
  laidMetH_of_parts (laidMet_of_run' 8 (by kernel_rfl) (by kernel_rfl)) (by kernel_rfl)
set_option maxRecDepth 100000 in
theorem lexExact_contract {H : Type} {enc : TypeId × Value → H} (F : Stop.Interp) (W : World) (base : Nat) (args : Array Value) (ds gs : List (DataW H)) (before : List MemPlace)
    (hval0 : ∀ (j : Nat) t v, Tryz.f3.params[j]? = some t → args[j]? = some v → Value.okWide Tryz.prog W .any base t v)
    (hW : DataW.Whole enc Tryz.prog Tryz.f3.params.toList (OpenSpec.ofChange Rows.lexExactSpec).vars false W args.toList ds gs before)
    (hsz : (DataW.weightsEach Tryz.prog (Tryz.f3.params.toList ++ (OpenSpec.ofChange Rows.lexExactSpec).bare.plain.varTypes Tryz.prog) (ds ++ gs)).all (· ≤ reachBytes) = true)
    (hL : laidMetH Tryz.prog Rows.lexExactRow.laid W) (hsh : W.ShapedOpen Tryz.prog) :
    Calls Tryz.prog 3 args W fun e W' => ∃ v, e = .returned v ∧ ((OpenSpec.ofChange Rows.lexExactSpec).at F).post enc Tryz.prog Tryz.f3 false true false false W args v W' := by
  have hval : ∀ (j : Nat) t v, Tryz.f3.params[j]? = some t → args[j]? = some v → Value.okWide Tryz.prog W .any base t v := hval0
  have hW' := hW
  obtain ⟨p, q, hA0, hV, rfl, hfz, hnd⟩ := hW
  have hA : DataW.TrodAll enc Tryz.prog W 0 (fun _ => true) true Tryz.f3.params.toList args.toList ds p := hA0
  rw [Tryz.params3] at hA hval
  obtain ⟨v0, d0, rfl, rfl, h0⟩ := trodAll_one hA
  obtain ⟨rfl, rfl⟩ := trodVars_none hV
  have hlt : ∀ x ∈ p, x.block < W.heap.size := fun x hx => hW'.lt x (by simp [hx])
  have hwt : ∀ n ∈ d0.weights Tryz.prog 22, n ≤ reachBytes := fun n hn => by simpa using List.all_eq_true.1 hsz n (DataW.weights_mem_each (j := 0) rfl rfl n hn)
  obtain ⟨ea, hK⟩ := known_lexExact hL hsh
  obtain ⟨a0, n0, c0, rfl⟩ := okWide_slice Tryz.underlying22 (hval 0 _ v0 rfl rfl); obtain ⟨L, hin⟩ : ∃ L, StrsIn W (.slice a0 n0 c0) L := (by obtain ⟨fuel, hf⟩ := h0; exact open_strsIn hf)
  refine (lexact_any _ L ea W hin hK).mono fun e W' ⟨he, hB⟩ => ?_
  subst he
  have e1 : ((OpenSpec.ofChange Rows.lexExactSpec).at F).fn H ([d0] ++ []) = { results := [.lit (.bool true)], args := [d0] } := rfl
  refine ⟨_, rfl, _, _, _, [], p, [], hW', ?_, ?_, ?_, hB.frame _, fun h => by cases h⟩
  · rw [e1]; exact trodAll_mk1 (shut_bool Tryz.underlying4 true)
  · rw [e1]; exact trodAll_mk1 (Below.trod laidOut (by kernel_rfl) (of_decide_eq_true (by kernel_rfl)) h0 hB hlt)
  · rw [e1]; rfl
set_option maxRecDepth 100000 in
theorem lexExact_lifted (os : Os) (started : os.Started) (H : Type) (enc : TypeId × Value → H) (F : Stop.Interp) :
    ReturnsInHanded {} Tryz.checked os 3 .any ((OpenSpec.ofChange Rows.lexExactSpec).preRow enc Tryz.prog Tryz.f3 Rows.lexExactRow.domain false Rows.lexExactRow.laid) (((OpenSpec.ofChange Rows.lexExactSpec).at F).post enc Tryz.prog Tryz.f3 false true false false) := by
  have hx : DataW.whole enc Tryz.prog ((World.doorLaid Tryz.prog 400 os).forCall (fun _ _ => 0) ⟨#[], #[.slice none 0 0], []⟩).memory Tryz.f3.params.toList (OpenSpec.ofChange Rows.lexExactSpec).vars false (#[.slice none 0 0] : Array Value).toList 8 = some ([.nil], [], []) := by kernel_rfl
  refine returnsInHanded_of_row (C := Tryz.checked) (s := OpenSpec.ofChange Rows.lexExactSpec) own started (by kernel_rfl) Tryz.func3
    (witness_row_atRef (enc := enc) (C := Tryz.checked) false (World.doorLaid Tryz.prog 400 os) #[.slice none 0 0] rfl (by kernel_rfl) (by kernel_rfl) (by kernel_rfl)
      (OpenSpec.preRow_of_cond 8 hx (by kernel_rfl) (fun k hk => by cases hk) (by kernel_rfl) (lexExact_met os _))) ?_
  intro W base args ds gs before hval hW _ _ hsz hL hsh _
  exact lexExact_contract F W base args ds gs before hval hW hsz hL hsh
theorem lexExact_row : Rows.LexExactSaid :=
  OpenClaim.holds_of_cond 3 Tryz.f3 rfl rfl rfl rfl rfl rfl rfl ⟨rfl, rfl, rfl, rfl, rfl⟩ rfl rfl rfl rfl rfl (by kernel_rfl) Tryz.func3 (by kernel_rfl)
    (of_decide_eq_true (by kernel_rfl)) (by unfold Func.isWrapper; rw [if_neg (of_decide_eq_false (by kernel_rfl))]; exact ⟨rfl, rfl⟩)
    (fun os started H enc _ F => by rw [OpenClaim.pre_eq_preRow]; exact lexExact_lifted os started H enc F)
theorem lexExact_holds : Rows.LexExactCardSaid :=
  Claim7.holds_tied_plain_at .later [] _ _ Rows.lexExactCard.stood.harness Rows.lexExactCard.stood.looks
    lexExact_row (fun _ h => by cases h) (by kernel_rfl) (fun _ h => by cases h) lexExact_row_tie rfl ⟨rfl, rfl⟩ (by kernel_rfl) rfl
    (fun f fn hf hfn => by
      obtain rfl : f = 3 := Option.some.inj ((show Tryz.prog.funcNamed Rows.lexExactRow.func = some 3 by kernel_rfl).symm.trans hf) |>.symm
      obtain rfl : fn = Tryz.f3 := (Option.some.inj (Tryz.func3.symm.trans hfn)).symm
      exact ⟨by kernel_rfl, fun j t ht => by
        rw [Tryz.params3] at ht
        have hm : t ∈ [22] := by simpa using Array.mem_of_getElem? ht
        have hall : ([22].all fun u => !Tryz.prog.wantsStandIn u) = true := by kernel_rfl
        exact (show Tryz.prog.wantsStandIn t = false by simpa using List.all_eq_true.1 hall t hm)⟩)
    (by kernel_rfl)
#print axioms lexExact_holds
end Go.Proofs.YtnecafokkhhhhaaGreatDoor
