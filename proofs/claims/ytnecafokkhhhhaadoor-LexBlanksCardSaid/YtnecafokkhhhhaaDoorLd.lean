/- What a lexeme begins with: the predicates of package lex; run. -/
import Derived.Test.YtnecafokkhhhhaaDoorLx
import Derived.Test.YtnecafokkhhhhaaDoorBlk
import Derived.Test.YtnecafokkhhhhaaDoorKls
import Derived.Lib.OthersKept
import Derived.Deep.LoopGhost
import Derived.WalkSmall
namespace Go.Proofs.YtnecafokkhhhhaaDoor
open Go Go.RowKit
theorem blank_1 (c : Nat) (h : c = 32) (w : World) : Calls Tryd.prog 11 #[.int .i32 (c : Int)] w fun e w' => e = .returned (.bool true) ∧ Ext w w' := by
  have d1 : ((c : Int) == 32) = true := by simp; omega
  go_enter Tryd.func11, Tryd.ntmps11
  go_wp2
  go_ret
  exact ⟨rfl, by go_grown⟩
theorem blank_2 (c : Nat) (h : c = 9) (w : World) : Calls Tryd.prog 11 #[.int .i32 (c : Int)] w fun e w' => e = .returned (.bool true) ∧ Ext w w' := by
  have d1 : ((c : Int) == 32) = false := (by simp; omega); have d2 : ((c : Int) == 9) = true := (by simp; omega)
  go_enter Tryd.func11, Tryd.ntmps11
  go_wp2
  go_ret
  exact ⟨rfl, by go_grown⟩
theorem blank_3 (c : Nat) (h : c = 13) (w : World) : Calls Tryd.prog 11 #[.int .i32 (c : Int)] w fun e w' => e = .returned (.bool true) ∧ Ext w w' := by
  have d1 : ((c : Int) == 32) = false := (by simp; omega); have d2 : ((c : Int) == 9) = false := (by simp; omega); have d3 : ((c : Int) == 13) = true := (by simp; omega)
  go_enter Tryd.func11, Tryd.ntmps11
  go_wp2
  go_ret
  exact ⟨rfl, by go_grown⟩
theorem blank_4 (c : Nat) (h : c ≠ 32 ∧ c ≠ 9 ∧ c ≠ 13) (w : World) : Calls Tryd.prog 11 #[.int .i32 (c : Int)] w fun e w' => e = .returned (.bool false) ∧ Ext w w' := by
  have d1 : ((c : Int) == 32) = false := (by simp; omega); have d2 : ((c : Int) == 9) = false := (by simp; omega); have d3 : ((c : Int) == 13) = false := (by simp; omega)
  go_enter Tryd.func11, Tryd.ntmps11
  go_wp2
  go_ret
  exact ⟨rfl, by go_grown⟩
theorem blank_any (c : Nat) (b : Bool) (hb : blnk c = b) (w : World) : Calls Tryd.prog 11 #[.int .i32 (c : Int)] w fun e w' => e = .returned (.bool b) ∧ Ext w w' := by
  subst hb
  by_cases h1 : c = 32
  · rw [show blnk c = true by simp [blnk, h1]]; exact blank_1 c h1 w
  by_cases h2 : c = 9
  · rw [show blnk c = true by simp [blnk, h2]]; exact blank_2 c h2 w
  by_cases h3 : c = 13
  · rw [show blnk c = true by simp [blnk, h3]]; exact blank_3 c h3 w
  rw [show blnk c = false by simp [blnk, h1, h2, h3]]; exact blank_4 c ⟨h1, h2, h3⟩ w
theorem remark_1 (c : Nat) (h : c = 10) (w : World) : Calls Tryd.prog 13 #[.int .i32 (c : Int)] w fun e w' => e = .returned (.bool false) ∧ Ext w w' := by
  have d1 : ((c : Int) != 10) = false := by simp; omega
  go_enter Tryd.func13, Tryd.ntmps13
  go_wp2
  go_ret
  exact ⟨rfl, by go_grown⟩
theorem remark_2 (c : Nat) (h : c ≠ 10) (w : World) : Calls Tryd.prog 13 #[.int .i32 (c : Int)] w fun e w' => e = .returned (.bool true) ∧ Ext w w' := by
  have d1 : ((c : Int) != 10) = true := by simp; omega
  go_enter Tryd.func13, Tryd.ntmps13
  go_wp2
  go_ret
  exact ⟨rfl, by go_grown⟩
theorem remark_any (c : Nat) (b : Bool) (hb : rmk c = b) (w : World) : Calls Tryd.prog 13 #[.int .i32 (c : Int)] w fun e w' => e = .returned (.bool b) ∧ Ext w w' := by
  subst hb
  by_cases h1 : c = 10
  · rw [show rmk c = false by simp [rmk, h1]]; exact remark_1 c h1 w
  rw [show rmk c = true by simp [rmk, h1]]; exact remark_2 c h1 w
theorem digit_1 (c : Nat) (h : 48 ≤ c ∧ c ≤ 57) (w : World) : Calls Tryd.prog 16 #[.int .i32 (c : Int)] w fun e w' => e = .returned (.bool true) ∧ Ext w w' := by
  have d1 : decide ((48 : Int) ≤ (c : Int)) = true := (by simp; omega); have d2 : decide ((c : Int) ≤ 57) = true := (by simp; omega)
  go_enter Tryd.func16, Tryd.ntmps16
  go_wp2
  go_ret
  exact ⟨rfl, by go_grown⟩
theorem digit_2 (c : Nat) (h : 58 ≤ c) (w : World) : Calls Tryd.prog 16 #[.int .i32 (c : Int)] w fun e w' => e = .returned (.bool false) ∧ Ext w w' := by
  have d1 : decide ((48 : Int) ≤ (c : Int)) = true := (by simp; omega); have d2 : decide ((c : Int) ≤ 57) = false := (by simp; omega)
  go_enter Tryd.func16, Tryd.ntmps16
  go_wp2
  go_ret
  exact ⟨rfl, by go_grown⟩
theorem digit_3 (c : Nat) (h : c < 48) (w : World) : Calls Tryd.prog 16 #[.int .i32 (c : Int)] w fun e w' => e = .returned (.bool false) ∧ Ext w w' := by
  have d1 : decide ((48 : Int) ≤ (c : Int)) = false := (by simp; omega)
  go_enter Tryd.func16, Tryd.ntmps16
  go_wp2
  go_ret
  exact ⟨rfl, by go_grown⟩
theorem digit_any (c : Nat) (b : Bool) (hb : dgt c = b) (w : World) : Calls Tryd.prog 16 #[.int .i32 (c : Int)] w fun e w' => e = .returned (.bool b) ∧ Ext w w' := by
  subst hb
  by_cases h1 : c < 48
  · rw [show dgt c = false by unfold dgt; simp; omega]; exact digit_3 c h1 w
  by_cases h2 : c ≤ 57
  · rw [show dgt c = true by unfold dgt; simp; omega]; exact digit_1 c ⟨by omega, h2⟩ w
  rw [show dgt c = false by unfold dgt; simp; omega]; exact digit_2 c (by omega) w
theorem begins_1 (c : Nat) (h : 97 ≤ c ∧ c ≤ 122) (w : World) : Calls Tryd.prog 14 #[.int .i32 (c : Int)] w fun e w' => e = .returned (.bool true) ∧ Ext w w' := by
  have d1 : decide ((97 : Int) ≤ (c : Int)) = true := (by simp; omega); have d2 : decide ((c : Int) ≤ 122) = true := (by simp; omega)
  go_enter Tryd.func14, Tryd.ntmps14
  go_wp2
  go_ret
  exact ⟨rfl, by go_grown⟩
theorem begins_2 (c : Nat) (h : 123 ≤ c) (w : World) : Calls Tryd.prog 14 #[.int .i32 (c : Int)] w fun e w' => e = .returned (.bool false) ∧ Ext w w' := by
  have d1 : decide ((97 : Int) ≤ (c : Int)) = true := (by simp; omega); have d2 : decide ((c : Int) ≤ 122) = false := (by simp; omega); have d3 : decide ((65 : Int) ≤ (c : Int)) = true := (by simp; omega); have d4 : decide ((c : Int) ≤ 90) = false := (by simp; omega); have d5 : ((c : Int) == 95) = false := (by simp; omega)
  go_enter Tryd.func14, Tryd.ntmps14
  go_wp2
  go_ret
  exact ⟨rfl, by go_grown⟩
theorem begins_3 (c : Nat) (h : c = 95) (w : World) : Calls Tryd.prog 14 #[.int .i32 (c : Int)] w fun e w' => e = .returned (.bool true) ∧ Ext w w' := by
  have d1 : decide ((97 : Int) ≤ (c : Int)) = false := (by simp; omega); have d3 : decide ((65 : Int) ≤ (c : Int)) = true := (by simp; omega); have d4 : decide ((c : Int) ≤ 90) = false := (by simp; omega); have d5 : ((c : Int) == 95) = true := (by simp; omega)
  go_enter Tryd.func14, Tryd.ntmps14
  go_wp2
  go_ret
  exact ⟨rfl, by go_grown⟩
theorem begins_4 (c : Nat) (h : 91 ≤ c ∧ c ≤ 96 ∧ c ≠ 95) (w : World) : Calls Tryd.prog 14 #[.int .i32 (c : Int)] w fun e w' => e = .returned (.bool false) ∧ Ext w w' := by
  have d1 : decide ((97 : Int) ≤ (c : Int)) = false := (by simp; omega); have d3 : decide ((65 : Int) ≤ (c : Int)) = true := (by simp; omega); have d4 : decide ((c : Int) ≤ 90) = false := (by simp; omega); have d5 : ((c : Int) == 95) = false := (by simp; omega)
  go_enter Tryd.func14, Tryd.ntmps14
  go_wp2
  go_ret
  exact ⟨rfl, by go_grown⟩
theorem begins_5 (c : Nat) (h : 65 ≤ c ∧ c ≤ 90) (w : World) : Calls Tryd.prog 14 #[.int .i32 (c : Int)] w fun e w' => e = .returned (.bool true) ∧ Ext w w' := by
  have d1 : decide ((97 : Int) ≤ (c : Int)) = false := (by simp; omega); have d3 : decide ((65 : Int) ≤ (c : Int)) = true := (by simp; omega); have d4 : decide ((c : Int) ≤ 90) = true := (by simp; omega)
  go_enter Tryd.func14, Tryd.ntmps14
  go_wp2
  go_ret
  exact ⟨rfl, by go_grown⟩
theorem begins_6 (c : Nat) (h : c < 65) (w : World) : Calls Tryd.prog 14 #[.int .i32 (c : Int)] w fun e w' => e = .returned (.bool false) ∧ Ext w w' := by
  have d1 : decide ((97 : Int) ≤ (c : Int)) = false := (by simp; omega); have d3 : decide ((65 : Int) ≤ (c : Int)) = false := (by simp; omega); have d5 : ((c : Int) == 95) = false := (by simp; omega)
  go_enter Tryd.func14, Tryd.ntmps14
  go_wp2
  go_ret
  exact ⟨rfl, by go_grown⟩
theorem begins_any (c : Nat) (b : Bool) (hb : ltr c = b) (w : World) : Calls Tryd.prog 14 #[.int .i32 (c : Int)] w fun e w' => e = .returned (.bool b) ∧ Ext w w' := by
  subst hb
  by_cases h1 : c < 65
  · rw [show ltr c = false by unfold ltr; simp; omega]; exact begins_6 c h1 w
  by_cases h2 : c ≤ 90
  · rw [show ltr c = true by unfold ltr; simp; omega]; exact begins_5 c ⟨by omega, h2⟩ w
  by_cases h3 : c = 95
  · rw [show ltr c = true by unfold ltr; simp; omega]; exact begins_3 c h3 w
  by_cases h4 : c ≤ 96
  · rw [show ltr c = false by unfold ltr; simp; omega]; exact begins_4 c ⟨by omega, h4, h3⟩ w
  by_cases h5 : c ≤ 122
  · rw [show ltr c = true by unfold ltr; simp; omega]; exact begins_1 c ⟨by omega, h5⟩ w
  rw [show ltr c = false by unfold ltr; simp; omega]; exact begins_2 c (by omega) w
theorem inname_any (c : Nat) (b : Bool) (hb : nmc c = b) (w : World) : Calls Tryd.prog 21 #[.int .i32 (c : Int)] w fun e w' => e = .returned (.bool b) ∧ Ext w w' := by
  have hl := fun w => begins_any c (ltr c) rfl w
  have hd := fun w => digit_any c (dgt c) rfl w
  subst hb
  unfold nmc
  cases h1 : ltr c with
  | true =>
    rw [h1] at hl
    clear h1
    go_enter Tryd.func21, Tryd.ntmps21
    go_wp2_with fail
    refine (hl _).mono ?_
    rintro e w1 ⟨rfl, hE⟩
    go_wp2
    go_ret
    exact ⟨rfl, hE⟩
  | false =>
    rw [h1] at hl
    clear h1
    generalize dgt c = q at hd ⊢
    go_enter Tryd.func21, Tryd.ntmps21
    go_wp2_with fail
    refine (hl _).mono ?_
    rintro e w1 ⟨rfl, hE⟩
    go_wp2_with fail
    refine (hd _).mono ?_
    rintro e w2 ⟨rfl, hE2⟩
    have hx := bel_call hE hE2
    cases q
    · go_wp2
      go_ret
      exact ⟨rfl, hx⟩
    · go_wp2
      go_ret
      exact ⟨rfl, hx⟩
end Go.Proofs.YtnecafokkhhhhaaDoor
