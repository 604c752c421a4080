/- Which fields an expression of a core may have: expand.fieldsMayBe. -/
import Derived.Test.YtnmdfhnfheekgaaDoorEq
import Derived.Test.YtnmdfhnfheekgaaDoorXp
namespace Go.Proofs.YtnmdfhnfheekgaaDoor
open Go Go.RowKit
def Cnt (m n : Int) : Prop := (m = 0 ∧ (n = -1 ∨ n = 1)) ∨ (m = 1 ∧ n = -1)
instance (m n : Int) : Decidable (Cnt m n) := by unfold Cnt; infer_instance
def Fok (x : Xp) : Prop := x.at_ = 0 ∧ x.text = .empty ∧
  ((x.op = 1 ∧ x.set = 0#256 ∧ x.mn = 0 ∧ x.mx = 0 ∧ x.args.length = 0) ∨ (x.op = 2 ∧ x.mn = 0 ∧ x.mx = 0 ∧ x.args.length = 0) ∨
    ((x.op = 5 ∨ x.op = 6) ∧ x.set = 0#256 ∧ x.mn = 0 ∧ x.mx = 0 ∧ 2 ≤ x.args.length) ∨ (x.op = 7 ∧ x.set = 0#256 ∧ x.args.length = 1 ∧ Cnt x.mn x.mx))
instance (x : Xp) : Decidable (Fok x) := by unfold Fok; infer_instance
theorem cnt_any (m n : Int) (w : World) : Calls Tryd.prog 54 #[.int .i64 m, .int .i64 n] w fun e w' => e = .returned (.bool (decide (Cnt m n))) ∧ w' = w := by
  by_cases h0 : m = 0
  · subst h0
    by_cases h1 : n = -1
    · subst h1
      go_enter Tryd.func54, Tryd.ntmps54
      go_wp2
      go_ret
      exact ⟨rfl, rfl⟩
    · have e1 : (n == -1) = false := by simpa using h1
      have e2 : decide (n = -1) = false := by simpa using h1
      have hq : decide (Cnt 0 n) = decide (n = 1) := by simp [Cnt, h1]
      rw [hq]
      clear hq h1
      go_enter Tryd.func54, Tryd.ntmps54
      go_wp2
      go_ret
      exact ⟨rfl, rfl⟩
  · have e1 : (m == 0) = false := by simpa using h0
    have e2 : decide (m = 0) = false := by simpa using h0
    by_cases h1 : m = 1
    · subst h1
      have hq : decide (Cnt 1 n) = decide (n = -1) := by simp [Cnt]
      rw [hq]
      clear hq h0
      go_enter Tryd.func54, Tryd.ntmps54
      go_wp2
      go_ret
      exact ⟨rfl, rfl⟩
    · have e3 : (m == 1) = false := by simpa using h1
      have e4 : decide (m = 1) = false := by simpa using h1
      have hq : decide (Cnt m n) = false := by simp [Cnt, h0, h1]
      rw [hq]
      clear hq h0 h1
      go_enter Tryd.func54, Tryd.ntmps54
      go_wp2
      go_ret
      exact ⟨rfl, rfl⟩
theorem txt_nil (t : ByteArray) : (t.toList == []) = decide (t = .empty) := by
  rw [Bool.eq_iff_iff]
  simp only [beq_iff_eq, decide_eq_true_eq]
  constructor
  · intro h
    rw [ByteArray.toList_eq] at h
    exact ByteArray.ext (by simpa using h)
  · rintro rfl; rw [ByteArray.toList_eq]; rfl
theorem set_eq00 : ∀ w, (Op.equalIn 10000 26 sv0 sv0).run Tryd.prog w = .ok true w := fun w => by
  have := set_eq0 0#256 w
  rw [sv_zero] at this
  simpa using this
set_option maxHeartbeats 4000000 in
set_option maxRecDepth 20000 in
theorem fields1 (x : Xp) (a : Option Addr) (c : Nat) (w : World) (hop : x.op = 1) (_hlen : x.args.length ≤ maxLen) :
    Calls Tryd.prog 35 #[xv x a c] w fun e w' => e = .returned (.bool (decide (Fok x))) ∧ Ext w w' := by
  have hse := set_eq0 x.set
  have hse0 := set_eq00
  have hmx : maxLen ≤ 9223372036854775807 := by decide
  have eo1 : (x.op == 1) = true := by simp; omega
  have dd1 : decide (x.op = 1) = true := by simp; omega
  by_cases h_at : x.at_ = 0
  · skip
    have e1_at : (x.at_ == 0) = true := by simpa using h_at
    have e2_at : decide (x.at_ = 0) = true := by simpa using h_at
    by_cases h_set : x.set = 0#256
    · skip
      have es : decide (x.set = 0#256) = true := by simpa using h_set
      by_cases h_text : x.text = .empty
      · skip
        have et : (x.text.toList == []) = true := by rw [txt_nil]; simpa using h_text
        by_cases h_mn : x.mn = 0
        · skip
          have e1_mn : (x.mn == 0) = true := by simpa using h_mn
          have e2_mn : decide (x.mn = 0) = true := by simpa using h_mn
          by_cases h_mx : x.mx = 0
          · skip
            have e1_mx : (x.mx == 0) = true := by simpa using h_mx
            have e2_mx : decide (x.mx = 0) = true := by simpa using h_mx
            by_cases h_len : x.args.length = 0
            · skip
              have el1 : ((x.args.length : Int) == 0) = true := by rw [h_len]; rfl
              have el2 : decide ((x.args.length : Int) = 0) = true := by rw [h_len]; rfl
              have el3 : (x.args.length == 0) = true := by rw [h_len]; rfl
              have el4 : decide (x.args.length = 0) = true := by rw [h_len]; rfl
              have el5 : x.args.isEmpty = true := by rw [List.length_eq_zero_iff] at h_len; rw [h_len]; rfl
              have hq : decide (Fok x) = true := by simp only [Fok, Cnt]; simp [hop, h_at, h_set, h_text, h_mn, h_mx, h_len]
              rw [hq]
              clear hq h_at h_set h_text h_mn h_mx h_len
              go_enter Tryd.func35, Tryd.ntmps35
              go_wp2_with fail
              go_ret
              exact ⟨rfl, by go_grown⟩
            · skip
              have el1 : ((x.args.length : Int) == 0) = false := by simp only [beq_eq_false_iff_ne, ne_eq]; omega
              have el2 : decide ((x.args.length : Int) = 0) = false := by simp only [decide_eq_false_iff_not]; omega
              have el3 : (x.args.length == 0) = false := by simp only [beq_eq_false_iff_ne, ne_eq]; omega
              have el4 : decide (x.args.length = 0) = false := by simp only [decide_eq_false_iff_not]; omega
              have el5 : x.args.isEmpty = false := by cases hh : x.args.isEmpty with | false => rfl | true => exact absurd (by rw [List.isEmpty_iff] at hh; rw [hh]; rfl) h_len
              have hq : decide (Fok x) = false := by simp only [Fok, Cnt]; simp [hop, h_at, h_set, h_text, h_mn, h_mx, h_len]
              rw [hq]
              clear hq h_at h_set h_text h_mn h_mx h_len
              go_enter Tryd.func35, Tryd.ntmps35
              go_wp2_with fail
              go_ret
              exact ⟨rfl, by go_grown⟩
          · skip
            have e1_mx : (x.mx == 0) = false := by simpa using h_mx
            have e2_mx : decide (x.mx = 0) = false := by simpa using h_mx
            have hq : decide (Fok x) = false := by simp only [Fok, Cnt]; simp [hop, h_at, h_set, h_text, h_mn, h_mx]
            rw [hq]
            clear hq h_at h_set h_text h_mn h_mx
            go_enter Tryd.func35, Tryd.ntmps35
            go_wp2_with fail
            go_ret
            exact ⟨rfl, by go_grown⟩
        · skip
          have e1_mn : (x.mn == 0) = false := by simpa using h_mn
          have e2_mn : decide (x.mn = 0) = false := by simpa using h_mn
          have hq : decide (Fok x) = false := by simp only [Fok, Cnt]; simp [hop, h_at, h_set, h_text, h_mn]
          rw [hq]
          clear hq h_at h_set h_text h_mn
          go_enter Tryd.func35, Tryd.ntmps35
          go_wp2_with fail
          go_ret
          exact ⟨rfl, by go_grown⟩
      · skip
        have et : (x.text.toList == []) = false := by rw [txt_nil]; simpa using h_text
        have hq : decide (Fok x) = false := by simp only [Fok, Cnt]; simp [hop, h_at, h_set, h_text]
        rw [hq]
        clear hq h_at h_set h_text
        go_enter Tryd.func35, Tryd.ntmps35
        go_wp2_with fail
        go_ret
        exact ⟨rfl, by go_grown⟩
    · skip
      have es : decide (x.set = 0#256) = false := by simpa using h_set
      have hq : decide (Fok x) = false := by simp only [Fok, Cnt]; simp [hop, h_at, h_set]
      rw [hq]
      clear hq h_at h_set
      go_enter Tryd.func35, Tryd.ntmps35
      go_wp2_with fail
      go_ret
      exact ⟨rfl, by go_grown⟩
  · skip
    have e1_at : (x.at_ == 0) = false := by simpa using h_at
    have e2_at : decide (x.at_ = 0) = false := by simpa using h_at
    have hq : decide (Fok x) = false := by simp only [Fok, Cnt]; simp [hop, h_at]
    rw [hq]
    clear hq h_at
    go_enter Tryd.func35, Tryd.ntmps35
    go_wp2_with fail
    go_ret
    exact ⟨rfl, by go_grown⟩
set_option maxHeartbeats 4000000 in
set_option maxRecDepth 20000 in
theorem fields2 (x : Xp) (a : Option Addr) (c : Nat) (w : World) (hop : x.op = 2) (_hlen : x.args.length ≤ maxLen) :
    Calls Tryd.prog 35 #[xv x a c] w fun e w' => e = .returned (.bool (decide (Fok x))) ∧ Ext w w' := by
  have hse := set_eq0 x.set
  have hse0 := set_eq00
  have hmx : maxLen ≤ 9223372036854775807 := by decide
  have eo1 : (x.op == 1) = false := by simp; omega
  have dd1 : decide (x.op = 1) = false := by simp; omega
  have eo2 : (x.op == 2) = true := by simp; omega
  have dd2 : decide (x.op = 2) = true := by simp; omega
  by_cases h_at : x.at_ = 0
  · skip
    have e1_at : (x.at_ == 0) = true := by simpa using h_at
    have e2_at : decide (x.at_ = 0) = true := by simpa using h_at
    by_cases h_text : x.text = .empty
    · skip
      have et : (x.text.toList == []) = true := by rw [txt_nil]; simpa using h_text
      by_cases h_mn : x.mn = 0
      · skip
        have e1_mn : (x.mn == 0) = true := by simpa using h_mn
        have e2_mn : decide (x.mn = 0) = true := by simpa using h_mn
        by_cases h_mx : x.mx = 0
        · skip
          have e1_mx : (x.mx == 0) = true := by simpa using h_mx
          have e2_mx : decide (x.mx = 0) = true := by simpa using h_mx
          by_cases h_len : x.args.length = 0
          · skip
            have el1 : ((x.args.length : Int) == 0) = true := by rw [h_len]; rfl
            have el2 : decide ((x.args.length : Int) = 0) = true := by rw [h_len]; rfl
            have el3 : (x.args.length == 0) = true := by rw [h_len]; rfl
            have el4 : decide (x.args.length = 0) = true := by rw [h_len]; rfl
            have el5 : x.args.isEmpty = true := by rw [List.length_eq_zero_iff] at h_len; rw [h_len]; rfl
            have hq : decide (Fok x) = true := by simp only [Fok, Cnt]; simp [hop, h_at, h_text, h_mn, h_mx, h_len]
            rw [hq]
            clear hq h_at h_text h_mn h_mx h_len
            go_enter Tryd.func35, Tryd.ntmps35
            go_wp2_with fail
            go_ret
            exact ⟨rfl, by go_grown⟩
          · skip
            have el1 : ((x.args.length : Int) == 0) = false := by simp only [beq_eq_false_iff_ne, ne_eq]; omega
            have el2 : decide ((x.args.length : Int) = 0) = false := by simp only [decide_eq_false_iff_not]; omega
            have el3 : (x.args.length == 0) = false := by simp only [beq_eq_false_iff_ne, ne_eq]; omega
            have el4 : decide (x.args.length = 0) = false := by simp only [decide_eq_false_iff_not]; omega
            have el5 : x.args.isEmpty = false := by cases hh : x.args.isEmpty with | false => rfl | true => exact absurd (by rw [List.isEmpty_iff] at hh; rw [hh]; rfl) h_len
            have hq : decide (Fok x) = false := by simp only [Fok, Cnt]; simp [hop, h_at, h_text, h_mn, h_mx, h_len]
            rw [hq]
            clear hq h_at h_text h_mn h_mx h_len
            go_enter Tryd.func35, Tryd.ntmps35
            go_wp2_with fail
            go_ret
            exact ⟨rfl, by go_grown⟩
        · skip
          have e1_mx : (x.mx == 0) = false := by simpa using h_mx
          have e2_mx : decide (x.mx = 0) = false := by simpa using h_mx
          have hq : decide (Fok x) = false := by simp only [Fok, Cnt]; simp [hop, h_at, h_text, h_mn, h_mx]
          rw [hq]
          clear hq h_at h_text h_mn h_mx
          go_enter Tryd.func35, Tryd.ntmps35
          go_wp2_with fail
          go_ret
          exact ⟨rfl, by go_grown⟩
      · skip
        have e1_mn : (x.mn == 0) = false := by simpa using h_mn
        have e2_mn : decide (x.mn = 0) = false := by simpa using h_mn
        have hq : decide (Fok x) = false := by simp only [Fok, Cnt]; simp [hop, h_at, h_text, h_mn]
        rw [hq]
        clear hq h_at h_text h_mn
        go_enter Tryd.func35, Tryd.ntmps35
        go_wp2_with fail
        go_ret
        exact ⟨rfl, by go_grown⟩
    · skip
      have et : (x.text.toList == []) = false := by rw [txt_nil]; simpa using h_text
      have hq : decide (Fok x) = false := by simp only [Fok, Cnt]; simp [hop, h_at, h_text]
      rw [hq]
      clear hq h_at h_text
      go_enter Tryd.func35, Tryd.ntmps35
      go_wp2_with fail
      go_ret
      exact ⟨rfl, by go_grown⟩
  · skip
    have e1_at : (x.at_ == 0) = false := by simpa using h_at
    have e2_at : decide (x.at_ = 0) = false := by simpa using h_at
    have hq : decide (Fok x) = false := by simp only [Fok, Cnt]; simp [hop, h_at]
    rw [hq]
    clear hq h_at
    go_enter Tryd.func35, Tryd.ntmps35
    go_wp2_with fail
    go_ret
    exact ⟨rfl, by go_grown⟩
set_option maxHeartbeats 4000000 in
set_option maxRecDepth 20000 in
theorem fields5 (x : Xp) (a : Option Addr) (c : Nat) (w : World) (hop : x.op = 5) (_hlen : x.args.length ≤ maxLen) :
    Calls Tryd.prog 35 #[xv x a c] w fun e w' => e = .returned (.bool (decide (Fok x))) ∧ Ext w w' := by
  have hse := set_eq0 x.set
  have hse0 := set_eq00
  have hmx : maxLen ≤ 9223372036854775807 := by decide
  have eo1 : (x.op == 1) = false := by simp; omega
  have dd1 : decide (x.op = 1) = false := by simp; omega
  have eo2 : (x.op == 2) = false := by simp; omega
  have dd2 : decide (x.op = 2) = false := by simp; omega
  have eo5 : (x.op == 5) = true := by simp; omega
  have dd5 : decide (x.op = 5) = true := by simp; omega
  by_cases h_2 : 2 ≤ x.args.length
  · have e2a : decide ((2 : Int) ≤ (x.args.length : Int)) = true := by simp; omega
    by_cases h_at : x.at_ = 0
    · skip
      have e1_at : (x.at_ == 0) = true := by simpa using h_at
      have e2_at : decide (x.at_ = 0) = true := by simpa using h_at
      by_cases h_set : x.set = 0#256
      · skip
        have es : decide (x.set = 0#256) = true := by simpa using h_set
        by_cases h_text : x.text = .empty
        · skip
          have et : (x.text.toList == []) = true := by rw [txt_nil]; simpa using h_text
          by_cases h_mn : x.mn = 0
          · skip
            have e1_mn : (x.mn == 0) = true := by simpa using h_mn
            have e2_mn : decide (x.mn = 0) = true := by simpa using h_mn
            by_cases h_mx : x.mx = 0
            · skip
              have e1_mx : (x.mx == 0) = true := by simpa using h_mx
              have e2_mx : decide (x.mx = 0) = true := by simpa using h_mx
              have hq : decide (Fok x) = true := by simp only [Fok, Cnt]; simp [hop, h_2, h_at, h_set, h_text, h_mn, h_mx]
              rw [hq]
              clear hq h_2 h_at h_set h_text h_mn h_mx
              go_enter Tryd.func35, Tryd.ntmps35
              go_wp2_with fail
              go_ret
              exact ⟨rfl, by go_grown⟩
            · skip
              have e1_mx : (x.mx == 0) = false := by simpa using h_mx
              have e2_mx : decide (x.mx = 0) = false := by simpa using h_mx
              have hq : decide (Fok x) = false := by simp only [Fok, Cnt]; simp [hop, h_2, h_at, h_set, h_text, h_mn, h_mx]
              rw [hq]
              clear hq h_2 h_at h_set h_text h_mn h_mx
              go_enter Tryd.func35, Tryd.ntmps35
              go_wp2_with fail
              go_ret
              exact ⟨rfl, by go_grown⟩
          · skip
            have e1_mn : (x.mn == 0) = false := by simpa using h_mn
            have e2_mn : decide (x.mn = 0) = false := by simpa using h_mn
            have hq : decide (Fok x) = false := by simp only [Fok, Cnt]; simp [hop, h_2, h_at, h_set, h_text, h_mn]
            rw [hq]
            clear hq h_2 h_at h_set h_text h_mn
            go_enter Tryd.func35, Tryd.ntmps35
            go_wp2_with fail
            go_ret
            exact ⟨rfl, by go_grown⟩
        · skip
          have et : (x.text.toList == []) = false := by rw [txt_nil]; simpa using h_text
          have hq : decide (Fok x) = false := by simp only [Fok, Cnt]; simp [hop, h_2, h_at, h_set, h_text]
          rw [hq]
          clear hq h_2 h_at h_set h_text
          go_enter Tryd.func35, Tryd.ntmps35
          go_wp2_with fail
          go_ret
          exact ⟨rfl, by go_grown⟩
      · skip
        have es : decide (x.set = 0#256) = false := by simpa using h_set
        have hq : decide (Fok x) = false := by simp only [Fok, Cnt]; simp [hop, h_2, h_at, h_set]
        rw [hq]
        clear hq h_2 h_at h_set
        go_enter Tryd.func35, Tryd.ntmps35
        go_wp2_with fail
        go_ret
        exact ⟨rfl, by go_grown⟩
    · skip
      have e1_at : (x.at_ == 0) = false := by simpa using h_at
      have e2_at : decide (x.at_ = 0) = false := by simpa using h_at
      have hq : decide (Fok x) = false := by simp only [Fok, Cnt]; simp [hop, h_2, h_at]
      rw [hq]
      clear hq h_2 h_at
      go_enter Tryd.func35, Tryd.ntmps35
      go_wp2_with fail
      go_ret
      exact ⟨rfl, by go_grown⟩
  · have e2a : decide ((2 : Int) ≤ (x.args.length : Int)) = false := by simp; omega
    have hq : decide (Fok x) = false := by simp only [Fok, Cnt]; simp [hop, h_2]
    rw [hq]
    clear hq h_2
    go_enter Tryd.func35, Tryd.ntmps35
    go_wp2_with fail
    go_ret
    exact ⟨rfl, by go_grown⟩
set_option maxHeartbeats 4000000 in
set_option maxRecDepth 20000 in
theorem fields6 (x : Xp) (a : Option Addr) (c : Nat) (w : World) (hop : x.op = 6) (_hlen : x.args.length ≤ maxLen) :
    Calls Tryd.prog 35 #[xv x a c] w fun e w' => e = .returned (.bool (decide (Fok x))) ∧ Ext w w' := by
  have hse := set_eq0 x.set
  have hse0 := set_eq00
  have hmx : maxLen ≤ 9223372036854775807 := by decide
  have eo1 : (x.op == 1) = false := by simp; omega
  have dd1 : decide (x.op = 1) = false := by simp; omega
  have eo2 : (x.op == 2) = false := by simp; omega
  have dd2 : decide (x.op = 2) = false := by simp; omega
  have eo5 : (x.op == 5) = false := by simp; omega
  have dd5 : decide (x.op = 5) = false := by simp; omega
  have eo6 : (x.op == 6) = true := by simp; omega
  have dd6 : decide (x.op = 6) = true := by simp; omega
  by_cases h_2 : 2 ≤ x.args.length
  · have e2a : decide ((2 : Int) ≤ (x.args.length : Int)) = true := by simp; omega
    by_cases h_at : x.at_ = 0
    · skip
      have e1_at : (x.at_ == 0) = true := by simpa using h_at
      have e2_at : decide (x.at_ = 0) = true := by simpa using h_at
      by_cases h_set : x.set = 0#256
      · skip
        have es : decide (x.set = 0#256) = true := by simpa using h_set
        by_cases h_text : x.text = .empty
        · skip
          have et : (x.text.toList == []) = true := by rw [txt_nil]; simpa using h_text
          by_cases h_mn : x.mn = 0
          · skip
            have e1_mn : (x.mn == 0) = true := by simpa using h_mn
            have e2_mn : decide (x.mn = 0) = true := by simpa using h_mn
            by_cases h_mx : x.mx = 0
            · skip
              have e1_mx : (x.mx == 0) = true := by simpa using h_mx
              have e2_mx : decide (x.mx = 0) = true := by simpa using h_mx
              have hq : decide (Fok x) = true := by simp only [Fok, Cnt]; simp [hop, h_2, h_at, h_set, h_text, h_mn, h_mx]
              rw [hq]
              clear hq h_2 h_at h_set h_text h_mn h_mx
              go_enter Tryd.func35, Tryd.ntmps35
              go_wp2_with fail
              go_ret
              exact ⟨rfl, by go_grown⟩
            · skip
              have e1_mx : (x.mx == 0) = false := by simpa using h_mx
              have e2_mx : decide (x.mx = 0) = false := by simpa using h_mx
              have hq : decide (Fok x) = false := by simp only [Fok, Cnt]; simp [hop, h_2, h_at, h_set, h_text, h_mn, h_mx]
              rw [hq]
              clear hq h_2 h_at h_set h_text h_mn h_mx
              go_enter Tryd.func35, Tryd.ntmps35
              go_wp2_with fail
              go_ret
              exact ⟨rfl, by go_grown⟩
          · skip
            have e1_mn : (x.mn == 0) = false := by simpa using h_mn
            have e2_mn : decide (x.mn = 0) = false := by simpa using h_mn
            have hq : decide (Fok x) = false := by simp only [Fok, Cnt]; simp [hop, h_2, h_at, h_set, h_text, h_mn]
            rw [hq]
            clear hq h_2 h_at h_set h_text h_mn
            go_enter Tryd.func35, Tryd.ntmps35
            go_wp2_with fail
            go_ret
            exact ⟨rfl, by go_grown⟩
        · skip
          have et : (x.text.toList == []) = false := by rw [txt_nil]; simpa using h_text
          have hq : decide (Fok x) = false := by simp only [Fok, Cnt]; simp [hop, h_2, h_at, h_set, h_text]
          rw [hq]
          clear hq h_2 h_at h_set h_text
          go_enter Tryd.func35, Tryd.ntmps35
          go_wp2_with fail
          go_ret
          exact ⟨rfl, by go_grown⟩
      · skip
        have es : decide (x.set = 0#256) = false := by simpa using h_set
        have hq : decide (Fok x) = false := by simp only [Fok, Cnt]; simp [hop, h_2, h_at, h_set]
        rw [hq]
        clear hq h_2 h_at h_set
        go_enter Tryd.func35, Tryd.ntmps35
        go_wp2_with fail
        go_ret
        exact ⟨rfl, by go_grown⟩
    · skip
      have e1_at : (x.at_ == 0) = false := by simpa using h_at
      have e2_at : decide (x.at_ = 0) = false := by simpa using h_at
      have hq : decide (Fok x) = false := by simp only [Fok, Cnt]; simp [hop, h_2, h_at]
      rw [hq]
      clear hq h_2 h_at
      go_enter Tryd.func35, Tryd.ntmps35
      go_wp2_with fail
      go_ret
      exact ⟨rfl, by go_grown⟩
  · have e2a : decide ((2 : Int) ≤ (x.args.length : Int)) = false := by simp; omega
    have hq : decide (Fok x) = false := by simp only [Fok, Cnt]; simp [hop, h_2]
    rw [hq]
    clear hq h_2
    go_enter Tryd.func35, Tryd.ntmps35
    go_wp2_with fail
    go_ret
    exact ⟨rfl, by go_grown⟩
set_option maxHeartbeats 4000000 in
set_option maxRecDepth 20000 in
theorem fields7 (x : Xp) (a : Option Addr) (c : Nat) (w : World) (hop : x.op = 7) (_hlen : x.args.length ≤ maxLen) :
    Calls Tryd.prog 35 #[xv x a c] w fun e w' => e = .returned (.bool (decide (Fok x))) ∧ Ext w w' := by
  have hse := set_eq0 x.set
  have hse0 := set_eq00
  have hmx : maxLen ≤ 9223372036854775807 := by decide
  have eo1 : (x.op == 1) = false := by simp; omega
  have dd1 : decide (x.op = 1) = false := by simp; omega
  have eo2 : (x.op == 2) = false := by simp; omega
  have dd2 : decide (x.op = 2) = false := by simp; omega
  have eo5 : (x.op == 5) = false := by simp; omega
  have dd5 : decide (x.op = 5) = false := by simp; omega
  have eo6 : (x.op == 6) = false := by simp; omega
  have dd6 : decide (x.op = 6) = false := by simp; omega
  have eo7 : (x.op == 7) = true := by simp; omega
  have dd7 : decide (x.op = 7) = true := by simp; omega
  by_cases h_1 : x.args.length = 1
  · have e1a : ((x.args.length : Int) == 1) = true := by simp; omega
    have e1b : decide ((x.args.length : Int) = 1) = true := by simp; omega
    have e1c : decide (x.args.length = 1) = true := by simp; omega
    have e1d : (x.args.length == 1) = true := by simp; omega
    by_cases h_c : Cnt x.mn x.mx
    · have hcc : decide (Cnt x.mn x.mx) = true := decide_eq_true h_c
      have hcn := fun w => cnt_any x.mn x.mx w
      rw [hcc] at hcn
      by_cases h_at : x.at_ = 0
      · skip
        have e1_at : (x.at_ == 0) = true := by simpa using h_at
        have e2_at : decide (x.at_ = 0) = true := by simpa using h_at
        by_cases h_set : x.set = 0#256
        · skip
          have es : decide (x.set = 0#256) = true := by simpa using h_set
          by_cases h_text : x.text = .empty
          · skip
            have et : (x.text.toList == []) = true := by rw [txt_nil]; simpa using h_text
            have hq : decide (Fok x) = true := by simp only [Fok]; simp [hop, h_1, h_c, h_at, h_set, h_text]
            rw [hq]
            clear hq hcc h_1 h_c h_at h_set h_text
            go_enter Tryd.func35, Tryd.ntmps35
            go_wp2_with fail
            refine (hcn _).mono ?_
            rintro e w2 ⟨rfl, rfl⟩
            go_wp2_with fail
            go_ret
            exact ⟨rfl, by go_grown⟩
          · skip
            have et : (x.text.toList == []) = false := by rw [txt_nil]; simpa using h_text
            have hq : decide (Fok x) = false := by simp only [Fok]; simp [hop, h_1, h_c, h_at, h_set, h_text]
            rw [hq]
            clear hq hcc h_1 h_c h_at h_set h_text
            go_enter Tryd.func35, Tryd.ntmps35
            go_wp2_with fail
            refine (hcn _).mono ?_
            rintro e w2 ⟨rfl, rfl⟩
            go_wp2_with fail
            go_ret
            exact ⟨rfl, by go_grown⟩
        · skip
          have es : decide (x.set = 0#256) = false := by simpa using h_set
          have hq : decide (Fok x) = false := by simp only [Fok]; simp [hop, h_1, h_c, h_at, h_set]
          rw [hq]
          clear hq hcc h_1 h_c h_at h_set
          go_enter Tryd.func35, Tryd.ntmps35
          go_wp2_with fail
          refine (hcn _).mono ?_
          rintro e w2 ⟨rfl, rfl⟩
          go_wp2_with fail
          go_ret
          exact ⟨rfl, by go_grown⟩
      · skip
        have e1_at : (x.at_ == 0) = false := by simpa using h_at
        have e2_at : decide (x.at_ = 0) = false := by simpa using h_at
        have hq : decide (Fok x) = false := by simp only [Fok]; simp [hop, h_1, h_c, h_at]
        rw [hq]
        clear hq hcc h_1 h_c h_at
        go_enter Tryd.func35, Tryd.ntmps35
        go_wp2_with fail
        refine (hcn _).mono ?_
        rintro e w2 ⟨rfl, rfl⟩
        go_wp2_with fail
        go_ret
        exact ⟨rfl, by go_grown⟩
    · have hcc : decide (Cnt x.mn x.mx) = false := decide_eq_false h_c
      have hcn := fun w => cnt_any x.mn x.mx w
      rw [hcc] at hcn
      have hq : decide (Fok x) = false := by simp only [Fok]; simp [hop, h_1, h_c]
      rw [hq]
      clear hq hcc h_1 h_c
      go_enter Tryd.func35, Tryd.ntmps35
      go_wp2_with fail
      refine (hcn _).mono ?_
      rintro e w2 ⟨rfl, rfl⟩
      go_wp2_with fail
      go_ret
      exact ⟨rfl, by go_grown⟩
  · have e1a : ((x.args.length : Int) == 1) = false := by simp; omega
    have e1b : decide ((x.args.length : Int) = 1) = false := by simp; omega
    have e1c : decide (x.args.length = 1) = false := by simp; omega
    have e1d : (x.args.length == 1) = false := by simp; omega
    have hq : decide (Fok x) = false := by simp only [Fok, Cnt]; simp [hop, h_1]
    rw [hq]
    clear hq h_1
    go_enter Tryd.func35, Tryd.ntmps35
    go_wp2_with fail
    go_ret
    exact ⟨rfl, by go_grown⟩
set_option maxHeartbeats 4000000 in
set_option maxRecDepth 20000 in
theorem fields0 (x : Xp) (a : Option Addr) (c : Nat) (w : World) (hop : x.op ≠ 1 ∧ x.op ≠ 2 ∧ x.op ≠ 5 ∧ x.op ≠ 6 ∧ x.op ≠ 7) (_hlen : x.args.length ≤ maxLen) :
    Calls Tryd.prog 35 #[xv x a c] w fun e w' => e = .returned (.bool (decide (Fok x))) ∧ Ext w w' := by
  have hse := set_eq0 x.set
  have hse0 := set_eq00
  have hmx : maxLen ≤ 9223372036854775807 := by decide
  have eo1 : (x.op == 1) = false := by simp; omega
  have dd1 : decide (x.op = 1) = false := by simp; omega
  have eo2 : (x.op == 2) = false := by simp; omega
  have dd2 : decide (x.op = 2) = false := by simp; omega
  have eo5 : (x.op == 5) = false := by simp; omega
  have dd5 : decide (x.op = 5) = false := by simp; omega
  have eo6 : (x.op == 6) = false := by simp; omega
  have dd6 : decide (x.op = 6) = false := by simp; omega
  have eo7 : (x.op == 7) = false := by simp; omega
  have dd7 : decide (x.op = 7) = false := by simp; omega
  have hq : decide (Fok x) = false := by simp only [Fok, Cnt]; simp [hop]
  rw [hq]
  clear hq 
  go_enter Tryd.func35, Tryd.ntmps35
  go_wp2_with fail
  go_ret
  exact ⟨rfl, by go_grown⟩
theorem fields_any (x : Xp) (a : Option Addr) (c : Nat) (w : World) (hlen : x.args.length ≤ maxLen) :
    Calls Tryd.prog 35 #[xv x a c] w fun e w' => e = .returned (.bool (decide (Fok x))) ∧ Ext w w' := by
  by_cases h1 : x.op = 1
  · exact fields1 x a c w h1 hlen
  by_cases h2 : x.op = 2
  · exact fields2 x a c w h2 hlen
  by_cases h5 : x.op = 5
  · exact fields5 x a c w h5 hlen
  by_cases h6 : x.op = 6
  · exact fields6 x a c w h6 hlen
  by_cases h7 : x.op = 7
  · exact fields7 x a c w h7 hlen
  · exact fields0 x a c w ⟨h1, h2, h5, h6, h7⟩ hlen
end Go.Proofs.YtnmdfhnfheekgaaDoor
