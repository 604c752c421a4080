/- A text cut at a lexeme's end. -/
import Derived.Test.YtnecafokkhhhhaaDoorPf
import Derived.Test.YtnecafokkhhhhaaDoorLs
namespace Go.Proofs.YtnecafokkhhhhaaDoor
open Go Go.RowKit
theorem sm_take {m n : Nat} (l : List UInt8) (h : n ≤ m) : Sm n l (l.take m) := fun j hj => by rw [List.getElem?_take_of_lt (by omega)]
theorem run_cut (P : Nat → Bool) : ∀ (l : List UInt8) (m : Nat), run P l ≤ m → run P (l.take m) = run P l
  | [], m, _ => by simp
  | c :: t, m, h => by
    cases hc : P c.toNat with
    | false =>
      cases m with
      | zero => rw [List.take_zero, run_cons_false P c t hc]; rfl
      | succ m => rw [List.take_succ_cons, run_cons_false P c _ hc, run_cons_false P c t hc]
    | true =>
      rw [run_cons_true P c t hc] at h
      obtain ⟨m, rfl⟩ : ∃ x, m = x + 1 := ⟨m - 1, by omega⟩
      rw [List.take_succ_cons, run_cons_true P c _ hc, run_cons_true P c t hc, run_cut P t m (by omega)]
theorem mkl_cut (c : Nat) (t : List UInt8) (m : Nat) (h : mkl c t ≤ m + 1) : mkl c (t.take m) = mkl c t := by
  cases m with
  | zero =>
    rw [List.take_zero]
    unfold mkl at h ⊢
    by_cases h1 : c = 61
    · rw [if_pos h1] at h ⊢
      rw [if_pos h1]
      by_cases h2 : Lib.hasPrefix t [62] = true
      · rw [if_pos h2] at h; omega
      · rw [if_neg h2]; rfl
    · rw [if_neg h1, if_neg h1]
  | succ m =>
    have e : Lib.hasPrefix (t.take (m + 1)) [62] = Lib.hasPrefix t [62] := by
      cases t with
      | nil => rfl
      | cons d t => rfl
    unfold mkl
    rw [e]
/-- A lexeme hangs on its own bytes alone, where the text ends behind it or later. -/
theorem one_cut (l : List UInt8) (k m : Nat) (y : Lxm) (h : one l k = .inr y) (hm : y.e - k ≤ m) : one (l.take m) k = .inr y := by
  have hok := one_lt h
  have h1 := hok.lo
  cases l with
  | nil => cases h
  | cons c t =>
    obtain ⟨m, rfl⟩ : ∃ x, m = x + 1 := ⟨m - 1, by omega⟩
    have ed : (c :: t).take (m + 1) = c :: t.take m := List.take_succ_cons
    have h : oneR c.toNat (c :: t) k = .inr y := h
    rw [ed]
    show oneR c.toNat (c :: t.take m) k = .inr y
    rw [← ed]
    unfold oneR at h ⊢
    by_cases h1 : blnk c.toNat = true
    · rw [if_pos h1] at h ⊢
      exact h
    rw [if_neg h1] at h ⊢
    by_cases h2 : c.toNat = 35
    · rw [if_pos h2] at h ⊢
      cases h
      rw [run_cut _ _ _ (by simp only [Nat.add_sub_cancel_left] at hm; exact hm)]
    rw [if_neg h2] at h ⊢
    by_cases h3 : c.toNat = 10
    · rw [if_pos h3] at h ⊢
      exact h
    rw [if_neg h3] at h ⊢
    by_cases h4 : ltr c.toNat = true
    · rw [if_pos h4] at h ⊢
      by_cases h5 : 32 < run nmc (c :: t)
      · rw [if_pos h5] at h; cases h
      · rw [if_neg h5] at h
        cases h
        simp only [Nat.add_sub_cancel_left] at hm
        rw [run_cut _ _ _ hm, if_neg h5, List.take_take, Nat.min_eq_left hm]
    rw [if_neg h4] at h ⊢
    by_cases h5 : dgt c.toNat = true
    · rw [if_pos h5] at h ⊢
      cases h
      simp only [Nat.add_sub_cancel_left] at hm
      rw [run_cut _ _ _ hm, List.take_take, Nat.min_eq_left hm]
    rw [if_neg h5] at h ⊢
    by_cases h6 : c.toNat = 34
    · rw [if_pos h6] at h ⊢
      cases hx : quq unq (c :: t) k with
      | inl d => rw [hx] at h; cases h
      | inr am =>
        obtain ⟨A, q⟩ := am
        rw [hx] at h
        cases h
        rw [quq_pf hx (sm_take _ hm)]
    rw [if_neg h6] at h ⊢
    by_cases h7 : c.toNat = 91
    · rw [if_pos h7] at h ⊢
      cases hx : cls unq ((c :: t).length + 1) 0 (c :: t) k with
      | inl d => rw [hx] at h; cases h
      | inr am =>
        obtain ⟨A, q⟩ := am
        rw [hx] at h
        cases h
        rw [(cls_pf _).1 _ _ _ _ _ hx _ _ (by omega) (sm_take _ hm)]
    rw [if_neg h7] at h ⊢
    by_cases h8 : c.toNat = 46
    · rw [if_pos h8] at h ⊢
      exact h
    rw [if_neg h8] at h ⊢
    have e4 : mkl c.toNat ((c :: t).drop 1) ≤ m + 1 → mkl c.toNat (((c :: t).take (m + 1)).drop 1) = mkl c.toNat ((c :: t).drop 1) := by
      intro hq
      rw [ed]
      exact mkl_cut _ _ _ hq
    by_cases h9 : mkl c.toNat ((c :: t).drop 1) = 0
    · rw [if_pos h9] at h; cases h
    · rw [if_neg h9] at h
      cases h
      simp only [Nat.add_sub_cancel_left] at hm
      rw [e4 hm, if_neg h9, List.take_take, Nat.min_eq_left hm]
theorem lxs_cut : ∀ (g : Nat) (l : List UInt8) (k i : Nat) (y : Lxm), (lxs g l k).1[i]? = some y → ∀ g', y.e - k ≤ g' → lxs g' (l.take (y.e - k)) k = ((lxs g l k).1.take (i + 1), none)
  | 0, l, k, i, y, h => by simp [lxs] at h
  | g + 1, l, k, i, y, h => by
    intro g' hg
    by_cases hl : l = []
    · subst hl; simp [lxs] at h
    · have hy := (lxs_bnd (g + 1) l k).1 y (List.mem_of_getElem? h)
      obtain ⟨g', rfl⟩ : ∃ x, g' = x + 1 := ⟨g' - 1, by omega⟩
      rw [lxs_step g l k hl] at h ⊢
      have hl2 : l.take (y.e - k) ≠ [] := by
        intro e
        have h2 : (l.take (y.e - k)).length = 0 := by rw [e]; rfl
        rw [List.length_take] at h2
        have h0 : 0 < l.length := List.length_pos_iff.2 hl
        omega
      rw [lxs_step g' _ k hl2]
      cases ho : one l k with
      | inl x => rw [ho] at h; simp [lxN] at h
      | inr z =>
        rw [ho] at h
        have hok := one_lt ho
        have z1 := hok.lo
        have z2 := hok.hi
        -- the lexeme told of lies at z, or behind it
        have step : ∀ j, (lxs g (l.drop (z.e - k)) z.e).1[j]? = some y → z.e ≤ y.a ∧ lxs g' ((l.take (y.e - k)).drop (z.e - k)) z.e = ((lxs g (l.drop (z.e - k)) z.e).1.take (j + 1), none) := by
          intro j hj
          have hb := (lxs_bnd g (l.drop (z.e - k)) z.e).1 y (List.mem_of_getElem? hj)
          refine ⟨hb.1, ?_⟩
          rw [List.drop_take, show y.e - k - (z.e - k) = y.e - z.e by omega]
          exact lxs_cut g _ _ _ _ hj g' (by omega)
        unfold lxN at h ⊢
        simp only at h
        by_cases hk : z.kind = 0
        · rw [if_pos hk] at h
          obtain ⟨b1, b2⟩ := step i h
          rw [one_cut l k _ z ho (by omega)]
          simp only
          rw [if_pos hk, if_pos hk]
          exact b2
        · rw [if_neg hk] at h
          simp only at h
          cases i with
          | zero =>
            simp at h
            subst h
            rw [one_cut l k _ z ho (by omega)]
            simp only
            rw [if_neg hk, if_neg hk, List.drop_eq_nil_of_le (by rw [List.length_take]; omega)]
            have e0 : ∀ g k, lxs g [] k = ([], none) := fun g k => by cases g <;> simp [lxs]
            rw [e0]
            simp
          | succ i =>
            simp only [List.getElem?_cons_succ] at h
            obtain ⟨b1, b2⟩ := step i h
            rw [one_cut l k _ z ho (by omega)]
            simp only
            rw [if_neg hk, if_neg hk, b2]
            simp
end Go.Proofs.YtnecafokkhhhhaaDoor
