/- LexBlanks returns true for every text, and leaves what it read as it was: on the conditions that the errors and the tables which the card ties to the program's text stand in their variables when the call begins. -/
import Derived.Test.YtnecafokkhhhhaaDoorPf
import Derived.Test.YtnecafokkhhhhaaDoorLs
import Derived.Test.YtnecafokkhhhhaaDoorEqx
import Derived.BigQuiet
import Derived.Test.YtnecafokkhhhhaaDoorKno
namespace Go.Proofs.YtnecafokkhhhhaaDoor
open Go Go.RowKit
theorem sm_take {m n : Nat} (l : List UInt8) (h : n ≤ m) : Sm n l (l.take m) := fun j hj => by rw [List.getElem?_take_of_lt (by omega)]
theorem run_cut (P : Nat → Bool) : ∀ (l : List UInt8) (m : Nat), run P l ≤ m → run P (l.take m) = run P l
  | [], m, _ => by simp
  | c :: t, m, h => by
    cases hc : P c.toNat with
    | false =>
      cases m with
      | zero => rw [List.take_zero, run_cons_false P c t hc]; rfl
      | succ m => rw [List.take_succ_cons, run_cons_false P c _ hc, run_cons_false P c t hc]
    | true =>
      rw [run_cons_true P c t hc] at h
      obtain ⟨m, rfl⟩ : ∃ x, m = x + 1 := ⟨m - 1, by omega⟩
      rw [List.take_succ_cons, run_cons_true P c _ hc, run_cons_true P c t hc, run_cut P t m (by omega)]
theorem mkl_cut (c : Nat) (t : List UInt8) (m : Nat) (h : mkl c t ≤ m + 1) : mkl c (t.take m) = mkl c t := by
  cases m with
  | zero =>
    rw [List.take_zero]
    unfold mkl at h ⊢
    by_cases h1 : c = 61
    · rw [if_pos h1] at h ⊢
      rw [if_pos h1]
      by_cases h2 : Lib.hasPrefix t [62] = true
      · rw [if_pos h2] at h; omega
      · rw [if_neg h2]; rfl
    · rw [if_neg h1, if_neg h1]
  | succ m =>
    have e : Lib.hasPrefix (t.take (m + 1)) [62] = Lib.hasPrefix t [62] := by
      cases t with
      | nil => rfl
      | cons d t => rfl
    unfold mkl
    rw [e]
/-- A lexeme hangs on its own bytes alone, where the text ends behind it or later. -/
theorem one_cut (l : List UInt8) (k m : Nat) (y : Lxm) (h : one l k = .inr y) (hm : y.e - k ≤ m) : one (l.take m) k = .inr y := by
  have hok := one_lt h
  have h1 := hok.lo
  cases l with
  | nil => cases h
  | cons c t =>
    obtain ⟨m, rfl⟩ : ∃ x, m = x + 1 := ⟨m - 1, by omega⟩
    have ed : (c :: t).take (m + 1) = c :: t.take m := List.take_succ_cons
    have h : oneR c.toNat (c :: t) k = .inr y := h
    rw [ed]
    show oneR c.toNat (c :: t.take m) k = .inr y
    rw [← ed]
    unfold oneR at h ⊢
    by_cases h1 : blnk c.toNat = true
    · rw [if_pos h1] at h ⊢
      exact h
    rw [if_neg h1] at h ⊢
    by_cases h2 : c.toNat = 35
    · rw [if_pos h2] at h ⊢
      cases h
      rw [run_cut _ _ _ (by simp only [Nat.add_sub_cancel_left] at hm; exact hm)]
    rw [if_neg h2] at h ⊢
    by_cases h3 : c.toNat = 10
    · rw [if_pos h3] at h ⊢
      exact h
    rw [if_neg h3] at h ⊢
    by_cases h4 : ltr c.toNat = true
    · rw [if_pos h4] at h ⊢
      by_cases h5 : 32 < run nmc (c :: t)
      · rw [if_pos h5] at h; cases h
      · rw [if_neg h5] at h
        cases h
        simp only [Nat.add_sub_cancel_left] at hm
        rw [run_cut _ _ _ hm, if_neg h5, List.take_take, Nat.min_eq_left hm]
    rw [if_neg h4] at h ⊢
    by_cases h5 : dgt c.toNat = true
    · rw [if_pos h5] at h ⊢
      cases h
      simp only [Nat.add_sub_cancel_left] at hm
      rw [run_cut _ _ _ hm, List.take_take, Nat.min_eq_left hm]
    rw [if_neg h5] at h ⊢
    by_cases h6 : c.toNat = 34
    · rw [if_pos h6] at h ⊢
      cases hx : quq unq (c :: t) k with
      | inl d => rw [hx] at h; cases h
      | inr am =>
        obtain ⟨A, q⟩ := am
        rw [hx] at h
        cases h
        rw [quq_pf hx (sm_take _ hm)]
    rw [if_neg h6] at h ⊢
    by_cases h7 : c.toNat = 91
    · rw [if_pos h7] at h ⊢
      cases hx : cls unq ((c :: t).length + 1) 0 (c :: t) k with
      | inl d => rw [hx] at h; cases h
      | inr am =>
        obtain ⟨A, q⟩ := am
        rw [hx] at h
        cases h
        rw [(cls_pf _).1 _ _ _ _ _ hx _ _ (by omega) (sm_take _ hm)]
    rw [if_neg h7] at h ⊢
    by_cases h8 : c.toNat = 46
    · rw [if_pos h8] at h ⊢
      exact h
    rw [if_neg h8] at h ⊢
    have e4 : mkl c.toNat ((c :: t).drop 1) ≤ m + 1 → mkl c.toNat (((c :: t).take (m + 1)).drop 1) = mkl c.toNat ((c :: t).drop 1) := by
      intro hq
      rw [ed]
      exact mkl_cut _ _ _ hq
    by_cases h9 : mkl c.toNat ((c :: t).drop 1) = 0
    · rw [if_pos h9] at h; cases h
    · rw [if_neg h9] at h
      cases h
      simp only [Nat.add_sub_cancel_left] at hm
      rw [e4 hm, if_neg h9, List.take_take, Nat.min_eq_left hm]
theorem lxs_cut : ∀ (g : Nat) (l : List UInt8) (k i : Nat) (y : Lxm), (lxs g l k).1[i]? = some y → ∀ g', y.e - k ≤ g' → lxs g' (l.take (y.e - k)) k = ((lxs g l k).1.take (i + 1), none)
  | 0, l, k, i, y, h => by simp [lxs] at h
  | g + 1, l, k, i, y, h => by
    intro g' hg
    by_cases hl : l = []
    · subst hl; simp [lxs] at h
    · have hy := (lxs_bnd (g + 1) l k).1 y (List.mem_of_getElem? h)
      obtain ⟨g', rfl⟩ : ∃ x, g' = x + 1 := ⟨g' - 1, by omega⟩
      rw [lxs_step g l k hl] at h ⊢
      have hl2 : l.take (y.e - k) ≠ [] := by
        intro e
        have h2 : (l.take (y.e - k)).length = 0 := by rw [e]; rfl
        rw [List.length_take] at h2
        have h0 : 0 < l.length := List.length_pos_iff.2 hl
        omega
      rw [lxs_step g' _ k hl2]
      cases ho : one l k with
      | inl x => rw [ho] at h; simp [lxN] at h
      | inr z =>
        rw [ho] at h
        have hok := one_lt ho
        have z1 := hok.lo
        have z2 := hok.hi
        -- the lexeme told of lies at z, or behind it
        have step : ∀ j, (lxs g (l.drop (z.e - k)) z.e).1[j]? = some y → z.e ≤ y.a ∧ lxs g' ((l.take (y.e - k)).drop (z.e - k)) z.e = ((lxs g (l.drop (z.e - k)) z.e).1.take (j + 1), none) := by
          intro j hj
          have hb := (lxs_bnd g (l.drop (z.e - k)) z.e).1 y (List.mem_of_getElem? hj)
          refine ⟨hb.1, ?_⟩
          rw [List.drop_take, show y.e - k - (z.e - k) = y.e - z.e by omega]
          exact lxs_cut g _ _ _ _ hj g' (by omega)
        unfold lxN at h ⊢
        simp only at h
        by_cases hk : z.kind = 0
        · rw [if_pos hk] at h
          obtain ⟨b1, b2⟩ := step i h
          rw [one_cut l k _ z ho (by omega)]
          simp only
          rw [if_pos hk, if_pos hk]
          exact b2
        · rw [if_neg hk] at h
          simp only at h
          cases i with
          | zero =>
            simp at h
            subst h
            rw [one_cut l k _ z ho (by omega)]
            simp only
            rw [if_neg hk, if_neg hk, List.drop_eq_nil_of_le (by rw [List.length_take]; omega)]
            have e0 : ∀ g k, lxs g [] k = ([], none) := fun g k => by cases g <;> simp [lxs]
            rw [e0]
            simp
          | succ i =>
            simp only [List.getElem?_cons_succ] at h
            obtain ⟨b1, b2⟩ := step i h
            rw [one_cut l k _ z ho (by omega)]
            simp only
            rw [if_neg hk, if_neg hk, b2]
            simp
end Go.Proofs.YtnecafokkhhhhaaDoor
namespace Go.Proofs.YtnecafokkhhhhaaDoor
open Go Go.RowKit
/-- Blanks, and perhaps a remark behind them that goes to the end. -/
def psd : List UInt8 → Bool
  | [] => true
  | c :: t => if c.toNat = 35 then t.all (fun d => rmk d.toNat) else blnk c.toNat && psd t
theorem one_pass (c : UInt8) (t : List UInt8) (k : Nat) (z : Lxm) (h : one (c :: t) k = .inr z) (hz : z.kind = 0) :
    (blnk c.toNat = true ∧ z = ⟨0, k, k + 1, [], 0, 0#256⟩) ∨ (c.toNat = 35 ∧ z = ⟨0, k, k + run rmk (c :: t), [], 0, 0#256⟩) := by
  have h : oneR c.toNat (c :: t) k = .inr z := h
  unfold oneR at h
  split at h
  · rename_i hb
    cases h
    exact .inl ⟨hb, rfl⟩
  · split at h
    · rename_i hc
      cases h
      exact .inr ⟨hc, rfl⟩
    · split at h
      · cases h; cases hz
      · split at h
        · split at h
          · cases h
          · cases h; cases hz
        · split at h
          · cases h; cases hz
          · split at h
            · split at h
              · cases h
              · cases h; cases hz
            · split at h
              · split at h
                · cases h
                · cases h; cases hz
              · split at h
                · cases h; cases hz
                · split at h
                  · cases h
                  · cases h; cases hz
theorem lxs_nil (g k : Nat) : lxs g [] k = ([], none) := by cases g <;> simp [lxs]
/-- Behind a remark there is a line's end, or nothing. -/
theorem lxs_rmk (g : Nat) (l : List UInt8) (k : Nat) (hg : l.length - run rmk l ≤ g) :
    (l.drop (run rmk l) = [] ∧ lxs g (l.drop (run rmk l)) k = ([], none)) ∨ (lxs g (l.drop (run rmk l)) k).1.head? = some ⟨6, k, k + 1, [], 0, 0#256⟩ := by
  rcases run_end rmk l with e | ⟨d, hd, hp⟩
  · left
    have h0 : l.drop (run rmk l) = [] := List.drop_eq_nil_of_le (by omega)
    rw [h0, lxs_nil]
    exact ⟨rfl, rfl⟩
  · right
    have hlt : run rmk l < l.length := by
      rcases Nat.lt_or_ge (run rmk l) l.length with h | h
      · exact h
      · rw [List.getElem?_eq_none h] at hd; cases hd
    have hd2 : d.toNat = 10 := by unfold rmk at hp; simpa using hp
    have e : l.drop (run rmk l) = d :: l.drop (run rmk l + 1) := by
      rw [List.getElem?_eq_getElem hlt] at hd
      cases hd
      exact List.drop_eq_getElem_cons hlt
    obtain ⟨g, rfl⟩ : ∃ x, g = x + 1 := ⟨g - 1, by omega⟩
    rw [e, lxs_step g _ _ (by simp)]
    have o : one (d :: l.drop (run rmk l + 1)) k = .inr ⟨6, k, k + 1, [], 0, 0#256⟩ := by
      show oneR d.toNat _ k = _
      unfold oneR
      rw [hd2, if_neg (by decide), if_neg (by decide), if_pos rfl]
    rw [o]
    unfold lxN
    simp
theorem lxs_next : ∀ (g : Nat) (l : List UInt8) (k : Nat) (y : Lxm) (Ys : List Lxm) (r : Option (Bool × Nat)), l.length ≤ g → lxs g l k = (y :: Ys, r) →
    k ≤ y.a ∧ psd (l.take (y.a - k)) = true ∧ one (l.drop (y.a - k)) y.a = .inr y ∧ y.kind ≠ 0 ∧ lxs g (l.drop (y.e - k)) y.e = (Ys, r)
  | 0, l, k, y, Ys, r, _, h => by simp [lxs] at h
  | g + 1, l, k, y, Ys, r, hg, h => by
    by_cases hl : l = []
    · subst hl; simp [lxs] at h
    · rw [lxs_step g l k hl] at h
      cases ho : one l k with
      | inl x => rw [ho] at h; simp [lxN] at h
      | inr z =>
        rw [ho] at h
        have hok := one_lt ho
        have z1 := hok.lo
        have z2 := hok.hi
        have z3 := hok.a
        have hdl : (l.drop (z.e - k)).length ≤ g := by rw [List.length_drop]; omega
        unfold lxN at h
        simp only at h
        by_cases hk : z.kind = 0
        · rw [if_pos hk] at h
          obtain ⟨b1, b2, b3, b4, b5⟩ := lxs_next g _ _ y Ys r hdl h
          have hb := (lxs_bnd g (l.drop (z.e - k)) z.e).1 y (by rw [h]; simp)
          refine ⟨by omega, ?_, ?_, b4, ?_⟩
          · cases l with
            | nil => exact absurd rfl hl
            | cons c t =>
              rcases one_pass c t k z ho hk with ⟨hc, rfl⟩ | ⟨hc, rfl⟩
              · simp only [Nat.add_sub_cancel_left, List.drop_succ_cons, List.drop_zero] at b1 b2
                rw [show y.a - k = (y.a - (k + 1)) + 1 by omega, List.take_succ_cons, psd, if_neg (by intro e; rw [e] at hc; cases hc), hc, b2]
                rfl
              · simp only [Nat.add_sub_cancel_left] at h hdl z1
                have hgg : (c :: t).length - run rmk (c :: t) ≤ g := by rw [List.length_drop] at hdl; exact hdl
                rcases lxs_rmk g (c :: t) (k + run rmk (c :: t)) hgg with ⟨_, e⟩ | e
                · rw [h] at e; cases e
                · rw [h] at e
                  simp only [List.head?_cons, Option.some.injEq] at e
                  subst e
                  simp only [Nat.add_sub_cancel_left]
                  rw [run_take]
                  have hct : rmk c.toNat = true := by rw [hc]; rfl
                  rw [List.takeWhile_cons_of_pos (p := fun c : UInt8 => rmk c.toNat) hct, psd, if_pos hc, List.all_eq_true]
                  intro d hd
                  exact mem_tw (fun c => rmk c.toNat) t d hd
          · rw [List.drop_drop, show z.e - k + (y.a - z.e) = y.a - k by omega] at b3
            exact b3
          · rw [List.drop_drop, show z.e - k + (y.e - z.e) = y.e - k by omega] at b5
            rw [← b5]
            exact lxs_fuel _ _ _ _ (by rw [List.length_drop]; omega) (by rw [List.length_drop]; omega)
        · rw [if_neg hk] at h
          simp only [Prod.mk.injEq, List.cons.injEq] at h
          obtain ⟨⟨rfl, h2⟩, h3⟩ := h
          rw [z3, Nat.sub_self, List.take_zero, List.drop_zero]
          refine ⟨Nat.le_refl _, rfl, ho, hk, ?_⟩
          rw [← h2, ← h3]
          exact lxs_fuel _ _ _ _ (by rw [List.length_drop]; omega) hdl
theorem lxs_rest : ∀ (g : Nat) (l : List UInt8) (k : Nat), l.length ≤ g → lxs g l k = ([], none) → psd l = true
  | 0, l, k, hg, _ => by
    have : l = [] := List.length_eq_zero_iff.1 (by omega)
    subst this; rfl
  | g + 1, l, k, hg, h => by
    by_cases hl : l = []
    · subst hl; rfl
    · rw [lxs_step g l k hl] at h
      cases ho : one l k with
      | inl x => rw [ho] at h; simp [lxN] at h
      | inr z =>
        rw [ho] at h
        have hok := one_lt ho
        have z1 := hok.lo
        have hdl : (l.drop (z.e - k)).length ≤ g := by rw [List.length_drop]; omega
        unfold lxN at h
        simp only at h
        by_cases hk : z.kind = 0
        · rw [if_pos hk] at h
          have ih := lxs_rest g _ _ hdl h
          cases l with
          | nil => exact absurd rfl hl
          | cons c t =>
            rcases one_pass c t k z ho hk with ⟨hc, rfl⟩ | ⟨hc, rfl⟩
            · simp only [Nat.add_sub_cancel_left, List.drop_succ_cons, List.drop_zero] at ih
              rw [psd, if_neg (by intro e; rw [e] at hc; cases hc), hc, ih]
              rfl
            · simp only [Nat.add_sub_cancel_left] at h hdl
              have hgg : (c :: t).length - run rmk (c :: t) ≤ g := by rw [List.length_drop] at hdl; exact hdl
              rcases lxs_rmk g (c :: t) (k + run rmk (c :: t)) hgg with ⟨e, _⟩ | e
              · have hct : rmk c.toNat = true := by rw [hc]; rfl
                have hall : ∀ d ∈ t, rmk d.toNat = true := by
                  intro d hd
                  have h1 : (c :: t).takeWhile (fun c => rmk c.toNat) = c :: t := by
                    have := List.take_append_drop (run rmk (c :: t)) (c :: t)
                    rw [e, run_take, List.append_nil] at this
                    exact this
                  exact mem_tw (fun c => rmk c.toNat) (c :: t) d (by rw [h1]; simp [hd])
                rw [psd, if_pos hc, List.all_eq_true]
                exact hall
              · rw [h] at e; cases e
        · rw [if_neg hk] at h
          simp at h
theorem lxs_many : ∀ (g : Nat) (l : List UInt8) (k : Nat), (lxs g l k).1.length ≤ l.length
  | 0, l, k => by simp [lxs]
  | g + 1, l, k => by
    by_cases hl : l = []
    · subst hl; simp [lxs]
    · rw [lxs_step g l k hl]
      cases ho : one l k with
      | inl x => simp [lxN]
      | inr y =>
        have h1 := (one_lt ho).lo
        have h2 := (one_lt ho).hi
        have ih := lxs_many g (l.drop (y.e - k)) y.e
        rw [List.length_drop] at ih
        unfold lxN
        simp only
        split
        · omega
        · rw [List.length_cons]; omega
/-- A lexeme's own bytes. -/
def LxOk (l : List UInt8) (k : Nat) (y : Lxm) : Prop :=
  ((y.kind = 1 ∨ y.kind = 5) ∧ y.t = l.take (y.e - k)) ∨ (y.kind = 6 ∧ y.e = k + 1 ∧ l[0]? = some 10) ∨ (y.kind = 3 ∧ k + 2 ≤ y.e ∧ l[0]? = some 34 ∧ l[y.e - 1 - k]? = some 34) ∨
    (y.kind = 4 ∧ ((y.e = k + 1 ∧ l[0]? = some 46) ∨ (l[0]? = some 91 ∧ l[y.e - 1 - k]? = some 93))) ∨ (y.kind = 2 ∧ ∃ c, l[0]? = some c ∧ dgt c.toNat = true)
theorem u8_of {c : UInt8} {n : Nat} (h : c.toNat = n) (hn : n < 256) : c = UInt8.ofNat n := by
  apply UInt8.toNat_inj.1
  rw [h, UInt8.toNat_ofNat']
  omega
theorem one_own (l : List UInt8) (k : Nat) (y : Lxm) (h : one l k = .inr y) (hk : y.kind ≠ 0) : LxOk l k y := by
  cases l with
  | nil => cases h
  | cons c t =>
    have h : oneR c.toNat (c :: t) k = .inr y := h
    unfold oneR at h
    split at h
    · cases h; exact absurd rfl hk
    · split at h
      · cases h; exact absurd rfl hk
      · split at h
        · rename_i hc
          cases h
          exact .inr (.inl ⟨rfl, rfl, by rw [u8_of hc (by decide)]; rfl⟩)
        · split at h
          · split at h
            · cases h
            · cases h
              exact .inl ⟨.inl rfl, by simp only [Nat.add_sub_cancel_left]⟩
          · split at h
            · rename_i hd
              cases h
              exact .inr (.inr (.inr (.inr ⟨rfl, c, rfl, hd⟩)))
            · split at h
              · rename_i hc
                split at h
                · cases h
                · rename_i A m hq
                  cases h
                  have h2 := quq_last hq
                  have h3 : k + 2 ≤ m := by
                    unfold quq at hq
                    split at hq
                    · have := quo_last _ _ _ _ _ _ hq
                      omega
                    · cases hq
                  exact .inr (.inr (.inl ⟨rfl, h3, by rw [u8_of hc (by decide)]; rfl, h2.2⟩))
              · split at h
                · rename_i hc
                  split at h
                  · cases h
                  · rename_i S m hq
                    cases h
                    have h2 := (cls_last _).1 _ _ _ _ _ hq
                    exact .inr (.inr (.inr (.inl ⟨rfl, .inr ⟨by rw [u8_of hc (by decide)]; rfl, h2.2⟩⟩)))
                · split at h
                  · rename_i hc
                    cases h
                    exact .inr (.inr (.inr (.inl ⟨rfl, .inl ⟨rfl, by rw [u8_of hc (by decide)]; rfl⟩⟩)))
                  · split at h
                    · cases h
                    · cases h
                      exact .inl ⟨.inr rfl, by simp only [Nat.add_sub_cancel_left]⟩
end Go.Proofs.YtnecafokkhhhhaaDoor
namespace Go.Proofs.YtnecafokkhhhhaaDoor
open Go Go.RowKit
theorem run_more (P : Nat → Bool) (l : List UInt8) (b : UInt8) (r : List UInt8) (hb : P b.toNat = false) : run P (l.take (run P l) ++ b :: r) = run P l := by
  rw [run_take, run_all P _ _ (mem_tw (fun c => P c.toNat) l), run_cons_false P b r hb, Nat.add_zero]
  rfl
/-- A lexeme is the same where a blank stands right behind it. -/
theorem one_blank (l : List UInt8) (k : Nat) (y : Lxm) (h : one l k = .inr y) (hk : y.kind ≠ 0) (b : UInt8) (r : List UInt8) (hb : b = 32 ∨ b = 9) : one (l.take (y.e - k) ++ b :: r) k = .inr y := by
  have hok := one_lt h
  have h1 := hok.lo
  have h2 := hok.hi
  have hsm : Sm (y.e - k) l (l.take (y.e - k) ++ b :: r) := fun j hj => by
    rw [List.getElem?_append_left (by rw [List.length_take]; omega), List.getElem?_take_of_lt hj]
  have b1 : nmc b.toNat = false := by rcases hb with rfl | rfl <;> rfl
  have b2 : dgt b.toNat = false := by rcases hb with rfl | rfl <;> rfl
  have tk : ∀ n, n = y.e - k → (l.take (y.e - k) ++ b :: r).take n = l.take (y.e - k) := fun n e => by
    subst e
    rw [List.take_append_of_le_length (by rw [List.length_take]; omega), List.take_take, Nat.min_self]
  cases l with
  | nil => cases h
  | cons c t =>
    obtain ⟨m, hm⟩ : ∃ x, y.e - k = x + 1 := ⟨y.e - k - 1, by omega⟩
    have ed : (c :: t).take (y.e - k) ++ b :: r = c :: (t.take m ++ b :: r) := by rw [hm, List.take_succ_cons, List.cons_append]
    have h : oneR c.toNat (c :: t) k = .inr y := h
    rw [ed]
    show oneR c.toNat (c :: (t.take m ++ b :: r)) k = .inr y
    rw [← ed]
    unfold oneR at h ⊢
    by_cases h1 : blnk c.toNat = true
    · rw [if_pos h1] at h
      cases h; exact absurd rfl hk
    rw [if_neg h1] at h ⊢
    by_cases h2 : c.toNat = 35
    · rw [if_pos h2] at h
      cases h; exact absurd rfl hk
    rw [if_neg h2] at h ⊢
    by_cases h3 : c.toNat = 10
    · rw [if_pos h3] at h ⊢
      exact h
    rw [if_neg h3] at h ⊢
    by_cases h4 : ltr c.toNat = true
    · rw [if_pos h4] at h ⊢
      by_cases h5 : 32 < run nmc (c :: t)
      · rw [if_pos h5] at h; cases h
      · rw [if_neg h5] at h
        cases h
        simp only [Nat.add_sub_cancel_left] at tk ⊢
        rw [run_more nmc (c :: t) b r b1, if_neg h5, tk _ rfl]
    rw [if_neg h4] at h ⊢
    by_cases h5 : dgt c.toNat = true
    · rw [if_pos h5] at h ⊢
      cases h
      simp only [Nat.add_sub_cancel_left] at tk ⊢
      rw [run_more dgt (c :: t) b r b2, tk _ rfl]
    rw [if_neg h5] at h ⊢
    by_cases h6 : c.toNat = 34
    · rw [if_pos h6] at h ⊢
      cases hx : quq unq (c :: t) k with
      | inl d => rw [hx] at h; cases h
      | inr am =>
        obtain ⟨A, q⟩ := am
        rw [hx] at h
        cases h
        rw [quq_pf hx hsm]
    rw [if_neg h6] at h ⊢
    by_cases h7 : c.toNat = 91
    · rw [if_pos h7] at h ⊢
      cases hx : cls unq ((c :: t).length + 1) 0 (c :: t) k with
      | inl d => rw [hx] at h; cases h
      | inr am =>
        obtain ⟨A, q⟩ := am
        rw [hx] at h
        cases h
        rw [(cls_pf _).1 _ _ _ _ _ hx _ _ (by omega) hsm]
    rw [if_neg h7] at h ⊢
    by_cases h8 : c.toNat = 46
    · rw [if_pos h8] at h ⊢
      exact h
    rw [if_neg h8] at h ⊢
    by_cases h9 : mkl c.toNat ((c :: t).drop 1) = 0
    · rw [if_pos h9] at h; cases h
    · rw [if_neg h9] at h
      have em : y.e - k = mkl c.toNat t := by cases h; simp
      have e9 : mkl c.toNat (((c :: t).take (y.e - k) ++ b :: r).drop 1) = mkl c.toNat t := by
        rw [ed, List.drop_succ_cons, List.drop_zero]
        unfold mkl at em ⊢
        by_cases q1 : c.toNat = 61
        · rw [if_pos q1] at em ⊢
          rw [if_pos q1]
          by_cases q2 : Lib.hasPrefix t [62] = true
          · rw [if_pos q2] at em ⊢
            have : m = 1 := by omega
            subst this
            cases t with
            | nil => cases q2
            | cons d t =>
              rw [if_pos (by simpa [Lib.hasPrefix] using q2)]
          · rw [if_neg q2] at em ⊢
            have : m = 0 := by omega
            subst this
            rw [if_neg (by rcases hb with rfl | rfl <;> simp [Lib.hasPrefix])]
        · rw [if_neg q1, if_neg q1]
      rw [e9, tk _ em.symm]
      simp only [List.drop_succ_cons, List.drop_zero] at h h9
      rw [if_neg h9, ← h, em]
/-- The same lexeme, wherever it stands. -/
def Shp (x y : Lxm) : Prop := y.kind = x.kind ∧ y.t = x.t ∧ y.n = x.n ∧ y.S = x.S ∧ y.e - y.a = x.e - x.a ∧ y.a ≤ y.e ∧ x.a ≤ x.e
theorem one_at (l : List UInt8) (k : Nat) (y : Lxm) (h : one l k = .inr y) (k' : Nat) : ∃ z, one l k' = .inr z ∧ Shp y z ∧ z.e = k' + (y.e - k) := by
  have h1 := one_shf l 0 k
  rw [Nat.zero_add, h] at h1
  cases h0 : one l 0 with
  | inl x => rw [h0] at h1; cases h1
  | inr w =>
    rw [h0] at h1
    simp only [shx, Sum.inr.injEq] at h1
    have h2 := one_shf l 0 k'
    rw [Nat.zero_add, h0] at h2
    have o := one_lt h0
    have o1 := o.lo
    have o2 := o.a
    refine ⟨mvl k' w, h2, ?_, ?_⟩
    · rw [h1]; exact ⟨rfl, rfl, rfl, rfl, by simp only [mvl]; omega, by simp only [mvl]; omega, by simp only [mvl]; omega⟩
    · rw [h1]; simp only [mvl]; omega
theorem lxs_src : ∀ (g : Nat) (l : List UInt8) (k : Nat), ∀ y ∈ (lxs g l k).1, k ≤ y.a ∧ one (l.drop (y.a - k)) y.a = .inr y ∧ y.kind ≠ 0
  | 0, l, k => fun y h => by simp [lxs] at h
  | g + 1, l, k => fun y h => by
    by_cases hl : l = []
    · subst hl; simp [lxs] at h
    · rw [lxs_step g l k hl] at h
      cases ho : one l k with
      | inl x => rw [ho] at h; simp [lxN] at h
      | inr z =>
        rw [ho] at h
        have hok := one_lt ho
        have z1 := hok.lo
        have z3 := hok.a
        have step : y ∈ (lxs g (l.drop (z.e - k)) z.e).1 → k ≤ y.a ∧ one (l.drop (y.a - k)) y.a = .inr y ∧ y.kind ≠ 0 := by
          intro hy
          obtain ⟨a1, a2, a3⟩ := lxs_src g _ _ y hy
          rw [List.drop_drop, show z.e - k + (y.a - z.e) = y.a - k by omega] at a2
          exact ⟨by omega, a2, a3⟩
        unfold lxN at h
        simp only at h
        split at h
        · exact step h
        · rename_i hk
          rcases List.mem_cons.1 h with rfl | h
          · rw [z3, Nat.sub_self, List.drop_zero]
            exact ⟨Nat.le_refl _, ho, hk⟩
          · exact step h
def btwL (i : Nat) : List UInt8 := if i % 4 = 0 then [32] else if i % 4 = 1 then [9, 32] else if i % 4 = 2 then [32, 13, 32] else [32, 32]
def rmkL : List UInt8 := [35, 32, 91, 34, 32, 114, 101, 109, 97, 114, 107]
def seg (l : List UInt8) (i : Nat) (y : Lxm) : List UInt8 := (if y.kind = 6 then rmkL else []) ++ (l.drop y.a).take (y.e - y.a) ++ btwL i
def bld (l : List UInt8) : Nat → List Lxm → List UInt8
  | _, [] => []
  | i, y :: Ys => seg l i y ++ bld l (i + 1) Ys
theorem bld_app (l : List UInt8) (y : Lxm) : ∀ (i : Nat) (A : List Lxm), bld l i (A ++ [y]) = bld l i A ++ seg l (i + A.length) y
  | i, [] => by simp [bld]
  | i, z :: A => by
    rw [List.cons_append, bld, bld, bld_app l y (i + 1) A, List.append_assoc, List.length_cons]
    congr 3
    omega
theorem btw_head (i : Nat) : ∃ b t, btwL i = b :: t ∧ (b = 32 ∨ b = 9) := by
  unfold btwL
  split
  · exact ⟨_, _, rfl, .inl rfl⟩
  · split
    · exact ⟨_, _, rfl, .inr rfl⟩
    · split
      · exact ⟨_, _, rfl, .inl rfl⟩
      · exact ⟨_, _, rfl, .inl rfl⟩
theorem btw_all (i : Nat) : ∀ b ∈ btwL i, blnk b.toNat = true := by
  unfold btwL
  split
  · decide
  · split
    · decide
    · split <;> decide
theorem btw_len (i : Nat) : (btwL i).length ≤ 3 := by
  unfold btwL
  split
  · decide
  · split
    · decide
    · split <;> decide
theorem lxs_blanks : ∀ (B R : List UInt8) (k : Nat), (∀ b ∈ B, blnk b.toNat = true) → ∀ g, (B ++ R).length ≤ g → lxs g (B ++ R) k = lxs g R (k + B.length)
  | [], R, k, _, g, _ => rfl
  | b :: B, R, k, h, g, hg => by
    obtain ⟨g, rfl⟩ : ∃ x, g = x + 1 := ⟨g - 1, by simp at hg; omega⟩
    have hb := h b (by simp)
    have o : one (b :: (B ++ R)) k = .inr ⟨0, k, k + 1, [], 0, 0#256⟩ := by
      show oneR b.toNat _ k = _
      unfold oneR
      rw [if_pos hb]
    rw [List.cons_append, lxs_step g _ _ (by simp), o]
    unfold lxN
    simp only [if_pos, Nat.add_sub_cancel_left, List.drop_succ_cons, List.drop_zero]
    simp only [List.cons_append, List.length_cons] at hg
    rw [lxs_blanks B R (k + 1) (fun b hb => h b (by simp [hb])) g (by omega), List.length_cons]
    rw [lxs_fuel g (g + 1) R _ (by simp at hg; omega) (by simp at hg; omega)]
    congr 1
    omega
theorem seg_lex (l : List UInt8) (i : Nat) (y : Lxm) (h : one (l.drop y.a) y.a = .inr y) (hk : y.kind ≠ 0) (R : List UInt8) (k g : Nat) (hg : (seg l i y ++ R).length ≤ g) :
    ∃ z, Shp y z ∧ lxs g (seg l i y ++ R) k = (z :: (lxs g R (k + (seg l i y).length)).1, (lxs g R (k + (seg l i y).length)).2) := by
  obtain ⟨b, t, hbt, hb⟩ := btw_head i
  have hok := one_lt h
  have y1 := hok.lo
  have y2 := hok.hi
  have hone := one_blank (l.drop y.a) y.a y h hk b (t ++ R) hb
  have hlT : ((l.drop y.a).take (y.e - y.a)).length = y.e - y.a := by rw [List.length_take]; omega
  obtain ⟨T, hT⟩ : ∃ T, (l.drop y.a).take (y.e - y.a) = T := ⟨_, rfl⟩
  rw [hT] at hone hlT
  have main : ∀ k g, (T ++ btwL i ++ R).length ≤ g → ∃ z, Shp y z ∧ lxs g (T ++ btwL i ++ R) k = (z :: (lxs g R (k + (T ++ btwL i).length)).1, (lxs g R (k + (T ++ btwL i).length)).2) := by
    intro k g hg
    obtain ⟨z, hz, hs, he⟩ := one_at _ _ _ hone k
    have hz0 : z.kind ≠ 0 := by rw [hs.1]; exact hk
    have e0 : T ++ btwL i ++ R = T ++ b :: (t ++ R) := by rw [hbt, List.append_assoc, List.cons_append]
    obtain ⟨g, rfl⟩ : ∃ x, g = x + 1 := ⟨g - 1, by rw [e0] at hg; simp at hg; omega⟩
    refine ⟨z, hs, ?_⟩
    rw [e0, lxs_step g _ _ (by simp), hz]
    unfold lxN
    simp only [if_neg hz0]
    have hd : (T ++ b :: (t ++ R)).drop (z.e - k) = btwL i ++ R := by
      rw [he, Nat.add_sub_cancel_left, ← hlT, List.drop_left, hbt, List.cons_append]
    have hlen : (T ++ btwL i ++ R).length = T.length + ((btwL i).length + R.length) := by rw [List.length_append, List.length_append]; omega
    have hgl : (btwL i ++ R).length ≤ g := by rw [List.length_append]; omega
    rw [hd, lxs_blanks (btwL i) R z.e (btw_all i) g hgl]
    have hRl : R.length ≤ g := by rw [List.length_append] at hgl; omega
    rw [lxs_fuel g (g + 1) R _ hRl (by omega), show z.e + (btwL i).length = k + (T ++ btwL i).length by rw [List.length_append]; omega]
  unfold seg at hg ⊢
  rw [hT] at hg ⊢
  by_cases h6 : y.kind = 6
  · rw [if_pos h6] at hg ⊢
    -- the lexeme is an LF; the remark ends ahead of it
    have hT10 : T = [10] := by
      rcases one_own _ _ _ h hk with ⟨e, _⟩ | ⟨_, e, e2⟩ | ⟨e, _⟩ | ⟨e, _⟩ | ⟨e, _⟩
      · omega
      · rw [← hT, e, Nat.add_sub_cancel_left]
        cases hl : l.drop y.a with
        | nil => rw [hl] at e2; cases e2
        | cons c t => rw [hl] at e2; simp at e2; subst e2; rfl
      · omega
      · omega
      · omega
    have hlr : rmkL.length = 11 := rfl
    have eA : rmkL ++ T ++ btwL i ++ R = rmkL ++ (T ++ btwL i ++ R) := by simp [List.append_assoc]
    rw [eA] at hg ⊢
    have hgl : 11 + (T ++ btwL i ++ R).length ≤ g := by rw [List.length_append, hlr] at hg; exact hg
    obtain ⟨g, rfl⟩ : ∃ x, g = x + 1 := ⟨g - 1, by omega⟩
    have hr : run rmk (rmkL ++ (T ++ btwL i ++ R)) = 11 := by
      rw [run_all rmk rmkL _ (by decide), hT10]
      show rmkL.length + run rmk (10 :: (btwL i ++ R)) = 11
      rw [run_cons_false rmk 10 _ (by decide)]
      rfl
    have o : one (rmkL ++ (T ++ btwL i ++ R)) k = .inr ⟨0, k, k + 11, [], 0, 0#256⟩ := by
      rw [← hr]
      show oneR 35 _ k = _
      unfold oneR
      rw [if_neg (by decide), if_pos rfl]
      rfl
    obtain ⟨z, hs, e⟩ := main (k + 11) g (by omega)
    refine ⟨z, hs, ?_⟩
    rw [lxs_step g _ _ (by rw [show rmkL ++ (T ++ btwL i ++ R) = 35 :: (rmkL.tail ++ (T ++ btwL i ++ R)) from rfl]; simp), o]
    unfold lxN
    simp only [if_pos, Nat.add_sub_cancel_left]
    have hd : (rmkL ++ (T ++ btwL i ++ R)).drop 11 = T ++ btwL i ++ R := List.drop_left' hlr
    have hRl : R.length ≤ g := by simp only [List.length_append] at hgl; omega
    rw [hd, e, lxs_fuel g (g + 1) R _ hRl (by omega), show k + 11 + (T ++ btwL i).length = k + (rmkL ++ T ++ btwL i).length by simp only [List.length_append, hlr]; omega]
  · rw [if_neg h6, List.nil_append] at hg ⊢
    exact main k g hg
theorem bld_lex (l : List UInt8) : ∀ (Ys : List Lxm) (i : Nat), (∀ y ∈ Ys, one (l.drop y.a) y.a = .inr y ∧ y.kind ≠ 0) → ∀ k g, (bld l i Ys).length ≤ g →
    ∃ Zs, lxs g (bld l i Ys) k = (Zs, none) ∧ Zs.length = Ys.length ∧ ∀ j (h1 : j < Ys.length) (h2 : j < Zs.length), Shp Ys[j] Zs[j]
  | [], i, _, k, g, _ => ⟨[], by rw [bld, lxs_nil], rfl, fun j h1 => by simp at h1⟩
  | y :: Ys, i, h, k, g, hg => by
    obtain ⟨hy, hk⟩ := h y (by simp)
    rw [bld] at hg ⊢
    obtain ⟨z, hs, e⟩ := seg_lex l i y hy hk (bld l (i + 1) Ys) k g hg
    obtain ⟨Zs, e2, hl, hall⟩ := bld_lex l Ys (i + 1) (fun y hy => h y (by simp [hy])) (k + (seg l i y).length) g (by rw [List.length_append] at hg; omega)
    refine ⟨z :: Zs, by rw [e, e2], by simp [hl], fun j h1 h2 => ?_⟩
    cases j with
    | zero => exact hs
    | succ j => exact hall j (by simpa using h1) (by simpa using h2)
theorem seg_len (l : List UInt8) (i : Nat) (y : Lxm) : (seg l i y).length ≤ 14 + (y.e - y.a) := by
  unfold seg
  simp only [List.length_append, List.length_take]
  have := btw_len i
  split
  · simp only [rmkL, List.length_cons, List.length_nil]; omega
  · simp only [List.length_nil]; omega
theorem bld_len (l0 : List UInt8) : ∀ (g : Nat) (l : List UInt8) (k i : Nat), (bld l0 i (lxs g l k).1).length ≤ 15 * l.length
  | 0, l, k, i => by simp [lxs, bld]
  | g + 1, l, k, i => by
    by_cases hl : l = []
    · subst hl; simp [lxs, bld]
    · rw [lxs_step g l k hl]
      cases ho : one l k with
      | inl x => simp [lxN, bld]
      | inr z =>
        have hok := one_lt ho
        have z1 := hok.lo
        have z2 := hok.hi
        have z3 := hok.a
        unfold lxN
        simp only
        have hd : (l.drop (z.e - k)).length = l.length - (z.e - k) := List.length_drop
        split
        · have := bld_len l0 g (l.drop (z.e - k)) z.e i
          omega
        · have h1 := bld_len l0 g (l.drop (z.e - k)) z.e (i + 1)
          have h2 := seg_len l0 i z
          rw [bld, List.length_append]
          omega
theorem bld_le (l : List UInt8) : ∀ (A B : List Lxm) (i : Nat), (bld l i A).length ≤ (bld l i (A ++ B)).length
  | [], B, i => by simp [bld]
  | a :: A, B, i => by
    rw [List.cons_append, bld, bld, List.length_append, List.length_append]
    have := bld_le l A B (i + 1)
    omega
/-- All that Lex tells of what was written so. -/
theorem blanks_lex (l : List UInt8) (g : Nat) (T : List UInt8) (hT : T = 13 :: bld l 0 (lxs g l 0).1) :
    ∃ Zs, lxs T.length T 0 = (Zs, none) ∧ Zs.length = (lxs g l 0).1.length ∧ ∀ j (h1 : j < (lxs g l 0).1.length) (h2 : j < Zs.length), Shp (lxs g l 0).1[j] Zs[j] := by
  obtain ⟨Zs, e, hl, hall⟩ := bld_lex l (lxs g l 0).1 0 (fun y hy => by
    obtain ⟨_, a2, a3⟩ := lxs_src g l 0 y hy
    exact ⟨by simpa using a2, a3⟩) 1 T.length (by rw [hT, List.length_cons]; omega)
  refine ⟨Zs, ?_, hl, hall⟩
  have hb := lxs_blanks [13] (bld l 0 (lxs g l 0).1) 0 (by decide) T.length (by rw [hT]; exact Nat.le_refl _)
  rw [show ([13] : List UInt8) ++ bld l 0 (lxs g l 0).1 = T from hT.symm] at hb
  rw [hb]
  exact e
end Go.Proofs.YtnecafokkhhhhaaDoor
namespace Go.Proofs.YtnecafokkhhhhaaDoor
open Go Go.RowKit
theorem ba_app (a b : ByteArray) : (a ++ b).data.toList = a.data.toList ++ b.data.toList := by simp
theorem ba_len (a : ByteArray) : a.data.toList.length = a.size := by rw [Array.length_toList]; rfl
set_option maxHeartbeats 8000000 in
set_option maxRecDepth 20000 in
theorem lblanks_any (s : ByteArray) (es ed : Addr) (w : World) (hK : Kn w es ed) :
    Calls Tryd.prog 4 #[.string s] w fun e w' => e = .returned (.bool true) ∧ Ext w w' := by
  have HK := Lib.hid hK
  clear hK
  by_cases h6 : 1500 < s.size
  · have d1 : decide ((1500 : Int) < (s.size : Int)) = true := by simp; omega
    have d1n : decide (1500 < s.size) = true := by simp; omega
    clear h6
    go_enter Tryd.func4, Tryd.ntmps4
    go_wp2_with fail
    refine (lwakes_any es ed _ HK.out).mono ?_
    rintro e w1 ⟨rfl, hx⟩
    have HX := Lib.hid hx
    clear hx
    go_wp2_with fail
    go_ret
    exact ⟨rfl, HX.out⟩
  · have d1 : decide ((1500 : Int) < (s.size : Int)) = false := by simp; omega
    have d1n : decide (1500 < s.size) = false := by simp; omega
    obtain ⟨⟨L, r⟩, hx⟩ : ∃ x, lxs s.size (rest s 0) 0 = x := ⟨_, rfl⟩
    have hrl := rest_len (show 0 ≤ s.size by omega)
    have hbn : ∀ k (h : k < L.length), L[k].a < L[k].e ∧ L[k].e ≤ s.size := fun k h => by
      have := (lxs_bnd s.size (rest s 0) 0).1 L[k] (by rw [hx]; exact List.getElem_mem h)
      omega
    have hbl : (bld (rest s 0) 0 L).length ≤ 22500 := by
      have h1 := bld_len (rest s 0) s.size (rest s 0) 0 0
      rw [hx] at h1
      have h2 : (bld (rest s 0) 0 L).length ≤ 15 * (rest s 0).length := h1
      omega
    have hbk : ∀ T : List UInt8, T = 13 :: bld (rest s 0) 0 L → ∃ Zs, lxs T.length T 0 = (Zs, none) ∧ Zs.length = L.length ∧ ∀ j (h1 : j < L.length) (h2 : j < Zs.length), Shp L[j] Zs[j] := by
      intro T hT
      have := blanks_lex (rest s 0) s.size T (by rw [hx]; exact hT)
      rw [hx] at this
      exact this
    have HBN := Lib.hid hbn
    have HBL := Lib.hid hbl
    have HBK := Lib.hid hbk
    have HLX := Lib.hid (fun w hK => lex_any s (by omega) es ed w hK L r hx)
    have hs6 : s.size ≤ 1500 := by omega
    have hL6 : L.length ≤ 1500 := by
      have h1 := lxs_many s.size (rest s 0) 0
      rw [hx] at h1
      have h3 : L.length ≤ (rest s 0).length := h1
      omega
    clear hx hrl h6 hbn hbl hbk
    go_enter Tryd.func4, Tryd.ntmps4
    go_wp2_with fail
    refine (HLX.out _ HK.out).mono ?_
    rintro e w1 ⟨v, u, rfl, hown, _, hx1⟩
    obtain ⟨a, ca, rfl, hlx, _, _⟩ := own_list hown
    have hx2 : Ext w (w1.alloc (.cells #[.string ⟨#[32]⟩, .string ⟨#[9, 32]⟩, .string ⟨#[32, 13, 32]⟩, .string ⟨#[32, 32]⟩] 9)) := bel_alloc hx1 (Below.refl _ _) _
    have hx3 : Ext w1 (w1.alloc (.cells #[.string ⟨#[32]⟩, .string ⟨#[9, 32]⟩, .string ⟨#[32, 13, 32]⟩, .string ⟨#[32, 32]⟩] 9)) := by (repeat' (first | (with_reducible exact Below.refl _ _) | (with_reducible assumption) | (with_reducible refine below_drewN ?_ _) | (with_reducible refine Below.alloc ?_ ?_ _) | (with_reducible refine Below.drew ?_) | (with_reducible refine Below.setCell ?_ ?_ _) | (with_reducible refine Below.trans ?_ (Below.mono (by with_reducible assumption) ?_)) | go_size))
    have HO := Lib.hid (hlx.ext hx3)
    have HE := Lib.hid hx2
    have HK1 := Lib.hid (HK.out.ext hx2)
    have HBt := Lib.hid (Blk.new w1 #[.string ⟨#[32]⟩, .string ⟨#[9, 32]⟩, .string ⟨#[32, 13, 32]⟩, .string ⟨#[32, 32]⟩] 9)
    clear hown hlx hx1 hx2 hx3 HLX HK
    go_upto_region 6 with fail
    generalize w1.heap.size = pb at HBt ⊢
    generalize w1.alloc (.cells #[.string ⟨#[32]⟩, .string ⟨#[9, 32]⟩, .string ⟨#[32, 13, 32]⟩, .string ⟨#[32, 32]⟩] 9) = w2 at *
    clear d1 d1n
    go_wp2_with fail
    go_loopw [5, 7] (fun v5 i wr => ∃ (k : Nat) (T : ByteArray), k ≤ L.length ∧ v5 = .string T ∧ i = .int .i64 k ∧ Hid (T.data.toList = 13 :: bld (rest s 0) 0 (L.take k)) ∧ Hid (Ext w2 wr)) (fun _ i _ => L.length - (intOf i).toNat)
    case atStart => exact ⟨0, ⟨#[13]⟩, Nat.zero_le _, rfl, rfl, Lib.hid rfl, Lib.hid (Below.refl _ _)⟩
    case round =>
      obtain ⟨k, T, hk, rfl, rfl, hT, hEr⟩ := hrel
      have hTs : T.size ≤ 22501 := by
        have h1 := bld_le (rest s 0) (L.take k) (L.drop k) 0
        rw [List.take_append_drop] at h1
        have h2 := HBL.out
        have h3 := congrArg List.length hT.out
        rw [ba_len, List.length_cons] at h3
        omega
      by_cases hkl : k < L.length
      · have dl : decide ((k : Int) < (L.length : Int)) = true := by simp; omega
        obtain ⟨y, hy⟩ : ∃ y, L[k] = y := ⟨_, rfl⟩
        obtain ⟨g, rfl, hg⟩ := HO.out (by omega)
        have hLc := fun f hf => (hg.ext hEr.out).2 k hkl f hf
        have hb := HBN.out k hkl
        rw [hy] at hLc hb
        have c0 : wr.cell? ⟨g, k * 9, none⟩ = some (.int .i64 (y.kind : Int)) := hLc 0 (by decide)
        have c1 : wr.cell? ⟨g, k * 9 + 1, none⟩ = some (.int .i64 (y.a : Int)) := hLc 1 (by decide)
        have c2 : wr.cell? ⟨g, k * 9 + 2, none⟩ = some (.int .i64 (y.e : Int)) := hLc 2 (by decide)
        have HSG := Lib.hid (show bld (rest s 0) 0 (L.take (k + 1)) = bld (rest s 0) 0 (L.take k) ++ seg (rest s 0) k y by
          rw [List.take_succ_eq_append_getElem hkl, bld_app, hy, List.length_take, Nat.zero_add, Nat.min_eq_left (by omega)])
        obtain ⟨G, hG⟩ : ∃ G, s.extract y.a y.e = G := ⟨_, rfl⟩
        have hGs : G.size ≤ 1500 := by rw [← hG, ByteArray.size_extract]; omega
        have hGl : G.data.toList = ((rest s 0).drop y.a).take (y.e - y.a) := by
          have := ext_lst s y.a (y.e - y.a)
          rw [show y.a + (y.e - y.a) = y.e by omega, hG] at this
          rw [this]
          have := rest_drop s 0 y.a
          rw [Nat.zero_add] at this
          rw [this]
        have HGL := Lib.hid hGl
        have HBtr := Lib.hid (HBt.out.ext hEr.out)
        have i0 : (0 : Int) ≤ (k : Int) := by omega
        have i1 : (k : Int) < (L.length : Int) := by omega
        have i5 : (0 : Int) ≤ (y.a : Int) := by omega
        have i6 : (y.a : Int) ≤ (y.e : Int) := by omega
        have i7 : (y.e : Int) ≤ (s.size : Int) := by omega
        clear hLc hb hg hy hGl
        have HG := Lib.hid hG
        clear hG
        by_cases hk6 : y.kind = 6
        · have e6 : ((y.kind : Int) == 6) = true := by simp; omega
          have c9 : (T ++ ⟨#[35, 32, 91, 34, 32, 114, 101, 109, 97, 114, 107]⟩).size ≤ 23000 := by rw [ByteArray.size_append]; show T.size + 11 ≤ 23000; omega
          have HT2 := Lib.hid (show (T ++ ⟨#[35, 32, 91, 34, 32, 114, 101, 109, 97, 114, 107]⟩).data.toList = 13 :: (bld (rest s 0) 0 (L.take k) ++ (if y.kind = 6 then rmkL else [])) by
            rw [ba_app, hT.out, if_pos hk6]; rfl)
          clear hT hk6
          go_upto_region 11 with fail
          generalize T ++ ⟨#[35, 32, 91, 34, 32, 114, 101, 109, 97, 114, 107]⟩ = T2 at *
          have hT2s : T2.size ≤ 23000 := c9
          clear c9 e6 c0 hTs
          have hm4 : k % 4 = 0 ∨ k % 4 = 1 ∨ k % 4 = 2 ∨ k % 4 = 3 := by omega
          rcases hm4 with z | z | z | z
          · have hrem : (k : Int).tmod 4 = 0 := by rw [Int.tmod_eq_emod_of_nonneg (by omega)]; omega
            have cb : wr.cell? ⟨pb, 0, none⟩ = some (.string ⟨#[32]⟩) := HBtr.out.cell 0
            have hbt : btwL k = [32] := by unfold btwL; simp [z]
            have s1 : (T2 ++ s.extract y.a y.e).size ≤ 25000 := by rw [ByteArray.size_append, HG.out]; omega
            have s2 : (T2 ++ s.extract y.a y.e ++ ⟨#[32]⟩).size ≤ 26000 := by rw [ByteArray.size_append, ByteArray.size_append, HG.out]; show T2.size + G.size + ([32] : List UInt8).length ≤ 26000; simp only [List.length_cons, List.length_nil]; omega
            have HTN := Lib.hid (show (T2 ++ s.extract y.a y.e ++ ⟨#[32]⟩).data.toList = 13 :: bld (rest s 0) 0 (L.take (k + 1)) by
              rw [ba_app, ba_app, HG.out, HT2.out, HGL.out, HSG.out]
              unfold seg
              rw [hbt]
              simp)
            clear z hbt HG HGL HSG HT2 HBtr hGs
            go_quiet (fail)
            clear hrem cb s1 s2 c1 c2 hT2s
            generalize T2 ++ s.extract y.a y.e ++ ⟨#[32]⟩ = TN at *
            have HEq := Lib.hid (bel_call hEr.out (drew_ext wr nq))
            go_wp2_with fail
            go_roundw
            case rel => exact ⟨k + 1, TN, by omega, rfl, by go_num, HTN, HEq⟩
            case measure => simp [intOf]; omega
          · have hrem : (k : Int).tmod 4 = 1 := by rw [Int.tmod_eq_emod_of_nonneg (by omega)]; omega
            have cb : wr.cell? ⟨pb, 1, none⟩ = some (.string ⟨#[9, 32]⟩) := HBtr.out.cell 1
            have hbt : btwL k = [9, 32] := by unfold btwL; simp [z]
            have s1 : (T2 ++ s.extract y.a y.e).size ≤ 25000 := by rw [ByteArray.size_append, HG.out]; omega
            have s2 : (T2 ++ s.extract y.a y.e ++ ⟨#[9, 32]⟩).size ≤ 26000 := by rw [ByteArray.size_append, ByteArray.size_append, HG.out]; show T2.size + G.size + ([9, 32] : List UInt8).length ≤ 26000; simp only [List.length_cons, List.length_nil]; omega
            have HTN := Lib.hid (show (T2 ++ s.extract y.a y.e ++ ⟨#[9, 32]⟩).data.toList = 13 :: bld (rest s 0) 0 (L.take (k + 1)) by
              rw [ba_app, ba_app, HG.out, HT2.out, HGL.out, HSG.out]
              unfold seg
              rw [hbt]
              simp)
            clear z hbt HG HGL HSG HT2 HBtr hGs
            go_quiet (fail)
            clear hrem cb s1 s2 c1 c2 hT2s
            generalize T2 ++ s.extract y.a y.e ++ ⟨#[9, 32]⟩ = TN at *
            have HEq := Lib.hid (bel_call hEr.out (drew_ext wr nq))
            go_wp2_with fail
            go_roundw
            case rel => exact ⟨k + 1, TN, by omega, rfl, by go_num, HTN, HEq⟩
            case measure => simp [intOf]; omega
          · have hrem : (k : Int).tmod 4 = 2 := by rw [Int.tmod_eq_emod_of_nonneg (by omega)]; omega
            have cb : wr.cell? ⟨pb, 2, none⟩ = some (.string ⟨#[32, 13, 32]⟩) := HBtr.out.cell 2
            have hbt : btwL k = [32, 13, 32] := by unfold btwL; simp [z]
            have s1 : (T2 ++ s.extract y.a y.e).size ≤ 25000 := by rw [ByteArray.size_append, HG.out]; omega
            have s2 : (T2 ++ s.extract y.a y.e ++ ⟨#[32, 13, 32]⟩).size ≤ 26000 := by rw [ByteArray.size_append, ByteArray.size_append, HG.out]; show T2.size + G.size + ([32, 13, 32] : List UInt8).length ≤ 26000; simp only [List.length_cons, List.length_nil]; omega
            have HTN := Lib.hid (show (T2 ++ s.extract y.a y.e ++ ⟨#[32, 13, 32]⟩).data.toList = 13 :: bld (rest s 0) 0 (L.take (k + 1)) by
              rw [ba_app, ba_app, HG.out, HT2.out, HGL.out, HSG.out]
              unfold seg
              rw [hbt]
              simp)
            clear z hbt HG HGL HSG HT2 HBtr hGs
            go_quiet (fail)
            clear hrem cb s1 s2 c1 c2 hT2s
            generalize T2 ++ s.extract y.a y.e ++ ⟨#[32, 13, 32]⟩ = TN at *
            have HEq := Lib.hid (bel_call hEr.out (drew_ext wr nq))
            go_wp2_with fail
            go_roundw
            case rel => exact ⟨k + 1, TN, by omega, rfl, by go_num, HTN, HEq⟩
            case measure => simp [intOf]; omega
          · have hrem : (k : Int).tmod 4 = 3 := by rw [Int.tmod_eq_emod_of_nonneg (by omega)]; omega
            have cb : wr.cell? ⟨pb, 3, none⟩ = some (.string ⟨#[32, 32]⟩) := HBtr.out.cell 3
            have hbt : btwL k = [32, 32] := by unfold btwL; simp [z]
            have s1 : (T2 ++ s.extract y.a y.e).size ≤ 25000 := by rw [ByteArray.size_append, HG.out]; omega
            have s2 : (T2 ++ s.extract y.a y.e ++ ⟨#[32, 32]⟩).size ≤ 26000 := by rw [ByteArray.size_append, ByteArray.size_append, HG.out]; show T2.size + G.size + ([32, 32] : List UInt8).length ≤ 26000; simp only [List.length_cons, List.length_nil]; omega
            have HTN := Lib.hid (show (T2 ++ s.extract y.a y.e ++ ⟨#[32, 32]⟩).data.toList = 13 :: bld (rest s 0) 0 (L.take (k + 1)) by
              rw [ba_app, ba_app, HG.out, HT2.out, HGL.out, HSG.out]
              unfold seg
              rw [hbt]
              simp)
            clear z hbt HG HGL HSG HT2 HBtr hGs
            go_quiet (fail)
            clear hrem cb s1 s2 c1 c2 hT2s
            generalize T2 ++ s.extract y.a y.e ++ ⟨#[32, 32]⟩ = TN at *
            have HEq := Lib.hid (bel_call hEr.out (drew_ext wr nq))
            go_wp2_with fail
            go_roundw
            case rel => exact ⟨k + 1, TN, by omega, rfl, by go_num, HTN, HEq⟩
            case measure => simp [intOf]; omega
        · have e6 : ((y.kind : Int) == 6) = false := by simp; omega
          have HT2 := Lib.hid (show T.data.toList = 13 :: (bld (rest s 0) 0 (L.take k) ++ (if y.kind = 6 then rmkL else [])) by
            rw [hT.out, if_neg hk6, List.append_nil])
          have hT2s : T.size ≤ 23000 := by omega
          clear hT hk6
          go_upto_region 11 with fail
          obtain ⟨T2, hTT⟩ : ∃ T2, T = T2 := ⟨_, rfl⟩
          rw [hTT] at HT2 hT2s ⊢
          clear hTT hTs e6 c0
          have hm4 : k % 4 = 0 ∨ k % 4 = 1 ∨ k % 4 = 2 ∨ k % 4 = 3 := by omega
          rcases hm4 with z | z | z | z
          · have hrem : (k : Int).tmod 4 = 0 := by rw [Int.tmod_eq_emod_of_nonneg (by omega)]; omega
            have cb : wr.cell? ⟨pb, 0, none⟩ = some (.string ⟨#[32]⟩) := HBtr.out.cell 0
            have hbt : btwL k = [32] := by unfold btwL; simp [z]
            have s1 : (T2 ++ s.extract y.a y.e).size ≤ 25000 := by rw [ByteArray.size_append, HG.out]; omega
            have s2 : (T2 ++ s.extract y.a y.e ++ ⟨#[32]⟩).size ≤ 26000 := by rw [ByteArray.size_append, ByteArray.size_append, HG.out]; show T2.size + G.size + ([32] : List UInt8).length ≤ 26000; simp only [List.length_cons, List.length_nil]; omega
            have HTN := Lib.hid (show (T2 ++ s.extract y.a y.e ++ ⟨#[32]⟩).data.toList = 13 :: bld (rest s 0) 0 (L.take (k + 1)) by
              rw [ba_app, ba_app, HG.out, HT2.out, HGL.out, HSG.out]
              unfold seg
              rw [hbt]
              simp)
            clear z hbt HG HGL HSG HT2 HBtr hGs
            go_quiet (fail)
            clear hrem cb s1 s2 c1 c2 hT2s
            generalize T2 ++ s.extract y.a y.e ++ ⟨#[32]⟩ = TN at *
            have HEq := Lib.hid (bel_call hEr.out (drew_ext wr nq))
            go_wp2_with fail
            go_roundw
            case rel => exact ⟨k + 1, TN, by omega, rfl, by go_num, HTN, HEq⟩
            case measure => simp [intOf]; omega
          · have hrem : (k : Int).tmod 4 = 1 := by rw [Int.tmod_eq_emod_of_nonneg (by omega)]; omega
            have cb : wr.cell? ⟨pb, 1, none⟩ = some (.string ⟨#[9, 32]⟩) := HBtr.out.cell 1
            have hbt : btwL k = [9, 32] := by unfold btwL; simp [z]
            have s1 : (T2 ++ s.extract y.a y.e).size ≤ 25000 := by rw [ByteArray.size_append, HG.out]; omega
            have s2 : (T2 ++ s.extract y.a y.e ++ ⟨#[9, 32]⟩).size ≤ 26000 := by rw [ByteArray.size_append, ByteArray.size_append, HG.out]; show T2.size + G.size + ([9, 32] : List UInt8).length ≤ 26000; simp only [List.length_cons, List.length_nil]; omega
            have HTN := Lib.hid (show (T2 ++ s.extract y.a y.e ++ ⟨#[9, 32]⟩).data.toList = 13 :: bld (rest s 0) 0 (L.take (k + 1)) by
              rw [ba_app, ba_app, HG.out, HT2.out, HGL.out, HSG.out]
              unfold seg
              rw [hbt]
              simp)
            clear z hbt HG HGL HSG HT2 HBtr hGs
            go_quiet (fail)
            clear hrem cb s1 s2 c1 c2 hT2s
            generalize T2 ++ s.extract y.a y.e ++ ⟨#[9, 32]⟩ = TN at *
            have HEq := Lib.hid (bel_call hEr.out (drew_ext wr nq))
            go_wp2_with fail
            go_roundw
            case rel => exact ⟨k + 1, TN, by omega, rfl, by go_num, HTN, HEq⟩
            case measure => simp [intOf]; omega
          · have hrem : (k : Int).tmod 4 = 2 := by rw [Int.tmod_eq_emod_of_nonneg (by omega)]; omega
            have cb : wr.cell? ⟨pb, 2, none⟩ = some (.string ⟨#[32, 13, 32]⟩) := HBtr.out.cell 2
            have hbt : btwL k = [32, 13, 32] := by unfold btwL; simp [z]
            have s1 : (T2 ++ s.extract y.a y.e).size ≤ 25000 := by rw [ByteArray.size_append, HG.out]; omega
            have s2 : (T2 ++ s.extract y.a y.e ++ ⟨#[32, 13, 32]⟩).size ≤ 26000 := by rw [ByteArray.size_append, ByteArray.size_append, HG.out]; show T2.size + G.size + ([32, 13, 32] : List UInt8).length ≤ 26000; simp only [List.length_cons, List.length_nil]; omega
            have HTN := Lib.hid (show (T2 ++ s.extract y.a y.e ++ ⟨#[32, 13, 32]⟩).data.toList = 13 :: bld (rest s 0) 0 (L.take (k + 1)) by
              rw [ba_app, ba_app, HG.out, HT2.out, HGL.out, HSG.out]
              unfold seg
              rw [hbt]
              simp)
            clear z hbt HG HGL HSG HT2 HBtr hGs
            go_quiet (fail)
            clear hrem cb s1 s2 c1 c2 hT2s
            generalize T2 ++ s.extract y.a y.e ++ ⟨#[32, 13, 32]⟩ = TN at *
            have HEq := Lib.hid (bel_call hEr.out (drew_ext wr nq))
            go_wp2_with fail
            go_roundw
            case rel => exact ⟨k + 1, TN, by omega, rfl, by go_num, HTN, HEq⟩
            case measure => simp [intOf]; omega
          · have hrem : (k : Int).tmod 4 = 3 := by rw [Int.tmod_eq_emod_of_nonneg (by omega)]; omega
            have cb : wr.cell? ⟨pb, 3, none⟩ = some (.string ⟨#[32, 32]⟩) := HBtr.out.cell 3
            have hbt : btwL k = [32, 32] := by unfold btwL; simp [z]
            have s1 : (T2 ++ s.extract y.a y.e).size ≤ 25000 := by rw [ByteArray.size_append, HG.out]; omega
            have s2 : (T2 ++ s.extract y.a y.e ++ ⟨#[32, 32]⟩).size ≤ 26000 := by rw [ByteArray.size_append, ByteArray.size_append, HG.out]; show T2.size + G.size + ([32, 32] : List UInt8).length ≤ 26000; simp only [List.length_cons, List.length_nil]; omega
            have HTN := Lib.hid (show (T2 ++ s.extract y.a y.e ++ ⟨#[32, 32]⟩).data.toList = 13 :: bld (rest s 0) 0 (L.take (k + 1)) by
              rw [ba_app, ba_app, HG.out, HT2.out, HGL.out, HSG.out]
              unfold seg
              rw [hbt]
              simp)
            clear z hbt HG HGL HSG HT2 HBtr hGs
            go_quiet (fail)
            clear hrem cb s1 s2 c1 c2 hT2s
            generalize T2 ++ s.extract y.a y.e ++ ⟨#[32, 32]⟩ = TN at *
            have HEq := Lib.hid (bel_call hEr.out (drew_ext wr nq))
            go_wp2_with fail
            go_roundw
            case rel => exact ⟨k + 1, TN, by omega, rfl, by go_num, HTN, HEq⟩
            case measure => simp [intOf]; omega
      · have dl : decide ((k : Int) < (L.length : Int)) = false := by simp; omega
        have hTL : T.data.toList = 13 :: bld (rest s 0) 0 L := by rw [hT.out, List.take_of_length_le (by omega)]
        obtain ⟨Zs, hz, hzl, hza⟩ := HBK.out T.data.toList hTL
        rw [ba_len] at hz
        have hz2 : lxs T.size (rest T 0) 0 = (Zs, none) := hz
        have hbz := (lxs_bnd T.size (rest T 0) 0).1
        rw [hz2] at hbz
        have hrT := rest_len (show 0 ≤ T.size by omega)
        have HZB := Lib.hid (show ∀ j (h : j < Zs.length), Zs[j].a < Zs[j].e ∧ Zs[j].e ≤ 22501 from fun j h => by have := hbz Zs[j] (List.getElem_mem h); omega)
        have HLT := Lib.hid (fun w hK => lex_any T (by omega) es ed w hK Zs none hz2)
        have HZA := Lib.hid hza
        have HKr := Lib.hid (HK1.out.ext hEr.out)
        have HZL := Lib.hid hzl
        clear hz hz2 hza hT hTL hbz hrT hzl HBK HBL
        go_wp2_with fail
        refine (HLT.out _ HKr.out).mono ?_
        rintro e w3 ⟨v, u3, rfl, hown3, rfl, hx3⟩
        obtain ⟨b, cb, rfl, hlz, _, _⟩ := own_list hown3
        rw [HZL.out]
        have HOZ := Lib.hid hlz
        have HE3 := Lib.hid (bel_call (bel_call HE.out hEr.out) hx3)
        have HO3 := Lib.hid (HO.out.ext (bel_call hEr.out hx3))
        have HK3 := Lib.hid (HKr.out.ext hx3)
        clear hown3 hx3 HLT hEr HKr HE HO HBt HK1 hTs
        go_wp2_with fail
        clear dl
        go_loopw [10] (fun i wr => ∃ k : Nat, k ≤ L.length ∧ i = .int .i64 k ∧ Hid (Ext w3 wr)) (fun i _ => L.length - (intOf i).toNat)
        case atStart => exact ⟨0, Nat.zero_le _, rfl, Lib.hid (Below.refl _ _)⟩
        case round =>
          clear hk
          obtain ⟨k, hk, rfl, hEr⟩ := hrel
          by_cases hkl : k < L.length
          · have dl : decide ((k : Int) < (L.length : Int)) = true := by simp; omega
            have hkz : k < Zs.length := by rw [HZL.out]; exact hkl
            obtain ⟨x, hx⟩ : ∃ x, L[k] = x := ⟨_, rfl⟩
            obtain ⟨y, hy⟩ : ∃ y, Zs[k] = y := ⟨_, rfl⟩
            obtain ⟨g, rfl, hg⟩ := HO3.out (by omega)
            obtain ⟨g2, rfl, hg2⟩ := HOZ.out (by rw [HZL.out]; omega)
            have hLc := fun f hf => (hg.ext hEr.out).2 k hkl f hf
            have hMc := fun f hf => (hg2.ext hEr.out).2 k hkz f hf
            have hsh := HZA.out k hkl hkz
            have hxb := HBN.out k hkl
            have hyb := HZB.out k hkz
            rw [hx] at hLc hsh hxb
            rw [hy] at hMc hsh hyb
            obtain ⟨q1, q2, q3, q4, q5, q6, q7⟩ := hsh
            have c0 : wr.cell? ⟨g, k * 9, none⟩ = some (.int .i64 (x.kind : Int)) := hLc 0 (by decide)
            have c1 : wr.cell? ⟨g, k * 9 + 1, none⟩ = some (.int .i64 (x.a : Int)) := hLc 1 (by decide)
            have c2 : wr.cell? ⟨g, k * 9 + 2, none⟩ = some (.int .i64 (x.e : Int)) := hLc 2 (by decide)
            have c3 : wr.cell? ⟨g, k * 9 + 3, none⟩ = some (.string ⟨x.t.toArray⟩) := hLc 3 (by decide)
            have c4 : wr.cell? ⟨g, k * 9 + 4, none⟩ = some (.int .i64 (x.n : Int)) := hLc 4 (by decide)
            have c5 : wr.cell? ⟨g, k * 9 + 5, none⟩ = some (.int .u64 (wd x.S 0)) := hLc 5 (by decide)
            have c6 : wr.cell? ⟨g, k * 9 + 6, none⟩ = some (.int .u64 (wd x.S 1)) := hLc 6 (by decide)
            have c7 : wr.cell? ⟨g, k * 9 + 7, none⟩ = some (.int .u64 (wd x.S 2)) := hLc 7 (by decide)
            have c8 : wr.cell? ⟨g, k * 9 + 8, none⟩ = some (.int .u64 (wd x.S 3)) := hLc 8 (by decide)
            have HX7 := Lib.hid (show Ext wr (wr.alloc (.cells (lcs (x.kind : Int) (x.a : Int) (x.e : Int) ⟨x.t.toArray⟩ (x.n : Int) (wd x.S 0) (wd x.S 1) (wd x.S 2) (wd x.S 3)) 32)) from by (repeat' (first | (with_reducible exact Below.refl _ _) | (with_reducible assumption) | (with_reducible refine below_drewN ?_ _) | (with_reducible refine Below.alloc ?_ ?_ _) | (with_reducible refine Below.drew ?_) | (with_reducible refine Below.setCell ?_ ?_ _) | (with_reducible refine Below.trans ?_ (Below.mono (by with_reducible assumption) ?_)) | go_size)))
            have HB7 := Lib.hid (Blk.new wr (lcs (x.kind : Int) (x.a : Int) (x.e : Int) ⟨x.t.toArray⟩ (x.n : Int) (wd x.S 0) (wd x.S 1) (wd x.S 2) (wd x.S 3)) 32)
            have HM7 := Lib.hid (show ∀ f, f < 9 → (wr.alloc (.cells (lcs (x.kind : Int) (x.a : Int) (x.e : Int) ⟨x.t.toArray⟩ (x.n : Int) (wd x.S 0) (wd x.S 1) (wd x.S 2) (wd x.S 3)) 32)).cell? ⟨g2, k * 9 + f, none⟩ = (lcl y)[f]? from fun f hf => by rw [HX7.out.cell (p := ⟨g2, k * 9 + f, none⟩) (hg2.ext hEr.out).1]; exact hMc f hf)
            have HSH := Lib.hid (And.intro q1 (And.intro q2 (And.intro q3 q4)))
            clear hLc hMc hx hy hg hg2 q1 q2 q3 q4
            go_upto_region 19 with fail
            generalize hp7 : wr.heap.size = p7 at HB7 ⊢
            clear hp7
            generalize wr.alloc (.cells (lcs (x.kind : Int) (x.a : Int) (x.e : Int) ⟨x.t.toArray⟩ (x.n : Int) (wd x.S 0) (wd x.S 1) (wd x.S 2) (wd x.S 3)) 32) = w7 at HX7 HB7 HM7 ⊢
            clear c0 c1 c2 c3 c4 c5 c6 c7 c8
            have m0 : w7.cell? ⟨g2, k * 9, none⟩ = some (.int .i64 (x.kind : Int)) := by rw [← HSH.out.1]; exact HM7.out 0 (by decide)
            have m1 : w7.cell? ⟨g2, k * 9 + 1, none⟩ = some (.int .i64 (y.a : Int)) := HM7.out 1 (by decide)
            have m2 : w7.cell? ⟨g2, k * 9 + 2, none⟩ = some (.int .i64 (y.e : Int)) := HM7.out 2 (by decide)
            have m3 : w7.cell? ⟨g2, k * 9 + 3, none⟩ = some (.string ⟨x.t.toArray⟩) := by rw [← HSH.out.2.1]; exact HM7.out 3 (by decide)
            have m4 : w7.cell? ⟨g2, k * 9 + 4, none⟩ = some (.int .i64 (x.n : Int)) := by rw [← HSH.out.2.2.1]; exact HM7.out 4 (by decide)
            have m5 : w7.cell? ⟨g2, k * 9 + 5, none⟩ = some (.int .u64 (wd x.S 0)) := by rw [← HSH.out.2.2.2]; exact HM7.out 5 (by decide)
            have m6 : w7.cell? ⟨g2, k * 9 + 6, none⟩ = some (.int .u64 (wd x.S 1)) := by rw [← HSH.out.2.2.2]; exact HM7.out 6 (by decide)
            have m7 : w7.cell? ⟨g2, k * 9 + 7, none⟩ = some (.int .u64 (wd x.S 2)) := by rw [← HSH.out.2.2.2]; exact HM7.out 7 (by decide)
            have m8 : w7.cell? ⟨g2, k * 9 + 8, none⟩ = some (.int .u64 (wd x.S 3)) := by rw [← HSH.out.2.2.2]; exact HM7.out 8 (by decide)
            have HX8 := Lib.hid (show Ext w7 (w7.alloc (.cells (lcs (x.kind : Int) (y.a : Int) (y.e : Int) ⟨x.t.toArray⟩ (x.n : Int) (wd x.S 0) (wd x.S 1) (wd x.S 2) (wd x.S 3)) 32)) from by (repeat' (first | (with_reducible exact Below.refl _ _) | (with_reducible assumption) | (with_reducible refine below_drewN ?_ _) | (with_reducible refine Below.alloc ?_ ?_ _) | (with_reducible refine Below.drew ?_) | (with_reducible refine Below.setCell ?_ ?_ _) | (with_reducible refine Below.trans ?_ (Below.mono (by with_reducible assumption) ?_)) | go_size)))
            have HB8 := Lib.hid (Blk.new w7 (lcs (x.kind : Int) (y.a : Int) (y.e : Int) ⟨x.t.toArray⟩ (x.n : Int) (wd x.S 0) (wd x.S 1) (wd x.S 2) (wd x.S 3)) 32)
            have i2 : (k : Int) < (Zs.length : Int) := by omega
            have HZi := Lib.hid HZL.out
            go_upto_region 20 with fail
            generalize hp8 : w7.heap.size = p8 at HB8 ⊢
            clear hp8
            generalize w7.alloc (.cells (lcs (x.kind : Int) (y.a : Int) (y.e : Int) ⟨x.t.toArray⟩ (x.n : Int) (wd x.S 0) (wd x.S 1) (wd x.S 2) (wd x.S 3)) 32) = w8 at HX8 HB8 ⊢
            clear m0 m1 m2 m3 m4 m5 m6 m7 m8 HM7 HSH
            have hb7 := HB7.out.ext HX8.out
            have hb8 := HB8.out
            have b0 := hb7.cell 0
            have b1 := hb7.cell 1
            have b2 := hb7.cell 2
            have b3 := hb7.cell 3
            have b4 := hb7.cell 4
            have b5 := hb7.cell 5
            have b6 := hb7.cell 6
            have b7 := hb7.cell 7
            have b8 := hb7.cell 8
            have n0 := hb8.cell 0
            have n1 := hb8.cell 1
            have n2 := hb8.cell 2
            have n3 := hb8.cell 3
            have n4 := hb8.cell 4
            have n5 := hb8.cell 5
            have n6 := hb8.cell 6
            have n7 := hb8.cell 7
            have n8 := hb8.cell 8
            have hse : ∀ w, (Op.equalIn 10000 30 (sv x.S) (sv x.S)).run Tryd.prog w = .ok true w := fun w => by rw [set_eq]; simp
            have hne : (((y.e : Int) - (y.a : Int)) != ((x.e : Int) - (x.a : Int))) = false := by simp; omega
            have j1 : x.e ≤ 1500 := by omega
            have j2 : x.a ≤ 1500 := by omega
            have j3 : y.e ≤ 22501 := by omega
            have j4 : y.a ≤ 22501 := by omega
            have HEz := Lib.hid (bel_call (bel_call hEr.out HX7.out) HX8.out)
            clear hb7 hb8 q5 q6 q7 hxb hyb HX7 HX8 HB7 HB8 hEr
            go_wp2_with fail
            clear b0 b1 b2 b3 b4 b5 b6 b7 b8 n0 n1 n2 n3 n4 n5 n6 n7 n8 hse hne
            go_roundw
            case rel => exact ⟨k + 1, by omega, by go_num, HEz⟩
            case measure => simp [intOf]; omega
          · have dl : decide ((k : Int) < (L.length : Int)) = false := by simp; omega
            go_wp2_with fail
            refine (lwakes_any es ed _ (HK3.out.ext hEr.out)).mono ?_
            rintro e w4 ⟨rfl, hx4⟩
            have HX := Lib.hid (bel_call (bel_call HE3.out hEr.out) hx4)
            clear hx4
            go_wp2_with fail
            go_ret
            exact ⟨rfl, HX.out⟩
end Go.Proofs.YtnecafokkhhhhaaDoor
namespace Go.Proofs.YtnecafokkhhhhaaDoor
open Go Go.ChangeShapes Go.WideShapes Go.ChangeAt Go.RowKit
theorem lexBlanks_met (os : Os) (args : Array Value) : laidMetH Tryd.prog Rows.lexBlanksRow.laid ((World.doorLaid Tryd.prog 400 os).forCall (fun _ _ => 0) ⟨#[], args, []⟩).memory :=
  laidMetH_of_parts (laidMet_of_run' 8 (by kernel_rfl) (by kernel_rfl)) (by kernel_rfl)
set_option maxRecDepth 100000 in
theorem lexBlanks_contract {H : Type} {enc : TypeId × Value → H} (F : Stop.Interp) (W : World) (base : Nat) (args : Array Value) (ds gs : List (DataW H)) (before : List MemPlace)
    (hval0 : ∀ (j : Nat) t v, Tryd.f4.params[j]? = some t → args[j]? = some v → Value.okWide Tryd.prog W .any base t v)
    (hW : DataW.Whole enc Tryd.prog Tryd.f4.params.toList (OpenSpec.ofChange Rows.lexBlanksSpec).vars false W args.toList ds gs before)
    (hsz : (DataW.weightsEach Tryd.prog (Tryd.f4.params.toList ++ (OpenSpec.ofChange Rows.lexBlanksSpec).bare.plain.varTypes Tryd.prog) (ds ++ gs)).all (· ≤ reachBytes) = true)
    (hL : laidMetH Tryd.prog Rows.lexBlanksRow.laid W) (hsh : W.ShapedOpen Tryd.prog) :
    Calls Tryd.prog 4 args W fun e W' => ∃ v, e = .returned v ∧ ((OpenSpec.ofChange Rows.lexBlanksSpec).at F).post enc Tryd.prog Tryd.f4 false true false false W args v W' := by
  have hval : ∀ (j : Nat) t v, Tryd.f4.params[j]? = some t → args[j]? = some v → Value.okWide Tryd.prog W .any base t v := hval0
  have hW' := hW
  obtain ⟨p, q, hA0, hV, rfl, hfz, hnd⟩ := hW
  have hA : DataW.TrodAll enc Tryd.prog W 0 (fun _ => true) true Tryd.f4.params.toList args.toList ds p := hA0
  rw [Tryd.params4] at hA hval
  obtain ⟨v0, d0, rfl, rfl, h0⟩ := trodAll_one hA
  obtain ⟨rfl, rfl⟩ := trodVars_none hV
  have hlt : ∀ x ∈ p, x.block < W.heap.size := fun x hx => hW'.lt x (by simp [hx])
  have hwt : ∀ n ∈ d0.weights Tryd.prog 9, n ≤ reachBytes := fun n hn => by simpa using List.all_eq_true.1 hsz n (DataW.weights_mem_each (j := 0) rfl rfl n hn)
  obtain ⟨hT, es, ed, hK⟩ := known_door hL (by kernel_rfl) hsh (List.mem_of_getElem? (i := 1) (by kernel_rfl)) (List.mem_of_getElem? (i := 6) (by kernel_rfl)) (List.mem_of_getElem? (i := 7) (by kernel_rfl)) (List.mem_of_getElem? (i := 4) (by kernel_rfl))
  obtain ⟨s, rfl⟩ := okWide_string Tryd.underlying9 (hval 0 _ v0 rfl rfl)
  refine (lblanks_any s es ed W hK).mono fun e W' ⟨he, hB⟩ => ?_
  subst he
  have e1 : ((OpenSpec.ofChange Rows.lexBlanksSpec).at F).fn H ([d0] ++ []) = { results := [.lit (.bool true)], args := [d0] } := rfl
  refine ⟨_, rfl, _, _, _, [], p, [], hW', ?_, ?_, ?_, hB.frame _, fun h => by cases h⟩
  · rw [e1]; exact trodAll_mk1 (shut_bool Tryd.underlying4 true)
  · rw [e1]; exact trodAll_mk1 (Below.trod laidOut (by kernel_rfl) (of_decide_eq_true (by kernel_rfl)) h0 hB hlt)
  · rw [e1]; rfl
set_option maxRecDepth 100000 in
theorem lexBlanks_lifted (os : Os) (started : os.Started) (H : Type) (enc : TypeId × Value → H) (F : Stop.Interp) :
    ReturnsInHanded {} Tryd.checked os 4 .any ((OpenSpec.ofChange Rows.lexBlanksSpec).preRow enc Tryd.prog Tryd.f4 Rows.lexBlanksRow.domain false Rows.lexBlanksRow.laid) (((OpenSpec.ofChange Rows.lexBlanksSpec).at F).post enc Tryd.prog Tryd.f4 false true false false) := by
  have hx : DataW.whole enc Tryd.prog ((World.doorLaid Tryd.prog 400 os).forCall (fun _ _ => 0) ⟨#[], #[.string ⟨#[]⟩], []⟩).memory Tryd.f4.params.toList (OpenSpec.ofChange Rows.lexBlanksSpec).vars false (#[.string ⟨#[]⟩] : Array Value).toList 8 = some ([.lit (.string [])], [], []) := by kernel_rfl
  refine returnsInHanded_of_row (C := Tryd.checked) (s := OpenSpec.ofChange Rows.lexBlanksSpec) own started (by kernel_rfl) Tryd.func4
    (witness_row_atRef (enc := enc) (C := Tryd.checked) false (World.doorLaid Tryd.prog 400 os) #[.string ⟨#[]⟩] rfl (by kernel_rfl) (by kernel_rfl) (by kernel_rfl)
      (OpenSpec.preRow_of_cond 8 hx (by kernel_rfl) (fun k hk => by cases hk) (by kernel_rfl) (lexBlanks_met os _))) ?_
  intro W base args ds gs before hval hW _ _ hsz hL hsh _
  exact lexBlanks_contract F W base args ds gs before hval hW hsz hL hsh
theorem lexBlanks_row : Rows.LexBlanksSaid :=
  OpenClaim.holds_of_cond 4 Tryd.f4 rfl rfl rfl rfl rfl rfl rfl ⟨rfl, rfl, rfl, rfl, rfl⟩ rfl rfl rfl rfl rfl (by kernel_rfl) Tryd.func4 (by kernel_rfl)
    (of_decide_eq_true (by kernel_rfl)) (by unfold Func.isWrapper; rw [if_neg (of_decide_eq_false (by kernel_rfl))]; exact ⟨rfl, rfl⟩)
    (fun os started H enc _ F => by rw [OpenClaim.pre_eq_preRow]; exact lexBlanks_lifted os started H enc F)
theorem lexBlanks_holds : Rows.LexBlanksCardSaid :=
  Claim7.holds_tied_plain_at .later [] _ _ Rows.lexBlanksCard.stood.harness Rows.lexBlanksCard.stood.looks
    lexBlanks_row (fun _ h => by cases h) (by kernel_rfl) (fun _ h => by cases h) lexBlanks_row_tie rfl ⟨rfl, rfl⟩ (by kernel_rfl) rfl
    (fun f fn hf hfn => by
      obtain rfl : f = 4 := Option.some.inj ((show Tryd.prog.funcNamed Rows.lexBlanksRow.func = some 4 by kernel_rfl).symm.trans hf) |>.symm
      obtain rfl : fn = Tryd.f4 := (Option.some.inj (Tryd.func4.symm.trans hfn)).symm
      exact ⟨by kernel_rfl, fun j t ht => by
        rw [Tryd.params4] at ht
        have hm : t ∈ [9] := by simpa using Array.mem_of_getElem? ht
        have hall : ([9].all fun u => !Tryd.prog.wantsStandIn u) = true := by kernel_rfl
        exact (show Tryd.prog.wantsStandIn t = false by simpa using List.all_eq_true.1 hall t hm)⟩)
    (by kernel_rfl)
#print axioms lexBlanks_holds
end Go.Proofs.YtnecafokkhhhhaaDoor
