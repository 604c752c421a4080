/- What lies between lexemes; what each lexeme's own bytes are. -/
import Derived.Test.YtnecafokkhhhhaaDoorLs
namespace Go.Proofs.YtnecafokkhhhhaaDoor
open Go Go.RowKit
/-- Blanks, and perhaps a remark behind them that goes to the end. -/
def psd : List UInt8 → Bool
  | [] => true
  | c :: t => if c.toNat = 35 then t.all (fun d => rmk d.toNat) else blnk c.toNat && psd t
theorem one_pass (c : UInt8) (t : List UInt8) (k : Nat) (z : Lxm) (h : one (c :: t) k = .inr z) (hz : z.kind = 0) :
    (blnk c.toNat = true ∧ z = ⟨0, k, k + 1, [], 0, 0#256⟩) ∨ (c.toNat = 35 ∧ z = ⟨0, k, k + run rmk (c :: t), [], 0, 0#256⟩) := by
  have h : oneR c.toNat (c :: t) k = .inr z := h
  unfold oneR at h
  split at h
  · rename_i hb
    cases h
    exact .inl ⟨hb, rfl⟩
  · split at h
    · rename_i hc
      cases h
      exact .inr ⟨hc, rfl⟩
    · split at h
      · cases h; cases hz
      · split at h
        · split at h
          · cases h
          · cases h; cases hz
        · split at h
          · cases h; cases hz
          · split at h
            · split at h
              · cases h
              · cases h; cases hz
            · split at h
              · split at h
                · cases h
                · cases h; cases hz
              · split at h
                · cases h; cases hz
                · split at h
                  · cases h
                  · cases h; cases hz
theorem lxs_nil (g k : Nat) : lxs g [] k = ([], none) := by cases g <;> simp [lxs]
/-- Behind a remark there is a line's end, or nothing. -/
theorem lxs_rmk (g : Nat) (l : List UInt8) (k : Nat) (hg : l.length - run rmk l ≤ g) :
    (l.drop (run rmk l) = [] ∧ lxs g (l.drop (run rmk l)) k = ([], none)) ∨ (lxs g (l.drop (run rmk l)) k).1.head? = some ⟨6, k, k + 1, [], 0, 0#256⟩ := by
  rcases run_end rmk l with e | ⟨d, hd, hp⟩
  · left
    have h0 : l.drop (run rmk l) = [] := List.drop_eq_nil_of_le (by omega)
    rw [h0, lxs_nil]
    exact ⟨rfl, rfl⟩
  · right
    have hlt : run rmk l < l.length := by
      rcases Nat.lt_or_ge (run rmk l) l.length with h | h
      · exact h
      · rw [List.getElem?_eq_none h] at hd; cases hd
    have hd2 : d.toNat = 10 := by unfold rmk at hp; simpa using hp
    have e : l.drop (run rmk l) = d :: l.drop (run rmk l + 1) := by
      rw [List.getElem?_eq_getElem hlt] at hd
      cases hd
      exact List.drop_eq_getElem_cons hlt
    obtain ⟨g, rfl⟩ : ∃ x, g = x + 1 := ⟨g - 1, by omega⟩
    rw [e, lxs_step g _ _ (by simp)]
    have o : one (d :: l.drop (run rmk l + 1)) k = .inr ⟨6, k, k + 1, [], 0, 0#256⟩ := by
      show oneR d.toNat _ k = _
      unfold oneR
      rw [hd2, if_neg (by decide), if_neg (by decide), if_pos rfl]
    rw [o]
    unfold lxN
    simp
theorem lxs_next : ∀ (g : Nat) (l : List UInt8) (k : Nat) (y : Lxm) (Ys : List Lxm) (r : Option (Bool × Nat)), l.length ≤ g → lxs g l k = (y :: Ys, r) →
    k ≤ y.a ∧ psd (l.take (y.a - k)) = true ∧ one (l.drop (y.a - k)) y.a = .inr y ∧ y.kind ≠ 0 ∧ lxs g (l.drop (y.e - k)) y.e = (Ys, r)
  | 0, l, k, y, Ys, r, _, h => by simp [lxs] at h
  | g + 1, l, k, y, Ys, r, hg, h => by
    by_cases hl : l = []
    · subst hl; simp [lxs] at h
    · rw [lxs_step g l k hl] at h
      cases ho : one l k with
      | inl x => rw [ho] at h; simp [lxN] at h
      | inr z =>
        rw [ho] at h
        have hok := one_lt ho
        have z1 := hok.lo
        have z2 := hok.hi
        have z3 := hok.a
        have hdl : (l.drop (z.e - k)).length ≤ g := by rw [List.length_drop]; omega
        unfold lxN at h
        simp only at h
        by_cases hk : z.kind = 0
        · rw [if_pos hk] at h
          obtain ⟨b1, b2, b3, b4, b5⟩ := lxs_next g _ _ y Ys r hdl h
          have hb := (lxs_bnd g (l.drop (z.e - k)) z.e).1 y (by rw [h]; simp)
          refine ⟨by omega, ?_, ?_, b4, ?_⟩
          · cases l with
            | nil => exact absurd rfl hl
            | cons c t =>
              rcases one_pass c t k z ho hk with ⟨hc, rfl⟩ | ⟨hc, rfl⟩
              · simp only [Nat.add_sub_cancel_left, List.drop_succ_cons, List.drop_zero] at b1 b2
                rw [show y.a - k = (y.a - (k + 1)) + 1 by omega, List.take_succ_cons, psd, if_neg (by intro e; rw [e] at hc; cases hc), hc, b2]
                rfl
              · simp only [Nat.add_sub_cancel_left] at h hdl z1
                have hgg : (c :: t).length - run rmk (c :: t) ≤ g := by rw [List.length_drop] at hdl; exact hdl
                rcases lxs_rmk g (c :: t) (k + run rmk (c :: t)) hgg with ⟨_, e⟩ | e
                · rw [h] at e; cases e
                · rw [h] at e
                  simp only [List.head?_cons, Option.some.injEq] at e
                  subst e
                  simp only [Nat.add_sub_cancel_left]
                  rw [run_take]
                  have hct : rmk c.toNat = true := by rw [hc]; rfl
                  rw [List.takeWhile_cons_of_pos (p := fun c : UInt8 => rmk c.toNat) hct, psd, if_pos hc, List.all_eq_true]
                  intro d hd
                  exact mem_tw (fun c => rmk c.toNat) t d hd
          · rw [List.drop_drop, show z.e - k + (y.a - z.e) = y.a - k by omega] at b3
            exact b3
          · rw [List.drop_drop, show z.e - k + (y.e - z.e) = y.e - k by omega] at b5
            rw [← b5]
            exact lxs_fuel _ _ _ _ (by rw [List.length_drop]; omega) (by rw [List.length_drop]; omega)
        · rw [if_neg hk] at h
          simp only [Prod.mk.injEq, List.cons.injEq] at h
          obtain ⟨⟨rfl, h2⟩, h3⟩ := h
          rw [z3, Nat.sub_self, List.take_zero, List.drop_zero]
          refine ⟨Nat.le_refl _, rfl, ho, hk, ?_⟩
          rw [← h2, ← h3]
          exact lxs_fuel _ _ _ _ (by rw [List.length_drop]; omega) hdl
theorem lxs_rest : ∀ (g : Nat) (l : List UInt8) (k : Nat), l.length ≤ g → lxs g l k = ([], none) → psd l = true
  | 0, l, k, hg, _ => by
    have : l = [] := List.length_eq_zero_iff.1 (by omega)
    subst this; rfl
  | g + 1, l, k, hg, h => by
    by_cases hl : l = []
    · subst hl; rfl
    · rw [lxs_step g l k hl] at h
      cases ho : one l k with
      | inl x => rw [ho] at h; simp [lxN] at h
      | inr z =>
        rw [ho] at h
        have hok := one_lt ho
        have z1 := hok.lo
        have hdl : (l.drop (z.e - k)).length ≤ g := by rw [List.length_drop]; omega
        unfold lxN at h
        simp only at h
        by_cases hk : z.kind = 0
        · rw [if_pos hk] at h
          have ih := lxs_rest g _ _ hdl h
          cases l with
          | nil => exact absurd rfl hl
          | cons c t =>
            rcases one_pass c t k z ho hk with ⟨hc, rfl⟩ | ⟨hc, rfl⟩
            · simp only [Nat.add_sub_cancel_left, List.drop_succ_cons, List.drop_zero] at ih
              rw [psd, if_neg (by intro e; rw [e] at hc; cases hc), hc, ih]
              rfl
            · simp only [Nat.add_sub_cancel_left] at h hdl
              have hgg : (c :: t).length - run rmk (c :: t) ≤ g := by rw [List.length_drop] at hdl; exact hdl
              rcases lxs_rmk g (c :: t) (k + run rmk (c :: t)) hgg with ⟨e, _⟩ | e
              · have hct : rmk c.toNat = true := by rw [hc]; rfl
                have hall : ∀ d ∈ t, rmk d.toNat = true := by
                  intro d hd
                  have h1 : (c :: t).takeWhile (fun c => rmk c.toNat) = c :: t := by
                    have := List.take_append_drop (run rmk (c :: t)) (c :: t)
                    rw [e, run_take, List.append_nil] at this
                    exact this
                  exact mem_tw (fun c => rmk c.toNat) (c :: t) d (by rw [h1]; simp [hd])
                rw [psd, if_pos hc, List.all_eq_true]
                exact hall
              · rw [h] at e; cases e
        · rw [if_neg hk] at h
          simp at h
theorem lxs_many : ∀ (g : Nat) (l : List UInt8) (k : Nat), (lxs g l k).1.length ≤ l.length
  | 0, l, k => by simp [lxs]
  | g + 1, l, k => by
    by_cases hl : l = []
    · subst hl; simp [lxs]
    · rw [lxs_step g l k hl]
      cases ho : one l k with
      | inl x => simp [lxN]
      | inr y =>
        have h1 := (one_lt ho).lo
        have h2 := (one_lt ho).hi
        have ih := lxs_many g (l.drop (y.e - k)) y.e
        rw [List.length_drop] at ih
        unfold lxN
        simp only
        split
        · omega
        · rw [List.length_cons]; omega
/-- A lexeme's own bytes. -/
def LxOk (l : List UInt8) (k : Nat) (y : Lxm) : Prop :=
  ((y.kind = 1 ∨ y.kind = 5) ∧ y.t = l.take (y.e - k)) ∨ (y.kind = 6 ∧ y.e = k + 1 ∧ l[0]? = some 10) ∨ (y.kind = 3 ∧ k + 2 ≤ y.e ∧ l[0]? = some 34 ∧ l[y.e - 1 - k]? = some 34) ∨
    (y.kind = 4 ∧ ((y.e = k + 1 ∧ l[0]? = some 46) ∨ (l[0]? = some 91 ∧ l[y.e - 1 - k]? = some 93))) ∨ (y.kind = 2 ∧ ∃ c, l[0]? = some c ∧ dgt c.toNat = true)
theorem u8_of {c : UInt8} {n : Nat} (h : c.toNat = n) (hn : n < 256) : c = UInt8.ofNat n := by
  apply UInt8.toNat_inj.1
  rw [h, UInt8.toNat_ofNat']
  omega
theorem one_own (l : List UInt8) (k : Nat) (y : Lxm) (h : one l k = .inr y) (hk : y.kind ≠ 0) : LxOk l k y := by
  cases l with
  | nil => cases h
  | cons c t =>
    have h : oneR c.toNat (c :: t) k = .inr y := h
    unfold oneR at h
    split at h
    · cases h; exact absurd rfl hk
    · split at h
      · cases h; exact absurd rfl hk
      · split at h
        · rename_i hc
          cases h
          exact .inr (.inl ⟨rfl, rfl, by rw [u8_of hc (by decide)]; rfl⟩)
        · split at h
          · split at h
            · cases h
            · cases h
              exact .inl ⟨.inl rfl, by simp only [Nat.add_sub_cancel_left]⟩
          · split at h
            · rename_i hd
              cases h
              exact .inr (.inr (.inr (.inr ⟨rfl, c, rfl, hd⟩)))
            · split at h
              · rename_i hc
                split at h
                · cases h
                · rename_i A m hq
                  cases h
                  have h2 := quq_last hq
                  have h3 : k + 2 ≤ m := by
                    unfold quq at hq
                    split at hq
                    · have := quo_last _ _ _ _ _ _ hq
                      omega
                    · cases hq
                  exact .inr (.inr (.inl ⟨rfl, h3, by rw [u8_of hc (by decide)]; rfl, h2.2⟩))
              · split at h
                · rename_i hc
                  split at h
                  · cases h
                  · rename_i S m hq
                    cases h
                    have h2 := (cls_last _).1 _ _ _ _ _ hq
                    exact .inr (.inr (.inr (.inl ⟨rfl, .inr ⟨by rw [u8_of hc (by decide)]; rfl, h2.2⟩⟩)))
                · split at h
                  · rename_i hc
                    cases h
                    exact .inr (.inr (.inr (.inl ⟨rfl, .inl ⟨rfl, by rw [u8_of hc (by decide)]; rfl⟩⟩)))
                  · split at h
                    · cases h
                    · cases h
                      exact .inl ⟨.inr rfl, by simp only [Nat.add_sub_cancel_left]⟩
end Go.Proofs.YtnecafokkhhhhaaDoor
