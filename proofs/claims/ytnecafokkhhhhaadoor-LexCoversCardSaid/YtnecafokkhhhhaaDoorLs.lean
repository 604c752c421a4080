/- Lexemes moved; fuel; blanks and a remark ahead. -/
import Derived.Test.YtnecafokkhhhhaaDoorLl
namespace Go.Proofs.YtnecafokkhhhhaaDoor
open Go Go.RowKit
def mvl (d : Nat) (y : Lxm) : Lxm := ⟨y.kind, y.a + d, y.e + d, y.t, y.n, y.S⟩
def shx (d : Nat) : Sum (Bool × Nat) Lxm → Sum (Bool × Nat) Lxm
  | .inl (b, q) => .inl (b, q + d)
  | .inr y => .inr (mvl d y)
def shr (d : Nat) (r : Option (Bool × Nat)) : Option (Bool × Nat) := r.map fun x => (x.1, x.2 + d)
theorem add3 (k n d : Nat) : k + d + n = k + n + d := by omega
theorem oneR_shf (c : Nat) (l : List UInt8) (k d : Nat) : oneR c l (k + d) = shx d (oneR c l k) := by
  unfold oneR
  rw [quq_shf, (cls_shf unq d _).1]
  split
  · simp only [shx, mvl, add3]
  · split
    · simp only [shx, mvl, add3]
    · split
      · simp only [shx, mvl, add3]
      · split
        · split
          · rfl
          · simp only [shx, mvl, add3]
        · split
          · simp only [shx, mvl, add3]
          · split
            · cases quq unq l k with
              | inl q => rfl
              | inr x => rfl
            · split
              · cases cls unq (l.length + 1) 0 l k with
                | inl q => rfl
                | inr x => rfl
              · split
                · simp only [shx, mvl, add3]
                · split
                  · rfl
                  · simp only [shx, mvl, add3]
theorem one_shf (l : List UInt8) (k d : Nat) : one l (k + d) = shx d (one l k) := by
  cases l with
  | nil => rfl
  | cons c t => exact oneR_shf _ _ _ _
theorem lxs_shf : ∀ (g : Nat) (l : List UInt8) (k d : Nat), lxs g l (k + d) = ((lxs g l k).1.map (mvl d), shr d (lxs g l k).2)
  | 0, _, _, _ => rfl
  | g + 1, l, k, d => by
    by_cases h : l = []
    · subst h; simp [lxs, shr]
    · rw [lxs_step g l _ h, lxs_step g l _ h, one_shf]
      cases one l k with
      | inl x => rfl
      | inr y =>
        have e : y.e + d - (k + d) = y.e - k := by omega
        simp only [shx, lxN, mvl]
        rw [e, lxs_shf g _ y.e d]
        split <;> simp [mvl]
theorem one_lt {l : List UInt8} {k : Nat} {y : Lxm} (h : one l k = .inr y) : OneOk l k y := by
  cases l with
  | nil => cases h
  | cons c t => exact (one_ok c t k y h).1
theorem lxs_fuel : ∀ (g g' : Nat) (l : List UInt8) (k : Nat), l.length ≤ g → l.length ≤ g' → lxs g l k = lxs g' l k
  | 0, g', l, k, h, h' => by
    have : l = [] := List.length_eq_zero_iff.1 (by omega)
    subst this
    cases g' <;> simp [lxs]
  | g + 1, 0, l, k, h, h' => by
    have : l = [] := List.length_eq_zero_iff.1 (by omega)
    subst this
    simp [lxs]
  | g + 1, g' + 1, l, k, h, h' => by
    by_cases hl : l = []
    · subst hl; simp [lxs]
    · rw [lxs_step g l k hl, lxs_step g' l k hl]
      cases ho : one l k with
      | inl x => rfl
      | inr y =>
        have hok := one_lt ho
        have h1 := hok.lo
        have hd : (l.drop (y.e - k)).length ≤ l.length - 1 := by rw [List.length_drop]; omega
        unfold lxN
        simp only
        rw [lxs_fuel g g' _ _ (by omega) (by omega)]
def aheadL : List UInt8 := [32, 9, 35, 32, 120, 10]
theorem lex_ahead (l : List UInt8) : lxs (l.length + 6) (aheadL ++ l) 0 = (⟨6, 5, 6, [], 0, 0#256⟩ :: (lxs l.length l 0).1.map (mvl 6), shr 6 (lxs l.length l 0).2) := by
  have r1 : run rmk (35 :: 32 :: 120 :: 10 :: l) = 3 := by
    rw [run_cons_true _ _ _ (by decide), run_cons_true _ _ _ (by decide), run_cons_true _ _ _ (by decide), run_cons_false _ _ _ (by decide)]
  have o1 : one (32 :: 9 :: 35 :: 32 :: 120 :: 10 :: l) 0 = .inr ⟨0, 0, 1, [], 0, 0#256⟩ := rfl
  have o2 : one (9 :: 35 :: 32 :: 120 :: 10 :: l) 1 = .inr ⟨0, 1, 2, [], 0, 0#256⟩ := rfl
  have o3 : one (35 :: 32 :: 120 :: 10 :: l) 2 = .inr ⟨0, 2, 5, [], 0, 0#256⟩ := by
    show oneR 35 _ 2 = _
    unfold oneR
    rw [if_neg (by decide), if_pos rfl, r1]
  have o4 : one (10 :: l) 5 = .inr ⟨6, 5, 6, [], 0, 0#256⟩ := rfl
  have hs := lxs_shf (l.length + 2) l 0 6
  rw [lxs_fuel (l.length + 2) l.length l 0 (by omega) (Nat.le_refl _)] at hs
  show lxs (l.length + 5 + 1) (32 :: 9 :: 35 :: 32 :: 120 :: 10 :: l) 0 = _
  rw [lxs_step _ _ _ (by simp), o1]
  show lxs (l.length + 4 + 1) (9 :: 35 :: 32 :: 120 :: 10 :: l) 1 = _
  rw [lxs_step _ _ _ (by simp), o2]
  show lxs (l.length + 3 + 1) (35 :: 32 :: 120 :: 10 :: l) 2 = _
  rw [lxs_step _ _ _ (by simp), o3]
  show lxs (l.length + 2 + 1) (10 :: l) 5 = _
  rw [lxs_step _ _ _ (by simp), o4]
  show (_ :: (lxs (l.length + 2) l 6).1, (lxs (l.length + 2) l 6).2) = _
  rw [show (6 : Nat) = 0 + 6 from rfl, hs]
theorem one_err {l : List UInt8} {k : Nat} {b : Bool} {q : Nat} (h : one l k = .inl (b, q)) : q ≤ k + l.length := by
  cases l with
  | nil => cases h; omega
  | cons c t =>
    have h : oneR c.toNat (c :: t) k = .inl (b, q) := h
    unfold oneR at h
    split at h
    · cases h
    · split at h
      · cases h
      · split at h
        · cases h
        · split at h
          · split at h
            · cases h; omega
            · cases h
          · split at h
            · cases h
            · split at h
              · split at h
                · rename_i d hq
                  cases h
                  exact ((quq_len (c :: t) k).1 _ hq).2
                · cases h
              · split at h
                · split at h
                  · rename_i x hq
                    cases h
                    exact (((cls_len _).1 _ _ _).1 b q hq).2
                  · cases h
                · split at h
                  · cases h
                  · split at h
                    · cases h; omega
                    · cases h
theorem lxs_bnd : ∀ (g : Nat) (l : List UInt8) (k : Nat), (∀ y ∈ (lxs g l k).1, k ≤ y.a ∧ y.a < y.e ∧ y.e ≤ k + l.length) ∧ ∀ b q, (lxs g l k).2 = some (b, q) → q ≤ k + l.length
  | 0, _, _ => ⟨fun y h => by simp [lxs] at h, fun b q h => by simp [lxs] at h⟩
  | g + 1, l, k => by
    by_cases hl : l = []
    · subst hl; exact ⟨fun y h => by simp [lxs] at h, fun b q h => by simp [lxs] at h⟩
    · rw [lxs_step g l k hl]
      cases ho : one l k with
      | inl x =>
        refine ⟨fun y h => by simp [lxN] at h, fun b q h => ?_⟩
        simp only [lxN, Option.some.injEq] at h
        subst h
        exact one_err ho
      | inr y =>
        have hok := one_lt ho
        have h1 := hok.lo
        have h2 := hok.hi
        have h3 := hok.a
        obtain ⟨i1, i2⟩ := lxs_bnd g (l.drop (y.e - k)) y.e
        rw [List.length_drop] at i1 i2
        unfold lxN
        simp only
        split
        · exact ⟨fun z hz => by have := i1 z hz; omega, fun b q h => by have := i2 b q h; omega⟩
        · refine ⟨fun z hz => ?_, fun b q h => by have := i2 b q h; omega⟩
          rcases List.mem_cons.1 hz with rfl | hz
          · omega
          · have := i1 z hz; omega
end Go.Proofs.YtnecafokkhhhhaaDoor
