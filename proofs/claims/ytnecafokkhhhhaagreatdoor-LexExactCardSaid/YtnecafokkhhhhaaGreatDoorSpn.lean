/- Spans of a rising list of numbers: plain arithmetic. -/
import Derived.Test.YtnecafokkhhhhaaGreatDoorMB
namespace Go.Proofs.YtnecafokkhhhhaaGreatDoor
open Go Go.RowKit
theorem nil_or_snoc {α : Type} (l : List α) : l = [] ∨ ∃ A b, l = A ++ [b] := by
  rcases List.eq_nil_or_concat l with h | ⟨A, b, h⟩
  · exact .inl h
  · exact .inr ⟨A, b, by simpa using h⟩
/-- One number more: it makes the last span longer, or it is a span of its own. -/
def sstep (S : List (Nat × Nat)) (b : Nat) : List (Nat × Nat) :=
  match S.getLast? with
  | some p => if p.2 + 1 = b then S.dropLast ++ [(p.1, b)] else S ++ [(b, b)]
  | none => [(b, b)]
theorem sstep_nil (b : Nat) : sstep [] b = [(b, b)] := rfl
theorem sstep_grow (A : List (Nat × Nat)) (lo hi b : Nat) (h : hi + 1 = b) : sstep (A ++ [(lo, hi)]) b = A ++ [(lo, b)] := by
  simp [sstep, h]
theorem sstep_new (A : List (Nat × Nat)) (lo hi b : Nat) (h : ¬ hi + 1 = b) : sstep (A ++ [(lo, hi)]) b = A ++ [(lo, hi)] ++ [(b, b)] := by
  simp [sstep, h]
def spansN (L : List Nat) : List (Nat × Nat) := L.foldl sstep []
theorem spansN_snoc (L : List Nat) (b : Nat) : spansN (L ++ [b]) = sstep (spansN L) b := by simp [spansN]
theorem spansN_take (L : List Nat) (k : Nat) (h : k < L.length) : spansN (L.take (k + 1)) = sstep (spansN (L.take k)) L[k] := by
  rw [List.take_succ_eq_append_getElem h, spansN_snoc]
/-- What spans are of a rising list. -/
structure SpInv (L : List Nat) (S : List (Nat × Nat)) : Prop where
  ok : ∀ p ∈ S, p.1 ≤ p.2
  gap : S.Pairwise fun p q => p.2 + 2 ≤ q.1
  mem : ∀ i, i ∈ L ↔ ∃ p ∈ S, p.1 ≤ i ∧ i ≤ p.2
  tot : (S.map fun p => p.2 + 1 - p.1).sum = L.length
  emp : S = [] ↔ L = []
  top : ∀ p, S.getLast? = some p → ∀ q ∈ S, q.2 ≤ p.2
theorem SpInv.step {L : List Nat} {S : List (Nat × Nat)} (h : SpInv L S) (b : Nat) (hb : ∀ x ∈ L, x < b) : SpInv (L ++ [b]) (sstep S b) := by
  rcases nil_or_snoc S with rfl | ⟨A, ⟨lo, hi⟩, rfl⟩
  · have hL := h.emp.1 rfl
    subst hL
    rw [sstep_nil]
    refine ⟨by simp, by simp, fun i => ?_, by simp, by simp, by simp⟩
    simp; omega
  · have hm : hi < b := by
      have := (h.mem hi).2 ⟨(lo, hi), by simp, h.ok _ (by simp), Nat.le_refl _⟩
      exact hb _ this
    have hlo := h.ok (lo, hi) (by simp)
    simp only at hlo
    have hg := List.pairwise_append.1 h.gap
    have hmem := h.mem
    have htot := h.tot
    by_cases e : hi + 1 = b
    · rw [sstep_grow _ _ _ _ e]
      refine ⟨?_, ?_, ?_, ?_, ?_, ?_⟩
      · intro p hp
        rcases List.mem_append.1 hp with hp | hp
        · exact h.ok p (by simp [hp])
        · simp at hp; subst hp; simp; omega
      · rw [List.pairwise_append]
        refine ⟨hg.1, by simp, fun p hp q hq => ?_⟩
        simp at hq; subst hq
        exact hg.2.2 p hp (lo, hi) (by simp)
      · intro i
        rw [List.mem_append, hmem]
        constructor
        · rintro (⟨p, hp, h1, h2⟩ | hi')
          · rcases List.mem_append.1 hp with hp | hp
            · exact ⟨p, by simp [hp], h1, h2⟩
            · simp at hp; subst hp
              exact ⟨(lo, b), by simp, h1, by simp only at *; omega⟩
          · simp at hi'; subst hi'
            exact ⟨(lo, i), by simp, by simp only; omega, Nat.le_refl _⟩
        · rintro ⟨p, hp, h1, h2⟩
          rcases List.mem_append.1 hp with hp | hp
          · exact .inl ⟨p, by simp [hp], h1, h2⟩
          · simp at hp; subst hp
            simp only at h1 h2
            by_cases hib : i = b
            · right; simp [hib]
            · exact .inl ⟨(lo, hi), by simp, h1, by simp only; omega⟩
      · simp at htot ⊢; omega
      · simp
      · intro p hp q hq
        simp at hp; subst hp
        rcases List.mem_append.1 hq with hq | hq
        · have := hg.2.2 q hq (lo, hi) (by simp)
          simp only at *; omega
        · simp at hq; subst hq; simp
    · rw [sstep_new _ _ _ _ e]
      refine ⟨?_, ?_, ?_, ?_, ?_, ?_⟩
      · intro p hp
        rcases List.mem_append.1 hp with hp | hp
        · exact h.ok p hp
        · simp at hp; subst hp; simp
      · rw [List.pairwise_append]
        refine ⟨h.gap, by simp, fun p hp q hq => ?_⟩
        simp at hq; subst hq
        have := h.top (lo, hi) (by simp) p hp
        simp only at *; omega
      · intro i
        rw [List.mem_append, hmem]
        constructor
        · rintro (⟨p, hp, h1, h2⟩ | hi')
          · exact ⟨p, List.mem_append_left _ hp, h1, h2⟩
          · simp at hi'; subst hi'
            exact ⟨(i, i), by simp, Nat.le_refl _, Nat.le_refl _⟩
        · rintro ⟨p, hp, h1, h2⟩
          rcases List.mem_append.1 hp with hp | hp
          · exact .inl ⟨p, hp, h1, h2⟩
          · simp at hp; subst hp
            simp only at h1 h2
            right; simp; omega
      · simp at htot ⊢; omega
      · simp
      · intro p hp q hq
        simp at hp; subst hp
        rcases List.mem_append.1 hq with hq | hq
        · have := h.top (lo, hi) (by simp) q hq
          simp only at *; omega
        · simp at hq; subst hq; simp
theorem spansN_inv : ∀ (n : Nat) (L : List Nat), L.length = n → L.Pairwise (· < ·) → SpInv L (spansN L)
  | 0, L, hn, _ => by
    have := List.length_eq_zero_iff.1 hn
    subst this
    exact ⟨by simp [spansN], by simp [spansN], by simp [spansN], by simp [spansN], by simp [spansN], by simp [spansN]⟩
  | n + 1, L, hn, hp => by
    rcases nil_or_snoc L with rfl | ⟨A, b, rfl⟩
    · simp at hn
    · have h := List.pairwise_append.1 hp
      rw [spansN_snoc]
      exact (spansN_inv n A (by simpa using hn) h.1).step b fun x hx => h.2.2 x hx b (by simp)
theorem lstN_rise (s : BitVec 256) (k : Nat) : (lstN s k).Pairwise (· < ·) := List.Pairwise.filter _ List.pairwise_lt_range
/-- A set's spans. -/
def spn (s : BitVec 256) : List (Nat × Nat) := spansN (lstN s 4)
theorem spn_inv (s : BitVec 256) : SpInv (lstN s 4) (spn s) := spansN_inv _ _ rfl (lstN_rise s 4)
theorem spansN_len : ∀ L : List Nat, (spansN L).length ≤ L.length := by
  intro L
  have key : ∀ (L : List Nat) (S : List (Nat × Nat)), (L.foldl sstep S).length ≤ S.length + L.length := by
    intro L
    induction L with
    | nil => intro S; simp
    | cons b L ih =>
      intro S
      have h1 := ih (sstep S b)
      have h2 : (sstep S b).length ≤ S.length + 1 := by
        rcases nil_or_snoc S with rfl | ⟨A, ⟨lo, hi⟩, rfl⟩
        · simp [sstep_nil]
        · by_cases e : hi + 1 = b
          · rw [sstep_grow _ _ _ _ e]; simp
          · rw [sstep_new _ _ _ _ e]; simp
      simp only [List.foldl_cons, List.length_cons]; omega
  simpa [spansN] using key L []
/-- Their cells. -/
def spc (S : List (Nat × Nat)) : List Value := S.flatMap fun p => [nb p.1, nb p.2]
theorem spc_len (S : List (Nat × Nat)) : (spc S).length = S.length * 2 := by
  induction S with
  | nil => rfl
  | cons x l ih => simp only [spc, List.flatMap_cons, List.length_append, List.length_cons, List.length_nil] at *; omega
theorem spc_append (A B : List (Nat × Nat)) : spc (A ++ B) = spc A ++ spc B := by simp [spc]
theorem spc_at (S : List (Nat × Nat)) : ∀ i, i < S.length → (spc S)[i * 2]? = some (nb (S.getD i (0, 0)).1) ∧ (spc S)[i * 2 + 1]? = some (nb (S.getD i (0, 0)).2) := by
  induction S with
  | nil => intro i hi; simp at hi
  | cons x l ih =>
    intro i hi
    cases i with
    | zero => exact ⟨rfl, rfl⟩
    | succ i =>
      have h := ih i (by simpa using hi)
      have e : (i + 1) * 2 = i * 2 + 1 + 1 := by omega
      rw [e]
      exact h
theorem spc_last (A : List (Nat × Nat)) (lo hi : Nat) : (spc (A ++ [(lo, hi)]))[A.length * 2]? = some (nb lo) ∧ (spc (A ++ [(lo, hi)]))[A.length * 2 + 1]? = some (nb hi) := by
  have h := spc_at (A ++ [(lo, hi)]) A.length (by simp)
  simpa [List.getD_eq_getElem?_getD] using h
theorem spc_set (A : List (Nat × Nat)) (lo hi b : Nat) : (spc (A ++ [(lo, hi)])).set (A.length * 2 + 1) (nb b) = spc (A ++ [(lo, b)]) := by
  rw [spc_append, spc_append, List.set_append_right _ _ (by rw [spc_len]; omega), spc_len]
  have : A.length * 2 + 1 - A.length * 2 = 1 := by omega
  rw [this]; rfl
end Go.Proofs.YtnecafokkhhhhaaGreatDoor
