/- Where lexemes end. -/
import Derived.Test.YtnecafokkhhhhaaDoorLx
import Derived.Test.YtnecafokkhhhhaaDoorBnd
namespace Go.Proofs.YtnecafokkhhhhaaDoor
open Go Go.RowKit
/-- Byte n - 1, or byte n, is ASCII; or n is the end. -/
def Cut (l : List UInt8) (n : Nat) : Prop := n = l.length ∨ (∃ c, l[n]? = some c ∧ c.toNat < 128) ∨ (∃ c, l[n - 1]? = some c ∧ c.toNat < 128)
theorem pfx_get {l p : List UInt8} (h : Lib.hasPrefix l p = true) (j : Nat) (hj : j < p.length) : l[j]? = p[j]? := by
  obtain ⟨t, rfl⟩ := List.isPrefixOf_iff_prefix.1 h
  rw [List.getElem?_append_left hj]
theorem quo_last : ∀ (n : Nat) (l A : List UInt8) (k : Nat) (B : List UInt8) (m : Nat), quo unq n l A k = .inr (B, m) → k < m ∧ l[m - 1 - k]? = some 34
  | 0, _, _, _, _, _, h => by simp [quo] at h
  | n + 1, l, A, k, B, m, h => by
    unfold quo at h
    split at h
    · rename_i hp
      cases h
      exact ⟨by omega, by rw [show k + 1 - 1 - k = 0 by omega]; exact pfx_get hp 0 (by decide)⟩
    · split at h
      · cases h
      · rename_i b d hc
        obtain ⟨h1, h2⟩ := quo_last n (l.drop d) _ (k + d) B m h
        rw [List.getElem?_drop] at h2
        exact ⟨by omega, by rw [← h2]; congr 1; omega⟩
theorem quq_last {l : List UInt8} {k : Nat} {A : List UInt8} {m : Nat} (h : quq unq l k = .inr (A, m)) : k < m ∧ l[m - 1 - k]? = some 34 := by
  unfold quq at h
  split at h
  · obtain ⟨h1, h2⟩ := quo_last _ _ _ _ _ _ h
    rw [List.getElem?_drop] at h2
    exact ⟨by omega, by rw [← h2]; congr 1; omega⟩
  · cases h
theorem cls_last : ∀ n, (∀ o l k S m, cls unq n o l k = .inr (S, m) → k < m ∧ l[m - 1 - k]? = some 93) ∧ (∀ o T l k S m, tls unq n o T l k = .inr (S, m) → k < m ∧ l[m - 1 - k]? = some 93)
  | 0 => ⟨fun o l k S m h => by simp [cls] at h, fun o T l k S m h => by simp [tls] at h⟩
  | n + 1 => by
    obtain ⟨h1, h2⟩ := cls_last n
    have hl := cls_len n
    refine ⟨fun o l k S m h => ?_, fun o T l k S m h => ?_⟩
    · unfold cls at h
      split at h
      · cases h
      · split at h
        · cases h
        · split at h
          · split at h
            · cases h
            · rename_i T d _
              obtain ⟨a, b⟩ := h2 _ _ _ _ _ _ h
              rw [List.getElem?_drop] at b
              exact ⟨by omega, by rw [← b]; congr 1; omega⟩
          · split at h
            · cases h
            · rename_i T d _
              obtain ⟨a, b⟩ := h2 _ _ _ _ _ _ h
              rw [List.getElem?_drop] at b
              exact ⟨by omega, by rw [← b]; congr 1; omega⟩
    · unfold tls at h
      split at h
      · rename_i hp
        cases h
        exact ⟨by omega, by rw [show k + 1 - 1 - k = 0 by omega]; exact pfx_get hp 0 (by decide)⟩
      · split at h
        · split at h
          · cases h
          · rename_i U d hc
            have h0 := ((hl.1 o (l.drop 2) (k + 2)).2 U d hc).1
            obtain ⟨a, b⟩ := h2 _ _ _ _ _ _ h
            rw [List.getElem?_drop] at b
            exact ⟨by omega, by rw [← b]; congr 1; omega⟩
        · split at h
          · split at h
            · cases h
            · rename_i U d hc
              have h0 := ((hl.1 o (l.drop 2) (k + 2)).2 U d hc).1
              obtain ⟨a, b⟩ := h2 _ _ _ _ _ _ h
              rw [List.getElem?_drop] at b
              exact ⟨by omega, by rw [← b]; congr 1; omega⟩
          · cases h
theorem run_end (P : Nat → Bool) : ∀ l : List UInt8, run P l = l.length ∨ ∃ c, l[run P l]? = some c ∧ P c.toNat = false
  | [] => .inl rfl
  | c :: t => by
    cases h : P c.toNat with
    | false => rw [run_cons_false P c t h]; exact .inr ⟨c, rfl, h⟩
    | true =>
      rw [run_cons_true P c t h]
      rcases run_end P t with e | ⟨d, hd, hp⟩
      · left; simp [e]
      · right; exact ⟨d, by simpa using hd, hp⟩
theorem run_last (P : Nat → Bool) : ∀ l : List UInt8, 0 < run P l → ∃ c, l[run P l - 1]? = some c ∧ P c.toNat = true
  | [], h => by simp [run] at h
  | c :: t, h => by
    cases hc : P c.toNat with
    | false => rw [run_cons_false P c t hc] at h; omega
    | true =>
      rw [run_cons_true P c t hc]
      cases hr : run P t with
      | zero => exact ⟨c, by simp, hc⟩
      | succ j =>
        obtain ⟨d, hd, hp⟩ := run_last P t (by omega)
        rw [hr] at hd
        exact ⟨d, by simpa using hd, hp⟩
theorem run_pos (P : Nat → Bool) (c : UInt8) (t : List UInt8) (h : P c.toNat = true) : 0 < run P (c :: t) := by rw [run_cons_true P c t h]; omega
/-- What is told of a lexeme that 'one' reads. -/
structure OneOk (l : List UInt8) (k : Nat) (y : Lxm) : Prop where
  a : y.a = k
  lo : k < y.e
  hi : y.e ≤ k + l.length
  cut : Cut l (y.e - k)
  kd : y.kind ≤ 6
  n : y.n ≤ 1073741824
theorem nmc_low (c : Nat) (h : nmc c = true) : c < 128 := by unfold nmc ltr dgt at h; simp at h; omega
theorem dgt_low (c : Nat) (h : dgt c = true) : c < 128 := by unfold dgt at h; simp at h; omega
theorem one_ok (c : UInt8) (t : List UInt8) (k : Nat) (y : Lxm) (h : oneR c.toNat (c :: t) k = .inr y) : OneOk (c :: t) k y ∧ c.toNat < 128 := by
  have hc : c.toNat < 128 := by
    by_cases hc : 128 ≤ c.toNat
    · rw [oneR_high _ _ _ hc] at h; cases h
    · omega
  refine ⟨?_, hc⟩
  have h1 : ∀ n, n = 1 → Cut (c :: t) n := fun n e => by subst e; exact .inr (.inr ⟨c, rfl, hc⟩)
  unfold oneR at h
  split at h
  · cases h; exact ⟨rfl, by simp, by simp, h1 _ (by simp), by simp, by simp⟩
  · split at h
    · rename_i h35
      cases h
      have hp : 0 < run rmk (c :: t) := run_pos _ _ _ (by unfold rmk; rw [h35]; rfl)
      refine ⟨rfl, by simp only; omega, by have := run_le rmk (c :: t); simp only; omega, ?_, by simp, by simp⟩
      simp only [Nat.add_sub_cancel_left]
      rcases run_end rmk (c :: t) with e | ⟨d, hd, hq⟩
      · exact .inl e
      · exact .inr (.inl ⟨d, hd, by unfold rmk at hq; simp at hq; omega⟩)
    · split at h
      · cases h; exact ⟨rfl, by simp, by simp, h1 _ (by simp), by simp, by simp⟩
      · split at h
        · rename_i hl
          split at h
          · cases h
          · cases h
            have hp : 0 < run nmc (c :: t) := run_pos _ _ _ (by unfold nmc; rw [hl]; rfl)
            refine ⟨rfl, by simp only; omega, by have := run_le nmc (c :: t); simp only; omega, ?_, by simp, by simp⟩
            simp only [Nat.add_sub_cancel_left]
            obtain ⟨d, hd, hq⟩ := run_last nmc _ hp
            exact .inr (.inr ⟨d, hd, nmc_low _ hq⟩)
        · split at h
          · rename_i hd
            cases h
            have hp : 0 < run dgt (c :: t) := run_pos _ _ _ hd
            refine ⟨rfl, by simp only; omega, by have := run_le dgt (c :: t); simp only; omega, ?_, by simp, ?_⟩
            · simp only [Nat.add_sub_cancel_left]
              obtain ⟨d, hd, hq⟩ := run_last dgt _ hp
              exact .inr (.inr ⟨d, hd, dgt_low _ hq⟩)
            · exact num_le _ _
          · split at h
            · split at h
              · cases h
              · rename_i A m hq
                cases h
                have h2 := quq_last hq
                have h3 := ((quq_len (c :: t) k).2 A m hq)
                refine ⟨rfl, h2.1, h3.2, .inr (.inr ⟨34, ?_, by decide⟩), by simp, by simp⟩
                simp only
                rw [← h2.2]; congr 1; omega
            · split at h
              · split at h
                · cases h
                · rename_i S m hq
                  cases h
                  have h2 := (cls_last _).1 _ _ _ _ _ hq
                  have h3 := ((cls_len _).1 _ _ _).2 S m hq
                  refine ⟨rfl, h2.1, h3.2, .inr (.inr ⟨93, ?_, by decide⟩), by simp, by simp⟩
                  simp only
                  rw [← h2.2]; congr 1; omega
              · split at h
                · cases h; exact ⟨rfl, by simp, by simp, h1 _ (by simp), by simp, by simp⟩
                · split at h
                  · cases h
                  · rename_i hm
                    cases h
                    simp only [List.drop_succ_cons, List.drop_zero] at hm ⊢
                    have hm2 : mkl c.toNat t = 1 ∨ (mkl c.toNat t = 2 ∧ Lib.hasPrefix t [62] = true) := by
                      unfold mkl at hm ⊢
                      split
                      · split
                        · rename_i hq; exact .inr ⟨rfl, hq⟩
                        · exact .inl rfl
                      · split
                        · exact .inl rfl
                        · rename_i a b
                          rw [if_neg a, if_neg b] at hm
                          exact absurd rfl hm
                    rcases hm2 with e | ⟨e, hq⟩
                    · rw [e]
                      exact ⟨rfl, by simp, by simp, h1 _ (by simp), by simp, by simp⟩
                    · rw [e]
                      have hl := pfx_len hq
                      simp at hl
                      refine ⟨rfl, by simp, by simp; omega, .inr (.inr ⟨62, ?_, by decide⟩), by simp, by simp⟩
                      have := pfx_get hq 0 (by decide)
                      simpa using this
end Go.Proofs.YtnecafokkhhhhaaDoor
