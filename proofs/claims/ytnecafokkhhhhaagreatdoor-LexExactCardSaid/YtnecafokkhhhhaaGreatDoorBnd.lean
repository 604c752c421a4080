/- How far a class, a quoted text can reach: not beyond the text. -/
import Derived.Test.YtnecafokkhhhhaaGreatDoorQuo
import Derived.Test.YtnecafokkhhhhaaGreatDoorWhr
namespace Go.Proofs.YtnecafokkhhhhaaGreatDoor
open Go Go.RowKit
theorem cutq_len (l : List UInt8) (h : (Lib.cut l [58, 93]).2.2 = true) : (Lib.cut l [58, 93]).1.length + 2 ≤ l.length := by
  unfold Lib.cut at h ⊢
  split at h
  · rename_i h0
    rw [if_pos h0]
    rcases Lib.indexB_cases ⟨l.toArray⟩ ⟨#[58, 93]⟩ with e | ⟨i, e, hle⟩
    · have e' : Lib.index l [58, 93] = -1 := by simpa [Lib.indexB] using e
      omega
    · have e' : Lib.index l [58, 93] = i := by simpa [Lib.indexB] using e
      have hs : (⟨l.toArray⟩ : ByteArray).size = l.length := by show l.toArray.size = l.length; simp
      have h2 : (⟨#[58, 93]⟩ : ByteArray).size = 2 := rfl
      rw [hs, h2] at hle
      simp only [e', Int.toNat_natCast, List.length_take]
      omega
  · cases h
theorem pfx_len {l p : List UInt8} (h : Lib.hasPrefix l p = true) : p.length ≤ l.length := (List.isPrefixOf_iff_prefix.1 h).length_le
theorem nmq_len (l : List UInt8) : (∀ d, nmq l = .inl d → d = 0) ∧ ∀ S m, nmq l = .inr (S, m) → 0 < m ∧ m ≤ l.length := by
  unfold nmq
  constructor
  · intro d h
    split at h
    · cases h; rfl
    · split at h
      · cases h
      · cases h; rfl
  · intro S m h
    split at h
    · cases h
    · split at h
      · rename_i hc
        have := cutq_len _ hc
        cases h
        rw [List.length_drop] at this
        omega
      · cases h
theorem spq_len (l : List UInt8) : (∀ d, spq unq l = .inl d → d ≤ l.length) ∧ ∀ S m, spq unq l = .inr (S, m) → 0 < m ∧ m ≤ l.length := by
  unfold spq
  cases h1 : chr unq marks.data.toList l with
  | none => exact ⟨fun d h => (by cases h; omega), fun S m h => (by cases h)⟩
  | some x =>
    obtain ⟨b, n⟩ := x
    have hb := chr_lt unq_len unq_byte h1
    simp only
    by_cases hq : Lib.hasPrefix (l.drop n) [45, 45] = true ∨ Lib.hasPrefix (l.drop n) [45] = false
    · rw [if_pos hq]
      exact ⟨fun d h => (by cases h), fun S m h => (by cases h; exact hb.2)⟩
    · rw [if_neg hq]
      have hp : Lib.hasPrefix (l.drop n) [45] = true := by
        cases hx : Lib.hasPrefix (l.drop n) [45] with
        | true => rfl
        | false => exact absurd (.inr hx) hq
      have hl := pfx_len hp
      rw [List.length_drop] at hl
      simp only [List.length_cons, List.length_nil] at hl
      cases h2 : chr unq marks.data.toList (l.drop (n + 1)) with
      | none => exact ⟨fun d h => (by cases h; omega), fun S m h => (by cases h)⟩
      | some y =>
        obtain ⟨c, k⟩ := y
        have hc := chr_lt unq_len unq_byte h2
        rw [List.length_drop] at hc
        simp only
        by_cases hcb : c < b
        · rw [if_pos hcb]
          exact ⟨fun d h => (by cases h; omega), fun S m h => (by cases h)⟩
        · rw [if_neg hcb]
          exact ⟨fun d h => (by cases h), fun S m h => (by cases h; omega)⟩
theorem itm_len (l : List UInt8) : (∀ d, itm unq l = .inl d → d ≤ l.length) ∧ ∀ S m, itm unq l = .inr (S, m) → 0 < m ∧ m ≤ l.length := by
  unfold itm
  split
  · exact ⟨fun d h => (by rw [(nmq_len l).1 d h]; omega), (nmq_len l).2⟩
  · exact spq_len l
theorem ims_len : ∀ (n : Nat) (l : List UInt8) (S : BitVec 256) (k : Nat), (∀ d, ims unq n l S k = .inl d → d ≤ k + l.length) ∧ ∀ T m, ims unq n l S k = .inr (T, m) → k ≤ m ∧ m ≤ k + l.length
  | 0, l, S, k => ⟨fun d h => by unfold ims at h; cases h; omega, fun T m h => by unfold ims at h; cases h⟩
  | n + 1, l, S, k => by
    unfold ims
    split
    · exact ⟨fun d h => (by cases h), fun T m h => (by cases h; omega)⟩
    · cases hi : itm unq l with
      | inl d => exact ⟨fun d' h => (by cases h; have := (itm_len l).1 _ hi; omega), fun T m h => (by cases h)⟩
      | inr x =>
        obtain ⟨T, m⟩ := x
        have hm := (itm_len l).2 _ _ hi
        have ih := ims_len n (l.drop m) (S ||| T) (k + m)
        rw [List.length_drop] at ih
        exact ⟨fun d h => (by have := ih.1 d h; omega), fun T' m' h => (by have := ih.2 T' m' h; omega)⟩
theorem cls_len : ∀ n, (∀ o l k, (∀ b q, cls unq n o l k = .inl (b, q) → k ≤ q ∧ q ≤ k + l.length) ∧ ∀ S m, cls unq n o l k = .inr (S, m) → k < m ∧ m ≤ k + l.length) ∧ (∀ o S l k, (∀ b q, tls unq n o S l k = .inl (b, q) → k ≤ q ∧ q ≤ k + l.length) ∧ ∀ T m, tls unq n o S l k = .inr (T, m) → k < m ∧ m ≤ k + l.length)
  | 0 => ⟨fun o l k => ⟨fun b q h => (by rw [cls] at h; cases h; omega), fun S m h => (by rw [cls] at h; cases h)⟩, fun o S l k => ⟨fun b q h => (by rw [tls] at h; cases h; omega), fun T m h => (by rw [tls] at h; cases h)⟩⟩
  | n + 1 => by
    obtain ⟨ih1, ih2⟩ := cls_len n
    constructor
    · intro o l k
      rw [cls]
      split
      · exact ⟨fun b q h => (by cases h; omega), fun S m h => (by cases h)⟩
      · rename_i h0
        have hl := pfx_len (l := l) (p := [91]) (by simpa using h0)
        simp only [List.length_cons, List.length_nil] at hl
        split
        · exact ⟨fun b q h => (by cases h; omega), fun S m h => (by cases h)⟩
        · split
          · rename_i h1
            have hl2 := pfx_len h1
            rw [List.length_drop] at hl2
            simp only [List.length_cons, List.length_nil] at hl2
            have hi := ims_len (l.length + 1) (l.drop 2) 0#256 0
            rw [List.length_drop] at hi
            split
            · rename_i d hd
              have := hi.1 d hd
              exact ⟨fun b q h => (by cases h; omega), fun S m h => (by cases h)⟩
            · rename_i S m hm
              have hm2 := hi.2 S m hm
              have h3 := ih2 (o + 1) (~~~S) (l.drop (2 + m)) (k + 2 + m)
              rw [List.length_drop] at h3
              exact ⟨fun b q h => (by have := h3.1 b q h; omega), fun T q h => (by have := h3.2 T q h; omega)⟩
          · have hi := ims_len (l.length + 1) (l.drop 1) 0#256 0
            rw [List.length_drop] at hi
            split
            · rename_i d hd
              have := hi.1 d hd
              exact ⟨fun b q h => (by cases h; omega), fun S m h => (by cases h)⟩
            · rename_i S m hm
              have hm2 := hi.2 S m hm
              have h3 := ih2 (o + 1) S (l.drop (1 + m)) (k + 1 + m)
              rw [List.length_drop] at h3
              exact ⟨fun b q h => (by have := h3.1 b q h; omega), fun T q h => (by have := h3.2 T q h; omega)⟩
    · intro o S l k
      rw [tls]
      have two : ∀ (p : List UInt8), p.length = 2 → Lib.hasPrefix l p = true → ∀ (S' : BitVec 256 → BitVec 256), (∀ b q, (match cls unq n o (l.drop 2) (k + 2) with
          | .inl x => .inl x
          | .inr (T, m) => tls unq n o (S' T) (l.drop (m - k)) m : Sum (Bool × Nat) (BitVec 256 × Nat)) = .inl (b, q) → k ≤ q ∧ q ≤ k + l.length) ∧ ∀ T m, (match cls unq n o (l.drop 2) (k + 2) with
          | .inl x => .inl x
          | .inr (T, m) => tls unq n o (S' T) (l.drop (m - k)) m : Sum (Bool × Nat) (BitVec 256 × Nat)) = .inr (T, m) → k < m ∧ m ≤ k + l.length := by
        intro p hp hq S'
        have hl := pfx_len hq
        have hc := ih1 o (l.drop 2) (k + 2)
        rw [List.length_drop] at hc
        split
        · rename_i x hx
          obtain ⟨b0, q0⟩ := x
          have := hc.1 b0 q0 hx
          exact ⟨fun b q h => (by cases h; omega), fun T m h => (by cases h)⟩
        · rename_i T m hm
          have := hc.2 T m hm
          have h3 := ih2 o (S' T) (l.drop (m - k)) m
          rw [List.length_drop] at h3
          exact ⟨fun b q h => (by have := h3.1 b q h; omega), fun T q h => (by have := h3.2 T q h; omega)⟩
      split
      · rename_i h0
        have hl := pfx_len h0
        simp only [List.length_cons, List.length_nil] at hl
        exact ⟨fun b q h => (by cases h), fun T m h => (by cases h; omega)⟩
      · split
        · rename_i h1
          exact two [45, 45] rfl h1 (fun T => S &&& ~~~T)
        · split
          · rename_i h1
            exact two [38, 38] rfl h1 (fun T => S &&& T)
          · exact ⟨fun b q h => (by cases h; omega), fun S m h => (by cases h)⟩
theorem quo_len : ∀ (n : Nat) (l A : List UInt8) (k : Nat), (∀ d, quo unq n l A k = .inl d → k ≤ d ∧ d ≤ k + l.length) ∧ ∀ T m, quo unq n l A k = .inr (T, m) → k < m ∧ m ≤ k + l.length
  | 0, l, A, k => ⟨fun d h => by unfold quo at h; cases h; omega, fun T m h => by unfold quo at h; cases h⟩
  | n + 1, l, A, k => by
    unfold quo
    split
    · rename_i h0
      have hl := pfx_len h0
      simp only [List.length_cons, List.length_nil] at hl
      exact ⟨fun d h => (by cases h), fun T m h => (by cases h; omega)⟩
    · cases hi : chr unq [10] l with
      | none => exact ⟨fun d' h => (by cases h; omega), fun T m h => (by cases h)⟩
      | some x =>
        obtain ⟨b, m⟩ := x
        have hm := chr_lt unq_len unq_byte hi
        have ih := quo_len n (l.drop m) (A ++ [UInt8.ofNat b]) (k + m)
        rw [List.length_drop] at ih
        exact ⟨fun d h => (by have := ih.1 d h; omega), fun T' m' h => (by have := ih.2 T' m' h; omega)⟩
theorem quq_len (l : List UInt8) (k : Nat) : (∀ d, quq unq l k = .inl d → k ≤ d ∧ d ≤ k + l.length) ∧ ∀ T m, quq unq l k = .inr (T, m) → k < m ∧ m ≤ k + l.length := by
  unfold quq
  split
  · rename_i h0
    have hl := pfx_len h0
    simp only [List.length_cons, List.length_nil] at hl
    have h := quo_len (l.length + 1) (l.drop 1) [] (k + 1)
    rw [List.length_drop] at h
    exact ⟨fun d h' => (by have := h.1 d h'; omega), fun T' m' h' => (by have := h.2 T' m' h'; omega)⟩
  · exact ⟨fun d h => (by cases h; omega), fun T m h => (by cases h)⟩
theorem prs_len (s : ByteArray) (a : Int) : (∀ b q, prs s a = .inl (b, q) → q ≤ s.size) ∧ ∀ S m, prs s a = .inr (S, m) → pos s a < m ∧ m ≤ s.size := by
  have h := (cls_len ((rest s (pos s a)).length + 1)).1 0 (rest s (pos s a)) (pos s a)
  have hp := pos_le s a
  have hr := rest_len hp
  unfold prs
  generalize pos s a = i at *
  exact ⟨fun b q hx => (by have := h.1 b q hx; omega), fun S m hx => (by have := h.2 S m hx; omega)⟩
theorem uqs_len (s : ByteArray) (a : Int) : (∀ q, uqs s a = .inl q → q ≤ s.size) ∧ ∀ S m, uqs s a = .inr (S, m) → pos s a < m ∧ m ≤ s.size := by
  have h := quq_len (rest s (pos s a)) (pos s a)
  have hp := pos_le s a
  have hr := rest_len hp
  unfold uqs
  generalize pos s a = i at *
  exact ⟨fun q hx => (by have := h.1 q hx; omega), fun S m hx => (by have := h.2 S m hx; omega)⟩
end Go.Proofs.YtnecafokkhhhhaaGreatDoor
