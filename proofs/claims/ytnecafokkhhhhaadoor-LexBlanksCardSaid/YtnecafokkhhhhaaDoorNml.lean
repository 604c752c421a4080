/- A named set, byte count by byte count. -/
import Derived.Test.YtnecafokkhhhhaaDoorCls
namespace Go.Proofs.YtnecafokkhhhhaaDoor
open Go Go.RowKit
theorem nmd_some {t : List UInt8} {S : BitVec 256} (h : nmd t = some S) : 3 ≤ t.length ∧ t.length ≤ 6 ∧ (58 : UInt8) ∉ t := by
  unfold nmd at h
  by_cases e0 : t = [100, 105, 103, 105, 116]
  · subst e0; exact ⟨by decide, by decide, by decide⟩
  rw [if_neg e0] at h
  by_cases e1 : t = [108, 111, 119, 101, 114]
  · subst e1; exact ⟨by decide, by decide, by decide⟩
  rw [if_neg e1] at h
  by_cases e2 : t = [117, 112, 112, 101, 114]
  · subst e2; exact ⟨by decide, by decide, by decide⟩
  rw [if_neg e2] at h
  by_cases e3 : t = [97, 108, 112, 104, 97]
  · subst e3; exact ⟨by decide, by decide, by decide⟩
  rw [if_neg e3] at h
  by_cases e4 : t = [97, 108, 110, 117, 109]
  · subst e4; exact ⟨by decide, by decide, by decide⟩
  rw [if_neg e4] at h
  by_cases e5 : t = [119, 111, 114, 100]
  · subst e5; exact ⟨by decide, by decide, by decide⟩
  rw [if_neg e5] at h
  by_cases e6 : t = [120, 100, 105, 103, 105, 116]
  · subst e6; exact ⟨by decide, by decide, by decide⟩
  rw [if_neg e6] at h
  by_cases e7 : t = [98, 108, 97, 110, 107]
  · subst e7; exact ⟨by decide, by decide, by decide⟩
  rw [if_neg e7] at h
  by_cases e8 : t = [115, 112, 97, 99, 101]
  · subst e8; exact ⟨by decide, by decide, by decide⟩
  rw [if_neg e8] at h
  by_cases e9 : t = [112, 117, 110, 99, 116]
  · subst e9; exact ⟨by decide, by decide, by decide⟩
  rw [if_neg e9] at h
  by_cases e10 : t = [112, 114, 105, 110, 116]
  · subst e10; exact ⟨by decide, by decide, by decide⟩
  rw [if_neg e10] at h
  by_cases e11 : t = [99, 110, 116, 114, 108]
  · subst e11; exact ⟨by decide, by decide, by decide⟩
  rw [if_neg e11] at h
  by_cases e12 : t = [97, 110, 121]
  · subst e12; exact ⟨by decide, by decide, by decide⟩
  rw [if_neg e12] at h
  cases h
theorem occ_take {m : List UInt8} {j n : Nat} (h : Lib.occAt m [58, 93] j = true) (hj : j < n) : (58 : UInt8) ∈ m.take n := by
  unfold Lib.occAt at h
  have h1 := List.isPrefixOf_iff_prefix.1 h
  obtain ⟨t, ht⟩ := h1
  have e : (m.take n).drop j = (m.drop j).take (n - j) := by rw [List.drop_take]
  have hm : (58 : UInt8) ∈ (m.take n).drop j := by
    rw [e, ← ht]
    obtain ⟨q, hq⟩ : ∃ q, n - j = q + 1 := ⟨n - j - 1, by omega⟩
    rw [hq]
    simp
  exact List.mem_of_mem_drop hm
theorem nmq_hit (l : List UInt8) (n : Nat) (S : BitVec 256) (hp : Lib.hasPrefix ((l.drop 2).drop n) [58, 93] = true) (hn : nmd ((l.drop 2).take n) = some S) : nmq l = .inr (S, n + 4) := by
  generalize hm : l.drop 2 = m at hp hn
  have hle : n ≤ m.length := by
    rcases Nat.lt_or_ge m.length n with h | h
    · rw [List.drop_eq_nil_of_le (by omega)] at hp; cases hp
    · exact h
  have hno : ∀ j, j < n → Lib.occAt m [58, 93] j = false := by
    intro j hj
    cases ho : Lib.occAt m [58, 93] j with
    | false => rfl
    | true => exact absurd (occ_take ho hj) (nmd_some hn).2.2
  have hi : Lib.index m [58, 93] = (n : Int) := Lib.index_first hle hp hno
  have hc : Lib.cut m [58, 93] = (m.take n, m.drop (n + 2), true) := by
    unfold Lib.cut
    rw [hi, if_pos (by omega)]
    rfl
  unfold nmq
  rw [hm, hc]
  simp only [hn, if_true, List.length_take]
  rw [Nat.min_eq_left hle]
theorem nmq_miss (l : List UInt8) (h : ∀ n, 1 ≤ n → n < 8 → Lib.hasPrefix ((l.drop 2).drop n) [58, 93] = true → nmd ((l.drop 2).take n) = none) : nmq l = .inl 0 := by
  generalize hm : l.drop 2 = m at h
  unfold nmq
  rw [hm]
  rcases Lib.index_spec m [58, 93] with ⟨h1, _⟩ | ⟨i, h1, h2, h3, _⟩
  · have hc : Lib.cut m [58, 93] = (m, [], false) := by unfold Lib.cut; rw [h1]; rfl
    rw [hc]
    simp only []
    cases nmd m <;> rfl
  · have hc : Lib.cut m [58, 93] = (m.take i, m.drop (i + 2), true) := by
      unfold Lib.cut
      rw [h1, if_pos (by omega)]
      rfl
    rw [hc]
    cases hS : nmd (m.take i) with
    | none => rfl
    | some S =>
      exfalso
      have hl := nmd_some hS
      rw [List.length_take, Nat.min_eq_left h2] at hl
      rw [h i (by omega) (by omega) h3] at hS
      cases hS
end Go.Proofs.YtnecafokkhhhhaaDoor
