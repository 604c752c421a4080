/- The order of sets: plain facts. -/
import Derived.Test.YtkhmkcaocacfhaaDoorLea
import Derived.Test.YtkhmkcaocacfhaaDoorCnt
namespace Go.Proofs.YtkhmkcaocacfhaaDoor
open Go Go.RowKit
theorem parts_bit (a b : BitVec 256) (i : Nat) : ((a &&& ~~~b) ||| (b &&& ~~~a)).getLsbD i = (a.getLsbD i != b.getLsbD i) := by
  by_cases h : i < 256
  · simp only [BitVec.getLsbD_or, BitVec.getLsbD_and, BitVec.getLsbD_not, h, decide_true, Bool.true_and]
    cases a.getLsbD i <;> cases b.getLsbD i <;> rfl
  · have h1 : a.getLsbD i = false := BitVec.getLsbD_of_ge a i (by omega)
    have h2 : b.getLsbD i = false := BitVec.getLsbD_of_ge b i (by omega)
    simp [h, h1, h2]
theorem cmp_spec (a b : BitVec 256) (h : a ≠ b) : ∃ d, (∀ i, i < d → a.getLsbD i = b.getLsbD i) ∧ a.getLsbD d ≠ b.getLsbD d ∧ cmp a b = if a.getLsbD d then -1 else 1 := by
  have hne : (a &&& ~~~b) ||| (b &&& ~~~a) ≠ 0#256 := by
    intro e
    apply h
    apply BitVec.eq_of_getLsbD_eq
    intro i _
    have := parts_bit a b i
    rw [e] at this
    simpa using this
  obtain ⟨h1, h2⟩ := lea_spec _ hne
  refine ⟨lea ((a &&& ~~~b) ||| (b &&& ~~~a)), fun i hi => ?_, ?_, by simp [cmp, h]⟩
  · have := h2 i hi
    rw [parts_bit] at this
    simpa using this
  · rw [parts_bit] at h1
    simpa using h1
theorem cmp_self (a : BitVec 256) : cmp a a = 0 := by simp [cmp]
/-- The first place at which two sets part tells. -/
theorem cmp_of (a b : BitVec 256) (d : Nat) (hl : ∀ i, i < d → a.getLsbD i = b.getLsbD i) (ha : a.getLsbD d = true) (hb : b.getLsbD d = false) : cmp a b = -1 ∧ cmp b a = 1 := by
  have hne : a ≠ b := by rintro rfl; rw [ha] at hb; cases hb
  obtain ⟨e, e1, e2, e3⟩ := cmp_spec a b hne
  obtain ⟨f, f1, f2, f3⟩ := cmp_spec b a (Ne.symm hne)
  have hed : e = d := by
    rcases Nat.lt_trichotomy e d with h | h | h
    · exact absurd (hl e h) e2
    · exact h
    · have := e1 d h; rw [ha, hb] at this; cases this
  have hfd : f = d := by
    rcases Nat.lt_trichotomy f d with h | h | h
    · exact absurd (hl f h).symm f2
    · exact h
    · have := f1 d h; rw [ha, hb] at this; cases this
  subst hed; subst hfd
  rw [e3, f3, ha, hb]; exact ⟨rfl, rfl⟩
theorem cmp_cases (a b : BitVec 256) : (a = b ∧ cmp a b = 0 ∧ cmp b a = 0) ∨ (∃ d, (∀ i, i < d → a.getLsbD i = b.getLsbD i) ∧ a.getLsbD d = true ∧ b.getLsbD d = false ∧ cmp a b = -1 ∧ cmp b a = 1) ∨
    (∃ d, (∀ i, i < d → b.getLsbD i = a.getLsbD i) ∧ b.getLsbD d = true ∧ a.getLsbD d = false ∧ cmp a b = 1 ∧ cmp b a = -1) := by
  by_cases h : a = b
  · subst h; exact .inl ⟨rfl, cmp_self a, cmp_self a⟩
  · obtain ⟨d, d1, d2, _⟩ := cmp_spec a b h
    cases ha : a.getLsbD d with
    | true =>
      have hb : b.getLsbD d = false := by rw [ha] at d2; simpa using d2
      exact .inr (.inl ⟨d, d1, ha, hb, cmp_of a b d d1 ha hb⟩)
    | false =>
      have hb : b.getLsbD d = true := by rw [ha] at d2; simpa using d2
      have := cmp_of b a d (fun i hi => (d1 i hi).symm) hb ha
      exact .inr (.inr ⟨d, fun i hi => (d1 i hi).symm, hb, ha, this.2, this.1⟩)
theorem cmp_neg (a b : BitVec 256) : cmp b a = - cmp a b := by
  rcases cmp_cases a b with ⟨_, h1, h2⟩ | ⟨_, _, _, _, h1, h2⟩ | ⟨_, _, _, _, h1, h2⟩ <;> rw [h1, h2] <;> rfl
theorem cmp_range (a b : BitVec 256) : -1 ≤ cmp a b ∧ cmp a b ≤ 1 ∧ ((cmp a b == 0) = decide (a = b)) := by
  rcases cmp_cases a b with ⟨h, h1, h2⟩ | ⟨d, _, ha, hb, h1, h2⟩ | ⟨d, _, hb, ha, h1, h2⟩
  · rw [h1]; exact ⟨by omega, by omega, by simp [h]⟩
  · have hne : a ≠ b := by rintro rfl; rw [ha] at hb; cases hb
    rw [h1]; exact ⟨by omega, by omega, by simp [hne]⟩
  · have hne : a ≠ b := by rintro rfl; rw [ha] at hb; cases hb
    rw [h1]; exact ⟨by omega, by omega, by simp [hne]⟩
theorem cmp_trans (a b c : BitVec 256) (h1 : cmp a b ≤ 0) (h2 : cmp b c ≤ 0) : cmp a c ≤ 0 ∧ (cmp a c = 0 → cmp a b = 0 ∧ cmp b c = 0) := by
  rcases cmp_cases a b with ⟨rfl, e1, _⟩ | ⟨d, dl, da, db, e1, _⟩ | ⟨_, _, _, _, e1, _⟩
  · exact ⟨h2, fun h => ⟨e1, h⟩⟩
  · rcases cmp_cases b c with ⟨rfl, e2, _⟩ | ⟨f, fl, fb, fc, e2, _⟩ | ⟨_, _, _, _, e2, _⟩
    · exact ⟨h1, fun h => ⟨h, e2⟩⟩
    · have key : cmp a c = -1 := by
        rcases Nat.lt_trichotomy d f with h | h | h
        · exact (cmp_of a c d (fun i hi => (dl i hi).trans (fl i (by omega))) da (by rw [← fl d h]; exact db)).1
        · subst h; rw [db] at fb; cases fb
        · exact (cmp_of a c f (fun i hi => (dl i (by omega)).trans (fl i hi)) (by rw [dl f h]; exact fb) fc).1
      rw [key]; exact ⟨by omega, fun h => by omega⟩
    · omega
  · omega
theorem cmp_full (a : BitVec 256) : cmp full a ≤ 0 := by
  rcases cmp_cases full a with ⟨_, e, _⟩ | ⟨_, _, _, _, e, _⟩ | ⟨d, _, ha, hf, e, _⟩
  · omega
  · omega
  · have hd : d < 256 := BitVec.lt_of_getLsbD ha
    have hft : full.getLsbD d = true := by unfold full; rw [BitVec.getLsbD_not, BitVec.getLsbD_zero]; simp [hd]
    rw [hft] at hf; cases hf
theorem cmp_zero (a : BitVec 256) : cmp a 0#256 ≤ 0 := by
  rcases cmp_cases a 0#256 with ⟨_, e, _⟩ | ⟨_, _, _, _, e, _⟩ | ⟨d, _, hz, _, e, _⟩
  · omega
  · omega
  · simp at hz
theorem cmp_union (a b : BitVec 256) : decide (cmp (a ||| b) a < 0) = !decide (a ||| b = a) := by
  rcases cmp_cases (a ||| b) a with ⟨h, e, _⟩ | ⟨d, _, ha, hb, e, _⟩ | ⟨d, _, ha, hb, e, _⟩
  · rw [e]; simp [h]
  · have hne : a ||| b ≠ a := by intro h; rw [h, hb] at ha; cases ha
    rw [e]; simp [hne]
  · rw [BitVec.getLsbD_or, ha] at hb; simp at hb
end Go.Proofs.YtkhmkcaocacfhaaDoor
