/- Faults held against each other. -/
import Derived.Test.YtnmdfhnfheekgaaDoorTell
namespace Go.Proofs.YtnmdfhnfheekgaaDoor
open Go Go.RowKit
set_option maxHeartbeats 1000000 in
theorem eqfault_any (f g : Value) (c s r t c' s' r' t' : Int) (l l' : List ByteArray) (w : World) (hf : Fault w f c s r t l) (hg : Fault w g c' s' r' t' l') (q : Bool) (hq : decide (c = c' ∧ s = s' ∧ r = r' ∧ t = t' ∧ l = l') = q) :
    Calls Tryd.prog 25 #[f, g] w fun e w' => e = .returned (.bool q) ∧ Below w.heap.size w w' := by
  obtain ⟨x, rfl, hx⟩ := hf
  obtain ⟨y, rfl, hy⟩ := hg
  have hE : Ext w ((w.alloc (.cells #[.int .i64 c, .int .i64 s, .int .i64 r, .int .i64 t, x] 38)).alloc (.cells #[.int .i64 c', .int .i64 s', .int .i64 r', .int .i64 t', y] 38)) := by go_grown
  have heq := eqtexts_any x y l l' _ (hx.ext hE) (hy.ext hE)
  obtain ⟨b, hb⟩ : ∃ b, decide (l = l') = b := ⟨_, rfl⟩
  rw [hb] at heq
  obtain ⟨xa, xc, rfl⟩ := hx.slice
  obtain ⟨ya, yc, rfl⟩ := hy.slice
  clear hx hy
  by_cases h1 : c = c'
  · subst h1
    by_cases h2 : s = s'
    · subst h2
      by_cases h3 : r = r'
      · subst h3
        by_cases h4 : t = t'
        · subst h4
          have hqb : b = q := by rw [← hq, ← hb]; simp
          clear hq hb
          subst hqb
          go_enter Tryd.func25, Tryd.ntmps25
          go_wp2_with fail
          refine heq.mono ?_
          rintro e w1 ⟨rfl, hE2⟩
          go_wp2
          go_ret
          exact ⟨rfl, bel_call hE hE2⟩
        · have hqf : false = q := by rw [← hq]; simp [h4]
          subst hqf
          have hd : (t == t') = false := by simpa using h4
          have hd2 : decide (t = t') = false := by simpa using h4
          clear heq
          go_enter Tryd.func25, Tryd.ntmps25
          go_wp2
          go_ret
          exact ⟨rfl, hE⟩
      · have hqf : false = q := by rw [← hq]; simp [h3]
        subst hqf
        have hd : (r == r') = false := by simpa using h3
        have hd2 : decide (r = r') = false := by simpa using h3
        clear heq
        go_enter Tryd.func25, Tryd.ntmps25
        go_wp2
        go_ret
        exact ⟨rfl, hE⟩
    · have hqf : false = q := by rw [← hq]; simp [h2]
      subst hqf
      have hd : (s == s') = false := by simpa using h2
      have hd2 : decide (s = s') = false := by simpa using h2
      clear heq
      go_enter Tryd.func25, Tryd.ntmps25
      go_wp2
      go_ret
      exact ⟨rfl, hE⟩
  · have hqf : false = q := by rw [← hq]; simp [h1]
    subst hqf
    have hd : (c == c') = false := by simpa using h1
    have hd2 : decide (c = c') = false := by simpa using h1
    clear heq
    go_enter Tryd.func25, Tryd.ntmps25
    go_wp2
    go_ret
    exact ⟨rfl, hE⟩
end Go.Proofs.YtnmdfhnfheekgaaDoor
