/- Two sets are held against each other, word by word. -/
import Derived.Test.YtnmdfhnfheekgaaDoorXp
import Derived.ChangeKeysEq
namespace Go.Proofs.YtnmdfhnfheekgaaDoor
open Go Go.RowKit
theorem set_info : (Tryd.prog.info? 24).map (fun i => i.size) = some 1 := by kernel_rfl
theorem set_part (x0 x1 x2 x3 : Int) (w : World) : ∀ i, i < 4 → (part 24 #[.int .u64 x0, .int .u64 x1, .int .u64 x2, .int .u64 x3] (i * 1)).run Tryd.prog w = .ok (#[Value.int .u64 x0, .int .u64 x1, .int .u64 x2, .int .u64 x3].getD i undef) w
  | 0, _ => by kernel_rfl
  | 1, _ => by kernel_rfl
  | 2, _ => by kernel_rfl
  | 3, _ => by kernel_rfl
  | n + 4, h => by omega
theorem u64_equal (d : Nat) (x y : Int) (w : World) : (Op.equalIn (d + 1) 24 (.int .u64 x) (.int .u64 y)).run Tryd.prog w = .ok (x == y) w := by
  have hu : Tryd.prog.underlying 24 = some (.int .u64) := by kernel_rfl
  simp [Op.equalIn, run_underlying hu]
theorem set_step (d : Nat) (x0 x1 x2 x3 y0 y1 y2 y3 : Int) (w : World) (i : Nat) (is : List Nat) (hi : i < 4) (x y : Int)
    (hx : #[Value.int .u64 x0, .int .u64 x1, .int .u64 x2, .int .u64 x3].getD i undef = .int .u64 x) (hy : #[Value.int .u64 y0, .int .u64 y1, .int .u64 y2, .int .u64 y3].getD i undef = .int .u64 y) :
    (Op.eqItems (d + 1) 24 1 #[.int .u64 x0, .int .u64 x1, .int .u64 x2, .int .u64 x3] #[.int .u64 y0, .int .u64 y1, .int .u64 y2, .int .u64 y3] (i :: is)).run Tryd.prog w =
      if x = y then (Op.eqItems (d + 1) 24 1 #[.int .u64 x0, .int .u64 x1, .int .u64 x2, .int .u64 x3] #[.int .u64 y0, .int .u64 y1, .int .u64 y2, .int .u64 y3] is).run Tryd.prog w else .ok false w := by
  rw [Op.eqItems, Sem.run_bind, set_part _ _ _ _ _ i hi, Result.andThen_ok, Sem.run_bind, set_part _ _ _ _ _ i hi, Result.andThen_ok, Sem.run_bind, hx, hy, u64_equal, Result.andThen_ok]
  by_cases h : x = y
  · simp [h]
  · have : (x == y) = false := by simpa using h
    simp [h]
theorem set_equal (d : Nat) (s t : BitVec 256) (w : World) : (Op.equalIn (d + 2) 26 (sv s) (sv t)).run Tryd.prog w = .ok (decide (s = t)) w := by
  obtain ⟨i, hi, _⟩ : ∃ i, Tryd.prog.info? 24 = some i ∧ i.size = 1 := by
    have := set_info
    cases h : Tryd.prog.info? 24 with
    | none => rw [h] at this; cases this
    | some i => rw [h] at this; exact ⟨i, rfl, by simpa using this⟩
  have hu : Tryd.prog.underlying 26 = some (.array 4 24) := by kernel_rfl
  have hc : Tryd.prog.cellsOf 24 = 1 := by kernel_rfl
  rw [run_equalIn_array _ (d + 1) _ _ hu hi, hc]
  have hr : List.range 4 = [0, 1, 2, 3] := by decide
  rw [hr, set_step d _ _ _ _ _ _ _ _ w 0 _ (by omega) _ _ rfl rfl, set_step d _ _ _ _ _ _ _ _ w 1 _ (by omega) _ _ rfl rfl, set_step d _ _ _ _ _ _ _ _ w 2 _ (by omega) _ _ rfl rfl, set_step d _ _ _ _ _ _ _ _ w 3 _ (by omega) _ _ rfl rfl]
  have hn : (Op.eqItems (d + 1) 24 1 #[.int .u64 (wd s 0), .int .u64 (wd s 1), .int .u64 (wd s 2), .int .u64 (wd s 3)] #[.int .u64 (wd t 0), .int .u64 (wd t 1), .int .u64 (wd t 2), .int .u64 (wd t 3)] []).run Tryd.prog w = .ok true w := rfl
  rw [hn]
  by_cases h : s = t
  · subst h; simp
  · rw [decide_eq_false h]
    by_cases h0 : wd s 0 = wd t 0
    · rw [if_pos h0]
      by_cases h1 : wd s 1 = wd t 1
      · rw [if_pos h1]
        by_cases h2 : wd s 2 = wd t 2
        · rw [if_pos h2]
          by_cases h3 : wd s 3 = wd t 3
          · exact absurd (wd_ext h0 h1 h2 h3) h
          · rw [if_neg h3]
        · rw [if_neg h2]
      · rw [if_neg h1]
    · rw [if_neg h0]
/-- .. as the walk asks it. -/
theorem set_eq (s t : BitVec 256) : ∀ w, (Op.equalIn 10000 26 (sv s) (sv t)).run Tryd.prog w = .ok (decide (s = t)) w := fun w => set_equal 9998 s t w
theorem set_eq0 (s : BitVec 256) : ∀ w, (Op.equalIn 10000 26 (sv s) sv0).run Tryd.prog w = .ok (decide (s = 0#256)) w := fun w => by rw [← sv_zero]; exact set_equal 9998 s _ w
end Go.Proofs.YtnmdfhnfheekgaaDoor
