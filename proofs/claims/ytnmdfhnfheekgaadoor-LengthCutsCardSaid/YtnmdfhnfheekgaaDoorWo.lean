/- How long words are: length's own types, and what it does with them. -/
import Derived.Test.YtnmdfhnfheekgaaDoorXp
import Derived.Test.YtnmdfhnfheekgaaDoorEq
namespace Go.Proofs.YtnmdfhnfheekgaaDoor
open Go Go.RowKit
/-- No words; words of so many bytes; words of so many bytes and more. -/
inductive Wv where
  | none
  | bounded (l m : Nat)
  | endless (l : Nat)
deriving DecidableEq
namespace Wv
def val : Wv → Value
  | .none => .iface 88 (.agg #[])
  | .bounded l m => .iface 118 (.agg #[.int .i64 (l : Int), .int .i64 (m : Int)])
  | .endless l => .iface 120 (.agg #[.int .i64 (l : Int)])
def join : Wv → Wv → Wv
  | .bounded a b, .bounded c d => .bounded (a + c) (b + d)
  | .bounded a _, .endless c => .endless (a + c)
  | .endless a, .bounded c _ => .endless (a + c)
  | .endless a, .endless c => .endless (a + c)
  | _, _ => .none
def alt : Wv → Wv → Wv
  | .bounded a b, .bounded c d => .bounded (min a c) (max b d)
  | .bounded a _, .endless c => .endless (min a c)
  | .bounded a b, .none => .bounded a b
  | .endless a, .bounded c _ => .endless (min a c)
  | .endless a, .endless c => .endless (min a c)
  | .endless a, .none => .endless a
  | .none, w => w
def again : Wv → Wv
  | .bounded a b => if 0 < b then .endless a else .bounded a b
  | w => w
def rep (w : Wv) (mn mx : Int) : Wv :=
  let v := if mx = -1 then w.again else w
  if mn = 0 then alt (.bounded 0 0) v else v
/-- No number is greater. -/
def le : Wv → Nat → Prop
  | .none, _ => True
  | .bounded l m, n => l ≤ m ∧ m ≤ n
  | .endless l, n => l ≤ n
theorem le.mono {w : Wv} {n m : Nat} (h : w.le n) (hn : n ≤ m) : w.le m := by cases w <;> simp only [le] at * <;> omega
theorem le_join {v w : Wv} {n m : Nat} (h : v.le n) (k : w.le m) : (v.join w).le (n + m) := by cases v <;> cases w <;> simp only [le, join] at * <;> omega
theorem le_alt {v w : Wv} {n m : Nat} (h : v.le n) (k : w.le m) : (v.alt w).le (n + m) := by cases v <;> cases w <;> simp only [le, alt] at * <;> omega
theorem le_again {w : Wv} {n : Nat} (h : w.le n) : w.again.le n := by
  cases w with
  | none => trivial
  | bounded a b =>
    by_cases hb : 0 < b
    · rw [show (bounded a b).again = .endless a from if_pos hb]; simp only [le] at *; omega
    · rw [show (bounded a b).again = .bounded a b from if_neg hb]; exact h
  | endless a => exact h
theorem le_rep {w : Wv} {n : Nat} (h : w.le n) (mn mx : Int) : (w.rep mn mx).le n := by
  have h1 : (if mx = -1 then w.again else w).le n := by split; exact le_again h; exact h
  simp only [rep]
  split
  · have := le_alt (v := .bounded 0 0) (n := 0) (by simp [le]) h1
    simpa using this
  · exact h1
end Wv
theorem ta_bb (v : Value) (w : World) : (Instr.typeAssert (.iface 118 v) 68 118 true).run Tryd.prog w = .ok (.tuple #[v, .bool true]) w := by kernel_rfl
theorem ta_be (v : Value) (w : World) : (Instr.typeAssert (.iface 118 v) 68 120 true).run Tryd.prog w = .ok (.tuple #[(.agg #[.int .i64 0]), .bool false]) w := by kernel_rfl
theorem ta_eb (v : Value) (w : World) : (Instr.typeAssert (.iface 120 v) 68 118 true).run Tryd.prog w = .ok (.tuple #[(.agg #[.int .i64 0, .int .i64 0]), .bool false]) w := by kernel_rfl
theorem ta_ee (v : Value) (w : World) : (Instr.typeAssert (.iface 120 v) 68 120 true).run Tryd.prog w = .ok (.tuple #[v, .bool true]) w := by kernel_rfl
theorem ta_nb (v : Value) (w : World) : (Instr.typeAssert (.iface 88 v) 68 118 true).run Tryd.prog w = .ok (.tuple #[(.agg #[.int .i64 0, .int .i64 0]), .bool false]) w := by kernel_rfl
theorem ta_ne (v : Value) (w : World) : (Instr.typeAssert (.iface 88 v) 68 120 true).run Tryd.prog w = .ok (.tuple #[(.agg #[.int .i64 0]), .bool false]) w := by kernel_rfl
/-- The shortest words' length, if there are some. -/
def Wv.sh : Wv → Nat
  | .none => 0
  | .bounded l _ => l
  | .endless l => l
def Wv.some : Wv → Bool
  | .none => false
  | _ => true
set_option maxHeartbeats 1000000 in
set_option maxRecDepth 20000 in
theorem shortest_any (v : Wv) (w : World) : Calls Tryd.prog 55 #[v.val] w fun e w' => e = .returned (.tuple #[.int .i64 (v.sh : Int), .bool v.some]) ∧ Ext w w' := by
  have t1 := ta_bb
  have t2 := ta_be
  have t3 := ta_eb
  have t4 := ta_ee
  have t5 := ta_nb
  have t6 := ta_ne
  cases v with
  | none  =>
    simp only [Wv.val, Wv.sh, Wv.some]
    go_enter Tryd.func55, Tryd.ntmps55
    go_wp2_with fail
    go_ret2
    exact ⟨rfl, by go_grown⟩
  | bounded l m =>
    simp only [Wv.val, Wv.sh, Wv.some]
    go_enter Tryd.func55, Tryd.ntmps55
    go_wp2_with fail
    go_ret2
    exact ⟨rfl, by go_grown⟩
  | endless l =>
    simp only [Wv.val, Wv.sh, Wv.some]
    go_enter Tryd.func55, Tryd.ntmps55
    go_wp2_with fail
    go_ret2
    exact ⟨rfl, by go_grown⟩
set_option maxHeartbeats 1000000 in
set_option maxRecDepth 20000 in
theorem joined_any (v u : Wv) (n : Nat) (w : World) (hv : v.le n) (hu : u.le n) (hn : n ≤ 1000000) : Calls Tryd.prog 38 #[v.val, u.val] w fun e w' => e = .returned (v.join u).val ∧ Ext w w' := by
  have hsh := shortest_any u
  have t1 := ta_bb
  have t2 := ta_be
  have t3 := ta_eb
  have t4 := ta_ee
  have t5 := ta_nb
  have t6 := ta_ne
  cases v with
  | none  =>
    cases u with
    | none  =>
      simp only [Wv.le] at hv hu
      simp only [Wv.val, Wv.sh, Wv.some, Wv.join] at hsh ⊢
      clear hv hu
      go_enter Tryd.func38, Tryd.ntmps38
      go_wp2_with fail
      go_ret
      exact ⟨rfl, by go_grown⟩
    | bounded j k =>
      simp only [Wv.le] at hv hu
      simp only [Wv.val, Wv.sh, Wv.some, Wv.join] at hsh ⊢
      clear hv hu
      go_enter Tryd.func38, Tryd.ntmps38
      go_wp2_with fail
      go_ret
      exact ⟨rfl, by go_grown⟩
    | endless j =>
      simp only [Wv.le] at hv hu
      simp only [Wv.val, Wv.sh, Wv.some, Wv.join] at hsh ⊢
      clear hv hu
      go_enter Tryd.func38, Tryd.ntmps38
      go_wp2_with fail
      go_ret
      exact ⟨rfl, by go_grown⟩
  | bounded l m =>
    cases u with
    | none  =>
      simp only [Wv.le] at hv hu
      simp only [Wv.val, Wv.sh, Wv.some, Wv.join] at hsh ⊢
      clear hv hu
      go_enter Tryd.func38, Tryd.ntmps38
      go_wp2_with fail
      go_ret
      exact ⟨rfl, by go_grown⟩
    | bounded j k =>
      simp only [Wv.le] at hv hu
      simp only [Wv.val, Wv.sh, Wv.some, Wv.join] at hsh ⊢
      have m1 : ((l + j : Nat) : Int) = (l : Int) + (j : Int) := by omega
      have m2 : ((m + k : Nat) : Int) = (m : Int) + (k : Int) := by omega
      rw [m1, m2]
      have b1 : (l : Int) + (j : Int) ≤ 2000000 := by omega
      have b2 : (m : Int) + (k : Int) ≤ 2000000 := by omega
      clear hv hu
      go_enter Tryd.func38, Tryd.ntmps38
      go_wp2_with fail
      go_ret
      exact ⟨rfl, by go_grown⟩
    | endless j =>
      simp only [Wv.le] at hv hu
      simp only [Wv.val, Wv.sh, Wv.some, Wv.join] at hsh ⊢
      have m1 : ((l + j : Nat) : Int) = (l : Int) + (j : Int) := by omega
      rw [m1]
      have b1 : (l : Int) + (j : Int) ≤ 2000000 := by omega
      clear hv hu
      go_enter Tryd.func38, Tryd.ntmps38
      go_wp2_with fail
      go_ret
      exact ⟨rfl, by go_grown⟩
  | endless l =>
    cases u with
    | none  =>
      simp only [Wv.le] at hv hu
      simp only [Wv.val, Wv.sh, Wv.some, Wv.join] at hsh ⊢
      clear hv hu
      go_enter Tryd.func38, Tryd.ntmps38
      go_wp2_with fail
      refine (hsh _).mono ?_
      rintro e w1 ⟨rfl, hx⟩
      have hEE : Ext w w1 := bel_call (by go_grown) hx
      have z0 := ((Blk.new w #[.int .i64 (l : Int)] 120).ext hx).cell 0
      simp only [List.getElem?_toArray, List.getElem?_cons_zero] at z0
      go_wp2_with fail
      go_ret
      exact ⟨rfl, hEE⟩
    | bounded j k =>
      simp only [Wv.le] at hv hu
      simp only [Wv.val, Wv.sh, Wv.some, Wv.join] at hsh ⊢
      have m1 : ((l + j : Nat) : Int) = (l : Int) + (j : Int) := by omega
      rw [m1]
      have b1 : (l : Int) + (j : Int) ≤ 2000000 := by omega
      clear hv hu
      go_enter Tryd.func38, Tryd.ntmps38
      go_wp2_with fail
      refine (hsh _).mono ?_
      rintro e w1 ⟨rfl, hx⟩
      have hEE : Ext w w1 := bel_call (by go_grown) hx
      have z0 := ((Blk.new w #[.int .i64 (l : Int)] 120).ext hx).cell 0
      simp only [List.getElem?_toArray, List.getElem?_cons_zero] at z0
      go_wp2_with fail
      go_ret
      exact ⟨rfl, hEE⟩
    | endless j =>
      simp only [Wv.le] at hv hu
      simp only [Wv.val, Wv.sh, Wv.some, Wv.join] at hsh ⊢
      have m1 : ((l + j : Nat) : Int) = (l : Int) + (j : Int) := by omega
      rw [m1]
      have b1 : (l : Int) + (j : Int) ≤ 2000000 := by omega
      clear hv hu
      go_enter Tryd.func38, Tryd.ntmps38
      go_wp2_with fail
      refine (hsh _).mono ?_
      rintro e w1 ⟨rfl, hx⟩
      have hEE : Ext w w1 := bel_call (by go_grown) hx
      have z0 := ((Blk.new w #[.int .i64 (l : Int)] 120).ext hx).cell 0
      simp only [List.getElem?_toArray, List.getElem?_cons_zero] at z0
      go_wp2_with fail
      go_ret
      exact ⟨rfl, hEE⟩
theorem pair_val (T : TypeId) (a b c d : Int) (h1 : a = c) (h2 : b = d) : Ending.returned (.iface T (.agg #[.int .i64 a, .int .i64 b])) = Ending.returned (.iface T (.agg #[.int .i64 c, .int .i64 d])) := by rw [h1, h2]
theorem end_val (T : TypeId) (a c : Int) (h1 : a = c) : Ending.returned (.iface T (.agg #[.int .i64 a])) = Ending.returned (.iface T (.agg #[.int .i64 c])) := by rw [h1]
set_option maxHeartbeats 1000000 in
set_option maxRecDepth 20000 in
theorem either_any (v u : Wv) (n : Nat) (w : World) (hv : v.le n) (hu : u.le n) (_hn : n ≤ 1000000) : Calls Tryd.prog 39 #[v.val, u.val] w fun e w' => e = .returned (v.alt u).val ∧ Ext w w' := by
  have hsh := shortest_any u
  have t1 := ta_bb
  have t2 := ta_be
  have t3 := ta_eb
  have t4 := ta_ee
  have t5 := ta_nb
  have t6 := ta_ne
  cases v with
  | none  =>
    cases u with
    | none  =>
      simp only [Wv.le] at hv hu
      simp only [Wv.val, Wv.sh, Wv.some, Wv.alt] at hsh ⊢
      clear hv hu
      go_enter Tryd.func39, Tryd.ntmps39
      go_wp2_with fail
      go_ret
      exact ⟨rfl, by go_grown⟩
    | bounded j k =>
      simp only [Wv.le] at hv hu
      simp only [Wv.val, Wv.sh, Wv.some, Wv.alt] at hsh ⊢
      clear hv hu
      go_enter Tryd.func39, Tryd.ntmps39
      go_wp2_with fail
      go_ret
      exact ⟨rfl, by go_grown⟩
    | endless j =>
      simp only [Wv.le] at hv hu
      simp only [Wv.val, Wv.sh, Wv.some, Wv.alt] at hsh ⊢
      clear hv hu
      go_enter Tryd.func39, Tryd.ntmps39
      go_wp2_with fail
      go_ret
      exact ⟨rfl, by go_grown⟩
  | bounded l m =>
    cases u with
    | none  =>
      simp only [Wv.le] at hv hu
      simp only [Wv.val, Wv.sh, Wv.some, Wv.alt] at hsh ⊢
      clear hv hu
      go_enter Tryd.func39, Tryd.ntmps39
      go_wp2_with fail
      go_ret
      exact ⟨rfl, by go_grown⟩
    | bounded j k =>
      simp only [Wv.le] at hv hu
      simp only [Wv.val, Wv.sh, Wv.some, Wv.alt] at hsh ⊢
      clear hv hu
      go_enter Tryd.func39, Tryd.ntmps39
      go_wp2_with fail
      all_goals (go_ret; refine ⟨pair_val _ _ _ _ _ ?_ ?_, by go_grown⟩)
      all_goals omega
    | endless j =>
      simp only [Wv.le] at hv hu
      simp only [Wv.val, Wv.sh, Wv.some, Wv.alt] at hsh ⊢
      clear hv hu
      go_enter Tryd.func39, Tryd.ntmps39
      go_wp2_with fail
      all_goals (go_ret; refine ⟨end_val _ _ _ ?_, by go_grown⟩)
      all_goals omega
  | endless l =>
    cases u with
    | none  =>
      simp only [Wv.le] at hv hu
      simp only [Wv.val, Wv.sh, Wv.some, Wv.alt] at hsh ⊢
      clear hv hu
      go_enter Tryd.func39, Tryd.ntmps39
      go_wp2_with fail
      refine (hsh _).mono ?_
      rintro e w1 ⟨rfl, hx⟩
      have hEE : Ext w w1 := bel_call (by go_grown) hx
      have z0 := ((Blk.new w #[.int .i64 (l : Int)] 120).ext hx).cell 0
      simp only [List.getElem?_toArray, List.getElem?_cons_zero] at z0
      go_wp2_with fail
      go_ret
      exact ⟨rfl, hEE⟩
    | bounded j k =>
      simp only [Wv.le] at hv hu
      simp only [Wv.val, Wv.sh, Wv.some, Wv.alt] at hsh ⊢
      clear hv hu
      go_enter Tryd.func39, Tryd.ntmps39
      go_wp2_with fail
      refine (hsh _).mono ?_
      rintro e w1 ⟨rfl, hx⟩
      have hEE : Ext w w1 := bel_call (by go_grown) hx
      have z0 := ((Blk.new w #[.int .i64 (l : Int)] 120).ext hx).cell 0
      simp only [List.getElem?_toArray, List.getElem?_cons_zero] at z0
      go_wp2_with fail
      all_goals (go_ret; refine ⟨end_val _ _ _ ?_, hEE⟩)
      all_goals omega
    | endless j =>
      simp only [Wv.le] at hv hu
      simp only [Wv.val, Wv.sh, Wv.some, Wv.alt] at hsh ⊢
      clear hv hu
      go_enter Tryd.func39, Tryd.ntmps39
      go_wp2_with fail
      refine (hsh _).mono ?_
      rintro e w1 ⟨rfl, hx⟩
      have hEE : Ext w w1 := bel_call (by go_grown) hx
      have z0 := ((Blk.new w #[.int .i64 (l : Int)] 120).ext hx).cell 0
      simp only [List.getElem?_toArray, List.getElem?_cons_zero] at z0
      go_wp2_with fail
      all_goals (go_ret; refine ⟨end_val _ _ _ ?_, hEE⟩)
      all_goals omega
set_option maxHeartbeats 1000000 in
set_option maxRecDepth 20000 in
theorem again_any (v : Wv) (w : World) : Calls Tryd.prog 56 #[v.val] w fun e w' => e = .returned v.again.val ∧ Ext w w' := by
  have t1 := ta_bb
  have t2 := ta_be
  have t3 := ta_eb
  have t4 := ta_ee
  have t5 := ta_nb
  have t6 := ta_ne
  cases v with
  | none =>
    simp only [Wv.val, Wv.again]
    go_enter Tryd.func56, Tryd.ntmps56
    go_wp2_with fail
    go_ret
    exact ⟨rfl, by go_grown⟩
  | endless l =>
    simp only [Wv.val, Wv.again]
    go_enter Tryd.func56, Tryd.ntmps56
    go_wp2_with fail
    go_ret
    exact ⟨rfl, by go_grown⟩
  | bounded l m =>
    by_cases h : 0 < m
    · have e1 : (Wv.bounded l m).again = .endless l := if_pos h
      have d1 : decide ((0 : Int) < (m : Int)) = true := by simp; omega
      rw [e1]
      simp only [Wv.val]
      go_enter Tryd.func56, Tryd.ntmps56
      go_wp2_with fail
      go_ret
      exact ⟨rfl, by go_grown⟩
    · have e1 : (Wv.bounded l m).again = .bounded l m := if_neg h
      have d1 : decide ((0 : Int) < (m : Int)) = false := by simp; omega
      rw [e1]
      simp only [Wv.val]
      go_enter Tryd.func56, Tryd.ntmps56
      go_wp2_with fail
      go_ret
      exact ⟨rfl, by go_grown⟩
set_option maxHeartbeats 1000000 in
set_option maxRecDepth 20000 in
theorem emptyw_any (w : World) : Calls Tryd.prog 37 #[] w fun e w' => e = .returned (Wv.bounded 0 0).val ∧ Ext w w' := by
  simp only [Wv.val]
  go_enter Tryd.func37, Tryd.ntmps37
  go_wp2_with fail
  go_ret
  exact ⟨rfl, by go_grown⟩
set_option maxHeartbeats 1000000 in
set_option maxRecDepth 20000 in
theorem setw_any (s : BitVec 256) (w : World) : Calls Tryd.prog 36 #[sv s] w fun e w' => e = .returned (if s = 0#256 then Wv.none else .bounded 1 1).val ∧ Ext w w' := by
  have hse := set_eq0 s
  by_cases h : s = 0#256
  · rw [if_pos h]
    have d1 : decide (s = 0#256) = true := decide_eq_true h
    clear h
    simp only [Wv.val]
    go_enter Tryd.func36, Tryd.ntmps36
    go_wp2_with fail
    go_ret
    exact ⟨rfl, by go_grown⟩
  · rw [if_neg h]
    have d1 : decide (s = 0#256) = false := decide_eq_false h
    clear h
    simp only [Wv.val]
    go_enter Tryd.func36, Tryd.ntmps36
    go_wp2_with fail
    go_ret
    exact ⟨rfl, by go_grown⟩
set_option maxHeartbeats 1000000 in
set_option maxRecDepth 20000 in
theorem counted_any (v : Wv) (n : Nat) (mn mx : Int) (w : World) (hv : v.le n) (hn : n ≤ 1000000) : Calls Tryd.prog 40 #[v.val, .int .i64 mn, .int .i64 mx] w fun e w' => e = .returned (v.rep mn mx).val ∧ Ext w w' := by
  have hag := again_any v
  have hem := emptyw_any
  by_cases h1 : mx = -1
  · have d1 : (mx == -1) = true := by simpa using h1
    have d1b : decide (mx = -1) = true := by simpa using h1
    have hei := fun w => either_any (.bounded 0 0) v.again n w (by simp [Wv.le]) (Wv.le_again hv) hn
    by_cases h2 : mn = 0
    · have d2 : (mn == 0) = true := by simpa using h2
      have d2b : decide (mn = 0) = true := by simpa using h2
      rw [show v.rep mn mx = Wv.alt (.bounded 0 0) v.again by simp only [Wv.rep]; rw [if_pos h1, if_pos h2]]
      clear h1 h2 hv
      go_enter Tryd.func40, Tryd.ntmps40
      go_wp2_with fail
      refine (hag _).mono ?_
      rintro e w1 ⟨rfl, x1⟩
      go_wp2_with fail
      refine (hem _).mono ?_
      rintro e w2 ⟨rfl, x2⟩
      go_wp2_with fail
      refine (hei _).mono ?_
      rintro e w3 ⟨rfl, x3⟩
      go_wp2_with fail
      go_ret
      exact ⟨rfl, bel_call (bel_call x1 x2) x3⟩
    · have d2 : (mn == 0) = false := by simpa using h2
      have d2b : decide (mn = 0) = false := by simpa using h2
      rw [show v.rep mn mx = v.again by simp only [Wv.rep]; rw [if_pos h1, if_neg h2]]
      clear h1 h2 hv
      go_enter Tryd.func40, Tryd.ntmps40
      go_wp2_with fail
      refine (hag _).mono ?_
      rintro e w1 ⟨rfl, x1⟩
      go_wp2_with fail
      go_ret
      exact ⟨rfl, x1⟩
  · have d1 : (mx == -1) = false := by simpa using h1
    have d1b : decide (mx = -1) = false := by simpa using h1
    have hei := fun w => either_any (.bounded 0 0) v n w (by simp [Wv.le]) hv hn
    by_cases h2 : mn = 0
    · have d2 : (mn == 0) = true := by simpa using h2
      have d2b : decide (mn = 0) = true := by simpa using h2
      rw [show v.rep mn mx = Wv.alt (.bounded 0 0) v by simp only [Wv.rep]; rw [if_neg h1, if_pos h2]]
      clear h1 h2 hv
      go_enter Tryd.func40, Tryd.ntmps40
      go_wp2_with fail
      refine (hem _).mono ?_
      rintro e w2 ⟨rfl, x2⟩
      go_wp2_with fail
      refine (hei _).mono ?_
      rintro e w3 ⟨rfl, x3⟩
      go_wp2_with fail
      go_ret
      exact ⟨rfl, bel_call x2 x3⟩
    · have d2 : (mn == 0) = false := by simpa using h2
      have d2b : decide (mn = 0) = false := by simpa using h2
      rw [show v.rep mn mx = v by simp only [Wv.rep]; rw [if_neg h1, if_neg h2]]
      clear h1 h2 hv
      go_enter Tryd.func40, Tryd.ntmps40
      go_wp2_with fail
      go_ret
      exact ⟨rfl, Below.refl _ _⟩
end Go.Proofs.YtnmdfhnfheekgaaDoor
