/- LengthLaws: the walk. -/
import Derived.Test.YtnmdfhnfheekgaaDoorLlp
import Derived.Test.YtnmdfhnfheekgaaDoorSz
import Derived.Test.YtnmdfhnfheekgaaDoorStab2
namespace Go.Proofs.YtnmdfhnfheekgaaDoor
open Go Go.RowKit
/-- Two expressions' cells. -/
def tcs (A B : Xp) (a : Option Addr) (c : Nat) (a' : Option Addr) (c' : Nat) : List Value :=
  [.int .i64 A.op, .int .i64 A.at_, .int .u64 (wd A.set 0), .int .u64 (wd A.set 1), .int .u64 (wd A.set 2), .int .u64 (wd A.set 3), .string A.text, .int .i64 A.mn, .int .i64 A.mx, .slice a A.args.length c, .int .i64 B.op, .int .i64 B.at_, .int .u64 (wd B.set 0), .int .u64 (wd B.set 1), .int .u64 (wd B.set 2), .int .u64 (wd B.set 3), .string B.text, .int .i64 B.mn, .int .i64 B.mx, .slice a' B.args.length c']
abbrev tv (A B : Xp) (a : Option Addr) (c : Nat) (a' : Option Addr) (c' : Nat) : Value := .agg (tcs A B a c a' c').toArray
theorem Blk.cells20 {w : World} {b : Nat} {t : TypeId} {A B : Xp} {a : Option Addr} {c : Nat} {a' : Option Addr} {c' : Nat} (h : Blk w b (tcs A B a c a' c').toArray t) :
    w.cell? ⟨b, 0, none⟩ = some (.int .i64 A.op) ∧ w.cell? ⟨b, 1, none⟩ = some (.int .i64 A.at_) ∧ w.cell? ⟨b, 2, none⟩ = some (.int .u64 (wd A.set 0)) ∧ w.cell? ⟨b, 3, none⟩ = some (.int .u64 (wd A.set 1)) ∧ w.cell? ⟨b, 4, none⟩ = some (.int .u64 (wd A.set 2)) ∧ w.cell? ⟨b, 5, none⟩ = some (.int .u64 (wd A.set 3)) ∧ w.cell? ⟨b, 6, none⟩ = some (.string A.text) ∧ w.cell? ⟨b, 7, none⟩ = some (.int .i64 A.mn) ∧ w.cell? ⟨b, 8, none⟩ = some (.int .i64 A.mx) ∧ w.cell? ⟨b, 9, none⟩ = some (.slice a A.args.length c) ∧ w.cell? ⟨b, 10, none⟩ = some (.int .i64 B.op) ∧ w.cell? ⟨b, 11, none⟩ = some (.int .i64 B.at_) ∧ w.cell? ⟨b, 12, none⟩ = some (.int .u64 (wd B.set 0)) ∧ w.cell? ⟨b, 13, none⟩ = some (.int .u64 (wd B.set 1)) ∧ w.cell? ⟨b, 14, none⟩ = some (.int .u64 (wd B.set 2)) ∧ w.cell? ⟨b, 15, none⟩ = some (.int .u64 (wd B.set 3)) ∧ w.cell? ⟨b, 16, none⟩ = some (.string B.text) ∧ w.cell? ⟨b, 17, none⟩ = some (.int .i64 B.mn) ∧ w.cell? ⟨b, 18, none⟩ = some (.int .i64 B.mx) ∧ w.cell? ⟨b, 19, none⟩ = some (.slice a' B.args.length c') :=
  ⟨h.cell 0, h.cell 1, h.cell 2, h.cell 3, h.cell 4, h.cell 5, h.cell 6, h.cell 7, h.cell 8, h.cell 9, h.cell 10, h.cell 11, h.cell 12, h.cell 13, h.cell 14, h.cell 15, h.cell 16, h.cell 17, h.cell 18, h.cell 19⟩
theorem Xat.two {w : World} {A B : Xp} {a : Option Addr} {c : Nat} {a' : Option Addr} {c' b : Nat} {t : TypeId} (hb : Blk w b (tcs A B a c a' c').toArray t) (hk : Xok A) (hk' : Xok B) (h : Xat w w.heap.size a c A.args) (h' : Xat w w.heap.size a' c' B.args) : Xat w w.heap.size (some ⟨b, 0, none⟩) 2 [A, B] :=
  .put b 0 2 [A, B] (fun i => if i = 0 then a else a') (fun i => if i = 0 then c else c') (by simp) (by decide) hb.lt (fun z hz => by rcases List.mem_cons.1 hz with rfl | hz; exact hk; rcases List.mem_cons.1 hz with rfl | hz; exact hk'; cases hz)
    (fun i hi j hj => by
      have : i = 0 ∨ i = 1 := by simp at hi; omega
      rcases this with rfl | rfl
      · rw [hb.cell, show 0 + 0 * 10 + j = j by omega]
        simp only [List.getElem_cons_zero, List.getElem?_toArray]
        show (xcs A a c ++ xcs B a' c')[j]? = (xcs A a c)[j]?
        rw [List.getElem?_append_left (by show j < 10; exact hj)]
      · rw [hb.cell, show 0 + 1 * 10 + j = 10 + j by omega]
        simp only [List.getElem_cons_succ, List.getElem_cons_zero, List.getElem?_toArray]
        show (xcs A a c ++ xcs B a' c')[10 + j]? = (xcs B a' c')[j]?
        rw [List.getElem?_append_right (by show 10 ≤ 10 + j; omega)]
        show (xcs B a' c')[10 + j - 10]? = _
        rw [show 10 + j - 10 = j by omega])
    (fun i hi => by
      have : i = 0 ∨ i = 1 := by simp at hi; omega
      rcases this with rfl | rfl
      · exact h
      · exact h')
theorem sum_any (a b : Int) (w : World) (ha : -1 ≤ a ∧ a ≤ 1000000) (hb : -1 ≤ b ∧ b ≤ 1000000) : Calls Tryd.prog 19 #[.int .i64 a, .int .i64 b] w fun e w' => e = .returned (.int .i64 (if a < 0 ∨ b < 0 then -1 else a + b)) ∧ w' = w := by
  by_cases h1 : a < 0
  · rw [if_pos (.inl h1)]
    have d1 : decide (a < 0) = true := by simpa using h1
    clear h1
    go_enter Tryd.func19, Tryd.ntmps19
    go_wp2_with fail
    go_ret
    exact ⟨rfl, rfl⟩
  · have d1 : decide (a < 0) = false := by simpa using h1
    by_cases h2 : b < 0
    · rw [if_pos (.inr h2)]
      have d2 : decide (b < 0) = true := by simpa using h2
      clear h1 h2
      go_enter Tryd.func19, Tryd.ntmps19
      go_wp2_with fail
      go_ret
      exact ⟨rfl, rfl⟩
    · have d2 : decide (b < 0) = false := by simpa using h2
      rw [if_neg (by rintro (h | h); exact h1 h; exact h2 h)]
      have b1 : a + b ≤ 2000000 := by omega
      have b2 : 0 ≤ a + b := by omega
      clear h1 h2
      go_enter Tryd.func19, Tryd.ntmps19
      go_wp2_with fail
      go_ret
      exact ⟨rfl, rfl⟩
theorem agg10 {o p : Int} {s0 s1 s2 s3 : Int} {t : ByteArray} {m n : Int} {a : Option Addr} {l c : Nat} {s0' s1' s2' s3' : Int} {t' : ByteArray} (h0 : s0 = s0') (h1 : s1 = s1') (h2 : s2 = s2') (h3 : s3 = s3') (h4 : t = t') :
    Value.agg #[.int .i64 o, .int .i64 p, .int .u64 s0, .int .u64 s1, .int .u64 s2, .int .u64 s3, .string t, .int .i64 m, .int .i64 n, .slice a l c] = .agg #[.int .i64 o, .int .i64 p, .int .u64 s0', .int .u64 s1', .int .u64 s2', .int .u64 s3', .string t', .int .i64 m, .int .i64 n, .slice a l c] := by subst h0 h1 h2 h3 h4; rfl
theorem xv_cat (q : Int) (A B : Xp) (a : Option Addr) (c : Nat) : xv (xcat q A B) a c = .agg #[.int .i64 q, .int .i64 0, .int .u64 0, .int .u64 0, .int .u64 0, .int .u64 0, .string ⟨#[]⟩, .int .i64 0, .int .i64 0, .slice a 2 c] :=
  agg10 (wd_zero 0) (wd_zero 1) (wd_zero 2) (wd_zero 3) rfl
theorem xv_star (A : Xp) (a : Option Addr) (c : Nat) : xv (xstar A) a c = .agg #[.int .i64 7, .int .i64 0, .int .u64 0, .int .u64 0, .int .u64 0, .int .u64 0, .string ⟨#[]⟩, .int .i64 0, .int .i64 (-1), .slice a 1 c] :=
  agg10 (wd_zero 0) (wd_zero 1) (wd_zero 2) (wd_zero 3) rfl
end Go.Proofs.YtnmdfhnfheekgaaDoor
