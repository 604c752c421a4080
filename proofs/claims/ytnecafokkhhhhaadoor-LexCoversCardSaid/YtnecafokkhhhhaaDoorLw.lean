/- Lists of lexemes that Lex told; equal lexemes; what wakes. -/
import Derived.Test.YtnecafokkhhhhaaDoorLs
import Derived.Laws.StructEq
namespace Go.Proofs.YtnecafokkhhhhaaDoor
open Go Go.RowKit
theorem flat_get : ∀ (L : List Lxm) (i : Nat) (h : i < L.length) (f : Nat), f < 9 → (L.flatMap lcl)[i * 9 + f]? = (lcl L[i])[f]?
  | [], i, h, f, hf => by simp at h
  | y :: L, 0, h, f, hf => by
    rw [List.flatMap_cons, Nat.zero_mul, Nat.zero_add, List.getElem?_append_left (by rw [lcl_len]; exact hf)]
    rfl
  | y :: L, i + 1, h, f, hf => by
    rw [List.flatMap_cons, List.getElem?_append_right (by rw [lcl_len]; omega), lcl_len, show (i + 1) * 9 + f - 9 = i * 9 + f by omega, flat_get L i (by simpa using h) f hf]
    rfl
theorem flat_len (L : List Lxm) : (L.flatMap lcl).length = L.length * 9 := by
  induction L with
  | nil => rfl
  | cons y L ih => rw [List.flatMap_cons, List.length_append, ih, lcl_len, List.length_cons]; omega
/-- The cells of a list that a call told. -/
def Lms (w : World) (g : Nat) (L : List Lxm) : Prop := g < w.heap.size ∧ ∀ i (h : i < L.length) f, f < 9 → w.cell? ⟨g, i * 9 + f, none⟩ = (lcl L[i])[f]?
theorem Lms.ext {w w' : World} {g : Nat} {L : List Lxm} (h : Lms w g L) (hx : Ext w w') : Lms w' g L :=
  ⟨Nat.lt_of_lt_of_le h.1 hx.size, fun i hi f hf => by rw [hx.cell (p := ⟨g, i * 9 + f, none⟩) h.1]; exact h.2 i hi f hf⟩
theorem lms_of_own {w : World} {base : Nat} {e : TypeId} {v : Value} {L : List Lxm} (h : w.ownsRow base e 9 v L.length (L.flatMap lcl)) :
    (∃ a cap, v = .slice a L.length cap) ∧ (0 < L.length → ∃ g cap, v = .slice (some ⟨g, 0, none⟩) L.length cap ∧ L.length ≤ cap ∧ cap ≤ maxLen ∧ base ≤ g ∧ Lms w g L) := by
  obtain ⟨hl, ⟨rfl, h0⟩ | ⟨g, cap, cur, rfl, hb, hg, h1, h2, h3, h4⟩⟩ := h
  · exact ⟨⟨none, 0, by rw [h0]⟩, fun hp => by omega⟩
  · refine ⟨⟨_, _, rfl⟩, fun _ => ⟨g, cap, rfl, h1, h2, hb, (Array.getElem?_eq_some_iff.1 hg).1, fun i hi f hf => ?_⟩⟩
    have hlt : i * 9 + f < L.length * 9 := by omega
    rw [← flat_get L i hi f hf, ← h4, List.getElem?_take_of_lt hlt]
    simp [World.cell?, hg]
set_option maxRecDepth 20000 in
theorem lx_same (kd a e : Int) (T : ByteArray) (n : Int) (S : BitVec 256) (w : World) :
    (Op.equalIn 10000 32 (.agg (lcs kd a e T n (wd S 0) (wd S 1) (wd S 2) (wd S 3))) (.agg (lcs kd a e T n (wd S 0) (wd S 1) (wd S 2) (wd S 3)))).run Tryd.prog w = .ok true w := by
  have hS : Tryd.prog.underlying 32 = some (.struct (Tryd.prog.fieldsOf 32)) := by kernel_rfl
  have hp : Tryd.prog.stoodInHeld 32 = false := by kernel_rfl
  have p0 : ∀ w, (part 3 (lcs kd a e T n (wd S 0) (wd S 1) (wd S 2) (wd S 3)) 0).run Tryd.prog w = .ok (.int .i64 kd) w := fun _ => by kernel_rfl
  have p1 : ∀ w, (part 3 (lcs kd a e T n (wd S 0) (wd S 1) (wd S 2) (wd S 3)) 1).run Tryd.prog w = .ok (.int .i64 a) w := fun _ => by kernel_rfl
  have p2 : ∀ w, (part 3 (lcs kd a e T n (wd S 0) (wd S 1) (wd S 2) (wd S 3)) 2).run Tryd.prog w = .ok (.int .i64 e) w := fun _ => by kernel_rfl
  have p3 : ∀ w, (part 9 (lcs kd a e T n (wd S 0) (wd S 1) (wd S 2) (wd S 3)) 3).run Tryd.prog w = .ok (.string T) w := fun _ => by kernel_rfl
  have p4 : ∀ w, (part 3 (lcs kd a e T n (wd S 0) (wd S 1) (wd S 2) (wd S 3)) 4).run Tryd.prog w = .ok (.int .i64 n) w := fun _ => by kernel_rfl
  have p5 : ∀ w, (part 30 (lcs kd a e T n (wd S 0) (wd S 1) (wd S 2) (wd S 3)) 5).run Tryd.prog w = .ok (sv S) w := fun _ => by kernel_rfl
  have e5 : ∀ w, (Op.equalIn 9999 30 (sv S) (sv S)).run Tryd.prog w = .ok true w := fun w => by rw [set_equal 9997 S S w]; simp
  have eI : ∀ x w, (Op.equalIn 9999 3 (.int .i64 x) (.int .i64 x)).run Tryd.prog w = .ok true w := fun x w => by rw [run_equalIn_int w 9998 _ _ .i64 _ _ Tryd.underlying3]; simp
  have eS : ∀ x w, (Op.equalIn 9999 9 (.string x) (.string x)).run Tryd.prog w = .ok true w := fun x w => by rw [run_equalIn_string w 9998 _ _ _ Tryd.underlying9]; simp
  rw [show (10000 : Nat) = 9999 + 1 from rfl, run_equalIn_agg w 9999 _ _ _ hS hp]
  simp only [Program.fieldsOf, Tryd.underlying32, Op.eqFields, Sem.run_bind, Sem.run_ite, p0, p1, p2, p3, p4, p5, Result.andThen_ok, eI, eS, e5]
  simp
theorem wk_lex : lxs 10 (rest ⟨#[97, 32, 61, 32, 49, 50, 32, 35, 32, 120]⟩ 0) 0 = ([⟨1, 0, 1, [97], 0, 0#256⟩, ⟨5, 2, 3, [61], 0, 0#256⟩, ⟨2, 4, 6, [], 12, 0#256⟩], none) := by kernel_rfl
set_option maxHeartbeats 1000000 in
set_option maxRecDepth 20000 in
theorem lwakes_any (es ed : Addr) (w : World) (hK : Kn w es ed) :
    Calls Tryd.prog 6 #[] w fun e w' => e = .returned (.bool true) ∧ Ext w w' := by
  have HLX := Lib.hid (fun w hK => lex_any ⟨#[97, 32, 61, 32, 49, 50, 32, 35, 32, 120]⟩ (by decide) es ed w hK _ _ wk_lex)
  have HK := Lib.hid hK
  clear hK
  go_enter Tryd.func6, Tryd.ntmps6
  go_wp2_with fail
  refine (HLX.out _ HK.out).mono ?_
  rintro e w1 ⟨v, u, rfl, hown, rfl, hx⟩
  obtain ⟨g, cap, rfl, hc1, hc2, hb, hg, hcell⟩ := (lms_of_own hown).2 (by decide)
  have c3 := hcell 0 (by decide) 3 (by decide)
  have c9 := hcell 1 (by decide) 0 (by decide)
  have c22 := hcell 2 (by decide) 4 (by decide)
  have c20 := hcell 2 (by decide) 2 (by decide)
  have k3 : w1.cell? ⟨g, 3, none⟩ = some (.string ⟨#[97]⟩) := c3
  have k9 : w1.cell? ⟨g, 9, none⟩ = some (.int .i64 5) := c9
  have k22 : w1.cell? ⟨g, 22, none⟩ = some (.int .i64 12) := c22
  have k20 : w1.cell? ⟨g, 20, none⟩ = some (.int .i64 6) := c20
  have HX := Lib.hid hx
  clear c3 c9 c22 c20 hcell hown hx HLX HK hb
  go_wp2_with fail
  go_ret
  exact ⟨rfl, HX.out⟩
end Go.Proofs.YtnecafokkhhhhaaDoor
