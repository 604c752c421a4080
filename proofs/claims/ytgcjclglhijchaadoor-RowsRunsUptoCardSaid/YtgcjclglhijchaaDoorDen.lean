/- Lists of ints, rows, automata: how they lie in memory. -/
import Derived.Test.YtgcjclglhijchaaDoorProg
import Derived.Test.YtgcjclglhijchaaDoorBlk
import Derived.Test.YtgcjclglhijchaaDoorDfa
import Derived.Test.YtgcjclglhijchaaDoorOw
import Derived.WalkSpells
import Derived.LoopTactic
import Derived.Outline
import Derived.Lib.Hide
namespace Go.Proofs.YtgcjclglhijchaaDoor
open Go Go.RowKit
abbrev iv (x : Int) : Value := .int .i64 x
/-- A slice of ints. -/
def Ints (w : World) (v : Value) (L : List Int) : Prop := Slc w v L.length (L.map iv) ∧ ∀ x ∈ L, -9223372036854775808 ≤ x ∧ x ≤ 9223372036854775807
/-- A slice of slices of ints. -/
def Rws (w : World) (v : Value) (R : List (List Int)) : Prop := ∃ vs : List Value, vs.length = R.length ∧ Slc w v R.length vs ∧ ∀ (i : Nat) (h : i < R.length), ∃ u, vs[i]? = some u ∧ Ints w u R[i]
def Dns (w : World) (v : Value) (d : Dd) : Prop := ∃ a b, v = .agg #[a, b] ∧ Rws w a d.nx ∧ Ints w b d.lb
section
variable {w w' : World} {v : Value} {L : List Int} {R : List (List Int)} {d : Dd}
theorem Ints.ext (h : Ints w v L) (hx : Ext w w') : Ints w' v L := ⟨h.1.ext hx, h.2⟩
theorem Rws.ext (h : Rws w v R) (hx : Ext w w') : Rws w' v R := by
  obtain ⟨vs, h1, h2, h3⟩ := h
  exact ⟨vs, h1, h2.ext hx, fun i hi => by obtain ⟨u, e, hu⟩ := h3 i hi; exact ⟨u, e, hu.ext hx⟩⟩
theorem Dns.ext (h : Dns w v d) (hx : Ext w w') : Dns w' v d := by
  obtain ⟨a, b, e, h1, h2⟩ := h
  exact ⟨a, b, e, h1.ext hx, h2.ext hx⟩
theorem Ints.shape (h : Ints w v L) : ∃ a cap, v = .slice a L.length cap ∧ L.length ≤ cap ∧ L.length ≤ 140737488355328 ∧ cap ≤ maxLen := by
  obtain ⟨⟨a, cap, e, h1, h2, _⟩, _⟩ := h
  exact ⟨a, cap, e, h1, h2.1, h2.2⟩
theorem Rws.shape (h : Rws w v R) : ∃ a cap, v = .slice a R.length cap ∧ R.length ≤ cap ∧ R.length ≤ 140737488355328 ∧ cap ≤ maxLen := by
  obtain ⟨vs, _, ⟨a, cap, e, h1, h2, _⟩, _⟩ := h
  exact ⟨a, cap, e, h1, h2.1, h2.2⟩
theorem Ints.cell {a : Option Addr} {n cap : Nat} (h : Ints w (.slice a n cap) L) {k : Nat} (hk : k < L.length) : ∃ b o, a = some ⟨b, o, none⟩ ∧ b < w.heap.size ∧ w.cell? ⟨b, o + k, none⟩ = some (.int .i64 L[k]) ∧ -9223372036854775808 ≤ L[k] ∧ L[k] ≤ 9223372036854775807 := by
  obtain ⟨⟨a', cap', e, h1, h2, h⟩, hr⟩ := h
  cases e
  rcases h with h | ⟨b, o, rfl, hb, h⟩
  · have := congrArg List.length h; rw [List.length_map, List.length_nil] at this; omega
  · refine ⟨b, o, rfl, hb, ?_, hr _ (List.getElem_mem hk)⟩
    rw [h k (by simpa using hk)]
    simp [List.getElem?_eq_getElem hk]
theorem Rws.cell {a : Option Addr} {n cap : Nat} (h : Rws w (.slice a n cap) R) {k : Nat} (hk : k < R.length) : ∃ b o a2 c2, a = some ⟨b, o, none⟩ ∧ b < w.heap.size ∧ w.cell? ⟨b, o + k, none⟩ = some (.slice a2 R[k].length c2) ∧ Ints w (.slice a2 R[k].length c2) R[k] ∧ R[k].length ≤ 140737488355328 := by
  obtain ⟨vs, hl, ⟨a', cap', e, h1, h2, h⟩, h3⟩ := h
  cases e
  rcases h with h | ⟨b, o, rfl, hb, h⟩
  · rw [h] at hl; simp at hl; omega
  · obtain ⟨u, e, hu⟩ := h3 k hk
    obtain ⟨a2, c2, rfl, _, hc, _⟩ := hu.shape
    exact ⟨b, o, a2, c2, rfl, hb, by rw [h k (by omega), e], hu, hc⟩
end
def rowB (L : List Int) (n : Int) : Bool := L.length == 256 && L.all fun x => decide (0 ≤ x ∧ x < n)
theorem rowB_no {L : List Int} {n : Int} {k : Nat} (hk : k < L.length) (h : ¬ (0 ≤ L[k] ∧ L[k] < n)) : rowB L n = false := by
  unfold rowB
  rw [Bool.and_eq_false_iff]
  right
  rw [List.all_eq_false]
  exact ⟨L[k], List.getElem_mem hk, by simpa using h⟩
theorem rowB_yes {L : List Int} {n : Int} (hl : L.length = 256) (h : ∀ j (hj : j < L.length), 0 ≤ L[j] ∧ L[j] < n) : rowB L n = true := by
  unfold rowB
  rw [Bool.and_eq_true, List.all_eq_true]
  exact ⟨by simp [hl], fun x hx => by obtain ⟨j, hj, rfl⟩ := List.getElem_of_mem hx; simpa using h j hj⟩
theorem ret_bool {a b : Bool} (h : a = b) : Ending.returned (.bool a) = .returned (.bool b) := by rw [h]
set_option maxHeartbeats 1000000 in
set_option maxRecDepth 20000 in
theorem rowmay_any (L : List Int) (v : Value) (n : Int) (w : World) (h : Ints w v L) :
    Calls Tryd.prog 78 #[v, .int .i64 n] w fun e w' => e = .returned (.bool (rowB L n)) ∧ w = w' := by
  obtain ⟨a, cap, rfl, _, hl, _⟩ := h.shape
  have H := Lib.hid h
  clear h
  by_cases h256 : L.length = 256
  rotate_left
  · have e : rowB L n = false := by unfold rowB; simp [h256]
    rw [e]
    have d1 : ((L.length : Int) == 256) = false := by simp; omega
    have d2 : ((L.length : Int) != 256) = true := by simp; omega
    clear e h256
    go_enter Tryd.func78, Tryd.ntmps78
    go_wp2
    go_ret
    exact ⟨rfl, rfl⟩
  · have d1 : ((L.length : Int) == 256) = true := by simp; omega
    have d2 : ((L.length : Int) != 256) = false := by simp; omega
    have H256 := Lib.hid h256
    clear h256
    go_enter Tryd.func78, Tryd.ntmps78
    go_wp2
    go_loop [12] (fun i => ∃ k : Nat, k ≤ L.length ∧ i = .int .i64 k ∧ Hid (∀ j (hj : j < L.length), j < k → 0 ≤ L[j] ∧ L[j] < n)) (fun i => L.length - (intOf i).toNat)
    case atStart => exact ⟨0, Nat.zero_le _, rfl, Lib.hid (fun j _ h => by omega)⟩
    case round =>
      obtain ⟨k, hk, rfl, hall⟩ := hrel
      by_cases hkl : k < L.length
      · obtain ⟨b, o, rfl, hb, hc, r1, r2⟩ := H.out.cell hkl
        by_cases hg : 0 ≤ L[k] ∧ L[k] < n
        · obtain ⟨g1, g2⟩ := hg
          obtain ⟨x, hx⟩ : ∃ x, L[k] = x := ⟨_, rfl⟩
          rw [hx] at hc g1 g2
          have HX := Lib.hid hx
          have G1 := Lib.hid g1
          have G2 := Lib.hid g2
          clear hx r1 r2
          have t1 : decide (x < 0) = false := by simp; omega
          have t2 : decide (n ≤ x) = false := by simp; omega
          go_wp2
          go_round
          case rel => exact ⟨k + 1, by omega, by go_num, Lib.hid (fun j hj hjk => by
            by_cases e : j = k
            · subst e; rw [HX.out]; exact ⟨G1.out, G2.out⟩
            · exact hall.out j hj (by omega))⟩
          case measure => simp [intOf]; omega
        · have HB := Lib.hid (rowB_no hkl hg)
          obtain ⟨x, hx⟩ : ∃ x, L[k] = x := ⟨_, rfl⟩
          rw [hx] at hc hg r1 r2
          clear hx
          by_cases h0 : x < 0
          · have t1 : decide (x < 0) = true := by simpa using h0
            go_wp2
            go_ret
            exact ⟨ret_bool HB.out.symm, rfl⟩
          · have t1 : decide (x < 0) = false := by simpa using h0
            have t2 : decide (n ≤ x) = true := by simp; omega
            clear hg
            go_wp2
            go_ret
            exact ⟨ret_bool HB.out.symm, rfl⟩
      · have HB := Lib.hid (rowB_yes H256.out (fun j hj => hall.out j hj (by omega)))
        go_wp2
        go_ret
        exact ⟨ret_bool HB.out.symm, rfl⟩
end Go.Proofs.YtgcjclglhijchaaDoor
