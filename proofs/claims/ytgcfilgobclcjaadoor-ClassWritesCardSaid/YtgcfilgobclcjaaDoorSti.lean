/- What comes in: a list of sets, a list of texts. -/
import Derived.Test.YtgcfilgobclcjaaDoorAlp
import Derived.Test.YtgcfilgobclcjaaDoorSnc
import Derived.Deep.Slices
namespace Go.Proofs.YtgcfilgobclcjaaDoor
open Go Go.ChangeShapes Go.WideShapes Go.ChangeAt Go.RowKit
/-- A list of sets that came in. -/
def SetsIn (w : World) (v : Value) (L : List (BitVec 256)) : Prop :=
  ∃ a cap, v = .slice a L.length cap ∧ L.length ≤ cap ∧ cap ≤ maxLen ∧ (L = [] ∨ ∃ b o, a = some ⟨b, o, none⟩ ∧ b < w.heap.size ∧ ∀ i (h : i < L.length), w.cell? ⟨b, o + i * 4, none⟩ = some (.int .u64 (wd L[i] 0)) ∧ w.cell? ⟨b, o + i * 4 + 1, none⟩ = some (.int .u64 (wd L[i] 1)) ∧ w.cell? ⟨b, o + i * 4 + 2, none⟩ = some (.int .u64 (wd L[i] 2)) ∧ w.cell? ⟨b, o + i * 4 + 3, none⟩ = some (.int .u64 (wd L[i] 3)))
theorem SetsIn.ext {w w' : World} {v : Value} {L : List (BitVec 256)} (h : SetsIn w v L) (hx : Ext w w') : SetsIn w' v L := by
  obtain ⟨a, cap, hv, h1, h2, h⟩ := h
  refine ⟨a, cap, hv, h1, h2, ?_⟩
  rcases h with h | ⟨b, o, ha, hb, h⟩
  · exact .inl h
  · refine .inr ⟨b, o, ha, Nat.lt_of_lt_of_le hb hx.size, fun i hi => ?_⟩
    obtain ⟨c0, c1, c2, c3⟩ := h i hi
    exact ⟨(hx.cell (p := ⟨b, _, none⟩) hb).trans c0, (hx.cell (p := ⟨b, _, none⟩) hb).trans c1, (hx.cell (p := ⟨b, _, none⟩) hb).trans c2, (hx.cell (p := ⟨b, _, none⟩) hb).trans c3⟩
/-- A list of texts that came in. -/
def StrsIn (w : World) (v : Value) (L : List ByteArray) : Prop :=
  ∃ a cap, v = .slice a L.length cap ∧ L.length ≤ cap ∧ cap ≤ maxLen ∧ (L = [] ∨ ∃ b o, a = some ⟨b, o, none⟩ ∧ b < w.heap.size ∧ ∀ i (h : i < L.length), w.cell? ⟨b, o + i, none⟩ = some (.string L[i]))
theorem StrsIn.ext {w w' : World} {v : Value} {L : List ByteArray} (h : StrsIn w v L) (hx : Ext w w') : StrsIn w' v L := by
  obtain ⟨a, cap, hv, h1, h2, h⟩ := h
  refine ⟨a, cap, hv, h1, h2, ?_⟩
  rcases h with h | ⟨b, o, ha, hb, h⟩
  · exact .inl h
  · exact .inr ⟨b, o, ha, Nat.lt_of_lt_of_le hb hx.size, fun i hi => (hx.cell (p := ⟨b, _, none⟩) hb).trans (h i hi)⟩
theorem SetsIn.cells {w : World} {va : Option Addr} {n cap : Nat} {L : List (BitVec 256)} (h : SetsIn w (.slice va n cap) L) {k : Nat} (hk : k < L.length) :
    ∃ b o, va = some ⟨b, o, none⟩ ∧ b < w.heap.size ∧ ∀ i (h : i < L.length), w.cell? ⟨b, o + i * 4, none⟩ = some (.int .u64 (wd L[i] 0)) ∧ w.cell? ⟨b, o + i * 4 + 1, none⟩ = some (.int .u64 (wd L[i] 1)) ∧ w.cell? ⟨b, o + i * 4 + 2, none⟩ = some (.int .u64 (wd L[i] 2)) ∧ w.cell? ⟨b, o + i * 4 + 3, none⟩ = some (.int .u64 (wd L[i] 3)) := by
  obtain ⟨a', c', h1, _, _, h | ⟨b, o, ha, hb, h⟩⟩ := h
  · subst h; exact absurd hk (by simp)
  · cases h1
    exact ⟨b, o, ha, hb, h⟩
theorem StrsIn.cells {w : World} {va : Option Addr} {n cap : Nat} {L : List ByteArray} (h : StrsIn w (.slice va n cap) L) {k : Nat} (hk : k < L.length) :
    ∃ b o, va = some ⟨b, o, none⟩ ∧ b < w.heap.size ∧ ∀ i (h : i < L.length), w.cell? ⟨b, o + i, none⟩ = some (.string L[i]) := by
  obtain ⟨a', c', h1, _, _, h | ⟨b, o, ha, hb, h⟩⟩ := h
  · subst h; exact absurd hk (by simp)
  · cases h1
    exact ⟨b, o, ha, hb, h⟩
theorem addr_add (b off i : Nat) : (⟨b, off, none⟩ : Addr).add i = ⟨b, off + i, none⟩ := by unfold Addr.add; split <;> simp_all
theorem four_of {α : Type} {l : List α} (h : l.length = 4) : ∃ a b c d, l = [a, b, c, d] :=
  match l, h with
  | [a, b, c, d], _ => ⟨a, b, c, d, rfl⟩
section
variable {H : Type} {enc : TypeId × Value → H} {w : World} {base : Nat} {sp : Nat → Bool} {held : Bool}
theorem set_trod {fuel : Nat} {cs : List Value} {y : DataW H × List MemPlace} (h : DataW.trod enc Tryd.prog w base sp held fuel 29 cs = some y) : ∃ s : BitVec 256, cs = [.int .u64 (wd s 0), .int .u64 (wd s 1), .int .u64 (wd s 2), .int .u64 (wd s 3)] ∧ y.2 = [] := by
  obtain ⟨xs, m, rfl, hx, hl, hn, hel⟩ := DataW.trod_array Tryd.underlying29 h
  have c4 : Tryd.prog.cellsOf 29 = 4 := by kernel_rfl
  have c1 : Tryd.prog.cellsOf 27 = 1 := by kernel_rfl
  rw [c4] at hl
  rw [c1] at hel
  obtain ⟨v0, v1, v2, v3, rfl⟩ := four_of hl
  obtain ⟨x0, x1, x2, x3, rfl⟩ := four_of hn
  have e0 := hel 0 (by omega); have e1 := hel 1 (by omega); have e2 := hel 2 (by omega); have e3 := hel 3 (by omega)
  simp only [Nat.zero_mul, Nat.one_mul, List.drop_zero, List.drop_succ_cons, List.take_succ_cons, List.take_zero, List.getElem?_cons_zero, List.getElem?_cons_succ, Nat.reduceMul] at e0 e1 e2 e3
  obtain ⟨n0, f0, g0, w0⟩ := DataW.trod_int Tryd.underlying27 e0
  obtain ⟨n1, f1, g1, w1⟩ := DataW.trod_int Tryd.underlying27 e1
  obtain ⟨n2, f2, g2, w2⟩ := DataW.trod_int Tryd.underlying27 e2
  obtain ⟨n3, f3, g3, w3⟩ := DataW.trod_int Tryd.underlying27 e3
  simp only [List.cons.injEq, and_true] at f0 f1 f2 f3
  subst f0; subst f1; subst f2; subst f3
  have bd : ∀ n : Int, (Lit.int .u64 n).wf = true → 0 ≤ n ∧ n ≤ 18446744073709551615 := fun n h => by
    simp only [Lit.wf, IntKind.min, IntKind.max, IntKind.signed, IntKind.bits, Bool.and_eq_true] at h
    simp at h
    omega
  obtain ⟨s, s0, s1, s2, s3⟩ := wd_make n0 n1 n2 n3 (bd _ w0) (bd _ w1) (bd _ w2) (bd _ w3)
  subst g0; subst g1; subst g2; subst g3
  exact ⟨s, by rw [s0, s1, s2, s3], by rw [hx]; rfl⟩
end
theorem open_sets {H : Type} {enc : TypeId × Value → H} {w : World} {k : Nat} {c : Value} {y : DataW H × List MemPlace} (h : DataW.trod enc Tryd.prog w 0 (fun _ => true) true k 22 [c] = some y) : ∃ L, SetsIn w c L := by
  have c4 : Tryd.prog.cellsOf 29 = 4 := by kernel_rfl
  rcases Deep.open_slice Tryd.underlying22 h with ⟨hcs, _⟩ | ⟨a, len, cap, m, n, D, Pl, hcs, _, hl, hm, hmm, hx, hel⟩
  · simp only [List.cons.injEq, and_true] at hcs
    subst hcs
    exact ⟨[], none, 0, rfl, Nat.le_refl _, by unfold maxLen; omega, .inl rfl⟩
  · simp only [List.cons.injEq, and_true] at hcs
    subst hcs
    simp only [if_true] at hmm
    rw [c4] at hel
    have hS : ∀ i, ∃ s : BitVec 256, i < len → w.cell? ((a.add (i * 4)).add 0) = some (.int .u64 (wd s 0)) ∧ w.cell? ((a.add (i * 4)).add 1) = some (.int .u64 (wd s 1)) ∧ w.cell? ((a.add (i * 4)).add 2) = some (.int .u64 (wd s 2)) ∧ w.cell? ((a.add (i * 4)).add 3) = some (.int .u64 (wd s 3)) := by
      intro i
      by_cases hi : i < len
      · obtain ⟨cs', h1, h2⟩ := hel i (by omega)
        obtain ⟨s, rfl, _⟩ := set_trod h2
        obtain ⟨_, _, hc⟩ := World.cells?_some h1
        exact ⟨s, fun _ => ⟨hc 0 (by omega), hc 1 (by omega), hc 2 (by omega), hc 3 (by omega)⟩⟩
      · exact ⟨0#256, fun h => absurd h hi⟩
    obtain ⟨S, hS'⟩ := Classical.axiomOfChoice hS
    clear hS
    refine ⟨(List.range len).map S, some a, cap, by simp, by simpa using hl, hm, ?_⟩
    by_cases h0 : len = 0
    · subst h0; exact .inl rfl
    · obtain ⟨b, off, spot⟩ := a
      have hspot : spot = none := by simpa [Addr.add] using World.cell?_spot (hS' 0 (by omega)).1
      subst hspot
      simp only [addr_add] at hS'
      refine .inr ⟨b, off, rfl, World.block_lt_of_cell? w (⟨b, off + 0 * 4 + 0, none⟩ : Addr) (hS' 0 (by omega)).1, fun i hi => ?_⟩
      have hi' : i < len := by simpa using hi
      have := hS' i hi'
      simp only [Nat.add_zero] at this
      simp only [List.getElem_map, List.getElem_range]
      exact this
theorem open_strsIn {H : Type} {enc : TypeId × Value → H} {w : World} {k : Nat} {c : Value} {y : DataW H × List MemPlace} (h : DataW.trod enc Tryd.prog w 0 (fun _ => true) true k 23 [c] = some y) : ∃ L, StrsIn w c L := by
  rcases Deep.open_strs Tryd.underlying23 Tryd.underlying9 (by kernel_rfl) h with ⟨hcs, _⟩ | ⟨a, len, cap, m, Sx, hcs, _, hl, hm, hmm, hx, hel⟩
  · simp only [List.cons.injEq, and_true] at hcs
    subst hcs
    exact ⟨[], none, 0, rfl, Nat.le_refl _, by unfold maxLen; omega, .inl rfl⟩
  · simp only [List.cons.injEq, and_true] at hcs
    subst hcs
    have hlm : len ≤ m := by rw [hmm]; split <;> omega
    refine ⟨(List.range len).map Sx, some a, cap, by simp, by simpa using hl, hm, ?_⟩
    by_cases h0 : len = 0
    · subst h0; exact .inl rfl
    · obtain ⟨b, off, spot⟩ := a
      have hspot : spot = none := by simpa [Addr.add] using World.cell?_spot (hel 0 (by omega)).1
      subst hspot
      refine .inr ⟨b, off, rfl, World.block_lt_of_cell? w (⟨b, off, none⟩ : Addr) (by have := (hel 0 (by omega)).1; rw [addr_add] at this; exact this), fun i hi => ?_⟩
      have hi' : i < len := by simpa using hi
      have := (hel i (by omega)).1
      rw [addr_add] at this
      rw [this]
      simp
end Go.Proofs.YtgcfilgobclcjaaDoor
