/- Blocks that are known whole; slices whose cells are known: what stays while memory grows. -/
import Derived.Test.YtgcjclglhijchaaDoorStab2
import Derived.WalkKit
import Derived.Deep.Draws
namespace Go.Proofs.YtgcjclglhijchaaDoor
open Go Go.RowKit

/-- Block b holds just these cells. -/
def Blk (w : World) (b : Nat) (vs : Array Value) (t : TypeId) : Prop := w.heap[b]? = some (.cells vs t (0, 0))
section
variable {w w' : World} {b : Nat} {vs : Array Value} {t : TypeId}
theorem Blk.lt (h : Blk w b vs t) : b < w.heap.size := by
  unfold Blk at h
  exact (Array.getElem?_eq_some_iff.1 h).1
theorem Blk.cell (h : Blk w b vs t) (i : Nat) : w.cell? ⟨b, i, none⟩ = vs[i]? := by
  unfold Blk at h
  simp [World.cell?, h]
theorem Blk.free (h : Blk w b vs t) (i : Nat) : w.frozen? ⟨b, i, none⟩ = false := by
  unfold Blk at h
  simp [World.frozen?, h]
theorem Blk.below {B : Nat} (h : Blk w b vs t) (hx : Below B w w') (hb : b < B) : Blk w' b vs t := by
  unfold Blk at *
  rw [hx.block b hb]; exact h
theorem Blk.ext (h : Blk w b vs t) (hx : Ext w w') : Blk w' b vs t := h.below hx h.lt
theorem Blk.new (w : World) (vs : Array Value) (t : TypeId) : Blk (w.alloc (.cells vs t)) w.heap.size vs t := by
  unfold Blk World.alloc
  simp
theorem Blk.alloc (h : Blk w b vs t) (o : Obj) : Blk (w.alloc o) b vs t := by
  have := h.lt
  unfold Blk at *
  rw [Below.heap_alloc _ _ _ this]; exact h
theorem Blk.drew (h : Blk w b vs t) : Blk w.drew b vs t := h
theorem Blk.drewN (h : Blk w b vs t) (n : Nat) : Blk (w.drewN n) b vs t := h
theorem Blk.grown {row : Option Nat} (h : Blk w b vs t) (hg : w.grownBy w' row) (hne : row ≠ some b) : Blk w' b vs t := by
  have := h.lt
  unfold Blk at *
  rw [hg.block b this (fun e => hne e.symm)]; exact h
theorem Blk.set (h : Blk w b vs t) (i : Nat) (v : Value) : Blk (w.setCell ⟨b, i, none⟩ v) b (vs.setIfInBounds i v) t := by
  unfold Blk at *
  simp [World.setCell, Array.getElem?_modify, h]
theorem Blk.set_other {a : Addr} (h : Blk w b vs t) (hb : a.block ≠ b) (v : Value) : Blk (w.setCell a v) b vs t := by
  unfold Blk at *
  rw [Below.heap_setCell _ _ _ _ (Ne.symm hb)]; exact h
theorem Blk.cells1 {x0 : Value} (h : Blk w b #[x0] t) : w.cell? ⟨b, 0, none⟩ = some x0 := h.cell 0
theorem Blk.cells2 {x0 x1 : Value} (h : Blk w b #[x0, x1] t) : w.cell? ⟨b, 0, none⟩ = some x0 ∧ w.cell? ⟨b, 1, none⟩ = some x1 := ⟨h.cell 0, h.cell 1⟩
theorem Blk.cells4 {x0 x1 x2 x3 : Value} (h : Blk w b #[x0, x1, x2, x3] t) : w.cell? ⟨b, 0, none⟩ = some x0 ∧ w.cell? ⟨b, 1, none⟩ = some x1 ∧ w.cell? ⟨b, 2, none⟩ = some x2 ∧ w.cell? ⟨b, 3, none⟩ = some x3 :=
  ⟨h.cell 0, h.cell 1, h.cell 2, h.cell 3⟩
theorem Blk.store4 {x0 x1 x2 x3 : Value} (h : Blk w b #[x0, x1, x2, x3] t) (y0 y1 y2 y3 : Value) : Blk ((((w.setCell ⟨b, 0, none⟩ y0).setCell ⟨b, 1, none⟩ y1).setCell ⟨b, 2, none⟩ y2).setCell ⟨b, 3, none⟩ y3) b #[y0, y1, y2, y3] t :=
  (((h.set 0 y0).set 1 y1).set 2 y2).set 3 y3
theorem Blk.other4 {c : Nat} (h : Blk w c vs t) (hb : b ≠ c) (y0 y1 y2 y3 : Value) : Blk ((((w.setCell ⟨b, 0, none⟩ y0).setCell ⟨b, 1, none⟩ y1).setCell ⟨b, 2, none⟩ y2).setCell ⟨b, 3, none⟩ y3) c vs t :=
  (((h.set_other (a := ⟨b, 0, none⟩) hb y0).set_other (a := ⟨b, 1, none⟩) hb y1).set_other (a := ⟨b, 2, none⟩) hb y2).set_other (a := ⟨b, 3, none⟩) hb y3
end

/-- A slice of n elements whose cells, one behind the other, are these. -/
def Slc (w : World) (v : Value) (n : Nat) (cs : List Value) : Prop :=
  ∃ a cap, v = .slice a n cap ∧ n ≤ cap ∧ (n ≤ 140737488355328 ∧ cap ≤ maxLen) ∧ (cs = [] ∨ ∃ b o, a = some ⟨b, o, none⟩ ∧ b < w.heap.size ∧ ∀ i, i < cs.length → w.cell? ⟨b, o + i, none⟩ = cs[i]?)
section
variable {w w' : World} {v : Value} {n : Nat} {cs : List Value}
theorem Slc.below {B : Nat} (h : Slc w v n cs) (hx : Below B w w') (hB : w.heap.size ≤ B) : Slc w' v n cs := by
  obtain ⟨a, cap, hv, h1, h2, h⟩ := h
  refine ⟨a, cap, hv, h1, h2, ?_⟩
  rcases h with h | ⟨b, o, ha, hb, h⟩
  · exact .inl h
  · exact .inr ⟨b, o, ha, Nat.lt_of_lt_of_le hb hx.size, fun i hi => by rw [hx.cell (p := ⟨b, o + i, none⟩) (Nat.lt_of_lt_of_le hb hB)]; exact h i hi⟩
theorem Slc.ext (h : Slc w v n cs) (hx : Ext w w') : Slc w' v n cs := h.below hx (Nat.le_refl _)
theorem Slc.lk (h : Slc w v n cs) (hx : Lk w w') : Slc w' v n cs := by
  obtain ⟨a, cap, hv, h1, h2, h⟩ := h
  refine ⟨a, cap, hv, h1, h2, ?_⟩
  rcases h with h | ⟨b, o, ha, hb, h⟩
  · exact .inl h
  · exact .inr ⟨b, o, ha, Nat.lt_of_lt_of_le hb hx.1, fun i hi => by rw [hx.cell hb]; exact h i hi⟩
theorem Slc.nil (w : World) : Slc w (.slice none 0 0) 0 [] := ⟨none, 0, rfl, Nat.le_refl _, by unfold maxLen; omega, .inl rfl⟩
end
/-- What the call owns itself is a slice whose cells are known. -/
theorem Slc.of_own {w : World} {base e size : Nat} {v : Value} {n : Nat} {xs : List Value} (h : w.ownsRow base e size v n xs) (hn : n ≤ 140737488355328) : Slc w v n xs := by
  obtain ⟨hl, ⟨rfl, rfl⟩ | ⟨g, cap, cur, rfl, hb, hg, h1, h2, h3, h4⟩⟩ := h
  · exact ⟨none, 0, rfl, Nat.le_refl _, ⟨hn, by unfold maxLen; omega⟩, .inl (by simpa using hl)⟩
  · refine ⟨_, cap, rfl, h1, ⟨hn, h2⟩, .inr ⟨g, 0, rfl, (Array.getElem?_eq_some_iff.1 hg).1, fun i hi => ?_⟩⟩
    have : i < n * size := by omega
    simp only [World.cell?, hg, Nat.zero_add]
    rw [← h4, List.getElem?_take_of_lt this]
    simp
/-- Bytes, as a value holds them. -/
abbrev ub (x : UInt8) : Value := .int .u8 (x.toNat : Int)
/-- Byte i of a list (0 beyond its end). -/
def nth (l : List UInt8) (i : Nat) : UInt8 := l.getD i 0
theorem nth_eq {l : List UInt8} {i : Nat} (h : i < l.length) : nth l i = l[i] := by simp [nth, List.getD_eq_getElem?_getD, h]
theorem nth_lo (l : List UInt8) (i : Nat) : 0 ≤ ((nth l i).toNat : Int) := by omega
theorem nth_hi (l : List UInt8) (i : Nat) : ((nth l i).toNat : Int) ≤ 255 := by have := (nth l i).toNat_lt; omega
def Bytes (w : World) (v : Value) (l : List UInt8) : Prop := Slc w v l.length (l.map ub)
theorem Bytes.ext {w w' : World} {v : Value} {l : List UInt8} (h : Bytes w v l) (hx : Ext w w') : Bytes w' v l := Slc.ext h hx
theorem Bytes.lk {w w' : World} {v : Value} {l : List UInt8} (h : Bytes w v l) (hx : Lk w w') : Bytes w' v l := Slc.lk h hx
theorem Bytes.open {w : World} {v : Value} {l : List UInt8} (h : Bytes w v l) : l.length ≤ 140737488355328 ∧ ((l = [] ∧ ∃ a cap, v = .slice a 0 cap) ∨
    ∃ b o cap, v = .slice (some ⟨b, o, none⟩) l.length cap ∧ l.length ≤ cap ∧ cap ≤ maxLen ∧ 0 < l.length ∧ b < w.heap.size ∧ ∀ i, i < l.length → w.cell? ⟨b, o + i, none⟩ = some (ub (nth l i))) := by
  obtain ⟨a, cap, rfl, h1, h2, h⟩ := h
  refine ⟨h2.1, ?_⟩
  cases l with
  | nil => exact .inl ⟨rfl, a, cap, rfl⟩
  | cons x l =>
    rcases h with h | ⟨b, o, rfl, hb, h⟩
    · simp at h
    · refine .inr ⟨b, o, cap, rfl, h1, h2.2, by simp, hb, fun i hi => ?_⟩
      rw [h i (by simpa using hi)]
      rw [List.getElem?_map, List.getElem?_eq_getElem hi, nth_eq hi]
      rfl
/-- Spans of bytes, two cells each. -/
def scells (l : List (UInt8 × UInt8)) : List Value := l.flatMap fun p => [ub p.1, ub p.2]
def slo (l : List (UInt8 × UInt8)) (i : Nat) : UInt8 := (l.getD i (0, 0)).1
def shi (l : List (UInt8 × UInt8)) (i : Nat) : UInt8 := (l.getD i (0, 0)).2
theorem scells_len (l : List (UInt8 × UInt8)) : (scells l).length = 2 * l.length := by
  induction l with
  | nil => rfl
  | cons x l ih => simp only [scells, List.flatMap_cons, List.length_append, List.length_cons, List.length_nil] at *; omega
theorem scells_at (l : List (UInt8 × UInt8)) : ∀ i, i < l.length → (scells l)[2 * i]? = some (ub (slo l i)) ∧ (scells l)[2 * i + 1]? = some (ub (shi l i)) := by
  induction l with
  | nil => intro i hi; simp at hi
  | cons x l ih =>
    intro i hi
    cases i with
    | zero => exact ⟨rfl, rfl⟩
    | succ i =>
      have h := ih i (by simpa using hi)
      have e : 2 * (i + 1) = 2 * i + 1 + 1 := by omega
      rw [e]
      exact h
def Spans (w : World) (v : Value) (l : List (UInt8 × UInt8)) : Prop := Slc w v l.length (scells l)
theorem Spans.ext {w w' : World} {v : Value} {l : List (UInt8 × UInt8)} (h : Spans w v l) (hx : Ext w w') : Spans w' v l := Slc.ext h hx
theorem Spans.lk {w w' : World} {v : Value} {l : List (UInt8 × UInt8)} (h : Spans w v l) (hx : Lk w w') : Spans w' v l := Slc.lk h hx
theorem Spans.open {w : World} {v : Value} {l : List (UInt8 × UInt8)} (h : Spans w v l) : l.length ≤ 140737488355328 ∧ ((l = [] ∧ ∃ a cap, v = .slice a 0 cap) ∨
    ∃ b o cap, v = .slice (some ⟨b, o, none⟩) l.length cap ∧ l.length ≤ cap ∧ cap ≤ maxLen ∧ 0 < l.length ∧ b < w.heap.size ∧ ∀ i, i < l.length → w.cell? ⟨b, o + i * 2, none⟩ = some (ub (slo l i)) ∧ w.cell? ⟨b, o + i * 2 + 1, none⟩ = some (ub (shi l i))) := by
  obtain ⟨a, cap, rfl, h1, h2, h⟩ := h
  refine ⟨h2.1, ?_⟩
  cases l with
  | nil => exact .inl ⟨rfl, a, cap, rfl⟩
  | cons x l =>
    rcases h with h | ⟨b, o, rfl, hb, h⟩
    · simp [scells] at h
    · refine .inr ⟨b, o, cap, rfl, h1, h2.2, by simp, hb, fun i hi => ?_⟩
      have hl := scells_len (x :: l)
      obtain ⟨e1, e2⟩ := scells_at (x :: l) i hi
      exact ⟨by rw [Nat.mul_comm, h (2 * i) (by omega), e1], by rw [Nat.mul_comm, Nat.add_assoc, h (2 * i + 1) (by omega), e2]⟩
theorem slo_lo (l : List (UInt8 × UInt8)) (i : Nat) : 0 ≤ ((slo l i).toNat : Int) := by omega
theorem slo_hi (l : List (UInt8 × UInt8)) (i : Nat) : ((slo l i).toNat : Int) ≤ 255 := by have := (slo l i).toNat_lt; omega
theorem shi_lo (l : List (UInt8 × UInt8)) (i : Nat) : 0 ≤ ((shi l i).toNat : Int) := by omega
theorem shi_hi (l : List (UInt8 × UInt8)) (i : Nat) : ((shi l i).toNat : Int) ≤ 255 := by have := (shi l i).toNat_lt; omega
/-- What lies below the call's beginning stays, call by call. -/
theorem bel_call {w0 w w1 : World} (h : Below w0.heap.size w0 w) (hE : Below w.heap.size w w1) : Below w0.heap.size w0 w1 := h.trans (hE.mono h.size)
theorem bel_alloc {w0 w w1 : World} (h : Below w0.heap.size w0 w) (hE : Below w.heap.size w w1) (o : Obj) : Below w0.heap.size w0 (w1.alloc o) := (bel_call h hE).alloc (bel_call h hE).size o
end Go.Proofs.YtgcjclglhijchaaDoor
