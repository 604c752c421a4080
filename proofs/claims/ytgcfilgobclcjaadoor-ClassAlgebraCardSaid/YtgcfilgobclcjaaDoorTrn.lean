/- A region whose order is left open and that makes a block and stores into it: the block may turn once, from what it was made with to what is stored. -/
import Derived.Test.YtgcfilgobclcjaaDoorStabH
import Derived.Test.YtgcfilgobclcjaaDoorKls
namespace Go.Proofs.YtgcfilgobclcjaaDoor
open Go Go.RowKit
/-- Blocks below B stay; a block above may turn from z to t. -/
def Tn (B : Nat) (z t : Obj) (w w' : World) : Prop := Below B w w' ∧ ∀ k, k < w.heap.size → w'.heap[k]? = w.heap[k]? ∨ (w.heap[k]? = some z ∧ w'.heap[k]? = some t)
instance (B : Nat) (z t : Obj) : G.GOK (Tn B z t) where
  refl w := ⟨Below.refl _ _, fun _ _ => .inl rfl⟩
  trans := fun h k => ⟨h.1.trans k.1, fun i hi => by
    have hi2 := Nat.lt_of_lt_of_le hi h.1.size
    rcases h.2 i hi with e | ⟨e1, e2⟩ <;> rcases k.2 i hi2 with f | ⟨f1, f2⟩
    · exact .inl (f.trans e)
    · exact .inr ⟨e.symm.trans f1, f2⟩
    · exact .inr ⟨e1, f.trans e2⟩
    · exact .inr ⟨e1, f2⟩⟩
  draw w := ⟨⟨rfl, rfl, rfl, Nat.le_refl _, fun _ _ => rfl⟩, fun _ _ => .inl rfl⟩
theorem Tn.of_ext {B : Nat} {z t : Obj} {w w' : World} (h : Ext w w') (hB : B ≤ w.heap.size) : Tn B z t w w' := ⟨h.mono hB, fun k hk => .inl (h.block k hk)⟩
/-- The block has the one content or the other; it has the other. -/
def Bz (z t : Obj) (w : World) (b : Nat) : Prop := w.heap[b]? = some z ∨ w.heap[b]? = some t
def Bt (t : Obj) (w : World) (b : Nat) : Prop := w.heap[b]? = some t
theorem blk_lt {w : World} {b : Nat} {o : Obj} (h : w.heap[b]? = some o) : b < w.heap.size := (Array.getElem?_eq_some_iff.1 h).1
theorem Bz.lt {z t : Obj} {w : World} {b : Nat} (h : Bz z t w b) : b < w.heap.size := h.elim blk_lt blk_lt
theorem Bt.tn {B : Nat} {z t : Obj} {w w' : World} {b : Nat} (h : Bt t w b) (hx : Tn B z t w w') : Bt t w' b := by
  rcases hx.2 b (blk_lt h) with e | ⟨_, e⟩
  · exact e.trans h
  · exact e
theorem Bz.tn {B : Nat} {z t : Obj} {w w' : World} {b : Nat} (h : Bz z t w b) (hx : Tn B z t w w') : Bz z t w' b := by
  rcases hx.2 b h.lt with e | ⟨_, e⟩
  · exact h.elim (fun h => .inl (e.trans h)) (fun h => .inr (e.trans h))
  · exact .inr e
def RMade (B : Nat) (z t : Obj) : Value → Value → World → Prop := fun _ v w => ∃ b, v = .pointer (some ⟨b, 0, none⟩) ∧ B ≤ b ∧ Bz z t w b
def RSet (B : Nat) (t : Obj) : Value → Value → World → Prop := fun u _ w => ∃ b, u = .pointer (some ⟨b, 0, none⟩) ∧ B ≤ b ∧ Bt t w b
/-- Operation ja makes the block, operation js stores into it through slot s. -/
def RsT1 (ja js s B : Nat) (z t : Obj) : H.RsT := fun j => if j = ja then some (none, RMade B z t) else if j = js then some (some (.tmp s), RSet B t) else none
theorem RsT1_mono (ja js s B : Nat) (z t : Obj) : H.RsMono (Tn B z t) (RsT1 ja js s B z t) := by
  intro j x R h u v w w' hx hR
  unfold RsT1 at h
  split at h
  · cases h
    obtain ⟨b, hv, hb, hB⟩ := hR
    exact ⟨b, hv, hb, hB.tn hx⟩
  · split at h
    · cases h
      obtain ⟨b, hv, hb, hB⟩ := hR
      exact ⟨b, hv, hb, hB.tn hx⟩
    · cases h
theorem Tn.store4 {B b : Nat} {w : World} {z0 z1 z2 z3 y0 y1 y2 y3 : Value} {ty : TypeId} (hb : B ≤ b) (h : Bz (.cells #[z0, z1, z2, z3] ty) (.cells #[y0, y1, y2, y3] ty) w b) :
    Tn B (.cells #[z0, z1, z2, z3] ty) (.cells #[y0, y1, y2, y3] ty) w ((((w.setCell ⟨b, 0, none⟩ y0).setCell ⟨b, 1, none⟩ y1).setCell ⟨b, 2, none⟩ y2).setCell ⟨b, 3, none⟩ y3)
      ∧ Bt (.cells #[y0, y1, y2, y3] ty) ((((w.setCell ⟨b, 0, none⟩ y0).setCell ⟨b, 1, none⟩ y1).setCell ⟨b, 2, none⟩ y2).setCell ⟨b, 3, none⟩ y3) b := by
  have hg := grown_set4 w b y0 y1 y2 y3
  have hs : Blk ((((w.setCell ⟨b, 0, none⟩ y0).setCell ⟨b, 1, none⟩ y1).setCell ⟨b, 2, none⟩ y2).setCell ⟨b, 3, none⟩ y3) b #[y0, y1, y2, y3] ty := by
    rcases h with h | h
    · exact Blk.store4 (show Blk w b #[z0, z1, z2, z3] ty from h) y0 y1 y2 y3
    · exact Blk.store4 (show Blk w b #[y0, y1, y2, y3] ty from h) y0 y1 y2 y3
  refine ⟨⟨⟨hg.os, hg.tape, hg.output, hg.size, fun k hk => hg.block k (by have := h.lt; omega) (by simp; omega)⟩, fun k hk => ?_⟩, hs⟩
  by_cases e : k = b
  · subst e
    rcases h with h | h
    · exact .inr ⟨h, hs⟩
    · exact .inl (Eq.trans hs h.symm)
  · exact .inl (hg.block k hk (by simpa using e))
theorem Bz.cells4 {w : World} {b : Nat} {z0 z1 z2 z3 y0 y1 y2 y3 : Value} {ty : TypeId} (h : Bz (.cells #[z0, z1, z2, z3] ty) (.cells #[y0, y1, y2, y3] ty) w b) :
    ∃ x0 x1 x2 x3, Blk w b #[x0, x1, x2, x3] ty ∧ w.cell? ⟨b, 0, none⟩ = some x0 ∧ w.cell? ⟨b, 1, none⟩ = some x1 ∧ w.cell? ⟨b, 2, none⟩ = some x2 ∧ w.cell? ⟨b, 3, none⟩ = some x3 := by
  rcases h with h | h
  · have hb : Blk w b #[z0, z1, z2, z3] ty := h
    exact ⟨z0, z1, z2, z3, hb, hb.cells4⟩
  · have hb : Blk w b #[y0, y1, y2, y3] ty := h
    exact ⟨y0, y1, y2, y3, hb, hb.cells4⟩
end Go.Proofs.YtgcfilgobclcjaaDoor
