/- What append owns, while memory grows. -/
import Derived.Test.YtgcjclglhijchaaDoorBlk
import Derived.Laws.AppendOwn
import Derived.Laws.AppendOwnNone
import Derived.OwnWalk
namespace Go.Proofs.YtgcjclglhijchaaDoor
open Go Go.RowKit
theorem own_xt {w w' : World} {b e sz n : Nat} {v : Value} {xs : List Value} (h : w.ownsRow b e sz v n xs) (hx : Ext w w') : w'.ownsRow b e sz v n xs := by
  obtain ⟨h1, h2 | ⟨g, cap, cur, hv, hb, hh, rest⟩⟩ := h
  · exact ⟨h1, .inl h2⟩
  · exact ⟨h1, .inr ⟨g, cap, cur, hv, hb, by rw [hx.block g (Array.getElem?_eq_some_iff.1 hh).1]; exact hh, rest⟩⟩
theorem ext_gr {w w1 w2 : World} {v : Value} {b e sz n : Nat} {xs : List Value} (h : Ext w w1) (hg : w1.grownBy w2 v.ownBlock) (ho : w1.ownsRow b e sz v n xs) (hb : w.heap.size ≤ b) : Ext w w2 :=
  ⟨hg.os.trans h.os, hg.tape.trans h.tape, hg.output.trans h.output, Nat.le_trans h.size hg.size, fun j hj => (hg.block j (Nat.lt_of_lt_of_le hj h.size) (fun e => by have := (ho.lt j e.symm).1; omega)).trans (h.block j hj)⟩
theorem cell_nw (w : World) (L : List Value) (t : TypeId) : ∀ j u, L[j]? = some u → (w.alloc (.cells L.toArray t)).cell? ((⟨w.heap.size, 0, none⟩ : Addr).add j) = some u := by
  intro j u hu
  have hadd : (⟨w.heap.size, 0, none⟩ : Addr).add j = ⟨w.heap.size, j, none⟩ := by unfold Addr.add; split <;> simp_all
  rw [hadd, (Blk.new w L.toArray t).cell j]
  simpa using hu
theorem cell_nwb (w : World) (L : List Value) (t : TypeId) (b : Nat) (hb : b = w.heap.size) : ∀ j u, L[j]? = some u → (w.alloc (.cells L.toArray t)).cell? ((⟨b, 0, none⟩ : Addr).add j) = some u := by
  subst hb; exact cell_nw w L t
theorem own_nil (w : World) (b e sz : Nat) : w.ownsRow b e sz (.slice none 0 0) 0 [] := ⟨by simp, .inl ⟨rfl, rfl⟩⟩
theorem own_shp {w : World} {b e sz n : Nat} {v : Value} {xs : List Value} (h : w.ownsRow b e sz v n xs) : ∃ a c, v = .slice a n c := by
  obtain ⟨_, ⟨h, rfl⟩ | ⟨g, cap, cur, h, _⟩⟩ := h
  · exact ⟨none, 0, h⟩
  · exact ⟨_, cap, h⟩
end Go.Proofs.YtgcjclglhijchaaDoor
