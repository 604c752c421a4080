/- A text of constants that is turned into bytes where the order is open. -/
import Derived.Test.YtniamfaiamgncaaDoorBlk
import Derived.Lib.SlBytesConst
namespace Go.Proofs.YtniamfaiamgncaaDoor
open Go Go.RowKit
/-- A new block of these cells, from block B on. -/
def RLit (B : Nat) (cs : Array Value) (t : TypeId) : Value → World → Prop := fun v w => ∃ b, v = .slice (some ⟨b, 0, none⟩) cs.size cs.size ∧ B ≤ b ∧ ∃ f, w.heap[b]? = some (.cells cs t f)
theorem RLit.mono (B : Nat) (cs : Array Value) (t : TypeId) : Mono (RLit B cs t) := by
  rintro v w w' hx ⟨b, hv, hb, f, h⟩
  refine ⟨b, hv, hb, ?_⟩
  rcases hx.2 b (Array.getElem?_eq_some_iff.1 h).1 with e | ⟨c, u, g, g', e1, e2⟩
  · exact ⟨f, by rw [e]; exact h⟩
  · rw [h] at e1
    cases e1
    exact ⟨g', e2⟩
theorem RLit.bytes {B : Nat} {t : TypeId} {v : Value} {w : World} (l : List UInt8) (hl : l.length ≤ 140737488355328) (h : RLit B (l.map ub).toArray t v w) : Bytes w v l := by
  obtain ⟨b, rfl, _, f, h⟩ := h
  have e : (l.map ub).toArray.size = l.length := by simp
  rw [e]
  refine ⟨_, _, rfl, Nat.le_refl _, ⟨hl, by unfold maxLen; omega⟩, .inr ⟨b, 0, rfl, (Array.getElem?_eq_some_iff.1 h).1, fun i _ => ?_⟩⟩
  simp [World.cell?, h]
theorem RLit.new {B : Nat} (w : World) (cs : Array Value) (t : TypeId) (hB : B ≤ w.heap.size) : RLit B cs t (.slice (some ⟨w.heap.size, 0, none⟩) cs.size cs.size) (w.alloc (.cells cs t)) :=
  ⟨w.heap.size, rfl, hB, (0, 0), Blk.new w cs t⟩
theorem run_conv_lit {P : Program} (w : World) (t e : TypeId) (C : Array Value) (f : Nat × Nat) (b n c : Nat) (ht : P.underlying t = some (.slice e)) (he : P.underlying e = some (.int .u8)) (h : w.heap[b]? = some (.cells C e f)) :
    (convert t t (.slice (some ⟨b, 0, none⟩) n c)).run P w = .ok (.slice (some ⟨b, 0, none⟩) n c) (w.freeze ⟨b, C.size, none⟩ 1) := by
  have hsh : w.shape? b = some (e, C.size) := by
    unfold World.shape?
    rw [h]
  simp [convert, run_underlying ht, run_underlying he, markStringish, hsh]
theorem freeze_other (w : World) (b n k : Nat) (h : b ≠ k) : (w.freeze ⟨b, n, none⟩ 1).heap[k]? = w.heap[k]? := by
  simp only [World.freeze, Nat.one_ne_zero, if_false, Array.getElem?_modify, h]
theorem freeze_at (w : World) (b n : Nat) {C : Array Value} {t : TypeId} {f : Nat × Nat} (h : w.heap[b]? = some (.cells C t f)) : ∃ f', (w.freeze ⟨b, n, none⟩ 1).heap[b]? = some (.cells C t f') := by
  obtain ⟨lo, hi⟩ := f
  simp only [World.freeze, Nat.one_ne_zero, if_false, Array.getElem?_modify, h, if_true, Option.map_some]
  exact ⟨_, rfl⟩
theorem freeze_gr {W w : World} {b n : Nat} {C : Array Value} {t : TypeId} {f : Nat × Nat} (hW : W.heap.size ≤ b) (h : w.heap[b]? = some (.cells C t f)) :
    Gr W w (w.freeze ⟨b, n, none⟩ 1) ∧ ∃ f', (w.freeze ⟨b, n, none⟩ 1).heap[b]? = some (.cells C t f') := by
  have hs : (w.freeze ⟨b, n, none⟩ 1).heap.size = w.heap.size := by simp [World.freeze]
  have hb := freeze_at w b n h
  refine ⟨⟨⟨by simp [World.freeze], by simp [World.freeze], by simp [World.freeze], by rw [hs]; exact Nat.le_refl _, fun k hk => ?_⟩, by rw [hs]; exact Nat.le_refl _, fun k hk => ?_⟩, hb⟩
  · exact freeze_other w b n k (by omega)
  · by_cases e : b = k
    · subst e
      obtain ⟨f', hf⟩ := hb
      exact .inr ⟨C, t, f, f', h, hf⟩
    · exact .inl (freeze_other w b n k e)
end Go.Proofs.YtniamfaiamgncaaDoor
