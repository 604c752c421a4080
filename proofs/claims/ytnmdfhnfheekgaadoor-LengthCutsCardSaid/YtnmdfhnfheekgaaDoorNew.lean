/- Errors that are made: of somebody's own text, in whatever wrappers. -/
import Derived.Test.YtnmdfhnfheekgaaDoorTell
import Derived.Test.YtnmdfhnfheekgaaDoorMade
namespace Go.Proofs.YtnmdfhnfheekgaaDoor
open Go Go.RowKit
theorem own_blw {w w' : World} {b e sz n B : Nat} {v : Value} {xs : List Value} (h : w.ownsRow b e sz v n xs) (hb : Below B w w') (hB : w.heap.size ≤ B) : w'.ownsRow b e sz v n xs := by
  obtain ⟨h1, h2 | ⟨g, cap, cur, hv, hg, hh, h3, h4, h5, h6⟩⟩ := h
  · exact ⟨h1, .inl h2⟩
  · exact ⟨h1, .inr ⟨g, cap, cur, hv, hg, by rw [hb.block g (Nat.lt_of_lt_of_le (Array.getElem?_eq_some_iff.1 hh).1 hB)]; exact hh, h3, h4, h5, h6⟩⟩
/-- 'v' is the error at 'a' in the wrappers 'K'. -/
def ErrOf (w : World) (K : List Wr) (v : Value) (a : Addr) : Prop := ∃ L, Chain w L v (errAt a) ∧ Wraps w K L ∧ deep v ≤ w.heap.size ∧ ∃ c t, w.heap[a.block]? = some (.cells c t (0, 0))
theorem ErrOf.ext {w w' : World} {K : List Wr} {v : Value} {a : Addr} (h : ErrOf w K v a) (hx : Ext w w') : ErrOf w' K v a := by
  obtain ⟨L, hL, hW, hv, ca, ta, ha⟩ := h
  exact ⟨L, hL.ext hx, hW.ext hx, Nat.le_trans hv hx.size, ca, ta, by rw [hx.block _ (Array.getElem?_eq_some_iff.1 ha).1]; exact ha⟩
theorem ErrOf.iface {w : World} {K : List Wr} {v : Value} {a : Addr} (h : ErrOf w K v a) : ∃ T x, v = .iface T x := by
  obtain ⟨L, hL, _⟩ := h
  exact Chain.iface hL
theorem ErrOf.base {w : World} {a : Addr} (h : ∃ c t, w.heap[a.block]? = some (.cells c t (0, 0))) : ErrOf w [] (errAt a) a := by
  obtain ⟨c, t, hc⟩ := h
  exact ⟨[], rfl, trivial, (Array.getElem?_eq_some_iff.1 hc).1, c, t, hc⟩
theorem InRule_err (K : List Wr) (v : Value) (a : Addr) (n : Int) (w : World) (h : ErrOf w K v a) :
    Calls Tryd.prog 30 #[v, .int .i64 n] w fun e w' => ∃ v', e = .returned v' ∧ ErrOf w' (.rule n :: K) v' a ∧ Below w.heap.size w w' := by
  obtain ⟨L, hL, hW, hv, ca, ta, ha⟩ := h
  refine (InRule_is L v a n w hL hv).mono ?_
  rintro e w' ⟨v', rfl, h1, h2, hE⟩
  exact ⟨v', rfl, ⟨_, h1, ⟨rfl, rfl, hW.ext hE⟩, h2, ca, ta, by rw [hE.block _ (Array.getElem?_eq_some_iff.1 ha).1]; exact ha⟩, hE⟩
theorem tell_err (ea : Nat → Addr) (a : Addr) (K : List Wr) (v : Value) (w : World) (hS : Sent w ea) (hG : ErrT w) (h : ErrOf w K v a) :
    Calls Tryd.prog 26 #[v] w fun e w' => ∃ f, e = .returned f ∧ Fault w' f (codeAt ea a 16 0) (tStage K) (tRule K) (tAt K) (tNames K) ∧ Below w.heap.size w w' := by
  obtain ⟨L, hL, hW, _, ha⟩ := h
  exact tell_is ea a K L v w hS hG hL hW ha
theorem code_err (ea : Nat → Addr) (a : Addr) (K : List Wr) (v : Value) (w : World) (hS : Sent w ea) (h : ErrOf w K v a) :
    Calls Tryd.prog 45 #[v] w fun e w' => e = .returned (.int .i64 (codeAt ea a 16 0)) ∧ Below w.heap.size w w' := by
  obtain ⟨L, hL, _, _, ha⟩ := h
  exact code_is ea a L v w hS hL ha
theorem new_err (s : ByteArray) (w : World) :
    Calls Tryd.prog 118 #[.string s] w fun e w' => e = .returned (errAt ⟨w.heap.size, 0, none⟩) ∧ ErrOf w' [] (errAt ⟨w.heap.size, 0, none⟩) ⟨w.heap.size, 0, none⟩ ∧ Below w.heap.size w w' := by
  have hb := Blk.new w #[.string s] 185
  go_enter Tryd.func118, Tryd.ntmps118
  go_wp2
  go_ret
  exact ⟨rfl, ErrOf.base ⟨_, _, hb⟩, by go_grown⟩
end Go.Proofs.YtnmdfhnfheekgaaDoor
