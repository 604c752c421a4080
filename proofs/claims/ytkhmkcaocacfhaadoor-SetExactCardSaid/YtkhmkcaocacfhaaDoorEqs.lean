/- What each call of package byteset does, its answer under a name. -/
import Derived.Test.YtkhmkcaocacfhaaDoorLea
import Derived.Test.YtkhmkcaocacfhaaDoorSpans
import Derived.Test.YtkhmkcaocacfhaaDoorRow
namespace Go.Proofs.YtkhmkcaocacfhaaDoor
open Go Go.RowKit
/-- What lies below the call's beginning stays, call by call. -/
theorem bel_call {w0 w w1 : World} (h : Below w0.heap.size w0 w) (hE : Below w.heap.size w w1) : Below w0.heap.size w0 w1 := h.trans (hE.mono h.size)
theorem bel_alloc {w0 w w1 : World} (h : Below w0.heap.size w0 w) (hE : Below w.heap.size w w1) (o : Obj) : Below w0.heap.size w0 (w1.alloc o) := (bel_call h hE).alloc (bel_call h hE).size o
theorem inter_eq (s t r : BitVec 256) (h : s &&& t = r) (w : World) :
    Calls Tryd.prog 27 #[sv s, sv t] w fun e w' => e = .returned (sv r) ∧ Below w.heap.size w w' := by subst h; exact inter_any s t w
theorem within_eq (s t : BitVec 256) (q : Bool) (h : decide (s &&& ~~~t = 0#256) = q) (w : World) :
    Calls Tryd.prog 33 #[sv s, sv t] w fun e w' => e = .returned (.bool q) ∧ Below w.heap.size w w' := by subst h; exact within_any s t w
theorem all_eq (r : BitVec 256) (h : full = r) (w : World) :
    Calls Tryd.prog 21 #[] w fun e w' => e = .returned (sv r) ∧ Below w.heap.size w w' := by subst h; exact all_any w
theorem range_eq (lo hi : Int) (r : BitVec 256) (h0 : 0 ≤ lo) (h1 : lo ≤ 255) (g0 : 0 ≤ hi) (g1 : hi ≤ 255) (h : rng lo hi = r) (w : World) :
    Calls Tryd.prog 23 #[.int .u8 lo, .int .u8 hi] w fun e w' => e = .returned (sv r) ∧ Below w.heap.size w w' := by subst h; exact range_any lo hi w h0 h1 g0 g1
theorem cnt_low : ∀ k : Fin 256, cnt (rng 0 (k.val : Int)) = k.val + 1 := by decide +kernel
theorem rng_split : ∀ k : Fin 256, rng 0 (k.val : Int) ||| rng (k.val : Int) 255 = full := by decide +kernel
theorem bit_within (a : BitVec 256) (k : Nat) (hk : k < 256) : decide ((1#256 <<< k) &&& ~~~a = 0#256) = a.getLsbD k := by
  cases h : a.getLsbD k with
  | true =>
    apply decide_eq_true
    apply BitVec.eq_of_getLsbD_eq
    intro i hi
    rw [BitVec.getLsbD_and, BitVec.getLsbD_not, BitVec.getLsbD_shiftLeft, BitVec.getLsbD_one]
    by_cases e : i = k
    · subst e; rw [h]; simp
    · by_cases e2 : i < k
      · simp [e2]
      · have : ¬ i - k = 0 := by omega
        simp [this]
  | false =>
    apply decide_eq_false
    intro h2
    have := congrArg (fun s : BitVec 256 => s.getLsbD k) h2
    simp only [BitVec.getLsbD_and, BitVec.getLsbD_not, BitVec.getLsbD_shiftLeft, BitVec.getLsbD_one, h] at this
    simp [hk] at this
end Go.Proofs.YtkhmkcaocacfhaaDoor
