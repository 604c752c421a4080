/- What the wrappers make. -/
import Derived.Test.YtnmdfhnfheekgaaDoorWrp
namespace Go.Proofs.YtnmdfhnfheekgaaDoor
open Go Go.RowKit
theorem InRule_nil (n : Int) (w : World) : Calls Tryd.prog 30 #[.nilIface, .int .i64 n] w fun e w' => e = .returned .nilIface ∧ w' = w := by
  go_enter Tryd.func30, Tryd.ntmps30
  go_wp2
  go_ret
  exact ⟨rfl, rfl⟩
theorem InRule_is (L : List (TypeId × Value)) (v : Value) (a : Addr) (n : Int) (w : World) (hL : Chain w L v (errAt a)) (hv : deep v ≤ w.heap.size) :
    Calls Tryd.prog 30 #[v, .int .i64 n] w fun e w' => ∃ v', e = .returned v' ∧ Chain w' ((105, .int .i64 n) :: L) v' (errAt a) ∧ deep v' ≤ w'.heap.size ∧ Below w.heap.size w w' := by
  have hb := Blk.new w #[v, .int .i64 n] 108
  have hE : Ext w (w.alloc (.cells #[v, .int .i64 n] 108)) := by go_grown
  have hLe := hL.ext hE
  have hd : deep (.iface 105 (.pointer (some ⟨w.heap.size, 0, none⟩))) ≤ (w.alloc (.cells #[v, .int .i64 n] 108)).heap.size := by simp [deep]
  obtain ⟨T, x, rfl⟩ := Chain.iface hL
  go_enter Tryd.func30, Tryd.ntmps30
  go_wp2
  go_ret
  exact ⟨_, rfl, ⟨_, _, _, by decide, rfl, hb, hv, hLe⟩, hd, hE⟩
end Go.Proofs.YtnmdfhnfheekgaaDoor
