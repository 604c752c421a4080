/- What the wrappers make. -/
import Derived.Test.YtoagkgdjekbcmaaDoorWrp
namespace Go.Proofs.YtoagkgdjekbcmaaDoor
open Go Go.RowKit
theorem Place_nil (n : Int) (w : World) : Calls Tryd.prog 15 #[.nilIface, .int .i64 n] w fun e w' => e = .returned .nilIface ∧ w' = w := by
  go_enter Tryd.func15, Tryd.ntmps15
  go_wp2
  go_ret
  exact ⟨rfl, rfl⟩
theorem Place_is (L : List (TypeId × Value)) (v : Value) (a : Addr) (n : Int) (w : World) (hL : Chain w L v (errAt a)) (hv : deep v ≤ w.heap.size) :
    Calls Tryd.prog 15 #[v, .int .i64 n] w fun e w' => ∃ v', e = .returned v' ∧ Chain w' ((55, .int .i64 n) :: L) v' (errAt a) ∧ deep v' ≤ w'.heap.size ∧ Below w.heap.size w w' := by
  have hb := Blk.new w #[v, .int .i64 n] 60
  have hE : Ext w (w.alloc (.cells #[v, .int .i64 n] 60)) := by go_grown
  have hLe := hL.ext hE
  have hd : deep (.iface 55 (.pointer (some ⟨w.heap.size, 0, none⟩))) ≤ (w.alloc (.cells #[v, .int .i64 n] 60)).heap.size := by simp [deep]
  obtain ⟨T, x, rfl⟩ := Chain.iface hL
  go_enter Tryd.func15, Tryd.ntmps15
  go_wp2
  go_ret
  exact ⟨_, rfl, ⟨_, _, _, by decide, rfl, hb, hv, hLe⟩, hd, hE⟩
theorem InRule_nil (n : Int) (w : World) : Calls Tryd.prog 22 #[.nilIface, .int .i64 n] w fun e w' => e = .returned .nilIface ∧ w' = w := by
  go_enter Tryd.func22, Tryd.ntmps22
  go_wp2
  go_ret
  exact ⟨rfl, rfl⟩
theorem InRule_is (L : List (TypeId × Value)) (v : Value) (a : Addr) (n : Int) (w : World) (hL : Chain w L v (errAt a)) (hv : deep v ≤ w.heap.size) :
    Calls Tryd.prog 22 #[v, .int .i64 n] w fun e w' => ∃ v', e = .returned v' ∧ Chain w' ((65, .int .i64 n) :: L) v' (errAt a) ∧ deep v' ≤ w'.heap.size ∧ Below w.heap.size w w' := by
  have hb := Blk.new w #[v, .int .i64 n] 68
  have hE : Ext w (w.alloc (.cells #[v, .int .i64 n] 68)) := by go_grown
  have hLe := hL.ext hE
  have hd : deep (.iface 65 (.pointer (some ⟨w.heap.size, 0, none⟩))) ≤ (w.alloc (.cells #[v, .int .i64 n] 68)).heap.size := by simp [deep]
  obtain ⟨T, x, rfl⟩ := Chain.iface hL
  go_enter Tryd.func22, Tryd.ntmps22
  go_wp2
  go_ret
  exact ⟨_, rfl, ⟨_, _, _, by decide, rfl, hb, hv, hLe⟩, hd, hE⟩
theorem InStage_nil (n : Int) (w : World) : Calls Tryd.prog 14 #[.nilIface, .int .i64 n] w fun e w' => e = .returned .nilIface ∧ w' = w := by
  go_enter Tryd.func14, Tryd.ntmps14
  go_wp2
  go_ret
  exact ⟨rfl, rfl⟩
theorem InStage_is (L : List (TypeId × Value)) (v : Value) (a : Addr) (n : Int) (w : World) (hL : Chain w L v (errAt a)) (hv : deep v ≤ w.heap.size) :
    Calls Tryd.prog 14 #[v, .int .i64 n] w fun e w' => ∃ v', e = .returned v' ∧ Chain w' ((69, .int .i64 n) :: L) v' (errAt a) ∧ deep v' ≤ w'.heap.size ∧ Below w.heap.size w w' := by
  have hb := Blk.new w #[v, .int .i64 n] 72
  have hE : Ext w (w.alloc (.cells #[v, .int .i64 n] 72)) := by go_grown
  have hLe := hL.ext hE
  have hd : deep (.iface 69 (.pointer (some ⟨w.heap.size, 0, none⟩))) ≤ (w.alloc (.cells #[v, .int .i64 n] 72)).heap.size := by simp [deep]
  obtain ⟨T, x, rfl⟩ := Chain.iface hL
  go_enter Tryd.func14, Tryd.ntmps14
  go_wp2
  go_ret
  exact ⟨_, rfl, ⟨_, _, _, by decide, rfl, hb, hv, hLe⟩, hd, hE⟩
end Go.Proofs.YtoagkgdjekbcmaaDoor
