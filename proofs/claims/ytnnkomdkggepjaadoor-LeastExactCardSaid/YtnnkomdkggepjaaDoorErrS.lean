/- fault.Of, where a code has an error. -/
import Derived.Test.YtnnkomdkggepjaaDoorErr
namespace Go.Proofs.YtnnkomdkggepjaaDoor
open Go Go.RowKit
abbrev errArr (ea : Nat → Addr) : Array Value := #[.nilIface, .nilIface, errAt (ea 0), errAt (ea 1), errAt (ea 2), errAt (ea 3), errAt (ea 4), errAt (ea 5), errAt (ea 6), errAt (ea 7), errAt (ea 8), errAt (ea 9), errAt (ea 10), errAt (ea 11), errAt (ea 12), errAt (ea 13), errAt (ea 14), errAt (ea 15)]
theorem errArr_at (ea : Nat → Addr) : ∀ k, k < 16 → (errArr ea)[k + 2]? = some (errAt (ea k))
  | 0, _ => rfl
  | 1, _ => rfl
  | 2, _ => rfl
  | 3, _ => rfl
  | 4, _ => rfl
  | 5, _ => rfl
  | 6, _ => rfl
  | 7, _ => rfl
  | 8, _ => rfl
  | 9, _ => rfl
  | 10, _ => rfl
  | 11, _ => rfl
  | 12, _ => rfl
  | 13, _ => rfl
  | 14, _ => rfl
  | 15, _ => rfl
  | n + 16, h => by omega
set_option maxHeartbeats 2000000 in
set_option maxRecDepth 20000 in
theorem of_some (k : Nat) (ea : Nat → Addr) (w : World) (hS : Sent w ea) (h : k < 16) :
    Calls Tryd.prog 53 #[.int .i64 ((k : Int) + 2)] w fun e w' => e = .returned (errAt (ea k)) ∧ Below w.heap.size w w' := by
  have e0 := hS.held 0 (by omega)
  have e1 := hS.held 1 (by omega)
  have e2 := hS.held 2 (by omega)
  have e3 := hS.held 3 (by omega)
  have e4 := hS.held 4 (by omega)
  have e5 := hS.held 5 (by omega)
  have e6 := hS.held 6 (by omega)
  have e7 := hS.held 7 (by omega)
  have e8 := hS.held 8 (by omega)
  have e9 := hS.held 9 (by omega)
  have e10 := hS.held 10 (by omega)
  have e11 := hS.held 11 (by omega)
  have e12 := hS.held 12 (by omega)
  have e13 := hS.held 13 (by omega)
  have e14 := hS.held 14 (by omega)
  have e15 := hS.held 15 (by omega)
  simp only [sg, List.getD_cons_zero, List.getD_cons_succ] at e0 e1 e2 e3 e4 e5 e6 e7 e8 e9 e10 e11 e12 e13 e14 e15
  have hc : (w.alloc (.cells (errArr ea) 124)).cell? ⟨w.heap.size, k + 2, none⟩ = some (errAt (ea k)) := by rw [(Blk.new w (errArr ea) 124).cell, errArr_at ea k h]
  have hk2 : (k : Int) + 2 < 18 := by omega
  go_enter Tryd.func53, Tryd.ntmps53
  go_wp2
  go_ret
  exact ⟨rfl, by go_grown⟩
end Go.Proofs.YtnnkomdkggepjaaDoor
