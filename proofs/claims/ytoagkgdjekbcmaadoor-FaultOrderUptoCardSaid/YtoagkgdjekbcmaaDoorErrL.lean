/- fault.Of of the two codes below the errors. -/
import Derived.Test.YtoagkgdjekbcmaaDoorErrS
namespace Go.Proofs.YtoagkgdjekbcmaaDoor
open Go Go.RowKit
set_option maxHeartbeats 2000000 in
set_option maxRecDepth 20000 in
theorem of_low (k : Nat) (ea : Nat → Addr) (w : World) (hS : Sent w ea) (h : k < 2) :
    Calls Tryd.prog 9 #[.int .i64 (k : Int)] w fun e w' => e = .returned .nilIface ∧ Below w.heap.size w w' := by
  have e0 := hS.held 0 (by omega)
  have e1 := hS.held 1 (by omega)
  have e2 := hS.held 2 (by omega)
  have e3 := hS.held 3 (by omega)
  have e4 := hS.held 4 (by omega)
  have e5 := hS.held 5 (by omega)
  have e6 := hS.held 6 (by omega)
  have e7 := hS.held 7 (by omega)
  have e8 := hS.held 8 (by omega)
  have e9 := hS.held 9 (by omega)
  have e10 := hS.held 10 (by omega)
  have e11 := hS.held 11 (by omega)
  have e12 := hS.held 12 (by omega)
  have e13 := hS.held 13 (by omega)
  have e14 := hS.held 14 (by omega)
  have e15 := hS.held 15 (by omega)
  simp only [sg, List.getD_cons_zero, List.getD_cons_succ] at e0 e1 e2 e3 e4 e5 e6 e7 e8 e9 e10 e11 e12 e13 e14 e15
  have hc : (w.alloc (.cells (errArr ea) 51)).cell? ⟨w.heap.size, k, none⟩ = some .nilIface := by
    rw [(Blk.new w (errArr ea) 51).cell]
    rcases (by omega : k = 0 ∨ k = 1) with rfl | rfl <;> rfl
  have hk2 : (k : Int) < 18 := by omega
  go_enter Tryd.func9, Tryd.ntmps9
  go_wp2
  go_ret
  exact ⟨rfl, by go_grown⟩
end Go.Proofs.YtoagkgdjekbcmaaDoor
