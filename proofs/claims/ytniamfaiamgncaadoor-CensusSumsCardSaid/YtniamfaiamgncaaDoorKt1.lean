/- Package census: counts that are kept with whether they are whole. -/
import Derived.Test.YtniamfaiamgncaaDoorCnp
import Derived.Test.YtniamfaiamgncaaDoorChm
import Derived.Test.YtniamfaiamgncaaDoorPtr
import Derived.Laws.Externs
import Derived.Deep.MidRow
import Derived.Deep.RegionWith
import Derived.Deep.CutBlock
import Derived.Deep.CutRange
import Derived.BigQuiet
namespace Go.Proofs.YtniamfaiamgncaaDoor
open Go Go.RowKit
theorem drew_xt (w : World) : Ext w w.drew := ⟨rfl, rfl, rfl, Nat.le_refl _, fun _ _ => rfl⟩
/-- 2^64. -/
abbrev T64 : Nat := 18446744073709551616
def sN (x : Nat) : Nat := if x < T64 then x else T64 - 1
def sB (x : Nat) : Bool := decide (x < T64)
/-- A count, as it is kept. -/
abbrev cv (x : Nat) : Value := .agg #[.int .u64 (sN x : Nat), .bool (sB x)]
abbrev cc (x : Nat) : Array Value := #[.int .u64 (sN x : Nat), .bool (sB x)]
theorem sN_lt (x : Nat) : sN x < T64 := by unfold sN T64; split <;> omega
theorem sN_of {x : Nat} (h : x < T64) : sN x = x := if_pos h
theorem sB_of {x : Nat} (h : x < T64) : sB x = true := decide_eq_true h
theorem sN_not {x : Nat} (h : ¬ x < T64) : sN x = T64 - 1 := if_neg h
theorem sB_not {x : Nat} (h : ¬ x < T64) : sB x = false := decide_eq_false h
set_option maxRecDepth 20000 in
theorem exactly_any (n : Nat) (w : World) (hn : n < T64) : Calls Tryd.prog 117 #[.int .u64 (n : Int)] w fun e w' => e = .returned (cv n) ∧ Ext w w' := by
  unfold cv
  rw [sN_of hn, sB_of hn]
  clear hn
  go_enter Tryd.func117, Tryd.ntmps117
  go_wp2_with fail
  refine bodyPost_ret (v := .agg #[.int .u64 (n : Int), .bool true]) ?_ rfl ⟨rfl, by go_grown⟩
  simp [results, Tryd.results117, go_sem]
theorem add64 (x y : Nat) (w : World) : (callFunc 145 #[.int .u64 (x : Int), .int .u64 (y : Int), .int .u64 0]).run Tryd.prog w =
    .ok (.value (.tuple #[.int .u64 (((x + y) % T64 : Nat) : Int), .int .u64 (((x + y) / T64 : Nat) : Int)])) w := by
  rw [run_callFunc_extern Tryd.func145 (by kernel_rfl) (by kernel_rfl) (by kernel_rfl) (e := add64Entry) (by kernel_rfl), run_add64 x y 0 (by omega) (by omega) (by omega) (by omega)]
  simp only [Result.andThen]
  congr 5 <;> omega
end Go.Proofs.YtniamfaiamgncaaDoor
