/- errors.As at the wrappers' types: what the model's entries answer. -/
import Derived.Test.YtnnkomdkggepjaaDoorIs
import Derived.Laws.Pointers
import Derived.LaidEql
import Derived.Stop.Asserts
namespace Go.Proofs.YtnnkomdkggepjaaDoor
open Go Go.RowKit Go.Extern.Stop Go.Stop Go.Extern
theorem rlm (z : Sem Value) (f : TypeId → Addr → Nat → Nat → Sem Value) (v : Value) :
    ReflectliteValue.method z f #[v] = (do match ← ReflectliteValue.parts v with | none => z | some (t, a, fl) => f t a fl (fl % 32)) := rfl
theorem rls (v x : Value) : ReflectliteValue.set #[v, x] = (do
    let (some (dst, a, fl), some (src, b, _)) := (← ReflectliteValue.parts v, ← ReflectliteValue.parts x)
      | unsupported (.noEntry "extern/(internal/reflectlite.Value).Set.zeroValue")
    if fl / ReflectliteValue.flagAddr % 2 == 0 then unsupported (.noEntry "extern/(internal/reflectlite.Value).Set.unaddressable")
    let val ← loadVar src b
    if ← Rtype.directlyAssignable dst src then storeVar dst a val
    else if ← Rtype.implements dst src then
      if (← Rtype.kind src) == 20 then
        match val with
        | .nilIface => unsupported (.noEntry "extern/reflectlite: a nil value of one interface type handed on as a value of another")
        | _ => storeVar dst a val
      else storeVar dst a (.iface src val)
    else panicString ("reflectlite.Set: value of type " ++ (← Rtype.spelt src) ++ " is not assignable to type " ++ (← Rtype.spelt dst))
    pure (.tuple #[])) := rfl
theorem as_mKind (h : Value) (w : World) : (Go.method 290 140 (.agg #[h]) "Kind").run Tryd.prog w = .ok (87, h) w := by kernel_rfl
theorem as_mElem (h : Value) (w : World) : (Go.method 290 140 (.agg #[h]) "Elem").run Tryd.prog w = .ok (101, .agg #[h]) w := by kernel_rfl
theorem as_mImplements (h : Value) (w : World) : (Go.method 290 140 (.agg #[h]) "Implements").run Tryd.prog w = .ok (102, .agg #[h]) w := by kernel_rfl
theorem as_mAssignable (h : Value) (w : World) : (Go.method 290 140 (.agg #[h]) "AssignableTo").run Tryd.prog w = .ok (99, .agg #[h]) w := by kernel_rfl
theorem as_noAs_E (v : Value) (xT : TypeId) (w : World) : (Instr.typeAssert (.iface 155 v) xT 144 true).run Tryd.prog w = .ok (.tuple #[.nilIface, .bool false]) w := run_typeAssert_lacksB Tryd.underlying144 (by kernel_rfl) (by kernel_rfl) v xT w
theorem as_typeOf_E (v : Value) (w : World) : (ReflectliteType.typeOf #[.iface 155 v]).run Tryd.prog w = .ok (.iface 140 (.agg #[.pointer (some ⟨17, 155, none⟩)])) w := by kernel_rfl
theorem as_noAs_P (v : Value) (xT : TypeId) (w : World) : (Instr.typeAssert (.iface 82 v) xT 144 true).run Tryd.prog w = .ok (.tuple #[.nilIface, .bool false]) w := run_typeAssert_lacksB Tryd.underlying144 (by kernel_rfl) (by kernel_rfl) v xT w
theorem as_typeOf_P (v : Value) (w : World) : (ReflectliteType.typeOf #[.iface 82 v]).run Tryd.prog w = .ok (.iface 140 (.agg #[.pointer (some ⟨17, 82, none⟩)])) w := by kernel_rfl
theorem as_noAs_N (v : Value) (xT : TypeId) (w : World) : (Instr.typeAssert (.iface 88 v) xT 144 true).run Tryd.prog w = .ok (.tuple #[.nilIface, .bool false]) w := run_typeAssert_lacksB Tryd.underlying144 (by kernel_rfl) (by kernel_rfl) v xT w
theorem as_typeOf_N (v : Value) (w : World) : (ReflectliteType.typeOf #[.iface 88 v]).run Tryd.prog w = .ok (.iface 140 (.agg #[.pointer (some ⟨17, 88, none⟩)])) w := by kernel_rfl
theorem as_noAs_R (v : Value) (xT : TypeId) (w : World) : (Instr.typeAssert (.iface 93 v) xT 144 true).run Tryd.prog w = .ok (.tuple #[.nilIface, .bool false]) w := run_typeAssert_lacksB Tryd.underlying144 (by kernel_rfl) (by kernel_rfl) v xT w
theorem as_typeOf_R (v : Value) (w : World) : (ReflectliteType.typeOf #[.iface 93 v]).run Tryd.prog w = .ok (.iface 140 (.agg #[.pointer (some ⟨17, 93, none⟩)])) w := by kernel_rfl
theorem as_noAs_S (v : Value) (xT : TypeId) (w : World) : (Instr.typeAssert (.iface 97 v) xT 144 true).run Tryd.prog w = .ok (.tuple #[.nilIface, .bool false]) w := run_typeAssert_lacksB Tryd.underlying144 (by kernel_rfl) (by kernel_rfl) v xT w
theorem as_typeOf_S (v : Value) (w : World) : (ReflectliteType.typeOf #[.iface 97 v]).run Tryd.prog w = .ok (.iface 140 (.agg #[.pointer (some ⟨17, 97, none⟩)])) w := by kernel_rfl
/-- What errors.As has done to the variable at 't', by what was found. -/
def AsEnd (w w' : World) (t : Addr) (o : Option (TypeId × Value)) : Prop := ∃ w1, Below w.heap.size w w1 ∧ match o with
  | none => w' = w1
  | some q => ∃ p y tt, w.heap[p]? = some (.cells #[y, q.2] tt (0, 0)) ∧ w' = w1.setCell t (.pointer (some ⟨p, 0, none⟩))
end Go.Proofs.YtnnkomdkggepjaaDoor
