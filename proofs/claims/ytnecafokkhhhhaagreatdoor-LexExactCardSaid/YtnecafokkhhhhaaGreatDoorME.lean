/- errors.As at *fault.inStage. -/
import Derived.Test.YtnecafokkhhhhaaGreatDoorMD
import Derived.Laws.Pointers
import Derived.LaidEql
import Derived.Stop.Asserts
namespace Go.Proofs.YtnecafokkhhhhaaGreatDoor
open Go Go.RowKit Go.Extern.Stop Go.Stop Go.Extern
theorem rlm (z : Sem Value) (f : TypeId → Addr → Nat → Nat → Sem Value) (v : Value) :
    ReflectliteValue.method z f #[v] = (do match ← ReflectliteValue.parts v with | none => z | some (t, a, fl) => f t a fl (fl % 32)) := rfl
theorem rls (v x : Value) : ReflectliteValue.set #[v, x] = (do
    let (some (dst, a, fl), some (src, b, _)) := (← ReflectliteValue.parts v, ← ReflectliteValue.parts x)
      | unsupported (.noEntry "extern/(internal/reflectlite.Value).Set.zeroValue")
    if fl / ReflectliteValue.flagAddr % 2 == 0 then unsupported (.noEntry "extern/(internal/reflectlite.Value).Set.unaddressable")
    let val ← loadVar src b
    if ← Rtype.directlyAssignable dst src then storeVar dst a val
    else if ← Rtype.implements dst src then
      if (← Rtype.kind src) == 20 then
        match val with
        | .nilIface => unsupported (.noEntry "extern/reflectlite: a nil value of one interface type handed on as a value of another")
        | _ => storeVar dst a val
      else storeVar dst a (.iface src val)
    else panicString ("reflectlite.Set: value of type " ++ (← Rtype.spelt src) ++ " is not assignable to type " ++ (← Rtype.spelt dst))
    pure (.tuple #[])) := rfl
theorem as_mKind (h : Value) (w : World) : (Go.method 338 151 (.agg #[h]) "Kind").run Tryz.prog w = .ok (165, h) w := by kernel_rfl
theorem as_mElem (h : Value) (w : World) : (Go.method 338 151 (.agg #[h]) "Elem").run Tryz.prog w = .ok (179, .agg #[h]) w := by kernel_rfl
theorem as_mImplements (h : Value) (w : World) : (Go.method 338 151 (.agg #[h]) "Implements").run Tryz.prog w = .ok (180, .agg #[h]) w := by kernel_rfl
theorem as_mAssignable (h : Value) (w : World) : (Go.method 338 151 (.agg #[h]) "AssignableTo").run Tryz.prog w = .ok (177, .agg #[h]) w := by kernel_rfl
theorem as_noAs_E (v : Value) (xT : TypeId) (w : World) : (Instr.typeAssert (.iface 192 v) xT 155 true).run Tryz.prog w = .ok (.tuple #[.nilIface, .bool false]) w := run_typeAssert_lacksB Tryz.underlying155 (by kernel_rfl) (by kernel_rfl) v xT w
theorem as_typeOf_E (v : Value) (w : World) : (ReflectliteType.typeOf #[.iface 192 v]).run Tryz.prog w = .ok (.iface 151 (.agg #[.pointer (some ⟨23, 192, none⟩)])) w := by kernel_rfl
theorem as_noAs_P (v : Value) (xT : TypeId) (w : World) : (Instr.typeAssert (.iface 70 v) xT 155 true).run Tryz.prog w = .ok (.tuple #[.nilIface, .bool false]) w := run_typeAssert_lacksB Tryz.underlying155 (by kernel_rfl) (by kernel_rfl) v xT w
theorem as_typeOf_P (v : Value) (w : World) : (ReflectliteType.typeOf #[.iface 70 v]).run Tryz.prog w = .ok (.iface 151 (.agg #[.pointer (some ⟨23, 70, none⟩)])) w := by kernel_rfl
theorem as_noAs_N (v : Value) (xT : TypeId) (w : World) : (Instr.typeAssert (.iface 76 v) xT 155 true).run Tryz.prog w = .ok (.tuple #[.nilIface, .bool false]) w := run_typeAssert_lacksB Tryz.underlying155 (by kernel_rfl) (by kernel_rfl) v xT w
theorem as_typeOf_N (v : Value) (w : World) : (ReflectliteType.typeOf #[.iface 76 v]).run Tryz.prog w = .ok (.iface 151 (.agg #[.pointer (some ⟨23, 76, none⟩)])) w := by kernel_rfl
theorem as_noAs_R (v : Value) (xT : TypeId) (w : World) : (Instr.typeAssert (.iface 81 v) xT 155 true).run Tryz.prog w = .ok (.tuple #[.nilIface, .bool false]) w := run_typeAssert_lacksB Tryz.underlying155 (by kernel_rfl) (by kernel_rfl) v xT w
theorem as_typeOf_R (v : Value) (w : World) : (ReflectliteType.typeOf #[.iface 81 v]).run Tryz.prog w = .ok (.iface 151 (.agg #[.pointer (some ⟨23, 81, none⟩)])) w := by kernel_rfl
theorem as_noAs_S (v : Value) (xT : TypeId) (w : World) : (Instr.typeAssert (.iface 85 v) xT 155 true).run Tryz.prog w = .ok (.tuple #[.nilIface, .bool false]) w := run_typeAssert_lacksB Tryz.underlying155 (by kernel_rfl) (by kernel_rfl) v xT w
theorem as_typeOf_S (v : Value) (w : World) : (ReflectliteType.typeOf #[.iface 85 v]).run Tryz.prog w = .ok (.iface 151 (.agg #[.pointer (some ⟨23, 85, none⟩)])) w := by kernel_rfl
/-- What errors.As has done to the variable at 't', by what was found. -/
def AsEnd (w w' : World) (t : Addr) (o : Option (TypeId × Value)) : Prop := ∃ w1, Below w.heap.size w w1 ∧ match o with
  | none => w' = w1
  | some q => ∃ p y tt, w.heap[p]? = some (.cells #[y, q.2] tt (0, 0)) ∧ w' = w1.setCell t (.pointer (some ⟨p, 0, none⟩))
end Go.Proofs.YtnecafokkhhhhaaGreatDoor
namespace Go.Proofs.YtnecafokkhhhhaaGreatDoor
open Go Go.RowKit Go.Extern.Stop Go.Stop Go.Extern
theorem as_asg_EP (w : World) : (ReflectliteType.relation "AssignableTo" ReflectliteType.assignableTo #[.agg #[.pointer (some ⟨23, 192, none⟩)], .iface 151 (.agg #[.pointer (some ⟨23, 70, none⟩)])]).run Tryz.prog w = .ok (.bool (decide (192 = 70))) w := by kernel_rfl
theorem as_asg_PP (w : World) : (ReflectliteType.relation "AssignableTo" ReflectliteType.assignableTo #[.agg #[.pointer (some ⟨23, 70, none⟩)], .iface 151 (.agg #[.pointer (some ⟨23, 70, none⟩)])]).run Tryz.prog w = .ok (.bool (decide (70 = 70))) w := by kernel_rfl
theorem as_asg_NP (w : World) : (ReflectliteType.relation "AssignableTo" ReflectliteType.assignableTo #[.agg #[.pointer (some ⟨23, 76, none⟩)], .iface 151 (.agg #[.pointer (some ⟨23, 70, none⟩)])]).run Tryz.prog w = .ok (.bool (decide (76 = 70))) w := by kernel_rfl
theorem as_asg_RP (w : World) : (ReflectliteType.relation "AssignableTo" ReflectliteType.assignableTo #[.agg #[.pointer (some ⟨23, 81, none⟩)], .iface 151 (.agg #[.pointer (some ⟨23, 70, none⟩)])]).run Tryz.prog w = .ok (.bool (decide (81 = 70))) w := by kernel_rfl
theorem as_asg_SP (w : World) : (ReflectliteType.relation "AssignableTo" ReflectliteType.assignableTo #[.agg #[.pointer (some ⟨23, 85, none⟩)], .iface 151 (.agg #[.pointer (some ⟨23, 70, none⟩)])]).run Tryz.prog w = .ok (.bool (decide (85 = 70))) w := by kernel_rfl
theorem as_valueOf_P (t : Addr) (w : World) : (ReflectliteValue.unpack (.iface 111 (.pointer (some t)))).run Tryz.prog w
    = .ok (.agg #[.pointer (some ⟨23, 111, none⟩), .pointer (some ⟨w.heap.size, 0, none⟩), .int .u64 150]) (w.alloc (.cells #[.pointer (some t)] 111)) := by kernel_rfl
theorem as_valueOfE_P (t : Addr) (w : World) : (ReflectliteValue.unpack (.iface 70 (.pointer (some t)))).run Tryz.prog w
    = .ok (.agg #[.pointer (some ⟨23, 70, none⟩), .pointer (some ⟨w.heap.size, 0, none⟩), .int .u64 150]) (w.alloc (.cells #[.pointer (some t)] 70)) := by kernel_rfl
theorem as_type_P (a : Addr) (w : World) : (ReflectliteValue.methodAny (ReflectliteValue.valueError "reflectlite.Value.Type" 0) (fun t _ _ _ => ReflectliteType.toType t) #[.agg #[.pointer (some ⟨23, 111, none⟩), .pointer (some a), .int .u64 150]]).run Tryz.prog w
    = .ok (.iface 151 (.agg #[.pointer (some ⟨23, 111, none⟩)])) w := by kernel_rfl
theorem as_kindT_P (w : World) : ((ReflectliteType.abiMethod fun t => (fun a : Nat => Value.int IntKind.u8 (a : Int)) <$> Rtype.kind t) #[.pointer (some ⟨23, 111, none⟩)]).run Tryz.prog w = .ok (.int .u8 22) w := by kernel_rfl
theorem as_kindE_P (w : World) : ((ReflectliteType.abiMethod fun t => (fun a : Nat => Value.int IntKind.u8 (a : Int)) <$> Rtype.kind t) #[.pointer (some ⟨23, 70, none⟩)]).run Tryz.prog w = .ok (.int .u8 22) w := by kernel_rfl
theorem as_parts_P (a : Addr) (w : World) : (ReflectliteValue.parts (.agg #[.pointer (some ⟨23, 111, none⟩), .pointer (some a), .int .u64 150])).run Tryz.prog w = .ok (some (111, a, 150)) w := by kernel_rfl
theorem as_isNil_P (a p : Addr) (W : World) (ha : W.cell? a = some (.pointer (some p))) :
    (ReflectliteValue.method (ReflectliteValue.valueError "reflectlite.Value.IsNil" 0) ReflectliteValue.isNil #[.agg #[.pointer (some ⟨23, 111, none⟩), .pointer (some a), .int .u64 150]]).run Tryz.prog W = .ok (.bool false) W := by
  rw [rlm]
  simp only [Sem.run_bind, as_parts_P, Result.andThen]
  simp [ReflectliteValue.isNil, loadVar, isAgg, underlying, Tryz.underlying111, ha, Result.andThen]
theorem as_elem_P (w : World) : (ReflectliteType.method ReflectliteType.elem #[.agg #[.pointer (some ⟨23, 111, none⟩)]]).run Tryz.prog w = .ok (.iface 151 (.agg #[.pointer (some ⟨23, 70, none⟩)])) w := by kernel_rfl
theorem as_implements_P (w : World) : (ReflectliteType.relation "Implements" ReflectliteType.implements_ #[.agg #[.pointer (some ⟨23, 70, none⟩)], .iface 151 (.agg #[.pointer (some ⟨23, 29, none⟩)])]).run Tryz.prog w = .ok (.bool true) w := by kernel_rfl
theorem as_elemOf_P (w : World) : (Rtype.elem? 111).run Tryz.prog w = .ok (some 70) w := by kernel_rfl
theorem as_mk_P (p : Addr) (w : World) : (ReflectliteValue.mk 70 p ReflectliteValue.flagAddr).run Tryz.prog w = .ok (.agg #[.pointer (some ⟨23, 70, none⟩), .pointer (some p), .int .u64 406]) w := by kernel_rfl
theorem as_elemV_P (a p : Addr) (W : World) (ha : W.cell? a = some (.pointer (some p))) :
    (ReflectliteValue.method (ReflectliteValue.valueError "reflectlite.Value.Elem" 0) ReflectliteValue.elem #[.agg #[.pointer (some ⟨23, 111, none⟩), .pointer (some a), .int .u64 150]]).run Tryz.prog W
      = .ok (.agg #[.pointer (some ⟨23, 70, none⟩), .pointer (some p), .int .u64 406]) W := by
  rw [rlm]
  simp only [Sem.run_bind, as_parts_P, Result.andThen]
  simp [ReflectliteValue.elem, loadVar, isAgg, underlying, Tryz.underlying111, ha, Result.andThen, as_elemOf_P, as_mk_P]
theorem as_partsA_P (a : Addr) (w : World) : (ReflectliteValue.parts (.agg #[.pointer (some ⟨23, 70, none⟩), .pointer (some a), .int .u64 406])).run Tryz.prog w = .ok (some (70, a, 406)) w := by kernel_rfl
theorem as_partsE_P (a : Addr) (w : World) : (ReflectliteValue.parts (.agg #[.pointer (some ⟨23, 70, none⟩), .pointer (some a), .int .u64 150])).run Tryz.prog w = .ok (some (70, a, 150)) w := by kernel_rfl
theorem as_direct_P (w : World) : (Rtype.directlyAssignable 70 70).run Tryz.prog w = .ok true w := by kernel_rfl
theorem as_set_P (ta b e : Addr) (old : Value) (W : World) (hb : W.cell? b = some (.pointer (some e))) (ht : W.cell? ta = some old) (hf : W.frozen? ta = false) :
    (ReflectliteValue.set #[.agg #[.pointer (some ⟨23, 70, none⟩), .pointer (some ta), .int .u64 406], .agg #[.pointer (some ⟨23, 70, none⟩), .pointer (some b), .int .u64 150]]).run Tryz.prog W
      = .ok (.tuple #[]) (W.setCell ta (.pointer (some e))) := by
  rw [rls]
  simp only [Sem.run_bind, as_partsA_P, as_partsE_P, Result.andThen]
  simp [ReflectliteValue.flagAddr, loadVar, isAgg, underlying, Tryz.underlying70, hb, Result.andThen, as_direct_P, storeVar, Value.cells, storeCells, Addr.add]
  rw [run_store Tryz.prog W ta _ _ (by rfl)]
  simp [ht, hf]
set_option maxHeartbeats 4000000 in
set_option maxRecDepth 20000 in
theorem as_loop_P (L : List (TypeId × Value)) (v : Value) (a t : Addr) (vb : Nat) (old : Value) (w : World) (hL : Chain w L v (errAt a)) (hvb : w.cell? ⟨vb, 0, none⟩ = some (.pointer (some t))) (ht : w.cell? t = some old) (hf : w.frozen? t = false) (o : Option (TypeId × Value)) (ho : (L.find? fun q => q.1 == 70) = o) :
    Calls Tryz.prog 86 #[v, .iface 111 (.pointer (some t)), .agg #[.pointer (some ⟨23, 111, none⟩), .pointer (some ⟨vb, 0, none⟩), .int .u64 150], .iface 151 (.agg #[.pointer (some ⟨23, 70, none⟩)])] w
      fun e w' => e = .returned (.bool o.isSome) ∧ AsEnd w w' t o := by
  have htl : t.block < w.heap.size := by
    rcases Nat.lt_or_ge t.block w.heap.size with h | h
    · exact h
    · simp [World.cell?, Array.getElem?_eq_none h] at ht
  have hvl : vb < w.heap.size := by
    rcases Nat.lt_or_ge vb w.heap.size with h | h
    · exact h
    · simp [World.cell?, Array.getElem?_eq_none h] at hvb
  obtain ⟨w1, hw1⟩ : ∃ w1, w.alloc (.cells #[.pointer (some ⟨23, 111, none⟩), .pointer (some ⟨vb, 0, none⟩), .int .u64 150] 133) = w1 := ⟨_, rfl⟩
  have hb1 : Blk w1 w.heap.size #[.pointer (some ⟨23, 111, none⟩), .pointer (some ⟨vb, 0, none⟩), .int .u64 150] 133 := by rw [← hw1]; exact Blk.new w _ _
  have hE : Ext w w1 := by rw [← hw1]; go_grown
  have hs1 : w1.heap.size = w.heap.size + 1 := by rw [← hw1]; simp
  have c0 := hb1.cell 0
  have c1 := hb1.cell 1
  have c2 := hb1.cell 2
  have hvb1 : w1.cell? ⟨vb, 0, none⟩ = some (.pointer (some t)) := by rw [hE.cell (p := ⟨vb, 0, none⟩) hvl]; exact hvb
  have ht1 : w1.cell? t = some old := by rw [hE.cell htl]; exact ht
  have hf1 : w1.frozen? t = false := by rw [← hw1, World.frozen?_alloc_old _ _ t (Nat.ne_of_lt htl)]; exact hf
  have h83 := @run_callFunc_extern Tryz.prog 98 _ ReflectliteType.typeOf Tryz.func98 (by kernel_rfl) (by kernel_rfl) (by kernel_rfl) (by kernel_rfl)
  have h35 := @run_callFunc_extern Tryz.prog 177 _ (ReflectliteType.relation "AssignableTo" ReflectliteType.assignableTo) Tryz.func177 (by kernel_rfl) (by kernel_rfl) (by kernel_rfl) (by kernel_rfl)
  have h99 := @run_callFunc_extern Tryz.prog 83 _ (fun args => ReflectliteValue.unpack (args.getD 0 (.tuple #[]))) Tryz.func83 (by kernel_rfl) (by kernel_rfl) (by kernel_rfl) (by kernel_rfl)
  have h11 := @run_callFunc_extern Tryz.prog 100 _ (ReflectliteValue.method (ReflectliteValue.valueError "reflectlite.Value.Elem" 0) ReflectliteValue.elem) Tryz.func100 (by kernel_rfl) (by kernel_rfl) (by kernel_rfl) (by kernel_rfl)
  have h12 := @run_callFunc_extern Tryz.prog 101 _ ReflectliteValue.set Tryz.func101 (by kernel_rfl) (by kernel_rfl) (by kernel_rfl) (by kernel_rfl)
  have mA := as_mAssignable
  go_enter Tryz.func86, Tryz.ntmps86
  go_wp2_with fail
  go_loopw [0] (fun x wr => wr = w1 ∧ ∃ M, Chain w M x (errAt a) ∧ (M.find? fun q => q.1 == 70) = o) (fun x _ => deep x)
  case atStart => exact ⟨rfl, L, hL, ho⟩
  case round =>
    clear hL ho
    obtain ⟨rfl, M, hM, hfi⟩ := hrel
    rcases M with _ | ⟨⟨T, x⟩, M⟩
    · obtain rfl := hM
      have tO := as_typeOf_E
      have aT := as_asg_EP
      simp only [show decide (192 = 70) = false from rfl] at aT
      have nA := as_noAs_E
      have uI := is_noUn
      have uIs := is_noUns
      go_wp2
      go_ret
      rw [← hfi]
      exact ⟨rfl, _, hE, rfl⟩
    · obtain ⟨p, y, tt, hT, rfl, hp, hy, hM⟩ := hM
      have hp1 : wr.heap[p]? = some (.cells #[y, x] tt (0, 0)) := by rw [hE.block _ (Array.getElem?_eq_some_iff.1 hp).1]; exact hp
      have hun := unwrap_in p y x tt wr hp1
      obtain ⟨U, z, rfl⟩ := Chain.iface hM
      simp only [wt, List.mem_cons, List.not_mem_nil, or_false] at hT
      rcases hT with rfl | rfl | rfl | rfl
      · have tO := as_typeOf_P
        have aT := as_asg_PP
        simp only at aT
        have el := as_elemV_P ⟨vb, 0, none⟩ t wr hvb1
        have v9 := as_valueOfE_P
        have hE2 : Ext wr (wr.alloc (.cells #[.pointer (some ⟨p, 0, none⟩)] 70)) := by go_grown
        have hb2 := Blk.new wr #[.pointer (some ⟨p, 0, none⟩)] 70
        have htl1 : t.block < wr.heap.size := by omega
        have st := as_set_P t ⟨wr.heap.size, 0, none⟩ ⟨p, 0, none⟩ old (wr.alloc (.cells #[.pointer (some ⟨p, 0, none⟩)] 70)) (hb2.cell 0) (by rw [hE2.cell htl1]; exact ht1) (by rw [World.frozen?_alloc_old _ _ t (Nat.ne_of_lt htl1)]; exact hf1)
        rw [hs1] at st
        go_wp2
        go_ret
        rw [← hfi]
        exact ⟨rfl, _, bel_call hE hE2, p, _, tt, hp, rfl⟩
      · have tO := as_typeOf_N
        have aT := as_asg_NP
        simp only [show decide (76 = 70) = false from rfl] at aT
        have nA := as_noAs_N
        have uI := is_un_N
        have mI := is_mun_N
        go_wp2_with fail
        refine hun.mono ?_
        rintro e w9 ⟨rfl, rfl⟩
        go_wp2_with fail
        go_roundw
        case rel => exact ⟨trivial, M, hM, by rw [← hfi]; rfl⟩
        case measure => simp only [deep] at hy ⊢; omega
      · have tO := as_typeOf_R
        have aT := as_asg_RP
        simp only [show decide (81 = 70) = false from rfl] at aT
        have nA := as_noAs_R
        have uI := is_un_R
        have mI := is_mun_R
        go_wp2_with fail
        refine hun.mono ?_
        rintro e w9 ⟨rfl, rfl⟩
        go_wp2_with fail
        go_roundw
        case rel => exact ⟨trivial, M, hM, by rw [← hfi]; rfl⟩
        case measure => simp only [deep] at hy ⊢; omega
      · have tO := as_typeOf_S
        have aT := as_asg_SP
        simp only [show decide (85 = 70) = false from rfl] at aT
        have nA := as_noAs_S
        have uI := is_un_S
        have mI := is_mun_S
        go_wp2_with fail
        refine hun.mono ?_
        rintro e w9 ⟨rfl, rfl⟩
        go_wp2_with fail
        go_roundw
        case rel => exact ⟨trivial, M, hM, by rw [← hfi]; rfl⟩
        case measure => simp only [deep] at hy ⊢; omega
theorem as_nil_P (t : Value) (w : World) :
    Calls Tryz.prog 57 #[.nilIface, t] w fun e w' => e = .returned (.bool false) ∧ w' = w := by
  go_enter Tryz.func57, Tryz.ntmps57
  go_wp2
  go_ret
  exact ⟨rfl, rfl⟩
set_option maxHeartbeats 4000000 in
set_option maxRecDepth 20000 in
theorem as_all_P (L : List (TypeId × Value)) (v : Value) (a t : Addr) (old : Value) (w : World) (hG : w.cell? ⟨16, 0, none⟩ = some (.iface 151 (.agg #[.pointer (some ⟨23, 29, none⟩)]))) (hL : Chain w L v (errAt a)) (ht : w.cell? t = some old) (hf : w.frozen? t = false) (o : Option (TypeId × Value)) (ho : (L.find? fun q => q.1 == 70) = o) :
    Calls Tryz.prog 57 #[v, .iface 111 (.pointer (some t))] w fun e w' => e = .returned (.bool o.isSome) ∧ AsEnd w w' t o := by
  have htl : t.block < w.heap.size := by
    rcases Nat.lt_or_ge t.block w.heap.size with h | h
    · exact h
    · simp [World.cell?, Array.getElem?_eq_none h] at ht
  have hgl : 16 < w.heap.size := by
    rcases Nat.lt_or_ge 16 w.heap.size with h | h
    · exact h
    · simp [World.cell?, Array.getElem?_eq_none h] at hG
  obtain ⟨w1, hw1⟩ : ∃ w1, w.alloc (.cells #[.pointer (some t)] 111) = w1 := ⟨_, rfl⟩
  have hb1 : Blk w1 w.heap.size #[.pointer (some t)] 111 := by rw [← hw1]; exact Blk.new w _ _
  have hE1 : Ext w w1 := by rw [← hw1]; go_grown
  have hs1 : w1.heap.size = w.heap.size + 1 := by rw [← hw1]; simp
  obtain ⟨w2, hw2⟩ : ∃ w2, w1.alloc (.cells #[.pointer (some ⟨23, 111, none⟩), .pointer (some ⟨w.heap.size, 0, none⟩), .int .u64 150] 133) = w2 := ⟨_, rfl⟩
  have hb2 : Blk w2 (w.heap.size + 1) #[.pointer (some ⟨23, 111, none⟩), .pointer (some ⟨w.heap.size, 0, none⟩), .int .u64 150] 133 := by rw [← hw2, ← hs1]; exact Blk.new w1 _ _
  have hE2 : Ext w1 w2 := by rw [← hw2]; go_grown
  have hE : Ext w w2 := bel_call hE1 hE2
  have hc1 := (hb1.ext hE2).cell 0
  have c0 := hb2.cell 0
  have c1 := hb2.cell 1
  have c2 := hb2.cell 2
  have hG2 : w2.cell? ⟨16, 0, none⟩ = some (.iface 151 (.agg #[.pointer (some ⟨23, 29, none⟩)])) := by rw [hE.cell (p := ⟨16, 0, none⟩) hgl]; exact hG
  have ht2 : w2.cell? t = some old := by rw [hE.cell htl]; exact ht
  have hf2 : w2.frozen? t = false := by rw [← hw2, World.frozen?_alloc_old _ _ t (by omega), ← hw1, World.frozen?_alloc_old _ _ t (by omega)]; exact hf
  have hlp := as_loop_P L v a t w.heap.size old w2 (hL.ext hE) hc1 ht2 hf2 o ho
  have h99 := @run_callFunc_extern Tryz.prog 83 _ (fun args => ReflectliteValue.unpack (args.getD 0 (.tuple #[]))) Tryz.func83 (by kernel_rfl) (by kernel_rfl) (by kernel_rfl) (by kernel_rfl)
  have h100 := @run_callFunc_extern Tryz.prog 84 _ (ReflectliteValue.methodAny (ReflectliteValue.valueError "reflectlite.Value.Type" 0) (fun t _ _ _ => ReflectliteType.toType t)) Tryz.func84 (by kernel_rfl) (by kernel_rfl) (by kernel_rfl) (by kernel_rfl)
  have h101 := @run_callFunc_extern Tryz.prog 85 _ (ReflectliteValue.method (ReflectliteValue.valueError "reflectlite.Value.IsNil" 0) ReflectliteValue.isNil) Tryz.func85 (by kernel_rfl) (by kernel_rfl) (by kernel_rfl) (by kernel_rfl)
  have h121 := @run_callFunc_extern Tryz.prog 165 _ (ReflectliteType.abiMethod fun t => do pure (.int .u8 (← Rtype.kind t))) Tryz.func165 (by kernel_rfl) (by kernel_rfl) (by kernel_rfl) (by kernel_rfl)
  have h155 := @run_callFunc_extern Tryz.prog 179 _ (ReflectliteType.method ReflectliteType.elem) Tryz.func179 (by kernel_rfl) (by kernel_rfl) (by kernel_rfl) (by kernel_rfl)
  have h156 := @run_callFunc_extern Tryz.prog 180 _ (ReflectliteType.relation "Implements" ReflectliteType.implements_) Tryz.func180 (by kernel_rfl) (by kernel_rfl) (by kernel_rfl) (by kernel_rfl)
  have v9 := as_valueOf_P
  have tT := as_type_P
  have mK := as_mKind
  have mE := as_mElem
  have mI := as_mImplements
  have kT := as_kindT_P
  have kE := as_kindE_P
  have eT := as_elem_P
  have iT := as_implements_P
  have nT := as_isNil_P ⟨w.heap.size, 0, none⟩ t w2 hc1
  obtain ⟨T, x, rfl⟩ := Chain.iface hL
  go_enter Tryz.func57, Tryz.ntmps57
  go_wp2_with fail
  refine hlp.mono ?_
  rintro e w9 ⟨rfl, hend⟩
  go_wp2
  go_ret
  refine ⟨rfl, ?_⟩
  obtain ⟨w3, h3, hm⟩ := hend
  refine ⟨w3, bel_call hE h3, ?_⟩
  rcases o with _ | q
  · exact hm
  · obtain ⟨p, y, tt, hp, rfl⟩ := hm
    have hs2 : w2.heap.size = w.heap.size + 1 + 1 := by rw [← hw2]; simp [hs1]
    have hp' : w.heap[p]? = some (.cells #[y, q.2] tt (0, 0)) := by
      rcases Nat.lt_trichotomy p w.heap.size with h | h | h
      · rw [← hE.block _ h]; exact hp
      · subst h
        have := hp.symm.trans (hb1.ext hE2)
        simp at this
      · have hl := (Array.getElem?_eq_some_iff.1 hp).1
        obtain rfl : p = w.heap.size + 1 := by omega
        have := hp.symm.trans hb2
        simp at this
    exact ⟨p, y, tt, hp', rfl⟩
end Go.Proofs.YtnecafokkhhhhaaGreatDoor
namespace Go.Proofs.YtnecafokkhhhhaaGreatDoor
open Go Go.RowKit Go.Extern.Stop Go.Stop Go.Extern
theorem as_asg_EN (w : World) : (ReflectliteType.relation "AssignableTo" ReflectliteType.assignableTo #[.agg #[.pointer (some ⟨23, 192, none⟩)], .iface 151 (.agg #[.pointer (some ⟨23, 76, none⟩)])]).run Tryz.prog w = .ok (.bool (decide (192 = 76))) w := by kernel_rfl
theorem as_asg_PN (w : World) : (ReflectliteType.relation "AssignableTo" ReflectliteType.assignableTo #[.agg #[.pointer (some ⟨23, 70, none⟩)], .iface 151 (.agg #[.pointer (some ⟨23, 76, none⟩)])]).run Tryz.prog w = .ok (.bool (decide (70 = 76))) w := by kernel_rfl
theorem as_asg_NN (w : World) : (ReflectliteType.relation "AssignableTo" ReflectliteType.assignableTo #[.agg #[.pointer (some ⟨23, 76, none⟩)], .iface 151 (.agg #[.pointer (some ⟨23, 76, none⟩)])]).run Tryz.prog w = .ok (.bool (decide (76 = 76))) w := by kernel_rfl
theorem as_asg_RN (w : World) : (ReflectliteType.relation "AssignableTo" ReflectliteType.assignableTo #[.agg #[.pointer (some ⟨23, 81, none⟩)], .iface 151 (.agg #[.pointer (some ⟨23, 76, none⟩)])]).run Tryz.prog w = .ok (.bool (decide (81 = 76))) w := by kernel_rfl
theorem as_asg_SN (w : World) : (ReflectliteType.relation "AssignableTo" ReflectliteType.assignableTo #[.agg #[.pointer (some ⟨23, 85, none⟩)], .iface 151 (.agg #[.pointer (some ⟨23, 76, none⟩)])]).run Tryz.prog w = .ok (.bool (decide (85 = 76))) w := by kernel_rfl
theorem as_valueOf_N (t : Addr) (w : World) : (ReflectliteValue.unpack (.iface 112 (.pointer (some t)))).run Tryz.prog w
    = .ok (.agg #[.pointer (some ⟨23, 112, none⟩), .pointer (some ⟨w.heap.size, 0, none⟩), .int .u64 150]) (w.alloc (.cells #[.pointer (some t)] 112)) := by kernel_rfl
theorem as_valueOfE_N (t : Addr) (w : World) : (ReflectliteValue.unpack (.iface 76 (.pointer (some t)))).run Tryz.prog w
    = .ok (.agg #[.pointer (some ⟨23, 76, none⟩), .pointer (some ⟨w.heap.size, 0, none⟩), .int .u64 150]) (w.alloc (.cells #[.pointer (some t)] 76)) := by kernel_rfl
theorem as_type_N (a : Addr) (w : World) : (ReflectliteValue.methodAny (ReflectliteValue.valueError "reflectlite.Value.Type" 0) (fun t _ _ _ => ReflectliteType.toType t) #[.agg #[.pointer (some ⟨23, 112, none⟩), .pointer (some a), .int .u64 150]]).run Tryz.prog w
    = .ok (.iface 151 (.agg #[.pointer (some ⟨23, 112, none⟩)])) w := by kernel_rfl
theorem as_kindT_N (w : World) : ((ReflectliteType.abiMethod fun t => (fun a : Nat => Value.int IntKind.u8 (a : Int)) <$> Rtype.kind t) #[.pointer (some ⟨23, 112, none⟩)]).run Tryz.prog w = .ok (.int .u8 22) w := by kernel_rfl
theorem as_kindE_N (w : World) : ((ReflectliteType.abiMethod fun t => (fun a : Nat => Value.int IntKind.u8 (a : Int)) <$> Rtype.kind t) #[.pointer (some ⟨23, 76, none⟩)]).run Tryz.prog w = .ok (.int .u8 22) w := by kernel_rfl
theorem as_parts_N (a : Addr) (w : World) : (ReflectliteValue.parts (.agg #[.pointer (some ⟨23, 112, none⟩), .pointer (some a), .int .u64 150])).run Tryz.prog w = .ok (some (112, a, 150)) w := by kernel_rfl
theorem as_isNil_N (a p : Addr) (W : World) (ha : W.cell? a = some (.pointer (some p))) :
    (ReflectliteValue.method (ReflectliteValue.valueError "reflectlite.Value.IsNil" 0) ReflectliteValue.isNil #[.agg #[.pointer (some ⟨23, 112, none⟩), .pointer (some a), .int .u64 150]]).run Tryz.prog W = .ok (.bool false) W := by
  rw [rlm]
  simp only [Sem.run_bind, as_parts_N, Result.andThen]
  simp [ReflectliteValue.isNil, loadVar, isAgg, underlying, Tryz.underlying112, ha, Result.andThen]
theorem as_elem_N (w : World) : (ReflectliteType.method ReflectliteType.elem #[.agg #[.pointer (some ⟨23, 112, none⟩)]]).run Tryz.prog w = .ok (.iface 151 (.agg #[.pointer (some ⟨23, 76, none⟩)])) w := by kernel_rfl
theorem as_implements_N (w : World) : (ReflectliteType.relation "Implements" ReflectliteType.implements_ #[.agg #[.pointer (some ⟨23, 76, none⟩)], .iface 151 (.agg #[.pointer (some ⟨23, 29, none⟩)])]).run Tryz.prog w = .ok (.bool true) w := by kernel_rfl
theorem as_elemOf_N (w : World) : (Rtype.elem? 112).run Tryz.prog w = .ok (some 76) w := by kernel_rfl
theorem as_mk_N (p : Addr) (w : World) : (ReflectliteValue.mk 76 p ReflectliteValue.flagAddr).run Tryz.prog w = .ok (.agg #[.pointer (some ⟨23, 76, none⟩), .pointer (some p), .int .u64 406]) w := by kernel_rfl
theorem as_elemV_N (a p : Addr) (W : World) (ha : W.cell? a = some (.pointer (some p))) :
    (ReflectliteValue.method (ReflectliteValue.valueError "reflectlite.Value.Elem" 0) ReflectliteValue.elem #[.agg #[.pointer (some ⟨23, 112, none⟩), .pointer (some a), .int .u64 150]]).run Tryz.prog W
      = .ok (.agg #[.pointer (some ⟨23, 76, none⟩), .pointer (some p), .int .u64 406]) W := by
  rw [rlm]
  simp only [Sem.run_bind, as_parts_N, Result.andThen]
  simp [ReflectliteValue.elem, loadVar, isAgg, underlying, Tryz.underlying112, ha, Result.andThen, as_elemOf_N, as_mk_N]
theorem as_partsA_N (a : Addr) (w : World) : (ReflectliteValue.parts (.agg #[.pointer (some ⟨23, 76, none⟩), .pointer (some a), .int .u64 406])).run Tryz.prog w = .ok (some (76, a, 406)) w := by kernel_rfl
theorem as_partsE_N (a : Addr) (w : World) : (ReflectliteValue.parts (.agg #[.pointer (some ⟨23, 76, none⟩), .pointer (some a), .int .u64 150])).run Tryz.prog w = .ok (some (76, a, 150)) w := by kernel_rfl
theorem as_direct_N (w : World) : (Rtype.directlyAssignable 76 76).run Tryz.prog w = .ok true w := by kernel_rfl
theorem as_set_N (ta b e : Addr) (old : Value) (W : World) (hb : W.cell? b = some (.pointer (some e))) (ht : W.cell? ta = some old) (hf : W.frozen? ta = false) :
    (ReflectliteValue.set #[.agg #[.pointer (some ⟨23, 76, none⟩), .pointer (some ta), .int .u64 406], .agg #[.pointer (some ⟨23, 76, none⟩), .pointer (some b), .int .u64 150]]).run Tryz.prog W
      = .ok (.tuple #[]) (W.setCell ta (.pointer (some e))) := by
  rw [rls]
  simp only [Sem.run_bind, as_partsA_N, as_partsE_N, Result.andThen]
  simp [ReflectliteValue.flagAddr, loadVar, isAgg, underlying, Tryz.underlying76, hb, Result.andThen, as_direct_N, storeVar, Value.cells, storeCells, Addr.add]
  rw [run_store Tryz.prog W ta _ _ (by rfl)]
  simp [ht, hf]
set_option maxHeartbeats 4000000 in
set_option maxRecDepth 20000 in
theorem as_loop_N (L : List (TypeId × Value)) (v : Value) (a t : Addr) (vb : Nat) (old : Value) (w : World) (hL : Chain w L v (errAt a)) (hvb : w.cell? ⟨vb, 0, none⟩ = some (.pointer (some t))) (ht : w.cell? t = some old) (hf : w.frozen? t = false) (o : Option (TypeId × Value)) (ho : (L.find? fun q => q.1 == 76) = o) :
    Calls Tryz.prog 86 #[v, .iface 112 (.pointer (some t)), .agg #[.pointer (some ⟨23, 112, none⟩), .pointer (some ⟨vb, 0, none⟩), .int .u64 150], .iface 151 (.agg #[.pointer (some ⟨23, 76, none⟩)])] w
      fun e w' => e = .returned (.bool o.isSome) ∧ AsEnd w w' t o := by
  have htl : t.block < w.heap.size := by
    rcases Nat.lt_or_ge t.block w.heap.size with h | h
    · exact h
    · simp [World.cell?, Array.getElem?_eq_none h] at ht
  have hvl : vb < w.heap.size := by
    rcases Nat.lt_or_ge vb w.heap.size with h | h
    · exact h
    · simp [World.cell?, Array.getElem?_eq_none h] at hvb
  obtain ⟨w1, hw1⟩ : ∃ w1, w.alloc (.cells #[.pointer (some ⟨23, 112, none⟩), .pointer (some ⟨vb, 0, none⟩), .int .u64 150] 133) = w1 := ⟨_, rfl⟩
  have hb1 : Blk w1 w.heap.size #[.pointer (some ⟨23, 112, none⟩), .pointer (some ⟨vb, 0, none⟩), .int .u64 150] 133 := by rw [← hw1]; exact Blk.new w _ _
  have hE : Ext w w1 := by rw [← hw1]; go_grown
  have hs1 : w1.heap.size = w.heap.size + 1 := by rw [← hw1]; simp
  have c0 := hb1.cell 0
  have c1 := hb1.cell 1
  have c2 := hb1.cell 2
  have hvb1 : w1.cell? ⟨vb, 0, none⟩ = some (.pointer (some t)) := by rw [hE.cell (p := ⟨vb, 0, none⟩) hvl]; exact hvb
  have ht1 : w1.cell? t = some old := by rw [hE.cell htl]; exact ht
  have hf1 : w1.frozen? t = false := by rw [← hw1, World.frozen?_alloc_old _ _ t (Nat.ne_of_lt htl)]; exact hf
  have h83 := @run_callFunc_extern Tryz.prog 98 _ ReflectliteType.typeOf Tryz.func98 (by kernel_rfl) (by kernel_rfl) (by kernel_rfl) (by kernel_rfl)
  have h35 := @run_callFunc_extern Tryz.prog 177 _ (ReflectliteType.relation "AssignableTo" ReflectliteType.assignableTo) Tryz.func177 (by kernel_rfl) (by kernel_rfl) (by kernel_rfl) (by kernel_rfl)
  have h99 := @run_callFunc_extern Tryz.prog 83 _ (fun args => ReflectliteValue.unpack (args.getD 0 (.tuple #[]))) Tryz.func83 (by kernel_rfl) (by kernel_rfl) (by kernel_rfl) (by kernel_rfl)
  have h11 := @run_callFunc_extern Tryz.prog 100 _ (ReflectliteValue.method (ReflectliteValue.valueError "reflectlite.Value.Elem" 0) ReflectliteValue.elem) Tryz.func100 (by kernel_rfl) (by kernel_rfl) (by kernel_rfl) (by kernel_rfl)
  have h12 := @run_callFunc_extern Tryz.prog 101 _ ReflectliteValue.set Tryz.func101 (by kernel_rfl) (by kernel_rfl) (by kernel_rfl) (by kernel_rfl)
  have mA := as_mAssignable
  go_enter Tryz.func86, Tryz.ntmps86
  go_wp2_with fail
  go_loopw [0] (fun x wr => wr = w1 ∧ ∃ M, Chain w M x (errAt a) ∧ (M.find? fun q => q.1 == 76) = o) (fun x _ => deep x)
  case atStart => exact ⟨rfl, L, hL, ho⟩
  case round =>
    clear hL ho
    obtain ⟨rfl, M, hM, hfi⟩ := hrel
    rcases M with _ | ⟨⟨T, x⟩, M⟩
    · obtain rfl := hM
      have tO := as_typeOf_E
      have aT := as_asg_EN
      simp only [show decide (192 = 76) = false from rfl] at aT
      have nA := as_noAs_E
      have uI := is_noUn
      have uIs := is_noUns
      go_wp2
      go_ret
      rw [← hfi]
      exact ⟨rfl, _, hE, rfl⟩
    · obtain ⟨p, y, tt, hT, rfl, hp, hy, hM⟩ := hM
      have hp1 : wr.heap[p]? = some (.cells #[y, x] tt (0, 0)) := by rw [hE.block _ (Array.getElem?_eq_some_iff.1 hp).1]; exact hp
      have hun := unwrap_in p y x tt wr hp1
      obtain ⟨U, z, rfl⟩ := Chain.iface hM
      simp only [wt, List.mem_cons, List.not_mem_nil, or_false] at hT
      rcases hT with rfl | rfl | rfl | rfl
      · have tO := as_typeOf_P
        have aT := as_asg_PN
        simp only [show decide (70 = 76) = false from rfl] at aT
        have nA := as_noAs_P
        have uI := is_un_P
        have mI := is_mun_P
        go_wp2_with fail
        refine hun.mono ?_
        rintro e w9 ⟨rfl, rfl⟩
        go_wp2_with fail
        go_roundw
        case rel => exact ⟨trivial, M, hM, by rw [← hfi]; rfl⟩
        case measure => simp only [deep] at hy ⊢; omega
      · have tO := as_typeOf_N
        have aT := as_asg_NN
        simp only at aT
        have el := as_elemV_N ⟨vb, 0, none⟩ t wr hvb1
        have v9 := as_valueOfE_N
        have hE2 : Ext wr (wr.alloc (.cells #[.pointer (some ⟨p, 0, none⟩)] 76)) := by go_grown
        have hb2 := Blk.new wr #[.pointer (some ⟨p, 0, none⟩)] 76
        have htl1 : t.block < wr.heap.size := by omega
        have st := as_set_N t ⟨wr.heap.size, 0, none⟩ ⟨p, 0, none⟩ old (wr.alloc (.cells #[.pointer (some ⟨p, 0, none⟩)] 76)) (hb2.cell 0) (by rw [hE2.cell htl1]; exact ht1) (by rw [World.frozen?_alloc_old _ _ t (Nat.ne_of_lt htl1)]; exact hf1)
        rw [hs1] at st
        go_wp2
        go_ret
        rw [← hfi]
        exact ⟨rfl, _, bel_call hE hE2, p, _, tt, hp, rfl⟩
      · have tO := as_typeOf_R
        have aT := as_asg_RN
        simp only [show decide (81 = 76) = false from rfl] at aT
        have nA := as_noAs_R
        have uI := is_un_R
        have mI := is_mun_R
        go_wp2_with fail
        refine hun.mono ?_
        rintro e w9 ⟨rfl, rfl⟩
        go_wp2_with fail
        go_roundw
        case rel => exact ⟨trivial, M, hM, by rw [← hfi]; rfl⟩
        case measure => simp only [deep] at hy ⊢; omega
      · have tO := as_typeOf_S
        have aT := as_asg_SN
        simp only [show decide (85 = 76) = false from rfl] at aT
        have nA := as_noAs_S
        have uI := is_un_S
        have mI := is_mun_S
        go_wp2_with fail
        refine hun.mono ?_
        rintro e w9 ⟨rfl, rfl⟩
        go_wp2_with fail
        go_roundw
        case rel => exact ⟨trivial, M, hM, by rw [← hfi]; rfl⟩
        case measure => simp only [deep] at hy ⊢; omega
theorem as_nil_N (t : Value) (w : World) :
    Calls Tryz.prog 57 #[.nilIface, t] w fun e w' => e = .returned (.bool false) ∧ w' = w := by
  go_enter Tryz.func57, Tryz.ntmps57
  go_wp2
  go_ret
  exact ⟨rfl, rfl⟩
set_option maxHeartbeats 4000000 in
set_option maxRecDepth 20000 in
theorem as_all_N (L : List (TypeId × Value)) (v : Value) (a t : Addr) (old : Value) (w : World) (hG : w.cell? ⟨16, 0, none⟩ = some (.iface 151 (.agg #[.pointer (some ⟨23, 29, none⟩)]))) (hL : Chain w L v (errAt a)) (ht : w.cell? t = some old) (hf : w.frozen? t = false) (o : Option (TypeId × Value)) (ho : (L.find? fun q => q.1 == 76) = o) :
    Calls Tryz.prog 57 #[v, .iface 112 (.pointer (some t))] w fun e w' => e = .returned (.bool o.isSome) ∧ AsEnd w w' t o := by
  have htl : t.block < w.heap.size := by
    rcases Nat.lt_or_ge t.block w.heap.size with h | h
    · exact h
    · simp [World.cell?, Array.getElem?_eq_none h] at ht
  have hgl : 16 < w.heap.size := by
    rcases Nat.lt_or_ge 16 w.heap.size with h | h
    · exact h
    · simp [World.cell?, Array.getElem?_eq_none h] at hG
  obtain ⟨w1, hw1⟩ : ∃ w1, w.alloc (.cells #[.pointer (some t)] 112) = w1 := ⟨_, rfl⟩
  have hb1 : Blk w1 w.heap.size #[.pointer (some t)] 112 := by rw [← hw1]; exact Blk.new w _ _
  have hE1 : Ext w w1 := by rw [← hw1]; go_grown
  have hs1 : w1.heap.size = w.heap.size + 1 := by rw [← hw1]; simp
  obtain ⟨w2, hw2⟩ : ∃ w2, w1.alloc (.cells #[.pointer (some ⟨23, 112, none⟩), .pointer (some ⟨w.heap.size, 0, none⟩), .int .u64 150] 133) = w2 := ⟨_, rfl⟩
  have hb2 : Blk w2 (w.heap.size + 1) #[.pointer (some ⟨23, 112, none⟩), .pointer (some ⟨w.heap.size, 0, none⟩), .int .u64 150] 133 := by rw [← hw2, ← hs1]; exact Blk.new w1 _ _
  have hE2 : Ext w1 w2 := by rw [← hw2]; go_grown
  have hE : Ext w w2 := bel_call hE1 hE2
  have hc1 := (hb1.ext hE2).cell 0
  have c0 := hb2.cell 0
  have c1 := hb2.cell 1
  have c2 := hb2.cell 2
  have hG2 : w2.cell? ⟨16, 0, none⟩ = some (.iface 151 (.agg #[.pointer (some ⟨23, 29, none⟩)])) := by rw [hE.cell (p := ⟨16, 0, none⟩) hgl]; exact hG
  have ht2 : w2.cell? t = some old := by rw [hE.cell htl]; exact ht
  have hf2 : w2.frozen? t = false := by rw [← hw2, World.frozen?_alloc_old _ _ t (by omega), ← hw1, World.frozen?_alloc_old _ _ t (by omega)]; exact hf
  have hlp := as_loop_N L v a t w.heap.size old w2 (hL.ext hE) hc1 ht2 hf2 o ho
  have h99 := @run_callFunc_extern Tryz.prog 83 _ (fun args => ReflectliteValue.unpack (args.getD 0 (.tuple #[]))) Tryz.func83 (by kernel_rfl) (by kernel_rfl) (by kernel_rfl) (by kernel_rfl)
  have h100 := @run_callFunc_extern Tryz.prog 84 _ (ReflectliteValue.methodAny (ReflectliteValue.valueError "reflectlite.Value.Type" 0) (fun t _ _ _ => ReflectliteType.toType t)) Tryz.func84 (by kernel_rfl) (by kernel_rfl) (by kernel_rfl) (by kernel_rfl)
  have h101 := @run_callFunc_extern Tryz.prog 85 _ (ReflectliteValue.method (ReflectliteValue.valueError "reflectlite.Value.IsNil" 0) ReflectliteValue.isNil) Tryz.func85 (by kernel_rfl) (by kernel_rfl) (by kernel_rfl) (by kernel_rfl)
  have h121 := @run_callFunc_extern Tryz.prog 165 _ (ReflectliteType.abiMethod fun t => do pure (.int .u8 (← Rtype.kind t))) Tryz.func165 (by kernel_rfl) (by kernel_rfl) (by kernel_rfl) (by kernel_rfl)
  have h155 := @run_callFunc_extern Tryz.prog 179 _ (ReflectliteType.method ReflectliteType.elem) Tryz.func179 (by kernel_rfl) (by kernel_rfl) (by kernel_rfl) (by kernel_rfl)
  have h156 := @run_callFunc_extern Tryz.prog 180 _ (ReflectliteType.relation "Implements" ReflectliteType.implements_) Tryz.func180 (by kernel_rfl) (by kernel_rfl) (by kernel_rfl) (by kernel_rfl)
  have v9 := as_valueOf_N
  have tT := as_type_N
  have mK := as_mKind
  have mE := as_mElem
  have mI := as_mImplements
  have kT := as_kindT_N
  have kE := as_kindE_N
  have eT := as_elem_N
  have iT := as_implements_N
  have nT := as_isNil_N ⟨w.heap.size, 0, none⟩ t w2 hc1
  obtain ⟨T, x, rfl⟩ := Chain.iface hL
  go_enter Tryz.func57, Tryz.ntmps57
  go_wp2_with fail
  refine hlp.mono ?_
  rintro e w9 ⟨rfl, hend⟩
  go_wp2
  go_ret
  refine ⟨rfl, ?_⟩
  obtain ⟨w3, h3, hm⟩ := hend
  refine ⟨w3, bel_call hE h3, ?_⟩
  rcases o with _ | q
  · exact hm
  · obtain ⟨p, y, tt, hp, rfl⟩ := hm
    have hs2 : w2.heap.size = w.heap.size + 1 + 1 := by rw [← hw2]; simp [hs1]
    have hp' : w.heap[p]? = some (.cells #[y, q.2] tt (0, 0)) := by
      rcases Nat.lt_trichotomy p w.heap.size with h | h | h
      · rw [← hE.block _ h]; exact hp
      · subst h
        have := hp.symm.trans (hb1.ext hE2)
        simp at this
      · have hl := (Array.getElem?_eq_some_iff.1 hp).1
        obtain rfl : p = w.heap.size + 1 := by omega
        have := hp.symm.trans hb2
        simp at this
    exact ⟨p, y, tt, hp', rfl⟩
end Go.Proofs.YtnecafokkhhhhaaGreatDoor
namespace Go.Proofs.YtnecafokkhhhhaaGreatDoor
open Go Go.RowKit Go.Extern.Stop Go.Stop Go.Extern
theorem as_asg_ER (w : World) : (ReflectliteType.relation "AssignableTo" ReflectliteType.assignableTo #[.agg #[.pointer (some ⟨23, 192, none⟩)], .iface 151 (.agg #[.pointer (some ⟨23, 81, none⟩)])]).run Tryz.prog w = .ok (.bool (decide (192 = 81))) w := by kernel_rfl
theorem as_asg_PR (w : World) : (ReflectliteType.relation "AssignableTo" ReflectliteType.assignableTo #[.agg #[.pointer (some ⟨23, 70, none⟩)], .iface 151 (.agg #[.pointer (some ⟨23, 81, none⟩)])]).run Tryz.prog w = .ok (.bool (decide (70 = 81))) w := by kernel_rfl
theorem as_asg_NR (w : World) : (ReflectliteType.relation "AssignableTo" ReflectliteType.assignableTo #[.agg #[.pointer (some ⟨23, 76, none⟩)], .iface 151 (.agg #[.pointer (some ⟨23, 81, none⟩)])]).run Tryz.prog w = .ok (.bool (decide (76 = 81))) w := by kernel_rfl
theorem as_asg_RR (w : World) : (ReflectliteType.relation "AssignableTo" ReflectliteType.assignableTo #[.agg #[.pointer (some ⟨23, 81, none⟩)], .iface 151 (.agg #[.pointer (some ⟨23, 81, none⟩)])]).run Tryz.prog w = .ok (.bool (decide (81 = 81))) w := by kernel_rfl
theorem as_asg_SR (w : World) : (ReflectliteType.relation "AssignableTo" ReflectliteType.assignableTo #[.agg #[.pointer (some ⟨23, 85, none⟩)], .iface 151 (.agg #[.pointer (some ⟨23, 81, none⟩)])]).run Tryz.prog w = .ok (.bool (decide (85 = 81))) w := by kernel_rfl
theorem as_valueOf_R (t : Addr) (w : World) : (ReflectliteValue.unpack (.iface 113 (.pointer (some t)))).run Tryz.prog w
    = .ok (.agg #[.pointer (some ⟨23, 113, none⟩), .pointer (some ⟨w.heap.size, 0, none⟩), .int .u64 150]) (w.alloc (.cells #[.pointer (some t)] 113)) := by kernel_rfl
theorem as_valueOfE_R (t : Addr) (w : World) : (ReflectliteValue.unpack (.iface 81 (.pointer (some t)))).run Tryz.prog w
    = .ok (.agg #[.pointer (some ⟨23, 81, none⟩), .pointer (some ⟨w.heap.size, 0, none⟩), .int .u64 150]) (w.alloc (.cells #[.pointer (some t)] 81)) := by kernel_rfl
theorem as_type_R (a : Addr) (w : World) : (ReflectliteValue.methodAny (ReflectliteValue.valueError "reflectlite.Value.Type" 0) (fun t _ _ _ => ReflectliteType.toType t) #[.agg #[.pointer (some ⟨23, 113, none⟩), .pointer (some a), .int .u64 150]]).run Tryz.prog w
    = .ok (.iface 151 (.agg #[.pointer (some ⟨23, 113, none⟩)])) w := by kernel_rfl
theorem as_kindT_R (w : World) : ((ReflectliteType.abiMethod fun t => (fun a : Nat => Value.int IntKind.u8 (a : Int)) <$> Rtype.kind t) #[.pointer (some ⟨23, 113, none⟩)]).run Tryz.prog w = .ok (.int .u8 22) w := by kernel_rfl
theorem as_kindE_R (w : World) : ((ReflectliteType.abiMethod fun t => (fun a : Nat => Value.int IntKind.u8 (a : Int)) <$> Rtype.kind t) #[.pointer (some ⟨23, 81, none⟩)]).run Tryz.prog w = .ok (.int .u8 22) w := by kernel_rfl
theorem as_parts_R (a : Addr) (w : World) : (ReflectliteValue.parts (.agg #[.pointer (some ⟨23, 113, none⟩), .pointer (some a), .int .u64 150])).run Tryz.prog w = .ok (some (113, a, 150)) w := by kernel_rfl
theorem as_isNil_R (a p : Addr) (W : World) (ha : W.cell? a = some (.pointer (some p))) :
    (ReflectliteValue.method (ReflectliteValue.valueError "reflectlite.Value.IsNil" 0) ReflectliteValue.isNil #[.agg #[.pointer (some ⟨23, 113, none⟩), .pointer (some a), .int .u64 150]]).run Tryz.prog W = .ok (.bool false) W := by
  rw [rlm]
  simp only [Sem.run_bind, as_parts_R, Result.andThen]
  simp [ReflectliteValue.isNil, loadVar, isAgg, underlying, Tryz.underlying113, ha, Result.andThen]
theorem as_elem_R (w : World) : (ReflectliteType.method ReflectliteType.elem #[.agg #[.pointer (some ⟨23, 113, none⟩)]]).run Tryz.prog w = .ok (.iface 151 (.agg #[.pointer (some ⟨23, 81, none⟩)])) w := by kernel_rfl
theorem as_implements_R (w : World) : (ReflectliteType.relation "Implements" ReflectliteType.implements_ #[.agg #[.pointer (some ⟨23, 81, none⟩)], .iface 151 (.agg #[.pointer (some ⟨23, 29, none⟩)])]).run Tryz.prog w = .ok (.bool true) w := by kernel_rfl
theorem as_elemOf_R (w : World) : (Rtype.elem? 113).run Tryz.prog w = .ok (some 81) w := by kernel_rfl
theorem as_mk_R (p : Addr) (w : World) : (ReflectliteValue.mk 81 p ReflectliteValue.flagAddr).run Tryz.prog w = .ok (.agg #[.pointer (some ⟨23, 81, none⟩), .pointer (some p), .int .u64 406]) w := by kernel_rfl
theorem as_elemV_R (a p : Addr) (W : World) (ha : W.cell? a = some (.pointer (some p))) :
    (ReflectliteValue.method (ReflectliteValue.valueError "reflectlite.Value.Elem" 0) ReflectliteValue.elem #[.agg #[.pointer (some ⟨23, 113, none⟩), .pointer (some a), .int .u64 150]]).run Tryz.prog W
      = .ok (.agg #[.pointer (some ⟨23, 81, none⟩), .pointer (some p), .int .u64 406]) W := by
  rw [rlm]
  simp only [Sem.run_bind, as_parts_R, Result.andThen]
  simp [ReflectliteValue.elem, loadVar, isAgg, underlying, Tryz.underlying113, ha, Result.andThen, as_elemOf_R, as_mk_R]
theorem as_partsA_R (a : Addr) (w : World) : (ReflectliteValue.parts (.agg #[.pointer (some ⟨23, 81, none⟩), .pointer (some a), .int .u64 406])).run Tryz.prog w = .ok (some (81, a, 406)) w := by kernel_rfl
theorem as_partsE_R (a : Addr) (w : World) : (ReflectliteValue.parts (.agg #[.pointer (some ⟨23, 81, none⟩), .pointer (some a), .int .u64 150])).run Tryz.prog w = .ok (some (81, a, 150)) w := by kernel_rfl
theorem as_direct_R (w : World) : (Rtype.directlyAssignable 81 81).run Tryz.prog w = .ok true w := by kernel_rfl
theorem as_set_R (ta b e : Addr) (old : Value) (W : World) (hb : W.cell? b = some (.pointer (some e))) (ht : W.cell? ta = some old) (hf : W.frozen? ta = false) :
    (ReflectliteValue.set #[.agg #[.pointer (some ⟨23, 81, none⟩), .pointer (some ta), .int .u64 406], .agg #[.pointer (some ⟨23, 81, none⟩), .pointer (some b), .int .u64 150]]).run Tryz.prog W
      = .ok (.tuple #[]) (W.setCell ta (.pointer (some e))) := by
  rw [rls]
  simp only [Sem.run_bind, as_partsA_R, as_partsE_R, Result.andThen]
  simp [ReflectliteValue.flagAddr, loadVar, isAgg, underlying, Tryz.underlying81, hb, Result.andThen, as_direct_R, storeVar, Value.cells, storeCells, Addr.add]
  rw [run_store Tryz.prog W ta _ _ (by rfl)]
  simp [ht, hf]
set_option maxHeartbeats 4000000 in
set_option maxRecDepth 20000 in
theorem as_loop_R (L : List (TypeId × Value)) (v : Value) (a t : Addr) (vb : Nat) (old : Value) (w : World) (hL : Chain w L v (errAt a)) (hvb : w.cell? ⟨vb, 0, none⟩ = some (.pointer (some t))) (ht : w.cell? t = some old) (hf : w.frozen? t = false) (o : Option (TypeId × Value)) (ho : (L.find? fun q => q.1 == 81) = o) :
    Calls Tryz.prog 86 #[v, .iface 113 (.pointer (some t)), .agg #[.pointer (some ⟨23, 113, none⟩), .pointer (some ⟨vb, 0, none⟩), .int .u64 150], .iface 151 (.agg #[.pointer (some ⟨23, 81, none⟩)])] w
      fun e w' => e = .returned (.bool o.isSome) ∧ AsEnd w w' t o := by
  have htl : t.block < w.heap.size := by
    rcases Nat.lt_or_ge t.block w.heap.size with h | h
    · exact h
    · simp [World.cell?, Array.getElem?_eq_none h] at ht
  have hvl : vb < w.heap.size := by
    rcases Nat.lt_or_ge vb w.heap.size with h | h
    · exact h
    · simp [World.cell?, Array.getElem?_eq_none h] at hvb
  obtain ⟨w1, hw1⟩ : ∃ w1, w.alloc (.cells #[.pointer (some ⟨23, 113, none⟩), .pointer (some ⟨vb, 0, none⟩), .int .u64 150] 133) = w1 := ⟨_, rfl⟩
  have hb1 : Blk w1 w.heap.size #[.pointer (some ⟨23, 113, none⟩), .pointer (some ⟨vb, 0, none⟩), .int .u64 150] 133 := by rw [← hw1]; exact Blk.new w _ _
  have hE : Ext w w1 := by rw [← hw1]; go_grown
  have hs1 : w1.heap.size = w.heap.size + 1 := by rw [← hw1]; simp
  have c0 := hb1.cell 0
  have c1 := hb1.cell 1
  have c2 := hb1.cell 2
  have hvb1 : w1.cell? ⟨vb, 0, none⟩ = some (.pointer (some t)) := by rw [hE.cell (p := ⟨vb, 0, none⟩) hvl]; exact hvb
  have ht1 : w1.cell? t = some old := by rw [hE.cell htl]; exact ht
  have hf1 : w1.frozen? t = false := by rw [← hw1, World.frozen?_alloc_old _ _ t (Nat.ne_of_lt htl)]; exact hf
  have h83 := @run_callFunc_extern Tryz.prog 98 _ ReflectliteType.typeOf Tryz.func98 (by kernel_rfl) (by kernel_rfl) (by kernel_rfl) (by kernel_rfl)
  have h35 := @run_callFunc_extern Tryz.prog 177 _ (ReflectliteType.relation "AssignableTo" ReflectliteType.assignableTo) Tryz.func177 (by kernel_rfl) (by kernel_rfl) (by kernel_rfl) (by kernel_rfl)
  have h99 := @run_callFunc_extern Tryz.prog 83 _ (fun args => ReflectliteValue.unpack (args.getD 0 (.tuple #[]))) Tryz.func83 (by kernel_rfl) (by kernel_rfl) (by kernel_rfl) (by kernel_rfl)
  have h11 := @run_callFunc_extern Tryz.prog 100 _ (ReflectliteValue.method (ReflectliteValue.valueError "reflectlite.Value.Elem" 0) ReflectliteValue.elem) Tryz.func100 (by kernel_rfl) (by kernel_rfl) (by kernel_rfl) (by kernel_rfl)
  have h12 := @run_callFunc_extern Tryz.prog 101 _ ReflectliteValue.set Tryz.func101 (by kernel_rfl) (by kernel_rfl) (by kernel_rfl) (by kernel_rfl)
  have mA := as_mAssignable
  go_enter Tryz.func86, Tryz.ntmps86
  go_wp2_with fail
  go_loopw [0] (fun x wr => wr = w1 ∧ ∃ M, Chain w M x (errAt a) ∧ (M.find? fun q => q.1 == 81) = o) (fun x _ => deep x)
  case atStart => exact ⟨rfl, L, hL, ho⟩
  case round =>
    clear hL ho
    obtain ⟨rfl, M, hM, hfi⟩ := hrel
    rcases M with _ | ⟨⟨T, x⟩, M⟩
    · obtain rfl := hM
      have tO := as_typeOf_E
      have aT := as_asg_ER
      simp only [show decide (192 = 81) = false from rfl] at aT
      have nA := as_noAs_E
      have uI := is_noUn
      have uIs := is_noUns
      go_wp2
      go_ret
      rw [← hfi]
      exact ⟨rfl, _, hE, rfl⟩
    · obtain ⟨p, y, tt, hT, rfl, hp, hy, hM⟩ := hM
      have hp1 : wr.heap[p]? = some (.cells #[y, x] tt (0, 0)) := by rw [hE.block _ (Array.getElem?_eq_some_iff.1 hp).1]; exact hp
      have hun := unwrap_in p y x tt wr hp1
      obtain ⟨U, z, rfl⟩ := Chain.iface hM
      simp only [wt, List.mem_cons, List.not_mem_nil, or_false] at hT
      rcases hT with rfl | rfl | rfl | rfl
      · have tO := as_typeOf_P
        have aT := as_asg_PR
        simp only [show decide (70 = 81) = false from rfl] at aT
        have nA := as_noAs_P
        have uI := is_un_P
        have mI := is_mun_P
        go_wp2_with fail
        refine hun.mono ?_
        rintro e w9 ⟨rfl, rfl⟩
        go_wp2_with fail
        go_roundw
        case rel => exact ⟨trivial, M, hM, by rw [← hfi]; rfl⟩
        case measure => simp only [deep] at hy ⊢; omega
      · have tO := as_typeOf_N
        have aT := as_asg_NR
        simp only [show decide (76 = 81) = false from rfl] at aT
        have nA := as_noAs_N
        have uI := is_un_N
        have mI := is_mun_N
        go_wp2_with fail
        refine hun.mono ?_
        rintro e w9 ⟨rfl, rfl⟩
        go_wp2_with fail
        go_roundw
        case rel => exact ⟨trivial, M, hM, by rw [← hfi]; rfl⟩
        case measure => simp only [deep] at hy ⊢; omega
      · have tO := as_typeOf_R
        have aT := as_asg_RR
        simp only at aT
        have el := as_elemV_R ⟨vb, 0, none⟩ t wr hvb1
        have v9 := as_valueOfE_R
        have hE2 : Ext wr (wr.alloc (.cells #[.pointer (some ⟨p, 0, none⟩)] 81)) := by go_grown
        have hb2 := Blk.new wr #[.pointer (some ⟨p, 0, none⟩)] 81
        have htl1 : t.block < wr.heap.size := by omega
        have st := as_set_R t ⟨wr.heap.size, 0, none⟩ ⟨p, 0, none⟩ old (wr.alloc (.cells #[.pointer (some ⟨p, 0, none⟩)] 81)) (hb2.cell 0) (by rw [hE2.cell htl1]; exact ht1) (by rw [World.frozen?_alloc_old _ _ t (Nat.ne_of_lt htl1)]; exact hf1)
        rw [hs1] at st
        go_wp2
        go_ret
        rw [← hfi]
        exact ⟨rfl, _, bel_call hE hE2, p, _, tt, hp, rfl⟩
      · have tO := as_typeOf_S
        have aT := as_asg_SR
        simp only [show decide (85 = 81) = false from rfl] at aT
        have nA := as_noAs_S
        have uI := is_un_S
        have mI := is_mun_S
        go_wp2_with fail
        refine hun.mono ?_
        rintro e w9 ⟨rfl, rfl⟩
        go_wp2_with fail
        go_roundw
        case rel => exact ⟨trivial, M, hM, by rw [← hfi]; rfl⟩
        case measure => simp only [deep] at hy ⊢; omega
theorem as_nil_R (t : Value) (w : World) :
    Calls Tryz.prog 57 #[.nilIface, t] w fun e w' => e = .returned (.bool false) ∧ w' = w := by
  go_enter Tryz.func57, Tryz.ntmps57
  go_wp2
  go_ret
  exact ⟨rfl, rfl⟩
set_option maxHeartbeats 4000000 in
set_option maxRecDepth 20000 in
theorem as_all_R (L : List (TypeId × Value)) (v : Value) (a t : Addr) (old : Value) (w : World) (hG : w.cell? ⟨16, 0, none⟩ = some (.iface 151 (.agg #[.pointer (some ⟨23, 29, none⟩)]))) (hL : Chain w L v (errAt a)) (ht : w.cell? t = some old) (hf : w.frozen? t = false) (o : Option (TypeId × Value)) (ho : (L.find? fun q => q.1 == 81) = o) :
    Calls Tryz.prog 57 #[v, .iface 113 (.pointer (some t))] w fun e w' => e = .returned (.bool o.isSome) ∧ AsEnd w w' t o := by
  have htl : t.block < w.heap.size := by
    rcases Nat.lt_or_ge t.block w.heap.size with h | h
    · exact h
    · simp [World.cell?, Array.getElem?_eq_none h] at ht
  have hgl : 16 < w.heap.size := by
    rcases Nat.lt_or_ge 16 w.heap.size with h | h
    · exact h
    · simp [World.cell?, Array.getElem?_eq_none h] at hG
  obtain ⟨w1, hw1⟩ : ∃ w1, w.alloc (.cells #[.pointer (some t)] 113) = w1 := ⟨_, rfl⟩
  have hb1 : Blk w1 w.heap.size #[.pointer (some t)] 113 := by rw [← hw1]; exact Blk.new w _ _
  have hE1 : Ext w w1 := by rw [← hw1]; go_grown
  have hs1 : w1.heap.size = w.heap.size + 1 := by rw [← hw1]; simp
  obtain ⟨w2, hw2⟩ : ∃ w2, w1.alloc (.cells #[.pointer (some ⟨23, 113, none⟩), .pointer (some ⟨w.heap.size, 0, none⟩), .int .u64 150] 133) = w2 := ⟨_, rfl⟩
  have hb2 : Blk w2 (w.heap.size + 1) #[.pointer (some ⟨23, 113, none⟩), .pointer (some ⟨w.heap.size, 0, none⟩), .int .u64 150] 133 := by rw [← hw2, ← hs1]; exact Blk.new w1 _ _
  have hE2 : Ext w1 w2 := by rw [← hw2]; go_grown
  have hE : Ext w w2 := bel_call hE1 hE2
  have hc1 := (hb1.ext hE2).cell 0
  have c0 := hb2.cell 0
  have c1 := hb2.cell 1
  have c2 := hb2.cell 2
  have hG2 : w2.cell? ⟨16, 0, none⟩ = some (.iface 151 (.agg #[.pointer (some ⟨23, 29, none⟩)])) := by rw [hE.cell (p := ⟨16, 0, none⟩) hgl]; exact hG
  have ht2 : w2.cell? t = some old := by rw [hE.cell htl]; exact ht
  have hf2 : w2.frozen? t = false := by rw [← hw2, World.frozen?_alloc_old _ _ t (by omega), ← hw1, World.frozen?_alloc_old _ _ t (by omega)]; exact hf
  have hlp := as_loop_R L v a t w.heap.size old w2 (hL.ext hE) hc1 ht2 hf2 o ho
  have h99 := @run_callFunc_extern Tryz.prog 83 _ (fun args => ReflectliteValue.unpack (args.getD 0 (.tuple #[]))) Tryz.func83 (by kernel_rfl) (by kernel_rfl) (by kernel_rfl) (by kernel_rfl)
  have h100 := @run_callFunc_extern Tryz.prog 84 _ (ReflectliteValue.methodAny (ReflectliteValue.valueError "reflectlite.Value.Type" 0) (fun t _ _ _ => ReflectliteType.toType t)) Tryz.func84 (by kernel_rfl) (by kernel_rfl) (by kernel_rfl) (by kernel_rfl)
  have h101 := @run_callFunc_extern Tryz.prog 85 _ (ReflectliteValue.method (ReflectliteValue.valueError "reflectlite.Value.IsNil" 0) ReflectliteValue.isNil) Tryz.func85 (by kernel_rfl) (by kernel_rfl) (by kernel_rfl) (by kernel_rfl)
  have h121 := @run_callFunc_extern Tryz.prog 165 _ (ReflectliteType.abiMethod fun t => do pure (.int .u8 (← Rtype.kind t))) Tryz.func165 (by kernel_rfl) (by kernel_rfl) (by kernel_rfl) (by kernel_rfl)
  have h155 := @run_callFunc_extern Tryz.prog 179 _ (ReflectliteType.method ReflectliteType.elem) Tryz.func179 (by kernel_rfl) (by kernel_rfl) (by kernel_rfl) (by kernel_rfl)
  have h156 := @run_callFunc_extern Tryz.prog 180 _ (ReflectliteType.relation "Implements" ReflectliteType.implements_) Tryz.func180 (by kernel_rfl) (by kernel_rfl) (by kernel_rfl) (by kernel_rfl)
  have v9 := as_valueOf_R
  have tT := as_type_R
  have mK := as_mKind
  have mE := as_mElem
  have mI := as_mImplements
  have kT := as_kindT_R
  have kE := as_kindE_R
  have eT := as_elem_R
  have iT := as_implements_R
  have nT := as_isNil_R ⟨w.heap.size, 0, none⟩ t w2 hc1
  obtain ⟨T, x, rfl⟩ := Chain.iface hL
  go_enter Tryz.func57, Tryz.ntmps57
  go_wp2_with fail
  refine hlp.mono ?_
  rintro e w9 ⟨rfl, hend⟩
  go_wp2
  go_ret
  refine ⟨rfl, ?_⟩
  obtain ⟨w3, h3, hm⟩ := hend
  refine ⟨w3, bel_call hE h3, ?_⟩
  rcases o with _ | q
  · exact hm
  · obtain ⟨p, y, tt, hp, rfl⟩ := hm
    have hs2 : w2.heap.size = w.heap.size + 1 + 1 := by rw [← hw2]; simp [hs1]
    have hp' : w.heap[p]? = some (.cells #[y, q.2] tt (0, 0)) := by
      rcases Nat.lt_trichotomy p w.heap.size with h | h | h
      · rw [← hE.block _ h]; exact hp
      · subst h
        have := hp.symm.trans (hb1.ext hE2)
        simp at this
      · have hl := (Array.getElem?_eq_some_iff.1 hp).1
        obtain rfl : p = w.heap.size + 1 := by omega
        have := hp.symm.trans hb2
        simp at this
    exact ⟨p, y, tt, hp', rfl⟩
end Go.Proofs.YtnecafokkhhhhaaGreatDoor
namespace Go.Proofs.YtnecafokkhhhhaaGreatDoor
open Go Go.RowKit Go.Extern.Stop Go.Stop Go.Extern
theorem as_asg_ES (w : World) : (ReflectliteType.relation "AssignableTo" ReflectliteType.assignableTo #[.agg #[.pointer (some ⟨23, 192, none⟩)], .iface 151 (.agg #[.pointer (some ⟨23, 85, none⟩)])]).run Tryz.prog w = .ok (.bool (decide (192 = 85))) w := by kernel_rfl
theorem as_asg_PS (w : World) : (ReflectliteType.relation "AssignableTo" ReflectliteType.assignableTo #[.agg #[.pointer (some ⟨23, 70, none⟩)], .iface 151 (.agg #[.pointer (some ⟨23, 85, none⟩)])]).run Tryz.prog w = .ok (.bool (decide (70 = 85))) w := by kernel_rfl
theorem as_asg_NS (w : World) : (ReflectliteType.relation "AssignableTo" ReflectliteType.assignableTo #[.agg #[.pointer (some ⟨23, 76, none⟩)], .iface 151 (.agg #[.pointer (some ⟨23, 85, none⟩)])]).run Tryz.prog w = .ok (.bool (decide (76 = 85))) w := by kernel_rfl
theorem as_asg_RS (w : World) : (ReflectliteType.relation "AssignableTo" ReflectliteType.assignableTo #[.agg #[.pointer (some ⟨23, 81, none⟩)], .iface 151 (.agg #[.pointer (some ⟨23, 85, none⟩)])]).run Tryz.prog w = .ok (.bool (decide (81 = 85))) w := by kernel_rfl
theorem as_asg_SS (w : World) : (ReflectliteType.relation "AssignableTo" ReflectliteType.assignableTo #[.agg #[.pointer (some ⟨23, 85, none⟩)], .iface 151 (.agg #[.pointer (some ⟨23, 85, none⟩)])]).run Tryz.prog w = .ok (.bool (decide (85 = 85))) w := by kernel_rfl
theorem as_valueOf_S (t : Addr) (w : World) : (ReflectliteValue.unpack (.iface 114 (.pointer (some t)))).run Tryz.prog w
    = .ok (.agg #[.pointer (some ⟨23, 114, none⟩), .pointer (some ⟨w.heap.size, 0, none⟩), .int .u64 150]) (w.alloc (.cells #[.pointer (some t)] 114)) := by kernel_rfl
theorem as_valueOfE_S (t : Addr) (w : World) : (ReflectliteValue.unpack (.iface 85 (.pointer (some t)))).run Tryz.prog w
    = .ok (.agg #[.pointer (some ⟨23, 85, none⟩), .pointer (some ⟨w.heap.size, 0, none⟩), .int .u64 150]) (w.alloc (.cells #[.pointer (some t)] 85)) := by kernel_rfl
theorem as_type_S (a : Addr) (w : World) : (ReflectliteValue.methodAny (ReflectliteValue.valueError "reflectlite.Value.Type" 0) (fun t _ _ _ => ReflectliteType.toType t) #[.agg #[.pointer (some ⟨23, 114, none⟩), .pointer (some a), .int .u64 150]]).run Tryz.prog w
    = .ok (.iface 151 (.agg #[.pointer (some ⟨23, 114, none⟩)])) w := by kernel_rfl
theorem as_kindT_S (w : World) : ((ReflectliteType.abiMethod fun t => (fun a : Nat => Value.int IntKind.u8 (a : Int)) <$> Rtype.kind t) #[.pointer (some ⟨23, 114, none⟩)]).run Tryz.prog w = .ok (.int .u8 22) w := by kernel_rfl
theorem as_kindE_S (w : World) : ((ReflectliteType.abiMethod fun t => (fun a : Nat => Value.int IntKind.u8 (a : Int)) <$> Rtype.kind t) #[.pointer (some ⟨23, 85, none⟩)]).run Tryz.prog w = .ok (.int .u8 22) w := by kernel_rfl
theorem as_parts_S (a : Addr) (w : World) : (ReflectliteValue.parts (.agg #[.pointer (some ⟨23, 114, none⟩), .pointer (some a), .int .u64 150])).run Tryz.prog w = .ok (some (114, a, 150)) w := by kernel_rfl
theorem as_isNil_S (a p : Addr) (W : World) (ha : W.cell? a = some (.pointer (some p))) :
    (ReflectliteValue.method (ReflectliteValue.valueError "reflectlite.Value.IsNil" 0) ReflectliteValue.isNil #[.agg #[.pointer (some ⟨23, 114, none⟩), .pointer (some a), .int .u64 150]]).run Tryz.prog W = .ok (.bool false) W := by
  rw [rlm]
  simp only [Sem.run_bind, as_parts_S, Result.andThen]
  simp [ReflectliteValue.isNil, loadVar, isAgg, underlying, Tryz.underlying114, ha, Result.andThen]
theorem as_elem_S (w : World) : (ReflectliteType.method ReflectliteType.elem #[.agg #[.pointer (some ⟨23, 114, none⟩)]]).run Tryz.prog w = .ok (.iface 151 (.agg #[.pointer (some ⟨23, 85, none⟩)])) w := by kernel_rfl
theorem as_implements_S (w : World) : (ReflectliteType.relation "Implements" ReflectliteType.implements_ #[.agg #[.pointer (some ⟨23, 85, none⟩)], .iface 151 (.agg #[.pointer (some ⟨23, 29, none⟩)])]).run Tryz.prog w = .ok (.bool true) w := by kernel_rfl
theorem as_elemOf_S (w : World) : (Rtype.elem? 114).run Tryz.prog w = .ok (some 85) w := by kernel_rfl
theorem as_mk_S (p : Addr) (w : World) : (ReflectliteValue.mk 85 p ReflectliteValue.flagAddr).run Tryz.prog w = .ok (.agg #[.pointer (some ⟨23, 85, none⟩), .pointer (some p), .int .u64 406]) w := by kernel_rfl
theorem as_elemV_S (a p : Addr) (W : World) (ha : W.cell? a = some (.pointer (some p))) :
    (ReflectliteValue.method (ReflectliteValue.valueError "reflectlite.Value.Elem" 0) ReflectliteValue.elem #[.agg #[.pointer (some ⟨23, 114, none⟩), .pointer (some a), .int .u64 150]]).run Tryz.prog W
      = .ok (.agg #[.pointer (some ⟨23, 85, none⟩), .pointer (some p), .int .u64 406]) W := by
  rw [rlm]
  simp only [Sem.run_bind, as_parts_S, Result.andThen]
  simp [ReflectliteValue.elem, loadVar, isAgg, underlying, Tryz.underlying114, ha, Result.andThen, as_elemOf_S, as_mk_S]
theorem as_partsA_S (a : Addr) (w : World) : (ReflectliteValue.parts (.agg #[.pointer (some ⟨23, 85, none⟩), .pointer (some a), .int .u64 406])).run Tryz.prog w = .ok (some (85, a, 406)) w := by kernel_rfl
theorem as_partsE_S (a : Addr) (w : World) : (ReflectliteValue.parts (.agg #[.pointer (some ⟨23, 85, none⟩), .pointer (some a), .int .u64 150])).run Tryz.prog w = .ok (some (85, a, 150)) w := by kernel_rfl
theorem as_direct_S (w : World) : (Rtype.directlyAssignable 85 85).run Tryz.prog w = .ok true w := by kernel_rfl
theorem as_set_S (ta b e : Addr) (old : Value) (W : World) (hb : W.cell? b = some (.pointer (some e))) (ht : W.cell? ta = some old) (hf : W.frozen? ta = false) :
    (ReflectliteValue.set #[.agg #[.pointer (some ⟨23, 85, none⟩), .pointer (some ta), .int .u64 406], .agg #[.pointer (some ⟨23, 85, none⟩), .pointer (some b), .int .u64 150]]).run Tryz.prog W
      = .ok (.tuple #[]) (W.setCell ta (.pointer (some e))) := by
  rw [rls]
  simp only [Sem.run_bind, as_partsA_S, as_partsE_S, Result.andThen]
  simp [ReflectliteValue.flagAddr, loadVar, isAgg, underlying, Tryz.underlying85, hb, Result.andThen, as_direct_S, storeVar, Value.cells, storeCells, Addr.add]
  rw [run_store Tryz.prog W ta _ _ (by rfl)]
  simp [ht, hf]
set_option maxHeartbeats 4000000 in
set_option maxRecDepth 20000 in
theorem as_loop_S (L : List (TypeId × Value)) (v : Value) (a t : Addr) (vb : Nat) (old : Value) (w : World) (hL : Chain w L v (errAt a)) (hvb : w.cell? ⟨vb, 0, none⟩ = some (.pointer (some t))) (ht : w.cell? t = some old) (hf : w.frozen? t = false) (o : Option (TypeId × Value)) (ho : (L.find? fun q => q.1 == 85) = o) :
    Calls Tryz.prog 86 #[v, .iface 114 (.pointer (some t)), .agg #[.pointer (some ⟨23, 114, none⟩), .pointer (some ⟨vb, 0, none⟩), .int .u64 150], .iface 151 (.agg #[.pointer (some ⟨23, 85, none⟩)])] w
      fun e w' => e = .returned (.bool o.isSome) ∧ AsEnd w w' t o := by
  have htl : t.block < w.heap.size := by
    rcases Nat.lt_or_ge t.block w.heap.size with h | h
    · exact h
    · simp [World.cell?, Array.getElem?_eq_none h] at ht
  have hvl : vb < w.heap.size := by
    rcases Nat.lt_or_ge vb w.heap.size with h | h
    · exact h
    · simp [World.cell?, Array.getElem?_eq_none h] at hvb
  obtain ⟨w1, hw1⟩ : ∃ w1, w.alloc (.cells #[.pointer (some ⟨23, 114, none⟩), .pointer (some ⟨vb, 0, none⟩), .int .u64 150] 133) = w1 := ⟨_, rfl⟩
  have hb1 : Blk w1 w.heap.size #[.pointer (some ⟨23, 114, none⟩), .pointer (some ⟨vb, 0, none⟩), .int .u64 150] 133 := by rw [← hw1]; exact Blk.new w _ _
  have hE : Ext w w1 := by rw [← hw1]; go_grown
  have hs1 : w1.heap.size = w.heap.size + 1 := by rw [← hw1]; simp
  have c0 := hb1.cell 0
  have c1 := hb1.cell 1
  have c2 := hb1.cell 2
  have hvb1 : w1.cell? ⟨vb, 0, none⟩ = some (.pointer (some t)) := by rw [hE.cell (p := ⟨vb, 0, none⟩) hvl]; exact hvb
  have ht1 : w1.cell? t = some old := by rw [hE.cell htl]; exact ht
  have hf1 : w1.frozen? t = false := by rw [← hw1, World.frozen?_alloc_old _ _ t (Nat.ne_of_lt htl)]; exact hf
  have h83 := @run_callFunc_extern Tryz.prog 98 _ ReflectliteType.typeOf Tryz.func98 (by kernel_rfl) (by kernel_rfl) (by kernel_rfl) (by kernel_rfl)
  have h35 := @run_callFunc_extern Tryz.prog 177 _ (ReflectliteType.relation "AssignableTo" ReflectliteType.assignableTo) Tryz.func177 (by kernel_rfl) (by kernel_rfl) (by kernel_rfl) (by kernel_rfl)
  have h99 := @run_callFunc_extern Tryz.prog 83 _ (fun args => ReflectliteValue.unpack (args.getD 0 (.tuple #[]))) Tryz.func83 (by kernel_rfl) (by kernel_rfl) (by kernel_rfl) (by kernel_rfl)
  have h11 := @run_callFunc_extern Tryz.prog 100 _ (ReflectliteValue.method (ReflectliteValue.valueError "reflectlite.Value.Elem" 0) ReflectliteValue.elem) Tryz.func100 (by kernel_rfl) (by kernel_rfl) (by kernel_rfl) (by kernel_rfl)
  have h12 := @run_callFunc_extern Tryz.prog 101 _ ReflectliteValue.set Tryz.func101 (by kernel_rfl) (by kernel_rfl) (by kernel_rfl) (by kernel_rfl)
  have mA := as_mAssignable
  go_enter Tryz.func86, Tryz.ntmps86
  go_wp2_with fail
  go_loopw [0] (fun x wr => wr = w1 ∧ ∃ M, Chain w M x (errAt a) ∧ (M.find? fun q => q.1 == 85) = o) (fun x _ => deep x)
  case atStart => exact ⟨rfl, L, hL, ho⟩
  case round =>
    clear hL ho
    obtain ⟨rfl, M, hM, hfi⟩ := hrel
    rcases M with _ | ⟨⟨T, x⟩, M⟩
    · obtain rfl := hM
      have tO := as_typeOf_E
      have aT := as_asg_ES
      simp only [show decide (192 = 85) = false from rfl] at aT
      have nA := as_noAs_E
      have uI := is_noUn
      have uIs := is_noUns
      go_wp2
      go_ret
      rw [← hfi]
      exact ⟨rfl, _, hE, rfl⟩
    · obtain ⟨p, y, tt, hT, rfl, hp, hy, hM⟩ := hM
      have hp1 : wr.heap[p]? = some (.cells #[y, x] tt (0, 0)) := by rw [hE.block _ (Array.getElem?_eq_some_iff.1 hp).1]; exact hp
      have hun := unwrap_in p y x tt wr hp1
      obtain ⟨U, z, rfl⟩ := Chain.iface hM
      simp only [wt, List.mem_cons, List.not_mem_nil, or_false] at hT
      rcases hT with rfl | rfl | rfl | rfl
      · have tO := as_typeOf_P
        have aT := as_asg_PS
        simp only [show decide (70 = 85) = false from rfl] at aT
        have nA := as_noAs_P
        have uI := is_un_P
        have mI := is_mun_P
        go_wp2_with fail
        refine hun.mono ?_
        rintro e w9 ⟨rfl, rfl⟩
        go_wp2_with fail
        go_roundw
        case rel => exact ⟨trivial, M, hM, by rw [← hfi]; rfl⟩
        case measure => simp only [deep] at hy ⊢; omega
      · have tO := as_typeOf_N
        have aT := as_asg_NS
        simp only [show decide (76 = 85) = false from rfl] at aT
        have nA := as_noAs_N
        have uI := is_un_N
        have mI := is_mun_N
        go_wp2_with fail
        refine hun.mono ?_
        rintro e w9 ⟨rfl, rfl⟩
        go_wp2_with fail
        go_roundw
        case rel => exact ⟨trivial, M, hM, by rw [← hfi]; rfl⟩
        case measure => simp only [deep] at hy ⊢; omega
      · have tO := as_typeOf_R
        have aT := as_asg_RS
        simp only [show decide (81 = 85) = false from rfl] at aT
        have nA := as_noAs_R
        have uI := is_un_R
        have mI := is_mun_R
        go_wp2_with fail
        refine hun.mono ?_
        rintro e w9 ⟨rfl, rfl⟩
        go_wp2_with fail
        go_roundw
        case rel => exact ⟨trivial, M, hM, by rw [← hfi]; rfl⟩
        case measure => simp only [deep] at hy ⊢; omega
      · have tO := as_typeOf_S
        have aT := as_asg_SS
        simp only at aT
        have el := as_elemV_S ⟨vb, 0, none⟩ t wr hvb1
        have v9 := as_valueOfE_S
        have hE2 : Ext wr (wr.alloc (.cells #[.pointer (some ⟨p, 0, none⟩)] 85)) := by go_grown
        have hb2 := Blk.new wr #[.pointer (some ⟨p, 0, none⟩)] 85
        have htl1 : t.block < wr.heap.size := by omega
        have st := as_set_S t ⟨wr.heap.size, 0, none⟩ ⟨p, 0, none⟩ old (wr.alloc (.cells #[.pointer (some ⟨p, 0, none⟩)] 85)) (hb2.cell 0) (by rw [hE2.cell htl1]; exact ht1) (by rw [World.frozen?_alloc_old _ _ t (Nat.ne_of_lt htl1)]; exact hf1)
        rw [hs1] at st
        go_wp2
        go_ret
        rw [← hfi]
        exact ⟨rfl, _, bel_call hE hE2, p, _, tt, hp, rfl⟩
theorem as_nil_S (t : Value) (w : World) :
    Calls Tryz.prog 57 #[.nilIface, t] w fun e w' => e = .returned (.bool false) ∧ w' = w := by
  go_enter Tryz.func57, Tryz.ntmps57
  go_wp2
  go_ret
  exact ⟨rfl, rfl⟩
set_option maxHeartbeats 4000000 in
set_option maxRecDepth 20000 in
theorem as_all_S (L : List (TypeId × Value)) (v : Value) (a t : Addr) (old : Value) (w : World) (hG : w.cell? ⟨16, 0, none⟩ = some (.iface 151 (.agg #[.pointer (some ⟨23, 29, none⟩)]))) (hL : Chain w L v (errAt a)) (ht : w.cell? t = some old) (hf : w.frozen? t = false) (o : Option (TypeId × Value)) (ho : (L.find? fun q => q.1 == 85) = o) :
    Calls Tryz.prog 57 #[v, .iface 114 (.pointer (some t))] w fun e w' => e = .returned (.bool o.isSome) ∧ AsEnd w w' t o := by
  have htl : t.block < w.heap.size := by
    rcases Nat.lt_or_ge t.block w.heap.size with h | h
    · exact h
    · simp [World.cell?, Array.getElem?_eq_none h] at ht
  have hgl : 16 < w.heap.size := by
    rcases Nat.lt_or_ge 16 w.heap.size with h | h
    · exact h
    · simp [World.cell?, Array.getElem?_eq_none h] at hG
  obtain ⟨w1, hw1⟩ : ∃ w1, w.alloc (.cells #[.pointer (some t)] 114) = w1 := ⟨_, rfl⟩
  have hb1 : Blk w1 w.heap.size #[.pointer (some t)] 114 := by rw [← hw1]; exact Blk.new w _ _
  have hE1 : Ext w w1 := by rw [← hw1]; go_grown
  have hs1 : w1.heap.size = w.heap.size + 1 := by rw [← hw1]; simp
  obtain ⟨w2, hw2⟩ : ∃ w2, w1.alloc (.cells #[.pointer (some ⟨23, 114, none⟩), .pointer (some ⟨w.heap.size, 0, none⟩), .int .u64 150] 133) = w2 := ⟨_, rfl⟩
  have hb2 : Blk w2 (w.heap.size + 1) #[.pointer (some ⟨23, 114, none⟩), .pointer (some ⟨w.heap.size, 0, none⟩), .int .u64 150] 133 := by rw [← hw2, ← hs1]; exact Blk.new w1 _ _
  have hE2 : Ext w1 w2 := by rw [← hw2]; go_grown
  have hE : Ext w w2 := bel_call hE1 hE2
  have hc1 := (hb1.ext hE2).cell 0
  have c0 := hb2.cell 0
  have c1 := hb2.cell 1
  have c2 := hb2.cell 2
  have hG2 : w2.cell? ⟨16, 0, none⟩ = some (.iface 151 (.agg #[.pointer (some ⟨23, 29, none⟩)])) := by rw [hE.cell (p := ⟨16, 0, none⟩) hgl]; exact hG
  have ht2 : w2.cell? t = some old := by rw [hE.cell htl]; exact ht
  have hf2 : w2.frozen? t = false := by rw [← hw2, World.frozen?_alloc_old _ _ t (by omega), ← hw1, World.frozen?_alloc_old _ _ t (by omega)]; exact hf
  have hlp := as_loop_S L v a t w.heap.size old w2 (hL.ext hE) hc1 ht2 hf2 o ho
  have h99 := @run_callFunc_extern Tryz.prog 83 _ (fun args => ReflectliteValue.unpack (args.getD 0 (.tuple #[]))) Tryz.func83 (by kernel_rfl) (by kernel_rfl) (by kernel_rfl) (by kernel_rfl)
  have h100 := @run_callFunc_extern Tryz.prog 84 _ (ReflectliteValue.methodAny (ReflectliteValue.valueError "reflectlite.Value.Type" 0) (fun t _ _ _ => ReflectliteType.toType t)) Tryz.func84 (by kernel_rfl) (by kernel_rfl) (by kernel_rfl) (by kernel_rfl)
  have h101 := @run_callFunc_extern Tryz.prog 85 _ (ReflectliteValue.method (ReflectliteValue.valueError "reflectlite.Value.IsNil" 0) ReflectliteValue.isNil) Tryz.func85 (by kernel_rfl) (by kernel_rfl) (by kernel_rfl) (by kernel_rfl)
  have h121 := @run_callFunc_extern Tryz.prog 165 _ (ReflectliteType.abiMethod fun t => do pure (.int .u8 (← Rtype.kind t))) Tryz.func165 (by kernel_rfl) (by kernel_rfl) (by kernel_rfl) (by kernel_rfl)
  have h155 := @run_callFunc_extern Tryz.prog 179 _ (ReflectliteType.method ReflectliteType.elem) Tryz.func179 (by kernel_rfl) (by kernel_rfl) (by kernel_rfl) (by kernel_rfl)
  have h156 := @run_callFunc_extern Tryz.prog 180 _ (ReflectliteType.relation "Implements" ReflectliteType.implements_) Tryz.func180 (by kernel_rfl) (by kernel_rfl) (by kernel_rfl) (by kernel_rfl)
  have v9 := as_valueOf_S
  have tT := as_type_S
  have mK := as_mKind
  have mE := as_mElem
  have mI := as_mImplements
  have kT := as_kindT_S
  have kE := as_kindE_S
  have eT := as_elem_S
  have iT := as_implements_S
  have nT := as_isNil_S ⟨w.heap.size, 0, none⟩ t w2 hc1
  obtain ⟨T, x, rfl⟩ := Chain.iface hL
  go_enter Tryz.func57, Tryz.ntmps57
  go_wp2_with fail
  refine hlp.mono ?_
  rintro e w9 ⟨rfl, hend⟩
  go_wp2
  go_ret
  refine ⟨rfl, ?_⟩
  obtain ⟨w3, h3, hm⟩ := hend
  refine ⟨w3, bel_call hE h3, ?_⟩
  rcases o with _ | q
  · exact hm
  · obtain ⟨p, y, tt, hp, rfl⟩ := hm
    have hs2 : w2.heap.size = w.heap.size + 1 + 1 := by rw [← hw2]; simp [hs1]
    have hp' : w.heap[p]? = some (.cells #[y, q.2] tt (0, 0)) := by
      rcases Nat.lt_trichotomy p w.heap.size with h | h | h
      · rw [← hE.block _ h]; exact hp
      · subst h
        have := hp.symm.trans (hb1.ext hE2)
        simp at this
      · have hl := (Array.getElem?_eq_some_iff.1 hp).1
        obtain rfl : p = w.heap.size + 1 := by omega
        have := hp.symm.trans hb2
        simp at this
    exact ⟨p, y, tt, hp', rfl⟩
end Go.Proofs.YtnecafokkhhhhaaGreatDoor
