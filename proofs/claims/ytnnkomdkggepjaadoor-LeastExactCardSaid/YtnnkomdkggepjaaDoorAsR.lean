/- errors.As at *fault.inRule. -/
import Derived.Test.YtnnkomdkggepjaaDoorAs
namespace Go.Proofs.YtnnkomdkggepjaaDoor
open Go Go.RowKit Go.Extern.Stop Go.Stop Go.Extern
theorem as_asg_ER (w : World) : (ReflectliteType.relation "AssignableTo" ReflectliteType.assignableTo #[.agg #[.pointer (some ⟨17, 155, none⟩)], .iface 140 (.agg #[.pointer (some ⟨17, 93, none⟩)])]).run Tryd.prog w = .ok (.bool (decide (155 = 93))) w := by kernel_rfl
theorem as_asg_PR (w : World) : (ReflectliteType.relation "AssignableTo" ReflectliteType.assignableTo #[.agg #[.pointer (some ⟨17, 82, none⟩)], .iface 140 (.agg #[.pointer (some ⟨17, 93, none⟩)])]).run Tryd.prog w = .ok (.bool (decide (82 = 93))) w := by kernel_rfl
theorem as_asg_NR (w : World) : (ReflectliteType.relation "AssignableTo" ReflectliteType.assignableTo #[.agg #[.pointer (some ⟨17, 88, none⟩)], .iface 140 (.agg #[.pointer (some ⟨17, 93, none⟩)])]).run Tryd.prog w = .ok (.bool (decide (88 = 93))) w := by kernel_rfl
theorem as_asg_RR (w : World) : (ReflectliteType.relation "AssignableTo" ReflectliteType.assignableTo #[.agg #[.pointer (some ⟨17, 93, none⟩)], .iface 140 (.agg #[.pointer (some ⟨17, 93, none⟩)])]).run Tryd.prog w = .ok (.bool (decide (93 = 93))) w := by kernel_rfl
theorem as_asg_SR (w : World) : (ReflectliteType.relation "AssignableTo" ReflectliteType.assignableTo #[.agg #[.pointer (some ⟨17, 97, none⟩)], .iface 140 (.agg #[.pointer (some ⟨17, 93, none⟩)])]).run Tryd.prog w = .ok (.bool (decide (97 = 93))) w := by kernel_rfl
theorem as_valueOf_R (t : Addr) (w : World) : (ReflectliteValue.unpack (.iface 116 (.pointer (some t)))).run Tryd.prog w
    = .ok (.agg #[.pointer (some ⟨17, 116, none⟩), .pointer (some ⟨w.heap.size, 0, none⟩), .int .u64 150]) (w.alloc (.cells #[.pointer (some t)] 116)) := by kernel_rfl
theorem as_valueOfE_R (t : Addr) (w : World) : (ReflectliteValue.unpack (.iface 93 (.pointer (some t)))).run Tryd.prog w
    = .ok (.agg #[.pointer (some ⟨17, 93, none⟩), .pointer (some ⟨w.heap.size, 0, none⟩), .int .u64 150]) (w.alloc (.cells #[.pointer (some t)] 93)) := by kernel_rfl
theorem as_type_R (a : Addr) (w : World) : (ReflectliteValue.methodAny (ReflectliteValue.valueError "reflectlite.Value.Type" 0) (fun t _ _ _ => ReflectliteType.toType t) #[.agg #[.pointer (some ⟨17, 116, none⟩), .pointer (some a), .int .u64 150]]).run Tryd.prog w
    = .ok (.iface 140 (.agg #[.pointer (some ⟨17, 116, none⟩)])) w := by kernel_rfl
theorem as_kindT_R (w : World) : ((ReflectliteType.abiMethod fun t => (fun a : Nat => Value.int IntKind.u8 (a : Int)) <$> Rtype.kind t) #[.pointer (some ⟨17, 116, none⟩)]).run Tryd.prog w = .ok (.int .u8 22) w := by kernel_rfl
theorem as_kindE_R (w : World) : ((ReflectliteType.abiMethod fun t => (fun a : Nat => Value.int IntKind.u8 (a : Int)) <$> Rtype.kind t) #[.pointer (some ⟨17, 93, none⟩)]).run Tryd.prog w = .ok (.int .u8 22) w := by kernel_rfl
theorem as_parts_R (a : Addr) (w : World) : (ReflectliteValue.parts (.agg #[.pointer (some ⟨17, 116, none⟩), .pointer (some a), .int .u64 150])).run Tryd.prog w = .ok (some (116, a, 150)) w := by kernel_rfl
theorem as_isNil_R (a p : Addr) (W : World) (ha : W.cell? a = some (.pointer (some p))) :
    (ReflectliteValue.method (ReflectliteValue.valueError "reflectlite.Value.IsNil" 0) ReflectliteValue.isNil #[.agg #[.pointer (some ⟨17, 116, none⟩), .pointer (some a), .int .u64 150]]).run Tryd.prog W = .ok (.bool false) W := by
  rw [rlm]
  simp only [Sem.run_bind, as_parts_R, Result.andThen]
  simp [ReflectliteValue.isNil, loadVar, isAgg, underlying, Tryd.underlying116, ha, Result.andThen]
theorem as_elem_R (w : World) : (ReflectliteType.method ReflectliteType.elem #[.agg #[.pointer (some ⟨17, 116, none⟩)]]).run Tryd.prog w = .ok (.iface 140 (.agg #[.pointer (some ⟨17, 93, none⟩)])) w := by kernel_rfl
theorem as_implements_R (w : World) : (ReflectliteType.relation "Implements" ReflectliteType.implements_ #[.agg #[.pointer (some ⟨17, 93, none⟩)], .iface 140 (.agg #[.pointer (some ⟨17, 36, none⟩)])]).run Tryd.prog w = .ok (.bool true) w := by kernel_rfl
theorem as_elemOf_R (w : World) : (Rtype.elem? 116).run Tryd.prog w = .ok (some 93) w := by kernel_rfl
theorem as_mk_R (p : Addr) (w : World) : (ReflectliteValue.mk 93 p ReflectliteValue.flagAddr).run Tryd.prog w = .ok (.agg #[.pointer (some ⟨17, 93, none⟩), .pointer (some p), .int .u64 406]) w := by kernel_rfl
theorem as_elemV_R (a p : Addr) (W : World) (ha : W.cell? a = some (.pointer (some p))) :
    (ReflectliteValue.method (ReflectliteValue.valueError "reflectlite.Value.Elem" 0) ReflectliteValue.elem #[.agg #[.pointer (some ⟨17, 116, none⟩), .pointer (some a), .int .u64 150]]).run Tryd.prog W
      = .ok (.agg #[.pointer (some ⟨17, 93, none⟩), .pointer (some p), .int .u64 406]) W := by
  rw [rlm]
  simp only [Sem.run_bind, as_parts_R, Result.andThen]
  simp [ReflectliteValue.elem, loadVar, isAgg, underlying, Tryd.underlying116, ha, Result.andThen, as_elemOf_R, as_mk_R]
theorem as_partsA_R (a : Addr) (w : World) : (ReflectliteValue.parts (.agg #[.pointer (some ⟨17, 93, none⟩), .pointer (some a), .int .u64 406])).run Tryd.prog w = .ok (some (93, a, 406)) w := by kernel_rfl
theorem as_partsE_R (a : Addr) (w : World) : (ReflectliteValue.parts (.agg #[.pointer (some ⟨17, 93, none⟩), .pointer (some a), .int .u64 150])).run Tryd.prog w = .ok (some (93, a, 150)) w := by kernel_rfl
theorem as_direct_R (w : World) : (Rtype.directlyAssignable 93 93).run Tryd.prog w = .ok true w := by kernel_rfl
theorem as_set_R (ta b e : Addr) (old : Value) (W : World) (hb : W.cell? b = some (.pointer (some e))) (ht : W.cell? ta = some old) (hf : W.frozen? ta = false) :
    (ReflectliteValue.set #[.agg #[.pointer (some ⟨17, 93, none⟩), .pointer (some ta), .int .u64 406], .agg #[.pointer (some ⟨17, 93, none⟩), .pointer (some b), .int .u64 150]]).run Tryd.prog W
      = .ok (.tuple #[]) (W.setCell ta (.pointer (some e))) := by
  rw [rls]
  simp only [Sem.run_bind, as_partsA_R, as_partsE_R, Result.andThen]
  simp [ReflectliteValue.flagAddr, loadVar, isAgg, underlying, Tryd.underlying93, hb, Result.andThen, as_direct_R, storeVar, Value.cells, storeCells, Addr.add]
  rw [run_store Tryd.prog W ta _ _ (by rfl)]
  simp [ht, hf]
set_option maxHeartbeats 4000000 in
set_option maxRecDepth 20000 in
theorem as_loop_R (L : List (TypeId × Value)) (v : Value) (a t : Addr) (vb : Nat) (old : Value) (w : World) (hL : Chain w L v (errAt a)) (hvb : w.cell? ⟨vb, 0, none⟩ = some (.pointer (some t))) (ht : w.cell? t = some old) (hf : w.frozen? t = false) (o : Option (TypeId × Value)) (ho : (L.find? fun q => q.1 == 93) = o) :
    Calls Tryd.prog 68 #[v, .iface 116 (.pointer (some t)), .agg #[.pointer (some ⟨17, 116, none⟩), .pointer (some ⟨vb, 0, none⟩), .int .u64 150], .iface 140 (.agg #[.pointer (some ⟨17, 93, none⟩)])] w
      fun e w' => e = .returned (.bool o.isSome) ∧ AsEnd w w' t o := by
  have htl : t.block < w.heap.size := by
    rcases Nat.lt_or_ge t.block w.heap.size with h | h
    · exact h
    · simp [World.cell?, Array.getElem?_eq_none h] at ht
  have hvl : vb < w.heap.size := by
    rcases Nat.lt_or_ge vb w.heap.size with h | h
    · exact h
    · simp [World.cell?, Array.getElem?_eq_none h] at hvb
  obtain ⟨w1, hw1⟩ : ∃ w1, w.alloc (.cells #[.pointer (some ⟨17, 116, none⟩), .pointer (some ⟨vb, 0, none⟩), .int .u64 150] 128) = w1 := ⟨_, rfl⟩
  have hb1 : Blk w1 w.heap.size #[.pointer (some ⟨17, 116, none⟩), .pointer (some ⟨vb, 0, none⟩), .int .u64 150] 128 := by rw [← hw1]; exact Blk.new w _ _
  have hE : Ext w w1 := by rw [← hw1]; go_grown
  have hs1 : w1.heap.size = w.heap.size + 1 := by rw [← hw1]; simp
  have c0 := hb1.cell 0
  have c1 := hb1.cell 1
  have c2 := hb1.cell 2
  have hvb1 : w1.cell? ⟨vb, 0, none⟩ = some (.pointer (some t)) := by rw [hE.cell (p := ⟨vb, 0, none⟩) hvl]; exact hvb
  have ht1 : w1.cell? t = some old := by rw [hE.cell htl]; exact ht
  have hf1 : w1.frozen? t = false := by rw [← hw1, World.frozen?_alloc_old _ _ t (Nat.ne_of_lt htl)]; exact hf
  have h83 := @run_callFunc_extern Tryd.prog 69 _ ReflectliteType.typeOf Tryd.func69 (by kernel_rfl) (by kernel_rfl) (by kernel_rfl) (by kernel_rfl)
  have h35 := @run_callFunc_extern Tryd.prog 99 _ (ReflectliteType.relation "AssignableTo" ReflectliteType.assignableTo) Tryd.func99 (by kernel_rfl) (by kernel_rfl) (by kernel_rfl) (by kernel_rfl)
  have h99 := @run_callFunc_extern Tryd.prog 65 _ (fun args => ReflectliteValue.unpack (args.getD 0 (.tuple #[]))) Tryd.func65 (by kernel_rfl) (by kernel_rfl) (by kernel_rfl) (by kernel_rfl)
  have h11 := @run_callFunc_extern Tryd.prog 71 _ (ReflectliteValue.method (ReflectliteValue.valueError "reflectlite.Value.Elem" 0) ReflectliteValue.elem) Tryd.func71 (by kernel_rfl) (by kernel_rfl) (by kernel_rfl) (by kernel_rfl)
  have h12 := @run_callFunc_extern Tryd.prog 72 _ ReflectliteValue.set Tryd.func72 (by kernel_rfl) (by kernel_rfl) (by kernel_rfl) (by kernel_rfl)
  have mA := as_mAssignable
  go_enter Tryd.func68, Tryd.ntmps68
  go_wp2_with fail
  go_loopw [0] (fun x wr => wr = w1 ∧ ∃ M, Chain w M x (errAt a) ∧ (M.find? fun q => q.1 == 93) = o) (fun x _ => deep x)
  case atStart => exact ⟨rfl, L, hL, ho⟩
  case round =>
    clear hL ho
    obtain ⟨rfl, M, hM, hfi⟩ := hrel
    rcases M with _ | ⟨⟨T, x⟩, M⟩
    · obtain rfl := hM
      have tO := as_typeOf_E
      have aT := as_asg_ER
      simp only [show decide (155 = 93) = false from rfl] at aT
      have nA := as_noAs_E
      have uI := is_noUn
      have uIs := is_noUns
      go_wp2
      go_ret
      rw [← hfi]
      exact ⟨rfl, _, hE, rfl⟩
    · obtain ⟨p, y, tt, hT, rfl, hp, hy, hM⟩ := hM
      have hp1 : wr.heap[p]? = some (.cells #[y, x] tt (0, 0)) := by rw [hE.block _ (Array.getElem?_eq_some_iff.1 hp).1]; exact hp
      have hun := unwrap_in p y x tt wr hp1
      obtain ⟨U, z, rfl⟩ := Chain.iface hM
      simp only [wt, List.mem_cons, List.not_mem_nil, or_false] at hT
      rcases hT with rfl | rfl | rfl | rfl
      · have tO := as_typeOf_P
        have aT := as_asg_PR
        simp only [show decide (82 = 93) = false from rfl] at aT
        have nA := as_noAs_P
        have uI := is_un_P
        have mI := is_mun_P
        go_wp2_with fail
        refine hun.mono ?_
        rintro e w9 ⟨rfl, rfl⟩
        go_wp2_with fail
        go_roundw
        case rel => exact ⟨trivial, M, hM, by rw [← hfi]; rfl⟩
        case measure => simp only [deep] at hy ⊢; omega
      · have tO := as_typeOf_N
        have aT := as_asg_NR
        simp only [show decide (88 = 93) = false from rfl] at aT
        have nA := as_noAs_N
        have uI := is_un_N
        have mI := is_mun_N
        go_wp2_with fail
        refine hun.mono ?_
        rintro e w9 ⟨rfl, rfl⟩
        go_wp2_with fail
        go_roundw
        case rel => exact ⟨trivial, M, hM, by rw [← hfi]; rfl⟩
        case measure => simp only [deep] at hy ⊢; omega
      · have tO := as_typeOf_R
        have aT := as_asg_RR
        simp only at aT
        have el := as_elemV_R ⟨vb, 0, none⟩ t wr hvb1
        have v9 := as_valueOfE_R
        have hE2 : Ext wr (wr.alloc (.cells #[.pointer (some ⟨p, 0, none⟩)] 93)) := by go_grown
        have hb2 := Blk.new wr #[.pointer (some ⟨p, 0, none⟩)] 93
        have htl1 : t.block < wr.heap.size := by omega
        have st := as_set_R t ⟨wr.heap.size, 0, none⟩ ⟨p, 0, none⟩ old (wr.alloc (.cells #[.pointer (some ⟨p, 0, none⟩)] 93)) (hb2.cell 0) (by rw [hE2.cell htl1]; exact ht1) (by rw [World.frozen?_alloc_old _ _ t (Nat.ne_of_lt htl1)]; exact hf1)
        rw [hs1] at st
        go_wp2
        go_ret
        rw [← hfi]
        exact ⟨rfl, _, bel_call hE hE2, p, _, tt, hp, rfl⟩
      · have tO := as_typeOf_S
        have aT := as_asg_SR
        simp only [show decide (97 = 93) = false from rfl] at aT
        have nA := as_noAs_S
        have uI := is_un_S
        have mI := is_mun_S
        go_wp2_with fail
        refine hun.mono ?_
        rintro e w9 ⟨rfl, rfl⟩
        go_wp2_with fail
        go_roundw
        case rel => exact ⟨trivial, M, hM, by rw [← hfi]; rfl⟩
        case measure => simp only [deep] at hy ⊢; omega
theorem as_nil_R (t : Value) (w : World) :
    Calls Tryd.prog 56 #[.nilIface, t] w fun e w' => e = .returned (.bool false) ∧ w' = w := by
  go_enter Tryd.func56, Tryd.ntmps56
  go_wp2
  go_ret
  exact ⟨rfl, rfl⟩
set_option maxHeartbeats 4000000 in
set_option maxRecDepth 20000 in
theorem as_all_R (L : List (TypeId × Value)) (v : Value) (a t : Addr) (old : Value) (w : World) (hG : w.cell? ⟨16, 0, none⟩ = some (.iface 140 (.agg #[.pointer (some ⟨17, 36, none⟩)]))) (hL : Chain w L v (errAt a)) (ht : w.cell? t = some old) (hf : w.frozen? t = false) (o : Option (TypeId × Value)) (ho : (L.find? fun q => q.1 == 93) = o) :
    Calls Tryd.prog 56 #[v, .iface 116 (.pointer (some t))] w fun e w' => e = .returned (.bool o.isSome) ∧ AsEnd w w' t o := by
  have htl : t.block < w.heap.size := by
    rcases Nat.lt_or_ge t.block w.heap.size with h | h
    · exact h
    · simp [World.cell?, Array.getElem?_eq_none h] at ht
  have hgl : 16 < w.heap.size := by
    rcases Nat.lt_or_ge 16 w.heap.size with h | h
    · exact h
    · simp [World.cell?, Array.getElem?_eq_none h] at hG
  obtain ⟨w1, hw1⟩ : ∃ w1, w.alloc (.cells #[.pointer (some t)] 116) = w1 := ⟨_, rfl⟩
  have hb1 : Blk w1 w.heap.size #[.pointer (some t)] 116 := by rw [← hw1]; exact Blk.new w _ _
  have hE1 : Ext w w1 := by rw [← hw1]; go_grown
  have hs1 : w1.heap.size = w.heap.size + 1 := by rw [← hw1]; simp
  obtain ⟨w2, hw2⟩ : ∃ w2, w1.alloc (.cells #[.pointer (some ⟨17, 116, none⟩), .pointer (some ⟨w.heap.size, 0, none⟩), .int .u64 150] 128) = w2 := ⟨_, rfl⟩
  have hb2 : Blk w2 (w.heap.size + 1) #[.pointer (some ⟨17, 116, none⟩), .pointer (some ⟨w.heap.size, 0, none⟩), .int .u64 150] 128 := by rw [← hw2, ← hs1]; exact Blk.new w1 _ _
  have hE2 : Ext w1 w2 := by rw [← hw2]; go_grown
  have hE : Ext w w2 := bel_call hE1 hE2
  have hc1 := (hb1.ext hE2).cell 0
  have c0 := hb2.cell 0
  have c1 := hb2.cell 1
  have c2 := hb2.cell 2
  have hG2 : w2.cell? ⟨16, 0, none⟩ = some (.iface 140 (.agg #[.pointer (some ⟨17, 36, none⟩)])) := by rw [hE.cell (p := ⟨16, 0, none⟩) hgl]; exact hG
  have ht2 : w2.cell? t = some old := by rw [hE.cell htl]; exact ht
  have hf2 : w2.frozen? t = false := by rw [← hw2, World.frozen?_alloc_old _ _ t (by omega), ← hw1, World.frozen?_alloc_old _ _ t (by omega)]; exact hf
  have hlp := as_loop_R L v a t w.heap.size old w2 (hL.ext hE) hc1 ht2 hf2 o ho
  have h99 := @run_callFunc_extern Tryd.prog 65 _ (fun args => ReflectliteValue.unpack (args.getD 0 (.tuple #[]))) Tryd.func65 (by kernel_rfl) (by kernel_rfl) (by kernel_rfl) (by kernel_rfl)
  have h100 := @run_callFunc_extern Tryd.prog 66 _ (ReflectliteValue.methodAny (ReflectliteValue.valueError "reflectlite.Value.Type" 0) (fun t _ _ _ => ReflectliteType.toType t)) Tryd.func66 (by kernel_rfl) (by kernel_rfl) (by kernel_rfl) (by kernel_rfl)
  have h101 := @run_callFunc_extern Tryd.prog 67 _ (ReflectliteValue.method (ReflectliteValue.valueError "reflectlite.Value.IsNil" 0) ReflectliteValue.isNil) Tryd.func67 (by kernel_rfl) (by kernel_rfl) (by kernel_rfl) (by kernel_rfl)
  have h121 := @run_callFunc_extern Tryd.prog 87 _ (ReflectliteType.abiMethod fun t => do pure (.int .u8 (← Rtype.kind t))) Tryd.func87 (by kernel_rfl) (by kernel_rfl) (by kernel_rfl) (by kernel_rfl)
  have h155 := @run_callFunc_extern Tryd.prog 101 _ (ReflectliteType.method ReflectliteType.elem) Tryd.func101 (by kernel_rfl) (by kernel_rfl) (by kernel_rfl) (by kernel_rfl)
  have h156 := @run_callFunc_extern Tryd.prog 102 _ (ReflectliteType.relation "Implements" ReflectliteType.implements_) Tryd.func102 (by kernel_rfl) (by kernel_rfl) (by kernel_rfl) (by kernel_rfl)
  have v9 := as_valueOf_R
  have tT := as_type_R
  have mK := as_mKind
  have mE := as_mElem
  have mI := as_mImplements
  have kT := as_kindT_R
  have kE := as_kindE_R
  have eT := as_elem_R
  have iT := as_implements_R
  have nT := as_isNil_R ⟨w.heap.size, 0, none⟩ t w2 hc1
  obtain ⟨T, x, rfl⟩ := Chain.iface hL
  go_enter Tryd.func56, Tryd.ntmps56
  go_wp2_with fail
  refine hlp.mono ?_
  rintro e w9 ⟨rfl, hend⟩
  go_wp2
  go_ret
  refine ⟨rfl, ?_⟩
  obtain ⟨w3, h3, hm⟩ := hend
  refine ⟨w3, bel_call hE h3, ?_⟩
  rcases o with _ | q
  · exact hm
  · obtain ⟨p, y, tt, hp, rfl⟩ := hm
    have hs2 : w2.heap.size = w.heap.size + 1 + 1 := by rw [← hw2]; simp [hs1]
    have hp' : w.heap[p]? = some (.cells #[y, q.2] tt (0, 0)) := by
      rcases Nat.lt_trichotomy p w.heap.size with h | h | h
      · rw [← hE.block _ h]; exact hp
      · subst h
        have := hp.symm.trans (hb1.ext hE2)
        simp at this
      · have hl := (Array.getElem?_eq_some_iff.1 hp).1
        obtain rfl : p = w.heap.size + 1 := by omega
        have := hp.symm.trans hb2
        simp at this
    exact ⟨p, y, tt, hp', rfl⟩
end Go.Proofs.YtnnkomdkggepjaaDoor
