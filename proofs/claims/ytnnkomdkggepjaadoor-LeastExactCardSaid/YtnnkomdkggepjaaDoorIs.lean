/- errors.Is of what wraps. -/
import Derived.Test.YtnnkomdkggepjaaDoorErr
import Derived.LaidEql
import Derived.Stop.Asserts
import Derived.RowKitTokens
namespace Go.Proofs.YtnnkomdkggepjaaDoor
open Go Go.RowKit Go.Extern.Stop Go.Stop Go.Extern
/-! ### What the program's types say -/
theorem is_typeOf (v : Value) (w : World) : (Extern.ReflectliteType.typeOf #[.iface 155 v]).run Tryd.prog w = .ok (.iface 140 (.agg #[.pointer (some ⟨17, 155, none⟩)])) w := by kernel_rfl
theorem is_comparable (w : World) : ((Extern.ReflectliteType.method fun t => do Rtype.noPackHeld "Comparable" t; (fun a => Value.bool a.comparable) <$> typeInfo t) #[.agg #[.pointer (some ⟨17, 155, none⟩)]]).run Tryd.prog w = .ok (.bool true) w := by kernel_rfl
theorem is_mcomparable (v : Value) (w : World) : (Go.method 290 140 v "Comparable").run Tryd.prog w = .ok (100, v) w := by kernel_rfl
theorem is_comp : (Tryd.prog.info? 155).map (·.comparable) = some true := by kernel_rfl
theorem is_size : (Tryd.prog.info? 178).map (·.size) = some 1 := by kernel_rfl
theorem is_noIs (v : Value) (xT : TypeId) (w : World) : (Instr.typeAssert (.iface 155 v) xT 152 true).run Tryd.prog w = .ok (.tuple #[.nilIface, .bool false]) w := run_typeAssert_lacksB Tryd.underlying152 (by kernel_rfl) (by kernel_rfl) v xT w
theorem is_noUn (v : Value) (xT : TypeId) (w : World) : (Instr.typeAssert (.iface 155 v) xT 147 true).run Tryd.prog w = .ok (.tuple #[.nilIface, .bool false]) w := run_typeAssert_lacksB Tryd.underlying147 (by kernel_rfl) (by kernel_rfl) v xT w
theorem is_noUns (v : Value) (xT : TypeId) (w : World) : (Instr.typeAssert (.iface 155 v) xT 149 true).run Tryd.prog w = .ok (.tuple #[.nilIface, .bool false]) w := run_typeAssert_lacksB Tryd.underlying149 (by kernel_rfl) (by kernel_rfl) v xT w
theorem is_noIs_P (v : Value) (xT : TypeId) (w : World) : (Instr.typeAssert (.iface 82 v) xT 152 true).run Tryd.prog w = .ok (.tuple #[.nilIface, .bool false]) w := run_typeAssert_lacksB Tryd.underlying152 (by kernel_rfl) (by kernel_rfl) v xT w
theorem is_noIs_N (v : Value) (xT : TypeId) (w : World) : (Instr.typeAssert (.iface 88 v) xT 152 true).run Tryd.prog w = .ok (.tuple #[.nilIface, .bool false]) w := run_typeAssert_lacksB Tryd.underlying152 (by kernel_rfl) (by kernel_rfl) v xT w
theorem is_noIs_R (v : Value) (xT : TypeId) (w : World) : (Instr.typeAssert (.iface 93 v) xT 152 true).run Tryd.prog w = .ok (.tuple #[.nilIface, .bool false]) w := run_typeAssert_lacksB Tryd.underlying152 (by kernel_rfl) (by kernel_rfl) v xT w
theorem is_noIs_S (v : Value) (xT : TypeId) (w : World) : (Instr.typeAssert (.iface 97 v) xT 152 true).run Tryd.prog w = .ok (.tuple #[.nilIface, .bool false]) w := run_typeAssert_lacksB Tryd.underlying152 (by kernel_rfl) (by kernel_rfl) v xT w
theorem is_un_P (v : Value) (xT : TypeId) (w : World) : (Instr.typeAssert (.iface 82 v) xT 147 true).run Tryd.prog w = .ok (.tuple #[.iface 82 v, .bool true]) w := run_typeAssert_hasB Tryd.underlying147 (by kernel_rfl) v xT w
theorem is_un_N (v : Value) (xT : TypeId) (w : World) : (Instr.typeAssert (.iface 88 v) xT 147 true).run Tryd.prog w = .ok (.tuple #[.iface 88 v, .bool true]) w := run_typeAssert_hasB Tryd.underlying147 (by kernel_rfl) v xT w
theorem is_un_R (v : Value) (xT : TypeId) (w : World) : (Instr.typeAssert (.iface 93 v) xT 147 true).run Tryd.prog w = .ok (.tuple #[.iface 93 v, .bool true]) w := run_typeAssert_hasB Tryd.underlying147 (by kernel_rfl) v xT w
theorem is_un_S (v : Value) (xT : TypeId) (w : World) : (Instr.typeAssert (.iface 97 v) xT 147 true).run Tryd.prog w = .ok (.tuple #[.iface 97 v, .bool true]) w := run_typeAssert_hasB Tryd.underlying147 (by kernel_rfl) v xT w
theorem is_mun_P (p : Nat) (w : World) : (Go.method 290 82 (.pointer (some ⟨p, 0, none⟩)) "Unwrap").run Tryd.prog w = .ok (91, .pointer (some ⟨p, 0, none⟩)) w := by kernel_rfl
theorem is_mun_N (p : Nat) (w : World) : (Go.method 290 88 (.pointer (some ⟨p, 0, none⟩)) "Unwrap").run Tryd.prog w = .ok (91, .pointer (some ⟨p, 0, none⟩)) w := by kernel_rfl
theorem is_mun_R (p : Nat) (w : World) : (Go.method 290 93 (.pointer (some ⟨p, 0, none⟩)) "Unwrap").run Tryd.prog w = .ok (91, .pointer (some ⟨p, 0, none⟩)) w := by kernel_rfl
theorem is_mun_S (p : Nat) (w : World) : (Go.method 290 97 (.pointer (some ⟨p, 0, none⟩)) "Unwrap").run Tryd.prog w = .ok (91, .pointer (some ⟨p, 0, none⟩)) w := by kernel_rfl
/-! ### What wraps: one wrapper a row, the outermost first; blocks fall -/
/-- The types of the wrappers. -/
def wt : List TypeId := [82, 88, 93, 97]
/-- One more than the block in which an error lies. -/
def deep : Value → Nat
  | .iface _ (.pointer (some a)) => a.block + 1
  | _ => 0
/-- 'v' is 'b' in the wrappers 'L', each a type and what it says. -/
def Chain (w : World) : List (TypeId × Value) → Value → Value → Prop
  | [], v, b => v = b
  | (T, x) :: L, v, b => ∃ p y t, T ∈ wt ∧ v = .iface T (.pointer (some ⟨p, 0, none⟩)) ∧ w.heap[p]? = some (.cells #[y, x] t (0, 0)) ∧ deep y ≤ p ∧ Chain w L y b
theorem Chain.ext {w w' : World} (hx : Ext w w') : ∀ {L : List (TypeId × Value)} {v b : Value}, Chain w L v b → Chain w' L v b
  | [], _, _, h => h
  | (T, x) :: L, _, _, ⟨p, y, t, h1, h2, h3, h4, h5⟩ => ⟨p, y, t, h1, h2, by rw [hx.block _ (Array.getElem?_eq_some_iff.1 h3).1]; exact h3, h4, Chain.ext hx h5⟩
theorem Chain.iface {w : World} : ∀ {L : List (TypeId × Value)} {v : Value} {a : Addr}, Chain w L v (errAt a) → ∃ T x, v = .iface T x
  | [], _, _, h => ⟨_, _, h⟩
  | (_, _) :: _, _, _, ⟨_, _, _, _, h, _⟩ => ⟨_, _, h⟩
theorem unwrap_in (p : Nat) (y x : Value) (t : TypeId) (w : World) (h : w.heap[p]? = some (.cells #[y, x] t (0, 0))) :
    Calls Tryd.prog 91 #[.pointer (some ⟨p, 0, none⟩)] w fun e w' => e = .returned y ∧ w' = w := by
  have hc : w.cell? ⟨p, 0, none⟩ = some y := by simp [World.cell?, h]
  go_enter Tryd.func91, Tryd.ntmps91
  go_wp2
  go_ret
  exact ⟨rfl, rfl⟩
set_option maxHeartbeats 2000000 in
set_option maxRecDepth 20000 in
theorem is_chain (L : List (TypeId × Value)) (v : Value) (a b : Addr) (w : World) (hL : Chain w L v (errAt a)) (ha : ∃ c t, w.heap[a.block]? = some (.cells c t (0, 0))) (hb : ∃ c t, w.heap[b.block]? = some (.cells c t (0, 0))) :
    Calls Tryd.prog 70 #[v, errAt b, .bool true] w fun e w' => e = .returned (.bool (decide (a = b))) ∧ w' = w := by
  obtain ⟨ca, ta, ha⟩ := ha
  obtain ⟨cb, tb, hb⟩ := hb
  obtain ⟨i, hi, hcmp⟩ := Option.map_eq_some_iff.1 is_comp
  obtain ⟨j, hj, hjs⟩ := Option.map_eq_some_iff.1 is_size
  have nE := is_noIs
  have uE := is_noUn
  have vE := is_noUns
  go_enter Tryd.func70, Tryd.ntmps70
  go_wp2
  go_loopw [0] (fun x wr => wr = w ∧ ∃ L, Chain w L x (errAt a)) (fun x _ => deep x)
  case atStart => exact ⟨rfl, L, hL⟩
  case round =>
    clear hL
    obtain ⟨rfl, L, hL⟩ := hrel
    rcases L with _ | ⟨⟨T, x⟩, L⟩
    · obtain rfl := hL
      by_cases hab : a = b
      · subst hab
        have heq := run_eql_iface_ptr_same (P := Tryd.prog) wr a Tryd.underlying36 Tryd.underlying155 hi hcmp hj
        go_wp2
        go_ret
        exact ⟨by simp, rfl⟩
      · have heq := run_eql_iface_ptr_other (P := Tryd.prog) wr Tryd.underlying36 Tryd.underlying155 hi hcmp hj (by rw [hjs]; decide) hab ha hb
        go_wp2
        go_ret
        exact ⟨by simp [hab], rfl⟩
    · obtain ⟨p, y, t, hT, rfl, hp, hy, hL⟩ := hL
      have hun := unwrap_in p y x t wr hp
      have hty := fun T hT => run_eql_iface_types (P := Tryd.prog) T 155 (.pointer (some ⟨p, 0, none⟩)) (.pointer (some b)) Tryd.underlying36 hT wr
      obtain ⟨U, z, rfl⟩ := Chain.iface hL
      simp only [wt, List.mem_cons, List.not_mem_nil, or_false] at hT
      rcases hT with rfl | rfl | rfl | rfl
      · have nI := is_noIs_P
        have uI := is_un_P
        have mI := is_mun_P
        have hty := hty 82 (by decide)
        go_wp2_with fail
        refine hun.mono ?_
        rintro e w9 ⟨rfl, rfl⟩
        go_wp2_with fail
        go_roundw
        case rel => exact ⟨trivial, L, hL⟩
        case measure => simp only [deep] at hy ⊢; omega
      · have nI := is_noIs_N
        have uI := is_un_N
        have mI := is_mun_N
        have hty := hty 88 (by decide)
        go_wp2_with fail
        refine hun.mono ?_
        rintro e w9 ⟨rfl, rfl⟩
        go_wp2_with fail
        go_roundw
        case rel => exact ⟨trivial, L, hL⟩
        case measure => simp only [deep] at hy ⊢; omega
      · have nI := is_noIs_R
        have uI := is_un_R
        have mI := is_mun_R
        have hty := hty 93 (by decide)
        go_wp2_with fail
        refine hun.mono ?_
        rintro e w9 ⟨rfl, rfl⟩
        go_wp2_with fail
        go_roundw
        case rel => exact ⟨trivial, L, hL⟩
        case measure => simp only [deep] at hy ⊢; omega
      · have nI := is_noIs_S
        have uI := is_un_S
        have mI := is_mun_S
        have hty := hty 97 (by decide)
        go_wp2_with fail
        refine hun.mono ?_
        rintro e w9 ⟨rfl, rfl⟩
        go_wp2_with fail
        go_roundw
        case rel => exact ⟨trivial, L, hL⟩
        case measure => simp only [deep] at hy ⊢; omega
/-- errors.Is of nothing. -/
theorem is_nothing (b : Addr) (w : World) :
    Calls Tryd.prog 63 #[.nilIface, errAt b] w fun e w' => e = .returned (.bool false) ∧ w' = w := by
  have hn := run_eql_iface_nil_left (P := Tryd.prog) w 155 (.pointer (some b)) Tryd.underlying36
  go_enter Tryd.func63, Tryd.ntmps63
  go_wp2
  go_ret
  exact ⟨rfl, rfl⟩
set_option maxRecDepth 20000 in
/-- errors.Is of what wraps. -/
theorem is_all (L : List (TypeId × Value)) (v : Value) (a b : Addr) (w : World) (hL : Chain w L v (errAt a)) (ha : ∃ c t, w.heap[a.block]? = some (.cells c t (0, 0))) (hb : ∃ c t, w.heap[b.block]? = some (.cells c t (0, 0))) :
    Calls Tryd.prog 63 #[v, errAt b] w fun e w' => e = .returned (.bool (decide (a = b))) ∧ w' = w := by
  have hc := is_chain L v a b w hL ha hb
  obtain ⟨T, x, rfl⟩ := Chain.iface hL
  have h8 := @run_callFunc_extern Tryd.prog 69 _ Extern.ReflectliteType.typeOf Tryd.func69 (by kernel_rfl) (by kernel_rfl) (by kernel_rfl) (by kernel_rfl)
  have h32 := @run_callFunc_extern Tryd.prog 100 _ (Extern.ReflectliteType.method fun t => do Rtype.noPackHeld "Comparable" t; pure (.bool (← typeInfo t).comparable)) Tryd.func100 (by kernel_rfl) (by kernel_rfl) (by kernel_rfl) (by kernel_rfl)
  have tT := is_typeOf
  have cT := is_comparable
  have mR := is_mcomparable
  go_enter Tryd.func63, Tryd.ntmps63
  go_wp2_with fail
  refine hc.mono ?_
  rintro e w9 ⟨rfl, rfl⟩
  go_wp2
  go_ret
  exact ⟨rfl, rfl⟩
end Go.Proofs.YtnnkomdkggepjaaDoor
