/- What is asked under guard: wraps, Code. -/
import Derived.Test.YtnnkomdkggepjaaDoorIs
import Derived.Test.YtnnkomdkggepjaaDoorErrS
import Derived.Defers
import Derived.Recover
import Derived.Laws.Pointers
namespace Go.Proofs.YtnnkomdkggepjaaDoor
open Go Go.RowKit
theorem grd_idle (w : World) : CallsD Tryd.prog 64 #[] .returning w fun e u' w' => e = .returned (.tuple #[]) ∧ u' = .returning ∧ w' = w := by
  refine callsD_of_wpS Tryd.func64 rfl fun c₀ cs hu => ?_
  apply wpS_region
  simp [wpOpsS, go_sem, recoverD, hu, Tryd.ntmps64]
  cases c₀
  simp_all [bodyPostS, results, Tryd.results64]
set_option maxRecDepth 20000 in
/-- guarded, where what is asked ends. -/
theorem grd_of (F : Nat) (caps : Array Value) (w : World) (R : World → Prop) (hF : (callFunc F caps).run Tryd.prog w = .ok (.enter F caps) w) (h : Calls Tryd.prog F caps w fun e w' => e = .returned (.tuple #[]) ∧ R w') :
    Calls Tryd.prog 54 #[.func (.func F) #[] caps] w fun e w' => e = .returned (.tuple #[]) ∧ R w' := by
  have hmf : ∀ (fn : Fn) (first cap : Array Value) (w : World), (Instr.makeFunc fn first cap).run Tryd.prog w = .ok (.func fn first cap) w := fun _ _ _ _ => rfl
  go_enter_defers Tryd.func54, Tryd.ntmps54
  go_wp2
  refine h.mono ?_
  rintro e w' ⟨rfl, hR⟩
  go_wp2
  refine leaves_cons (f := 64) (args := #[]) (by simp) (by simp [go_sem]) ?_
  refine (grd_idle _).mono ?_
  rintro e u' w'' ⟨rfl, rfl, rfl⟩
  simpa [Leaves, settle, results, Tryd.results54, go_sem] using hR
theorem wraps_enter (caps : Array Value) (w : World) : (callFunc 62 caps).run Tryd.prog w = .ok (.enter 62 caps) w := by kernel_rfl
theorem wraps_in (a b : Addr) (L : List (TypeId × Value)) (v : Value) (p q r : Addr) (w : World) (hL : Chain w L v (errAt a)) (ha : ∃ c t, w.heap[a.block]? = some (.cells c t (0, 0))) (hb : ∃ c t, w.heap[b.block]? = some (.cells c t (0, 0)))
    (hp : w.cell? p = some v) (hq : w.cell? q = some (errAt b)) (hr : w.cell? r = some (.bool false)) (hf : w.frozen? r = false) :
    Calls Tryd.prog 62 #[.pointer (some p), .pointer (some q), .pointer (some r)] w fun e w' => e = .returned (.tuple #[]) ∧ w' = w.setCell r (.bool (decide (a = b))) := by
  have hc := is_all L v a b w hL ha hb
  go_enter Tryd.func62, Tryd.ntmps62
  go_wp2_with fail
  refine hc.mono ?_
  rintro e w9 ⟨rfl, rfl⟩
  go_wp2
  go_end0
  exact ⟨rfl, rfl⟩
set_option maxRecDepth 20000 in
theorem wraps_is (a b : Addr) (L : List (TypeId × Value)) (v : Value) (w : World) (hL : Chain w L v (errAt a)) (ha : ∃ c t, w.heap[a.block]? = some (.cells c t (0, 0))) (hb : ∃ c t, w.heap[b.block]? = some (.cells c t (0, 0))) :
    Calls Tryd.prog 52 #[v, errAt b] w fun e w' => e = .returned (.bool (decide (a = b))) ∧ Below w.heap.size w w' := by
  have hmf : ∀ (fn : Fn) (first cap : Array Value) (w : World), (Instr.makeFunc fn first cap).run Tryd.prog w = .ok (.func fn first cap) w := fun _ _ _ _ => rfl
  obtain ⟨T, x, rfl⟩ := Chain.iface hL
  have hE : Ext w (((w.alloc (.cells #[.iface T x] 36)).alloc (.cells #[errAt b] 36)).alloc (.cells #[.bool false] 4)) := by go_grown
  obtain ⟨ca, ta, ha⟩ := ha
  obtain ⟨cb, tb, hb⟩ := hb
  have b0 := ((Blk.new w #[.iface T x] 36).alloc (.cells #[errAt b] 36)).alloc (.cells #[.bool false] 4)
  have b1 := (Blk.new (w.alloc (.cells #[.iface T x] 36)) #[errAt b] 36).alloc (.cells #[.bool false] 4)
  have b2 := Blk.new ((w.alloc (.cells #[.iface T x] 36)).alloc (.cells #[errAt b] 36)) #[.bool false] 4
  have e1 : (w.alloc (.cells #[.iface T x] 36)).heap.size = w.heap.size + 1 := by simp
  have e2 : ((w.alloc (.cells #[.iface T x] 36)).alloc (.cells #[errAt b] 36)).heap.size = w.heap.size + 1 + 1 := by simp
  rw [e1] at b1
  rw [e2] at b2
  have hin := wraps_in a b L (.iface T x) ⟨w.heap.size, 0, none⟩ ⟨w.heap.size + 1, 0, none⟩ ⟨w.heap.size + 1 + 1, 0, none⟩ _ (hL.ext hE) ⟨ca, ta, by rw [hE.block _ (Array.getElem?_eq_some_iff.1 ha).1]; exact ha⟩ ⟨cb, tb, by rw [hE.block _ (Array.getElem?_eq_some_iff.1 hb).1]; exact hb⟩ (b0.cell 0) (b1.cell 0) (b2.cell 0) (b2.free 0)
  have hg := grd_of 62 _ _ _ (wraps_enter _ _) hin
  go_enter Tryd.func52, Tryd.ntmps52
  go_wp2_with fail
  refine hg.mono ?_
  rintro e w9 ⟨rfl, rfl⟩
  go_wp2
  go_ret
  exact ⟨rfl, by go_grown⟩
/-- The code of the error at an address. -/
def codeAt (ea : Nat → Addr) (a : Addr) : Nat → Nat → Int
  | 0, _ => 1
  | f + 1, k => if a = ea k then (k : Int) + 2 else codeAt ea a f (k + 1)
theorem code_none (w : World) : Calls Tryd.prog 40 #[.nilIface] w fun e w' => e = .returned (.int .i64 0) ∧ w' = w := by
  go_enter Tryd.func40, Tryd.ntmps40
  go_wp2
  go_ret
  exact ⟨rfl, rfl⟩
set_option maxRecDepth 20000 in
theorem code_is (ea : Nat → Addr) (a : Addr) (L : List (TypeId × Value)) (v : Value) (w : World) (hS : Sent w ea) (hL : Chain w L v (errAt a)) (ha : ∃ c t, w.heap[a.block]? = some (.cells c t (0, 0))) :
    Calls Tryd.prog 40 #[v] w fun e w' => e = .returned (.int .i64 (codeAt ea a 16 0)) ∧ Below w.heap.size w w' := by
  obtain ⟨T, x, rfl⟩ := Chain.iface hL
  obtain ⟨ca, ta, ha⟩ := ha
  go_enter Tryd.func40, Tryd.ntmps40
  go_wp2_with fail
  go_loopw [3] (fun i wr => ∃ k : Nat, k ≤ 16 ∧ i = .int .i64 ((k : Int) + 2) ∧ codeAt ea a (16 - k) k = codeAt ea a 16 0 ∧ Below w.heap.size w wr) (fun i _ => 18 - (intOf i).toNat)
  case atStart => exact ⟨0, by omega, rfl, rfl, Below.refl _ _⟩
  case round =>
    obtain ⟨k, hk, rfl, hcode, hbel⟩ := hrel
    have hSr := hS.ext hbel
    have hLr := hL.ext hbel
    have har : wr.heap[a.block]? = some (.cells ca ta (0, 0)) := by rw [hbel.block _ (Array.getElem?_eq_some_iff.1 ha).1]; exact ha
    by_cases h16 : k < 16
    · have h17 : (k : Int) + 2 ≤ 17 := by omega
      have hof := of_some k ea wr hSr h16
      go_wp2_with fail
      refine hof.mono ?_
      rintro e w9 ⟨rfl, hE⟩
      obtain ⟨cb, tb, hb⟩ := hSr.row k h16
      have hwr := wraps_is a (ea k) L (.iface T x) w9 (hLr.ext hE) ⟨ca, ta, by rw [hE.block _ (Array.getElem?_eq_some_iff.1 har).1]; exact har⟩ ⟨cb, tb, by rw [hE.block _ (Array.getElem?_eq_some_iff.1 hb).1]; exact hb⟩
      replace hbel := bel_call hbel hE
      have hstep : codeAt ea a (16 - k) k = if a = ea k then (k : Int) + 2 else codeAt ea a (16 - (k + 1)) (k + 1) := by
        rw [show 16 - k = (16 - (k + 1)) + 1 from by omega]; rfl
      go_wp2_with fail
      refine hwr.mono ?_
      rintro e w10 ⟨rfl, hE2⟩
      replace hbel := bel_call hbel hE2
      by_cases he : a = ea k
      · rw [if_pos he] at hstep
        have hd : decide (a = ea k) = true := by simpa using he
        simp only [hd]
        go_wp2
        go_ret
        exact ⟨by rw [← hcode, hstep]; rfl, hbel⟩
      · rw [if_neg he] at hstep
        have hd : decide (a = ea k) = false := by simpa using he
        simp only [hd]
        go_wp2_with fail
        go_roundw
        case rel => exact ⟨k + 1, by omega, by go_num, by rw [← hcode, hstep], hbel⟩
        case measure => simp only [intOf]; omega
    · obtain rfl : k = 16 := by omega
      go_wp2_with fail
      go_ret
      exact ⟨by rw [← hcode]; rfl, hbel⟩
end Go.Proofs.YtnnkomdkggepjaaDoor
