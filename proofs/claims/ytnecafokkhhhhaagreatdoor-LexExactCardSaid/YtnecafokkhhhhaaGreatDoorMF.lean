/- What no error tells. -/
import Derived.Test.YtnecafokkhhhhaaGreatDoorMD
import Derived.Defers
import Derived.Recover
import Derived.Laws.Pointers
import Derived.Test.YtnecafokkhhhhaaGreatDoorME
namespace Go.Proofs.YtnecafokkhhhhaaGreatDoor
open Go Go.RowKit
abbrev errArr (ea : Nat → Addr) : Array Value := #[.nilIface, .nilIface, errAt (ea 0), errAt (ea 1), errAt (ea 2), errAt (ea 3), errAt (ea 4), errAt (ea 5), errAt (ea 6), errAt (ea 7), errAt (ea 8), errAt (ea 9), errAt (ea 10), errAt (ea 11), errAt (ea 12), errAt (ea 13), errAt (ea 14), errAt (ea 15)]
theorem errArr_at (ea : Nat → Addr) : ∀ k, k < 16 → (errArr ea)[k + 2]? = some (errAt (ea k))
  | 0, _ => rfl
  | 1, _ => rfl
  | 2, _ => rfl
  | 3, _ => rfl
  | 4, _ => rfl
  | 5, _ => rfl
  | 6, _ => rfl
  | 7, _ => rfl
  | 8, _ => rfl
  | 9, _ => rfl
  | 10, _ => rfl
  | 11, _ => rfl
  | 12, _ => rfl
  | 13, _ => rfl
  | 14, _ => rfl
  | 15, _ => rfl
  | n + 16, h => by omega
set_option maxHeartbeats 2000000 in
set_option maxRecDepth 20000 in
theorem of_some (k : Nat) (ea : Nat → Addr) (w : World) (hS : Sent w ea) (h : k < 16) :
    Calls Tryz.prog 54 #[.int .i64 ((k : Int) + 2)] w fun e w' => e = .returned (errAt (ea k)) ∧ Below w.heap.size w w' := by
  have e0 := hS.held 0 (by omega)
  have e1 := hS.held 1 (by omega)
  have e2 := hS.held 2 (by omega)
  have e3 := hS.held 3 (by omega)
  have e4 := hS.held 4 (by omega)
  have e5 := hS.held 5 (by omega)
  have e6 := hS.held 6 (by omega)
  have e7 := hS.held 7 (by omega)
  have e8 := hS.held 8 (by omega)
  have e9 := hS.held 9 (by omega)
  have e10 := hS.held 10 (by omega)
  have e11 := hS.held 11 (by omega)
  have e12 := hS.held 12 (by omega)
  have e13 := hS.held 13 (by omega)
  have e14 := hS.held 14 (by omega)
  have e15 := hS.held 15 (by omega)
  simp only [sg, List.getD_cons_zero, List.getD_cons_succ] at e0 e1 e2 e3 e4 e5 e6 e7 e8 e9 e10 e11 e12 e13 e14 e15
  have hc : (w.alloc (.cells (errArr ea) 129)).cell? ⟨w.heap.size, k + 2, none⟩ = some (errAt (ea k)) := by rw [(Blk.new w (errArr ea) 129).cell, errArr_at ea k h]
  have hk2 : (k : Int) + 2 < 18 := by omega
  go_enter Tryz.func54, Tryz.ntmps54
  go_wp2
  go_ret
  exact ⟨rfl, by go_grown⟩
end Go.Proofs.YtnecafokkhhhhaaGreatDoor
namespace Go.Proofs.YtnecafokkhhhhaaGreatDoor
open Go Go.RowKit
theorem grd_idle (w : World) : CallsD Tryz.prog 82 #[] .returning w fun e u' w' => e = .returned (.tuple #[]) ∧ u' = .returning ∧ w' = w := by
  refine callsD_of_wpS Tryz.func82 rfl fun c₀ cs hu => ?_
  apply wpS_region
  simp [wpOpsS, go_sem, recoverD, hu, Tryz.ntmps82]
  cases c₀
  simp_all [bodyPostS, results, Tryz.results82]
set_option maxRecDepth 20000 in
/-- guarded, where what is asked ends. -/
theorem grd_of (F : Nat) (caps : Array Value) (w : World) (R : World → Prop) (hF : (callFunc F caps).run Tryz.prog w = .ok (.enter F caps) w) (h : Calls Tryz.prog F caps w fun e w' => e = .returned (.tuple #[]) ∧ R w') :
    Calls Tryz.prog 55 #[.func (.func F) #[] caps] w fun e w' => e = .returned (.tuple #[]) ∧ R w' := by
  have hmf : ∀ (fn : Fn) (first cap : Array Value) (w : World), (Instr.makeFunc fn first cap).run Tryz.prog w = .ok (.func fn first cap) w := fun _ _ _ _ => rfl
  go_enter_defers Tryz.func55, Tryz.ntmps55
  go_wp2
  refine h.mono ?_
  rintro e w' ⟨rfl, hR⟩
  go_wp2
  refine leaves_cons (f := 82) (args := #[]) (by simp) (by simp [go_sem]) ?_
  refine (grd_idle _).mono ?_
  rintro e u' w'' ⟨rfl, rfl, rfl⟩
  simpa [Leaves, settle, results, Tryz.results55, go_sem] using hR
theorem wraps_enter (caps : Array Value) (w : World) : (callFunc 80 caps).run Tryz.prog w = .ok (.enter 80 caps) w := by kernel_rfl
theorem wraps_in (a b : Addr) (L : List (TypeId × Value)) (v : Value) (p q r : Addr) (w : World) (hL : Chain w L v (errAt a)) (ha : ∃ c t, w.heap[a.block]? = some (.cells c t (0, 0))) (hb : ∃ c t, w.heap[b.block]? = some (.cells c t (0, 0)))
    (hp : w.cell? p = some v) (hq : w.cell? q = some (errAt b)) (hr : w.cell? r = some (.bool false)) (hf : w.frozen? r = false) :
    Calls Tryz.prog 80 #[.pointer (some p), .pointer (some q), .pointer (some r)] w fun e w' => e = .returned (.tuple #[]) ∧ w' = w.setCell r (.bool (decide (a = b))) := by
  have hc := is_all L v a b w hL ha hb
  go_enter Tryz.func80, Tryz.ntmps80
  go_wp2_with fail
  refine hc.mono ?_
  rintro e w9 ⟨rfl, rfl⟩
  go_wp2
  go_end0
  exact ⟨rfl, rfl⟩
set_option maxRecDepth 20000 in
theorem wraps_is (a b : Addr) (L : List (TypeId × Value)) (v : Value) (w : World) (hL : Chain w L v (errAt a)) (ha : ∃ c t, w.heap[a.block]? = some (.cells c t (0, 0))) (hb : ∃ c t, w.heap[b.block]? = some (.cells c t (0, 0))) :
    Calls Tryz.prog 53 #[v, errAt b] w fun e w' => e = .returned (.bool (decide (a = b))) ∧ Below w.heap.size w w' := by
  have hmf : ∀ (fn : Fn) (first cap : Array Value) (w : World), (Instr.makeFunc fn first cap).run Tryz.prog w = .ok (.func fn first cap) w := fun _ _ _ _ => rfl
  obtain ⟨T, x, rfl⟩ := Chain.iface hL
  have hE : Ext w (((w.alloc (.cells #[.iface T x] 29)).alloc (.cells #[errAt b] 29)).alloc (.cells #[.bool false] 4)) := by go_grown
  obtain ⟨ca, ta, ha⟩ := ha
  obtain ⟨cb, tb, hb⟩ := hb
  have b0 := ((Blk.new w #[.iface T x] 29).alloc (.cells #[errAt b] 29)).alloc (.cells #[.bool false] 4)
  have b1 := (Blk.new (w.alloc (.cells #[.iface T x] 29)) #[errAt b] 29).alloc (.cells #[.bool false] 4)
  have b2 := Blk.new ((w.alloc (.cells #[.iface T x] 29)).alloc (.cells #[errAt b] 29)) #[.bool false] 4
  have e1 : (w.alloc (.cells #[.iface T x] 29)).heap.size = w.heap.size + 1 := by simp
  have e2 : ((w.alloc (.cells #[.iface T x] 29)).alloc (.cells #[errAt b] 29)).heap.size = w.heap.size + 1 + 1 := by simp
  rw [e1] at b1
  rw [e2] at b2
  have hin := wraps_in a b L (.iface T x) ⟨w.heap.size, 0, none⟩ ⟨w.heap.size + 1, 0, none⟩ ⟨w.heap.size + 1 + 1, 0, none⟩ _ (hL.ext hE) ⟨ca, ta, by rw [hE.block _ (Array.getElem?_eq_some_iff.1 ha).1]; exact ha⟩ ⟨cb, tb, by rw [hE.block _ (Array.getElem?_eq_some_iff.1 hb).1]; exact hb⟩ (b0.cell 0) (b1.cell 0) (b2.cell 0) (b2.free 0)
  have hg := grd_of 80 _ _ _ (wraps_enter _ _) hin
  go_enter Tryz.func53, Tryz.ntmps53
  go_wp2_with fail
  refine hg.mono ?_
  rintro e w9 ⟨rfl, rfl⟩
  go_wp2
  go_ret
  exact ⟨rfl, by go_grown⟩
/-- The code of the error at an address. -/
def codeAt (ea : Nat → Addr) (a : Addr) : Nat → Nat → Int
  | 0, _ => 1
  | f + 1, k => if a = ea k then (k : Int) + 2 else codeAt ea a f (k + 1)
theorem code_none (w : World) : Calls Tryz.prog 34 #[.nilIface] w fun e w' => e = .returned (.int .i64 0) ∧ w' = w := by
  go_enter Tryz.func34, Tryz.ntmps34
  go_wp2
  go_ret
  exact ⟨rfl, rfl⟩
set_option maxRecDepth 20000 in
theorem code_is (ea : Nat → Addr) (a : Addr) (L : List (TypeId × Value)) (v : Value) (w : World) (hS : Sent w ea) (hL : Chain w L v (errAt a)) (ha : ∃ c t, w.heap[a.block]? = some (.cells c t (0, 0))) :
    Calls Tryz.prog 34 #[v] w fun e w' => e = .returned (.int .i64 (codeAt ea a 16 0)) ∧ Below w.heap.size w w' := by
  obtain ⟨T, x, rfl⟩ := Chain.iface hL
  obtain ⟨ca, ta, ha⟩ := ha
  go_enter Tryz.func34, Tryz.ntmps34
  go_wp2_with fail
  go_loopw [3] (fun i wr => ∃ k : Nat, k ≤ 16 ∧ i = .int .i64 ((k : Int) + 2) ∧ codeAt ea a (16 - k) k = codeAt ea a 16 0 ∧ Below w.heap.size w wr) (fun i _ => 18 - (intOf i).toNat)
  case atStart => exact ⟨0, by omega, rfl, rfl, Below.refl _ _⟩
  case round =>
    obtain ⟨k, hk, rfl, hcode, hbel⟩ := hrel
    have hSr := hS.ext hbel
    have hLr := hL.ext hbel
    have har : wr.heap[a.block]? = some (.cells ca ta (0, 0)) := by rw [hbel.block _ (Array.getElem?_eq_some_iff.1 ha).1]; exact ha
    by_cases h16 : k < 16
    · have h17 : (k : Int) + 2 ≤ 17 := by omega
      have hof := of_some k ea wr hSr h16
      go_wp2_with fail
      refine hof.mono ?_
      rintro e w9 ⟨rfl, hE⟩
      obtain ⟨cb, tb, hb⟩ := hSr.row k h16
      have hwr := wraps_is a (ea k) L (.iface T x) w9 (hLr.ext hE) ⟨ca, ta, by rw [hE.block _ (Array.getElem?_eq_some_iff.1 har).1]; exact har⟩ ⟨cb, tb, by rw [hE.block _ (Array.getElem?_eq_some_iff.1 hb).1]; exact hb⟩
      replace hbel := bel_call hbel hE
      have hstep : codeAt ea a (16 - k) k = if a = ea k then (k : Int) + 2 else codeAt ea a (16 - (k + 1)) (k + 1) := by
        rw [show 16 - k = (16 - (k + 1)) + 1 from by omega]; rfl
      go_wp2_with fail
      refine hwr.mono ?_
      rintro e w10 ⟨rfl, hE2⟩
      replace hbel := bel_call hbel hE2
      by_cases he : a = ea k
      · rw [if_pos he] at hstep
        have hd : decide (a = ea k) = true := by simpa using he
        simp only [hd]
        go_wp2
        go_ret
        exact ⟨by rw [← hcode, hstep]; rfl, hbel⟩
      · rw [if_neg he] at hstep
        have hd : decide (a = ea k) = false := by simpa using he
        simp only [hd]
        go_wp2_with fail
        go_roundw
        case rel => exact ⟨k + 1, by omega, by go_num, by rw [← hcode, hstep], hbel⟩
        case measure => simp only [intOf]; omega
    · obtain rfl : k = 16 := by omega
      go_wp2_with fail
      go_ret
      exact ⟨by rw [← hcode]; rfl, hbel⟩
end Go.Proofs.YtnecafokkhhhhaaGreatDoor
namespace Go.Proofs.YtnecafokkhhhhaaGreatDoor
open Go Go.RowKit Go.Extern.Stop Go.Stop Go.Extern
/-- What 'outermost' tells: the wrapper, if there is one. -/
def Found (w : World) (r : Value) (o : Option (TypeId × Value)) : Prop := match o with
  | none => r = .pointer none
  | some q => ∃ p y tt, r = .pointer (some ⟨p, 0, none⟩) ∧ w.heap[p]? = some (.cells #[y, q.2] tt (0, 0))
theorem out_enter_P (caps : Array Value) (w : World) : (callFunc 56 caps).run Tryz.prog w = .ok (.enter 56 caps) w := by kernel_rfl
set_option maxRecDepth 20000 in
theorem out_in_P (L : List (TypeId × Value)) (v : Value) (a : Addr) (p r : Nat) (w : World) (hG : w.cell? ⟨16, 0, none⟩ = some (.iface 151 (.agg #[.pointer (some ⟨23, 29, none⟩)]))) (hL : Chain w L v (errAt a))
    (hp : Blk w p #[v] 29) (hr : Blk w r #[.pointer none] 70) (o : Option (TypeId × Value)) (ho : (L.find? fun q => q.1 == 70) = o) :
    Calls Tryz.prog 56 #[.pointer (some ⟨p, 0, none⟩), .pointer (some ⟨r, 0, none⟩)] w fun e w' => e = .returned (.tuple #[]) ∧ AsEnd w w' ⟨r, 0, none⟩ o := by
  have hgl : 16 < w.heap.size := by
    rcases Nat.lt_or_ge 16 w.heap.size with h | h
    · exact h
    · simp [World.cell?, Array.getElem?_eq_none h] at hG
  have hpl := hp.lt
  have hrl := hr.lt
  obtain ⟨w1, hw1⟩ : ∃ w1, w.alloc (.cells #[.pointer none] 70) = w1 := ⟨_, rfl⟩
  have hb1 : Blk w1 w.heap.size #[.pointer none] 70 := by rw [← hw1]; exact Blk.new w _ _
  have hE1 : Ext w w1 := by rw [← hw1]; go_grown
  have hp1 := (hp.ext hE1).cell 0
  have hG1 : w1.cell? ⟨16, 0, none⟩ = some (.iface 151 (.agg #[.pointer (some ⟨23, 29, none⟩)])) := by rw [hE1.cell (p := ⟨16, 0, none⟩) hgl]; exact hG
  have has := as_all_P L v a ⟨w.heap.size, 0, none⟩ (.pointer none) w1 hG1 (hL.ext hE1) (hb1.cell 0) (hb1.free 0) o ho
  go_enter Tryz.func56, Tryz.ntmps56
  go_wp2_with fail
  refine has.mono ?_
  rintro e w9 ⟨rfl, w2, hE2, hm⟩
  rcases o with _ | q
  · obtain rfl := hm
    go_wp2
    go_end0
    exact ⟨rfl, _, bel_call hE1 hE2, rfl⟩
  · obtain ⟨pp, y, tt, hpp, rfl⟩ := hm
    have hb2 := (hb1.ext hE2).set 0 (.pointer (some ⟨pp, 0, none⟩))
    have hr2 := ((hr.ext hE1).ext hE2).set_other (a := ⟨w.heap.size, 0, none⟩) (by show w.heap.size ≠ r; omega) (.pointer (some ⟨pp, 0, none⟩))
    have c0 := hb2.cell 0
    simp only [Array.setIfInBounds] at c0
    have f0 := hr2.free 0
    have r0 := hr2.cell 0
    go_wp2
    go_end0
    refine ⟨rfl, _, (bel_call hE1 hE2).setCell (p := ⟨w.heap.size, 0, none⟩) (Nat.le_refl _) _, pp, y, tt, ?_, rfl⟩
    rcases Nat.lt_trichotomy pp w.heap.size with h | h | h
    · rw [← hE1.block _ h]; exact hpp
    · subst h
      have := hpp.symm.trans hb1
      simp at this
    · have hl := (Array.getElem?_eq_some_iff.1 hpp).1
      rw [← hw1] at hl
      simp at hl
      omega
set_option maxRecDepth 20000 in
/-- The first wrapper of its kind. -/
theorem out_P (L : List (TypeId × Value)) (v : Value) (a : Addr) (w : World) (hG : w.cell? ⟨16, 0, none⟩ = some (.iface 151 (.agg #[.pointer (some ⟨23, 29, none⟩)]))) (hL : Chain w L v (errAt a)) (o : Option (TypeId × Value)) (ho : (L.find? fun q => q.1 == 70) = o) :
    Calls Tryz.prog 35 #[v] w fun e w' => ∃ r, e = .returned r ∧ Below w.heap.size w w' ∧ Found w r o := by
  have hmf : ∀ (fn : Fn) (first cap : Array Value) (w : World), (Instr.makeFunc fn first cap).run Tryz.prog w = .ok (.func fn first cap) w := fun _ _ _ _ => rfl
  have hgl : 16 < w.heap.size := by
    rcases Nat.lt_or_ge 16 w.heap.size with h | h
    · exact h
    · simp [World.cell?, Array.getElem?_eq_none h] at hG
  have hE : Ext w ((w.alloc (.cells #[v] 29)).alloc (.cells #[.pointer none] 70)) := by go_grown
  have b0 := (Blk.new w #[v] 29).alloc (.cells #[.pointer none] 70)
  have b1 := Blk.new (w.alloc (.cells #[v] 29)) #[.pointer none] 70
  have e1 : (w.alloc (.cells #[v] 29)).heap.size = w.heap.size + 1 := by simp
  rw [e1] at b1
  have hG1 : ((w.alloc (.cells #[v] 29)).alloc (.cells #[.pointer none] 70)).cell? ⟨16, 0, none⟩ = some (.iface 151 (.agg #[.pointer (some ⟨23, 29, none⟩)])) := by rw [hE.cell (p := ⟨16, 0, none⟩) hgl]; exact hG
  have hin := out_in_P L v a w.heap.size (w.heap.size + 1) _ hG1 (hL.ext hE) b0 b1 o ho
  have hg := grd_of 56 _ _ _ (out_enter_P _ _) hin
  obtain ⟨T, x, rfl⟩ := Chain.iface hL
  go_enter Tryz.func35, Tryz.ntmps35
  go_wp2_with fail
  refine hg.mono ?_
  rintro e w9 ⟨rfl, w2, hE2, hm⟩
  have hbel := bel_call hE hE2
  rcases o with _ | q
  · obtain rfl := hm
    have c0 := (b1.ext hE2).cell 0
    go_wp2
    go_ret
    exact ⟨_, rfl, hbel, rfl⟩
  · obtain ⟨pp, y, tt, hpp, rfl⟩ := hm
    have c0 := ((b1.ext hE2).set 0 (.pointer (some ⟨pp, 0, none⟩))).cell 0
    simp only [Array.setIfInBounds] at c0
    go_wp2
    go_ret
    refine ⟨_, rfl, hbel.setCell (p := ⟨w.heap.size + 1, 0, none⟩) (Nat.le_succ _) _, pp, y, tt, rfl, ?_⟩
    rcases Nat.lt_trichotomy pp w.heap.size with h | h | h
    · rw [← hE.block _ h]; exact hpp
    · subst h
      have := hpp.symm.trans b0
      simp at this
    · have hl := (Array.getElem?_eq_some_iff.1 hpp).1
      simp at hl
      obtain rfl : pp = w.heap.size + 1 := by omega
      have := hpp.symm.trans b1
      simp at this
theorem out_enter_N (caps : Array Value) (w : World) : (callFunc 58 caps).run Tryz.prog w = .ok (.enter 58 caps) w := by kernel_rfl
set_option maxRecDepth 20000 in
theorem out_in_N (L : List (TypeId × Value)) (v : Value) (a : Addr) (p r : Nat) (w : World) (hG : w.cell? ⟨16, 0, none⟩ = some (.iface 151 (.agg #[.pointer (some ⟨23, 29, none⟩)]))) (hL : Chain w L v (errAt a))
    (hp : Blk w p #[v] 29) (hr : Blk w r #[.pointer none] 76) (o : Option (TypeId × Value)) (ho : (L.find? fun q => q.1 == 76) = o) :
    Calls Tryz.prog 58 #[.pointer (some ⟨p, 0, none⟩), .pointer (some ⟨r, 0, none⟩)] w fun e w' => e = .returned (.tuple #[]) ∧ AsEnd w w' ⟨r, 0, none⟩ o := by
  have hgl : 16 < w.heap.size := by
    rcases Nat.lt_or_ge 16 w.heap.size with h | h
    · exact h
    · simp [World.cell?, Array.getElem?_eq_none h] at hG
  have hpl := hp.lt
  have hrl := hr.lt
  obtain ⟨w1, hw1⟩ : ∃ w1, w.alloc (.cells #[.pointer none] 76) = w1 := ⟨_, rfl⟩
  have hb1 : Blk w1 w.heap.size #[.pointer none] 76 := by rw [← hw1]; exact Blk.new w _ _
  have hE1 : Ext w w1 := by rw [← hw1]; go_grown
  have hp1 := (hp.ext hE1).cell 0
  have hG1 : w1.cell? ⟨16, 0, none⟩ = some (.iface 151 (.agg #[.pointer (some ⟨23, 29, none⟩)])) := by rw [hE1.cell (p := ⟨16, 0, none⟩) hgl]; exact hG
  have has := as_all_N L v a ⟨w.heap.size, 0, none⟩ (.pointer none) w1 hG1 (hL.ext hE1) (hb1.cell 0) (hb1.free 0) o ho
  go_enter Tryz.func58, Tryz.ntmps58
  go_wp2_with fail
  refine has.mono ?_
  rintro e w9 ⟨rfl, w2, hE2, hm⟩
  rcases o with _ | q
  · obtain rfl := hm
    go_wp2
    go_end0
    exact ⟨rfl, _, bel_call hE1 hE2, rfl⟩
  · obtain ⟨pp, y, tt, hpp, rfl⟩ := hm
    have hb2 := (hb1.ext hE2).set 0 (.pointer (some ⟨pp, 0, none⟩))
    have hr2 := ((hr.ext hE1).ext hE2).set_other (a := ⟨w.heap.size, 0, none⟩) (by show w.heap.size ≠ r; omega) (.pointer (some ⟨pp, 0, none⟩))
    have c0 := hb2.cell 0
    simp only [Array.setIfInBounds] at c0
    have f0 := hr2.free 0
    have r0 := hr2.cell 0
    go_wp2
    go_end0
    refine ⟨rfl, _, (bel_call hE1 hE2).setCell (p := ⟨w.heap.size, 0, none⟩) (Nat.le_refl _) _, pp, y, tt, ?_, rfl⟩
    rcases Nat.lt_trichotomy pp w.heap.size with h | h | h
    · rw [← hE1.block _ h]; exact hpp
    · subst h
      have := hpp.symm.trans hb1
      simp at this
    · have hl := (Array.getElem?_eq_some_iff.1 hpp).1
      rw [← hw1] at hl
      simp at hl
      omega
set_option maxRecDepth 20000 in
/-- The first wrapper of its kind. -/
theorem out_N (L : List (TypeId × Value)) (v : Value) (a : Addr) (w : World) (hG : w.cell? ⟨16, 0, none⟩ = some (.iface 151 (.agg #[.pointer (some ⟨23, 29, none⟩)]))) (hL : Chain w L v (errAt a)) (o : Option (TypeId × Value)) (ho : (L.find? fun q => q.1 == 76) = o) :
    Calls Tryz.prog 36 #[v] w fun e w' => ∃ r, e = .returned r ∧ Below w.heap.size w w' ∧ Found w r o := by
  have hmf : ∀ (fn : Fn) (first cap : Array Value) (w : World), (Instr.makeFunc fn first cap).run Tryz.prog w = .ok (.func fn first cap) w := fun _ _ _ _ => rfl
  have hgl : 16 < w.heap.size := by
    rcases Nat.lt_or_ge 16 w.heap.size with h | h
    · exact h
    · simp [World.cell?, Array.getElem?_eq_none h] at hG
  have hE : Ext w ((w.alloc (.cells #[v] 29)).alloc (.cells #[.pointer none] 76)) := by go_grown
  have b0 := (Blk.new w #[v] 29).alloc (.cells #[.pointer none] 76)
  have b1 := Blk.new (w.alloc (.cells #[v] 29)) #[.pointer none] 76
  have e1 : (w.alloc (.cells #[v] 29)).heap.size = w.heap.size + 1 := by simp
  rw [e1] at b1
  have hG1 : ((w.alloc (.cells #[v] 29)).alloc (.cells #[.pointer none] 76)).cell? ⟨16, 0, none⟩ = some (.iface 151 (.agg #[.pointer (some ⟨23, 29, none⟩)])) := by rw [hE.cell (p := ⟨16, 0, none⟩) hgl]; exact hG
  have hin := out_in_N L v a w.heap.size (w.heap.size + 1) _ hG1 (hL.ext hE) b0 b1 o ho
  have hg := grd_of 58 _ _ _ (out_enter_N _ _) hin
  obtain ⟨T, x, rfl⟩ := Chain.iface hL
  go_enter Tryz.func36, Tryz.ntmps36
  go_wp2_with fail
  refine hg.mono ?_
  rintro e w9 ⟨rfl, w2, hE2, hm⟩
  have hbel := bel_call hE hE2
  rcases o with _ | q
  · obtain rfl := hm
    have c0 := (b1.ext hE2).cell 0
    go_wp2
    go_ret
    exact ⟨_, rfl, hbel, rfl⟩
  · obtain ⟨pp, y, tt, hpp, rfl⟩ := hm
    have c0 := ((b1.ext hE2).set 0 (.pointer (some ⟨pp, 0, none⟩))).cell 0
    simp only [Array.setIfInBounds] at c0
    go_wp2
    go_ret
    refine ⟨_, rfl, hbel.setCell (p := ⟨w.heap.size + 1, 0, none⟩) (Nat.le_succ _) _, pp, y, tt, rfl, ?_⟩
    rcases Nat.lt_trichotomy pp w.heap.size with h | h | h
    · rw [← hE.block _ h]; exact hpp
    · subst h
      have := hpp.symm.trans b0
      simp at this
    · have hl := (Array.getElem?_eq_some_iff.1 hpp).1
      simp at hl
      obtain rfl : pp = w.heap.size + 1 := by omega
      have := hpp.symm.trans b1
      simp at this
theorem out_enter_R (caps : Array Value) (w : World) : (callFunc 59 caps).run Tryz.prog w = .ok (.enter 59 caps) w := by kernel_rfl
set_option maxRecDepth 20000 in
theorem out_in_R (L : List (TypeId × Value)) (v : Value) (a : Addr) (p r : Nat) (w : World) (hG : w.cell? ⟨16, 0, none⟩ = some (.iface 151 (.agg #[.pointer (some ⟨23, 29, none⟩)]))) (hL : Chain w L v (errAt a))
    (hp : Blk w p #[v] 29) (hr : Blk w r #[.pointer none] 81) (o : Option (TypeId × Value)) (ho : (L.find? fun q => q.1 == 81) = o) :
    Calls Tryz.prog 59 #[.pointer (some ⟨p, 0, none⟩), .pointer (some ⟨r, 0, none⟩)] w fun e w' => e = .returned (.tuple #[]) ∧ AsEnd w w' ⟨r, 0, none⟩ o := by
  have hgl : 16 < w.heap.size := by
    rcases Nat.lt_or_ge 16 w.heap.size with h | h
    · exact h
    · simp [World.cell?, Array.getElem?_eq_none h] at hG
  have hpl := hp.lt
  have hrl := hr.lt
  obtain ⟨w1, hw1⟩ : ∃ w1, w.alloc (.cells #[.pointer none] 81) = w1 := ⟨_, rfl⟩
  have hb1 : Blk w1 w.heap.size #[.pointer none] 81 := by rw [← hw1]; exact Blk.new w _ _
  have hE1 : Ext w w1 := by rw [← hw1]; go_grown
  have hp1 := (hp.ext hE1).cell 0
  have hG1 : w1.cell? ⟨16, 0, none⟩ = some (.iface 151 (.agg #[.pointer (some ⟨23, 29, none⟩)])) := by rw [hE1.cell (p := ⟨16, 0, none⟩) hgl]; exact hG
  have has := as_all_R L v a ⟨w.heap.size, 0, none⟩ (.pointer none) w1 hG1 (hL.ext hE1) (hb1.cell 0) (hb1.free 0) o ho
  go_enter Tryz.func59, Tryz.ntmps59
  go_wp2_with fail
  refine has.mono ?_
  rintro e w9 ⟨rfl, w2, hE2, hm⟩
  rcases o with _ | q
  · obtain rfl := hm
    go_wp2
    go_end0
    exact ⟨rfl, _, bel_call hE1 hE2, rfl⟩
  · obtain ⟨pp, y, tt, hpp, rfl⟩ := hm
    have hb2 := (hb1.ext hE2).set 0 (.pointer (some ⟨pp, 0, none⟩))
    have hr2 := ((hr.ext hE1).ext hE2).set_other (a := ⟨w.heap.size, 0, none⟩) (by show w.heap.size ≠ r; omega) (.pointer (some ⟨pp, 0, none⟩))
    have c0 := hb2.cell 0
    simp only [Array.setIfInBounds] at c0
    have f0 := hr2.free 0
    have r0 := hr2.cell 0
    go_wp2
    go_end0
    refine ⟨rfl, _, (bel_call hE1 hE2).setCell (p := ⟨w.heap.size, 0, none⟩) (Nat.le_refl _) _, pp, y, tt, ?_, rfl⟩
    rcases Nat.lt_trichotomy pp w.heap.size with h | h | h
    · rw [← hE1.block _ h]; exact hpp
    · subst h
      have := hpp.symm.trans hb1
      simp at this
    · have hl := (Array.getElem?_eq_some_iff.1 hpp).1
      rw [← hw1] at hl
      simp at hl
      omega
set_option maxRecDepth 20000 in
/-- The first wrapper of its kind. -/
theorem out_R (L : List (TypeId × Value)) (v : Value) (a : Addr) (w : World) (hG : w.cell? ⟨16, 0, none⟩ = some (.iface 151 (.agg #[.pointer (some ⟨23, 29, none⟩)]))) (hL : Chain w L v (errAt a)) (o : Option (TypeId × Value)) (ho : (L.find? fun q => q.1 == 81) = o) :
    Calls Tryz.prog 38 #[v] w fun e w' => ∃ r, e = .returned r ∧ Below w.heap.size w w' ∧ Found w r o := by
  have hmf : ∀ (fn : Fn) (first cap : Array Value) (w : World), (Instr.makeFunc fn first cap).run Tryz.prog w = .ok (.func fn first cap) w := fun _ _ _ _ => rfl
  have hgl : 16 < w.heap.size := by
    rcases Nat.lt_or_ge 16 w.heap.size with h | h
    · exact h
    · simp [World.cell?, Array.getElem?_eq_none h] at hG
  have hE : Ext w ((w.alloc (.cells #[v] 29)).alloc (.cells #[.pointer none] 81)) := by go_grown
  have b0 := (Blk.new w #[v] 29).alloc (.cells #[.pointer none] 81)
  have b1 := Blk.new (w.alloc (.cells #[v] 29)) #[.pointer none] 81
  have e1 : (w.alloc (.cells #[v] 29)).heap.size = w.heap.size + 1 := by simp
  rw [e1] at b1
  have hG1 : ((w.alloc (.cells #[v] 29)).alloc (.cells #[.pointer none] 81)).cell? ⟨16, 0, none⟩ = some (.iface 151 (.agg #[.pointer (some ⟨23, 29, none⟩)])) := by rw [hE.cell (p := ⟨16, 0, none⟩) hgl]; exact hG
  have hin := out_in_R L v a w.heap.size (w.heap.size + 1) _ hG1 (hL.ext hE) b0 b1 o ho
  have hg := grd_of 59 _ _ _ (out_enter_R _ _) hin
  obtain ⟨T, x, rfl⟩ := Chain.iface hL
  go_enter Tryz.func38, Tryz.ntmps38
  go_wp2_with fail
  refine hg.mono ?_
  rintro e w9 ⟨rfl, w2, hE2, hm⟩
  have hbel := bel_call hE hE2
  rcases o with _ | q
  · obtain rfl := hm
    have c0 := (b1.ext hE2).cell 0
    go_wp2
    go_ret
    exact ⟨_, rfl, hbel, rfl⟩
  · obtain ⟨pp, y, tt, hpp, rfl⟩ := hm
    have c0 := ((b1.ext hE2).set 0 (.pointer (some ⟨pp, 0, none⟩))).cell 0
    simp only [Array.setIfInBounds] at c0
    go_wp2
    go_ret
    refine ⟨_, rfl, hbel.setCell (p := ⟨w.heap.size + 1, 0, none⟩) (Nat.le_succ _) _, pp, y, tt, rfl, ?_⟩
    rcases Nat.lt_trichotomy pp w.heap.size with h | h | h
    · rw [← hE.block _ h]; exact hpp
    · subst h
      have := hpp.symm.trans b0
      simp at this
    · have hl := (Array.getElem?_eq_some_iff.1 hpp).1
      simp at hl
      obtain rfl : pp = w.heap.size + 1 := by omega
      have := hpp.symm.trans b1
      simp at this
theorem out_enter_S (caps : Array Value) (w : World) : (callFunc 60 caps).run Tryz.prog w = .ok (.enter 60 caps) w := by kernel_rfl
set_option maxRecDepth 20000 in
theorem out_in_S (L : List (TypeId × Value)) (v : Value) (a : Addr) (p r : Nat) (w : World) (hG : w.cell? ⟨16, 0, none⟩ = some (.iface 151 (.agg #[.pointer (some ⟨23, 29, none⟩)]))) (hL : Chain w L v (errAt a))
    (hp : Blk w p #[v] 29) (hr : Blk w r #[.pointer none] 85) (o : Option (TypeId × Value)) (ho : (L.find? fun q => q.1 == 85) = o) :
    Calls Tryz.prog 60 #[.pointer (some ⟨p, 0, none⟩), .pointer (some ⟨r, 0, none⟩)] w fun e w' => e = .returned (.tuple #[]) ∧ AsEnd w w' ⟨r, 0, none⟩ o := by
  have hgl : 16 < w.heap.size := by
    rcases Nat.lt_or_ge 16 w.heap.size with h | h
    · exact h
    · simp [World.cell?, Array.getElem?_eq_none h] at hG
  have hpl := hp.lt
  have hrl := hr.lt
  obtain ⟨w1, hw1⟩ : ∃ w1, w.alloc (.cells #[.pointer none] 85) = w1 := ⟨_, rfl⟩
  have hb1 : Blk w1 w.heap.size #[.pointer none] 85 := by rw [← hw1]; exact Blk.new w _ _
  have hE1 : Ext w w1 := by rw [← hw1]; go_grown
  have hp1 := (hp.ext hE1).cell 0
  have hG1 : w1.cell? ⟨16, 0, none⟩ = some (.iface 151 (.agg #[.pointer (some ⟨23, 29, none⟩)])) := by rw [hE1.cell (p := ⟨16, 0, none⟩) hgl]; exact hG
  have has := as_all_S L v a ⟨w.heap.size, 0, none⟩ (.pointer none) w1 hG1 (hL.ext hE1) (hb1.cell 0) (hb1.free 0) o ho
  go_enter Tryz.func60, Tryz.ntmps60
  go_wp2_with fail
  refine has.mono ?_
  rintro e w9 ⟨rfl, w2, hE2, hm⟩
  rcases o with _ | q
  · obtain rfl := hm
    go_wp2
    go_end0
    exact ⟨rfl, _, bel_call hE1 hE2, rfl⟩
  · obtain ⟨pp, y, tt, hpp, rfl⟩ := hm
    have hb2 := (hb1.ext hE2).set 0 (.pointer (some ⟨pp, 0, none⟩))
    have hr2 := ((hr.ext hE1).ext hE2).set_other (a := ⟨w.heap.size, 0, none⟩) (by show w.heap.size ≠ r; omega) (.pointer (some ⟨pp, 0, none⟩))
    have c0 := hb2.cell 0
    simp only [Array.setIfInBounds] at c0
    have f0 := hr2.free 0
    have r0 := hr2.cell 0
    go_wp2
    go_end0
    refine ⟨rfl, _, (bel_call hE1 hE2).setCell (p := ⟨w.heap.size, 0, none⟩) (Nat.le_refl _) _, pp, y, tt, ?_, rfl⟩
    rcases Nat.lt_trichotomy pp w.heap.size with h | h | h
    · rw [← hE1.block _ h]; exact hpp
    · subst h
      have := hpp.symm.trans hb1
      simp at this
    · have hl := (Array.getElem?_eq_some_iff.1 hpp).1
      rw [← hw1] at hl
      simp at hl
      omega
set_option maxRecDepth 20000 in
/-- The first wrapper of its kind. -/
theorem out_S (L : List (TypeId × Value)) (v : Value) (a : Addr) (w : World) (hG : w.cell? ⟨16, 0, none⟩ = some (.iface 151 (.agg #[.pointer (some ⟨23, 29, none⟩)]))) (hL : Chain w L v (errAt a)) (o : Option (TypeId × Value)) (ho : (L.find? fun q => q.1 == 85) = o) :
    Calls Tryz.prog 39 #[v] w fun e w' => ∃ r, e = .returned r ∧ Below w.heap.size w w' ∧ Found w r o := by
  have hmf : ∀ (fn : Fn) (first cap : Array Value) (w : World), (Instr.makeFunc fn first cap).run Tryz.prog w = .ok (.func fn first cap) w := fun _ _ _ _ => rfl
  have hgl : 16 < w.heap.size := by
    rcases Nat.lt_or_ge 16 w.heap.size with h | h
    · exact h
    · simp [World.cell?, Array.getElem?_eq_none h] at hG
  have hE : Ext w ((w.alloc (.cells #[v] 29)).alloc (.cells #[.pointer none] 85)) := by go_grown
  have b0 := (Blk.new w #[v] 29).alloc (.cells #[.pointer none] 85)
  have b1 := Blk.new (w.alloc (.cells #[v] 29)) #[.pointer none] 85
  have e1 : (w.alloc (.cells #[v] 29)).heap.size = w.heap.size + 1 := by simp
  rw [e1] at b1
  have hG1 : ((w.alloc (.cells #[v] 29)).alloc (.cells #[.pointer none] 85)).cell? ⟨16, 0, none⟩ = some (.iface 151 (.agg #[.pointer (some ⟨23, 29, none⟩)])) := by rw [hE.cell (p := ⟨16, 0, none⟩) hgl]; exact hG
  have hin := out_in_S L v a w.heap.size (w.heap.size + 1) _ hG1 (hL.ext hE) b0 b1 o ho
  have hg := grd_of 60 _ _ _ (out_enter_S _ _) hin
  obtain ⟨T, x, rfl⟩ := Chain.iface hL
  go_enter Tryz.func39, Tryz.ntmps39
  go_wp2_with fail
  refine hg.mono ?_
  rintro e w9 ⟨rfl, w2, hE2, hm⟩
  have hbel := bel_call hE hE2
  rcases o with _ | q
  · obtain rfl := hm
    have c0 := (b1.ext hE2).cell 0
    go_wp2
    go_ret
    exact ⟨_, rfl, hbel, rfl⟩
  · obtain ⟨pp, y, tt, hpp, rfl⟩ := hm
    have c0 := ((b1.ext hE2).set 0 (.pointer (some ⟨pp, 0, none⟩))).cell 0
    simp only [Array.setIfInBounds] at c0
    go_wp2
    go_ret
    refine ⟨_, rfl, hbel.setCell (p := ⟨w.heap.size + 1, 0, none⟩) (Nat.le_succ _) _, pp, y, tt, rfl, ?_⟩
    rcases Nat.lt_trichotomy pp w.heap.size with h | h | h
    · rw [← hE.block _ h]; exact hpp
    · subst h
      have := hpp.symm.trans b0
      simp at this
    · have hl := (Array.getElem?_eq_some_iff.1 hpp).1
      simp at hl
      obtain rfl : pp = w.heap.size + 1 := by omega
      have := hpp.symm.trans b1
      simp at this
end Go.Proofs.YtnecafokkhhhhaaGreatDoor
namespace Go.Proofs.YtnecafokkhhhhaaGreatDoor
open Go Go.RowKit
/-- A wrapper: a place, names, a rule, a stage. -/
inductive Wr where
  | place (n : Int)
  | names (l : List ByteArray)
  | rule (n : Int)
  | stage (n : Int)
def Wr.ty : Wr → TypeId
  | .place _ => 70
  | .names _ => 76
  | .rule _ => 81
  | .stage _ => 85
def Wr.holds (w : World) : Wr → Value → Prop
  | .place n, x => x = .int .i64 n
  | .names l, x => Texts w x l
  | .rule n, x => x = .int .i64 n
  | .stage n, x => x = .int .i64 n
def Wraps (w : World) : List Wr → List (TypeId × Value) → Prop
  | [], [] => True
  | k :: K, (T, x) :: L => T = k.ty ∧ k.holds w x ∧ Wraps w K L
  | _, _ => False
theorem Wr.holds_ext {w w' : World} (hx : Ext w w') {k : Wr} {x : Value} (h : k.holds w x) : k.holds w' x := by
  cases k with
  | names l => exact Texts.ext h hx
  | _ => exact h
theorem Wraps.ext {w w' : World} (hx : Ext w w') : ∀ {K : List Wr} {L : List (TypeId × Value)}, Wraps w K L → Wraps w' K L
  | [], [], _ => trivial
  | [], _ :: _, h => h.elim
  | _ :: _, [], h => h.elim
  | _ :: _, (_, _) :: _, ⟨h1, h2, h3⟩ => ⟨h1, Wr.holds_ext hx h2, Wraps.ext hx h3⟩
def tAt : List Wr → Int
  | [] => 0
  | .place n :: _ => n
  | _ :: K => tAt K
def tRule : List Wr → Int
  | [] => 0
  | .rule n :: _ => n
  | _ :: K => tRule K
def tStage : List Wr → Int
  | [] => 0
  | .stage n :: _ => n
  | _ :: K => tStage K
def tNames : List Wr → List ByteArray
  | [] => []
  | .names l :: _ => l
  | _ :: K => tNames K
/-- What was found says t. -/
def IntAt (t : Int) : Option (TypeId × Value) → Prop
  | none => t = 0
  | some q => q.2 = .int .i64 t
def TxtAt (w : World) (l : List ByteArray) : Option (TypeId × Value) → Prop
  | none => l = []
  | some q => Texts w q.2 l
theorem TxtAt.ext {w w' : World} {l : List ByteArray} {o : Option (TypeId × Value)} (h : TxtAt w l o) (hx : Ext w w') : TxtAt w' l o := by
  cases o with
  | none => exact h
  | some q => exact Texts.ext h hx
theorem own_set {w : World} {base e sz n : Nat} {v : Value} {xs : List Value} (h : w.ownsRow base e sz v n xs) {a : Addr} (ha : a.block < base) (u : Value) : (w.setCell a u).ownsRow base e sz v n xs := by
  obtain ⟨h1, h2 | ⟨g, cap, cur, hv, hg, hh, rest⟩⟩ := h
  · exact ⟨h1, .inl h2⟩
  · exact ⟨h1, .inr ⟨g, cap, cur, hv, hg, by rw [Below.heap_setCell _ _ _ _ (by omega)]; exact hh, rest⟩⟩
/-- Texts that lie beyond block b. -/
def Txw (b : Nat) (w : World) (v : Value) (l : List ByteArray) : Prop := Texts w v l ∧ ∀ a n c, v = .slice (some a) n c → b < a.block
theorem Txw.ext {b : Nat} {w w' : World} {v : Value} {l : List ByteArray} (h : Txw b w v l) (hx : Ext w w') : Txw b w' v l := ⟨h.1.ext hx, h.2⟩
theorem Txw.nil (b : Nat) (w : World) : Txw b w (.slice none 0 0) [] := ⟨Texts.nil w, fun a n c h => by cases h⟩
theorem Txw.of_own {b base : Nat} {w : World} {v : Value} {l : List ByteArray} (h : w.ownsRow base 9 1 v l.length (l.map Value.string)) (hb : b < base) (hn : l.length ≤ 8796093022207) : Txw b w v l := by
  refine ⟨Texts.of_own h hn, fun a n c hv => ?_⟩
  subst hv
  have := (h.lt a.block (by
    obtain ⟨_, ⟨h1, _⟩ | ⟨g, cap, cur, h1, _⟩⟩ := h
    · cases h1
    · cases h1; rfl)).1
  omega
theorem Txw.set {b : Nat} {w : World} {v : Value} {l : List ByteArray} (h : Txw b w v l) (u : Value) (j : Nat) : Txw b (w.setCell ⟨b, j, none⟩ u) v l := by
  obtain ⟨⟨h1, h2⟩, h3⟩ := h
  refine ⟨⟨h1, ?_⟩, h3⟩
  rcases h2 with h2 | ⟨a, cap, rfl, h4, h5, h6⟩
  · exact .inl h2
  · refine .inr ⟨a, cap, rfl, h4, h5, ?_⟩
    have hb := h3 _ _ _ rfl
    rcases h6 with h6 | ⟨c, o, rfl, h7, h8⟩
    · exact .inl h6
    · have hne : c ≠ b := by have : b < c := hb; omega
      refine .inr ⟨c, o, rfl, by simpa [World.setCell] using h7, fun i hi => ?_⟩
      rw [← h8 i hi]
      unfold World.cell?
      rw [Below.heap_setCell _ _ _ _ hne]
theorem Txw.mono {b b' : Nat} {w : World} {v : Value} {l : List ByteArray} (h : Txw b w v l) (hb : b' ≤ b) : Txw b' w v l := ⟨h.1, fun a n c hv => Nat.lt_of_le_of_lt hb (h.2 a n c hv)⟩
theorem find_at {w : World} : ∀ {K : List Wr} {L : List (TypeId × Value)}, Wraps w K L → IntAt (tAt K) (L.find? fun q => q.1 == 70)
  | [], [], _ => rfl
  | [], _ :: _, h => h.elim
  | _ :: _, [], h => h.elim
  | k :: K, (T, x) :: L, ⟨h1, h2, h3⟩ => by
    have ih := find_at h3
    subst h1
    cases k <;> first | exact h2 | (rw [List.find?_cons_of_neg (by simp [Wr.ty])]; exact ih) | (rw [List.find?_cons_of_pos (by simp [Wr.ty])]; exact h2)
theorem find_rule {w : World} : ∀ {K : List Wr} {L : List (TypeId × Value)}, Wraps w K L → IntAt (tRule K) (L.find? fun q => q.1 == 81)
  | [], [], _ => rfl
  | [], _ :: _, h => h.elim
  | _ :: _, [], h => h.elim
  | k :: K, (T, x) :: L, ⟨h1, h2, h3⟩ => by
    have ih := find_rule h3
    subst h1
    cases k <;> first | exact h2 | (rw [List.find?_cons_of_neg (by simp [Wr.ty])]; exact ih) | (rw [List.find?_cons_of_pos (by simp [Wr.ty])]; exact h2)
theorem find_stage {w : World} : ∀ {K : List Wr} {L : List (TypeId × Value)}, Wraps w K L → IntAt (tStage K) (L.find? fun q => q.1 == 85)
  | [], [], _ => rfl
  | [], _ :: _, h => h.elim
  | _ :: _, [], h => h.elim
  | k :: K, (T, x) :: L, ⟨h1, h2, h3⟩ => by
    have ih := find_stage h3
    subst h1
    cases k <;> first | exact h2 | (rw [List.find?_cons_of_neg (by simp [Wr.ty])]; exact ih) | (rw [List.find?_cons_of_pos (by simp [Wr.ty])]; exact h2)
theorem find_names {w : World} : ∀ {K : List Wr} {L : List (TypeId × Value)}, Wraps w K L → TxtAt w (tNames K) (L.find? fun q => q.1 == 76)
  | [], [], _ => rfl
  | [], _ :: _, h => h.elim
  | _ :: _, [], h => h.elim
  | k :: K, (T, x) :: L, ⟨h1, h2, h3⟩ => by
    have ih := find_names h3
    subst h1
    cases k <;> first | exact h2 | (rw [List.find?_cons_of_neg (by simp [Wr.ty])]; exact ih) | (rw [List.find?_cons_of_pos (by simp [Wr.ty])]; exact h2)
theorem found_int {w : World} {r : Value} {o : Option (TypeId × Value)} {t : Int} (hf : Found w r o) (h : IntAt t o) :
    (r = .pointer none ∧ t = 0) ∨ ∃ p y tt, r = .pointer (some ⟨p, 0, none⟩) ∧ Blk w p #[y, .int .i64 t] tt := by
  cases o with
  | none => exact .inl ⟨hf, h⟩
  | some q =>
    obtain ⟨p, y, tt, h1, h2⟩ := hf
    rw [show q.2 = .int .i64 t from h] at h2
    exact .inr ⟨p, y, tt, h1, h2⟩
theorem found_names {w : World} {r : Value} {o : Option (TypeId × Value)} {l : List ByteArray} (hf : Found w r o) (h : TxtAt w l o) :
    (r = .pointer none ∧ l = []) ∨ ∃ p y tt x, r = .pointer (some ⟨p, 0, none⟩) ∧ Blk w p #[y, x] tt ∧ Texts w x l := by
  cases o with
  | none => exact .inl ⟨hf, h⟩
  | some q =>
    obtain ⟨p, y, tt, h1, h2⟩ := hf
    exact .inr ⟨p, y, tt, q.2, h1, h2, h⟩
/-- errors.As knows the type 'error'. -/
def ErrT (w : World) : Prop := w.cell? ⟨16, 0, none⟩ = some (.iface 151 (.agg #[.pointer (some ⟨23, 29, none⟩)]))
theorem ErrT.ext {w w' : World} (h : ErrT w) (hx : Ext w w') : ErrT w' := by
  have hgl : 16 < w.heap.size := by
    rcases Nat.lt_or_ge 16 w.heap.size with h1 | h1
    · exact h1
    · unfold ErrT at h
      simp [World.cell?, Array.getElem?_eq_none h1] at h
  unfold ErrT
  rw [hx.cell (p := ⟨16, 0, none⟩) hgl]
  exact h
/-- What is known of a fault that is told. -/
def Fault (w : World) (v : Value) (c s r t : Int) (l : List ByteArray) : Prop := ∃ ns, v = .agg #[.int .i64 c, .int .i64 s, .int .i64 r, .int .i64 t, ns] ∧ Texts w ns l
theorem Fault.ext {w w' : World} {v : Value} {c s r t : Int} {l : List ByteArray} (h : Fault w v c s r t l) (hx : Ext w w') : Fault w' v c s r t l := by
  obtain ⟨ns, h1, h2⟩ := h
  exact ⟨ns, h1, h2.ext hx⟩
set_option maxHeartbeats 4000000 in
set_option maxRecDepth 20000 in
theorem tell_is (ea : Nat → Addr) (a : Addr) (K : List Wr) (L : List (TypeId × Value)) (v : Value) (w : World) (hS : Sent w ea) (hG : ErrT w) (hL : Chain w L v (errAt a)) (hW : Wraps w K L) (ha : ∃ c t, w.heap[a.block]? = some (.cells c t (0, 0))) :
    Calls Tryz.prog 13 #[v] w fun e w' => ∃ f, e = .returned f ∧ Fault w' f (codeAt ea a 16 0) (tStage K) (tRule K) (tAt K) (tNames K) ∧ Below w.heap.size w w' := by
  have hP := find_at hW
  have hR := find_rule hW
  have hT := find_stage hW
  have hN := find_names hW
  obtain ⟨c, hc⟩ : ∃ c, codeAt ea a 16 0 = c := ⟨_, rfl⟩
  have hE0 : Ext w (w.alloc (.cells #[.int .i64 0, .int .i64 0, .int .i64 0, .int .i64 0, .slice none 0 0] 25)) := by go_grown
  obtain ⟨ca, ta, ha⟩ := ha
  have hcode := code_is ea a L v _ (hS.ext hE0) (hL.ext hE0) ⟨ca, ta, by rw [hE0.block _ (Array.getElem?_eq_some_iff.1 ha).1]; exact ha⟩
  rw [hc] at hcode ⊢
  go_enter Tryz.func13, Tryz.ntmps13
  go_wp2_with fail
  refine hcode.mono ?_
  rintro e w1 ⟨rfl, hb⟩
  have kF := Blk.new w1 #[.int .i64 c, .int .i64 0, .int .i64 0, .int .i64 0, .slice none 0 0] 25
  have kR := ((Blk.new w #[.int .i64 0, .int .i64 0, .int .i64 0, .int .i64 0, .slice none 0 0] 25).ext hb).alloc (.cells #[.int .i64 c, .int .i64 0, .int .i64 0, .int .i64 0, .slice none 0 0] 25)
  have hx := bel_alloc hE0 hb (.cells #[.int .i64 c, .int .i64 0, .int .i64 0, .int .i64 0, .slice none 0 0] 25)
  have hfl : w.heap.size < w1.heap.size := by have := hb.size; simp at this; omega
  go_wp2_with fail
  clear hcode hE0
  refine (out_P L v a _ (hG.ext hx) (hL.ext hx) _ rfl).mono ?_
  rintro e w3 ⟨r, rfl, hE, hf⟩
  replace hx := bel_call hx hE
  replace kF := kF.ext hE
  replace kR := kR.ext hE
  skip
  rcases found_int (t := tAt K) hf hP with ⟨rfl, e0⟩ | ⟨p, y, tt, rfl, hk⟩
  focus
    replace kF : Blk w3 w1.heap.size #[.int .i64 c, .int .i64 0, .int .i64 0, .int .i64 (tAt K), .slice none 0 0] 25 := by rw [e0]; exact kF
    go_wp2_with fail
    clear hf e0 hE
    obtain ⟨w4, rfl⟩ : ∃ w4 : World, w4 = w3 := ⟨_, rfl⟩
  rotate_left 1
  focus
    have hl1 := (hk.ext hE).cell 1
    have hf0 := kF.free 3
    have hc0 := kF.cell 3
    go_wp2_with fail
    replace kF : Blk _ w1.heap.size #[.int .i64 c, .int .i64 0, .int .i64 0, .int .i64 (tAt K), .slice none 0 0] 25 := kF.set 3 (.int .i64 (tAt K))
    replace kR := kR.set_other (a := ⟨w1.heap.size, 3, none⟩) (by show w1.heap.size ≠ w.heap.size; omega) (.int .i64 (tAt K))
    replace hx := hx.setCell (p := ⟨w1.heap.size, 3, none⟩) (by show w.heap.size ≤ w1.heap.size; omega) (.int .i64 (tAt K))
    skip
    generalize w3.setCell (⟨w1.heap.size, 3, none⟩ : Addr) (Value.int .i64 (tAt K)) = w4 at *
    clear hl1 hf0 hc0 hk hf hE
  rotate_left 1
  all_goals
    refine (out_N L v a w4 (hG.ext hx) (hL.ext hx) _ rfl).mono ?_
    rintro e w3 ⟨r, rfl, hE, hf⟩
    have hN3 := (hN.ext hx)
    replace hx := bel_call hx hE
    replace kF := kF.ext hE
    replace kR := kR.ext hE
    rcases found_names hf hN3 with ⟨rfl, e0⟩ | ⟨p, y, tt, x2, rfl, hk, hx2⟩
    focus
      go_wp2_with fail
      have hns : Txw w1.heap.size w3 (.slice none 0 0) (tNames K) := by rw [e0]; exact Txw.nil _ _
      clear hf e0 hE hN3
      obtain ⟨w5, rfl⟩ : ∃ w5 : World, w5 = w3 := ⟨_, rfl⟩
      generalize Value.slice none 0 0 = ns at hns kF
    rotate_left 1
    focus
      have hl1 := (hk.ext hE).cell 1
      go_wp2_with fail
      refine (copyof_own x2 (tNames K) w3 (hx2.ext hE)).mono ?_
      rintro e w6 ⟨ns, rfl, hown, hE6⟩
      have hf1 : w1.heap.size < w3.heap.size := kF.lt
      obtain ⟨ao, co, hsl⟩ := own_sl hown
      subst hsl
      replace hx := bel_call hx hE6
      replace kF := kF.ext hE6
      replace kR := kR.ext hE6
      have hns := Txw.of_own hown hf1 hx2.1
      have hf0 := kF.free 4
      have hc0 := kF.cell 4
      go_wp2_with fail
      generalize Value.slice ao (tNames K).length co = ns at *
      replace kF : Blk _ w1.heap.size #[.int .i64 c, .int .i64 0, .int .i64 0, .int .i64 (tAt K), ns] 25 := kF.set 4 (ns)
      replace kR := kR.set_other (a := ⟨w1.heap.size, 4, none⟩) (by show w1.heap.size ≠ w.heap.size; omega) (ns)
      replace hx := hx.setCell (p := ⟨w1.heap.size, 4, none⟩) (by show w.heap.size ≤ w1.heap.size; omega) (ns)
      replace hns := hns.set ns 4
      generalize w6.setCell (⟨w1.heap.size, 4, none⟩ : Addr) ns = w5 at *
      clear hl1 hf0 hc0 hk hf hE hown hf1 hx2 hE6 hN3
    rotate_left 1
  all_goals
    refine (out_R L v a _ (hG.ext hx) (hL.ext hx) _ rfl).mono ?_
    rintro e w3 ⟨r, rfl, hE, hf⟩
    replace hx := bel_call hx hE
    replace kF := kF.ext hE
    replace kR := kR.ext hE
    replace hns := hns.ext hE
    rcases found_int (t := tRule K) hf hR with ⟨rfl, e0⟩ | ⟨p, y, tt, rfl, hk⟩
    focus
      replace kF : Blk w3 w1.heap.size #[.int .i64 c, .int .i64 0, .int .i64 (tRule K), .int .i64 (tAt K), ns] 25 := by rw [e0]; exact kF
      go_wp2_with fail
      clear hf e0 hE
      obtain ⟨w7, rfl⟩ : ∃ w7 : World, w7 = w3 := ⟨_, rfl⟩
    rotate_left 1
    focus
      have hl1 := (hk.ext hE).cell 1
      have hf0 := kF.free 2
      have hc0 := kF.cell 2
      go_wp2_with fail
      replace kF : Blk _ w1.heap.size #[.int .i64 c, .int .i64 0, .int .i64 (tRule K), .int .i64 (tAt K), ns] 25 := kF.set 2 (.int .i64 (tRule K))
      replace kR := kR.set_other (a := ⟨w1.heap.size, 2, none⟩) (by show w1.heap.size ≠ w.heap.size; omega) (.int .i64 (tRule K))
      replace hx := hx.setCell (p := ⟨w1.heap.size, 2, none⟩) (by show w.heap.size ≤ w1.heap.size; omega) (.int .i64 (tRule K))
      replace hns := hns.set (.int .i64 (tRule K)) 2
      generalize w3.setCell (⟨w1.heap.size, 2, none⟩ : Addr) (Value.int .i64 (tRule K)) = w7 at *
      clear hl1 hf0 hc0 hk hf hE
    rotate_left 1
  all_goals
    refine (out_S L v a _ (hG.ext hx) (hL.ext hx) _ rfl).mono ?_
    rintro e w3 ⟨r, rfl, hE, hf⟩
    replace hx := bel_call hx hE
    replace kF := kF.ext hE
    replace kR := kR.ext hE
    replace hns := hns.ext hE
    obtain ⟨ao, co, rfl⟩ := hns.1.slice
    obtain ⟨p0, p1, p2, p3, p4⟩ := kF.cells5
    obtain ⟨q0, q1, q2, q3, q4⟩ := kR.cells5
    have f0 := kR.free 0
    have f1 := kR.free 1
    have f2 := kR.free 2
    have f3 := kR.free 3
    have f4 := kR.free 4
    rcases found_int (t := tStage K) hf hT with ⟨rfl, e0⟩ | ⟨p, y, tt, rfl, hk⟩
    · have hns2 := hns.mono (b' := w.heap.size) (by omega)
      have kZ := ((((kR.set 0 (.int .i64 c)).set 1 (.int .i64 0)).set 2 (.int .i64 (tRule K))).set 3 (.int .i64 (tAt K))).set 4 (.slice ao (tNames K).length co)
      obtain ⟨z0, z1, z2, z3, z4⟩ := kZ.cells5
      clear kF kR hf hE
      go_wp2
      refine bodyPost_ret (v := .agg #[.int .i64 c, .int .i64 0, .int .i64 (tRule K), .int .i64 (tAt K), .slice ao (tNames K).length co]) ?_ rfl ⟨_, rfl, ⟨_, by rw [e0], (((((hns2.set _ 0).set _ 1).set _ 2).set _ 3).set _ 4).1⟩, by (repeat' (first | (with_reducible exact Below.refl _ _) | (with_reducible assumption) | (with_reducible refine below_drewN ?_ _) | (with_reducible refine Below.alloc ?_ ?_ _) | (with_reducible refine Below.drew ?_) | (with_reducible refine Below.setCell ?_ ?_ _) | (with_reducible refine Below.trans ?_ (Below.mono (by with_reducible assumption) ?_)) | go_size))⟩
      simp [results, Tryz.results13, go_sem, z0, z1, z2, z3, z4]
    · have hl1 := (hk.ext hE).cell 1
      have hf0 := kF.free 1
      have hne : w1.heap.size ≠ w.heap.size := by omega
      have hns2 := (hns.set (.int .i64 (tStage K)) 1).mono (b' := w.heap.size) (by omega)
      have kZ := (((((kR.set_other (a := ⟨w1.heap.size, 1, none⟩) hne (.int .i64 (tStage K))).set 0 (.int .i64 c)).set 1 (.int .i64 (tStage K))).set 2 (.int .i64 (tRule K))).set 3 (.int .i64 (tAt K))).set 4 (.slice ao (tNames K).length co)
      obtain ⟨z0, z1, z2, z3, z4⟩ := kZ.cells5
      clear kF kR hf hE
      go_wp2
      refine bodyPost_ret (v := .agg #[.int .i64 c, .int .i64 (tStage K), .int .i64 (tRule K), .int .i64 (tAt K), .slice ao (tNames K).length co]) ?_ rfl ⟨_, rfl, ⟨_, rfl, (((((hns2.set _ 0).set _ 1).set _ 2).set _ 3).set _ 4).1⟩, by (repeat' (first | (with_reducible exact Below.refl _ _) | (with_reducible assumption) | (with_reducible refine below_drewN ?_ _) | (with_reducible refine Below.alloc ?_ ?_ _) | (with_reducible refine Below.drew ?_) | (with_reducible refine Below.setCell ?_ ?_ _) | (with_reducible refine Below.trans ?_ (Below.mono (by with_reducible assumption) ?_)) | go_size))⟩
      simp [results, Tryz.results13, go_sem, z0, z1, z2, z3, z4]
end Go.Proofs.YtnecafokkhhhhaaGreatDoor
namespace Go.Proofs.YtnecafokkhhhhaaGreatDoor
open Go Go.RowKit
theorem Place_nil (n : Int) (w : World) : Calls Tryz.prog 47 #[.nilIface, .int .i64 n] w fun e w' => e = .returned .nilIface ∧ w' = w := by
  go_enter Tryz.func47, Tryz.ntmps47
  go_wp2
  go_ret
  exact ⟨rfl, rfl⟩
theorem Place_is (L : List (TypeId × Value)) (v : Value) (a : Addr) (n : Int) (w : World) (hL : Chain w L v (errAt a)) (hv : deep v ≤ w.heap.size) :
    Calls Tryz.prog 47 #[v, .int .i64 n] w fun e w' => ∃ v', e = .returned v' ∧ Chain w' ((70, .int .i64 n) :: L) v' (errAt a) ∧ deep v' ≤ w'.heap.size ∧ Below w.heap.size w w' := by
  have hb := Blk.new w #[v, .int .i64 n] 75
  have hE : Ext w (w.alloc (.cells #[v, .int .i64 n] 75)) := by go_grown
  have hLe := hL.ext hE
  have hd : deep (.iface 70 (.pointer (some ⟨w.heap.size, 0, none⟩))) ≤ (w.alloc (.cells #[v, .int .i64 n] 75)).heap.size := by simp [deep]
  obtain ⟨T, x, rfl⟩ := Chain.iface hL
  go_enter Tryz.func47, Tryz.ntmps47
  go_wp2
  go_ret
  exact ⟨_, rfl, ⟨_, _, _, by decide, rfl, hb, hv, hLe⟩, hd, hE⟩
end Go.Proofs.YtnecafokkhhhhaaGreatDoor
namespace Go.Proofs.YtnecafokkhhhhaaGreatDoor
open Go Go.RowKit
theorem own_blw {w w' : World} {b e sz n B : Nat} {v : Value} {xs : List Value} (h : w.ownsRow b e sz v n xs) (hb : Below B w w') (hB : w.heap.size ≤ B) : w'.ownsRow b e sz v n xs := by
  obtain ⟨h1, h2 | ⟨g, cap, cur, hv, hg, hh, h3, h4, h5, h6⟩⟩ := h
  · exact ⟨h1, .inl h2⟩
  · exact ⟨h1, .inr ⟨g, cap, cur, hv, hg, by rw [hb.block g (Nat.lt_of_lt_of_le (Array.getElem?_eq_some_iff.1 hh).1 hB)]; exact hh, h3, h4, h5, h6⟩⟩
/-- 'v' is the error at 'a' in the wrappers 'K'. -/
def ErrOf (w : World) (K : List Wr) (v : Value) (a : Addr) : Prop := ∃ L, Chain w L v (errAt a) ∧ Wraps w K L ∧ deep v ≤ w.heap.size ∧ ∃ c t, w.heap[a.block]? = some (.cells c t (0, 0))
theorem ErrOf.ext {w w' : World} {K : List Wr} {v : Value} {a : Addr} (h : ErrOf w K v a) (hx : Ext w w') : ErrOf w' K v a := by
  obtain ⟨L, hL, hW, hv, ca, ta, ha⟩ := h
  exact ⟨L, hL.ext hx, hW.ext hx, Nat.le_trans hv hx.size, ca, ta, by rw [hx.block _ (Array.getElem?_eq_some_iff.1 ha).1]; exact ha⟩
theorem ErrOf.iface {w : World} {K : List Wr} {v : Value} {a : Addr} (h : ErrOf w K v a) : ∃ T x, v = .iface T x := by
  obtain ⟨L, hL, _⟩ := h
  exact Chain.iface hL
theorem ErrOf.base {w : World} {a : Addr} (h : ∃ c t, w.heap[a.block]? = some (.cells c t (0, 0))) : ErrOf w [] (errAt a) a := by
  obtain ⟨c, t, hc⟩ := h
  exact ⟨[], rfl, trivial, (Array.getElem?_eq_some_iff.1 hc).1, c, t, hc⟩
theorem Place_err (K : List Wr) (v : Value) (a : Addr) (n : Int) (w : World) (h : ErrOf w K v a) :
    Calls Tryz.prog 47 #[v, .int .i64 n] w fun e w' => ∃ v', e = .returned v' ∧ ErrOf w' (.place n :: K) v' a ∧ Below w.heap.size w w' := by
  obtain ⟨L, hL, hW, hv, ca, ta, ha⟩ := h
  refine (Place_is L v a n w hL hv).mono ?_
  rintro e w' ⟨v', rfl, h1, h2, hE⟩
  exact ⟨v', rfl, ⟨_, h1, ⟨rfl, rfl, hW.ext hE⟩, h2, ca, ta, by rw [hE.block _ (Array.getElem?_eq_some_iff.1 ha).1]; exact ha⟩, hE⟩
theorem tell_err (ea : Nat → Addr) (a : Addr) (K : List Wr) (v : Value) (w : World) (hS : Sent w ea) (hG : ErrT w) (h : ErrOf w K v a) :
    Calls Tryz.prog 13 #[v] w fun e w' => ∃ f, e = .returned f ∧ Fault w' f (codeAt ea a 16 0) (tStage K) (tRule K) (tAt K) (tNames K) ∧ Below w.heap.size w w' := by
  obtain ⟨L, hL, hW, _, ha⟩ := h
  exact tell_is ea a K L v w hS hG hL hW ha
theorem code_err (ea : Nat → Addr) (a : Addr) (K : List Wr) (v : Value) (w : World) (hS : Sent w ea) (h : ErrOf w K v a) :
    Calls Tryz.prog 34 #[v] w fun e w' => e = .returned (.int .i64 (codeAt ea a 16 0)) ∧ Below w.heap.size w w' := by
  obtain ⟨L, hL, _, _, ha⟩ := h
  exact code_is ea a L v w hS hL ha
theorem new_err (s : ByteArray) (w : World) :
    Calls Tryz.prog 136 #[.string s] w fun e w' => e = .returned (errAt ⟨w.heap.size, 0, none⟩) ∧ ErrOf w' [] (errAt ⟨w.heap.size, 0, none⟩) ⟨w.heap.size, 0, none⟩ ∧ Below w.heap.size w w' := by
  have hb := Blk.new w #[.string s] 194
  go_enter Tryz.func136, Tryz.ntmps136
  go_wp2
  go_ret
  exact ⟨rfl, ErrOf.base ⟨_, _, hb⟩, by go_grown⟩
end Go.Proofs.YtnecafokkhhhhaaGreatDoor
namespace Go.Proofs.YtnecafokkhhhhaaGreatDoor
open Go Go.RowKit
set_option maxHeartbeats 1000000 in
theorem eqfault_any (f g : Value) (c s r t c' s' r' t' : Int) (l l' : List ByteArray) (w : World) (hf : Fault w f c s r t l) (hg : Fault w g c' s' r' t' l') (q : Bool) (hq : decide (c = c' ∧ s = s' ∧ r = r' ∧ t = t' ∧ l = l') = q) :
    Calls Tryz.prog 12 #[f, g] w fun e w' => e = .returned (.bool q) ∧ Below w.heap.size w w' := by
  obtain ⟨x, rfl, hx⟩ := hf
  obtain ⟨y, rfl, hy⟩ := hg
  have hE : Ext w ((w.alloc (.cells #[.int .i64 c, .int .i64 s, .int .i64 r, .int .i64 t, x] 25)).alloc (.cells #[.int .i64 c', .int .i64 s', .int .i64 r', .int .i64 t', y] 25)) := by go_grown
  have heq := eqtexts_any x y l l' _ (hx.ext hE) (hy.ext hE)
  obtain ⟨b, hb⟩ : ∃ b, decide (l = l') = b := ⟨_, rfl⟩
  rw [hb] at heq
  obtain ⟨xa, xc, rfl⟩ := hx.slice
  obtain ⟨ya, yc, rfl⟩ := hy.slice
  clear hx hy
  by_cases h1 : c = c'
  · subst h1
    by_cases h2 : s = s'
    · subst h2
      by_cases h3 : r = r'
      · subst h3
        by_cases h4 : t = t'
        · subst h4
          have hqb : b = q := by rw [← hq, ← hb]; simp
          clear hq hb
          subst hqb
          go_enter Tryz.func12, Tryz.ntmps12
          go_wp2_with fail
          refine heq.mono ?_
          rintro e w1 ⟨rfl, hE2⟩
          go_wp2
          go_ret
          exact ⟨rfl, bel_call hE hE2⟩
        · have hqf : false = q := by rw [← hq]; simp [h4]
          subst hqf
          have hd : (t == t') = false := by simpa using h4
          have hd2 : decide (t = t') = false := by simpa using h4
          clear heq
          go_enter Tryz.func12, Tryz.ntmps12
          go_wp2
          go_ret
          exact ⟨rfl, hE⟩
      · have hqf : false = q := by rw [← hq]; simp [h3]
        subst hqf
        have hd : (r == r') = false := by simpa using h3
        have hd2 : decide (r = r') = false := by simpa using h3
        clear heq
        go_enter Tryz.func12, Tryz.ntmps12
        go_wp2
        go_ret
        exact ⟨rfl, hE⟩
    · have hqf : false = q := by rw [← hq]; simp [h2]
      subst hqf
      have hd : (s == s') = false := by simpa using h2
      have hd2 : decide (s = s') = false := by simpa using h2
      clear heq
      go_enter Tryz.func12, Tryz.ntmps12
      go_wp2
      go_ret
      exact ⟨rfl, hE⟩
  · have hqf : false = q := by rw [← hq]; simp [h1]
    subst hqf
    have hd : (c == c') = false := by simpa using h1
    have hd2 : decide (c = c') = false := by simpa using h1
    clear heq
    go_enter Tryz.func12, Tryz.ntmps12
    go_wp2
    go_ret
    exact ⟨rfl, hE⟩
end Go.Proofs.YtnecafokkhhhhaaGreatDoor
namespace Go.Proofs.YtnecafokkhhhhaaGreatDoor
open Go Go.RowKit
set_option maxRecDepth 20000 in
theorem outn_in_P (p r : Nat) (w : World) (hp : Blk w p #[.nilIface] 29) :
    Calls Tryz.prog 56 #[.pointer (some ⟨p, 0, none⟩), .pointer (some ⟨r, 0, none⟩)] w fun e w' => e = .returned (.tuple #[]) ∧ Ext w w' := by
  have hpl := hp.lt
  have hE1 : Ext w (w.alloc (.cells #[.pointer none] 70)) := by go_grown
  have hp1 := (hp.ext hE1).cell 0
  have has := as_nil_P (.iface 111 (.pointer (some ⟨w.heap.size, 0, none⟩))) (w.alloc (.cells #[.pointer none] 70))
  go_enter Tryz.func56, Tryz.ntmps56
  go_wp2_with fail
  refine has.mono ?_
  rintro e w9 ⟨rfl, rfl⟩
  go_wp2
  go_end0
  exact ⟨rfl, hE1⟩
set_option maxRecDepth 20000 in
theorem outn_P (w : World) :
    Calls Tryz.prog 35 #[.nilIface] w fun e w' => e = .returned (.pointer none) ∧ Ext w w' := by
  have hmf : ∀ (fn : Fn) (first cap : Array Value) (w : World), (Instr.makeFunc fn first cap).run Tryz.prog w = .ok (.func fn first cap) w := fun _ _ _ _ => rfl
  have hE : Ext w ((w.alloc (.cells #[.nilIface] 29)).alloc (.cells #[.pointer none] 70)) := by go_grown
  have b0 := (Blk.new w #[.nilIface] 29).alloc (.cells #[.pointer none] 70)
  have b1 := Blk.new (w.alloc (.cells #[.nilIface] 29)) #[.pointer none] 70
  have e1 : (w.alloc (.cells #[.nilIface] 29)).heap.size = w.heap.size + 1 := by simp
  rw [e1] at b1
  have hin := outn_in_P w.heap.size (w.heap.size + 1) _ b0
  have hg := grd_of 56 _ _ _ (out_enter_P _ _) hin
  go_enter Tryz.func35, Tryz.ntmps35
  go_wp2_with fail
  refine hg.mono ?_
  rintro e w9 ⟨rfl, hE2⟩
  have c0 := (b1.ext hE2).cell 0
  go_wp2
  go_ret
  exact ⟨rfl, bel_call hE hE2⟩
set_option maxRecDepth 20000 in
theorem outn_in_N (p r : Nat) (w : World) (hp : Blk w p #[.nilIface] 29) :
    Calls Tryz.prog 58 #[.pointer (some ⟨p, 0, none⟩), .pointer (some ⟨r, 0, none⟩)] w fun e w' => e = .returned (.tuple #[]) ∧ Ext w w' := by
  have hpl := hp.lt
  have hE1 : Ext w (w.alloc (.cells #[.pointer none] 76)) := by go_grown
  have hp1 := (hp.ext hE1).cell 0
  have has := as_nil_N (.iface 112 (.pointer (some ⟨w.heap.size, 0, none⟩))) (w.alloc (.cells #[.pointer none] 76))
  go_enter Tryz.func58, Tryz.ntmps58
  go_wp2_with fail
  refine has.mono ?_
  rintro e w9 ⟨rfl, rfl⟩
  go_wp2
  go_end0
  exact ⟨rfl, hE1⟩
set_option maxRecDepth 20000 in
theorem outn_N (w : World) :
    Calls Tryz.prog 36 #[.nilIface] w fun e w' => e = .returned (.pointer none) ∧ Ext w w' := by
  have hmf : ∀ (fn : Fn) (first cap : Array Value) (w : World), (Instr.makeFunc fn first cap).run Tryz.prog w = .ok (.func fn first cap) w := fun _ _ _ _ => rfl
  have hE : Ext w ((w.alloc (.cells #[.nilIface] 29)).alloc (.cells #[.pointer none] 76)) := by go_grown
  have b0 := (Blk.new w #[.nilIface] 29).alloc (.cells #[.pointer none] 76)
  have b1 := Blk.new (w.alloc (.cells #[.nilIface] 29)) #[.pointer none] 76
  have e1 : (w.alloc (.cells #[.nilIface] 29)).heap.size = w.heap.size + 1 := by simp
  rw [e1] at b1
  have hin := outn_in_N w.heap.size (w.heap.size + 1) _ b0
  have hg := grd_of 58 _ _ _ (out_enter_N _ _) hin
  go_enter Tryz.func36, Tryz.ntmps36
  go_wp2_with fail
  refine hg.mono ?_
  rintro e w9 ⟨rfl, hE2⟩
  have c0 := (b1.ext hE2).cell 0
  go_wp2
  go_ret
  exact ⟨rfl, bel_call hE hE2⟩
set_option maxRecDepth 20000 in
theorem outn_in_R (p r : Nat) (w : World) (hp : Blk w p #[.nilIface] 29) :
    Calls Tryz.prog 59 #[.pointer (some ⟨p, 0, none⟩), .pointer (some ⟨r, 0, none⟩)] w fun e w' => e = .returned (.tuple #[]) ∧ Ext w w' := by
  have hpl := hp.lt
  have hE1 : Ext w (w.alloc (.cells #[.pointer none] 81)) := by go_grown
  have hp1 := (hp.ext hE1).cell 0
  have has := as_nil_R (.iface 113 (.pointer (some ⟨w.heap.size, 0, none⟩))) (w.alloc (.cells #[.pointer none] 81))
  go_enter Tryz.func59, Tryz.ntmps59
  go_wp2_with fail
  refine has.mono ?_
  rintro e w9 ⟨rfl, rfl⟩
  go_wp2
  go_end0
  exact ⟨rfl, hE1⟩
set_option maxRecDepth 20000 in
theorem outn_R (w : World) :
    Calls Tryz.prog 38 #[.nilIface] w fun e w' => e = .returned (.pointer none) ∧ Ext w w' := by
  have hmf : ∀ (fn : Fn) (first cap : Array Value) (w : World), (Instr.makeFunc fn first cap).run Tryz.prog w = .ok (.func fn first cap) w := fun _ _ _ _ => rfl
  have hE : Ext w ((w.alloc (.cells #[.nilIface] 29)).alloc (.cells #[.pointer none] 81)) := by go_grown
  have b0 := (Blk.new w #[.nilIface] 29).alloc (.cells #[.pointer none] 81)
  have b1 := Blk.new (w.alloc (.cells #[.nilIface] 29)) #[.pointer none] 81
  have e1 : (w.alloc (.cells #[.nilIface] 29)).heap.size = w.heap.size + 1 := by simp
  rw [e1] at b1
  have hin := outn_in_R w.heap.size (w.heap.size + 1) _ b0
  have hg := grd_of 59 _ _ _ (out_enter_R _ _) hin
  go_enter Tryz.func38, Tryz.ntmps38
  go_wp2_with fail
  refine hg.mono ?_
  rintro e w9 ⟨rfl, hE2⟩
  have c0 := (b1.ext hE2).cell 0
  go_wp2
  go_ret
  exact ⟨rfl, bel_call hE hE2⟩
set_option maxRecDepth 20000 in
theorem outn_in_S (p r : Nat) (w : World) (hp : Blk w p #[.nilIface] 29) :
    Calls Tryz.prog 60 #[.pointer (some ⟨p, 0, none⟩), .pointer (some ⟨r, 0, none⟩)] w fun e w' => e = .returned (.tuple #[]) ∧ Ext w w' := by
  have hpl := hp.lt
  have hE1 : Ext w (w.alloc (.cells #[.pointer none] 85)) := by go_grown
  have hp1 := (hp.ext hE1).cell 0
  have has := as_nil_S (.iface 114 (.pointer (some ⟨w.heap.size, 0, none⟩))) (w.alloc (.cells #[.pointer none] 85))
  go_enter Tryz.func60, Tryz.ntmps60
  go_wp2_with fail
  refine has.mono ?_
  rintro e w9 ⟨rfl, rfl⟩
  go_wp2
  go_end0
  exact ⟨rfl, hE1⟩
set_option maxRecDepth 20000 in
theorem outn_S (w : World) :
    Calls Tryz.prog 39 #[.nilIface] w fun e w' => e = .returned (.pointer none) ∧ Ext w w' := by
  have hmf : ∀ (fn : Fn) (first cap : Array Value) (w : World), (Instr.makeFunc fn first cap).run Tryz.prog w = .ok (.func fn first cap) w := fun _ _ _ _ => rfl
  have hE : Ext w ((w.alloc (.cells #[.nilIface] 29)).alloc (.cells #[.pointer none] 85)) := by go_grown
  have b0 := (Blk.new w #[.nilIface] 29).alloc (.cells #[.pointer none] 85)
  have b1 := Blk.new (w.alloc (.cells #[.nilIface] 29)) #[.pointer none] 85
  have e1 : (w.alloc (.cells #[.nilIface] 29)).heap.size = w.heap.size + 1 := by simp
  rw [e1] at b1
  have hin := outn_in_S w.heap.size (w.heap.size + 1) _ b0
  have hg := grd_of 60 _ _ _ (out_enter_S _ _) hin
  go_enter Tryz.func39, Tryz.ntmps39
  go_wp2_with fail
  refine hg.mono ?_
  rintro e w9 ⟨rfl, hE2⟩
  have c0 := (b1.ext hE2).cell 0
  go_wp2
  go_ret
  exact ⟨rfl, bel_call hE hE2⟩
theorem code_nil (w : World) : Calls Tryz.prog 34 #[.nilIface] w fun e w' => e = .returned (.int .i64 0) ∧ w' = w := by
  go_enter Tryz.func34, Tryz.ntmps34
  go_wp2
  go_ret
  exact ⟨rfl, rfl⟩
set_option maxHeartbeats 2000000 in
set_option maxRecDepth 20000 in
theorem tell_nil (w : World) :
    Calls Tryz.prog 13 #[.nilIface] w fun e w' => ∃ f, e = .returned f ∧ Fault w' f 0 0 0 0 [] ∧ Below w.heap.size w w' := by
  have hE0 : Ext w (w.alloc (.cells #[.int .i64 0, .int .i64 0, .int .i64 0, .int .i64 0, .slice none 0 0] 25)) := by go_grown
  have hcode := code_nil (w.alloc (.cells #[.int .i64 0, .int .i64 0, .int .i64 0, .int .i64 0, .slice none 0 0] 25))
  have kR := Blk.new w #[.int .i64 0, .int .i64 0, .int .i64 0, .int .i64 0, .slice none 0 0] 25
  go_enter Tryz.func13, Tryz.ntmps13
  go_wp2_with fail
  refine hcode.mono ?_
  rintro e w1 ⟨rfl, rfl⟩
  obtain ⟨w1, hw1⟩ : ∃ w1, w.alloc (.cells #[.int .i64 0, .int .i64 0, .int .i64 0, .int .i64 0, .slice none 0 0] 25) = w1 := ⟨_, rfl⟩
  rw [hw1] at hE0 kR ⊢
  have hw1s : w.heap.size < w1.heap.size := kR.lt
  clear hcode hw1
  have kF := Blk.new w1 #[.int .i64 0, .int .i64 0, .int .i64 0, .int .i64 0, .slice none 0 0] 25
  replace kR := kR.alloc (.cells #[.int .i64 0, .int .i64 0, .int .i64 0, .int .i64 0, .slice none 0 0] 25)
  have hx := bel_alloc hE0 (Below.refl _ _) (.cells #[.int .i64 0, .int .i64 0, .int .i64 0, .int .i64 0, .slice none 0 0] 25)
  go_wp2_with fail
  refine (outn_P _).mono ?_
  rintro e w2 ⟨rfl, hE⟩
  replace hx := bel_call hx hE
  replace kF := kF.ext hE
  replace kR := kR.ext hE
  clear hE
  go_wp2_with fail
  refine (outn_N _).mono ?_
  rintro e w3 ⟨rfl, hE⟩
  replace hx := bel_call hx hE
  replace kF := kF.ext hE
  replace kR := kR.ext hE
  clear hE
  go_wp2_with fail
  refine (outn_R _).mono ?_
  rintro e w4 ⟨rfl, hE⟩
  replace hx := bel_call hx hE
  replace kF := kF.ext hE
  replace kR := kR.ext hE
  clear hE
  go_wp2_with fail
  refine (outn_S _).mono ?_
  rintro e w5 ⟨rfl, hE⟩
  replace hx := bel_call hx hE
  replace kF := kF.ext hE
  replace kR := kR.ext hE
  clear hE
  obtain ⟨p0, p1, p2, p3, p4⟩ := kF.cells5
  obtain ⟨q0, q1, q2, q3, q4⟩ := kR.cells5
  have f0 := kR.free 0
  have f1 := kR.free 1
  have f2 := kR.free 2
  have f3 := kR.free 3
  have f4 := kR.free 4
  have hlt := kR.lt
  have kZ := ((((kR.set 0 (.int .i64 0)).set 1 (.int .i64 0)).set 2 (.int .i64 0)).set 3 (.int .i64 0)).set 4 (.slice none 0 0)
  obtain ⟨z0, z1, z2, z3, z4⟩ := kZ.cells5
  clear kF kR
  go_wp2
  refine bodyPost_ret (v := .agg #[.int .i64 0, .int .i64 0, .int .i64 0, .int .i64 0, .slice none 0 0]) ?_ rfl ⟨_, rfl, ⟨_, rfl, Texts.nil _⟩, by (repeat' (first | (with_reducible exact Below.refl _ _) | (with_reducible assumption) | (with_reducible refine below_drewN ?_ _) | (with_reducible refine Below.alloc ?_ ?_ _) | (with_reducible refine Below.drew ?_) | (with_reducible refine Below.setCell ?_ ?_ _) | (with_reducible refine Below.trans ?_ (Below.mono (by with_reducible assumption) ?_)) | go_size))⟩
  simp [results, Tryz.results13, go_sem, z0, z1, z2, z3, z4]
end Go.Proofs.YtnecafokkhhhhaaGreatDoor
