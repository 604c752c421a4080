/- The outermost wrapper of a kind. -/
import Derived.Test.YtoagkgdjekbcmaaDoorAsP
import Derived.Test.YtoagkgdjekbcmaaDoorAsN
import Derived.Test.YtoagkgdjekbcmaaDoorAsR
import Derived.Test.YtoagkgdjekbcmaaDoorAsS
import Derived.Test.YtoagkgdjekbcmaaDoorWrp
namespace Go.Proofs.YtoagkgdjekbcmaaDoor
open Go Go.RowKit Go.Extern.Stop Go.Stop Go.Extern
/-- What 'outermost' tells: the wrapper, if there is one. -/
def Found (w : World) (r : Value) (o : Option (TypeId × Value)) : Prop := match o with
  | none => r = .pointer none
  | some q => ∃ p y tt, r = .pointer (some ⟨p, 0, none⟩) ∧ w.heap[p]? = some (.cells #[y, q.2] tt (0, 0))
theorem out_enter_P (caps : Array Value) (w : World) : (callFunc 33 caps).run Tryd.prog w = .ok (.enter 33 caps) w := by kernel_rfl
set_option maxRecDepth 20000 in
theorem out_in_P (L : List (TypeId × Value)) (v : Value) (a : Addr) (p r : Nat) (w : World) (hG : w.cell? ⟨16, 0, none⟩ = some (.iface 77 (.agg #[.pointer (some ⟨21, 28, none⟩)]))) (hL : Chain w L v (errAt a))
    (hp : Blk w p #[v] 28) (hr : Blk w r #[.pointer none] 55) (o : Option (TypeId × Value)) (ho : (L.find? fun q => q.1 == 55) = o) :
    Calls Tryd.prog 33 #[.pointer (some ⟨p, 0, none⟩), .pointer (some ⟨r, 0, none⟩)] w fun e w' => e = .returned (.tuple #[]) ∧ AsEnd w w' ⟨r, 0, none⟩ o := by
  have hgl : 16 < w.heap.size := by
    rcases Nat.lt_or_ge 16 w.heap.size with h | h
    · exact h
    · simp [World.cell?, Array.getElem?_eq_none h] at hG
  have hpl := hp.lt
  have hrl := hr.lt
  obtain ⟨w1, hw1⟩ : ∃ w1, w.alloc (.cells #[.pointer none] 55) = w1 := ⟨_, rfl⟩
  have hb1 : Blk w1 w.heap.size #[.pointer none] 55 := by rw [← hw1]; exact Blk.new w _ _
  have hE1 : Ext w w1 := by rw [← hw1]; go_grown
  have hp1 := (hp.ext hE1).cell 0
  have hG1 : w1.cell? ⟨16, 0, none⟩ = some (.iface 77 (.agg #[.pointer (some ⟨21, 28, none⟩)])) := by rw [hE1.cell (p := ⟨16, 0, none⟩) hgl]; exact hG
  have has := as_all_P L v a ⟨w.heap.size, 0, none⟩ (.pointer none) w1 hG1 (hL.ext hE1) (hb1.cell 0) (hb1.free 0) o ho
  go_enter Tryd.func33, Tryd.ntmps33
  go_wp2_with fail
  refine has.mono ?_
  rintro e w9 ⟨rfl, w2, hE2, hm⟩
  rcases o with _ | q
  · obtain rfl := hm
    go_wp2
    go_end0
    exact ⟨rfl, _, bel_call hE1 hE2, rfl⟩
  · obtain ⟨pp, y, tt, hpp, rfl⟩ := hm
    have hb2 := (hb1.ext hE2).set 0 (.pointer (some ⟨pp, 0, none⟩))
    have hr2 := ((hr.ext hE1).ext hE2).set_other (a := ⟨w.heap.size, 0, none⟩) (by show w.heap.size ≠ r; omega) (.pointer (some ⟨pp, 0, none⟩))
    have c0 := hb2.cell 0
    simp only [Array.setIfInBounds] at c0
    have f0 := hr2.free 0
    have r0 := hr2.cell 0
    go_wp2
    go_end0
    refine ⟨rfl, _, (bel_call hE1 hE2).setCell (p := ⟨w.heap.size, 0, none⟩) (Nat.le_refl _) _, pp, y, tt, ?_, rfl⟩
    rcases Nat.lt_trichotomy pp w.heap.size with h | h | h
    · rw [← hE1.block _ h]; exact hpp
    · subst h
      have := hpp.symm.trans hb1
      simp at this
    · have hl := (Array.getElem?_eq_some_iff.1 hpp).1
      rw [← hw1] at hl
      simp at hl
      omega
set_option maxRecDepth 20000 in
/-- The first wrapper of its kind. -/
theorem out_P (L : List (TypeId × Value)) (v : Value) (a : Addr) (w : World) (hG : w.cell? ⟨16, 0, none⟩ = some (.iface 77 (.agg #[.pointer (some ⟨21, 28, none⟩)]))) (hL : Chain w L v (errAt a)) (o : Option (TypeId × Value)) (ho : (L.find? fun q => q.1 == 55) = o) :
    Calls Tryd.prog 25 #[v] w fun e w' => ∃ r, e = .returned r ∧ Below w.heap.size w w' ∧ Found w r o := by
  have hmf : ∀ (fn : Fn) (first cap : Array Value) (w : World), (Instr.makeFunc fn first cap).run Tryd.prog w = .ok (.func fn first cap) w := fun _ _ _ _ => rfl
  have hgl : 16 < w.heap.size := by
    rcases Nat.lt_or_ge 16 w.heap.size with h | h
    · exact h
    · simp [World.cell?, Array.getElem?_eq_none h] at hG
  have hE : Ext w ((w.alloc (.cells #[v] 28)).alloc (.cells #[.pointer none] 55)) := by go_grown
  have b0 := (Blk.new w #[v] 28).alloc (.cells #[.pointer none] 55)
  have b1 := Blk.new (w.alloc (.cells #[v] 28)) #[.pointer none] 55
  have e1 : (w.alloc (.cells #[v] 28)).heap.size = w.heap.size + 1 := by simp
  rw [e1] at b1
  have hG1 : ((w.alloc (.cells #[v] 28)).alloc (.cells #[.pointer none] 55)).cell? ⟨16, 0, none⟩ = some (.iface 77 (.agg #[.pointer (some ⟨21, 28, none⟩)])) := by rw [hE.cell (p := ⟨16, 0, none⟩) hgl]; exact hG
  have hin := out_in_P L v a w.heap.size (w.heap.size + 1) _ hG1 (hL.ext hE) b0 b1 o ho
  have hg := grd_of 33 _ _ _ (out_enter_P _ _) hin
  obtain ⟨T, x, rfl⟩ := Chain.iface hL
  go_enter Tryd.func25, Tryd.ntmps25
  go_wp2_with fail
  refine hg.mono ?_
  rintro e w9 ⟨rfl, w2, hE2, hm⟩
  have hbel := bel_call hE hE2
  rcases o with _ | q
  · obtain rfl := hm
    have c0 := (b1.ext hE2).cell 0
    go_wp2
    go_ret
    exact ⟨_, rfl, hbel, rfl⟩
  · obtain ⟨pp, y, tt, hpp, rfl⟩ := hm
    have c0 := ((b1.ext hE2).set 0 (.pointer (some ⟨pp, 0, none⟩))).cell 0
    simp only [Array.setIfInBounds] at c0
    go_wp2
    go_ret
    refine ⟨_, rfl, hbel.setCell (p := ⟨w.heap.size + 1, 0, none⟩) (Nat.le_succ _) _, pp, y, tt, rfl, ?_⟩
    rcases Nat.lt_trichotomy pp w.heap.size with h | h | h
    · rw [← hE.block _ h]; exact hpp
    · subst h
      have := hpp.symm.trans b0
      simp at this
    · have hl := (Array.getElem?_eq_some_iff.1 hpp).1
      simp at hl
      obtain rfl : pp = w.heap.size + 1 := by omega
      have := hpp.symm.trans b1
      simp at this
theorem out_enter_N (caps : Array Value) (w : World) : (callFunc 35 caps).run Tryd.prog w = .ok (.enter 35 caps) w := by kernel_rfl
set_option maxRecDepth 20000 in
theorem out_in_N (L : List (TypeId × Value)) (v : Value) (a : Addr) (p r : Nat) (w : World) (hG : w.cell? ⟨16, 0, none⟩ = some (.iface 77 (.agg #[.pointer (some ⟨21, 28, none⟩)]))) (hL : Chain w L v (errAt a))
    (hp : Blk w p #[v] 28) (hr : Blk w r #[.pointer none] 61) (o : Option (TypeId × Value)) (ho : (L.find? fun q => q.1 == 61) = o) :
    Calls Tryd.prog 35 #[.pointer (some ⟨p, 0, none⟩), .pointer (some ⟨r, 0, none⟩)] w fun e w' => e = .returned (.tuple #[]) ∧ AsEnd w w' ⟨r, 0, none⟩ o := by
  have hgl : 16 < w.heap.size := by
    rcases Nat.lt_or_ge 16 w.heap.size with h | h
    · exact h
    · simp [World.cell?, Array.getElem?_eq_none h] at hG
  have hpl := hp.lt
  have hrl := hr.lt
  obtain ⟨w1, hw1⟩ : ∃ w1, w.alloc (.cells #[.pointer none] 61) = w1 := ⟨_, rfl⟩
  have hb1 : Blk w1 w.heap.size #[.pointer none] 61 := by rw [← hw1]; exact Blk.new w _ _
  have hE1 : Ext w w1 := by rw [← hw1]; go_grown
  have hp1 := (hp.ext hE1).cell 0
  have hG1 : w1.cell? ⟨16, 0, none⟩ = some (.iface 77 (.agg #[.pointer (some ⟨21, 28, none⟩)])) := by rw [hE1.cell (p := ⟨16, 0, none⟩) hgl]; exact hG
  have has := as_all_N L v a ⟨w.heap.size, 0, none⟩ (.pointer none) w1 hG1 (hL.ext hE1) (hb1.cell 0) (hb1.free 0) o ho
  go_enter Tryd.func35, Tryd.ntmps35
  go_wp2_with fail
  refine has.mono ?_
  rintro e w9 ⟨rfl, w2, hE2, hm⟩
  rcases o with _ | q
  · obtain rfl := hm
    go_wp2
    go_end0
    exact ⟨rfl, _, bel_call hE1 hE2, rfl⟩
  · obtain ⟨pp, y, tt, hpp, rfl⟩ := hm
    have hb2 := (hb1.ext hE2).set 0 (.pointer (some ⟨pp, 0, none⟩))
    have hr2 := ((hr.ext hE1).ext hE2).set_other (a := ⟨w.heap.size, 0, none⟩) (by show w.heap.size ≠ r; omega) (.pointer (some ⟨pp, 0, none⟩))
    have c0 := hb2.cell 0
    simp only [Array.setIfInBounds] at c0
    have f0 := hr2.free 0
    have r0 := hr2.cell 0
    go_wp2
    go_end0
    refine ⟨rfl, _, (bel_call hE1 hE2).setCell (p := ⟨w.heap.size, 0, none⟩) (Nat.le_refl _) _, pp, y, tt, ?_, rfl⟩
    rcases Nat.lt_trichotomy pp w.heap.size with h | h | h
    · rw [← hE1.block _ h]; exact hpp
    · subst h
      have := hpp.symm.trans hb1
      simp at this
    · have hl := (Array.getElem?_eq_some_iff.1 hpp).1
      rw [← hw1] at hl
      simp at hl
      omega
set_option maxRecDepth 20000 in
/-- The first wrapper of its kind. -/
theorem out_N (L : List (TypeId × Value)) (v : Value) (a : Addr) (w : World) (hG : w.cell? ⟨16, 0, none⟩ = some (.iface 77 (.agg #[.pointer (some ⟨21, 28, none⟩)]))) (hL : Chain w L v (errAt a)) (o : Option (TypeId × Value)) (ho : (L.find? fun q => q.1 == 61) = o) :
    Calls Tryd.prog 26 #[v] w fun e w' => ∃ r, e = .returned r ∧ Below w.heap.size w w' ∧ Found w r o := by
  have hmf : ∀ (fn : Fn) (first cap : Array Value) (w : World), (Instr.makeFunc fn first cap).run Tryd.prog w = .ok (.func fn first cap) w := fun _ _ _ _ => rfl
  have hgl : 16 < w.heap.size := by
    rcases Nat.lt_or_ge 16 w.heap.size with h | h
    · exact h
    · simp [World.cell?, Array.getElem?_eq_none h] at hG
  have hE : Ext w ((w.alloc (.cells #[v] 28)).alloc (.cells #[.pointer none] 61)) := by go_grown
  have b0 := (Blk.new w #[v] 28).alloc (.cells #[.pointer none] 61)
  have b1 := Blk.new (w.alloc (.cells #[v] 28)) #[.pointer none] 61
  have e1 : (w.alloc (.cells #[v] 28)).heap.size = w.heap.size + 1 := by simp
  rw [e1] at b1
  have hG1 : ((w.alloc (.cells #[v] 28)).alloc (.cells #[.pointer none] 61)).cell? ⟨16, 0, none⟩ = some (.iface 77 (.agg #[.pointer (some ⟨21, 28, none⟩)])) := by rw [hE.cell (p := ⟨16, 0, none⟩) hgl]; exact hG
  have hin := out_in_N L v a w.heap.size (w.heap.size + 1) _ hG1 (hL.ext hE) b0 b1 o ho
  have hg := grd_of 35 _ _ _ (out_enter_N _ _) hin
  obtain ⟨T, x, rfl⟩ := Chain.iface hL
  go_enter Tryd.func26, Tryd.ntmps26
  go_wp2_with fail
  refine hg.mono ?_
  rintro e w9 ⟨rfl, w2, hE2, hm⟩
  have hbel := bel_call hE hE2
  rcases o with _ | q
  · obtain rfl := hm
    have c0 := (b1.ext hE2).cell 0
    go_wp2
    go_ret
    exact ⟨_, rfl, hbel, rfl⟩
  · obtain ⟨pp, y, tt, hpp, rfl⟩ := hm
    have c0 := ((b1.ext hE2).set 0 (.pointer (some ⟨pp, 0, none⟩))).cell 0
    simp only [Array.setIfInBounds] at c0
    go_wp2
    go_ret
    refine ⟨_, rfl, hbel.setCell (p := ⟨w.heap.size + 1, 0, none⟩) (Nat.le_succ _) _, pp, y, tt, rfl, ?_⟩
    rcases Nat.lt_trichotomy pp w.heap.size with h | h | h
    · rw [← hE.block _ h]; exact hpp
    · subst h
      have := hpp.symm.trans b0
      simp at this
    · have hl := (Array.getElem?_eq_some_iff.1 hpp).1
      simp at hl
      obtain rfl : pp = w.heap.size + 1 := by omega
      have := hpp.symm.trans b1
      simp at this
theorem out_enter_R (caps : Array Value) (w : World) : (callFunc 36 caps).run Tryd.prog w = .ok (.enter 36 caps) w := by kernel_rfl
set_option maxRecDepth 20000 in
theorem out_in_R (L : List (TypeId × Value)) (v : Value) (a : Addr) (p r : Nat) (w : World) (hG : w.cell? ⟨16, 0, none⟩ = some (.iface 77 (.agg #[.pointer (some ⟨21, 28, none⟩)]))) (hL : Chain w L v (errAt a))
    (hp : Blk w p #[v] 28) (hr : Blk w r #[.pointer none] 65) (o : Option (TypeId × Value)) (ho : (L.find? fun q => q.1 == 65) = o) :
    Calls Tryd.prog 36 #[.pointer (some ⟨p, 0, none⟩), .pointer (some ⟨r, 0, none⟩)] w fun e w' => e = .returned (.tuple #[]) ∧ AsEnd w w' ⟨r, 0, none⟩ o := by
  have hgl : 16 < w.heap.size := by
    rcases Nat.lt_or_ge 16 w.heap.size with h | h
    · exact h
    · simp [World.cell?, Array.getElem?_eq_none h] at hG
  have hpl := hp.lt
  have hrl := hr.lt
  obtain ⟨w1, hw1⟩ : ∃ w1, w.alloc (.cells #[.pointer none] 65) = w1 := ⟨_, rfl⟩
  have hb1 : Blk w1 w.heap.size #[.pointer none] 65 := by rw [← hw1]; exact Blk.new w _ _
  have hE1 : Ext w w1 := by rw [← hw1]; go_grown
  have hp1 := (hp.ext hE1).cell 0
  have hG1 : w1.cell? ⟨16, 0, none⟩ = some (.iface 77 (.agg #[.pointer (some ⟨21, 28, none⟩)])) := by rw [hE1.cell (p := ⟨16, 0, none⟩) hgl]; exact hG
  have has := as_all_R L v a ⟨w.heap.size, 0, none⟩ (.pointer none) w1 hG1 (hL.ext hE1) (hb1.cell 0) (hb1.free 0) o ho
  go_enter Tryd.func36, Tryd.ntmps36
  go_wp2_with fail
  refine has.mono ?_
  rintro e w9 ⟨rfl, w2, hE2, hm⟩
  rcases o with _ | q
  · obtain rfl := hm
    go_wp2
    go_end0
    exact ⟨rfl, _, bel_call hE1 hE2, rfl⟩
  · obtain ⟨pp, y, tt, hpp, rfl⟩ := hm
    have hb2 := (hb1.ext hE2).set 0 (.pointer (some ⟨pp, 0, none⟩))
    have hr2 := ((hr.ext hE1).ext hE2).set_other (a := ⟨w.heap.size, 0, none⟩) (by show w.heap.size ≠ r; omega) (.pointer (some ⟨pp, 0, none⟩))
    have c0 := hb2.cell 0
    simp only [Array.setIfInBounds] at c0
    have f0 := hr2.free 0
    have r0 := hr2.cell 0
    go_wp2
    go_end0
    refine ⟨rfl, _, (bel_call hE1 hE2).setCell (p := ⟨w.heap.size, 0, none⟩) (Nat.le_refl _) _, pp, y, tt, ?_, rfl⟩
    rcases Nat.lt_trichotomy pp w.heap.size with h | h | h
    · rw [← hE1.block _ h]; exact hpp
    · subst h
      have := hpp.symm.trans hb1
      simp at this
    · have hl := (Array.getElem?_eq_some_iff.1 hpp).1
      rw [← hw1] at hl
      simp at hl
      omega
set_option maxRecDepth 20000 in
/-- The first wrapper of its kind. -/
theorem out_R (L : List (TypeId × Value)) (v : Value) (a : Addr) (w : World) (hG : w.cell? ⟨16, 0, none⟩ = some (.iface 77 (.agg #[.pointer (some ⟨21, 28, none⟩)]))) (hL : Chain w L v (errAt a)) (o : Option (TypeId × Value)) (ho : (L.find? fun q => q.1 == 65) = o) :
    Calls Tryd.prog 28 #[v] w fun e w' => ∃ r, e = .returned r ∧ Below w.heap.size w w' ∧ Found w r o := by
  have hmf : ∀ (fn : Fn) (first cap : Array Value) (w : World), (Instr.makeFunc fn first cap).run Tryd.prog w = .ok (.func fn first cap) w := fun _ _ _ _ => rfl
  have hgl : 16 < w.heap.size := by
    rcases Nat.lt_or_ge 16 w.heap.size with h | h
    · exact h
    · simp [World.cell?, Array.getElem?_eq_none h] at hG
  have hE : Ext w ((w.alloc (.cells #[v] 28)).alloc (.cells #[.pointer none] 65)) := by go_grown
  have b0 := (Blk.new w #[v] 28).alloc (.cells #[.pointer none] 65)
  have b1 := Blk.new (w.alloc (.cells #[v] 28)) #[.pointer none] 65
  have e1 : (w.alloc (.cells #[v] 28)).heap.size = w.heap.size + 1 := by simp
  rw [e1] at b1
  have hG1 : ((w.alloc (.cells #[v] 28)).alloc (.cells #[.pointer none] 65)).cell? ⟨16, 0, none⟩ = some (.iface 77 (.agg #[.pointer (some ⟨21, 28, none⟩)])) := by rw [hE.cell (p := ⟨16, 0, none⟩) hgl]; exact hG
  have hin := out_in_R L v a w.heap.size (w.heap.size + 1) _ hG1 (hL.ext hE) b0 b1 o ho
  have hg := grd_of 36 _ _ _ (out_enter_R _ _) hin
  obtain ⟨T, x, rfl⟩ := Chain.iface hL
  go_enter Tryd.func28, Tryd.ntmps28
  go_wp2_with fail
  refine hg.mono ?_
  rintro e w9 ⟨rfl, w2, hE2, hm⟩
  have hbel := bel_call hE hE2
  rcases o with _ | q
  · obtain rfl := hm
    have c0 := (b1.ext hE2).cell 0
    go_wp2
    go_ret
    exact ⟨_, rfl, hbel, rfl⟩
  · obtain ⟨pp, y, tt, hpp, rfl⟩ := hm
    have c0 := ((b1.ext hE2).set 0 (.pointer (some ⟨pp, 0, none⟩))).cell 0
    simp only [Array.setIfInBounds] at c0
    go_wp2
    go_ret
    refine ⟨_, rfl, hbel.setCell (p := ⟨w.heap.size + 1, 0, none⟩) (Nat.le_succ _) _, pp, y, tt, rfl, ?_⟩
    rcases Nat.lt_trichotomy pp w.heap.size with h | h | h
    · rw [← hE.block _ h]; exact hpp
    · subst h
      have := hpp.symm.trans b0
      simp at this
    · have hl := (Array.getElem?_eq_some_iff.1 hpp).1
      simp at hl
      obtain rfl : pp = w.heap.size + 1 := by omega
      have := hpp.symm.trans b1
      simp at this
theorem out_enter_S (caps : Array Value) (w : World) : (callFunc 37 caps).run Tryd.prog w = .ok (.enter 37 caps) w := by kernel_rfl
set_option maxRecDepth 20000 in
theorem out_in_S (L : List (TypeId × Value)) (v : Value) (a : Addr) (p r : Nat) (w : World) (hG : w.cell? ⟨16, 0, none⟩ = some (.iface 77 (.agg #[.pointer (some ⟨21, 28, none⟩)]))) (hL : Chain w L v (errAt a))
    (hp : Blk w p #[v] 28) (hr : Blk w r #[.pointer none] 69) (o : Option (TypeId × Value)) (ho : (L.find? fun q => q.1 == 69) = o) :
    Calls Tryd.prog 37 #[.pointer (some ⟨p, 0, none⟩), .pointer (some ⟨r, 0, none⟩)] w fun e w' => e = .returned (.tuple #[]) ∧ AsEnd w w' ⟨r, 0, none⟩ o := by
  have hgl : 16 < w.heap.size := by
    rcases Nat.lt_or_ge 16 w.heap.size with h | h
    · exact h
    · simp [World.cell?, Array.getElem?_eq_none h] at hG
  have hpl := hp.lt
  have hrl := hr.lt
  obtain ⟨w1, hw1⟩ : ∃ w1, w.alloc (.cells #[.pointer none] 69) = w1 := ⟨_, rfl⟩
  have hb1 : Blk w1 w.heap.size #[.pointer none] 69 := by rw [← hw1]; exact Blk.new w _ _
  have hE1 : Ext w w1 := by rw [← hw1]; go_grown
  have hp1 := (hp.ext hE1).cell 0
  have hG1 : w1.cell? ⟨16, 0, none⟩ = some (.iface 77 (.agg #[.pointer (some ⟨21, 28, none⟩)])) := by rw [hE1.cell (p := ⟨16, 0, none⟩) hgl]; exact hG
  have has := as_all_S L v a ⟨w.heap.size, 0, none⟩ (.pointer none) w1 hG1 (hL.ext hE1) (hb1.cell 0) (hb1.free 0) o ho
  go_enter Tryd.func37, Tryd.ntmps37
  go_wp2_with fail
  refine has.mono ?_
  rintro e w9 ⟨rfl, w2, hE2, hm⟩
  rcases o with _ | q
  · obtain rfl := hm
    go_wp2
    go_end0
    exact ⟨rfl, _, bel_call hE1 hE2, rfl⟩
  · obtain ⟨pp, y, tt, hpp, rfl⟩ := hm
    have hb2 := (hb1.ext hE2).set 0 (.pointer (some ⟨pp, 0, none⟩))
    have hr2 := ((hr.ext hE1).ext hE2).set_other (a := ⟨w.heap.size, 0, none⟩) (by show w.heap.size ≠ r; omega) (.pointer (some ⟨pp, 0, none⟩))
    have c0 := hb2.cell 0
    simp only [Array.setIfInBounds] at c0
    have f0 := hr2.free 0
    have r0 := hr2.cell 0
    go_wp2
    go_end0
    refine ⟨rfl, _, (bel_call hE1 hE2).setCell (p := ⟨w.heap.size, 0, none⟩) (Nat.le_refl _) _, pp, y, tt, ?_, rfl⟩
    rcases Nat.lt_trichotomy pp w.heap.size with h | h | h
    · rw [← hE1.block _ h]; exact hpp
    · subst h
      have := hpp.symm.trans hb1
      simp at this
    · have hl := (Array.getElem?_eq_some_iff.1 hpp).1
      rw [← hw1] at hl
      simp at hl
      omega
set_option maxRecDepth 20000 in
/-- The first wrapper of its kind. -/
theorem out_S (L : List (TypeId × Value)) (v : Value) (a : Addr) (w : World) (hG : w.cell? ⟨16, 0, none⟩ = some (.iface 77 (.agg #[.pointer (some ⟨21, 28, none⟩)]))) (hL : Chain w L v (errAt a)) (o : Option (TypeId × Value)) (ho : (L.find? fun q => q.1 == 69) = o) :
    Calls Tryd.prog 29 #[v] w fun e w' => ∃ r, e = .returned r ∧ Below w.heap.size w w' ∧ Found w r o := by
  have hmf : ∀ (fn : Fn) (first cap : Array Value) (w : World), (Instr.makeFunc fn first cap).run Tryd.prog w = .ok (.func fn first cap) w := fun _ _ _ _ => rfl
  have hgl : 16 < w.heap.size := by
    rcases Nat.lt_or_ge 16 w.heap.size with h | h
    · exact h
    · simp [World.cell?, Array.getElem?_eq_none h] at hG
  have hE : Ext w ((w.alloc (.cells #[v] 28)).alloc (.cells #[.pointer none] 69)) := by go_grown
  have b0 := (Blk.new w #[v] 28).alloc (.cells #[.pointer none] 69)
  have b1 := Blk.new (w.alloc (.cells #[v] 28)) #[.pointer none] 69
  have e1 : (w.alloc (.cells #[v] 28)).heap.size = w.heap.size + 1 := by simp
  rw [e1] at b1
  have hG1 : ((w.alloc (.cells #[v] 28)).alloc (.cells #[.pointer none] 69)).cell? ⟨16, 0, none⟩ = some (.iface 77 (.agg #[.pointer (some ⟨21, 28, none⟩)])) := by rw [hE.cell (p := ⟨16, 0, none⟩) hgl]; exact hG
  have hin := out_in_S L v a w.heap.size (w.heap.size + 1) _ hG1 (hL.ext hE) b0 b1 o ho
  have hg := grd_of 37 _ _ _ (out_enter_S _ _) hin
  obtain ⟨T, x, rfl⟩ := Chain.iface hL
  go_enter Tryd.func29, Tryd.ntmps29
  go_wp2_with fail
  refine hg.mono ?_
  rintro e w9 ⟨rfl, w2, hE2, hm⟩
  have hbel := bel_call hE hE2
  rcases o with _ | q
  · obtain rfl := hm
    have c0 := (b1.ext hE2).cell 0
    go_wp2
    go_ret
    exact ⟨_, rfl, hbel, rfl⟩
  · obtain ⟨pp, y, tt, hpp, rfl⟩ := hm
    have c0 := ((b1.ext hE2).set 0 (.pointer (some ⟨pp, 0, none⟩))).cell 0
    simp only [Array.setIfInBounds] at c0
    go_wp2
    go_ret
    refine ⟨_, rfl, hbel.setCell (p := ⟨w.heap.size + 1, 0, none⟩) (Nat.le_succ _) _, pp, y, tt, rfl, ?_⟩
    rcases Nat.lt_trichotomy pp w.heap.size with h | h | h
    · rw [← hE.block _ h]; exact hpp
    · subst h
      have := hpp.symm.trans b0
      simp at this
    · have hl := (Array.getElem?_eq_some_iff.1 hpp).1
      simp at hl
      obtain rfl : pp = w.heap.size + 1 := by omega
      have := hpp.symm.trans b1
      simp at this
end Go.Proofs.YtoagkgdjekbcmaaDoor
