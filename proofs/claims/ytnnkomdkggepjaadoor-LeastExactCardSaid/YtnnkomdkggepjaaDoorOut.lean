/- The outermost wrapper of a kind. -/
import Derived.Test.YtnnkomdkggepjaaDoorAsP
import Derived.Test.YtnnkomdkggepjaaDoorAsN
import Derived.Test.YtnnkomdkggepjaaDoorAsR
import Derived.Test.YtnnkomdkggepjaaDoorAsS
import Derived.Test.YtnnkomdkggepjaaDoorWrp
namespace Go.Proofs.YtnnkomdkggepjaaDoor
open Go Go.RowKit Go.Extern.Stop Go.Stop Go.Extern
/-- What 'outermost' tells: the wrapper, if there is one. -/
def Found (w : World) (r : Value) (o : Option (TypeId × Value)) : Prop := match o with
  | none => r = .pointer none
  | some q => ∃ p y tt, r = .pointer (some ⟨p, 0, none⟩) ∧ w.heap[p]? = some (.cells #[y, q.2] tt (0, 0))
theorem out_enter_P (caps : Array Value) (w : World) : (callFunc 55 caps).run Tryd.prog w = .ok (.enter 55 caps) w := by kernel_rfl
set_option maxRecDepth 20000 in
theorem out_in_P (L : List (TypeId × Value)) (v : Value) (a : Addr) (p r : Nat) (w : World) (hG : w.cell? ⟨16, 0, none⟩ = some (.iface 140 (.agg #[.pointer (some ⟨17, 36, none⟩)]))) (hL : Chain w L v (errAt a))
    (hp : Blk w p #[v] 36) (hr : Blk w r #[.pointer none] 82) (o : Option (TypeId × Value)) (ho : (L.find? fun q => q.1 == 82) = o) :
    Calls Tryd.prog 55 #[.pointer (some ⟨p, 0, none⟩), .pointer (some ⟨r, 0, none⟩)] w fun e w' => e = .returned (.tuple #[]) ∧ AsEnd w w' ⟨r, 0, none⟩ o := by
  have hgl : 16 < w.heap.size := by
    rcases Nat.lt_or_ge 16 w.heap.size with h | h
    · exact h
    · simp [World.cell?, Array.getElem?_eq_none h] at hG
  have hpl := hp.lt
  have hrl := hr.lt
  obtain ⟨w1, hw1⟩ : ∃ w1, w.alloc (.cells #[.pointer none] 82) = w1 := ⟨_, rfl⟩
  have hb1 : Blk w1 w.heap.size #[.pointer none] 82 := by rw [← hw1]; exact Blk.new w _ _
  have hE1 : Ext w w1 := by rw [← hw1]; go_grown
  have hp1 := (hp.ext hE1).cell 0
  have hG1 : w1.cell? ⟨16, 0, none⟩ = some (.iface 140 (.agg #[.pointer (some ⟨17, 36, none⟩)])) := by rw [hE1.cell (p := ⟨16, 0, none⟩) hgl]; exact hG
  have has := as_all_P L v a ⟨w.heap.size, 0, none⟩ (.pointer none) w1 hG1 (hL.ext hE1) (hb1.cell 0) (hb1.free 0) o ho
  go_enter Tryd.func55, Tryd.ntmps55
  go_wp2_with fail
  refine has.mono ?_
  rintro e w9 ⟨rfl, w2, hE2, hm⟩
  rcases o with _ | q
  · obtain rfl := hm
    go_wp2
    go_end0
    exact ⟨rfl, _, bel_call hE1 hE2, rfl⟩
  · obtain ⟨pp, y, tt, hpp, rfl⟩ := hm
    have hb2 := (hb1.ext hE2).set 0 (.pointer (some ⟨pp, 0, none⟩))
    have hr2 := ((hr.ext hE1).ext hE2).set_other (a := ⟨w.heap.size, 0, none⟩) (by show w.heap.size ≠ r; omega) (.pointer (some ⟨pp, 0, none⟩))
    have c0 := hb2.cell 0
    simp only [Array.setIfInBounds] at c0
    have f0 := hr2.free 0
    have r0 := hr2.cell 0
    go_wp2
    go_end0
    refine ⟨rfl, _, (bel_call hE1 hE2).setCell (p := ⟨w.heap.size, 0, none⟩) (Nat.le_refl _) _, pp, y, tt, ?_, rfl⟩
    rcases Nat.lt_trichotomy pp w.heap.size with h | h | h
    · rw [← hE1.block _ h]; exact hpp
    · subst h
      have := hpp.symm.trans hb1
      simp at this
    · have hl := (Array.getElem?_eq_some_iff.1 hpp).1
      rw [← hw1] at hl
      simp at hl
      omega
set_option maxRecDepth 20000 in
/-- The first wrapper of its kind. -/
theorem out_P (L : List (TypeId × Value)) (v : Value) (a : Addr) (w : World) (hG : w.cell? ⟨16, 0, none⟩ = some (.iface 140 (.agg #[.pointer (some ⟨17, 36, none⟩)]))) (hL : Chain w L v (errAt a)) (o : Option (TypeId × Value)) (ho : (L.find? fun q => q.1 == 82) = o) :
    Calls Tryd.prog 41 #[v] w fun e w' => ∃ r, e = .returned r ∧ Below w.heap.size w w' ∧ Found w r o := by
  have hmf : ∀ (fn : Fn) (first cap : Array Value) (w : World), (Instr.makeFunc fn first cap).run Tryd.prog w = .ok (.func fn first cap) w := fun _ _ _ _ => rfl
  have hgl : 16 < w.heap.size := by
    rcases Nat.lt_or_ge 16 w.heap.size with h | h
    · exact h
    · simp [World.cell?, Array.getElem?_eq_none h] at hG
  have hE : Ext w ((w.alloc (.cells #[v] 36)).alloc (.cells #[.pointer none] 82)) := by go_grown
  have b0 := (Blk.new w #[v] 36).alloc (.cells #[.pointer none] 82)
  have b1 := Blk.new (w.alloc (.cells #[v] 36)) #[.pointer none] 82
  have e1 : (w.alloc (.cells #[v] 36)).heap.size = w.heap.size + 1 := by simp
  rw [e1] at b1
  have hG1 : ((w.alloc (.cells #[v] 36)).alloc (.cells #[.pointer none] 82)).cell? ⟨16, 0, none⟩ = some (.iface 140 (.agg #[.pointer (some ⟨17, 36, none⟩)])) := by rw [hE.cell (p := ⟨16, 0, none⟩) hgl]; exact hG
  have hin := out_in_P L v a w.heap.size (w.heap.size + 1) _ hG1 (hL.ext hE) b0 b1 o ho
  have hg := grd_of 55 _ _ _ (out_enter_P _ _) hin
  obtain ⟨T, x, rfl⟩ := Chain.iface hL
  go_enter Tryd.func41, Tryd.ntmps41
  go_wp2_with fail
  refine hg.mono ?_
  rintro e w9 ⟨rfl, w2, hE2, hm⟩
  have hbel := bel_call hE hE2
  rcases o with _ | q
  · obtain rfl := hm
    have c0 := (b1.ext hE2).cell 0
    go_wp2
    go_ret
    exact ⟨_, rfl, hbel, rfl⟩
  · obtain ⟨pp, y, tt, hpp, rfl⟩ := hm
    have c0 := ((b1.ext hE2).set 0 (.pointer (some ⟨pp, 0, none⟩))).cell 0
    simp only [Array.setIfInBounds] at c0
    go_wp2
    go_ret
    refine ⟨_, rfl, hbel.setCell (p := ⟨w.heap.size + 1, 0, none⟩) (Nat.le_succ _) _, pp, y, tt, rfl, ?_⟩
    rcases Nat.lt_trichotomy pp w.heap.size with h | h | h
    · rw [← hE.block _ h]; exact hpp
    · subst h
      have := hpp.symm.trans b0
      simp at this
    · have hl := (Array.getElem?_eq_some_iff.1 hpp).1
      simp at hl
      obtain rfl : pp = w.heap.size + 1 := by omega
      have := hpp.symm.trans b1
      simp at this
theorem out_enter_N (caps : Array Value) (w : World) : (callFunc 57 caps).run Tryd.prog w = .ok (.enter 57 caps) w := by kernel_rfl
set_option maxRecDepth 20000 in
theorem out_in_N (L : List (TypeId × Value)) (v : Value) (a : Addr) (p r : Nat) (w : World) (hG : w.cell? ⟨16, 0, none⟩ = some (.iface 140 (.agg #[.pointer (some ⟨17, 36, none⟩)]))) (hL : Chain w L v (errAt a))
    (hp : Blk w p #[v] 36) (hr : Blk w r #[.pointer none] 88) (o : Option (TypeId × Value)) (ho : (L.find? fun q => q.1 == 88) = o) :
    Calls Tryd.prog 57 #[.pointer (some ⟨p, 0, none⟩), .pointer (some ⟨r, 0, none⟩)] w fun e w' => e = .returned (.tuple #[]) ∧ AsEnd w w' ⟨r, 0, none⟩ o := by
  have hgl : 16 < w.heap.size := by
    rcases Nat.lt_or_ge 16 w.heap.size with h | h
    · exact h
    · simp [World.cell?, Array.getElem?_eq_none h] at hG
  have hpl := hp.lt
  have hrl := hr.lt
  obtain ⟨w1, hw1⟩ : ∃ w1, w.alloc (.cells #[.pointer none] 88) = w1 := ⟨_, rfl⟩
  have hb1 : Blk w1 w.heap.size #[.pointer none] 88 := by rw [← hw1]; exact Blk.new w _ _
  have hE1 : Ext w w1 := by rw [← hw1]; go_grown
  have hp1 := (hp.ext hE1).cell 0
  have hG1 : w1.cell? ⟨16, 0, none⟩ = some (.iface 140 (.agg #[.pointer (some ⟨17, 36, none⟩)])) := by rw [hE1.cell (p := ⟨16, 0, none⟩) hgl]; exact hG
  have has := as_all_N L v a ⟨w.heap.size, 0, none⟩ (.pointer none) w1 hG1 (hL.ext hE1) (hb1.cell 0) (hb1.free 0) o ho
  go_enter Tryd.func57, Tryd.ntmps57
  go_wp2_with fail
  refine has.mono ?_
  rintro e w9 ⟨rfl, w2, hE2, hm⟩
  rcases o with _ | q
  · obtain rfl := hm
    go_wp2
    go_end0
    exact ⟨rfl, _, bel_call hE1 hE2, rfl⟩
  · obtain ⟨pp, y, tt, hpp, rfl⟩ := hm
    have hb2 := (hb1.ext hE2).set 0 (.pointer (some ⟨pp, 0, none⟩))
    have hr2 := ((hr.ext hE1).ext hE2).set_other (a := ⟨w.heap.size, 0, none⟩) (by show w.heap.size ≠ r; omega) (.pointer (some ⟨pp, 0, none⟩))
    have c0 := hb2.cell 0
    simp only [Array.setIfInBounds] at c0
    have f0 := hr2.free 0
    have r0 := hr2.cell 0
    go_wp2
    go_end0
    refine ⟨rfl, _, (bel_call hE1 hE2).setCell (p := ⟨w.heap.size, 0, none⟩) (Nat.le_refl _) _, pp, y, tt, ?_, rfl⟩
    rcases Nat.lt_trichotomy pp w.heap.size with h | h | h
    · rw [← hE1.block _ h]; exact hpp
    · subst h
      have := hpp.symm.trans hb1
      simp at this
    · have hl := (Array.getElem?_eq_some_iff.1 hpp).1
      rw [← hw1] at hl
      simp at hl
      omega
set_option maxRecDepth 20000 in
/-- The first wrapper of its kind. -/
theorem out_N (L : List (TypeId × Value)) (v : Value) (a : Addr) (w : World) (hG : w.cell? ⟨16, 0, none⟩ = some (.iface 140 (.agg #[.pointer (some ⟨17, 36, none⟩)]))) (hL : Chain w L v (errAt a)) (o : Option (TypeId × Value)) (ho : (L.find? fun q => q.1 == 88) = o) :
    Calls Tryd.prog 42 #[v] w fun e w' => ∃ r, e = .returned r ∧ Below w.heap.size w w' ∧ Found w r o := by
  have hmf : ∀ (fn : Fn) (first cap : Array Value) (w : World), (Instr.makeFunc fn first cap).run Tryd.prog w = .ok (.func fn first cap) w := fun _ _ _ _ => rfl
  have hgl : 16 < w.heap.size := by
    rcases Nat.lt_or_ge 16 w.heap.size with h | h
    · exact h
    · simp [World.cell?, Array.getElem?_eq_none h] at hG
  have hE : Ext w ((w.alloc (.cells #[v] 36)).alloc (.cells #[.pointer none] 88)) := by go_grown
  have b0 := (Blk.new w #[v] 36).alloc (.cells #[.pointer none] 88)
  have b1 := Blk.new (w.alloc (.cells #[v] 36)) #[.pointer none] 88
  have e1 : (w.alloc (.cells #[v] 36)).heap.size = w.heap.size + 1 := by simp
  rw [e1] at b1
  have hG1 : ((w.alloc (.cells #[v] 36)).alloc (.cells #[.pointer none] 88)).cell? ⟨16, 0, none⟩ = some (.iface 140 (.agg #[.pointer (some ⟨17, 36, none⟩)])) := by rw [hE.cell (p := ⟨16, 0, none⟩) hgl]; exact hG
  have hin := out_in_N L v a w.heap.size (w.heap.size + 1) _ hG1 (hL.ext hE) b0 b1 o ho
  have hg := grd_of 57 _ _ _ (out_enter_N _ _) hin
  obtain ⟨T, x, rfl⟩ := Chain.iface hL
  go_enter Tryd.func42, Tryd.ntmps42
  go_wp2_with fail
  refine hg.mono ?_
  rintro e w9 ⟨rfl, w2, hE2, hm⟩
  have hbel := bel_call hE hE2
  rcases o with _ | q
  · obtain rfl := hm
    have c0 := (b1.ext hE2).cell 0
    go_wp2
    go_ret
    exact ⟨_, rfl, hbel, rfl⟩
  · obtain ⟨pp, y, tt, hpp, rfl⟩ := hm
    have c0 := ((b1.ext hE2).set 0 (.pointer (some ⟨pp, 0, none⟩))).cell 0
    simp only [Array.setIfInBounds] at c0
    go_wp2
    go_ret
    refine ⟨_, rfl, hbel.setCell (p := ⟨w.heap.size + 1, 0, none⟩) (Nat.le_succ _) _, pp, y, tt, rfl, ?_⟩
    rcases Nat.lt_trichotomy pp w.heap.size with h | h | h
    · rw [← hE.block _ h]; exact hpp
    · subst h
      have := hpp.symm.trans b0
      simp at this
    · have hl := (Array.getElem?_eq_some_iff.1 hpp).1
      simp at hl
      obtain rfl : pp = w.heap.size + 1 := by omega
      have := hpp.symm.trans b1
      simp at this
theorem out_enter_R (caps : Array Value) (w : World) : (callFunc 58 caps).run Tryd.prog w = .ok (.enter 58 caps) w := by kernel_rfl
set_option maxRecDepth 20000 in
theorem out_in_R (L : List (TypeId × Value)) (v : Value) (a : Addr) (p r : Nat) (w : World) (hG : w.cell? ⟨16, 0, none⟩ = some (.iface 140 (.agg #[.pointer (some ⟨17, 36, none⟩)]))) (hL : Chain w L v (errAt a))
    (hp : Blk w p #[v] 36) (hr : Blk w r #[.pointer none] 93) (o : Option (TypeId × Value)) (ho : (L.find? fun q => q.1 == 93) = o) :
    Calls Tryd.prog 58 #[.pointer (some ⟨p, 0, none⟩), .pointer (some ⟨r, 0, none⟩)] w fun e w' => e = .returned (.tuple #[]) ∧ AsEnd w w' ⟨r, 0, none⟩ o := by
  have hgl : 16 < w.heap.size := by
    rcases Nat.lt_or_ge 16 w.heap.size with h | h
    · exact h
    · simp [World.cell?, Array.getElem?_eq_none h] at hG
  have hpl := hp.lt
  have hrl := hr.lt
  obtain ⟨w1, hw1⟩ : ∃ w1, w.alloc (.cells #[.pointer none] 93) = w1 := ⟨_, rfl⟩
  have hb1 : Blk w1 w.heap.size #[.pointer none] 93 := by rw [← hw1]; exact Blk.new w _ _
  have hE1 : Ext w w1 := by rw [← hw1]; go_grown
  have hp1 := (hp.ext hE1).cell 0
  have hG1 : w1.cell? ⟨16, 0, none⟩ = some (.iface 140 (.agg #[.pointer (some ⟨17, 36, none⟩)])) := by rw [hE1.cell (p := ⟨16, 0, none⟩) hgl]; exact hG
  have has := as_all_R L v a ⟨w.heap.size, 0, none⟩ (.pointer none) w1 hG1 (hL.ext hE1) (hb1.cell 0) (hb1.free 0) o ho
  go_enter Tryd.func58, Tryd.ntmps58
  go_wp2_with fail
  refine has.mono ?_
  rintro e w9 ⟨rfl, w2, hE2, hm⟩
  rcases o with _ | q
  · obtain rfl := hm
    go_wp2
    go_end0
    exact ⟨rfl, _, bel_call hE1 hE2, rfl⟩
  · obtain ⟨pp, y, tt, hpp, rfl⟩ := hm
    have hb2 := (hb1.ext hE2).set 0 (.pointer (some ⟨pp, 0, none⟩))
    have hr2 := ((hr.ext hE1).ext hE2).set_other (a := ⟨w.heap.size, 0, none⟩) (by show w.heap.size ≠ r; omega) (.pointer (some ⟨pp, 0, none⟩))
    have c0 := hb2.cell 0
    simp only [Array.setIfInBounds] at c0
    have f0 := hr2.free 0
    have r0 := hr2.cell 0
    go_wp2
    go_end0
    refine ⟨rfl, _, (bel_call hE1 hE2).setCell (p := ⟨w.heap.size, 0, none⟩) (Nat.le_refl _) _, pp, y, tt, ?_, rfl⟩
    rcases Nat.lt_trichotomy pp w.heap.size with h | h | h
    · rw [← hE1.block _ h]; exact hpp
    · subst h
      have := hpp.symm.trans hb1
      simp at this
    · have hl := (Array.getElem?_eq_some_iff.1 hpp).1
      rw [← hw1] at hl
      simp at hl
      omega
set_option maxRecDepth 20000 in
/-- The first wrapper of its kind. -/
theorem out_R (L : List (TypeId × Value)) (v : Value) (a : Addr) (w : World) (hG : w.cell? ⟨16, 0, none⟩ = some (.iface 140 (.agg #[.pointer (some ⟨17, 36, none⟩)]))) (hL : Chain w L v (errAt a)) (o : Option (TypeId × Value)) (ho : (L.find? fun q => q.1 == 93) = o) :
    Calls Tryd.prog 44 #[v] w fun e w' => ∃ r, e = .returned r ∧ Below w.heap.size w w' ∧ Found w r o := by
  have hmf : ∀ (fn : Fn) (first cap : Array Value) (w : World), (Instr.makeFunc fn first cap).run Tryd.prog w = .ok (.func fn first cap) w := fun _ _ _ _ => rfl
  have hgl : 16 < w.heap.size := by
    rcases Nat.lt_or_ge 16 w.heap.size with h | h
    · exact h
    · simp [World.cell?, Array.getElem?_eq_none h] at hG
  have hE : Ext w ((w.alloc (.cells #[v] 36)).alloc (.cells #[.pointer none] 93)) := by go_grown
  have b0 := (Blk.new w #[v] 36).alloc (.cells #[.pointer none] 93)
  have b1 := Blk.new (w.alloc (.cells #[v] 36)) #[.pointer none] 93
  have e1 : (w.alloc (.cells #[v] 36)).heap.size = w.heap.size + 1 := by simp
  rw [e1] at b1
  have hG1 : ((w.alloc (.cells #[v] 36)).alloc (.cells #[.pointer none] 93)).cell? ⟨16, 0, none⟩ = some (.iface 140 (.agg #[.pointer (some ⟨17, 36, none⟩)])) := by rw [hE.cell (p := ⟨16, 0, none⟩) hgl]; exact hG
  have hin := out_in_R L v a w.heap.size (w.heap.size + 1) _ hG1 (hL.ext hE) b0 b1 o ho
  have hg := grd_of 58 _ _ _ (out_enter_R _ _) hin
  obtain ⟨T, x, rfl⟩ := Chain.iface hL
  go_enter Tryd.func44, Tryd.ntmps44
  go_wp2_with fail
  refine hg.mono ?_
  rintro e w9 ⟨rfl, w2, hE2, hm⟩
  have hbel := bel_call hE hE2
  rcases o with _ | q
  · obtain rfl := hm
    have c0 := (b1.ext hE2).cell 0
    go_wp2
    go_ret
    exact ⟨_, rfl, hbel, rfl⟩
  · obtain ⟨pp, y, tt, hpp, rfl⟩ := hm
    have c0 := ((b1.ext hE2).set 0 (.pointer (some ⟨pp, 0, none⟩))).cell 0
    simp only [Array.setIfInBounds] at c0
    go_wp2
    go_ret
    refine ⟨_, rfl, hbel.setCell (p := ⟨w.heap.size + 1, 0, none⟩) (Nat.le_succ _) _, pp, y, tt, rfl, ?_⟩
    rcases Nat.lt_trichotomy pp w.heap.size with h | h | h
    · rw [← hE.block _ h]; exact hpp
    · subst h
      have := hpp.symm.trans b0
      simp at this
    · have hl := (Array.getElem?_eq_some_iff.1 hpp).1
      simp at hl
      obtain rfl : pp = w.heap.size + 1 := by omega
      have := hpp.symm.trans b1
      simp at this
theorem out_enter_S (caps : Array Value) (w : World) : (callFunc 59 caps).run Tryd.prog w = .ok (.enter 59 caps) w := by kernel_rfl
set_option maxRecDepth 20000 in
theorem out_in_S (L : List (TypeId × Value)) (v : Value) (a : Addr) (p r : Nat) (w : World) (hG : w.cell? ⟨16, 0, none⟩ = some (.iface 140 (.agg #[.pointer (some ⟨17, 36, none⟩)]))) (hL : Chain w L v (errAt a))
    (hp : Blk w p #[v] 36) (hr : Blk w r #[.pointer none] 97) (o : Option (TypeId × Value)) (ho : (L.find? fun q => q.1 == 97) = o) :
    Calls Tryd.prog 59 #[.pointer (some ⟨p, 0, none⟩), .pointer (some ⟨r, 0, none⟩)] w fun e w' => e = .returned (.tuple #[]) ∧ AsEnd w w' ⟨r, 0, none⟩ o := by
  have hgl : 16 < w.heap.size := by
    rcases Nat.lt_or_ge 16 w.heap.size with h | h
    · exact h
    · simp [World.cell?, Array.getElem?_eq_none h] at hG
  have hpl := hp.lt
  have hrl := hr.lt
  obtain ⟨w1, hw1⟩ : ∃ w1, w.alloc (.cells #[.pointer none] 97) = w1 := ⟨_, rfl⟩
  have hb1 : Blk w1 w.heap.size #[.pointer none] 97 := by rw [← hw1]; exact Blk.new w _ _
  have hE1 : Ext w w1 := by rw [← hw1]; go_grown
  have hp1 := (hp.ext hE1).cell 0
  have hG1 : w1.cell? ⟨16, 0, none⟩ = some (.iface 140 (.agg #[.pointer (some ⟨17, 36, none⟩)])) := by rw [hE1.cell (p := ⟨16, 0, none⟩) hgl]; exact hG
  have has := as_all_S L v a ⟨w.heap.size, 0, none⟩ (.pointer none) w1 hG1 (hL.ext hE1) (hb1.cell 0) (hb1.free 0) o ho
  go_enter Tryd.func59, Tryd.ntmps59
  go_wp2_with fail
  refine has.mono ?_
  rintro e w9 ⟨rfl, w2, hE2, hm⟩
  rcases o with _ | q
  · obtain rfl := hm
    go_wp2
    go_end0
    exact ⟨rfl, _, bel_call hE1 hE2, rfl⟩
  · obtain ⟨pp, y, tt, hpp, rfl⟩ := hm
    have hb2 := (hb1.ext hE2).set 0 (.pointer (some ⟨pp, 0, none⟩))
    have hr2 := ((hr.ext hE1).ext hE2).set_other (a := ⟨w.heap.size, 0, none⟩) (by show w.heap.size ≠ r; omega) (.pointer (some ⟨pp, 0, none⟩))
    have c0 := hb2.cell 0
    simp only [Array.setIfInBounds] at c0
    have f0 := hr2.free 0
    have r0 := hr2.cell 0
    go_wp2
    go_end0
    refine ⟨rfl, _, (bel_call hE1 hE2).setCell (p := ⟨w.heap.size, 0, none⟩) (Nat.le_refl _) _, pp, y, tt, ?_, rfl⟩
    rcases Nat.lt_trichotomy pp w.heap.size with h | h | h
    · rw [← hE1.block _ h]; exact hpp
    · subst h
      have := hpp.symm.trans hb1
      simp at this
    · have hl := (Array.getElem?_eq_some_iff.1 hpp).1
      rw [← hw1] at hl
      simp at hl
      omega
set_option maxRecDepth 20000 in
/-- The first wrapper of its kind. -/
theorem out_S (L : List (TypeId × Value)) (v : Value) (a : Addr) (w : World) (hG : w.cell? ⟨16, 0, none⟩ = some (.iface 140 (.agg #[.pointer (some ⟨17, 36, none⟩)]))) (hL : Chain w L v (errAt a)) (o : Option (TypeId × Value)) (ho : (L.find? fun q => q.1 == 97) = o) :
    Calls Tryd.prog 45 #[v] w fun e w' => ∃ r, e = .returned r ∧ Below w.heap.size w w' ∧ Found w r o := by
  have hmf : ∀ (fn : Fn) (first cap : Array Value) (w : World), (Instr.makeFunc fn first cap).run Tryd.prog w = .ok (.func fn first cap) w := fun _ _ _ _ => rfl
  have hgl : 16 < w.heap.size := by
    rcases Nat.lt_or_ge 16 w.heap.size with h | h
    · exact h
    · simp [World.cell?, Array.getElem?_eq_none h] at hG
  have hE : Ext w ((w.alloc (.cells #[v] 36)).alloc (.cells #[.pointer none] 97)) := by go_grown
  have b0 := (Blk.new w #[v] 36).alloc (.cells #[.pointer none] 97)
  have b1 := Blk.new (w.alloc (.cells #[v] 36)) #[.pointer none] 97
  have e1 : (w.alloc (.cells #[v] 36)).heap.size = w.heap.size + 1 := by simp
  rw [e1] at b1
  have hG1 : ((w.alloc (.cells #[v] 36)).alloc (.cells #[.pointer none] 97)).cell? ⟨16, 0, none⟩ = some (.iface 140 (.agg #[.pointer (some ⟨17, 36, none⟩)])) := by rw [hE.cell (p := ⟨16, 0, none⟩) hgl]; exact hG
  have hin := out_in_S L v a w.heap.size (w.heap.size + 1) _ hG1 (hL.ext hE) b0 b1 o ho
  have hg := grd_of 59 _ _ _ (out_enter_S _ _) hin
  obtain ⟨T, x, rfl⟩ := Chain.iface hL
  go_enter Tryd.func45, Tryd.ntmps45
  go_wp2_with fail
  refine hg.mono ?_
  rintro e w9 ⟨rfl, w2, hE2, hm⟩
  have hbel := bel_call hE hE2
  rcases o with _ | q
  · obtain rfl := hm
    have c0 := (b1.ext hE2).cell 0
    go_wp2
    go_ret
    exact ⟨_, rfl, hbel, rfl⟩
  · obtain ⟨pp, y, tt, hpp, rfl⟩ := hm
    have c0 := ((b1.ext hE2).set 0 (.pointer (some ⟨pp, 0, none⟩))).cell 0
    simp only [Array.setIfInBounds] at c0
    go_wp2
    go_ret
    refine ⟨_, rfl, hbel.setCell (p := ⟨w.heap.size + 1, 0, none⟩) (Nat.le_succ _) _, pp, y, tt, rfl, ?_⟩
    rcases Nat.lt_trichotomy pp w.heap.size with h | h | h
    · rw [← hE.block _ h]; exact hpp
    · subst h
      have := hpp.symm.trans b0
      simp at this
    · have hl := (Array.getElem?_eq_some_iff.1 hpp).1
      simp at hl
      obtain rfl : pp = w.heap.size + 1 := by omega
      have := hpp.symm.trans b1
      simp at this
end Go.Proofs.YtnnkomdkggepjaaDoor
