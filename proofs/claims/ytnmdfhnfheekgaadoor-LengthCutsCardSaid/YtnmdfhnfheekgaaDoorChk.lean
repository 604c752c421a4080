/- Which expressions are cores: expand.Check. -/
import Derived.Test.YtnmdfhnfheekgaaDoorFok
import Derived.Test.YtnmdfhnfheekgaaDoorSz
namespace Go.Proofs.YtnmdfhnfheekgaaDoor
open Go Go.RowKit
/- What is left of so many expressions behind one that may be a core's, so many around it. -/
mutual
def mb : Xp → Nat → Nat → Option Nat
  | .mk o p s t m n l, ar, left => if left = 0 ∨ ar = 4096 ∨ ¬ Fok (.mk o p s t m n l) then none else mbs l (ar + 1) (left - 1)
def mbs : List Xp → Nat → Nat → Option Nat
  | [], _, left => some left
  | x :: l, ar, left => match mb x ar left with
    | none => none
    | some k => mbs l ar k
end
theorem mb_eq (x : Xp) (ar left : Nat) : mb x ar left = if left = 0 ∨ ar = 4096 ∨ ¬ Fok x then none else mbs x.args (ar + 1) (left - 1) := by cases x; simp only [mb, Xp.args]
theorem mbs_drop {l : List Xp} {k : Nat} (h : k < l.length) (ar left : Nat) : mbs (l.drop k) ar left = match mb l[k] ar left with | none => none | some j => mbs (l.drop (k + 1)) ar j := by
  rw [List.drop_eq_getElem_cons h]; simp only [mbs]
mutual
theorem mb_le : ∀ (x : Xp) (ar left k : Nat), mb x ar left = some k → k < left
  | .mk o p s t m n l, ar, left, k, h => by
    simp only [mb] at h
    split at h
    · cases h
    · rename_i hn
      have := mbs_le l (ar + 1) (left - 1) k h
      omega
theorem mbs_le : ∀ (l : List Xp) (ar left k : Nat), mbs l ar left = some k → k ≤ left
  | [], ar, left, k, h => by simp only [mbs, Option.some.injEq] at h; omega
  | x :: l, ar, left, k, h => by
    simp only [mbs] at h
    split at h
    · cases h
    · rename_i j hj
      have := mb_le x ar left j hj
      have := mbs_le l ar j k h
      omega
end
/-- An expression that is a core. -/
def Chk (x : Xp) : Prop := (mb x 0 65536).isSome = true
instance (x : Xp) : Decidable (Chk x) := by unfold Chk; infer_instance
theorem chk_dec (x : Xp) : (mb x 0 65536).isSome = decide (Chk x) := by
  rw [Bool.eq_iff_iff, decide_eq_true_iff]
  exact Iff.rfl
/-- All stays but one block. -/
def But (b : Nat) (w w' : World) : Prop := w'.os = w.os ∧ w'.tape = w.tape ∧ w'.output = w.output ∧ w.heap.size ≤ w'.heap.size ∧ ∀ j, j < w.heap.size → j ≠ b → w'.heap[j]? = w.heap[j]?
theorem But.refl (b : Nat) (w : World) : But b w w := ⟨rfl, rfl, rfl, Nat.le_refl _, fun _ _ _ => rfl⟩
theorem But.trans {b : Nat} {w w1 w2 : World} (h : But b w w1) (k : But b w1 w2) : But b w w2 :=
  ⟨k.1.trans h.1, k.2.1.trans h.2.1, k.2.2.1.trans h.2.2.1, Nat.le_trans h.2.2.2.1 k.2.2.2.1, fun j hj hn => (k.2.2.2.2 j (Nat.lt_of_lt_of_le hj h.2.2.2.1) hn).trans (h.2.2.2.2 j hj hn)⟩
theorem But.of_ext {b : Nat} {w w1 : World} (h : Ext w w1) : But b w w1 := ⟨h.os, h.tape, h.output, h.size, fun j hj _ => h.block j hj⟩
theorem But.set {b : Nat} {i : Nat} (w : World) (v : Value) : But b w (w.setCell ⟨b, i, none⟩ v) :=
  ⟨rfl, rfl, rfl, by simp [World.setCell], fun j _ hn => Below.heap_setCell _ _ _ _ hn⟩
theorem But.blk {b c : Nat} {w w1 : World} {vs : Array Value} {t : TypeId} (h : But b w w1) (hb : Blk w c vs t) (hn : c ≠ b) : Blk w1 c vs t := by
  have := hb.lt
  unfold Blk at *
  rw [h.2.2.2.2 c this hn]; exact hb
theorem But.bel {b B : Nat} {w w1 : World} (h : But b w w1) (hB : B ≤ b) (hw : B ≤ w.heap.size) : Below B w w1 :=
  ⟨h.1, h.2.1, h.2.2.1, h.2.2.2.1, fun j hj => h.2.2.2.2 j (by omega) (by omega)⟩
set_option maxHeartbeats 4000000 in
set_option maxRecDepth 20000 in
theorem mayBe_any : ∀ (x : Xp) (ar : Nat) (ai : Int) (left : Nat) (a : Option Addr) (c lb fb : Nat) (w : World), ai = (ar : Int) → ar ≤ 4096 → left ≤ 65536 → lb < fb → Xat w lb a c x.args →
    Blk w lb #[.int .i64 (left : Int)] 3 → Blk w fb #[.func (.func 34) #[] #[.pointer (some ⟨lb, 0, none⟩), .pointer (some ⟨fb, 0, none⟩)]] 83 →
    Calls Tryd.prog 34 #[xv x a c, .int .i64 ai, .pointer (some ⟨lb, 0, none⟩), .pointer (some ⟨fb, 0, none⟩)] w fun e w' =>
      e = .returned (.bool (mb x ar left).isSome) ∧ But lb w w' ∧ ∃ k : Nat, k ≤ 65536 ∧ Blk w' lb #[.int .i64 (k : Int)] 3 ∧ (mb x ar left = none ∨ mb x ar left = some k) := by
  intro x
  induction x using Xp.ind with
  | h x ih =>
  intro ar ai left a c lb fb w hai har hle hlf hx hL hF
  subst hai
  have hf := fun w => fields_any x a c w hx.len
  have hlen := hx.len
  rw [mb_eq]
  have hE : Ext w (w.alloc (.cells (xbx x a c) 28)) := by go_grown
  have bx := Blk.new w (xbx x a c) 28
  by_cases h0 : left = 0
  · subst h0
    rw [if_pos (.inl rfl)]
    have HL := Lib.hid hL
    have l0 := (hL.ext hE).cell 0
    simp only [List.getElem?_toArray, List.getElem?_cons_zero] at l0
    clear hx hF ih hf
    go_enter Tryd.func34, Tryd.ntmps34
    go_wp2_with fail
    go_ret
    exact ⟨rfl, But.of_ext hE, 0, by omega, HL.out.ext hE, .inl trivial⟩
  have l0 := (hL.ext hE).cell 0
  simp only [List.getElem?_toArray, List.getElem?_cons_zero] at l0
  have e0 : ((left : Int) == 0) = false := by simpa using h0
  have e0b : decide ((left : Int) = 0) = false := by simpa using h0
  by_cases h1 : ar = 4096
  · subst h1
    rw [if_pos (.inr (.inl rfl))]
    have HL := Lib.hid hL
    clear hx hF ih hf
    go_enter Tryd.func34, Tryd.ntmps34
    go_wp2_with fail
    go_ret
    exact ⟨rfl, But.of_ext hE, left, hle, HL.out.ext hE, .inl trivial⟩
  have e1 : ((ar : Int) == 4096) = false := by simp only [beq_eq_false_iff_ne, ne_eq]; omega
  have e1b : decide ((ar : Int) = 4096) = false := by simp only [decide_eq_false_iff_not]; omega
  by_cases h2 : Fok x
  rotate_left
  · rw [if_pos (.inr (.inr h2))]
    have hq : decide (Fok x) = false := decide_eq_false h2
    rw [hq] at hf
    have HL := Lib.hid hL
    have HE := Lib.hid hE
    clear hx hF ih hL hE
    go_enter Tryd.func34, Tryd.ntmps34
    go_wp2_with fail
    refine (hf _).mono ?_
    rintro e w2 ⟨rfl, hx2⟩
    go_wp2_with fail
    go_ret
    exact ⟨rfl, But.of_ext (bel_call HE.out hx2), left, hle, (HL.out.ext HE.out).ext hx2, .inl trivial⟩
  rw [if_neg (by simp [h0, h1, h2])]
  have hq : decide (Fok x) = true := decide_eq_true h2
  rw [hq] at hf
  have HL := Lib.hid hL
  have HE := Lib.hid hE
  have HF := Lib.hid hF
  have HX := Lib.hid hx
  have HBX := Lib.hid bx
  have IH := Lib.hid ih
  have hlt := hL.lt
  clear hx hF ih hL hE bx
  go_enter Tryd.func34, Tryd.ntmps34
  go_wp2_with fail
  refine (hf _).mono ?_
  rintro e w2 ⟨rfl, hx2⟩
  have HL2 := Lib.hid ((HL.out.ext HE.out).ext hx2)
  have q0 := HL2.out.cell 0
  simp only [List.getElem?_toArray, List.getElem?_cons_zero] at q0
  have qf := HL2.out.free 0
  have hw2 := hx2.size
  have hne : w.heap.size ≠ lb := by omega
  have hs1 : (w.alloc (.cells (xbx x a c) 28)).heap.size = w.heap.size + 1 := by simp
  have hdec : ((left : Int) - 1) = ((left - 1 : Nat) : Int) := by omega
  have HL3 := Lib.hid (HL2.out.set 0 (.int .i64 ((left - 1 : Nat) : Int)))
  have HB3 := Lib.hid ((HBX.out.ext hx2).set_other (a := ⟨lb, 0, none⟩) (fun e => hne e.symm) (.int .i64 ((left - 1 : Nat) : Int)))
  have p9 := HB3.out.cell 9
  simp only [xbx, List.getElem?_toArray, List.getElem?_cons_succ, List.getElem?_cons_zero] at p9
  have HW := Lib.hid ((But.of_ext (b := lb) (bel_call HE.out hx2)).trans (But.set (b := lb) (i := 0) w2 (.int .i64 ((left - 1 : Nat) : Int))))
  have ib : (left : Int) ≤ 65536 := by omega
  have ib1 : (1 : Int) ≤ (left : Int) := by omega
  clear hx2
  go_wp2_with fail
  generalize hw3 : w2.setCell ⟨lb, 0, none⟩ (.int .i64 ((left - 1 : Nat) : Int)) = w3 at *
  have HL4 : Hid (Blk w3 lb #[.int .i64 ((left - 1 : Nat) : Int)] 3) := HL3
  clear hw3 HL3 HL2 q0 qf p9 HB3 hdec l0
  go_loopw [25] (fun i wr => ∃ k j : Nat, k ≤ x.args.length ∧ i = .int .i64 k ∧ j ≤ 65536 ∧ Hid (mbs (x.args.drop k) (ar + 1) j = mbs x.args (ar + 1) (left - 1)) ∧ Hid (Blk wr lb #[.int .i64 (j : Int)] 3) ∧ Hid (But lb w wr)) (fun i _ => x.args.length - (intOf i).toNat)
  case atStart => exact ⟨0, left - 1, Nat.zero_le _, rfl, by omega, Lib.hid (by simp), HL4, HW⟩
  case round =>
    obtain ⟨k, j, hk, rfl, hj, hm, hbl, hbt⟩ := hrel
    by_cases hkl : k < x.args.length
    · have k1 : decide ((k : Int) < (x.args.length : Int)) = true := by simp; omega
      have hxr := HX.out.blw (hbt.out.bel (Nat.le_refl lb) (by omega))
      obtain ⟨b, o, rfl, hbb, y, a', c', hy, hmem, hok, hya, c0, c1, c2, c3, c4, c5, c6, c7, c8, c9⟩ := hxr.cells hkl
      have hd := mbs_drop hkl (ar + 1) j
      rw [hy] at hd
      have hdl := hm.out.symm.trans hd
      have hEa : Ext wr (wr.alloc (.cells (xbx y a' c') 28)) := by go_grown
      have hF' := (hbt.out.blk HF.out (by omega)).ext hEa
      have f0 := hF'.cell 0
      simp only [List.getElem?_toArray, List.getElem?_cons_zero] at f0
      have hlw := hbl.out.lt
      have HC := Lib.hid (IH.out y hmem (ar + 1) ((ar : Int) + 1) j a' c' lb fb (wr.alloc (.cells (xbx y a' c') 28)) (by omega) (by omega) hj hlf (hya.blw (hEa.mono (by omega))) (hbl.out.ext hEa) hF')
      have HD := Lib.hid hdl
      have HEa := Lib.hid hEa
      have i0 : (0 : Int) ≤ (k : Int) := by omega
      have i1 : (k : Int) + 1 ≤ 9223372036854775807 := by have : maxLen ≤ 9223372036854775807 := by decide
                                                          omega
      have hen : ∀ (A : Array Value) (w : World), (callFunc 34 A).run Tryd.prog w = .ok (.enter 34 A) w := fun _ _ => by kernel_rfl
      clear hd hdl hxr hEa hF' hya hok hmem
      go_wp2_with fail
      refine HC.out.mono ?_
      rintro e w4 ⟨rfl, hbt4, j', hj', hbl4, hres⟩
      have hbt5 := Lib.hid ((hbt.out.trans (But.of_ext HEa.out)).trans hbt4)
      have hbl5 := Lib.hid hbl4
      clear hbt4 hbl4 HC
      rcases hres with hres | hres
      · have HD2 := HD.out
        rw [hres] at HD2
        rw [hres]
        have HD3 := Lib.hid HD2
        clear HD HD2 hres
        go_wp2_with fail
        go_ret
        exact ⟨by rw [HD3.out]; rfl, hbt5.out, j', hj', hbl5.out, .inl HD3.out⟩
      · have HD2 := HD.out
        rw [hres] at HD2
        rw [hres]
        have HD3 := Lib.hid HD2
        clear HD HD2 hres
        go_wp2_with fail
        go_roundw
        case rel => exact ⟨k + 1, j', by omega, by go_num, hj', Lib.hid HD3.out.symm, hbl5, hbt5⟩
        case measure => simp [intOf] <;> omega
    · have k1 : decide ((k : Int) < (x.args.length : Int)) = false := by simp; omega
      have hf : mbs (x.args.drop k) (ar + 1) j = some j := by rw [List.drop_eq_nil_of_le (by omega)]; simp only [mbs]
      have hF := Lib.hid (hm.out.symm.trans hf)
      clear hf
      go_wp2_with fail
      go_ret
      exact ⟨by rw [hF.out]; rfl, hbt.out, j, hj, hbl.out, .inr hF.out⟩
set_option maxHeartbeats 1000000 in
set_option maxRecDepth 20000 in
theorem check_any (x : Xp) (a : Option Addr) (c : Nat) (w : World) (hx : Xat w w.heap.size a c x.args) :
    Calls Tryd.prog 20 #[xv x a c] w fun e w' => e = .returned (.bool (decide (Chk x))) ∧ Ext w w' := by
  have hmf : ∀ (fn : Fn) (first cap : Array Value) (w : World), (Instr.makeFunc fn first cap).run Tryd.prog w = .ok (.func fn first cap) w := fun _ _ _ _ => rfl
  have hen : ∀ (A : Array Value) (w : World), (callFunc 34 A).run Tryd.prog w = .ok (.enter 34 A) w := fun _ _ => by kernel_rfl
  have hst : ∀ (a : Addr) (F : Fn) (x y : Array Value) (w : World), (store a (.func F x y)).run Tryd.prog w = stored Tryd.prog w a (.func F x y) .plain := fun a F x y w => run_store Tryd.prog w a _ .plain rfl
  have e1 : (w.alloc (.cells (xbx x a c) 28)).heap.size = w.heap.size + 1 := by simp
  have hb1 := Blk.new (w.alloc (.cells (xbx x a c) 28)) #[.int .i64 65536] 3
  rw [e1] at hb1
  have e2 : ((w.alloc (.cells (xbx x a c) 28)).alloc (.cells #[.int .i64 65536] 3)).heap.size = w.heap.size + 1 + 1 := by simp
  have hb2 := Blk.new ((w.alloc (.cells (xbx x a c) 28)).alloc (.cells #[.int .i64 65536] 3)) #[(.func (.func 34) #[] #[.pointer (some ⟨w.heap.size + 1, 0, none⟩), .pointer (some ⟨w.heap.size + 1 + 1, 0, none⟩)])] 83
  rw [e2] at hb2
  have hE : Ext w (((w.alloc (.cells (xbx x a c) 28)).alloc (.cells #[.int .i64 65536] 3)).alloc (.cells #[(.func (.func 34) #[] #[.pointer (some ⟨w.heap.size + 1, 0, none⟩), .pointer (some ⟨w.heap.size + 1 + 1, 0, none⟩)])] 83)) := by go_grown
  have HC := Lib.hid (mayBe_any x 0 0 65536 a c (w.heap.size + 1) (w.heap.size + 1 + 1) _ rfl (by omega) (by omega) (by omega) ((hx.blw hE).mono (Nat.le_succ _)) (hb1.alloc _) hb2)
  have HE := Lib.hid hE
  clear hx hb1 hb2 hE
  go_enter Tryd.func20, Tryd.ntmps20
  go_wp2_with fail
  refine HC.out.mono ?_
  rintro e w4 ⟨rfl, hbt, j, hj, _, _⟩
  have hE2 : Ext w w4 := Below.trans (B := w.heap.size) HE.out (hbt.bel (B := w.heap.size) (by omega) HE.out.size)
  have HQ : (mb x 0 65536).isSome = decide (Chk x) := chk_dec x
  rw [HQ]
  go_wp2_with fail
  go_ret
  exact ⟨rfl, hE2⟩
end Go.Proofs.YtnmdfhnfheekgaaDoor
