/- How long an error's words may become: short. -/
import Derived.Test.YtoagkgdjekbcmaaDoorMkd
namespace Go.Proofs.YtoagkgdjekbcmaaDoor
open Go Go.RowKit
def sumN (names : List ByteArray) (n : Int) : Int := names.foldl (fun n t => wrap64 (n + t.size)) n
def sumL (l : List WD) (n : Int) : Int := l.foldl (fun n d => sumN d.2.2 (wrap64 (n + 40))) n
def shortB (s : ByteArray) (l : List WD) : Bool := decide (sumL l s.size < 20000) && decide (l.length < 300)
theorem sumN_take (l : List ByteArray) (n : Int) (i : Nat) (h : i < l.length) : sumN (l.take (i + 1)) n = wrap64 (sumN (l.take i) n + (tx l i).size) := by
  unfold sumN
  rw [List.take_succ_eq_append_getElem h, List.foldl_append, tx_eq h]
  rfl
theorem sumL_take (l : List WD) (n : Int) (i : Nat) (h : i < l.length) : sumL (l.take (i + 1)) n = sumN (l.getD i wd0).2.2 (wrap64 (sumL (l.take i) n + 40)) := by
  unfold sumL
  rw [List.take_succ_eq_append_getElem h, List.foldl_append]
  simp only [List.foldl_cons, List.foldl_nil, List.getD_eq_getElem?_getD, List.getElem?_eq_getElem h, Option.getD_some]
set_option maxHeartbeats 1000000 in
set_option maxRecDepth 20000 in
theorem short_any (c : Int) (s : ByteArray) (x : Value) (l : List WD) (w : World) (hx : Wrs w x l) (q : Bool) (hq : shortB s l = q) :
    Calls Tryd.prog 5 #[.agg #[.int .i64 c, .string s, x]] w fun e w' => e = .returned (.bool q) ∧ Below w.heap.size w w' := by
  obtain ⟨xa, xc, rfl⟩ := hx.slice
  have hb : Ext w (w.alloc (.cells #[.int .i64 c, .string s, .slice xa l.length xc] 24)) := by go_grown
  have kB := Blk.new w #[.int .i64 c, .string s, .slice xa l.length xc] 24
  have hx1 := hx.ext hb
  go_enter Tryd.func5, Tryd.ntmps5
  go_wp2_with fail
  generalize hw1 : w.alloc (.cells #[.int .i64 c, .string s, .slice xa l.length xc] 24) = w1 at *
  obtain ⟨q0, q1, q2⟩ := And.intro (kB.cell 0) (And.intro (kB.cell 1) (kB.cell 2))
  have h63 : l.length ≤ 140737488355328 := hx.1
  go_loopw [3, 4, 5] (fun n i _ wr => ∃ k : Nat, k ≤ l.length ∧ i = .int .i64 k ∧ n = .int .i64 (sumL (l.take k) s.size) ∧ wr = w1) (fun _ i _ _ => l.length - (intOf i).toNat)
  case atStart => exact ⟨0, Nat.zero_le _, rfl, by simp [sumL], rfl⟩
  case round =>
    obtain ⟨k, hk, rfl, rfl, hwr⟩ := hrel
    have hwr2 := hwr.symm
    subst hwr2
    by_cases hlt : k < l.length
    · obtain ⟨_, ⟨_, e⟩ | ⟨ax, cx, hxe, hcx, hcx2, hel⟩⟩ := id hx1
      · subst e; exact absurd hlt (by simp)
      simp only [Value.slice.injEq, true_and] at hxe
      obtain ⟨rfl, rfl⟩ := hxe
      rcases hel with e | ⟨bx, ox, rfl, hbx, hel⟩
      · subst e; exact absurd hlt (by simp)
      obtain ⟨e0, e1, xi, e2, hti⟩ := hel k hlt
      have hst := sumL_take l s.size k hlt
      obtain ⟨⟨dk, dn, dl⟩, hd⟩ : ∃ d, l.getD k wd0 = d := ⟨_, rfl⟩
      rw [hd] at e0 e1 hti hst
      simp only at e0 e1 hti hst
      obtain ⟨S, hS⟩ : ∃ S, sumL (l.take k) s.size = S := ⟨_, rfl⟩
      rw [hS] at hst ⊢
      obtain ⟨ya, yc, rfl⟩ := hti.slice
      have hn63 := hti.1
      have HT := Lib.hid (And.intro hst (And.intro hti hel))
      clear hst hti hd hel hS hx1 hx
      go_wp2_with fail
      go_loopw [3, 5] (fun n j wr => ∃ m : Nat, m ≤ dl.length ∧ j = .int .i64 m ∧ n = .int .i64 (sumN (dl.take m) (wrap64 (S + 40))) ∧ wr = w1) (fun _ j _ => dl.length - (intOf j).toNat)
      case atStart => exact ⟨0, Nat.zero_le _, rfl, by simp [sumN], rfl⟩
      case round =>
        obtain ⟨m, hm, rfl, rfl, hwr⟩ := hrel
        have hwr2 := hwr.symm
        subst hwr2
        by_cases hlm : m < dl.length
        · obtain ⟨_, ⟨_, e⟩ | ⟨ay, cy, hye, hcy, hcy2, hely⟩⟩ := HT.out.2.1
          · rw [e] at hlm; exact absurd hlm (by simp)
          simp only [Value.slice.injEq, true_and] at hye
          obtain ⟨rfl, rfl⟩ := hye
          rcases hely with e | ⟨by_, oy, rfl, hby, hely⟩
          · rw [e] at hlm; exact absurd hlm (by simp)
          have hty := hely m hlm
          have hsm := sumN_take dl (wrap64 (S + 40)) m hlm
          obtain ⟨R, hR⟩ : ∃ R, sumN (dl.take m) (wrap64 (S + 40)) = R := ⟨_, rfl⟩
          rw [hR] at hsm ⊢
          obtain ⟨t, ht⟩ : ∃ t, tx dl m = t := ⟨_, rfl⟩
          rw [ht] at hsm hty
          have HS := Lib.hid hsm
          clear hsm hely hR ht
          go_wp2
          go_roundw
          case rel => exact ⟨m + 1, by omega, by go_num, by rw [HS.out], trivial⟩
          case measure => simp [intOf]; omega
        · obtain rfl : m = dl.length := by omega
          go_wp2_with fail
          go_roundw
          case rel => exact ⟨k + 1, by omega, by go_num, by rw [HT.out.1, List.take_length], trivial⟩
          case measure => simp [intOf]; omega
    · obtain rfl : k = l.length := by omega
      rw [List.take_length]
      unfold shortB at hq
      obtain ⟨S, hS⟩ : ∃ S, sumL l s.size = S := ⟨_, rfl⟩
      rw [hS] at hq ⊢
      clear hx hx1 hS
      by_cases hs1 : S < 20000
      · have hd1 : decide (S < 20000) = true := by simpa using hs1
        rw [hd1] at hq
        have hl3 : decide ((l.length : Int) < 300) = q := by rw [← hq, Bool.true_and]; exact decide_eq_decide.2 (by omega)
        by_cases hs2 : l.length < 300
        · have hl4 : (l.length : Int) < 300 := by omega
          have hqt : q = true := by rw [← hl3]; simpa using hl4
          subst hqt
          clear hq hl3
          go_wp2
          go_ret
          exact ⟨rfl, hb⟩
        · have hl4 : ¬ (l.length : Int) < 300 := by omega
          have hqt : q = false := by rw [← hl3]; simpa using hl4
          subst hqt
          clear hq hl3
          go_wp2
          go_ret
          exact ⟨rfl, hb⟩
      · have hd1 : decide (S < 20000) = false := by simpa using hs1
        rw [hd1] at hq
        have hqt : q = false := by rw [← hq]; rfl
        subst hqt
        clear hq
        go_wp2
        go_ret
        exact ⟨rfl, hb⟩
end Go.Proofs.YtoagkgdjekbcmaaDoor
