/- Lists of spans held against each other; lists that are lent, and written over. -/
import Derived.Test.YtkhmkcaocacfhaaDoorRef4
import Derived.Laws.StructEq
namespace Go.Proofs.YtkhmkcaocacfhaaDoor
open Go Go.RowKit
theorem span_part (x y : Int) (w : World) : ∀ i, i < 2 → (part 5 #[.int .u8 x, .int .u8 y] i).run Tryd.prog w = .ok (#[Value.int .u8 x, .int .u8 y].getD i undef) w
  | 0, _ => by kernel_rfl
  | 1, _ => by kernel_rfl
  | n + 2, h => by omega
theorem span_equal (x y u v : Int) (w : World) : (Op.equalIn 10000 39 (.agg #[.int .u8 x, .int .u8 y]) (.agg #[.int .u8 u, .int .u8 v])).run Tryd.prog w = .ok (x == u && y == v) w := by
  have hu : Tryd.prog.underlying 5 = some (.int .u8) := by kernel_rfl
  have hp : Tryd.prog.stoodInHeld 39 = false := by kernel_rfl
  have hf := Tryd.underlying39
  rw [run_equalIn_struct w 9999 _ _ _ (by unfold Program.fieldsOf; rw [hf]) hp]
  unfold Program.fieldsOf
  rw [hf]
  simp [Op.eqFields, span_part, run_equalIn_int _ _ _ _ _ _ _ hu]
  by_cases h1 : x = u <;> by_cases h2 : y = v <;> simp [h1, h2]
theorem span_eq (p q : UInt8 × UInt8) (r : Bool) (h : decide (p = q) = r) : ∀ w, (Op.equalIn 10000 39 (.agg #[ub p.1, ub p.2]) (.agg #[ub q.1, ub q.2])).run Tryd.prog w = .ok r w := fun w => by
  rw [span_equal, ← h]
  congr 1
  obtain ⟨p1, p2⟩ := p
  obtain ⟨q1, q2⟩ := q
  rw [Bool.eq_iff_iff]
  simp only [Bool.and_eq_true, beq_iff_eq, decide_eq_true_eq, Prod.mk.injEq, nth_int]
theorem take_sp (a b : List (UInt8 × UInt8)) (k : Nat) (ha : k < a.length) (hb : k < b.length) (h : a.take k = b.take k) (he : (slo a k, shi a k) = (slo b k, shi b k)) : a.take (k + 1) = b.take (k + 1) := by
  have e1 : a[k] = (slo a k, shi a k) := by simp [slo, shi, List.getD_eq_getElem?_getD, ha]
  have e2 : b[k] = (slo b k, shi b k) := by simp [slo, shi, List.getD_eq_getElem?_getD, hb]
  rw [List.take_succ_eq_append_getElem ha, List.take_succ_eq_append_getElem hb, h, e1, e2, he]
set_option maxHeartbeats 1000000 in
theorem eqspans_any (v u : Value) (a b : List (UInt8 × UInt8)) (w : World) (hv : Spans w v a) (hu : Spans w u b) :
    Calls Tryd.prog 20 #[v, u] w fun e w' => e = .returned (.bool (decide (a = b))) ∧ Below w.heap.size w w' := by
  obtain ⟨ca, pa, rfl, a1, a2, a3⟩ := id hv
  obtain ⟨cb, pb, rfl, b1, b2, b3⟩ := id hu
  have ha63 := a2.1
  have hb63 := b2.1
  clear a3 b3 a2 b2
  by_cases hlen : a.length = b.length
  · have hne : ((a.length : Int) != (b.length : Int)) = false := by simp; omega
    by_cases h0 : a.length = 0
    · have ea : a = [] := List.length_eq_zero_iff.1 h0
      have eb : b = [] := List.length_eq_zero_iff.1 (by omega)
      subst ea; subst eb
      go_enter Tryd.func20, Tryd.ntmps20
      go_wp2
      refine wp_loop_rounds 1 ?_
      rw [rounds_succ]
      go_wp2
      go_ret
      exact ⟨rfl, by (repeat' (first | (with_reducible exact Below.refl _ _) | (with_reducible assumption) | (with_reducible refine below_drewN ?_ _) | (with_reducible refine Below.alloc ?_ ?_ _) | (with_reducible refine Below.drew ?_) | (with_reducible refine Below.setCell ?_ ?_ _) | (with_reducible refine Below.trans ?_ (Below.mono (by with_reducible assumption) ?_)) | go_size))⟩
    · obtain ⟨_, ⟨ea, _⟩ | ⟨ba, oa, cpa, hva, _, _, _, hba, hca⟩⟩ := hv.open
      · subst ea; exact absurd rfl h0
      obtain ⟨_, ⟨eb, _⟩ | ⟨bb, ob, cpb, hvb, _, _, _, hbb, hcb⟩⟩ := hu.open
      · subst eb; exact absurd (by omega) h0
      simp only [Value.slice.injEq, true_and] at hva hvb
      obtain ⟨rfl, rfl⟩ := hva
      obtain ⟨rfl, rfl⟩ := hvb
      have HL := Lib.hid hlen
      have HA := Lib.hid hca
      have HB := Lib.hid hcb
      clear hlen hca hcb hv hu
      go_enter Tryd.func20, Tryd.ntmps20
      go_wp2
      go_loopw [5] (fun i wr => ∃ k : Nat, k ≤ a.length ∧ i = .int .i64 k ∧ a.take k = b.take k ∧ ∃ n, wr = w.drewN n) (fun i _ => a.length - (intOf i).toNat)
      case atStart => exact ⟨0, Nat.zero_le _, rfl, by simp, 0, rfl⟩
      case round =>
        obtain ⟨k, hk, rfl, ht, hwr⟩ := hrel
        have HW := Lib.hid hwr
        clear hwr
        have HT := Lib.hid ht
        clear ht
        by_cases hlt : k < a.length
        · have hlt2 : k < b.length := by rw [← HL.out]; exact hlt
          have g1 : wr.cell? ⟨ba, oa + k * 2, none⟩ = some (ub (slo a k)) := by obtain ⟨n, rfl⟩ := HW.out; exact (HA.out k hlt).1
          have g2 : wr.cell? ⟨ba, oa + k * 2 + 1, none⟩ = some (ub (shi a k)) := by obtain ⟨n, rfl⟩ := HW.out; exact (HA.out k hlt).2
          have g3 : wr.cell? ⟨bb, ob + k * 2, none⟩ = some (ub (slo b k)) := by obtain ⟨n, rfl⟩ := HW.out; exact (HB.out k hlt2).1
          have g4 : wr.cell? ⟨bb, ob + k * 2 + 1, none⟩ = some (ub (shi b k)) := by obtain ⟨n, rfl⟩ := HW.out; exact (HB.out k hlt2).2
          have hts := take_sp a b k hlt hlt2 HT.out
          by_cases he : (slo a k, shi a k) = (slo b k, shi b k)
          · have heq := span_eq _ _ true (decide_eq_true he)
            simp only at heq
            have HE := Lib.hid (hts he)
            clear he hts
            go_wp2_with fail
            refine D.wp_region_stab (fun _ => none) (by kernel_rfl) (by kernel_rfl) (fun _ _ h => by cases h) (fun hex => ?_)
            iterate 9
              (refine D.wpS_one (A := ?_) hex rfl rfl (by simp) ?_ ?_ ?_
               rotate_left 2
               · intro w' hC K hK
                 obtain ⟨nq, rfl⟩ := hC.1
                 go_wp2_with (fail)
                 refine hK _ ?_
                 first | exact D.Gr.refl _ _ | exact ⟨_, rfl⟩
               rotate_left 1
               · rfl
               clear hex; intro hex)
            refine D.wpS_nil fun _ hE => ?_
            obtain ⟨nq, rfl⟩ := hE.1
            clear hE hex
            go_wp2
            go_roundw
            case rel => exact ⟨k + 1, by omega, by go_num, HE.out, by obtain ⟨n, rfl⟩ := HW.out; exact ⟨_, by rw [World.drewN_drewN]⟩⟩
            case measure => simp [intOf]; omega
          · have heq := span_eq _ _ false (decide_eq_false he)
            simp only at heq
            have hab : decide (a = b) = false := by simp only [decide_eq_false_iff_not]; rintro rfl; exact he rfl
            have HAB := Lib.hid hab
            clear he hab hts
            go_wp2_with fail
            refine D.wp_region_stab (fun _ => none) (by kernel_rfl) (by kernel_rfl) (fun _ _ h => by cases h) (fun hex => ?_)
            iterate 9
              (refine D.wpS_one (A := ?_) hex rfl rfl (by simp) ?_ ?_ ?_
               rotate_left 2
               · intro w' hC K hK
                 obtain ⟨nq, rfl⟩ := hC.1
                 go_wp2_with (fail)
                 refine hK _ ?_
                 first | exact D.Gr.refl _ _ | exact ⟨_, rfl⟩
               rotate_left 1
               · rfl
               clear hex; intro hex)
            refine D.wpS_nil fun _ hE => ?_
            obtain ⟨nq, rfl⟩ := hE.1
            clear hE hex
            go_wp2
            go_ret
            obtain ⟨n, rfl⟩ := HW.out
            exact ⟨by rw [HAB.out]; rfl, by (repeat' (first | (with_reducible exact Below.refl _ _) | (with_reducible assumption) | (with_reducible refine below_drewN ?_ _) | (with_reducible refine Below.alloc ?_ ?_ _) | (with_reducible refine Below.drew ?_) | (with_reducible refine Below.setCell ?_ ?_ _) | (with_reducible refine Below.trans ?_ (Below.mono (by with_reducible assumption) ?_)) | go_size))⟩
        · obtain rfl : k = a.length := by omega
          have hab : a = b := by have h := HT.out; rw [List.take_length, HL.out, List.take_length] at h; exact h
          subst hab
          go_wp2
          go_ret
          obtain ⟨n, rfl⟩ := HW.out
          exact ⟨by simp, by (repeat' (first | (with_reducible exact Below.refl _ _) | (with_reducible assumption) | (with_reducible refine below_drewN ?_ _) | (with_reducible refine Below.alloc ?_ ?_ _) | (with_reducible refine Below.drew ?_) | (with_reducible refine Below.setCell ?_ ?_ _) | (with_reducible refine Below.trans ?_ (Below.mono (by with_reducible assumption) ?_)) | go_size))⟩
  · have hne : ((a.length : Int) != (b.length : Int)) = true := by simp; omega
    have hab : decide (a = b) = false := by simp only [decide_eq_false_iff_not]; rintro rfl; exact hlen rfl
    have HAB := Lib.hid hab
    clear hab hlen
    go_enter Tryd.func20, Tryd.ntmps20
    go_wp2
    go_ret
    exact ⟨by rw [HAB.out]; rfl, by (repeat' (first | (with_reducible exact Below.refl _ _) | (with_reducible assumption) | (with_reducible refine below_drewN ?_ _) | (with_reducible refine Below.alloc ?_ ?_ _) | (with_reducible refine Below.drew ?_) | (with_reducible refine Below.setCell ?_ ?_ _) | (with_reducible refine Below.trans ?_ (Below.mono (by with_reducible assumption) ?_)) | go_size))⟩
end Go.Proofs.YtkhmkcaocacfhaaDoor
