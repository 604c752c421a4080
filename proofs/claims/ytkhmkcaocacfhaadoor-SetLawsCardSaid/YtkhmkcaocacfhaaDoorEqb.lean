/- Two lists of bytes are held against each other. -/
import Derived.Test.YtkhmkcaocacfhaaDoorList
namespace Go.Proofs.YtkhmkcaocacfhaaDoor
open Go Go.RowKit
theorem take_nth (a b : List UInt8) (k : Nat) (ha : k < a.length) (hb : k < b.length) (h : a.take k = b.take k) (he : nth a k = nth b k) : a.take (k + 1) = b.take (k + 1) := by
  rw [List.take_succ_eq_append_getElem ha, List.take_succ_eq_append_getElem hb, h, ← nth_eq ha, ← nth_eq hb, he]
theorem nth_int {x y : UInt8} : ((x.toNat : Int) = (y.toNat : Int)) ↔ x = y := by
  constructor
  · intro h; exact UInt8.toNat_inj.1 (by omega)
  · rintro rfl; rfl
set_option maxHeartbeats 1000000 in
theorem eq_any (v u : Value) (a b : List UInt8) (w : World) (hv : Bytes w v a) (hu : Bytes w u b) :
    Calls Tryd.prog 60 #[v, u] w fun e w' => e = .returned (.bool (decide (a = b))) ∧ Below w.heap.size w w' := by
  obtain ⟨ca, pa, rfl, a1, a2, a3⟩ := id hv
  obtain ⟨cb, pb, rfl, b1, b2, b3⟩ := id hu
  have ha63 := a2.1
  have hb63 := b2.1
  clear a3 b3 a2 b2
  by_cases hlen : a.length = b.length
  · have hne : ((a.length : Int) != (b.length : Int)) = false := by simp; omega
    by_cases h0 : a.length = 0
    · have ea : a = [] := List.length_eq_zero_iff.1 h0
      have eb : b = [] := List.length_eq_zero_iff.1 (by omega)
      subst ea; subst eb
      go_enter Tryd.func60, Tryd.ntmps60
      go_wp2
      refine wp_loop_rounds 1 ?_
      rw [rounds_succ]
      go_wp2
      go_ret
      exact ⟨rfl, by (repeat' (first | (with_reducible exact Below.refl _ _) | (with_reducible assumption) | (with_reducible refine below_drewN ?_ _) | (with_reducible refine Below.alloc ?_ ?_ _) | (with_reducible refine Below.drew ?_) | (with_reducible refine Below.setCell ?_ ?_ _) | (with_reducible refine Below.trans ?_ (Below.mono (by with_reducible assumption) ?_)) | go_size))⟩
    · obtain ⟨_, ⟨ea, _⟩ | ⟨ba, oa, cpa, hva, _, _, _, hba, hca⟩⟩ := hv.open
      · subst ea; exact absurd rfl h0
      obtain ⟨_, ⟨eb, _⟩ | ⟨bb, ob, cpb, hvb, _, _, _, hbb, hcb⟩⟩ := hu.open
      · subst eb; exact absurd (by omega) h0
      simp only [Value.slice.injEq, true_and] at hva hvb
      obtain ⟨rfl, rfl⟩ := hva
      obtain ⟨rfl, rfl⟩ := hvb
      have HL := Lib.hid hlen
      have HA := Lib.hid hca
      have HB := Lib.hid hcb
      clear hlen hca hcb hv hu
      go_enter Tryd.func60, Tryd.ntmps60
      go_wp2
      go_loopw [5] (fun i wr => ∃ k : Nat, k ≤ a.length ∧ i = .int .i64 k ∧ a.take k = b.take k ∧ ∃ n, wr = w.drewN n) (fun i _ => a.length - (intOf i).toNat)
      case atStart => exact ⟨0, Nat.zero_le _, rfl, by simp, 0, rfl⟩
      case round =>
        obtain ⟨k, hk, rfl, ht, hwr⟩ := hrel
        have HW := Lib.hid hwr
        clear hwr
        have HT := Lib.hid ht
        clear ht
        by_cases hlt : k < a.length
        · have hlt2 : k < b.length := by rw [← HL.out]; exact hlt
          have g1 : wr.cell? ⟨ba, oa + k, none⟩ = some (ub (nth a k)) := by obtain ⟨n, rfl⟩ := HW.out; exact HA.out k hlt
          have g2 : wr.cell? ⟨bb, ob + k, none⟩ = some (ub (nth b k)) := by obtain ⟨n, rfl⟩ := HW.out; exact HB.out k hlt2
          by_cases he : nth a k = nth b k
          · have het : (((nth a k).toNat : Int) != ((nth b k).toNat : Int)) = false := by rw [he]; simp
            have HE := Lib.hid he
            clear he
            go_wp2_with fail
            refine D.wp_region_stab (fun _ => none) (by kernel_rfl) (by kernel_rfl) (fun _ _ h => by cases h) (fun hex => ?_)
            iterate 9
              (refine D.wpS_one (A := ?_) hex rfl rfl (by simp) ?_ ?_ ?_
               rotate_left 2
               · intro w' hC K hK
                 obtain ⟨nq, rfl⟩ := hC.1
                 go_wp2_with (fail)
                 refine hK _ ?_
                 first | exact D.Gr.refl _ _ | exact ⟨_, rfl⟩
               rotate_left 1
               · rfl
               clear hex; intro hex)
            refine D.wpS_nil fun _ hE => ?_
            obtain ⟨nq, rfl⟩ := hE.1
            clear hE hex
            go_wp2
            go_roundw
            case rel => exact ⟨k + 1, by omega, by go_num, take_nth a b k hlt hlt2 HT.out HE.out, by obtain ⟨n, rfl⟩ := HW.out; exact ⟨_, by rw [World.drewN_drewN]⟩⟩
            case measure => simp [intOf]; omega
          · have het : (((nth a k).toNat : Int) != ((nth b k).toNat : Int)) = true := by simp only [bne_iff_ne, ne_eq]; exact fun h => he (nth_int.1 h)
            have hab : decide (a = b) = false := by simp only [decide_eq_false_iff_not]; rintro rfl; exact he rfl
            have HAB := Lib.hid hab
            clear he hab
            go_wp2_with fail
            refine D.wp_region_stab (fun _ => none) (by kernel_rfl) (by kernel_rfl) (fun _ _ h => by cases h) (fun hex => ?_)
            iterate 9
              (refine D.wpS_one (A := ?_) hex rfl rfl (by simp) ?_ ?_ ?_
               rotate_left 2
               · intro w' hC K hK
                 obtain ⟨nq, rfl⟩ := hC.1
                 go_wp2_with (fail)
                 refine hK _ ?_
                 first | exact D.Gr.refl _ _ | exact ⟨_, rfl⟩
               rotate_left 1
               · rfl
               clear hex; intro hex)
            refine D.wpS_nil fun _ hE => ?_
            obtain ⟨nq, rfl⟩ := hE.1
            clear hE hex
            go_wp2
            go_ret
            obtain ⟨n, rfl⟩ := HW.out
            exact ⟨by rw [HAB.out]; rfl, by (repeat' (first | (with_reducible exact Below.refl _ _) | (with_reducible assumption) | (with_reducible refine below_drewN ?_ _) | (with_reducible refine Below.alloc ?_ ?_ _) | (with_reducible refine Below.drew ?_) | (with_reducible refine Below.setCell ?_ ?_ _) | (with_reducible refine Below.trans ?_ (Below.mono (by with_reducible assumption) ?_)) | go_size))⟩
        · obtain rfl : k = a.length := by omega
          have hab : a = b := by have h := HT.out; rw [List.take_length, HL.out, List.take_length] at h; exact h
          subst hab
          go_wp2
          go_ret
          obtain ⟨n, rfl⟩ := HW.out
          exact ⟨by simp, by (repeat' (first | (with_reducible exact Below.refl _ _) | (with_reducible assumption) | (with_reducible refine below_drewN ?_ _) | (with_reducible refine Below.alloc ?_ ?_ _) | (with_reducible refine Below.drew ?_) | (with_reducible refine Below.setCell ?_ ?_ _) | (with_reducible refine Below.trans ?_ (Below.mono (by with_reducible assumption) ?_)) | go_size))⟩
  · have hne : ((a.length : Int) != (b.length : Int)) = true := by simp; omega
    have hab : decide (a = b) = false := by simp only [decide_eq_false_iff_not]; rintro rfl; exact hlen rfl
    have HAB := Lib.hid hab
    clear hab hlen
    go_enter Tryd.func60, Tryd.ntmps60
    go_wp2
    go_ret
    exact ⟨by rw [HAB.out]; rfl, by (repeat' (first | (with_reducible exact Below.refl _ _) | (with_reducible assumption) | (with_reducible refine below_drewN ?_ _) | (with_reducible refine Below.alloc ?_ ?_ _) | (with_reducible refine Below.drew ?_) | (with_reducible refine Below.setCell ?_ ?_ _) | (with_reducible refine Below.trans ?_ (Below.mono (by with_reducible assumption) ?_)) | go_size))⟩
end Go.Proofs.YtkhmkcaocacfhaaDoor
