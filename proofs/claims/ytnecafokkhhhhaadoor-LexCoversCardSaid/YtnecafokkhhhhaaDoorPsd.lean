/- LexCovers: passed. -/
import Derived.Test.YtnecafokkhhhhaaDoorCv
namespace Go.Proofs.YtnecafokkhhhhaaDoor
open Go Go.RowKit
theorem ix_of (s : ByteArray) (j : Nat) (C : UInt8) (l : List UInt8) (h : rest s j = C :: l) : ∀ w, (Instr.index 9 (.string s) (.int .i64 (j : Int))).run Tryd.prog w = .ok (.int .u8 (C.toNat : Int)) w := by
  intro w
  have hlt : j < s.size := by
    have h5 := congrArg List.length h
    unfold rest at h5
    rw [List.length_drop, Array.length_toList] at h5
    simp at h5
    have : s.data.size = s.size := rfl
    omega
  have hget : s[j] = C := by
    unfold rest at h
    rw [List.drop_eq_getElem_cons (by simpa using hlt)] at h
    have h6 := (List.cons.inj h).1
    rw [Array.getElem_toList] at h6
    exact h6
  rw [run_index_string (h := by kernel_rfl), dif_pos ⟨by omega, by omega⟩]
  simp [hget]
theorem ne_of_nat {a b : Nat} (h : a ≠ b) : ((a : Int) == (b : Int)) = false := by simp; omega
set_option maxHeartbeats 2000000 in
set_option maxRecDepth 20000 in
theorem passed_any (s : ByteArray) (hs : s.size ≤ 6000) (hp : psd (rest s 0) = true) (w : World) :
    Calls Tryd.prog 8 #[.string s] w fun e w' => e = .returned (.bool true) ∧ w = w' := by
  have HP := Lib.hid hp
  clear hp
  go_enter Tryd.func8, Tryd.ntmps8
  go_wp2_with fail
  go_loopw [3] (fun i wr => ∃ k : Nat, k ≤ s.size ∧ i = .int .i64 k ∧ Hid (psd (rest s k) = true) ∧ Hid (w = wr)) (fun i _ => s.size - (intOf i).toNat)
  case atStart => exact ⟨0, Nat.zero_le _, rfl, HP, Lib.hid rfl⟩
  case round =>
    obtain ⟨k, hk, rfl, hP, hW⟩ := hrel
    have eW := hW.out
    subst eW
    clear hW
    by_cases hks : k < s.size
    · have d1 : decide ((k : Int) < (s.size : Int)) = true := by simp; omega
      have d1n : decide (k < s.size) = true := by simp; omega
      obtain ⟨C, hC⟩ := lx_unc s k hks
      have hix := ix_of s k C _ hC
      have hpk := hP.out
      rw [hC, psd] at hpk
      by_cases h35 : C.toNat = 35
      · rw [if_pos h35] at hpk
        have c35 : ((C.toNat : Int) == 35) = true := by simp; omega
        have HR := Lib.hid (show (rest s k).all (fun d => rmk d.toNat) = true by
          rw [hC, List.all_cons, hpk, h35]; rfl)
        clear hpk hC h35
        go_wp2_with fail
        clear hix d1 d1n c35
        go_loopw [3] (fun i wr2 => ∃ j : Nat, j ≤ s.size ∧ i = .int .i64 j ∧ Hid ((rest s j).all (fun d => rmk d.toNat) = true) ∧ Hid (w = wr2)) (fun i _ => s.size - (intOf i).toNat)
        case atStart => exact ⟨k, hk, rfl, HR, Lib.hid rfl⟩
        case round =>
          clear HR
          obtain ⟨j, hj, rfl, hA, hW⟩ := hrel
          have eW := hW.out
          subst eW
          clear hW
          by_cases hjs : j < s.size
          · have d1 : decide ((j : Int) < (s.size : Int)) = true := by simp; omega
            have d1n : decide (j < s.size) = true := by simp; omega
            obtain ⟨D, hD⟩ := lx_unc s j hjs
            have hix := ix_of s j D _ hD
            have ha := hA.out
            rw [hD, List.all_cons] at ha
            simp only [Bool.and_eq_true] at ha
            have hd : ((D.toNat : Int) != 10) = true := by
              have := ha.1
              unfold rmk at this
              simp at this ⊢
              omega
            have HA := Lib.hid ha.2
            clear ha hD hA
            go_wp2_with fail
            go_roundw
            case rel => exact ⟨j + 1, by omega, by go_num, HA, Lib.hid trivial⟩
            case measure => simp [intOf]; omega
          · have d1 : decide ((j : Int) < (s.size : Int)) = false := by simp; omega
            have d1n : decide (j < s.size) = false := by simp; omega
            go_wp2_with fail
            go_ret
            exact ⟨rfl, rfl⟩
      · rw [if_neg h35] at hpk
        simp only [Bool.and_eq_true] at hpk
        have c35 : ((C.toNat : Int) == 35) = false := by simp; omega
        have hb : C.toNat = 32 ∨ (C.toNat ≠ 32 ∧ C.toNat = 9) ∨ (C.toNat ≠ 32 ∧ C.toNat ≠ 9 ∧ C.toNat = 13) := by
          have := hpk.1
          unfold blnk at this
          simp at this
          omega
        have HR := Lib.hid hpk.2
        clear hpk hC h35 hP
        rcases hb with h | ⟨h0, h⟩ | ⟨h0, h1, h⟩
        · have e1 : ((C.toNat : Int) != 32) = false := by simp; omega
          go_wp2_with fail
          go_roundw
          case rel => exact ⟨k + 1, by omega, by go_num, HR, Lib.hid trivial⟩
          case measure => simp [intOf]; omega
        · have e1 : ((C.toNat : Int) != 32) = true := by simp; omega
          have e2 : ((C.toNat : Int) != 9) = false := by simp; omega
          go_wp2_with fail
          go_roundw
          case rel => exact ⟨k + 1, by omega, by go_num, HR, Lib.hid trivial⟩
          case measure => simp [intOf]; omega
        · have e1 : ((C.toNat : Int) != 32) = true := by simp; omega
          have e2 : ((C.toNat : Int) != 9) = true := by simp; omega
          have e3 : ((C.toNat : Int) != 13) = false := by simp; omega
          go_wp2_with fail
          go_roundw
          case rel => exact ⟨k + 1, by omega, by go_num, HR, Lib.hid trivial⟩
          case measure => simp [intOf]; omega
    · have d1 : decide ((k : Int) < (s.size : Int)) = false := by simp; omega
      have d1n : decide (k < s.size) = false := by simp; omega
      go_wp2_with fail
      go_ret
      exact ⟨rfl, rfl⟩
end Go.Proofs.YtnecafokkhhhhaaDoor
