/- Stores into blocks of nine and of five cells. -/
import Derived.Test.YtnecafokkhhhhaaGreatDoorMC
import Derived.Test.YtnecafokkhhhhaaGreatDoorMJ
import Derived.Test.YtnecafokkhhhhaaGreatDoorRp3
namespace Go.Proofs.YtnecafokkhhhhaaGreatDoor
open Go Go.RowKit
theorem qdigit_1 (c : Nat) (h : 48 ≤ c ∧ c ≤ 57) (w : World) : Calls Tryz.prog 15 #[.int .u8 (c : Int)] w fun e w' => e = .returned (.bool true) ∧ w = w' := by
  have d1 : decide ((48 : Int) ≤ (c : Int)) = true := (by simp; omega); have d2 : decide ((c : Int) ≤ 57) = true := (by simp; omega)
  go_enter Tryz.func15, Tryz.ntmps15
  go_wp2
  go_ret
  exact ⟨rfl, rfl⟩
theorem qdigit_2 (c : Nat) (h : 58 ≤ c) (w : World) : Calls Tryz.prog 15 #[.int .u8 (c : Int)] w fun e w' => e = .returned (.bool false) ∧ w = w' := by
  have d1 : decide ((48 : Int) ≤ (c : Int)) = true := (by simp; omega); have d2 : decide ((c : Int) ≤ 57) = false := (by simp; omega)
  go_enter Tryz.func15, Tryz.ntmps15
  go_wp2
  go_ret
  exact ⟨rfl, rfl⟩
theorem qdigit_3 (c : Nat) (h : c < 48) (w : World) : Calls Tryz.prog 15 #[.int .u8 (c : Int)] w fun e w' => e = .returned (.bool false) ∧ w = w' := by
  have d1 : decide ((48 : Int) ≤ (c : Int)) = false := (by simp; omega)
  go_enter Tryz.func15, Tryz.ntmps15
  go_wp2
  go_ret
  exact ⟨rfl, rfl⟩
theorem qdigit_any (c : Nat) (b : Bool) (hb : dgt c = b) (w : World) : Calls Tryz.prog 15 #[.int .u8 (c : Int)] w fun e w' => e = .returned (.bool b) ∧ w = w' := by
  subst hb
  by_cases h1 : c < 48
  · rw [show dgt c = false by unfold dgt; simp; omega]; exact qdigit_3 c h1 w
  by_cases h2 : c ≤ 57
  · rw [show dgt c = true by unfold dgt; simp; omega]; exact qdigit_1 c ⟨by omega, h2⟩ w
  rw [show dgt c = false by unfold dgt; simp; omega]; exact qdigit_2 c (by omega) w
theorem qletter_1 (c : Nat) (h : 97 ≤ c ∧ c ≤ 122) (w : World) : Calls Tryz.prog 14 #[.int .u8 (c : Int)] w fun e w' => e = .returned (.bool true) ∧ w = w' := by
  have d1 : decide ((97 : Int) ≤ (c : Int)) = true := (by simp; omega); have d2 : decide ((c : Int) ≤ 122) = true := (by simp; omega)
  go_enter Tryz.func14, Tryz.ntmps14
  go_wp2
  go_ret
  exact ⟨rfl, rfl⟩
theorem qletter_2 (c : Nat) (h : 123 ≤ c) (w : World) : Calls Tryz.prog 14 #[.int .u8 (c : Int)] w fun e w' => e = .returned (.bool false) ∧ w = w' := by
  have d1 : decide ((97 : Int) ≤ (c : Int)) = true := (by simp; omega); have d2 : decide ((c : Int) ≤ 122) = false := (by simp; omega); have d3 : decide ((65 : Int) ≤ (c : Int)) = true := (by simp; omega); have d4 : decide ((c : Int) ≤ 90) = false := (by simp; omega); have d5 : ((c : Int) == 95) = false := (by simp; omega)
  go_enter Tryz.func14, Tryz.ntmps14
  go_wp2
  go_ret
  exact ⟨rfl, rfl⟩
theorem qletter_3 (c : Nat) (h : c = 95) (w : World) : Calls Tryz.prog 14 #[.int .u8 (c : Int)] w fun e w' => e = .returned (.bool true) ∧ w = w' := by
  have d1 : decide ((97 : Int) ≤ (c : Int)) = false := (by simp; omega); have d3 : decide ((65 : Int) ≤ (c : Int)) = true := (by simp; omega); have d4 : decide ((c : Int) ≤ 90) = false := (by simp; omega); have d5 : ((c : Int) == 95) = true := (by simp; omega)
  go_enter Tryz.func14, Tryz.ntmps14
  go_wp2
  go_ret
  exact ⟨rfl, rfl⟩
theorem qletter_4 (c : Nat) (h : 91 ≤ c ∧ c ≤ 96 ∧ c ≠ 95) (w : World) : Calls Tryz.prog 14 #[.int .u8 (c : Int)] w fun e w' => e = .returned (.bool false) ∧ w = w' := by
  have d1 : decide ((97 : Int) ≤ (c : Int)) = false := (by simp; omega); have d3 : decide ((65 : Int) ≤ (c : Int)) = true := (by simp; omega); have d4 : decide ((c : Int) ≤ 90) = false := (by simp; omega); have d5 : ((c : Int) == 95) = false := (by simp; omega)
  go_enter Tryz.func14, Tryz.ntmps14
  go_wp2
  go_ret
  exact ⟨rfl, rfl⟩
theorem qletter_5 (c : Nat) (h : 65 ≤ c ∧ c ≤ 90) (w : World) : Calls Tryz.prog 14 #[.int .u8 (c : Int)] w fun e w' => e = .returned (.bool true) ∧ w = w' := by
  have d1 : decide ((97 : Int) ≤ (c : Int)) = false := (by simp; omega); have d3 : decide ((65 : Int) ≤ (c : Int)) = true := (by simp; omega); have d4 : decide ((c : Int) ≤ 90) = true := (by simp; omega)
  go_enter Tryz.func14, Tryz.ntmps14
  go_wp2
  go_ret
  exact ⟨rfl, rfl⟩
theorem qletter_6 (c : Nat) (h : c < 65) (w : World) : Calls Tryz.prog 14 #[.int .u8 (c : Int)] w fun e w' => e = .returned (.bool false) ∧ w = w' := by
  have d1 : decide ((97 : Int) ≤ (c : Int)) = false := (by simp; omega); have d3 : decide ((65 : Int) ≤ (c : Int)) = false := (by simp; omega); have d5 : ((c : Int) == 95) = false := (by simp; omega)
  go_enter Tryz.func14, Tryz.ntmps14
  go_wp2
  go_ret
  exact ⟨rfl, rfl⟩
theorem qletter_any (c : Nat) (b : Bool) (hb : ltr c = b) (w : World) : Calls Tryz.prog 14 #[.int .u8 (c : Int)] w fun e w' => e = .returned (.bool b) ∧ w = w' := by
  subst hb
  by_cases h1 : c < 65
  · rw [show ltr c = false by unfold ltr; simp; omega]; exact qletter_6 c h1 w
  by_cases h2 : c ≤ 90
  · rw [show ltr c = true by unfold ltr; simp; omega]; exact qletter_5 c ⟨by omega, h2⟩ w
  by_cases h3 : c = 95
  · rw [show ltr c = true by unfold ltr; simp; omega]; exact qletter_3 c h3 w
  by_cases h4 : c ≤ 96
  · rw [show ltr c = false by unfold ltr; simp; omega]; exact qletter_4 c ⟨by omega, h4, h3⟩ w
  by_cases h5 : c ≤ 122
  · rw [show ltr c = true by unfold ltr; simp; omega]; exact qletter_1 c ⟨by omega, h5⟩ w
  rw [show ltr c = false by unfold ltr; simp; omega]; exact qletter_2 c (by omega) w
theorem rest_zero {T : ByteArray} {p : Nat} {C : UInt8} {t : List UInt8} (h : rest T p = C :: t) : (rest T 0)[p]? = some C := by
  have e : rest T p = (rest T 0).drop p := by have := rest_drop T 0 p; rw [Nat.zero_add] at this; exact this
  have : ((rest T 0).drop p)[0]? = some C := by rw [← e, h]; rfl
  rw [List.getElem?_drop, Nat.add_zero] at this
  exact this
set_option maxHeartbeats 1000000 in
set_option maxRecDepth 20000 in
theorem qnumber_any (T : ByteArray) (hT : ∀ C ∈ rest T 0, dgt C.toNat = true) (hs : T.size ≤ 65536) (N0 : Nat) (hN : num (rest T 0) = N0) (w : World) :
    Calls Tryz.prog 17 #[.string T] w fun e w' => e = .returned (.int .i64 (N0 : Int)) ∧ w = w' := by
  have HT := Lib.hid hT
  have HN := Lib.hid hN
  clear hT hN
  go_enter Tryz.func17, Tryz.ntmps17
  go_wp2_with fail
  go_loopw [3, 4] (fun z i wr => ∃ p : Nat, p ≤ T.size ∧ z = .int .i64 (num ((rest T 0).take p) : Int) ∧ i = .int .i64 p ∧ Hid (w = wr)) (fun _ i _ => T.size - (intOf i).toNat)
  case atStart => exact ⟨0, Nat.zero_le _, by simp [num], rfl, Lib.hid rfl⟩
  case round =>
    obtain ⟨p, hp, rfl, rfl, hW⟩ := hrel
    have eW := hW.out
    subst eW
    clear hW
    have hNl := num_le (rest T 0) p
    by_cases hps : p < T.size
    · have d1 : decide ((p : Int) < (T.size : Int)) = true := by simp; omega
      have d1n : decide (p < T.size) = true := by simp; omega
      obtain ⟨C, hC⟩ := lx_unc T p hps
      have hix := idx_at T p (p : Int) rfl C _ hC
      have hCg := rest_zero hC
      have hCd := HT.out C (List.mem_of_getElem? hCg)
      have hCr : 48 ≤ C.toNat ∧ C.toNat ≤ 57 := by unfold dgt at hCd; simpa using hCd
      have hst := num_step (rest T 0) p C hCg
      have HST := Lib.hid hst
      clear hst hC hCg hCd
      obtain ⟨N, hNN⟩ : ∃ N, num ((rest T 0).take p) = N := ⟨_, rfl⟩
      rw [hNN] at hNl HST ⊢
      obtain ⟨d, hd⟩ : ∃ d, C.toNat = d := ⟨_, rfl⟩
      rw [hd] at hCr HST hix
      clear hNN hd
      have hw : IntKind.u8.wrap ((d : Int) - 48) = ((d - 48 : Nat) : Int) := by rw [IntKind.wrap_u8]; omega
      by_cases hc : 1073741824 < 10 * N + (d - 48)
      · have d2 : decide ((1073741824 : Int) < 10 * (N : Int) + ((d - 48 : Nat) : Int)) = true := by simp; omega
        have HE := Lib.hid (show num ((rest T 0).take (p + 1)) = 1073741824 by rw [HST.out]; omega)
        clear HST
        go_wp2_with fail
        go_roundw
        case rel => exact ⟨p + 1, by omega, by rw [HE.out]; rfl, by go_num, Lib.hid trivial⟩
        case measure => simp [intOf]; omega
      · have d2 : decide ((1073741824 : Int) < 10 * (N : Int) + ((d - 48 : Nat) : Int)) = false := by simp; omega
        have HE := Lib.hid (show num ((rest T 0).take (p + 1)) = 10 * N + (d - 48) by rw [HST.out]; omega)
        clear HST
        go_wp2_with fail
        go_roundw
        case rel => exact ⟨p + 1, by omega, by rw [HE.out]; exact congrArg (Value.int .i64) (by omega), by go_num, Lib.hid trivial⟩
        case measure => simp [intOf]; omega
    · have d1 : decide ((p : Int) < (T.size : Int)) = false := by simp; omega
      have d1n : decide (p < T.size) = false := by simp; omega
      have hl := rest_len (show 0 ≤ T.size by omega)
      have HE := Lib.hid (show num ((rest T 0).take p) = N0 by rw [List.take_of_length_le (by omega)]; exact HN.out)
      rw [HE.out]
      clear hNl
      go_wp2_with fail
      go_ret
      exact ⟨rfl, rfl⟩
end Go.Proofs.YtnecafokkhhhhaaGreatDoor
namespace Go.Proofs.YtnecafokkhhhhaaGreatDoor
open Go Go.RowKit
theorem Blk.sto9 {w : World} {b : Nat} {t : TypeId} {x0 x1 x2 x3 x4 x5 x6 x7 x8 : Value} (h : Blk w b #[x0, x1, x2, x3, x4, x5, x6, x7, x8] t) (y0 y1 y2 y3 y4 y5 y6 y7 y8 : Value) : Blk (((((((((w.setCell ⟨b, 0, none⟩ (y0)).setCell ⟨b, 1, none⟩ (y1)).setCell ⟨b, 2, none⟩ (y2)).setCell ⟨b, 3, none⟩ (y3)).setCell ⟨b, 4, none⟩ (y4)).setCell ⟨b, 5, none⟩ (y5)).setCell ⟨b, 6, none⟩ (y6)).setCell ⟨b, 7, none⟩ (y7)).setCell ⟨b, 8, none⟩ (y8)) b #[y0, y1, y2, y3, y4, y5, y6, y7, y8] t := by
  have h0 : Blk (w.setCell ⟨b, 0, none⟩ (y0)) b #[y0, x1, x2, x3, x4, x5, x6, x7, x8] t := h.set 0 y0
  have h1 : Blk ((w.setCell ⟨b, 0, none⟩ (y0)).setCell ⟨b, 1, none⟩ (y1)) b #[y0, y1, x2, x3, x4, x5, x6, x7, x8] t := h0.set 1 y1
  have h2 : Blk (((w.setCell ⟨b, 0, none⟩ (y0)).setCell ⟨b, 1, none⟩ (y1)).setCell ⟨b, 2, none⟩ (y2)) b #[y0, y1, y2, x3, x4, x5, x6, x7, x8] t := h1.set 2 y2
  have h3 : Blk ((((w.setCell ⟨b, 0, none⟩ (y0)).setCell ⟨b, 1, none⟩ (y1)).setCell ⟨b, 2, none⟩ (y2)).setCell ⟨b, 3, none⟩ (y3)) b #[y0, y1, y2, y3, x4, x5, x6, x7, x8] t := h2.set 3 y3
  have h4 : Blk (((((w.setCell ⟨b, 0, none⟩ (y0)).setCell ⟨b, 1, none⟩ (y1)).setCell ⟨b, 2, none⟩ (y2)).setCell ⟨b, 3, none⟩ (y3)).setCell ⟨b, 4, none⟩ (y4)) b #[y0, y1, y2, y3, y4, x5, x6, x7, x8] t := h3.set 4 y4
  have h5 : Blk ((((((w.setCell ⟨b, 0, none⟩ (y0)).setCell ⟨b, 1, none⟩ (y1)).setCell ⟨b, 2, none⟩ (y2)).setCell ⟨b, 3, none⟩ (y3)).setCell ⟨b, 4, none⟩ (y4)).setCell ⟨b, 5, none⟩ (y5)) b #[y0, y1, y2, y3, y4, y5, x6, x7, x8] t := h4.set 5 y5
  have h6 : Blk (((((((w.setCell ⟨b, 0, none⟩ (y0)).setCell ⟨b, 1, none⟩ (y1)).setCell ⟨b, 2, none⟩ (y2)).setCell ⟨b, 3, none⟩ (y3)).setCell ⟨b, 4, none⟩ (y4)).setCell ⟨b, 5, none⟩ (y5)).setCell ⟨b, 6, none⟩ (y6)) b #[y0, y1, y2, y3, y4, y5, y6, x7, x8] t := h5.set 6 y6
  have h7 : Blk ((((((((w.setCell ⟨b, 0, none⟩ (y0)).setCell ⟨b, 1, none⟩ (y1)).setCell ⟨b, 2, none⟩ (y2)).setCell ⟨b, 3, none⟩ (y3)).setCell ⟨b, 4, none⟩ (y4)).setCell ⟨b, 5, none⟩ (y5)).setCell ⟨b, 6, none⟩ (y6)).setCell ⟨b, 7, none⟩ (y7)) b #[y0, y1, y2, y3, y4, y5, y6, y7, x8] t := h6.set 7 y7
  have h8 : Blk (((((((((w.setCell ⟨b, 0, none⟩ (y0)).setCell ⟨b, 1, none⟩ (y1)).setCell ⟨b, 2, none⟩ (y2)).setCell ⟨b, 3, none⟩ (y3)).setCell ⟨b, 4, none⟩ (y4)).setCell ⟨b, 5, none⟩ (y5)).setCell ⟨b, 6, none⟩ (y6)).setCell ⟨b, 7, none⟩ (y7)).setCell ⟨b, 8, none⟩ (y8)) b #[y0, y1, y2, y3, y4, y5, y6, y7, y8] t := h7.set 8 y8
  exact h8
theorem Blk.oth9 {w : World} {b c : Nat} {t : TypeId} {vs : Array Value} (h : Blk w c vs t) (hb : b ≠ c) (y0 y1 y2 y3 y4 y5 y6 y7 y8 : Value) : Blk (((((((((w.setCell ⟨b, 0, none⟩ (y0)).setCell ⟨b, 1, none⟩ (y1)).setCell ⟨b, 2, none⟩ (y2)).setCell ⟨b, 3, none⟩ (y3)).setCell ⟨b, 4, none⟩ (y4)).setCell ⟨b, 5, none⟩ (y5)).setCell ⟨b, 6, none⟩ (y6)).setCell ⟨b, 7, none⟩ (y7)).setCell ⟨b, 8, none⟩ (y8)) c vs t :=
  (((((((((h.set_other (a := ⟨b, 0, none⟩) hb y0).set_other (a := ⟨b, 1, none⟩) hb y1).set_other (a := ⟨b, 2, none⟩) hb y2).set_other (a := ⟨b, 3, none⟩) hb y3).set_other (a := ⟨b, 4, none⟩) hb y4).set_other (a := ⟨b, 5, none⟩) hb y5).set_other (a := ⟨b, 6, none⟩) hb y6).set_other (a := ⟨b, 7, none⟩) hb y7).set_other (a := ⟨b, 8, none⟩) hb y8)
theorem Blk.oth5 {w : World} {b c : Nat} {t : TypeId} {vs : Array Value} (h : Blk w c vs t) (hb : b ≠ c) (y0 y1 y2 y3 y4 : Value) : Blk (((((w.setCell ⟨b, 0, none⟩ (y0)).setCell ⟨b, 1, none⟩ (y1)).setCell ⟨b, 2, none⟩ (y2)).setCell ⟨b, 3, none⟩ (y3)).setCell ⟨b, 4, none⟩ (y4)) c vs t :=
  (((((h.set_other (a := ⟨b, 0, none⟩) hb y0).set_other (a := ⟨b, 1, none⟩) hb y1).set_other (a := ⟨b, 2, none⟩) hb y2).set_other (a := ⟨b, 3, none⟩) hb y3).set_other (a := ⟨b, 4, none⟩) hb y4)
end Go.Proofs.YtnecafokkhhhhaaGreatDoor
