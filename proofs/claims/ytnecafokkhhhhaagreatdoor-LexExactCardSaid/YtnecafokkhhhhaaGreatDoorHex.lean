/- Two digits of base 16: strconv.ParseUint of two bytes. -/
import Derived.Test.YtnecafokkhhhhaaGreatDoorRdr
import Derived.Lib.ConvBytes
import Derived.Lib.AtoiErrMem
namespace Go.Proofs.YtnecafokkhhhhaaGreatDoor
open Go Go.RowKit
/-- A digit of base 16. -/
def hx (c : Nat) : Option Nat := if 48 ≤ c ∧ c ≤ 57 then some (c - 48) else if 97 ≤ c ∧ c ≤ 102 then some (c - 87) else if 65 ≤ c ∧ c ≤ 70 then some (c - 55) else none
theorem lower_at : ∀ k : Fin 256, bits .or .u8 (k.val : Int) 32 = if (k.val / 32) % 2 = 1 then (k.val : Int) else (k.val : Int) + 32 := by decide +kernel
/-- What a byte is to ParseUint. -/
inductive Kind (c : Nat) : Prop where
  | digit (h1 : 48 ≤ c) (h2 : c ≤ 57) (hv : hx c = some (c - 48))
  | word (g : Nat) (h0 : 57 < c) (hn : c ≠ 95) (h1 : 97 ≤ g) (h2 : g ≤ 102) (hl : bits .or .u8 (c : Int) 32 = g) (hv : hx c = some (g - 87))
  | letter (h1 : 57 < c) (h2 : 103 ≤ (bits .or .u8 (c : Int) 32)) (h3 : (bits .or .u8 (c : Int) 32) ≤ 122) (hv : hx c = none)
  | low (h1 : c < 48) (h2 : (bits .or .u8 (c : Int) 32) < 97) (hv : hx c = none)
  | mid (h1 : 57 < c) (h2 : (bits .or .u8 (c : Int) 32) < 97) (hv : hx c = none)
  | high (h1 : 57 < c) (h2 : 122 < (bits .or .u8 (c : Int) 32)) (hv : hx c = none)
theorem kind_of (c : Nat) (h : c < 256) : Kind c := by
  have hl := lower_at ⟨c, h⟩
  simp only at hl
  by_cases h1 : 48 ≤ c ∧ c ≤ 57
  · exact .digit h1.1 h1.2 (by unfold hx; rw [if_pos h1])
  by_cases h2 : 97 ≤ c ∧ c ≤ 102
  · exact .word c (by omega) (by omega) h2.1 h2.2 (by rw [hl, if_pos (by omega)]) (by unfold hx; rw [if_neg h1, if_pos h2])
  by_cases h3 : 65 ≤ c ∧ c ≤ 70
  · exact .word (c + 32) (by omega) (by omega) (by omega) (by omega) (by rw [hl, if_neg (by omega)]; rfl) (by unfold hx; rw [if_neg h1, if_neg h2, if_pos h3]; congr 1)
  have hv : hx c = none := by unfold hx; rw [if_neg h1, if_neg h2, if_neg h3]
  by_cases h4 : 103 ≤ (bits .or .u8 (c : Int) 32) ∧ (bits .or .u8 (c : Int) 32) ≤ 122
  · refine .letter ?_ h4.1 h4.2 hv
    rw [hl] at h4
    split at h4 <;> omega
  by_cases h5 : c < 48
  · refine .low h5 ?_ hv
    rw [hl]
    split <;> omega
  by_cases h6 : (bits .or .u8 (c : Int) 32) < 97
  · exact .mid (by omega) h6 hv
  · refine .high (by omega) ?_ hv
    rw [hl] at h4 h6 ⊢
    split at h4 <;> rename_i h7
    · rw [if_pos h7] at h6 ⊢; omega
    · rw [if_neg h7] at h6 ⊢; omega
/-- What ParseUint tells of two bytes. -/
def puOf : Option Nat → Option Nat → Value
  | some m, some n => .tuple #[.int .u64 ((16 * m + n : Nat) : Int), .nilIface]
  | _, _ => .tuple #[.int .u64 0, .iface 180 (.int .i64 2)]
def puRes (a b : UInt8) : Value := puOf (hx a.toNat) (hx b.toNat)
set_option maxHeartbeats 20000000 in
set_option maxRecDepth 20000 in
theorem pu_digit (a b : UInt8) (w : World) (h1 : 48 ≤ a.toNat) (h2 : a.toNat ≤ 57) (hv : hx a.toNat = some (a.toNat - 48)) (hb : Kind b.toNat) (R : Value) (hR : puRes a b = R) :
    Calls Tryz.prog 124 #[.string ⟨#[a, b]⟩, .int .i64 16, .int .i64 8] w fun e w' => Ext w w' ∧ e = .returned R := by
  have HP := Lib.hid hR
  unfold puRes at HP
  clear hR
  have a0 : (0 : Int) ≤ a.toNat := by omega
  have a1 : (a.toNat : Int) ≤ 255 := by have := a.toNat_lt; omega
  have b0 : (0 : Int) ≤ b.toNat := by omega
  have b1 : (b.toNat : Int) ≤ 255 := by have := b.toNat_lt; omega
  have hcv := Lib.run_convert_string_bytes (P := Tryz.prog) w 9 58 5 ⟨#[a, b]⟩ Tryz.underlying9 Tryz.underlying58 Tryz.underlying5
  have c0 := Lib.bytesWorld_cell w 5 ⟨#[a, b]⟩ 0 (by show 0 < 2; omega)
  have c1 := Lib.bytesWorld_cell w 5 ⟨#[a, b]⟩ 1 (by show 1 < 2; omega)
  have hE := Lib.bytesWorld_below w 5 ⟨#[a, b]⟩
  generalize Lib.bytesWorld w 5 ⟨#[a, b]⟩ = w1 at hcv c0 c1 hE
  generalize grownCap w (ByteArray.size ⟨#[a, b]⟩) 0 5 = cap at hcv
  replace c0 : w1.cell? ⟨w.heap.size, 0, none⟩ = some (.int .u8 (a.toNat : Int)) := c0
  replace c1 : w1.cell? ⟨w.heap.size, 1, none⟩ = some (.int .u8 (b.toNat : Int)) := c1
  replace hcv : (convert 9 58 (.string ⟨#[a, b]⟩)).run Tryz.prog w = .ok (.slice (some ⟨w.heap.size, 0, none⟩) 2 cap) w1 := hcv
  have hlw := fun (c : Int) (w : World) => Tryz.internal_strconv_lower c w
  go_enter Tryz.func124, Tryz.ntmps124
  go_wp2_with (first | (go_at_call 129; refine (hlw _ _).mono ?_; rintro e w2 ⟨rfl, rfl⟩) | fail)
  refine wp_loop_rounds 3 ?_
  rw [rounds_succ]
  go_wp2_with (first | (go_at_call 129; refine (hlw _ _).mono ?_; rintro e w2 ⟨rfl, rfl⟩) | fail)
  rw [rounds_succ]
  cases hb with
  | digit k1 k2 hu =>
    go_wp2_with (first | (go_at_call 129; refine (hlw _ _).mono ?_; rintro e w2 ⟨rfl, rfl⟩) | fail)
    rw [rounds_succ]
    go_wp2_with (first | (go_at_call 129; refine (hlw _ _).mono ?_; rintro e w2 ⟨rfl, rfl⟩) | fail)
    go_ret2
    refine ⟨hE, ?_⟩
    have hp := HP.out
    rw [hv, hu] at hp
    rw [← hp]
    refine congrArg (fun n : Int => Ending.returned (.tuple #[.int .u64 n, .nilIface])) ?_
    omega
  | word g2 k0 kn k1 k2 kl hu =>
    go_wp2_with (first | (go_at_call 129; refine (hlw _ _).mono ?_; rintro e w2 ⟨rfl, rfl⟩) | fail)
    rw [rounds_succ]
    go_wp2_with (first | (go_at_call 129; refine (hlw _ _).mono ?_; rintro e w2 ⟨rfl, rfl⟩) | fail)
    go_ret2
    refine ⟨hE, ?_⟩
    have hp := HP.out
    rw [hv, hu] at hp
    rw [← hp]
    refine congrArg (fun n : Int => Ending.returned (.tuple #[.int .u64 n, .nilIface])) ?_
    omega
  | letter k1 k2 k3 hu =>
    go_wp2_with (first | (go_at_call 129; refine (hlw _ _).mono ?_; rintro e w2 ⟨rfl, rfl⟩) | fail)
    all_goals
      go_ret2
      refine ⟨hE, ?_⟩
      have hp := HP.out
      rw [hv, hu] at hp
      rw [← hp]
      rfl
  | low k1 k2 hu =>
    go_wp2_with (first | (go_at_call 129; refine (hlw _ _).mono ?_; rintro e w2 ⟨rfl, rfl⟩) | fail)
    all_goals
      go_ret2
      refine ⟨hE, ?_⟩
      have hp := HP.out
      rw [hv, hu] at hp
      rw [← hp]
      rfl
  | mid k1 k2 hu =>
    go_wp2_with (first | (go_at_call 129; refine (hlw _ _).mono ?_; rintro e w2 ⟨rfl, rfl⟩) | fail)
    all_goals
      go_ret2
      refine ⟨hE, ?_⟩
      have hp := HP.out
      rw [hv, hu] at hp
      rw [← hp]
      rfl
  | high k1 k2 hu =>
    go_wp2_with (first | (go_at_call 129; refine (hlw _ _).mono ?_; rintro e w2 ⟨rfl, rfl⟩) | fail)
    all_goals
      go_ret2
      refine ⟨hE, ?_⟩
      have hp := HP.out
      rw [hv, hu] at hp
      rw [← hp]
      rfl
set_option maxHeartbeats 20000000 in
set_option maxRecDepth 20000 in
theorem pu_word (a b : UInt8) (w : World) (g : Nat) (h0 : 57 < a.toNat) (hn : a.toNat ≠ 95) (h1 : 97 ≤ g) (h2 : g ≤ 102) (hl : bits .or .u8 (a.toNat : Int) 32 = g) (hv : hx a.toNat = some (g - 87)) (hb : Kind b.toNat) (R : Value) (hR : puRes a b = R) :
    Calls Tryz.prog 124 #[.string ⟨#[a, b]⟩, .int .i64 16, .int .i64 8] w fun e w' => Ext w w' ∧ e = .returned R := by
  have HP := Lib.hid hR
  unfold puRes at HP
  clear hR
  have a0 : (0 : Int) ≤ a.toNat := by omega
  have a1 : (a.toNat : Int) ≤ 255 := by have := a.toNat_lt; omega
  have b0 : (0 : Int) ≤ b.toNat := by omega
  have b1 : (b.toNat : Int) ≤ 255 := by have := b.toNat_lt; omega
  have hcv := Lib.run_convert_string_bytes (P := Tryz.prog) w 9 58 5 ⟨#[a, b]⟩ Tryz.underlying9 Tryz.underlying58 Tryz.underlying5
  have c0 := Lib.bytesWorld_cell w 5 ⟨#[a, b]⟩ 0 (by show 0 < 2; omega)
  have c1 := Lib.bytesWorld_cell w 5 ⟨#[a, b]⟩ 1 (by show 1 < 2; omega)
  have hE := Lib.bytesWorld_below w 5 ⟨#[a, b]⟩
  generalize Lib.bytesWorld w 5 ⟨#[a, b]⟩ = w1 at hcv c0 c1 hE
  generalize grownCap w (ByteArray.size ⟨#[a, b]⟩) 0 5 = cap at hcv
  replace c0 : w1.cell? ⟨w.heap.size, 0, none⟩ = some (.int .u8 (a.toNat : Int)) := c0
  replace c1 : w1.cell? ⟨w.heap.size, 1, none⟩ = some (.int .u8 (b.toNat : Int)) := c1
  replace hcv : (convert 9 58 (.string ⟨#[a, b]⟩)).run Tryz.prog w = .ok (.slice (some ⟨w.heap.size, 0, none⟩) 2 cap) w1 := hcv
  have hlw := fun (c : Int) (w : World) => Tryz.internal_strconv_lower c w
  go_enter Tryz.func124, Tryz.ntmps124
  go_wp2_with (first | (go_at_call 129; refine (hlw _ _).mono ?_; rintro e w2 ⟨rfl, rfl⟩) | fail)
  refine wp_loop_rounds 3 ?_
  rw [rounds_succ]
  go_wp2_with (first | (go_at_call 129; refine (hlw _ _).mono ?_; rintro e w2 ⟨rfl, rfl⟩) | fail)
  rw [rounds_succ]
  cases hb with
  | digit k1 k2 hu =>
    go_wp2_with (first | (go_at_call 129; refine (hlw _ _).mono ?_; rintro e w2 ⟨rfl, rfl⟩) | fail)
    rw [rounds_succ]
    go_wp2_with (first | (go_at_call 129; refine (hlw _ _).mono ?_; rintro e w2 ⟨rfl, rfl⟩) | fail)
    go_ret2
    refine ⟨hE, ?_⟩
    have hp := HP.out
    rw [hv, hu] at hp
    rw [← hp]
    refine congrArg (fun n : Int => Ending.returned (.tuple #[.int .u64 n, .nilIface])) ?_
    omega
  | word g2 k0 kn k1 k2 kl hu =>
    go_wp2_with (first | (go_at_call 129; refine (hlw _ _).mono ?_; rintro e w2 ⟨rfl, rfl⟩) | fail)
    rw [rounds_succ]
    go_wp2_with (first | (go_at_call 129; refine (hlw _ _).mono ?_; rintro e w2 ⟨rfl, rfl⟩) | fail)
    go_ret2
    refine ⟨hE, ?_⟩
    have hp := HP.out
    rw [hv, hu] at hp
    rw [← hp]
    refine congrArg (fun n : Int => Ending.returned (.tuple #[.int .u64 n, .nilIface])) ?_
    omega
  | letter k1 k2 k3 hu =>
    go_wp2_with (first | (go_at_call 129; refine (hlw _ _).mono ?_; rintro e w2 ⟨rfl, rfl⟩) | fail)
    all_goals
      go_ret2
      refine ⟨hE, ?_⟩
      have hp := HP.out
      rw [hv, hu] at hp
      rw [← hp]
      rfl
  | low k1 k2 hu =>
    go_wp2_with (first | (go_at_call 129; refine (hlw _ _).mono ?_; rintro e w2 ⟨rfl, rfl⟩) | fail)
    all_goals
      go_ret2
      refine ⟨hE, ?_⟩
      have hp := HP.out
      rw [hv, hu] at hp
      rw [← hp]
      rfl
  | mid k1 k2 hu =>
    go_wp2_with (first | (go_at_call 129; refine (hlw _ _).mono ?_; rintro e w2 ⟨rfl, rfl⟩) | fail)
    all_goals
      go_ret2
      refine ⟨hE, ?_⟩
      have hp := HP.out
      rw [hv, hu] at hp
      rw [← hp]
      rfl
  | high k1 k2 hu =>
    go_wp2_with (first | (go_at_call 129; refine (hlw _ _).mono ?_; rintro e w2 ⟨rfl, rfl⟩) | fail)
    all_goals
      go_ret2
      refine ⟨hE, ?_⟩
      have hp := HP.out
      rw [hv, hu] at hp
      rw [← hp]
      rfl
set_option maxHeartbeats 20000000 in
set_option maxRecDepth 20000 in
theorem pu_letter (a b : UInt8) (w : World) (h1 : 57 < a.toNat) (h2 : 103 ≤ (bits .or .u8 (a.toNat : Int) 32)) (h3 : (bits .or .u8 (a.toNat : Int) 32) ≤ 122) (hv : hx a.toNat = none) (_hb : Kind b.toNat) (R : Value) (hR : puRes a b = R) :
    Calls Tryz.prog 124 #[.string ⟨#[a, b]⟩, .int .i64 16, .int .i64 8] w fun e w' => Ext w w' ∧ e = .returned R := by
  have HP := Lib.hid hR
  unfold puRes at HP
  clear hR
  have a0 : (0 : Int) ≤ a.toNat := by omega
  have a1 : (a.toNat : Int) ≤ 255 := by have := a.toNat_lt; omega
  have b0 : (0 : Int) ≤ b.toNat := by omega
  have b1 : (b.toNat : Int) ≤ 255 := by have := b.toNat_lt; omega
  have hcv := Lib.run_convert_string_bytes (P := Tryz.prog) w 9 58 5 ⟨#[a, b]⟩ Tryz.underlying9 Tryz.underlying58 Tryz.underlying5
  have c0 := Lib.bytesWorld_cell w 5 ⟨#[a, b]⟩ 0 (by show 0 < 2; omega)
  have c1 := Lib.bytesWorld_cell w 5 ⟨#[a, b]⟩ 1 (by show 1 < 2; omega)
  have hE := Lib.bytesWorld_below w 5 ⟨#[a, b]⟩
  generalize Lib.bytesWorld w 5 ⟨#[a, b]⟩ = w1 at hcv c0 c1 hE
  generalize grownCap w (ByteArray.size ⟨#[a, b]⟩) 0 5 = cap at hcv
  replace c0 : w1.cell? ⟨w.heap.size, 0, none⟩ = some (.int .u8 (a.toNat : Int)) := c0
  replace c1 : w1.cell? ⟨w.heap.size, 1, none⟩ = some (.int .u8 (b.toNat : Int)) := c1
  replace hcv : (convert 9 58 (.string ⟨#[a, b]⟩)).run Tryz.prog w = .ok (.slice (some ⟨w.heap.size, 0, none⟩) 2 cap) w1 := hcv
  have hlw := fun (c : Int) (w : World) => Tryz.internal_strconv_lower c w
  go_enter Tryz.func124, Tryz.ntmps124
  go_wp2_with (first | (go_at_call 129; refine (hlw _ _).mono ?_; rintro e w2 ⟨rfl, rfl⟩) | fail)
  refine wp_loop_rounds 3 ?_
  rw [rounds_succ]
  clear _hb
  go_wp2_with (first | (go_at_call 129; refine (hlw _ _).mono ?_; rintro e w2 ⟨rfl, rfl⟩) | fail)
  all_goals
    go_ret2
    refine ⟨hE, ?_⟩
    have hp := HP.out
    rw [hv] at hp
    rw [← hp]
    rfl
set_option maxHeartbeats 20000000 in
set_option maxRecDepth 20000 in
theorem pu_low (a b : UInt8) (w : World) (h1 : a.toNat < 48) (h2 : (bits .or .u8 (a.toNat : Int) 32) < 97) (hv : hx a.toNat = none) (_hb : Kind b.toNat) (R : Value) (hR : puRes a b = R) :
    Calls Tryz.prog 124 #[.string ⟨#[a, b]⟩, .int .i64 16, .int .i64 8] w fun e w' => Ext w w' ∧ e = .returned R := by
  have HP := Lib.hid hR
  unfold puRes at HP
  clear hR
  have a0 : (0 : Int) ≤ a.toNat := by omega
  have a1 : (a.toNat : Int) ≤ 255 := by have := a.toNat_lt; omega
  have b0 : (0 : Int) ≤ b.toNat := by omega
  have b1 : (b.toNat : Int) ≤ 255 := by have := b.toNat_lt; omega
  have hcv := Lib.run_convert_string_bytes (P := Tryz.prog) w 9 58 5 ⟨#[a, b]⟩ Tryz.underlying9 Tryz.underlying58 Tryz.underlying5
  have c0 := Lib.bytesWorld_cell w 5 ⟨#[a, b]⟩ 0 (by show 0 < 2; omega)
  have c1 := Lib.bytesWorld_cell w 5 ⟨#[a, b]⟩ 1 (by show 1 < 2; omega)
  have hE := Lib.bytesWorld_below w 5 ⟨#[a, b]⟩
  generalize Lib.bytesWorld w 5 ⟨#[a, b]⟩ = w1 at hcv c0 c1 hE
  generalize grownCap w (ByteArray.size ⟨#[a, b]⟩) 0 5 = cap at hcv
  replace c0 : w1.cell? ⟨w.heap.size, 0, none⟩ = some (.int .u8 (a.toNat : Int)) := c0
  replace c1 : w1.cell? ⟨w.heap.size, 1, none⟩ = some (.int .u8 (b.toNat : Int)) := c1
  replace hcv : (convert 9 58 (.string ⟨#[a, b]⟩)).run Tryz.prog w = .ok (.slice (some ⟨w.heap.size, 0, none⟩) 2 cap) w1 := hcv
  have hlw := fun (c : Int) (w : World) => Tryz.internal_strconv_lower c w
  go_enter Tryz.func124, Tryz.ntmps124
  go_wp2_with (first | (go_at_call 129; refine (hlw _ _).mono ?_; rintro e w2 ⟨rfl, rfl⟩) | fail)
  refine wp_loop_rounds 3 ?_
  rw [rounds_succ]
  clear _hb
  go_wp2_with (first | (go_at_call 129; refine (hlw _ _).mono ?_; rintro e w2 ⟨rfl, rfl⟩) | fail)
  all_goals
    go_ret2
    refine ⟨hE, ?_⟩
    have hp := HP.out
    rw [hv] at hp
    rw [← hp]
    rfl
set_option maxHeartbeats 20000000 in
set_option maxRecDepth 20000 in
theorem pu_mid (a b : UInt8) (w : World) (h1 : 57 < a.toNat) (h2 : (bits .or .u8 (a.toNat : Int) 32) < 97) (hv : hx a.toNat = none) (_hb : Kind b.toNat) (R : Value) (hR : puRes a b = R) :
    Calls Tryz.prog 124 #[.string ⟨#[a, b]⟩, .int .i64 16, .int .i64 8] w fun e w' => Ext w w' ∧ e = .returned R := by
  have HP := Lib.hid hR
  unfold puRes at HP
  clear hR
  have a0 : (0 : Int) ≤ a.toNat := by omega
  have a1 : (a.toNat : Int) ≤ 255 := by have := a.toNat_lt; omega
  have b0 : (0 : Int) ≤ b.toNat := by omega
  have b1 : (b.toNat : Int) ≤ 255 := by have := b.toNat_lt; omega
  have hcv := Lib.run_convert_string_bytes (P := Tryz.prog) w 9 58 5 ⟨#[a, b]⟩ Tryz.underlying9 Tryz.underlying58 Tryz.underlying5
  have c0 := Lib.bytesWorld_cell w 5 ⟨#[a, b]⟩ 0 (by show 0 < 2; omega)
  have c1 := Lib.bytesWorld_cell w 5 ⟨#[a, b]⟩ 1 (by show 1 < 2; omega)
  have hE := Lib.bytesWorld_below w 5 ⟨#[a, b]⟩
  generalize Lib.bytesWorld w 5 ⟨#[a, b]⟩ = w1 at hcv c0 c1 hE
  generalize grownCap w (ByteArray.size ⟨#[a, b]⟩) 0 5 = cap at hcv
  replace c0 : w1.cell? ⟨w.heap.size, 0, none⟩ = some (.int .u8 (a.toNat : Int)) := c0
  replace c1 : w1.cell? ⟨w.heap.size, 1, none⟩ = some (.int .u8 (b.toNat : Int)) := c1
  replace hcv : (convert 9 58 (.string ⟨#[a, b]⟩)).run Tryz.prog w = .ok (.slice (some ⟨w.heap.size, 0, none⟩) 2 cap) w1 := hcv
  have hlw := fun (c : Int) (w : World) => Tryz.internal_strconv_lower c w
  go_enter Tryz.func124, Tryz.ntmps124
  go_wp2_with (first | (go_at_call 129; refine (hlw _ _).mono ?_; rintro e w2 ⟨rfl, rfl⟩) | fail)
  refine wp_loop_rounds 3 ?_
  rw [rounds_succ]
  clear _hb
  go_wp2_with (first | (go_at_call 129; refine (hlw _ _).mono ?_; rintro e w2 ⟨rfl, rfl⟩) | fail)
  all_goals
    go_ret2
    refine ⟨hE, ?_⟩
    have hp := HP.out
    rw [hv] at hp
    rw [← hp]
    rfl
set_option maxHeartbeats 20000000 in
set_option maxRecDepth 20000 in
theorem pu_high (a b : UInt8) (w : World) (h1 : 57 < a.toNat) (h2 : 122 < (bits .or .u8 (a.toNat : Int) 32)) (hv : hx a.toNat = none) (_hb : Kind b.toNat) (R : Value) (hR : puRes a b = R) :
    Calls Tryz.prog 124 #[.string ⟨#[a, b]⟩, .int .i64 16, .int .i64 8] w fun e w' => Ext w w' ∧ e = .returned R := by
  have HP := Lib.hid hR
  unfold puRes at HP
  clear hR
  have a0 : (0 : Int) ≤ a.toNat := by omega
  have a1 : (a.toNat : Int) ≤ 255 := by have := a.toNat_lt; omega
  have b0 : (0 : Int) ≤ b.toNat := by omega
  have b1 : (b.toNat : Int) ≤ 255 := by have := b.toNat_lt; omega
  have hcv := Lib.run_convert_string_bytes (P := Tryz.prog) w 9 58 5 ⟨#[a, b]⟩ Tryz.underlying9 Tryz.underlying58 Tryz.underlying5
  have c0 := Lib.bytesWorld_cell w 5 ⟨#[a, b]⟩ 0 (by show 0 < 2; omega)
  have c1 := Lib.bytesWorld_cell w 5 ⟨#[a, b]⟩ 1 (by show 1 < 2; omega)
  have hE := Lib.bytesWorld_below w 5 ⟨#[a, b]⟩
  generalize Lib.bytesWorld w 5 ⟨#[a, b]⟩ = w1 at hcv c0 c1 hE
  generalize grownCap w (ByteArray.size ⟨#[a, b]⟩) 0 5 = cap at hcv
  replace c0 : w1.cell? ⟨w.heap.size, 0, none⟩ = some (.int .u8 (a.toNat : Int)) := c0
  replace c1 : w1.cell? ⟨w.heap.size, 1, none⟩ = some (.int .u8 (b.toNat : Int)) := c1
  replace hcv : (convert 9 58 (.string ⟨#[a, b]⟩)).run Tryz.prog w = .ok (.slice (some ⟨w.heap.size, 0, none⟩) 2 cap) w1 := hcv
  have hlw := fun (c : Int) (w : World) => Tryz.internal_strconv_lower c w
  go_enter Tryz.func124, Tryz.ntmps124
  go_wp2_with (first | (go_at_call 129; refine (hlw _ _).mono ?_; rintro e w2 ⟨rfl, rfl⟩) | fail)
  refine wp_loop_rounds 3 ?_
  rw [rounds_succ]
  clear _hb
  go_wp2_with (first | (go_at_call 129; refine (hlw _ _).mono ?_; rintro e w2 ⟨rfl, rfl⟩) | fail)
  all_goals
    go_ret2
    refine ⟨hE, ?_⟩
    have hp := HP.out
    rw [hv] at hp
    rw [← hp]
    rfl
theorem pu_two (a b : UInt8) (w : World) (R : Value) (hR : puRes a b = R) :
    Calls Tryz.prog 124 #[.string ⟨#[a, b]⟩, .int .i64 16, .int .i64 8] w fun e w' => Ext w w' ∧ e = .returned R := by
  have hb := kind_of b.toNat b.toNat_lt
  cases kind_of a.toNat a.toNat_lt with
  | digit h1 h2 hv => exact pu_digit a b w h1 h2 hv hb R hR
  | word g h0 hn h1 h2 hl hv => exact pu_word a b w g h0 hn h1 h2 hl hv hb R hR
  | letter h1 h2 h3 hv => exact pu_letter a b w h1 h2 h3 hv hb R hR
  | low h1 h2 hv => exact pu_low a b w h1 h2 hv hb R hR
  | mid h1 h2 hv => exact pu_mid a b w h1 h2 hv hb R hR
  | high h1 h2 hv => exact pu_high a b w h1 h2 hv hb R hR
end Go.Proofs.YtnecafokkhhhhaaGreatDoor
