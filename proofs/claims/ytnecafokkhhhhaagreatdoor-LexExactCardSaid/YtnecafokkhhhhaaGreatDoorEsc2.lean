/- What an escape means, whole: unescape. -/
import Derived.Test.YtnecafokkhhhhaaGreatDoorEsc
import Derived.Test.YtnecafokkhhhhaaGreatDoorErv
import Derived.Test.YtnecafokkhhhhaaGreatDoorHex
namespace Go.Proofs.YtnecafokkhhhhaaGreatDoor
open Go Go.RowKit
set_option maxHeartbeats 1000000 in
theorem pub_ok (a b : UInt8) (m n : Nat) (w : World) (hm : hx a.toNat = some m) (hn : hx b.toNat = some n) :
    Calls Tryz.prog 121 #[.string ⟨#[a, b]⟩, .int .i64 16, .int .i64 8] w fun e w' => e = .returned (.tuple #[.int .u64 ((16 * m + n : Nat) : Int), .nilIface]) ∧ Ext w w' := by
  have hp := pu_two a b w _ rfl
  unfold puRes puOf at hp
  rw [hm, hn] at hp
  simp only at hp
  go_enter Tryz.func121, Tryz.ntmps121
  go_wp2_with fail
  refine hp.mono ?_
  rintro e w1 ⟨hE, rfl⟩
  go_wp2
  go_ret2
  exact ⟨rfl, hE⟩
set_option maxHeartbeats 1000000 in
theorem pub_no (a b : UInt8) (w : World) (h : hx a.toNat = none ∨ hx b.toNat = none) (hv : ErrV w) :
    Calls Tryz.prog 121 #[.string ⟨#[a, b]⟩, .int .i64 16, .int .i64 8] w fun e w' => ∃ T y, e = .returned (.tuple #[.int .u64 0, .iface T y]) ∧ Ext w w' := by
  have hp := pu_two a b w _ rfl
  have hr : puRes a b = .tuple #[.int .u64 0, .iface 180 (.int .i64 2)] := by
    unfold puRes
    rcases h with h | h <;> rw [h]
    · rfl
    · cases hx a.toNat <;> rfl
  rw [hr] at hp
  go_enter Tryz.func121, Tryz.ntmps121
  go_wp2_with fail
  refine hp.mono ?_
  rintro e w1 ⟨hE, rfl⟩
  obtain ⟨te, pe, hv1⟩ := hv.ext hE
  have hte := Tryz.strconv_toError_syntax ⟨#[80, 97, 114, 115, 101, 85, 105, 110, 116]⟩ ⟨#[a, b]⟩ 16 8 (.iface te pe) w1 (by show 2 ≤ 281474976710656; omega) hv1 (.inr ⟨te, pe, rfl⟩)
  clear hp hv
  go_wp2_with fail
  refine hte.mono ?_
  rintro e w2 ⟨N, rfl, _, _, hE2⟩
  replace hE := bel_call hE hE2
  go_wp2
  go_ret2
  exact ⟨_, _, rfl, hE⟩
/-- The byte of the two digits behind an x, and how many bytes mean it. -/
def hexOf : List UInt8 → Nat × Nat
  | _ :: x :: y :: _ => match hx x.toNat, hx y.toNat with
    | some m, some n => (16 * m + n, 3)
    | _, _ => (0, 0)
  | _ => (0, 0)
/-- What an escape means: the byte, and how many bytes behind the backslash mean it. -/
def unq : List UInt8 → Nat × Nat
  | [] => (0, 0)
  | c :: l => if c = 114 then (13, 1) else if c = 102 then (12, 1) else if c = 118 then (11, 1) else if c = 110 then (10, 1) else if c = 116 then (9, 1) else
    if c = 98 then (8, 1) else if c = 97 then (7, 1) else if c = 48 then (0, 1) else if c = 101 then (27, 1) else if c = 120 then hexOf (c :: l) else
    if sPunct.getLsbD c.toNat = true then (c.toNat, 1) else (0, 0)
theorem hexOf_spec (l : List UInt8) : (hexOf l).2 ≤ l.length ∧ (hexOf l).1 < 256 := by
  unfold hexOf
  split
  · split
    · rename_i m n h1 h2
      have hm : m < 16 := by unfold hx at h1; split at h1 <;> (try split at h1) <;> (try split at h1) <;> (try cases h1) <;> omega
      have hn : n < 16 := by unfold hx at h2; split at h2 <;> (try split at h2) <;> (try split at h2) <;> (try cases h2) <;> omega
      simp only [List.length_cons]
      omega
    · simp
  · simp
theorem unq_spec (l : List UInt8) : (unq l).2 ≤ l.length ∧ (unq l).1 < 256 := by
  cases l with
  | nil => exact ⟨Nat.le_refl _, by show 0 < 256; omega⟩
  | cons c l =>
    have h := hexOf_spec (c :: l)
    have hc := c.toNat_lt
    have e : unq (c :: l) = if c = 114 then (13, 1) else if c = 102 then (12, 1) else if c = 118 then (11, 1) else if c = 110 then (10, 1) else if c = 116 then (9, 1) else
      if c = 98 then (8, 1) else if c = 97 then (7, 1) else if c = 48 then (0, 1) else if c = 101 then (27, 1) else if c = 120 then hexOf (c :: l) else
      if sPunct.getLsbD c.toNat = true then (c.toNat, 1) else (0, 0) := rfl
    rw [e]
    clear e
    repeat' split
    all_goals first | exact h | (simp only [List.length_cons]; omega)
theorem unq_len (l : List UInt8) : (unq l).2 ≤ l.length := (unq_spec l).1
theorem unq_byte (l : List UInt8) : (unq l).1 < 256 := (unq_spec l).2
theorem hx_lt {c m : Nat} (h : hx c = some m) : m < 16 := by
  unfold hx at h
  split at h
  · cases h; omega
  · split at h
    · cases h; omega
    · split at h
      · cases h; omega
      · cases h
theorem extract_two (c x y : UInt8) (l : List UInt8) : (ByteArray.mk (c :: x :: y :: l).toArray).extract 1 3 = ⟨#[x, y]⟩ := by
  apply ByteArray.ext
  rw [ByteArray.data_extract]
  apply Array.ext'
  simp [List.extract_eq_take_drop]
set_option maxHeartbeats 1000000 in
set_option maxRecDepth 20000 in
theorem hex_any (t : ByteArray) (w : World) (hv : ErrV w) (ht : t.size ≤ 4294967000) :
    Calls Tryz.prog 108 #[.string t] w fun e w' => e = .returned (.tuple #[.int .u8 (hexOf t.data.toList).1, .int .i64 (hexOf t.data.toList).2]) ∧ Ext w w' := by
  obtain ⟨⟨l⟩⟩ := t
  match l, ht with
  | [], _ | [_], _ | [_, _], _ =>
    go_enter Tryz.func108, Tryz.ntmps108
    go_wp2
    go_ret2
    exact ⟨rfl, Below.refl _ _⟩
  | c :: x :: y :: l, ht =>
    have hsz : ¬ ((ByteArray.mk (c :: x :: y :: l).toArray).size : Int) < 3 := by
      show ¬ (((c :: x :: y :: l).length : Nat) : Int) < 3
      simp only [List.length_cons]
      omega
    have hex := extract_two c x y l
    have hget : (ByteArray.mk (c :: x :: y :: l).toArray).data.toList = c :: x :: y :: l := rfl
    rw [hget]
    obtain ⟨S, hS⟩ : ∃ S, ByteArray.mk (c :: x :: y :: l).toArray = S := ⟨_, rfl⟩
    rw [hS] at hsz hex ht ⊢
    have h3 : 3 ≤ S.size := by omega
    clear hS hget
    cases h1 : hx x.toNat with
    | none =>
      have hp := fun w hv => pub_no x y w (.inl h1) hv
      have e : hexOf (c :: x :: y :: l) = (0, 0) := by show (match hx x.toNat, hx y.toNat with | some m, some n => (16 * m + n, 3) | _, _ => (0, 0)) = _; rw [h1]
      rw [e]
      clear h1 e
      go_enter Tryz.func108, Tryz.ntmps108
      go_wp2_with fail
      refine (hp w hv).mono ?_
      rintro e w1 ⟨T, z, rfl, hE⟩
      go_wp2
      go_ret2
      exact ⟨rfl, hE⟩
    | some m =>
      cases h2 : hx y.toNat with
      | none =>
        have hp := fun w hv => pub_no x y w (.inr h2) hv
        have e : hexOf (c :: x :: y :: l) = (0, 0) := by show (match hx x.toNat, hx y.toNat with | some m, some n => (16 * m + n, 3) | _, _ => (0, 0)) = _; rw [h1, h2]
        rw [e]
        clear h1 h2 e
        go_enter Tryz.func108, Tryz.ntmps108
        go_wp2_with fail
        refine (hp w hv).mono ?_
        rintro e w1 ⟨T, z, rfl, hE⟩
        go_wp2
        go_ret2
        exact ⟨rfl, hE⟩
      | some n =>
        have hp := fun w => pub_ok x y m n w h1 h2
        have e : hexOf (c :: x :: y :: l) = (16 * m + n, 3) := by show (match hx x.toNat, hx y.toNat with | some m, some n => (16 * m + n, 3) | _, _ => (0, 0)) = _; rw [h1, h2]
        rw [e]
        have hm := hx_lt h1
        have hn := hx_lt h2
        have hk : IntKind.u8.wrap ((16 * m + n : Nat) : Int) = ((16 * m + n : Nat) : Int) := by rw [IntKind.wrap_u8]; omega
        generalize 16 * m + n = q at hk hp ⊢
        clear h1 h2 e hm hn
        go_enter Tryz.func108, Tryz.ntmps108
        go_wp2_with fail
        refine (hp w).mono ?_
        rintro e w1 ⟨rfl, hE⟩
        go_wp2
        go_ret2
        exact ⟨by simp, hE⟩
set_option maxHeartbeats 1000000 in
theorem unesc_hex (t : ByteArray) (h0 : 0 < t.size) (hc : (t[0]'h0).toNat = 120) (w : World) (hv : ErrV w) (ht : t.size ≤ 4294967000) :
    Calls Tryz.prog 102 #[.string t] w fun e w' => e = .returned (.tuple #[.int .u8 (hexOf t.data.toList).1, .int .i64 (hexOf t.data.toList).2]) ∧ Ext w w' := by
  have hne := toList_ne t h0
  have hci : ((t[0]'h0).toNat : Int) = 120 := by omega
  have hh := fun w hv => hex_any t w hv ht
  generalize hexOf t.data.toList = p at hh ⊢
  clear hc
  go_enter Tryz.func102, Tryz.ntmps102
  go_wp2_with fail
  refine (hh w hv).mono ?_
  rintro e w1 ⟨rfl, hE⟩
  go_wp2
  go_ret2
  exact ⟨rfl, hE⟩
theorem unesc_any : Unesc unq := by
  rintro ⟨⟨l⟩⟩ w hv ht
  cases l with
  | nil =>
    refine (unesc_none w).mono ?_
    rintro e w' ⟨rfl, rfl⟩
    exact ⟨rfl, Below.refl _ _⟩
  | cons c l =>
    have h0 : 0 < (ByteArray.mk (c :: l).toArray).size := by show 0 < (c :: l).length; simp
    have e : unq (c :: l) = if c = 114 then (13, 1) else if c = 102 then (12, 1) else if c = 118 then (11, 1) else if c = 110 then (10, 1) else if c = 116 then (9, 1) else
      if c = 98 then (8, 1) else if c = 97 then (7, 1) else if c = 48 then (0, 1) else if c = 101 then (27, 1) else if c = 120 then hexOf (c :: l) else
      if sPunct.getLsbD c.toNat = true then (c.toNat, 1) else (0, 0) := rfl
    have e1 : (ByteArray.mk (c :: l).toArray).data.toList = c :: l := rfl
    have eg : (ByteArray.mk (c :: l).toArray)[0]'h0 = c := rfl
    rw [e1, e]
    have go : ∀ (k v : Nat), c.toNat = k → (∀ (w : World), ((ByteArray.mk (c :: l).toArray)[0]'h0).toNat = k → Calls Tryz.prog 102 #[.string (ByteArray.mk (c :: l).toArray)] w fun e w' => e = .returned (.tuple #[.int .u8 v, .int .i64 1]) ∧ w' = w) →
        Calls Tryz.prog 102 #[.string (ByteArray.mk (c :: l).toArray)] w fun e w2 => e = .returned (.tuple #[.int .u8 (v, 1).1, .int .i64 (v, 1).2]) ∧ Ext w w2 := by
      intro k v hk h
      refine (h w (by rw [eg, hk])).mono ?_
      rintro e w' ⟨rfl, rfl⟩
      exact ⟨rfl, Below.refl _ _⟩
    by_cases h1 : c = 114
    · rw [if_pos h1]; exact go 114 13 (by rw [h1]; rfl) (fun w h => unesc_at114 _ h0 h w)
    by_cases h2 : c = 102
    · rw [if_neg h1, if_pos h2]; exact go 102 12 (by rw [h2]; rfl) (fun w h => unesc_at102 _ h0 h w)
    by_cases h3 : c = 118
    · rw [if_neg h1, if_neg h2, if_pos h3]; exact go 118 11 (by rw [h3]; rfl) (fun w h => unesc_at118 _ h0 h w)
    by_cases h4 : c = 110
    · rw [if_neg h1, if_neg h2, if_neg h3, if_pos h4]; exact go 110 10 (by rw [h4]; rfl) (fun w h => unesc_at110 _ h0 h w)
    by_cases h5 : c = 116
    · rw [if_neg h1, if_neg h2, if_neg h3, if_neg h4, if_pos h5]; exact go 116 9 (by rw [h5]; rfl) (fun w h => unesc_at116 _ h0 h w)
    by_cases h6 : c = 98
    · rw [if_neg h1, if_neg h2, if_neg h3, if_neg h4, if_neg h5, if_pos h6]; exact go 98 8 (by rw [h6]; rfl) (fun w h => unesc_at98 _ h0 h w)
    by_cases h7 : c = 97
    · rw [if_neg h1, if_neg h2, if_neg h3, if_neg h4, if_neg h5, if_neg h6, if_pos h7]; exact go 97 7 (by rw [h7]; rfl) (fun w h => unesc_at97 _ h0 h w)
    by_cases h8 : c = 48
    · rw [if_neg h1, if_neg h2, if_neg h3, if_neg h4, if_neg h5, if_neg h6, if_neg h7, if_pos h8]; exact go 48 0 (by rw [h8]; rfl) (fun w h => unesc_at48 _ h0 h w)
    by_cases h9 : c = 101
    · rw [if_neg h1, if_neg h2, if_neg h3, if_neg h4, if_neg h5, if_neg h6, if_neg h7, if_neg h8, if_pos h9]; exact go 101 27 (by rw [h9]; rfl) (fun w h => unesc_at101 _ h0 h w)
    by_cases h10 : c = 120
    · rw [if_neg h1, if_neg h2, if_neg h3, if_neg h4, if_neg h5, if_neg h6, if_neg h7, if_neg h8, if_neg h9, if_pos h10]
      exact unesc_hex _ h0 (by rw [eg, h10]; rfl) w hv ht
    · rw [if_neg h1, if_neg h2, if_neg h3, if_neg h4, if_neg h5, if_neg h6, if_neg h7, if_neg h8, if_neg h9, if_neg h10]
      have ne : ∀ (k : Nat), k < 256 → c ≠ UInt8.ofNat k → ((c.toNat : Int) == (k : Int)) = false := by
        intro k hk h
        rw [beq_eq_false_iff_ne]
        intro h'
        apply h
        have h2 : c.toNat = k := by omega
        rw [← h2]; simp
      refine (unesc_plain _ h0 c.toNat (by rw [eg]) ⟨ne 114 (by omega) h1, ne 102 (by omega) h2, ne 118 (by omega) h3, ne 110 (by omega) h4, ne 116 (by omega) h5, ne 98 (by omega) h6, ne 97 (by omega) h7, ne 48 (by omega) h8, ne 101 (by omega) h9, ne 120 (by omega) h10⟩ _ rfl w).mono ?_
      rintro e w' ⟨rfl, hE⟩
      refine ⟨?_, hE⟩
      cases sPunct.getLsbD c.toNat <;> rfl
end Go.Proofs.YtnecafokkhhhhaaGreatDoor
