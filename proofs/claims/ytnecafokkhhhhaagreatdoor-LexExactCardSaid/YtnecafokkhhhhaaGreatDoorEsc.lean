/- What an escape means. -/
import Derived.Test.YtnecafokkhhhhaaGreatDoorNam
namespace Go.Proofs.YtnecafokkhhhhaaGreatDoor
open Go Go.RowKit
theorem toList_ne (t : ByteArray) (h0 : 0 < t.size) : (t.toList == []) = false := by
  rw [ByteArray.toList_eq]
  cases h : t.data.toList with
  | nil =>
    have : t.data.toList.length = 0 := by rw [h]; rfl
    rw [Array.length_toList] at this
    have h1 : t.size = t.data.size := rfl
    omega
  | cons x l => rfl
theorem unesc_none (w : World) :
    Calls Tryz.prog 102 #[.string ⟨#[]⟩] w fun e w' => e = .returned (.tuple #[.int .u8 0, .int .i64 0]) ∧ w' = w := by
  go_enter Tryz.func102, Tryz.ntmps102
  go_wp2
  go_ret2
  exact ⟨rfl, rfl⟩
theorem unesc_at114 (t : ByteArray) (h0 : 0 < t.size) (hc : (t[0]'h0).toNat = 114) (w : World) :
    Calls Tryz.prog 102 #[.string t] w fun e w' => e = .returned (.tuple #[.int .u8 13, .int .i64 1]) ∧ w' = w := by
  have hne := toList_ne t h0
  have hci : ((t[0]'h0).toNat : Int) = 114 := by omega
  clear hc
  go_enter Tryz.func102, Tryz.ntmps102
  go_wp2
  go_ret2
  exact ⟨rfl, rfl⟩
theorem unesc_at102 (t : ByteArray) (h0 : 0 < t.size) (hc : (t[0]'h0).toNat = 102) (w : World) :
    Calls Tryz.prog 102 #[.string t] w fun e w' => e = .returned (.tuple #[.int .u8 12, .int .i64 1]) ∧ w' = w := by
  have hne := toList_ne t h0
  have hci : ((t[0]'h0).toNat : Int) = 102 := by omega
  clear hc
  go_enter Tryz.func102, Tryz.ntmps102
  go_wp2
  go_ret2
  exact ⟨rfl, rfl⟩
theorem unesc_at118 (t : ByteArray) (h0 : 0 < t.size) (hc : (t[0]'h0).toNat = 118) (w : World) :
    Calls Tryz.prog 102 #[.string t] w fun e w' => e = .returned (.tuple #[.int .u8 11, .int .i64 1]) ∧ w' = w := by
  have hne := toList_ne t h0
  have hci : ((t[0]'h0).toNat : Int) = 118 := by omega
  clear hc
  go_enter Tryz.func102, Tryz.ntmps102
  go_wp2
  go_ret2
  exact ⟨rfl, rfl⟩
theorem unesc_at110 (t : ByteArray) (h0 : 0 < t.size) (hc : (t[0]'h0).toNat = 110) (w : World) :
    Calls Tryz.prog 102 #[.string t] w fun e w' => e = .returned (.tuple #[.int .u8 10, .int .i64 1]) ∧ w' = w := by
  have hne := toList_ne t h0
  have hci : ((t[0]'h0).toNat : Int) = 110 := by omega
  clear hc
  go_enter Tryz.func102, Tryz.ntmps102
  go_wp2
  go_ret2
  exact ⟨rfl, rfl⟩
theorem unesc_at116 (t : ByteArray) (h0 : 0 < t.size) (hc : (t[0]'h0).toNat = 116) (w : World) :
    Calls Tryz.prog 102 #[.string t] w fun e w' => e = .returned (.tuple #[.int .u8 9, .int .i64 1]) ∧ w' = w := by
  have hne := toList_ne t h0
  have hci : ((t[0]'h0).toNat : Int) = 116 := by omega
  clear hc
  go_enter Tryz.func102, Tryz.ntmps102
  go_wp2
  go_ret2
  exact ⟨rfl, rfl⟩
theorem unesc_at98 (t : ByteArray) (h0 : 0 < t.size) (hc : (t[0]'h0).toNat = 98) (w : World) :
    Calls Tryz.prog 102 #[.string t] w fun e w' => e = .returned (.tuple #[.int .u8 8, .int .i64 1]) ∧ w' = w := by
  have hne := toList_ne t h0
  have hci : ((t[0]'h0).toNat : Int) = 98 := by omega
  clear hc
  go_enter Tryz.func102, Tryz.ntmps102
  go_wp2
  go_ret2
  exact ⟨rfl, rfl⟩
theorem unesc_at97 (t : ByteArray) (h0 : 0 < t.size) (hc : (t[0]'h0).toNat = 97) (w : World) :
    Calls Tryz.prog 102 #[.string t] w fun e w' => e = .returned (.tuple #[.int .u8 7, .int .i64 1]) ∧ w' = w := by
  have hne := toList_ne t h0
  have hci : ((t[0]'h0).toNat : Int) = 97 := by omega
  clear hc
  go_enter Tryz.func102, Tryz.ntmps102
  go_wp2
  go_ret2
  exact ⟨rfl, rfl⟩
theorem unesc_at48 (t : ByteArray) (h0 : 0 < t.size) (hc : (t[0]'h0).toNat = 48) (w : World) :
    Calls Tryz.prog 102 #[.string t] w fun e w' => e = .returned (.tuple #[.int .u8 0, .int .i64 1]) ∧ w' = w := by
  have hne := toList_ne t h0
  have hci : ((t[0]'h0).toNat : Int) = 48 := by omega
  clear hc
  go_enter Tryz.func102, Tryz.ntmps102
  go_wp2
  go_ret2
  exact ⟨rfl, rfl⟩
theorem unesc_at101 (t : ByteArray) (h0 : 0 < t.size) (hc : (t[0]'h0).toNat = 101) (w : World) :
    Calls Tryz.prog 102 #[.string t] w fun e w' => e = .returned (.tuple #[.int .u8 27, .int .i64 1]) ∧ w' = w := by
  have hne := toList_ne t h0
  have hci : ((t[0]'h0).toNat : Int) = 101 := by omega
  clear hc
  go_enter Tryz.func102, Tryz.ntmps102
  go_wp2
  go_ret2
  exact ⟨rfl, rfl⟩
/-- A byte that no letter of an escape is. -/
structure Plain (c : Int) : Prop where
  p0 : (c == 114) = false
  p1 : (c == 102) = false
  p2 : (c == 118) = false
  p3 : (c == 110) = false
  p4 : (c == 116) = false
  p5 : (c == 98) = false
  p6 : (c == 97) = false
  p7 : (c == 48) = false
  p8 : (c == 101) = false
  p9 : (c == 120) = false
set_option maxHeartbeats 1000000 in
theorem unesc_plain (t : ByteArray) (h0 : 0 < t.size) (c : Nat) (hc : (t[0]'h0).toNat = c) (hp : Plain c) (q : Bool) (hq : sPunct.getLsbD c = q) (w : World) :
    Calls Tryz.prog 102 #[.string t] w fun e w' => e = .returned (if q then .tuple #[.int .u8 c, .int .i64 1] else .tuple #[.int .u8 0, .int .i64 0]) ∧ Ext w w' := by
  have hne := toList_ne t h0
  have hcb : c < 256 := by rw [← hc]; exact (t[0]'h0).toNat_lt
  have hci : ((t[0]'h0).toNat : Int) = c := by omega
  obtain ⟨p0, p1, p2, p3, p4, p5, p6, p7, p8, p9⟩ := hp
  obtain ⟨S, hS⟩ : ∃ S, sPunct = S := ⟨_, rfl⟩
  rw [hS] at hq
  have hpu := fun w => punct_eq S hS w
  have hhas := fun w => has_any S c w (by omega) (by omega)
  rw [show ((c : Int)).toNat = c from rfl, hq] at hhas
  clear hc hS hq
  go_enter Tryz.func102, Tryz.ntmps102
  go_wp2_with fail
  refine G.wp_region_stab (G := Ext) (fun _ => none) (by kernel_rfl) (by kernel_rfl) (fun _ _ h => by cases h) (fun hex => ?_)
  iterate 4
    (refine G.wpS_one (A := ?_) hex rfl rfl (by simp) ?_ ?_ ?_
     rotate_left 2
     · intro w' hC K hK
       go_wp2_with (first | (go_at_call 110; refine (hpu _).mono ?_; rintro e w2 ⟨rfl, hE1⟩) | (go_at_call 109; refine (hhas _).mono ?_; rintro e w2 ⟨rfl, hE1⟩))
       refine hK _ ?_
       first | exact Below.refl _ _ | assumption | ((repeat' (first | (with_reducible exact Below.refl _ _) | (with_reducible assumption) | (with_reducible refine below_drewN ?_ _) | (with_reducible refine Below.alloc ?_ ?_ _) | (with_reducible refine Below.drew ?_) | (with_reducible refine Below.setCell ?_ ?_ _) | (with_reducible refine Below.trans ?_ (Below.mono (by with_reducible assumption) ?_)) | go_size)))
     rotate_left 1
     · rfl
     clear hex; intro hex)
  refine G.wpS_nil fun w2 hAll => ?_
  have hE := hAll.1
  clear hAll hex
  cases q with
  | true =>
    go_wp2
    go_ret2
    exact ⟨rfl, hE⟩
  | false =>
    go_wp2
    go_ret2
    exact ⟨rfl, hE⟩
end Go.Proofs.YtnecafokkhhhhaaGreatDoor
