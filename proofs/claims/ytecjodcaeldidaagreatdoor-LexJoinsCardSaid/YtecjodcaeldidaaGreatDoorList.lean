/- A set's bytes, as package byteset lists them. -/
import Derived.Test.YtecjodcaeldidaaGreatDoorBits2
import Derived.OwnWalk
namespace Go.Proofs.YtecjodcaeldidaaGreatDoor
open Go Go.RowKit
theorem info_u8 : (Tryz.prog.info? 5).map (fun i => (i.zero, i.size, i.bytes)) = some (some (.int .u8 0), 1, 1) := by kernel_rfl
theorem own_app {w : World} {b e n i : Nat} {v : Value} {A : List Value} {x : Int} (h : w.ownsRow b e 1 v (n + 1) (A ++ [.int .u8 x])) (hx : x = (i : Int)) : w.ownsRow b e 1 v (n + 1) (A ++ [nb i]) := by subst hx; exact h
theorem cnt_len (s : BitVec 256) : cnt s = (lstN s 4).length := by
  simp only [lstN_succ, lstN_zero, List.length_append, List.length_map, bitsOf_len, cnt, List.length_nil, Nat.zero_add]
theorem lstN_mono (s : BitVec 256) (k x : Nat) (L : List Nat) (hx : x ≠ 0) (hx2 : x < 18446744073709551616) (h : L ++ (bitsOf x).map (64 * k + ·) = lstN s (k + 1)) :
    (L ++ [64 * k + Lib.ctz 64 x]) ++ (bitsOf (x &&& (x - 1))).map (64 * k + ·) = lstN s (k + 1) := by
  rw [← h, (bitsOf_step x hx hx2).2]; simp
theorem and_dec (x : Nat) (hx : x < 18446744073709551616) (h0 : x ≠ 0) : bits BinOp.and IntKind.u64 (x : Int) (IntKind.u64.wrap ((x : Int) - 1)) = ((x &&& (x - 1) : Nat) : Int) := by
  have e : IntKind.u64.wrap ((x : Int) - 1) = ((x - 1 : Nat) : Int) := by rw [IntKind.wrap_u64]; omega
  rw [e, bits_and_u64_nat x _ hx (by omega)]
theorem and_dec_lt (x : Nat) (hx : x < 18446744073709551616) : (x &&& (x - 1)) < 18446744073709551616 := by
  have : x &&& (x - 1) < 2 ^ 64 := Nat.and_lt_two_pow _ (by omega)
  omega
theorem count_eq (s : BitVec 256) (c : Nat) (hc : cnt s = c) (w : World) :
    Calls Tryz.prog 110 #[sv s] w fun e w' => e = .returned (.int .i64 (c : Nat)) ∧ Below w.heap.size w w' := by subst hc; exact count_any s w
set_option maxHeartbeats 400000 in
theorem list_own (s : BitVec 256) (w : World) (hT : Tab w) :
    Calls Tryz.prog 91 #[sv s] w fun e w' => ∃ v, e = .returned v ∧ w'.ownsRow w.heap.size 5 1 v (lstN s 4).length ((lstN s 4).map nb) ∧ Below w.heap.size w w' := by
  obtain ⟨i0, hi, hz0, hz1, hz2⟩ := info_parts info_u8
  have hcl := cnt_le s
  obtain ⟨c, hc⟩ : ∃ c, cnt s = c := ⟨_, rfl⟩
  rw [hc] at hcl
  have HC := Lib.hid hc
  clear hc
  have HT := Lib.hid hT
  clear hT
  go_enter Tryz.func91, Tryz.ntmps91
  go_wp2_with fail
  refine (count_eq s c HC.out _).mono ?_; rintro e w1 ⟨rfl, hb1⟩
  obtain ⟨hc1, hf1⟩ := bcell hb1
  have hs1 := hb1.size
  try simp at hs1
  have hz1_0 : w.heap.size < w1.heap.size := by omega
  have hB1 := (Blk.new w _ _).ext hb1
  go_wp2_with (at_make; refine wpList_make_own _ rfl _ _ 56 rfl w.heap.size 5 i0 (.int .u8 0) 1 Tryz.underlying56 hi hz0 hz1 .i64 .i64 _ c rfl rfl rfl (by rw [hz2]; omega) (by unfold maxLen; omega) (by omega) ?_; intro wm hown hgm; obtain ⟨q0, q1, q2, q3⟩ := (hB1.grown hgm (by simp)).cells4; clear hc1 hf1)
  have hbm : Below w.heap.size w wm := ((Below.alloc (Below.refl _ _) (Nat.le_refl _) _).trans (hb1.mono (by simp))).grown hgm (by omega) (by simp)
  go_loopw [3, 10] (fun l i wr => ∃ k : Nat, k ≤ 4 ∧ i = .int .i64 k ∧ wr.ownsRow w.heap.size 5 1 l (lstN s k).length ((lstN s k).map nb) ∧ Below w.heap.size w wr) (fun _ i _ => 4 - (intOf i).toNat)
  case atStart => exact ⟨0, by omega, rfl, hown, hbm⟩
  case round =>
    clear hown hgm hbm hb1 hs1 hz1_0 hB1 q0 q1 q2 q3
    obtain ⟨k, hk, rfl, hown, hbel⟩ := hrel
    by_cases hk4 : k < 4
    · have hkk : k = 0 ∨ k = 1 ∨ k = 2 ∨ k = 3 := by omega
      rcases hkk with rfl | rfl | rfl | rfl
      · have hix : ∀ w, (Instr.index 27 (sv s) (.int .i64 0)).run Tryz.prog w = .ok (.int .u64 (wd s 0)) w := fun _ => by kernel_rfl
        rw [show ((0 : Nat) : Int) = (0 : Int) from rfl]
        go_wp2_with fail
        clear hix
        go_loopw [3, 5] (fun l x wr => ∃ (y : Nat) (L : List Nat), x = .int .u64 y ∧ y < 18446744073709551616 ∧ wr.ownsRow w.heap.size 5 1 l L.length (L.map nb) ∧ L ++ (bitsOf y).map (64 * 0 + ·) = lstN s (0 + 1) ∧ Below w.heap.size w wr) (fun _ x _ => (bitsOf (intOf x).toNat).length)
        case atStart => exact ⟨word s 0, lstN s 0, rfl, word_lt s 0, hown, (lstN_succ s 0).symm, hbel⟩
        case round =>
          clear hown hbel
          obtain ⟨y, L, rfl, hy, hown, hL, hbel⟩ := hrel
          have HL := Lib.hid hL
          clear hL
          by_cases hy0 : y = 0
          · subst hy0
            go_wp2_with fail
            go_roundw
            case rel => exact ⟨0 + 1, by omega, by go_num, by rw [← HL.out]; simpa [bitsOf_zero] using hown, hbel⟩
            case measure => simp [intOf]
          · have hTr := (HT.out).below (B := w.heap.size) HT.out.1 hbel
            have HTr := Lib.hid hTr
            obtain ⟨hc64, hst⟩ := bitsOf_step y hy0 hy
            have HS := Lib.hid (And.intro hst (lstN_mono s 0 y L hy0 hy HL.out))
            have HY := Lib.hid (And.intro hy (and_dec y hy hy0))
            clear hst hTr hy
            have hne : ((y : Int) != 0) = true := by simp; omega
            generalize hz : Lib.ctz 64 y = z at *
            have HZ := Lib.hid hz
            clear hz
            have hLen : L.length ≤ 256 := by
              have h1 := congrArg List.length HL.out
              have h2 := lstN_len s (0 + 1)
              simp only [List.length_append] at h1
              omega
            have hsz := hbel.size
            go_wp2_with (first
              | (go_at_call 111; refine (tz_eq y z HY.out.1 hy0 HZ.out _ HTr.out).mono ?_; rintro e w' ⟨rfl, rfl⟩)
              | (at_builtin; refine wpList_append_own _ rfl (.tmp 16) (.tmp 23) 56 rfl w.heap.size 5 i0 (.int .u8 0) 1 1 Tryz.underlying56 hi hz0 hz1 hz2 rfl (by decide) _ _ _ rfl (hown.alloc _) ⟨wr.heap.size, 0, none⟩ 1 1 [_] rfl rfl (cell_one_new _ _ _) (by intro u hu; simp at hu; subst hu; rfl) (by unfold maxLen; omega) (by omega) (by simp; omega) ?_; intro v1 w2 hown1 hgrow1 hnil1))
            go_roundw
            case rel =>
              refine ⟨y &&& (y - 1), L ++ [64 * 0 + z], by rw [HY.out.2], and_dec_lt y HY.out.1, ?_, HS.out.2, (hbel.alloc hsz _).grown hgrow1 (by simp; omega) (fun j hj => (hown.lt j hj).1)⟩
              rw [List.length_append, List.map_append]
              exact own_app hown1 (by omega)
            case measure =>
              have h1 := HS.out.1
              rw [HY.out.2]
              simp only [intOf]
              rw [Int.toNat_natCast, Int.toNat_natCast, h1]; simp
      · have hix : ∀ w, (Instr.index 27 (sv s) (.int .i64 1)).run Tryz.prog w = .ok (.int .u64 (wd s 1)) w := fun _ => by kernel_rfl
        rw [show ((1 : Nat) : Int) = (1 : Int) from rfl]
        go_wp2_with fail
        clear hix
        go_loopw [3, 5] (fun l x wr => ∃ (y : Nat) (L : List Nat), x = .int .u64 y ∧ y < 18446744073709551616 ∧ wr.ownsRow w.heap.size 5 1 l L.length (L.map nb) ∧ L ++ (bitsOf y).map (64 * 1 + ·) = lstN s (1 + 1) ∧ Below w.heap.size w wr) (fun _ x _ => (bitsOf (intOf x).toNat).length)
        case atStart => exact ⟨word s 1, lstN s 1, rfl, word_lt s 1, hown, (lstN_succ s 1).symm, hbel⟩
        case round =>
          clear hown hbel
          obtain ⟨y, L, rfl, hy, hown, hL, hbel⟩ := hrel
          have HL := Lib.hid hL
          clear hL
          by_cases hy0 : y = 0
          · subst hy0
            go_wp2_with fail
            go_roundw
            case rel => exact ⟨1 + 1, by omega, by go_num, by rw [← HL.out]; simpa [bitsOf_zero] using hown, hbel⟩
            case measure => simp [intOf]
          · have hTr := (HT.out).below (B := w.heap.size) HT.out.1 hbel
            have HTr := Lib.hid hTr
            obtain ⟨hc64, hst⟩ := bitsOf_step y hy0 hy
            have HS := Lib.hid (And.intro hst (lstN_mono s 1 y L hy0 hy HL.out))
            have HY := Lib.hid (And.intro hy (and_dec y hy hy0))
            clear hst hTr hy
            have hne : ((y : Int) != 0) = true := by simp; omega
            generalize hz : Lib.ctz 64 y = z at *
            have HZ := Lib.hid hz
            clear hz
            have hLen : L.length ≤ 256 := by
              have h1 := congrArg List.length HL.out
              have h2 := lstN_len s (1 + 1)
              simp only [List.length_append] at h1
              omega
            have hsz := hbel.size
            go_wp2_with (first
              | (go_at_call 111; refine (tz_eq y z HY.out.1 hy0 HZ.out _ HTr.out).mono ?_; rintro e w' ⟨rfl, rfl⟩)
              | (at_builtin; refine wpList_append_own _ rfl (.tmp 16) (.tmp 23) 56 rfl w.heap.size 5 i0 (.int .u8 0) 1 1 Tryz.underlying56 hi hz0 hz1 hz2 rfl (by decide) _ _ _ rfl (hown.alloc _) ⟨wr.heap.size, 0, none⟩ 1 1 [_] rfl rfl (cell_one_new _ _ _) (by intro u hu; simp at hu; subst hu; rfl) (by unfold maxLen; omega) (by omega) (by simp; omega) ?_; intro v1 w2 hown1 hgrow1 hnil1))
            go_roundw
            case rel =>
              refine ⟨y &&& (y - 1), L ++ [64 * 1 + z], by rw [HY.out.2], and_dec_lt y HY.out.1, ?_, HS.out.2, (hbel.alloc hsz _).grown hgrow1 (by simp; omega) (fun j hj => (hown.lt j hj).1)⟩
              rw [List.length_append, List.map_append]
              exact own_app hown1 (by omega)
            case measure =>
              have h1 := HS.out.1
              rw [HY.out.2]
              simp only [intOf]
              rw [Int.toNat_natCast, Int.toNat_natCast, h1]; simp
      · have hix : ∀ w, (Instr.index 27 (sv s) (.int .i64 2)).run Tryz.prog w = .ok (.int .u64 (wd s 2)) w := fun _ => by kernel_rfl
        rw [show ((2 : Nat) : Int) = (2 : Int) from rfl]
        go_wp2_with fail
        clear hix
        go_loopw [3, 5] (fun l x wr => ∃ (y : Nat) (L : List Nat), x = .int .u64 y ∧ y < 18446744073709551616 ∧ wr.ownsRow w.heap.size 5 1 l L.length (L.map nb) ∧ L ++ (bitsOf y).map (64 * 2 + ·) = lstN s (2 + 1) ∧ Below w.heap.size w wr) (fun _ x _ => (bitsOf (intOf x).toNat).length)
        case atStart => exact ⟨word s 2, lstN s 2, rfl, word_lt s 2, hown, (lstN_succ s 2).symm, hbel⟩
        case round =>
          clear hown hbel
          obtain ⟨y, L, rfl, hy, hown, hL, hbel⟩ := hrel
          have HL := Lib.hid hL
          clear hL
          by_cases hy0 : y = 0
          · subst hy0
            go_wp2_with fail
            go_roundw
            case rel => exact ⟨2 + 1, by omega, by go_num, by rw [← HL.out]; simpa [bitsOf_zero] using hown, hbel⟩
            case measure => simp [intOf]
          · have hTr := (HT.out).below (B := w.heap.size) HT.out.1 hbel
            have HTr := Lib.hid hTr
            obtain ⟨hc64, hst⟩ := bitsOf_step y hy0 hy
            have HS := Lib.hid (And.intro hst (lstN_mono s 2 y L hy0 hy HL.out))
            have HY := Lib.hid (And.intro hy (and_dec y hy hy0))
            clear hst hTr hy
            have hne : ((y : Int) != 0) = true := by simp; omega
            generalize hz : Lib.ctz 64 y = z at *
            have HZ := Lib.hid hz
            clear hz
            have hLen : L.length ≤ 256 := by
              have h1 := congrArg List.length HL.out
              have h2 := lstN_len s (2 + 1)
              simp only [List.length_append] at h1
              omega
            have hsz := hbel.size
            go_wp2_with (first
              | (go_at_call 111; refine (tz_eq y z HY.out.1 hy0 HZ.out _ HTr.out).mono ?_; rintro e w' ⟨rfl, rfl⟩)
              | (at_builtin; refine wpList_append_own _ rfl (.tmp 16) (.tmp 23) 56 rfl w.heap.size 5 i0 (.int .u8 0) 1 1 Tryz.underlying56 hi hz0 hz1 hz2 rfl (by decide) _ _ _ rfl (hown.alloc _) ⟨wr.heap.size, 0, none⟩ 1 1 [_] rfl rfl (cell_one_new _ _ _) (by intro u hu; simp at hu; subst hu; rfl) (by unfold maxLen; omega) (by omega) (by simp; omega) ?_; intro v1 w2 hown1 hgrow1 hnil1))
            go_roundw
            case rel =>
              refine ⟨y &&& (y - 1), L ++ [64 * 2 + z], by rw [HY.out.2], and_dec_lt y HY.out.1, ?_, HS.out.2, (hbel.alloc hsz _).grown hgrow1 (by simp; omega) (fun j hj => (hown.lt j hj).1)⟩
              rw [List.length_append, List.map_append]
              exact own_app hown1 (by omega)
            case measure =>
              have h1 := HS.out.1
              rw [HY.out.2]
              simp only [intOf]
              rw [Int.toNat_natCast, Int.toNat_natCast, h1]; simp
      · have hix : ∀ w, (Instr.index 27 (sv s) (.int .i64 3)).run Tryz.prog w = .ok (.int .u64 (wd s 3)) w := fun _ => by kernel_rfl
        rw [show ((3 : Nat) : Int) = (3 : Int) from rfl]
        go_wp2_with fail
        clear hix
        go_loopw [3, 5] (fun l x wr => ∃ (y : Nat) (L : List Nat), x = .int .u64 y ∧ y < 18446744073709551616 ∧ wr.ownsRow w.heap.size 5 1 l L.length (L.map nb) ∧ L ++ (bitsOf y).map (64 * 3 + ·) = lstN s (3 + 1) ∧ Below w.heap.size w wr) (fun _ x _ => (bitsOf (intOf x).toNat).length)
        case atStart => exact ⟨word s 3, lstN s 3, rfl, word_lt s 3, hown, (lstN_succ s 3).symm, hbel⟩
        case round =>
          clear hown hbel
          obtain ⟨y, L, rfl, hy, hown, hL, hbel⟩ := hrel
          have HL := Lib.hid hL
          clear hL
          by_cases hy0 : y = 0
          · subst hy0
            go_wp2_with fail
            go_roundw
            case rel => exact ⟨3 + 1, by omega, by go_num, by rw [← HL.out]; simpa [bitsOf_zero] using hown, hbel⟩
            case measure => simp [intOf]
          · have hTr := (HT.out).below (B := w.heap.size) HT.out.1 hbel
            have HTr := Lib.hid hTr
            obtain ⟨hc64, hst⟩ := bitsOf_step y hy0 hy
            have HS := Lib.hid (And.intro hst (lstN_mono s 3 y L hy0 hy HL.out))
            have HY := Lib.hid (And.intro hy (and_dec y hy hy0))
            clear hst hTr hy
            have hne : ((y : Int) != 0) = true := by simp; omega
            generalize hz : Lib.ctz 64 y = z at *
            have HZ := Lib.hid hz
            clear hz
            have hLen : L.length ≤ 256 := by
              have h1 := congrArg List.length HL.out
              have h2 := lstN_len s (3 + 1)
              simp only [List.length_append] at h1
              omega
            have hsz := hbel.size
            go_wp2_with (first
              | (go_at_call 111; refine (tz_eq y z HY.out.1 hy0 HZ.out _ HTr.out).mono ?_; rintro e w' ⟨rfl, rfl⟩)
              | (at_builtin; refine wpList_append_own _ rfl (.tmp 16) (.tmp 23) 56 rfl w.heap.size 5 i0 (.int .u8 0) 1 1 Tryz.underlying56 hi hz0 hz1 hz2 rfl (by decide) _ _ _ rfl (hown.alloc _) ⟨wr.heap.size, 0, none⟩ 1 1 [_] rfl rfl (cell_one_new _ _ _) (by intro u hu; simp at hu; subst hu; rfl) (by unfold maxLen; omega) (by omega) (by simp; omega) ?_; intro v1 w2 hown1 hgrow1 hnil1))
            go_roundw
            case rel =>
              refine ⟨y &&& (y - 1), L ++ [64 * 3 + z], by rw [HY.out.2], and_dec_lt y HY.out.1, ?_, HS.out.2, (hbel.alloc hsz _).grown hgrow1 (by simp; omega) (fun j hj => (hown.lt j hj).1)⟩
              rw [List.length_append, List.map_append]
              exact own_app hown1 (by omega)
            case measure =>
              have h1 := HS.out.1
              rw [HY.out.2]
              simp only [intOf]
              rw [Int.toNat_natCast, Int.toNat_natCast, h1]; simp
    · obtain rfl : k = 4 := by omega
      go_wp2
      go_ret
      refine ⟨_, rfl, ?_, by (repeat' (first | (with_reducible exact Below.refl _ _) | (with_reducible assumption) | (with_reducible refine below_drewN ?_ _) | (with_reducible refine Below.alloc ?_ ?_ _) | (with_reducible refine Below.drew ?_) | (with_reducible refine Below.setCell ?_ ?_ _) | (with_reducible refine Below.trans ?_ (Below.mono (by with_reducible assumption) ?_)) | go_size))⟩
      exact hown
theorem Bytes.of_own {w : World} {base e : Nat} {v : Value} {L : List Nat} (h : w.ownsRow base e 1 v L.length (L.map nb)) (hL : L.length ≤ 140737488355328) (hs : ∀ x ∈ L, x < 256) : Bytes w v (L.map UInt8.ofNat) := by
  have e1 : (L.map UInt8.ofNat).map ub = L.map nb := by
    rw [List.map_map]
    apply List.map_congr_left
    intro i hi
    have := hs i hi
    simp only [Function.comp, ub, nb]
    rw [UInt8.toNat_ofNat_of_lt' (by omega)]
  unfold Bytes
  rw [e1, List.length_map]
  exact Slc.of_own h hL
theorem list_any (s : BitVec 256) (w : World) (hT : Tab w) :
    Calls Tryz.prog 91 #[sv s] w fun e w' => ∃ v, e = .returned v ∧ Bytes w' v (lst s) ∧ Below w.heap.size w w' :=
  (list_own s w hT).mono fun e w' ⟨v, he, hown, hb⟩ => ⟨v, he, Bytes.of_own hown (by have := lstN_len s 4; omega) (fun x hx => by have := lstN_lt s 4 x hx; omega), hb⟩
end Go.Proofs.YtecjodcaeldidaaGreatDoor
