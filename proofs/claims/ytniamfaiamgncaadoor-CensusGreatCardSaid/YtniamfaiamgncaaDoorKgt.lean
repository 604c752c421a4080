/- CensusGreat: counts at and above 2^64. -/
import Derived.Test.YtniamfaiamgncaaDoorKwk
import Derived.Test.YtniamfaiamgncaaDoorKgp
namespace Go.Proofs.YtniamfaiamgncaaDoor
open Go Go.RowKit
theorem lay_aD {w : World} {p q g : Nat} (b1 : Blk w p #[r256 g] 23) (b2 : Blk w q #[.int .i64 0] 3) (i1 : Ints w (r256 g) (List.replicate 256 0)) :
    Dns w (.agg #[.slice (some ⟨p, 0, none⟩) 1 1, .slice (some ⟨q, 0, none⟩) 1 1]) aD := by
  refine ⟨_, _, rfl, ?_, ?_⟩
  · refine rws_bk (R := aD.nx) (vs := [r256 g]) b1 rfl (by decide) (fun i hi => ?_)
    have hi : i < 1 := hi
    match i, hi with
    | 0, _ => exact ⟨_, rfl, i1⟩
  · exact ints_bk (L := aD.lb) b2 (by decide) (by decide)
theorem T64_lit : T64 = 18446744073709551616 := rfl
theorem pow_7 : (256 : Nat) ^ 7 = 72057594037927936 := by decide +kernel
theorem all7 (v : Value) (w : World) (h : Dns w v aD) : Calls Tryd.prog 34 #[v, .int .i64 0, .int .i64 7] w fun e w' => e = .returned (.tuple #[.int .u64 72057594037927936, .bool true, .nilIface]) ∧ Ext w w' := by
  have H := count_ok aD v 0 7 w aD_ok h (by decide) (by decide) (by decide)
  rw [aD_cnt, pow_7, sN_of (by rw [T64_lit]; decide), sB_of (by rw [T64_lit]; decide)] at H
  exact H
theorem all8 (v : Value) (w : World) (h : Dns w v aD) : Calls Tryd.prog 34 #[v, .int .i64 0, .int .i64 8] w fun e w' => e = .returned (.tuple #[.int .u64 18446744073709551615, .bool false, .nilIface]) ∧ Ext w w' := by
  have H := count_ok aD v 0 8 w aD_ok h (by decide) (by decide) (by decide)
  rw [aD_cnt, pow8, sN_not (by rw [T64_lit]; decide), sB_not (by rw [T64_lit]; decide), T64_lit] at H
  exact H
theorem none8 (v : Value) (w : World) (h : Dns w v pD) : Calls Tryd.prog 34 #[v, .int .i64 (-1), .int .i64 8] w fun e w' => e = .returned (.tuple #[.int .u64 18446744073709551360, .bool true, .nilIface]) ∧ Ext w w' := by
  have H := count_ok pD v (-1) 8 w pD_ok h (by decide) (by decide) (by decide)
  rw [pD_none8, sN_of (by rw [T64_lit]; decide), sB_of (by rw [T64_lit]; decide)] at H
  exact H
abbrev l254 : List Nat := [254, 254, 254, 254, 254, 254, 254, 254]
abbrev l255 : List UInt8 := [255, 255, 255, 255, 255, 255, 255, 255]
theorem nth_great (v : Value) (w : World) (h : Dns w v aD) : Calls Tryd.prog 35 #[v, .int .i64 0, .int .u64 18446744073709551615] w fun e w' => ∃ u, e = .returned (.tuple #[u, .bool true, .nilIface]) ∧ w'.ownsRow w.heap.size 5 1 u 8 (l254.map bv) ∧ Ext w w' := by
  have H := nthc_ok aD v 0 18446744073709551615 w aD_ok h (by decide) (by decide) (by rw [T64_lit]; decide)
  rw [aD_nth] at H
  refine H.mono ?_
  rintro e w' ⟨u, b, rfl, ⟨rfl, ho⟩, hE⟩
  exact ⟨u, rfl, ho, hE⟩
theorem nth_one (v : Value) (w : World) (h : Dns w v pD) : Calls Tryd.prog 35 #[v, .int .i64 1, .int .u64 0] w fun e w' => e = .returned (.tuple #[.slice none 0 0, .bool false, .nilIface]) ∧ Ext w w' := by
  have H := nthc_ok pD v 1 0 w pD_ok h (by decide) (by decide) (by rw [T64_lit]; decide)
  rw [pD_one] at H
  refine H.mono ?_
  rintro e w' ⟨u, b, rfl, ⟨rfl, rfl⟩, hE⟩
  exact ⟨rfl, hE⟩
theorem nth_63 (v : Value) (w : World) (h : Dns w v pD) : Calls Tryd.prog 35 #[v, .int .i64 0, .int .u64 9223372036854775808] w fun e w' => ∃ a c, e = .returned (.tuple #[.slice a 63 c, .bool true, .nilIface]) ∧ Ext w w' := by
  obtain ⟨l, hl, h63⟩ := pD_63k (k := 9223372036854775808) rfl
  have H := nthc_ok pD v 0 9223372036854775808 w pD_ok h (by decide) (by decide) (by rw [T64_lit]; decide)
  rw [hl] at H
  refine H.mono ?_
  rintro e w' ⟨u, b, rfl, ⟨rfl, ho⟩, hE⟩
  obtain ⟨a, c, rfl⟩ := own_shp ho
  rw [h63]
  exact ⟨a, c, rfl, hE⟩
theorem rank_254 (v t : Value) (w : World) (h : Dns w v aD) (ht : Bytes w t (l254.map UInt8.ofNat)) : Calls Tryd.prog 36 #[v, .int .i64 0, t] w fun e w' => e = .returned (.tuple #[.int .u64 18446744073709551615, .bool true, .nilIface]) ∧ Ext w w' := by
  have H := rankc_ok aD v t 0 _ w aD_ok h (by decide) (by decide) ht (by decide)
  rw [txw_of (by decide), aD_lab _ (by decide), show rankW aD.to aD.lab 0 l254 = 18446744073709551615 from aD_254] at H
  have hr : rkv 18446744073709551615 (decide ((0 : Int) = 0)) = .tuple #[.int .u64 18446744073709551615, .bool true, .nilIface] := if_pos ⟨rfl, by rw [T64_lit]; decide⟩
  rw [hr] at H
  exact H
theorem rank_255 (v t : Value) (w : World) (h : Dns w v aD) (ht : Bytes w t l255) : Calls Tryd.prog 36 #[v, .int .i64 0, t] w fun e w' => e = .returned (.tuple #[.int .u64 0, .bool false, .nilIface]) ∧ Ext w w' := by
  have H := rankc_ok aD v t 0 _ w aD_ok h (by decide) (by decide) ht (by decide)
  rw [show txw l255 = List.replicate 8 255 from rfl] at H
  have hr : ∀ b, rkv (rankW aD.to aD.lab 0 (List.replicate 8 255)) b = .tuple #[.int .u64 0, .bool false, .nilIface] := fun b => if_neg (fun e => Nat.not_lt.2 (T64_lit ▸ aD_255) e.2)
  rw [hr] at H
  exact H
set_option maxHeartbeats 4000000 in
set_option maxRecDepth 20000 in
theorem great14_any (w : World) : Calls Tryd.prog 11 #[] w fun e w' => e = .returned (.bool true) ∧ Ext w w' := by
  obtain ⟨i0, hi, hz0, hz1, hz2⟩ := info_parts info_int
  go_enter Tryd.func11, Tryd.ntmps11
  go_wp2_with (at_make; refine wpList_make_full _ rfl _ _ 23 rfl w.heap.size 3 i0 (.int .i64 0) 1 Tryd.underlying23 hi hz0 hz1 .i64 .i64 _ _ 256 rfl rfl rfl rfl (by rw [hz2]; omega) (by unfold maxLen; omega) (by omega) ?_; intro wm hown hgm)
  have z3 := toList_madeCells_one (.int .i64 0) 256
  have hown2 : wm.ownsRow w.heap.size 3 1 (.slice (some ⟨w.heap.size, 0, none⟩) 256 256) 256 ((List.replicate 256 0).map iv) := by
    rw [List.map_replicate, show iv 0 = Value.int .i64 0 from rfl, ← z3]; simpa [Value.cells] using hown
  have hI : Ints wm (r256 w.heap.size) (List.replicate 256 0) := ⟨by rw [List.length_replicate]; exact Slc.of_own hown2 (by omega), fun z hz => by rw [List.eq_of_mem_replicate hz]; omega⟩
  have hE : Ext w wm := ⟨hgm.os, hgm.tape, hgm.output, hgm.size, fun k hk => hgm.block k hk (by simp)⟩
  clear hown hown2 hgm z3 hi hz0 hz1 hz2
  generalize w.heap.size = g at *
  have x4 := ext_box wm #[r256 g] 23
  have x5 := ext_box (wm.alloc (.cells #[r256 g] 23)) #[.int .i64 0] 3
  have hs : (wm.alloc (.cells #[r256 g] 23)).heap.size = wm.heap.size + 1 := Array.size_push _
  have b1 := (Blk.new wm #[r256 g] 23).ext x5
  have b2 := Blk.new (wm.alloc (.cells #[r256 g] 23)) #[.int .i64 0] 3
  rw [hs] at b2
  have hs2 : ((wm.alloc (.cells #[r256 g] 23)).alloc (.cells #[.int .i64 0] 3)).heap.size = wm.heap.size + 2 := (Array.size_push _).trans (by rw [hs])
  have x6 := ext_box ((wm.alloc (.cells #[r256 g] 23)).alloc (.cells #[.int .i64 0] 3)) #[.slice (some ⟨wm.heap.size, 0, none⟩) 1 1, .slice (some ⟨wm.heap.size + 1, 0, none⟩) 1 1] 25
  have b3 := Blk.new ((wm.alloc (.cells #[r256 g] 23)).alloc (.cells #[.int .i64 0] 3)) #[.slice (some ⟨wm.heap.size, 0, none⟩) 1 1, .slice (some ⟨wm.heap.size + 1, 0, none⟩) 1 1] 25
  rw [hs2] at b3
  have HB := Lib.hid b3
  have HD := Lib.hid (lay_aD (b1.ext x6) (b2.ext x6) (hI.ext (bel_call x4 (bel_call x5 x6))))
  have HE := Lib.hid (bel_call hE (bel_call x4 (bel_call x5 x6)))
  clear x4 x5 x6 b1 b2 b3 hI hE hs hs2
  go_wp2_with fail
  generalize hw1 : ((wm.alloc (.cells #[r256 g] 23)).alloc (.cells #[.int .i64 0] 3)).alloc (.cells #[.slice (some ⟨wm.heap.size, 0, none⟩) 1 1, .slice (some ⟨wm.heap.size + 1, 0, none⟩) 1 1] 25) = w1 at *
  clear hw1
  generalize wm.heap.size = s at *
  refine (all7 _ _ HD.out).mono ?_
  rintro e w2 ⟨rfl, e2⟩
  have E2 := Lib.hid (bel_call HE.out e2)
  have D2 := Lib.hid (HD.out.ext e2)
  have B2 := Lib.hid (HB.out.ext e2)
  have z0 := B2.out.cell 0
  have z1 := B2.out.cell 1
  clear HE HD HB e2
  go_wp2_with fail
  refine (all8 _ _ D2.out).mono ?_
  rintro e w3 ⟨rfl, e3⟩
  have E3 := Lib.hid (bel_call E2.out e3)
  have D3 := Lib.hid (D2.out.ext e3)
  have B3 := Lib.hid (B2.out.ext e3)
  clear E2 D2 B2 z0 z1 e3
  go_wp2_with fail
  refine (pairs_any _).mono ?_
  rintro e w4 ⟨a4, b4, n4, m4, rfl, d4, e4⟩
  have D4 := Lib.hid (D3.out.ext e4)
  have B4 := Lib.hid (B3.out.ext e4)
  have P4 := Lib.hid d4
  have E4 := Lib.hid (bel_call E3.out e4)
  clear D3 B3 E3 d4 e4
  go_wp2_with fail
  refine (none8 _ _ P4.out).mono ?_
  rintro e w5 ⟨rfl, e5⟩
  have D5 := Lib.hid (D4.out.ext e5)
  have B5 := Lib.hid (B4.out.ext e5)
  have E5 := Lib.hid (bel_call E4.out e5)
  have z0 := B5.out.cell 0
  have z1 := B5.out.cell 1
  clear D4 B4 P4 E4 e5
  go_wp2_with fail
  refine (nth_great _ _ D5.out).mono ?_
  rintro e w6 ⟨u, rfl, ho, e6⟩
  have HU := Lib.hid (own_bytes ho (by decide) (by decide))
  obtain ⟨ua, uc, rfl⟩ := own_shp ho
  have D6 := Lib.hid (D5.out.ext e6)
  have B6 := Lib.hid (B5.out.ext e6)
  have E6 := Lib.hid (bel_call E5.out e6)
  have z0 := B6.out.cell 0
  have z1 := B6.out.cell 1
  clear D5 B5 E5 ho e6
  go_wp2_with fail
  refine (rank_254 _ _ _ D6.out HU.out).mono ?_
  rintro e w7 ⟨rfl, e7⟩
  have x7 := ext_box w7 (l255.map ub).toArray 5
  have HL := Lib.hid (blk_bytes (Blk.new w7 (l255.map ub).toArray 5) (l := l255) (by decide))
  have HU7 := Lib.hid ((HU.out.ext e7).ext x7)
  have D7 := Lib.hid ((D6.out.ext e7).ext x7)
  have B7 := (B6.out.ext e7)
  have E7 := Lib.hid (bel_call E6.out (bel_call e7 x7))
  have z0 := B7.cell 0
  have z1 := B7.cell 1
  clear D6 B6 E6 HU e7 x7 B7
  go_wp2_with fail
  show Calls _ _ _ (w7.alloc (.cells (l255.map ub).toArray 5)) _
  generalize w7.alloc (.cells (l255.map ub).toArray 5) = w8 at *
  generalize w7.heap.size = s7 at *
  refine (rank_255 _ _ _ D7.out HL.out).mono ?_
  rintro e w9 ⟨rfl, e9⟩
  have x9 := ext_box w9 ((l254.map UInt8.ofNat).map ub).toArray 5
  have HX := Lib.hid (blk_bytes (Blk.new w9 ((l254.map UInt8.ofNat).map ub).toArray 5) (l := l254.map UInt8.ofNat) (by decide))
  have HU9 := Lib.hid ((HU7.out.ext e9).ext x9)
  have E9 := Lib.hid (bel_call E7.out (bel_call e9 x9))
  clear D7 E7 HU7 HL e9 x9 z0 z1
  go_wp2_with fail
  show Calls _ _ _ (w9.alloc (.cells ((l254.map UInt8.ofNat).map ub).toArray 5)) _
  generalize w9.alloc (.cells ((l254.map UInt8.ofNat).map ub).toArray 5) = w10 at *
  refine (eqby_any _ _ _ _ _ HU9.out HX.out).mono ?_
  rintro e w11 ⟨rfl, e11⟩
  rw [show decide (List.map UInt8.ofNat l254 = List.map UInt8.ofNat l254) = true from decide_eq_true rfl]
  have E11 := Lib.hid (bel_call E9.out e11)
  clear E9 HU9 HX e11
  go_wp2_with fail
  refine (pairs_any _).mono ?_
  rintro e w12 ⟨a4, b4, n4, m4, rfl, d4, e4⟩
  have P4 := Lib.hid d4
  have E12 := Lib.hid (bel_call E11.out e4)
  clear d4 e4 E11
  go_wp2_with fail
  refine (nth_one _ _ P4.out).mono ?_
  rintro e w13 ⟨rfl, e5⟩
  have E13 := Lib.hid (bel_call E12.out e5)
  clear P4 e5 E12
  go_wp2_with fail
  refine (pairs_any _).mono ?_
  rintro e w14 ⟨a5, b5, n5, m5, rfl, d4, e4⟩
  have P4 := Lib.hid d4
  have E14 := Lib.hid (bel_call E13.out e4)
  clear d4 e4 E13
  go_wp2_with fail
  refine (nth_63 _ _ P4.out).mono ?_
  rintro e w15 ⟨va, vc, rfl, e5⟩
  have E15 := Lib.hid (bel_call E14.out e5)
  clear P4 e5 E14
  go_wp2_with fail
  refine (wakes14_any _).mono ?_
  rintro e w16 ⟨rfl, e5⟩
  have E16 := Lib.hid (bel_call E15.out e5)
  go_wp2_with fail
  go_ret
  exact ⟨rfl, E16.out⟩
end Go.Proofs.YtniamfaiamgncaaDoor
