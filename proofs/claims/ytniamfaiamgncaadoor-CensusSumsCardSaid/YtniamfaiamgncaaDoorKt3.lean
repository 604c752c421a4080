/- Package census: a place among things of which some are counted. -/
import Derived.Test.YtniamfaiamgncaaDoorKt1
namespace Go.Proofs.YtniamfaiamgncaaDoor
open Go Go.RowKit
abbrev pcl (k : Nat) : Array Value := #[.int .u64 (k : Int)]
set_option maxHeartbeats 1000000 in
set_option maxRecDepth 20000 in
theorem within_in (g k y : Nat) (w : World) (h : Blk w g (pcl k) 122) (hk : k < y) :
    Calls Tryd.prog 120 #[.pointer (some ⟨g, 0, none⟩), .agg #[.int .u64 (y : Int), .bool true]] w fun e w' => e = .returned (.bool true) ∧ Ext w w' := by
  have hx := ext_box w #[.int .u64 (y : Int), .bool true] 117
  have HX := Lib.hid (Blk.new w #[.int .u64 (y : Int), .bool true] 117)
  have HB := Lib.hid (h.ext hx)
  have HE := Lib.hid hx
  clear hx
  go_enter Tryd.func120, Tryd.ntmps120
  go_upto_region 1 with fail
  generalize w.alloc (.cells #[.int .u64 (y : Int), .bool true] 117) = w1 at HB HX HE ⊢
  refine G.wp_region_stab (G := Ext) (fun _ => none) (by kernel_rfl) (by kernel_rfl) (fun _ _ h => by cases h) (fun hex => ?_)
  iterate 11
    (refine G.wpS_one (A := ?_) hex rfl rfl (by simp) ?_ ?_ ?_
     rotate_left 2
     · intro w' hC K hK
       have z0 := (HB.out.ext hC.1).cell 0; have y0 := (HX.out.ext hC.1).cell 0; have y1 := (HX.out.ext hC.1).cell 1
       go_wp2_with (fail)
       refine hK _ ?_
       first | exact Below.refl _ _ | assumption | ((repeat' (first | (with_reducible exact Below.refl _ _) | (with_reducible assumption) | (with_reducible refine below_drewN ?_ _) | (with_reducible refine Below.alloc ?_ ?_ _) | (with_reducible refine Below.drew ?_) | (with_reducible refine Below.setCell ?_ ?_ _) | (with_reducible refine Below.trans ?_ (Below.mono (by with_reducible assumption) ?_)) | go_size)))
     rotate_left 1
     · rfl
     clear hex; intro hex)
  refine G.wpS_nil fun w2 hAll => ?_
  have hE := hAll.1
  have HE2 := Lib.hid (bel_call HE.out hE)
  clear hE hex hAll HB HX HE
  go_wp2_with fail
  go_ret
  exact ⟨rfl, HE2.out⟩
set_option maxHeartbeats 1000000 in
set_option maxRecDepth 20000 in
theorem within_great (g y : Nat) (w : World) :
    Calls Tryd.prog 120 #[.pointer (some ⟨g, 0, none⟩), .agg #[.int .u64 (y : Int), .bool false]] w fun e w' => e = .returned (.bool true) ∧ Ext w w' := by
  have hx := ext_box w #[.int .u64 (y : Int), .bool false] 117
  have HX := Lib.hid (Blk.new w #[.int .u64 (y : Int), .bool false] 117)
  have HE := Lib.hid hx
  clear hx
  go_enter Tryd.func120, Tryd.ntmps120
  go_upto_region 1 with fail
  generalize w.alloc (.cells #[.int .u64 (y : Int), .bool false] 117) = w1 at HX HE ⊢
  refine G.wp_region_stab (G := Ext) (fun _ => none) (by kernel_rfl) (by kernel_rfl) (fun _ _ h => by cases h) (fun hex => ?_)
  iterate 11
    (refine G.wpS_one (A := ?_) hex rfl rfl (by simp) ?_ ?_ ?_
     rotate_left 2
     · intro w' hC K hK
       have y0 := (HX.out.ext hC.1).cell 0; have y1 := (HX.out.ext hC.1).cell 1
       go_wp2_with (fail)
       refine hK _ ?_
       first | exact Below.refl _ _ | assumption | ((repeat' (first | (with_reducible exact Below.refl _ _) | (with_reducible assumption) | (with_reducible refine below_drewN ?_ _) | (with_reducible refine Below.alloc ?_ ?_ _) | (with_reducible refine Below.drew ?_) | (with_reducible refine Below.setCell ?_ ?_ _) | (with_reducible refine Below.trans ?_ (Below.mono (by with_reducible assumption) ?_)) | go_size)))
     rotate_left 1
     · rfl
     clear hex; intro hex)
  refine G.wpS_nil fun w2 hAll => ?_
  have hE := hAll.1
  have HE2 := Lib.hid (bel_call HE.out hE)
  clear hE hex hAll HX HE
  go_wp2_with fail
  go_ret
  exact ⟨rfl, HE2.out⟩
set_option maxHeartbeats 1000000 in
set_option maxRecDepth 20000 in
theorem within_out (g k y : Nat) (w : World) (h : Blk w g (pcl k) 122) (hk : ¬ k < y) (hT : k < T64) :
    Calls Tryd.prog 120 #[.pointer (some ⟨g, 0, none⟩), .agg #[.int .u64 (y : Int), .bool true]] w fun e w' => e = .returned (.bool false) ∧ Blk w' g (pcl (k - y)) 122 ∧ Fr (fun j => j = g) w w' := by
  have hx := ext_box w #[.int .u64 (y : Int), .bool true] 117
  have HX := Lib.hid (Blk.new w #[.int .u64 (y : Int), .bool true] 117)
  have HB := Lib.hid (h.ext hx)
  have HE := Lib.hid hx
  obtain ⟨r, rfl⟩ : ∃ r, k = r + y := ⟨k - y, by omega⟩
  have hr : r < 18446744073709551616 := by unfold T64 at hT; omega
  rw [Nat.add_sub_cancel]
  clear h hx hk hT
  go_enter Tryd.func120, Tryd.ntmps120
  go_upto_region 1 with fail
  generalize w.alloc (.cells #[.int .u64 (y : Int), .bool true] 117) = w1 at HB HX HE ⊢
  refine G.wp_region_stab (G := Ext) (fun _ => none) (by kernel_rfl) (by kernel_rfl) (fun _ _ h => by cases h) (fun hex => ?_)
  iterate 11
    (refine G.wpS_one (A := ?_) hex rfl rfl (by simp) ?_ ?_ ?_
     rotate_left 2
     · intro w' hC K hK
       have z0 := (HB.out.ext hC.1).cell 0; have y0 := (HX.out.ext hC.1).cell 0; have y1 := (HX.out.ext hC.1).cell 1
       go_wp2_with (fail)
       refine hK _ ?_
       first | exact Below.refl _ _ | assumption | ((repeat' (first | (with_reducible exact Below.refl _ _) | (with_reducible assumption) | (with_reducible refine below_drewN ?_ _) | (with_reducible refine Below.alloc ?_ ?_ _) | (with_reducible refine Below.drew ?_) | (with_reducible refine Below.setCell ?_ ?_ _) | (with_reducible refine Below.trans ?_ (Below.mono (by with_reducible assumption) ?_)) | go_size)))
     rotate_left 1
     · rfl
     clear hex; intro hex)
  refine G.wpS_nil fun w2 hAll => ?_
  have hE := hAll.1
  have HB2 := Lib.hid (HB.out.ext hE)
  have HX2 := Lib.hid (HX.out.ext hE)
  have HE2 := Lib.hid (bel_call HE.out hE)
  clear hE hex hAll HB HX HE
  go_upto_region 3 with fail
  have z0 := HB2.out.cell 0
  have y0 := HX2.out.cell 0
  have f0 := HB2.out.free 0
  go_region
  have HB3 := Lib.hid ((HB2.out.set 0 (.int .u64 (r : Int))).ext (drew_xt _))
  have HF3 := Lib.hid (((Fr.of_ext (S := fun j => j = g) HE2.out).set (b := g) (i := 0) (.inl rfl) (.int .u64 (r : Int))).trans (Fr.of_ext (S := fun _ => False) (drew_xt _)) (fun _ _ q => q.elim))
  go_wp2_with fail
  go_ret
  exact ⟨rfl, HB3.out, HF3.out⟩
theorem within_any (g k y : Nat) (w : World) (h : Blk w g (pcl k) 122) (hT : k < T64) :
    Calls Tryd.prog 120 #[.pointer (some ⟨g, 0, none⟩), cv y] w fun e w' => e = .returned (.bool (decide (k < y))) ∧ Blk w' g (pcl (if k < y then k else k - y)) 122 ∧ Fr (fun j => j = g) w w' := by
  unfold cv
  by_cases hk : k < y
  · rw [decide_eq_true hk, if_pos hk]
    by_cases hy : y < T64
    · rw [sN_of hy, sB_of hy]
      refine (within_in g k y w h hk).mono ?_
      rintro e w' ⟨rfl, hx⟩
      exact ⟨rfl, h.ext hx, Fr.of_ext hx⟩
    · rw [sB_not hy]
      refine (within_great g _ w).mono ?_
      rintro e w' ⟨rfl, hx⟩
      exact ⟨rfl, h.ext hx, Fr.of_ext hx⟩
  · rw [decide_eq_false hk, if_neg hk]
    have hy : y < T64 := by omega
    rw [sN_of hy, sB_of hy]
    exact within_out g k y w h hk hT
end Go.Proofs.YtniamfaiamgncaaDoor
