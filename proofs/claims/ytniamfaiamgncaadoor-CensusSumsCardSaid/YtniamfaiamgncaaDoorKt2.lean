/- Package census: a count is added to another one; a place among things of which some are counted. -/
import Derived.Test.YtniamfaiamgncaaDoorKt1
namespace Go.Proofs.YtniamfaiamgncaaDoor
open Go Go.RowKit
set_option maxHeartbeats 1000000 in
set_option maxRecDepth 20000 in
theorem add_in (b a c : Nat) (w : World) (h : Blk w b #[.int .u64 (a : Int), .bool true] 117) (h3 : a + c < T64) :
    Calls Tryd.prog 119 #[.pointer (some ⟨b, 0, none⟩), .agg #[.int .u64 (c : Int), .bool true]] w fun e w' => e = .returned (.tuple #[]) ∧ Blk w' b #[.int .u64 ((a + c : Nat) : Int), .bool true] 117 ∧ Fr (fun g => g = b) w w' := by
  have e1 : (a + c) % T64 = a + c := Nat.mod_eq_of_lt h3
  have e2 : (a + c) / T64 = 0 := Nat.div_eq_of_lt h3
  have hx := ext_box w #[.int .u64 (c : Int), .bool true] 117
  have HX := Lib.hid (Blk.new w #[.int .u64 (c : Int), .bool true] 117)
  have HB := Lib.hid (h.ext hx)
  have HE := Lib.hid hx
  have HL := Lib.hid h.lt
  have HA := Lib.hid (fun w => add64 a c w)
  rw [e1, e2] at HA
  clear h hx e1 e2
  go_enter Tryd.func119, Tryd.ntmps119
  go_upto_region 1 with fail
  generalize w.alloc (.cells #[.int .u64 (c : Int), .bool true] 117) = w1 at HB HX HE ⊢
  refine G.wp_region_stab (G := Ext) (fun _ => none) (by kernel_rfl) (by kernel_rfl) (fun _ _ h => by cases h) (fun hex => ?_)
  iterate 12
    (refine G.wpS_one (A := ?_) hex rfl rfl (by simp) ?_ ?_ ?_
     rotate_left 2
     · intro w' hC K hK
       have z0 := (HB.out.ext hC.1).cell 0; have y0 := (HX.out.ext hC.1).cell 0
       go_wp2_with (simp only [HA.out])
       refine hK _ ?_
       first | exact Below.refl _ _ | assumption | ((repeat' (first | (with_reducible exact Below.refl _ _) | (with_reducible assumption) | (with_reducible refine below_drewN ?_ _) | (with_reducible refine Below.alloc ?_ ?_ _) | (with_reducible refine Below.drew ?_) | (with_reducible refine Below.setCell ?_ ?_ _) | (with_reducible refine Below.trans ?_ (Below.mono (by with_reducible assumption) ?_)) | go_size)))
     rotate_left 1
     · rfl
     clear hex; intro hex)
  refine G.wpS_nil fun w2 hAll => ?_
  have hE := hAll.1
  have HB2 := Lib.hid (HB.out.ext hE)
  have HX2 := Lib.hid (HX.out.ext hE)
  have HE2 := Lib.hid (bel_call HE.out hE)
  clear hE hex hAll HB HX HE
  go_upto_region 2 with fail
  have z0 := HB2.out.cell 0
  have z1 := HB2.out.cell 1
  have y0 := HX2.out.cell 0
  have y1 := HX2.out.cell 1
  have f0 := HB2.out.free 0
  have f1 := HB2.out.free 1
  go_region
  have HB3 := Lib.hid (((HB2.out.set 0 (.int .u64 ((a : Int) + (c : Int)))).set 1 (.bool true)).ext (drew_xt _))
  have HF3 := Lib.hid ((((Fr.of_ext (S := fun g => g = b) HE2.out).set (b := b) (i := 0) (.inl rfl) (.int .u64 ((a : Int) + (c : Int)))).set (b := b) (i := 1) (.inl rfl) (.bool true)).trans (Fr.of_ext (S := fun _ => False) (drew_xt _)) (fun _ _ q => q.elim))
  generalize ((w2.setCell ⟨b, 0, none⟩ (.int .u64 ((a : Int) + (c : Int)))).setCell ⟨b, 1, none⟩ (.bool true)).drew = w3 at HB3 HF3 ⊢
  clear z0 z1 y0 y1 f0 f1
  have z1 := HB3.out.cell 1
  have z0 := HB3.out.cell 0
  have f0 := HB3.out.free 0
  go_wp2_with fail
  first | go_end0 | refine bodyPost_ret (results_none rfl _ _ _) rfl ?_
  exact ⟨rfl, HB3.out, HF3.out⟩
set_option maxHeartbeats 1000000 in
set_option maxRecDepth 20000 in
theorem add_over (b a c : Nat) (w : World) (h : Blk w b #[.int .u64 (a : Int), .bool true] 117) (h3 : ¬ a + c < T64) (ha : a < T64) (hc : c < T64) :
    Calls Tryd.prog 119 #[.pointer (some ⟨b, 0, none⟩), .agg #[.int .u64 (c : Int), .bool true]] w fun e w' => e = .returned (.tuple #[]) ∧ Blk w' b #[.int .u64 18446744073709551615, .bool false] 117 ∧ Fr (fun g => g = b) w w' := by
  have e1 : (a + c) % T64 = a + c - T64 := by unfold T64 at *; omega
  have e2 : (a + c) / T64 = 1 := by unfold T64 at *; omega
  obtain ⟨s, hs⟩ : ∃ s, a + c - T64 = s := ⟨_, rfl⟩
  rw [hs] at e1
  clear hs h3 ha hc
  have hx := ext_box w #[.int .u64 (c : Int), .bool true] 117
  have HX := Lib.hid (Blk.new w #[.int .u64 (c : Int), .bool true] 117)
  have HB := Lib.hid (h.ext hx)
  have HE := Lib.hid hx
  have HL := Lib.hid h.lt
  have HA := Lib.hid (fun w => add64 a c w)
  rw [e1, e2] at HA
  clear h hx e1 e2
  go_enter Tryd.func119, Tryd.ntmps119
  go_upto_region 1 with fail
  generalize w.alloc (.cells #[.int .u64 (c : Int), .bool true] 117) = w1 at HB HX HE ⊢
  refine G.wp_region_stab (G := Ext) (fun _ => none) (by kernel_rfl) (by kernel_rfl) (fun _ _ h => by cases h) (fun hex => ?_)
  iterate 12
    (refine G.wpS_one (A := ?_) hex rfl rfl (by simp) ?_ ?_ ?_
     rotate_left 2
     · intro w' hC K hK
       have z0 := (HB.out.ext hC.1).cell 0; have y0 := (HX.out.ext hC.1).cell 0
       go_wp2_with (simp only [HA.out])
       refine hK _ ?_
       first | exact Below.refl _ _ | assumption | ((repeat' (first | (with_reducible exact Below.refl _ _) | (with_reducible assumption) | (with_reducible refine below_drewN ?_ _) | (with_reducible refine Below.alloc ?_ ?_ _) | (with_reducible refine Below.drew ?_) | (with_reducible refine Below.setCell ?_ ?_ _) | (with_reducible refine Below.trans ?_ (Below.mono (by with_reducible assumption) ?_)) | go_size)))
     rotate_left 1
     · rfl
     clear hex; intro hex)
  refine G.wpS_nil fun w2 hAll => ?_
  have hE := hAll.1
  have HB2 := Lib.hid (HB.out.ext hE)
  have HX2 := Lib.hid (HX.out.ext hE)
  have HE2 := Lib.hid (bel_call HE.out hE)
  clear hE hex hAll HB HX HE
  go_upto_region 2 with fail
  have z0 := HB2.out.cell 0
  have z1 := HB2.out.cell 1
  have y0 := HX2.out.cell 0
  have y1 := HX2.out.cell 1
  have f0 := HB2.out.free 0
  have f1 := HB2.out.free 1
  go_region
  have HB3 := Lib.hid (((HB2.out.set 0 (.int .u64 (s))).set 1 (.bool false)).ext (drew_xt _))
  have HF3 := Lib.hid ((((Fr.of_ext (S := fun g => g = b) HE2.out).set (b := b) (i := 0) (.inl rfl) (.int .u64 (s))).set (b := b) (i := 1) (.inl rfl) (.bool false)).trans (Fr.of_ext (S := fun _ => False) (drew_xt _)) (fun _ _ q => q.elim))
  generalize ((w2.setCell ⟨b, 0, none⟩ (.int .u64 (s))).setCell ⟨b, 1, none⟩ (.bool false)).drew = w3 at HB3 HF3 ⊢
  clear z0 z1 y0 y1 f0 f1
  have z1 := HB3.out.cell 1
  have z0 := HB3.out.cell 0
  have f0 := HB3.out.free 0
  go_wp2_with fail
  first | go_end0 | refine bodyPost_ret (results_none rfl _ _ _) rfl ?_
  have HB4 := HB3.out.set 0 (.int .u64 18446744073709551615)
  have HF4 := HF3.out.set (b := b) (i := 0) (.inl rfl) (.int .u64 18446744073709551615)
  exact ⟨rfl, HB4, HF4⟩
set_option maxHeartbeats 1000000 in
set_option maxRecDepth 20000 in
theorem add_some (b a c : Nat) (w : World) (h : Blk w b #[.int .u64 (a : Int), .bool true] 117) :
    Calls Tryd.prog 119 #[.pointer (some ⟨b, 0, none⟩), .agg #[.int .u64 (c : Int), .bool false]] w fun e w' => e = .returned (.tuple #[]) ∧ Blk w' b #[.int .u64 18446744073709551615, .bool false] 117 ∧ Fr (fun g => g = b) w w' := by
  obtain ⟨s, e1⟩ : ∃ s, (a + c) % T64 = s := ⟨_, rfl⟩
  obtain ⟨k, e2⟩ : ∃ s, (a + c) / T64 = s := ⟨_, rfl⟩
  have hx := ext_box w #[.int .u64 (c : Int), .bool false] 117
  have HX := Lib.hid (Blk.new w #[.int .u64 (c : Int), .bool false] 117)
  have HB := Lib.hid (h.ext hx)
  have HE := Lib.hid hx
  have HL := Lib.hid h.lt
  have HA := Lib.hid (fun w => add64 a c w)
  rw [e1, e2] at HA
  clear h hx e1 e2
  go_enter Tryd.func119, Tryd.ntmps119
  go_upto_region 1 with fail
  generalize w.alloc (.cells #[.int .u64 (c : Int), .bool false] 117) = w1 at HB HX HE ⊢
  refine G.wp_region_stab (G := Ext) (fun _ => none) (by kernel_rfl) (by kernel_rfl) (fun _ _ h => by cases h) (fun hex => ?_)
  iterate 12
    (refine G.wpS_one (A := ?_) hex rfl rfl (by simp) ?_ ?_ ?_
     rotate_left 2
     · intro w' hC K hK
       have z0 := (HB.out.ext hC.1).cell 0; have y0 := (HX.out.ext hC.1).cell 0
       go_wp2_with (simp only [HA.out])
       refine hK _ ?_
       first | exact Below.refl _ _ | assumption | ((repeat' (first | (with_reducible exact Below.refl _ _) | (with_reducible assumption) | (with_reducible refine below_drewN ?_ _) | (with_reducible refine Below.alloc ?_ ?_ _) | (with_reducible refine Below.drew ?_) | (with_reducible refine Below.setCell ?_ ?_ _) | (with_reducible refine Below.trans ?_ (Below.mono (by with_reducible assumption) ?_)) | go_size)))
     rotate_left 1
     · rfl
     clear hex; intro hex)
  refine G.wpS_nil fun w2 hAll => ?_
  have hE := hAll.1
  have HB2 := Lib.hid (HB.out.ext hE)
  have HX2 := Lib.hid (HX.out.ext hE)
  have HE2 := Lib.hid (bel_call HE.out hE)
  clear hE hex hAll HB HX HE
  go_upto_region 2 with fail
  have z0 := HB2.out.cell 0
  have z1 := HB2.out.cell 1
  have y0 := HX2.out.cell 0
  have y1 := HX2.out.cell 1
  have f0 := HB2.out.free 0
  have f1 := HB2.out.free 1
  go_region
  have HB3 := Lib.hid (((HB2.out.set 0 (.int .u64 (s))).set 1 (.bool false)).ext (drew_xt _))
  have HF3 := Lib.hid ((((Fr.of_ext (S := fun g => g = b) HE2.out).set (b := b) (i := 0) (.inl rfl) (.int .u64 (s))).set (b := b) (i := 1) (.inl rfl) (.bool false)).trans (Fr.of_ext (S := fun _ => False) (drew_xt _)) (fun _ _ q => q.elim))
  generalize ((w2.setCell ⟨b, 0, none⟩ (.int .u64 (s))).setCell ⟨b, 1, none⟩ (.bool false)).drew = w3 at HB3 HF3 ⊢
  clear z0 z1 y0 y1 f0 f1
  have z1 := HB3.out.cell 1
  have z0 := HB3.out.cell 0
  have f0 := HB3.out.free 0
  go_wp2_with fail
  first | go_end0 | refine bodyPost_ret (results_none rfl _ _ _) rfl ?_
  have HB4 := HB3.out.set 0 (.int .u64 18446744073709551615)
  have HF4 := HF3.out.set (b := b) (i := 0) (.inl rfl) (.int .u64 18446744073709551615)
  exact ⟨rfl, HB4, HF4⟩
set_option maxHeartbeats 1000000 in
set_option maxRecDepth 20000 in
theorem add_none (b a c : Nat) (q : Bool) (w : World) (h : Blk w b #[.int .u64 (a : Int), .bool false] 117) :
    Calls Tryd.prog 119 #[.pointer (some ⟨b, 0, none⟩), .agg #[.int .u64 (c : Int), .bool q]] w fun e w' => e = .returned (.tuple #[]) ∧ Blk w' b #[.int .u64 18446744073709551615, .bool false] 117 ∧ Fr (fun g => g = b) w w' := by
  obtain ⟨s, e1⟩ : ∃ s, (a + c) % T64 = s := ⟨_, rfl⟩
  obtain ⟨k, e2⟩ : ∃ s, (a + c) / T64 = s := ⟨_, rfl⟩
  have hx := ext_box w #[.int .u64 (c : Int), .bool q] 117
  have HX := Lib.hid (Blk.new w #[.int .u64 (c : Int), .bool q] 117)
  have HB := Lib.hid (h.ext hx)
  have HE := Lib.hid hx
  have HL := Lib.hid h.lt
  have HA := Lib.hid (fun w => add64 a c w)
  rw [e1, e2] at HA
  clear h hx e1 e2
  go_enter Tryd.func119, Tryd.ntmps119
  go_upto_region 1 with fail
  generalize w.alloc (.cells #[.int .u64 (c : Int), .bool q] 117) = w1 at HB HX HE ⊢
  refine G.wp_region_stab (G := Ext) (fun _ => none) (by kernel_rfl) (by kernel_rfl) (fun _ _ h => by cases h) (fun hex => ?_)
  iterate 12
    (refine G.wpS_one (A := ?_) hex rfl rfl (by simp) ?_ ?_ ?_
     rotate_left 2
     · intro w' hC K hK
       have z0 := (HB.out.ext hC.1).cell 0; have y0 := (HX.out.ext hC.1).cell 0
       go_wp2_with (simp only [HA.out])
       refine hK _ ?_
       first | exact Below.refl _ _ | assumption | ((repeat' (first | (with_reducible exact Below.refl _ _) | (with_reducible assumption) | (with_reducible refine below_drewN ?_ _) | (with_reducible refine Below.alloc ?_ ?_ _) | (with_reducible refine Below.drew ?_) | (with_reducible refine Below.setCell ?_ ?_ _) | (with_reducible refine Below.trans ?_ (Below.mono (by with_reducible assumption) ?_)) | go_size)))
     rotate_left 1
     · rfl
     clear hex; intro hex)
  refine G.wpS_nil fun w2 hAll => ?_
  have hE := hAll.1
  have HB2 := Lib.hid (HB.out.ext hE)
  have HX2 := Lib.hid (HX.out.ext hE)
  have HE2 := Lib.hid (bel_call HE.out hE)
  clear hE hex hAll HB HX HE
  go_upto_region 2 with fail
  have z0 := HB2.out.cell 0
  have z1 := HB2.out.cell 1
  have y0 := HX2.out.cell 0
  have y1 := HX2.out.cell 1
  have f0 := HB2.out.free 0
  have f1 := HB2.out.free 1
  go_region
  have HB3 := Lib.hid (((HB2.out.set 0 (.int .u64 (s))).set 1 (.bool false)).ext (drew_xt _))
  have HF3 := Lib.hid ((((Fr.of_ext (S := fun g => g = b) HE2.out).set (b := b) (i := 0) (.inl rfl) (.int .u64 (s))).set (b := b) (i := 1) (.inl rfl) (.bool false)).trans (Fr.of_ext (S := fun _ => False) (drew_xt _)) (fun _ _ q => q.elim))
  generalize ((w2.setCell ⟨b, 0, none⟩ (.int .u64 (s))).setCell ⟨b, 1, none⟩ (.bool false)).drew = w3 at HB3 HF3 ⊢
  clear z0 z1 y0 y1 f0 f1
  have z1 := HB3.out.cell 1
  have z0 := HB3.out.cell 0
  have f0 := HB3.out.free 0
  go_wp2_with fail
  first | go_end0 | refine bodyPost_ret (results_none rfl _ _ _) rfl ?_
  have HB4 := HB3.out.set 0 (.int .u64 18446744073709551615)
  have HF4 := HF3.out.set (b := b) (i := 0) (.inl rfl) (.int .u64 18446744073709551615)
  exact ⟨rfl, HB4, HF4⟩
theorem add_any (b x y : Nat) (w : World) (h : Blk w b (cc x) 117) :
    Calls Tryd.prog 119 #[.pointer (some ⟨b, 0, none⟩), cv y] w fun e w' => e = .returned (.tuple #[]) ∧ Blk w' b (cc (x + y)) 117 ∧ Fr (fun g => g = b) w w' := by
  have hT : ¬ x + y < T64 → cc (x + y) = #[.int .u64 18446744073709551615, .bool false] := fun q => by unfold cc; rw [sN_not q, sB_not q]; rfl
  unfold cv
  unfold cc at h
  by_cases hx : x < T64
  · rw [sN_of hx, sB_of hx] at h
    by_cases hy : y < T64
    · rw [sN_of hy, sB_of hy]
      by_cases hz : x + y < T64
      · have := add_in b x y w h hz
        unfold cc; rw [sN_of hz, sB_of hz]; exact this
      · rw [hT hz]; exact add_over b x y w h hz hx hy
    · rw [hT (by omega), sB_not hy]; exact add_some b x _ w h
  · rw [hT (by omega)]
    rw [sB_not hx] at h
    exact add_none b _ _ _ w h
end Go.Proofs.YtniamfaiamgncaaDoor
