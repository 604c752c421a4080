/- What wakes layer 12. -/
import Derived.Test.YtnnkomdkggepjaaDoorMay
import Derived.Test.YtnnkomdkggepjaaDoorWkp
import Derived.Test.YtnnkomdkggepjaaDoorRwl
import Derived.Test.YtnnkomdkggepjaaDoorLst2
import Derived.Test.YtnnkomdkggepjaaDoorCnl
namespace Go.Proofs.YtnnkomdkggepjaaDoor
open Go Go.RowKit
theorem ints_blk {w : World} {b : Nat} {L : List Int} {t : TypeId} (h : Blk w b (L.map iv).toArray t) (hl : L.length ≤ 140737488355328) (hr : ∀ x ∈ L, -9223372036854775808 ≤ x ∧ x ≤ 9223372036854775807) : Ints w (.slice (some ⟨b, 0, none⟩) L.length L.length) L :=
  ⟨⟨_, _, rfl, Nat.le_refl _, ⟨hl, by unfold maxLen; omega⟩, .inr ⟨b, 0, rfl, h.lt, fun i hi => by rw [h.cell, Nat.zero_add]; simp⟩⟩, hr⟩
theorem rws_blk {w : World} {b : Nat} {vs : List Value} {R : List (List Int)} {t : TypeId} (h : Blk w b vs.toArray t) (hv : vs.length = R.length) (hl : R.length ≤ 140737488355328) (hr : ∀ (i : Nat) (h : i < R.length), ∃ u, vs[i]? = some u ∧ Ints w u R[i]) : Rws w (.slice (some ⟨b, 0, none⟩) R.length R.length) R :=
  ⟨vs, hv, ⟨_, _, rfl, Nat.le_refl _, ⟨hl, by unfold maxLen; omega⟩, .inr ⟨b, 0, rfl, h.lt, fun i hi => by rw [h.cell, Nat.zero_add]; simp⟩⟩, hr⟩
def rep (y : Int) : List Int := List.replicate 256 y
theorem rep_len (y : Int) : (rep y).length = 256 := List.length_replicate
theorem rep_in {w : World} {B : Nat} {v : Value} {y : Int} (h : w.ownsRow B 3 1 v 256 ((List.replicate 256 y).map iv)) (h1 : -9223372036854775808 ≤ y ∧ y ≤ 9223372036854775807) : Ints w v (rep y) := by
  refine ⟨?_, fun x hx => by rw [List.eq_of_mem_replicate hx]; exact h1⟩
  rw [rep_len]; exact Slc.of_own h (by omega)
def s256 (g : Nat) : Value := .slice (some ⟨g, 0, none⟩) 256 256
theorem lay_wd {w : World} {g1 g2 g3 : Nat} (i1 : Ints w (s256 g1) (rep 1)) (i2 : Ints w (s256 g2) (rep 2)) (i3 : Ints w (s256 g3) (rep 1)) :
    Dns (((w.alloc (.cells #[s256 g1, s256 g2, s256 g3] 24)).alloc (.cells #[.int .i64 (-1), .int .i64 0, .int .i64 0] 3)).alloc (.cells #[.slice (some ⟨w.heap.size, 0, none⟩) 3 3, .slice (some ⟨w.heap.size + 1, 0, none⟩) 3 3] 26))
      (.agg #[.slice (some ⟨w.heap.size, 0, none⟩) 3 3, .slice (some ⟨w.heap.size + 1, 0, none⟩) 3 3]) wD ∧
    Blk (((w.alloc (.cells #[s256 g1, s256 g2, s256 g3] 24)).alloc (.cells #[.int .i64 (-1), .int .i64 0, .int .i64 0] 3)).alloc (.cells #[.slice (some ⟨w.heap.size, 0, none⟩) 3 3, .slice (some ⟨w.heap.size + 1, 0, none⟩) 3 3] 26))
      (w.heap.size + 1 + 1) #[.slice (some ⟨w.heap.size, 0, none⟩) 3 3, .slice (some ⟨w.heap.size + 1, 0, none⟩) 3 3] 26 ∧
    Ext w (((w.alloc (.cells #[s256 g1, s256 g2, s256 g3] 24)).alloc (.cells #[.int .i64 (-1), .int .i64 0, .int .i64 0] 3)).alloc (.cells #[.slice (some ⟨w.heap.size, 0, none⟩) 3 3, .slice (some ⟨w.heap.size + 1, 0, none⟩) 3 3] 26)) := by
  have hE : Ext w (((w.alloc (.cells #[s256 g1, s256 g2, s256 g3] 24)).alloc (.cells #[.int .i64 (-1), .int .i64 0, .int .i64 0] 3)).alloc (.cells #[.slice (some ⟨w.heap.size, 0, none⟩) 3 3, .slice (some ⟨w.heap.size + 1, 0, none⟩) 3 3] 26)) := by go_grown
  have b1 := ((Blk.new w #[s256 g1, s256 g2, s256 g3] 24).alloc (.cells #[.int .i64 (-1), .int .i64 0, .int .i64 0] 3)).alloc (.cells #[.slice (some ⟨w.heap.size, 0, none⟩) 3 3, .slice (some ⟨w.heap.size + 1, 0, none⟩) 3 3] 26)
  have b2 := (Blk.new (w.alloc (.cells #[s256 g1, s256 g2, s256 g3] 24)) #[.int .i64 (-1), .int .i64 0, .int .i64 0] 3).alloc (.cells #[.slice (some ⟨w.heap.size, 0, none⟩) 3 3, .slice (some ⟨w.heap.size + 1, 0, none⟩) 3 3] 26)
  have b3 := Blk.new ((w.alloc (.cells #[s256 g1, s256 g2, s256 g3] 24)).alloc (.cells #[.int .i64 (-1), .int .i64 0, .int .i64 0] 3)) #[.slice (some ⟨w.heap.size, 0, none⟩) 3 3, .slice (some ⟨w.heap.size + 1, 0, none⟩) 3 3] 26
  rw [show (w.alloc (.cells #[s256 g1, s256 g2, s256 g3] 24)).heap.size = w.heap.size + 1 by simp] at b2
  rw [show ((w.alloc (.cells #[s256 g1, s256 g2, s256 g3] 24)).alloc (.cells #[.int .i64 (-1), .int .i64 0, .int .i64 0] 3)).heap.size = w.heap.size + 1 + 1 by simp] at b3
  refine ⟨⟨_, _, rfl, rws_blk (vs := [s256 g1, s256 g2, s256 g3]) b1 rfl (by decide) (fun i hi => ?_), ints_blk (L := [-1, 0, 0]) b2 (by decide) (by decide)⟩, b3, hE⟩
  have hi : i < 3 := hi
  rcases i with _ | _ | _ | i
  · exact ⟨_, rfl, i1.ext hE⟩
  · exact ⟨_, rfl, i2.ext hE⟩
  · exact ⟨_, rfl, i3.ext hE⟩
  · omega
theorem cls_uniq3 {c : List Int} (h : ClsOk wD.nx.length (fun i k => Beq (wD.beh i) (wD.beh k)) c) : c = [0, 1, 1] := h.uniq wD_cls
theorem lay_rr {w : World} {g1 g2 : Nat} (i1 : Ints w (.slice (some ⟨g1, 0, none⟩) 256 256) (rep 1)) (i2 : Ints w (.slice (some ⟨g2, 0, none⟩) 256 256) (rep 1)) :
    Rws (w.alloc (.cells #[.slice (some ⟨g1, 0, none⟩) 256 256, .slice (some ⟨g2, 0, none⟩) 256 256] 24)) (.slice (some ⟨w.heap.size, 0, none⟩) 2 2) [rep 1, rep 1] := by
  have hx : Ext w (w.alloc (.cells #[.slice (some ⟨g1, 0, none⟩) 256 256, .slice (some ⟨g2, 0, none⟩) 256 256] 24)) := by go_grown
  refine rws_blk (vs := [.slice (some ⟨g1, 0, none⟩) 256 256, .slice (some ⟨g2, 0, none⟩) 256 256]) (Blk.new _ _ _) rfl (by decide) (fun i hi => ?_)
  have hi : i < 2 := hi
  rcases i with _ | _ | i
  · exact ⟨_, rfl, i1.ext hx⟩
  · exact ⟨_, rfl, i2.ext hx⟩
  · omega
theorem lay_wm {w : World} {u v : Value} (h1 : Rws w u [rep 1, rep 1]) (h2 : Ints w v [-1, 0]) : Dns w (.agg #[u, v]) wM := ⟨u, v, rfl, h1, h2⟩
/-- What is said of operations, by their numbers. -/
def RsF (l : List (Nat × (Value → World → Prop))) : Nat → Option (Value → World → Prop) := fun j => (l.find? fun p => p.1 == j).map fun p => p.2
theorem RsF_mono {Z : World → World → Prop} {l : List (Nat × (Value → World → Prop))} (h : ∀ p ∈ l, G.Mono Z p.2) : G.RsMono Z (RsF l) := by
  intro j R hj
  unfold RsF at hj
  obtain ⟨p, hp, rfl⟩ := Option.map_eq_some_iff.1 hj
  exact h p (List.mem_of_find?_eq_some hp)
def RI (L : List Int) (v : Value) (w : World) : Prop := ∃ b, v = .slice (some ⟨b, 0, none⟩) L.length L.length ∧ Ints w v L
theorem RI_mono (L : List Int) : G.Mono Ext (RI L) := fun _ _ _ hx ⟨b, h1, h2⟩ => ⟨b, h1, h2.ext hx⟩
def RR (R : List (List Int)) (v : Value) (w : World) : Prop := ∃ b, v = .slice (some ⟨b, 0, none⟩) R.length R.length ∧ Rws w v R
theorem RR_mono (R : List (List Int)) : G.Mono Ext (RR R) := fun _ _ _ hx ⟨b, h1, h2⟩ => ⟨b, h1, h2.ext hx⟩
def Rg (y : Int) (v : Value) (w : World) : Prop := ∃ g, v = s256 g ∧ Ints w v (rep y)
theorem Rg_mono (y : Int) : G.Mono Ext (Rg y) := fun _ _ _ hx ⟨b, h1, h2⟩ => ⟨b, h1, h2.ext hx⟩
def RD (d : Dd) (v : Value) (w : World) : Prop := ∃ a b, v = .agg #[a, b] ∧ Dns w v d
theorem RD_mono (d : Dd) : G.Mono Ext (RD d) := fun _ _ _ hx ⟨a, b, h1, h2⟩ => ⟨a, b, h1, h2.ext hx⟩
set_option maxHeartbeats 4000000 in
set_option maxRecDepth 20000 in
theorem wakes12_any (w : World) : Calls Tryd.prog 14 #[] w fun e w' => e = .returned (.bool true) ∧ Ext w w' := by
  go_enter Tryd.func14, Tryd.ntmps14
  go_wp2_with fail
  refine (row_any 1 _).mono ?_
  rintro e w1 ⟨g1, rfl, o1, E1⟩
  have I1 := Lib.hid (rep_in o1 (by omega))
  have E1 := Lib.hid E1
  clear o1
  go_wp2_with fail
  refine (row_any 2 _).mono ?_
  rintro e w2 ⟨g2, rfl, o2, E2⟩
  have I1 := Lib.hid (I1.out.ext E2)
  have I2 := Lib.hid (rep_in o2 (by omega))
  have E2 := Lib.hid (bel_call E1.out E2)
  clear o2 E1
  go_wp2_with fail
  refine (row_any 1 _).mono ?_
  rintro e w3 ⟨g3, rfl, o3, E3⟩
  have I1 := Lib.hid (I1.out.ext E3)
  have I2 := Lib.hid (I2.out.ext E3)
  have I3 := Lib.hid (rep_in o3 (by omega))
  have E3 := Lib.hid (bel_call E2.out E3)
  clear o3 E2
  go_wp2_with fail
  obtain ⟨d4, b4, e4⟩ := lay_wd I1.out I2.out I3.out
  have D4 := Lib.hid d4
  have B4 := Lib.hid b4
  have E4 := Lib.hid (bel_call E3.out e4)
  clear I1 I2 I3 E3 d4 b4 e4
  unfold s256 at D4 B4 E4
  generalize (((w3.alloc (.cells #[.slice (some ⟨g1, 0, none⟩) 256 256, .slice (some ⟨g2, 0, none⟩) 256 256, .slice (some ⟨g3, 0, none⟩) 256 256] 24)).alloc (.cells #[.int .i64 (-1), .int .i64 0, .int .i64 0] 3)).alloc (.cells #[.slice (some ⟨w3.heap.size, 0, none⟩) 3 3, .slice (some ⟨w3.heap.size + 1, 0, none⟩) 3 3] 26)) = w4 at *
  generalize w3.heap.size = s3 at *
  refine (classes_ok wD _ _ wD_ok D4.out).mono ?_
  rintro e w5 ⟨vc, c, rfl, oc, hc, hcb, e5⟩
  obtain rfl := cls_uniq3 hc
  have IC := Lib.hid (show Ints w5 vc [0, 1, 1] from ⟨Slc.of_own oc (by decide), by decide⟩)
  obtain ⟨ac, kc, rfl⟩ := own_shp oc
  have D5 := Lib.hid (D4.out.ext e5)
  have B5 := Lib.hid (B4.out.ext e5)
  have E5 := Lib.hid (bel_call E4.out e5)
  clear oc hc hcb D4 B4 E4 e5
  have z0 := B5.out.cell 0
  have z1 := B5.out.cell 1
  go_wp2_with fail
  refine (least_ok wD _ _ wD_ok D5.out).mono ?_
  rintro e w6 ⟨m, vN, vL, vs, rfl, cm, om, e6⟩
  obtain rfl := cm.uniq wM_canon (Beq.refl _)
  obtain ⟨aN, kN, rfl⟩ := own_shp om.rn
  obtain ⟨aL, kL, rfl⟩ := own_shp om.rl
  have DM := Lib.hid (om.dns wM_ok)
  have IC6 := Lib.hid (IC.out.ext e6)
  have E6 := Lib.hid (bel_call E5.out e6)
  clear om cm D5 B5 E5 z0 z1 IC e6
  go_upto_region 4 with fail
  have eN : wM.nx.length = 2 := rfl
  have eL : wM.lb.length = 2 := rfl
  rw [eN, eL] at DM ⊢
  clear eN eL
  have HB6 := Lib.hid (Blk.new w6 #[.slice aN 2 kN, .slice aL 2 kL] 26)
  have hx6 : Ext w6 (w6.alloc (.cells #[.slice aN 2 kN, .slice aL 2 kL] 26)) := by go_grown
  have DM7 := Lib.hid (DM.out.ext hx6)
  have IC7 := Lib.hid (IC6.out.ext hx6)
  have E7 := Lib.hid (bel_call E6.out hx6)
  clear DM IC6 E6 hx6
  generalize w6.alloc (.cells #[.slice aN 2 kN, .slice aL 2 kL] 26) = w7 at *
  generalize w6.heap.size = s6 at *
  refine G.wp_region_stab (G := Ext) (RsF [(8, RI [0, 1, 1]), (13, Rg 1), (14, Rg 1), (15, RR [rep 1, rep 1]), (16, RI [-1, 0]), (17, RD wM)]) (by kernel_rfl) (by kernel_rfl) (RsF_mono (by simp only [List.forall_mem_cons, List.not_mem_nil, false_implies, implies_true, and_true]; exact ⟨RI_mono _, Rg_mono _, Rg_mono _, RR_mono _, RI_mono _, RD_mono _⟩)) (fun hex => ?_)
  iterate 8
    (refine G.wpS_one (A := ?_) hex rfl rfl (by simp) ?_ ?_ ?_
     rotate_left 2
     · intro w' hC K hK
       go_wp2_with (fail)
       refine hK _ ?_
       first | exact Below.refl _ _ | assumption | ((repeat' (first | (with_reducible exact Below.refl _ _) | (with_reducible assumption) | (with_reducible refine below_drewN ?_ _) | (with_reducible refine Below.alloc ?_ ?_ _) | (with_reducible refine Below.drew ?_) | (with_reducible refine Below.setCell ?_ ?_ _) | (with_reducible refine Below.trans ?_ (Below.mono (by with_reducible assumption) ?_)) | go_size)))
     rotate_left 1
     · rfl
     clear hex; intro hex)
  refine G.wpS_rel (RI [0, 1, 1]) rfl rfl (by simp) (by first | rfl | (simp [Region.wanted, yielded]; done)) ?_ ?_
  · intro w' hC K hK
    simp only [Act.put, List.setIfInBounds_toArray, List.set_cons_succ, List.set_cons_zero] at hK
    skip
    go_wp2_with (fail)
    refine hK _ _ ?_ ?_
    · first | exact Below.refl _ _ | assumption | ((repeat' (first | (with_reducible exact Below.refl _ _) | (with_reducible assumption) | (with_reducible refine below_drewN ?_ _) | (with_reducible refine Below.alloc ?_ ?_ _) | (with_reducible refine Below.drew ?_) | (with_reducible refine Below.setCell ?_ ?_ _) | (with_reducible refine Below.trans ?_ (Below.mono (by with_reducible assumption) ?_)) | go_size)))
    · exact ⟨_, rfl, ints_blk (L := [0, 1, 1]) (Blk.new _ _ _) (by decide) (by decide)⟩
  clear hex
  intro v8 w' hex hv8
  replace hex := Exists.intro w' hex
  simp only [Act.put, List.setIfInBounds_toArray, List.set_cons_succ, List.set_cons_zero]
  obtain ⟨b8, rfl, -⟩ := hv8
  refine G.wpS_one (A := ?_) hex rfl rfl (by simp) ?_ ?_ ?_
  rotate_left 2
  · intro w' hC K hK
    have hCx := hC.1; obtain ⟨b, e8, i8⟩ := (hC.2 8 (by simp [Region.binds])).1 rfl; cases e8
    go_wp2_with (go_at_call 11; refine (eqi_any [0, 1, 1] [0, 1, 1] _ _ w' (IC7.out.ext hCx) i8).mono ?_; rintro e w9 ⟨rfl, x9⟩)
    refine hK _ ?_
    first | exact Below.refl _ _ | assumption | ((repeat' (first | (with_reducible exact Below.refl _ _) | (with_reducible assumption) | (with_reducible refine below_drewN ?_ _) | (with_reducible refine Below.alloc ?_ ?_ _) | (with_reducible refine Below.drew ?_) | (with_reducible refine Below.setCell ?_ ?_ _) | (with_reducible refine Below.trans ?_ (Below.mono (by with_reducible assumption) ?_)) | go_size)))
  rotate_left 1
  · rfl
  clear hex; intro hex
  iterate 2
    (refine G.wpS_one (A := ?_) hex rfl rfl (by simp) ?_ ?_ ?_
     rotate_left 2
     · intro w' hC K hK
       go_wp2_with (fail)
       refine hK _ ?_
       first | exact Below.refl _ _ | assumption | ((repeat' (first | (with_reducible exact Below.refl _ _) | (with_reducible assumption) | (with_reducible refine below_drewN ?_ _) | (with_reducible refine Below.alloc ?_ ?_ _) | (with_reducible refine Below.drew ?_) | (with_reducible refine Below.setCell ?_ ?_ _) | (with_reducible refine Below.trans ?_ (Below.mono (by with_reducible assumption) ?_)) | go_size)))
     rotate_left 1
     · rfl
     clear hex; intro hex)
  refine G.wpS_one (A := ?_) hex rfl rfl (by simp) ?_ ?_ ?_
  rotate_left 2
  · intro w' hC K hK
    have z0 := (HB6.out.ext hC.1).cell 0; have z1 := (HB6.out.ext hC.1).cell 1
    go_wp2_with (fail)
    refine hK _ ?_
    first | exact Below.refl _ _ | assumption | ((repeat' (first | (with_reducible exact Below.refl _ _) | (with_reducible assumption) | (with_reducible refine below_drewN ?_ _) | (with_reducible refine Below.alloc ?_ ?_ _) | (with_reducible refine Below.drew ?_) | (with_reducible refine Below.setCell ?_ ?_ _) | (with_reducible refine Below.trans ?_ (Below.mono (by with_reducible assumption) ?_)) | go_size)))
  rotate_left 1
  · rfl
  clear hex; intro hex
  refine G.wpS_rel (Rg 1) rfl rfl (by simp) (by first | rfl | (simp [Region.wanted, yielded]; done)) ?_ ?_
  · intro w' hC K hK
    simp only [Act.put, List.setIfInBounds_toArray, List.set_cons_succ, List.set_cons_zero] at hK
    skip
    go_wp2_with (go_at_call 26; refine (row_any 1 _).mono ?_; rintro e w9 ⟨g9, rfl, o9, x9⟩)
    refine hK _ _ ?_ ?_
    · first | exact Below.refl _ _ | assumption | ((repeat' (first | (with_reducible exact Below.refl _ _) | (with_reducible assumption) | (with_reducible refine below_drewN ?_ _) | (with_reducible refine Below.alloc ?_ ?_ _) | (with_reducible refine Below.drew ?_) | (with_reducible refine Below.setCell ?_ ?_ _) | (with_reducible refine Below.trans ?_ (Below.mono (by with_reducible assumption) ?_)) | go_size)))
    · exact ⟨g9, rfl, rep_in o9 (by omega)⟩
  clear hex
  intro v13 w' hex hv13
  replace hex := Exists.intro w' hex
  simp only [Act.put, List.setIfInBounds_toArray, List.set_cons_succ, List.set_cons_zero]
  obtain ⟨g13, rfl, -⟩ := hv13
  refine G.wpS_rel (Rg 1) rfl rfl (by simp) (by first | rfl | (simp [Region.wanted, yielded]; done)) ?_ ?_
  · intro w' hC K hK
    simp only [Act.put, List.setIfInBounds_toArray, List.set_cons_succ, List.set_cons_zero] at hK
    skip
    go_wp2_with (go_at_call 26; refine (row_any 1 _).mono ?_; rintro e w9 ⟨g9, rfl, o9, x9⟩)
    refine hK _ _ ?_ ?_
    · first | exact Below.refl _ _ | assumption | ((repeat' (first | (with_reducible exact Below.refl _ _) | (with_reducible assumption) | (with_reducible refine below_drewN ?_ _) | (with_reducible refine Below.alloc ?_ ?_ _) | (with_reducible refine Below.drew ?_) | (with_reducible refine Below.setCell ?_ ?_ _) | (with_reducible refine Below.trans ?_ (Below.mono (by with_reducible assumption) ?_)) | go_size)))
    · exact ⟨g9, rfl, rep_in o9 (by omega)⟩
  clear hex
  intro v14 w' hex hv14
  replace hex := Exists.intro w' hex
  simp only [Act.put, List.setIfInBounds_toArray, List.set_cons_succ, List.set_cons_zero]
  obtain ⟨g14, rfl, -⟩ := hv14
  unfold s256
  refine G.wpS_rel (RR [rep 1, rep 1]) rfl rfl (by simp) (by first | rfl | (simp [Region.wanted, yielded]; done)) ?_ ?_
  · intro w' hC K hK
    simp only [Act.put, List.setIfInBounds_toArray, List.set_cons_succ, List.set_cons_zero] at hK
    obtain ⟨b, e13, i13⟩ := (hC.2 13 (by simp [Region.binds])).2.1 rfl; cases e13; obtain ⟨b, e14, i14⟩ := (hC.2 14 (by simp [Region.binds])).1 rfl; cases e14
    go_wp2_with (fail)
    refine hK _ _ ?_ ?_
    · first | exact Below.refl _ _ | assumption | ((repeat' (first | (with_reducible exact Below.refl _ _) | (with_reducible assumption) | (with_reducible refine below_drewN ?_ _) | (with_reducible refine Below.alloc ?_ ?_ _) | (with_reducible refine Below.drew ?_) | (with_reducible refine Below.setCell ?_ ?_ _) | (with_reducible refine Below.trans ?_ (Below.mono (by with_reducible assumption) ?_)) | go_size)))
    · exact ⟨_, rfl, lay_rr i13 i14⟩
  clear hex
  intro v15 w' hex hv15
  replace hex := Exists.intro w' hex
  simp only [Act.put, List.setIfInBounds_toArray, List.set_cons_succ, List.set_cons_zero]
  obtain ⟨b15, rfl, -⟩ := hv15
  refine G.wpS_rel (RI [-1, 0]) rfl rfl (by simp) (by first | rfl | (simp [Region.wanted, yielded]; done)) ?_ ?_
  · intro w' hC K hK
    simp only [Act.put, List.setIfInBounds_toArray, List.set_cons_succ, List.set_cons_zero] at hK
    skip
    go_wp2_with (fail)
    refine hK _ _ ?_ ?_
    · first | exact Below.refl _ _ | assumption | ((repeat' (first | (with_reducible exact Below.refl _ _) | (with_reducible assumption) | (with_reducible refine below_drewN ?_ _) | (with_reducible refine Below.alloc ?_ ?_ _) | (with_reducible refine Below.drew ?_) | (with_reducible refine Below.setCell ?_ ?_ _) | (with_reducible refine Below.trans ?_ (Below.mono (by with_reducible assumption) ?_)) | go_size)))
    · exact ⟨_, rfl, ints_blk (L := [-1, 0]) (Blk.new _ _ _) (by decide) (by decide)⟩
  clear hex
  intro v16 w' hex hv16
  replace hex := Exists.intro w' hex
  simp only [Act.put, List.setIfInBounds_toArray, List.set_cons_succ, List.set_cons_zero]
  obtain ⟨b16, rfl, -⟩ := hv16
  refine G.wpS_rel (RD wM) rfl rfl (by simp) (by first | rfl | (simp [Region.wanted, yielded]; done)) ?_ ?_
  · intro w' hC K hK
    simp only [Act.put, List.setIfInBounds_toArray, List.set_cons_succ, List.set_cons_zero] at hK
    obtain ⟨b, e15, i15⟩ := (hC.2 15 (by simp [Region.binds])).2.1 rfl; cases e15; obtain ⟨b, e16, i16⟩ := (hC.2 16 (by simp [Region.binds])).1 rfl; cases e16
    go_wp2_with (fail)
    refine hK _ _ ?_ ?_
    · first | exact Below.refl _ _ | assumption | ((repeat' (first | (with_reducible exact Below.refl _ _) | (with_reducible assumption) | (with_reducible refine below_drewN ?_ _) | (with_reducible refine Below.alloc ?_ ?_ _) | (with_reducible refine Below.drew ?_) | (with_reducible refine Below.setCell ?_ ?_ _) | (with_reducible refine Below.trans ?_ (Below.mono (by with_reducible assumption) ?_)) | go_size)))
    · exact ⟨_, _, rfl, lay_wm i15 i16⟩
  clear hex
  intro v17 w' hex hv17
  replace hex := Exists.intro w' hex
  simp only [Act.put, List.setIfInBounds_toArray, List.set_cons_succ, List.set_cons_zero]
  obtain ⟨x17, y17, rfl, -⟩ := hv17
  refine G.wpS_one (A := ?_) hex rfl rfl (by simp) ?_ ?_ ?_
  rotate_left 2
  · intro w' hC K hK
    have hCx := hC.1; obtain ⟨x, y, e17, i17⟩ := (hC.2 17 (by simp [Region.binds])).1 rfl; cases e17
    go_wp2_with (go_at_call 10; refine (eqd_any wM wM _ _ w' (DM7.out.ext hCx) i17).mono ?_; rintro e w9 ⟨rfl, x9⟩)
    refine hK _ ?_
    first | exact Below.refl _ _ | assumption | ((repeat' (first | (with_reducible exact Below.refl _ _) | (with_reducible assumption) | (with_reducible refine below_drewN ?_ _) | (with_reducible refine Below.alloc ?_ ?_ _) | (with_reducible refine Below.drew ?_) | (with_reducible refine Below.setCell ?_ ?_ _) | (with_reducible refine Below.trans ?_ (Below.mono (by with_reducible assumption) ?_)) | go_size)))
  rotate_left 1
  · rfl
  clear hex; intro hex
  iterate 2
    (refine G.wpS_one (A := ?_) hex rfl rfl (by simp) ?_ ?_ ?_
     rotate_left 2
     · intro w' hC K hK
       go_wp2_with (fail)
       refine hK _ ?_
       first | exact Below.refl _ _ | assumption | ((repeat' (first | (with_reducible exact Below.refl _ _) | (with_reducible assumption) | (with_reducible refine below_drewN ?_ _) | (with_reducible refine Below.alloc ?_ ?_ _) | (with_reducible refine Below.drew ?_) | (with_reducible refine Below.setCell ?_ ?_ _) | (with_reducible refine Below.trans ?_ (Below.mono (by with_reducible assumption) ?_)) | go_size)))
     rotate_left 1
     · rfl
     clear hex; intro hex)
  refine G.wpS_nil fun w9 hAll => ?_
  have hE := hAll.1
  have hE9 := Lib.hid (bel_call E7.out hE)
  clear hE hAll hex
  rw [show eqdB wM wM = true from eqdB_iff.2 rfl]
  go_wp2_with fail
  go_ret
  exact ⟨rfl, hE9.out⟩
end Go.Proofs.YtnnkomdkggepjaaDoor
