/- A text that is too long; what an error says. -/
import Derived.Test.YtnecafokkhhhhaaGreatDoorMC
import Derived.Test.YtnecafokkhhhhaaGreatDoorMG
import Derived.Test.YtnecafokkhhhhaaGreatDoorMF
namespace Go.Proofs.YtnecafokkhhhhaaGreatDoor
open Go Go.RowKit
/-- What a refusal of Lex tells. -/
def dr (r : Option (Bool × Nat)) : Option (Nat × Int) := r.map fun x => (if x.1 = true then 2 else 1, (x.2 : Int))
theorem lex_er (ea : Nat → Addr) (s : ByteArray) (hs : s.size ≤ 65536) (w : World) (hK : Kg w ea) (L : List Lxm) (r : Option (Bool × Nat)) (hx : lxs s.size (rest s 0) 0 = (L, r)) :
    Calls Tryz.prog 5 #[.string s] w fun e w' => ∃ v u, e = .returned (.tuple #[v, u]) ∧ w'.ownsRow w.heap.size 38 9 v L.length (L.flatMap lcl) ∧ Er w' ea u (dr r) ∧ Ext w w' := by
  refine (lex_any s hs (ea 1) (ea 2) w hK.kn L r hx).mono ?_
  rintro e w' ⟨v, u, rfl, ho, hu, hE⟩
  refine ⟨v, u, rfl, ho, ?_, hE⟩
  cases r with
  | none => exact hu
  | some x =>
    obtain ⟨b, q⟩ := x
    cases b with
    | true => exact er_placed (hK.sent.ext hE) (show 2 < 16 by decide) hu
    | false => exact er_placed (hK.sent.ext hE) (show 1 < 16 by decide) hu
end Go.Proofs.YtnecafokkhhhhaaGreatDoor
namespace Go.Proofs.YtnecafokkhhhhaaGreatDoor
open Go Go.RowKit
theorem lexlong_any (s : ByteArray) (hs : 65536 < s.size) (a0 : Addr) (w : World) (hL : w.cell? ⟨0, 0, none⟩ = some (strAt a0)) :
    Calls Tryz.prog 5 #[.string s] w fun e w' => e = .returned (.tuple #[.slice none 0 0, strAt a0]) ∧ Ext w w' := by
  have d0 : decide ((65536 : Int) < (s.size : Int)) = true := by simp; omega
  have d0n : decide (65536 < s.size) = true := by simp; omega
  have hg : 0 < w.heap.size := World.block_lt_of_cell? w (⟨_, 0, none⟩ : Addr) hL
  have HL := Lib.hid (fun (w' : World) (hx : Ext w w') => (hx.cell (p := ⟨0, 0, none⟩) hg).trans hL)
  clear hL hg
  go_enter Tryz.func5, Tryz.ntmps5
  go_wp2_with fail
  refine G.wp_region_stab (G := Ext) (fun _ => none) (by kernel_rfl) (by kernel_rfl) (fun _ _ h => by cases h) (fun hex => ?_)
  iterate 3
    (refine G.wpS_one (A := ?_) hex rfl rfl (by simp) ?_ ?_ ?_
     rotate_left 2
     · intro w' hC K hK
       have cl := HL.out _ hC.1
       go_wp2_with (fail)
       refine hK _ ?_
       first | exact Below.refl _ _ | assumption | ((repeat' (first | (with_reducible exact Below.refl _ _) | (with_reducible assumption) | (with_reducible refine below_drewN ?_ _) | (with_reducible refine Below.alloc ?_ ?_ _) | (with_reducible refine Below.drew ?_) | (with_reducible refine Below.setCell ?_ ?_ _) | (with_reducible refine Below.trans ?_ (Below.mono (by with_reducible assumption) ?_)) | go_size)))
     rotate_left 1
     · rfl
     clear hex; intro hex)
  refine G.wpS_nil fun w1 hAll => ?_
  have hE := hAll.1
  have HE := Lib.hid hE
  clear hE hAll hex
  go_wp2_with fail
  go_ret2
  exact ⟨rfl, HE.out⟩
set_option maxHeartbeats 1000000 in
set_option maxRecDepth 20000 in
/-- An error says what it tells. -/
theorem same_told (T : TypeId) (y f : Value) (c t : Int) (w : World) (hT : ∀ w', Ext w w' → Calls Tryz.prog 13 #[.iface T y] w' fun e w'' => ∃ f, e = .returned f ∧ Fault w'' f c 0 0 t [] ∧ Below w'.heap.size w' w'') (hf : Fault w f c 0 0 t []) (hc0 : (c != 0) = true) :
    Calls Tryz.prog 7 #[.iface T y, f] w fun e w' => e = .returned (.bool true) ∧ Below w.heap.size w w' := by
  have HF := Lib.hid hf
  obtain ⟨ns, rfl, hns⟩ := hf
  obtain ⟨na, nc, rfl⟩ := hns.slice
  have HX0 := Lib.hid (show Ext w (w.alloc (.cells #[.int .i64 c, .int .i64 0, .int .i64 0, .int .i64 t, .slice na ([] : List ByteArray).length nc] 25)) from by go_grown)
  have HB0 := Lib.hid (Blk.new w #[.int .i64 c, .int .i64 0, .int .i64 0, .int .i64 t, .slice na ([] : List ByteArray).length nc] 25)
  have HTl := Lib.hid hT
  clear hns hT
  go_enter Tryz.func7, Tryz.ntmps7
  go_wp2_with fail
  generalize hp : w.heap.size = p at HB0 ⊢
  replace hp := Lib.hid hp
  generalize w.alloc (.cells #[.int .i64 c, .int .i64 0, .int .i64 0, .int .i64 t, .slice na ([] : List ByteArray).length nc] 25) = w1 at HX0 HB0 ⊢
  refine G.wp_region_stab (G := Ext) (RsF 5 c t) (by kernel_rfl) (by kernel_rfl) (RsF_mono _ _ _) (fun hex => ?_)
  iterate 5
    (refine G.wpS_one (A := ?_) hex rfl rfl (by simp) ?_ ?_ ?_
     rotate_left 2
     · intro w' hC K hK
       obtain ⟨p0, p1, p2, p3, p4⟩ := (HB0.out.ext hC.1).cells5
       go_wp2_with (fail)
       refine hK _ ?_
       first | exact Below.refl _ _ | assumption | ((repeat' (first | (with_reducible exact Below.refl _ _) | (with_reducible assumption) | (with_reducible refine below_drewN ?_ _) | (with_reducible refine Below.alloc ?_ ?_ _) | (with_reducible refine Below.drew ?_) | (with_reducible refine Below.setCell ?_ ?_ _) | (with_reducible refine Below.trans ?_ (Below.mono (by with_reducible assumption) ?_)) | go_size)))
     rotate_left 1
     · rfl
     clear hex; intro hex)
  refine G.wpS_rel (fun v w => Fault w v c 0 0 t []) rfl rfl (by simp) (by first | rfl | (simp [Region.wanted, yielded]; done)) ?_ ?_
  · intro w' hC K hK
    simp only [Act.put, List.setIfInBounds_toArray, List.set_cons_succ, List.set_cons_zero] at hK
    go_wp2_with (refine (HTl.out _ (bel_call HX0.out hC.1)).mono ?_; rintro e w2 ⟨v', rfl, h2, hE1⟩)
    refine hK _ _ ?_ ?_
    · first | exact Below.refl _ _ | assumption | ((repeat' (first | (with_reducible exact Below.refl _ _) | (with_reducible assumption) | (with_reducible refine below_drewN ?_ _) | (with_reducible refine Below.alloc ?_ ?_ _) | (with_reducible refine Below.drew ?_) | (with_reducible refine Below.setCell ?_ ?_ _) | (with_reducible refine Below.trans ?_ (Below.mono (by with_reducible assumption) ?_)) | go_size)))
    · exact h2
  clear hex
  intro v1 w' hex hv1
  replace hex := Exists.intro w' hex
  simp only [Act.put, List.setIfInBounds_toArray, List.set_cons_succ, List.set_cons_zero]
  refine G.wpS_one (A := ?_) hex rfl rfl (by simp) ?_ ?_ ?_
  rotate_left 2
  · intro w' hC K hK
    obtain ⟨p0, p1, p2, p3, p4⟩ := (HB0.out.ext hC.1).cells5
    go_wp2_with (fail)
    refine hK _ ?_
    first | exact Below.refl _ _ | assumption | ((repeat' (first | (with_reducible exact Below.refl _ _) | (with_reducible assumption) | (with_reducible refine below_drewN ?_ _) | (with_reducible refine Below.alloc ?_ ?_ _) | (with_reducible refine Below.drew ?_) | (with_reducible refine Below.setCell ?_ ?_ _) | (with_reducible refine Below.trans ?_ (Below.mono (by with_reducible assumption) ?_)) | go_size)))
  rotate_left 1
  · rfl
  clear hex; intro hex
  refine G.wpS_one (A := ?_) hex rfl rfl (by simp) ?_ ?_ ?_
  rotate_left 2
  · intro w' hC K hK
    have hF1 := (hC.2 5 (by simp [Region.binds])).1 rfl
    go_wp2_with (refine (eqfault_any v1 _ c 0 0 t c 0 0 t [] [] _ hF1 (HF.out.ext (bel_call HX0.out hC.1)) true (by simp)).mono ?_; rintro e w2 ⟨rfl, hE1⟩)
    refine hK _ ?_
    first | exact Below.refl _ _ | assumption | ((repeat' (first | (with_reducible exact Below.refl _ _) | (with_reducible assumption) | (with_reducible refine below_drewN ?_ _) | (with_reducible refine Below.alloc ?_ ?_ _) | (with_reducible refine Below.drew ?_) | (with_reducible refine Below.setCell ?_ ?_ _) | (with_reducible refine Below.trans ?_ (Below.mono (by with_reducible assumption) ?_)) | go_size)))
  rotate_left 1
  · rfl
  clear hex; intro hex
  iterate 2
    (refine G.wpS_one (A := ?_) hex rfl rfl (by simp) ?_ ?_ ?_
     rotate_left 2
     · intro w' hC K hK
       go_wp2_with (fail)
       refine hK _ ?_
       first | exact Below.refl _ _ | assumption | ((repeat' (first | (with_reducible exact Below.refl _ _) | (with_reducible assumption) | (with_reducible refine below_drewN ?_ _) | (with_reducible refine Below.alloc ?_ ?_ _) | (with_reducible refine Below.drew ?_) | (with_reducible refine Below.setCell ?_ ?_ _) | (with_reducible refine Below.trans ?_ (Below.mono (by with_reducible assumption) ?_)) | go_size)))
     rotate_left 1
     · rfl
     clear hex; intro hex)
  refine G.wpS_nil fun w4 hAll => ?_
  have HG := Lib.hid (bel_call HX0.out hAll.1)
  clear hAll hex
  go_wp2_with fail
  go_ret
  exact ⟨rfl, HG.out⟩
theorem tell_long (ea : Nat → Addr) (w : World) (hK : Kg w ea) :
    Calls Tryz.prog 13 #[strAt (ea 0)] w fun e w' => ∃ f, e = .returned f ∧ Fault w' f 2 0 0 0 [] ∧ Below w.heap.size w w' := by
  have ht := tell_err ea (ea 0) [] (strAt (ea 0)) w hK.sent hK.errT (ErrOf.base (hK.sent.row 0 (by decide)))
  rw [code_sent hK.sent 16 0 0 rfl (by decide) (Nat.zero_le _)] at ht
  exact ht
end Go.Proofs.YtnecafokkhhhhaaGreatDoor
