/- Does an error say this? bolterkit.Same, where it does. -/
import Derived.Test.YtnmdfhnfheekgaaDoorNew
import Derived.Test.YtnmdfhnfheekgaaDoorEqF
import Derived.Test.YtnmdfhnfheekgaaDoorStabG
namespace Go.Proofs.YtnmdfhnfheekgaaDoor
open Go Go.RowKit
theorem code_at {w : World} {ea : Nat → Addr} (h : Sent w ea) : ∀ f k j, f + k = 16 → j < 16 → k ≤ j → codeAt ea (ea j) f k = (j : Int) + 2
  | 0, k, j, hf, hj, hk => by omega
  | f + 1, k, j, hf, hj, hk => by
    unfold codeAt
    by_cases e : ea j = ea k
    · rw [if_pos e]
      have := h.inj j k hj (by omega) e
      omega
    · rw [if_neg e]
      have : k ≠ j := fun e2 => e (by rw [e2])
      exact code_at h f (k + 1) j (by omega) hj (by omega)
def RsG (k : Nat) (c s r t : Int) (l : List ByteArray) : Nat → Option (Value → World → Prop) := fun j => if j = k then some (fun v w => Fault w v c s r t l) else none
theorem RsG_mono (k : Nat) (c s r t : Int) (l : List ByteArray) : G.RsMono Ext (RsG k c s r t l) := by
  intro j R h
  unfold RsG at h
  split at h
  · cases h; exact fun v w w' hx hR => Fault.ext hR hx
  · cases h
theorem same_nil8 (f : Value) (s r t : Int) (l : List ByteArray) (w : World) (hf : Fault w f 0 s r t l) :
    Calls Tryd.prog 11 #[.nilIface, f] w fun e w' => e = .returned (.bool true) ∧ Ext w w' := by
  obtain ⟨ns, rfl, hns⟩ := hf
  obtain ⟨na, nc, rfl⟩ := hns.slice
  clear hns
  go_enter Tryd.func11, Tryd.ntmps11
  go_wp2_with fail
  go_ret
  exact ⟨rfl, by go_grown⟩
set_option maxHeartbeats 1000000 in
set_option maxRecDepth 20000 in
theorem same_err8 (ea : Nat → Addr) (K : List Wr) (v f : Value) (aX : Addr) (c s r t : Int) (l : List ByteArray) (w : World) (hS : Sent w ea) (hG : ErrT w) (h : ErrOf w K v aX)
    (hc : codeAt ea aX 16 0 = c) (hs : tStage K = s) (hr : tRule K = r) (ht : tAt K = t) (hl : tNames K = l) (hc0 : (c != 0) = true) (hf : Fault w f c s r t l) :
    Calls Tryd.prog 11 #[v, f] w fun e w' => e = .returned (.bool true) ∧ Ext w w' := by
  have hgok : G.GOK Ext := ⟨fun w => Below.refl _ w, fun h k => bel_call h k, fun _ => ⟨rfl, rfl, rfl, Nat.le_refl _, fun _ _ => rfl⟩⟩
  have HF := Lib.hid hf
  obtain ⟨ns, rfl, hns⟩ := hf
  obtain ⟨na, nc, rfl⟩ := hns.slice
  have HTl := Lib.hid (fun w hS hG h => tell_err ea aX K v w hS hG h)
  rw [hc, hs, hr, ht, hl] at HTl
  have hx0 : Ext w (w.alloc (.cells #[.int .i64 c, .int .i64 s, .int .i64 r, .int .i64 t, .slice na l.length nc] 38)) := by go_grown
  have hb0 := Blk.new w #[.int .i64 c, .int .i64 s, .int .i64 r, .int .i64 t, .slice na l.length nc] 38
  have HX0 := Lib.hid hx0
  have HB0 := Lib.hid hb0
  have HH := Lib.hid h
  have HK := Lib.hid (And.intro hS hG)
  obtain ⟨T, y, rfl⟩ := h.iface
  clear hns hx0 hb0 hS hG h hc hs hr ht hl
  go_enter Tryd.func11, Tryd.ntmps11
  go_wp2_with fail
  generalize hp : w.heap.size = p at HB0 ⊢
  replace hp := Lib.hid hp
  generalize w.alloc (.cells #[.int .i64 c, .int .i64 s, .int .i64 r, .int .i64 t, .slice na l.length nc] 38) = w1 at HX0 HB0 ⊢
  refine G.wp_region_stab (G := Ext) (RsG 5 c s r t l) (by kernel_rfl) (by kernel_rfl) (RsG_mono _ _ _ _ _ _) (fun hex => ?_)
  iterate 5
    (refine G.wpS_one (A := ?_) hex rfl rfl (by simp) ?_ ?_ ?_
     rotate_left 2
     · intro w' hC K hK
       obtain ⟨p0, p1, p2, p3, p4⟩ := (HB0.out.ext hC.1).cells5
       go_wp2_with (fail)
       refine hK _ ?_
       first | exact Below.refl _ _ | assumption | ((repeat' (first | (with_reducible exact Below.refl _ _) | (with_reducible assumption) | (with_reducible refine below_drewN ?_ _) | (with_reducible refine Below.alloc ?_ ?_ _) | (with_reducible refine Below.drew ?_) | (with_reducible refine Below.setCell ?_ ?_ _) | (with_reducible refine Below.trans ?_ (Below.mono (by with_reducible assumption) ?_)) | go_size)))
     rotate_left 1
     · rfl
     clear hex; intro hex)
  refine G.wpS_rel (fun v w => Fault w v c s r t l) rfl rfl (by simp) (by first | rfl | (simp [Region.wanted, yielded]; done)) ?_ ?_
  · intro w' hC K hK
    simp only [Act.put, List.setIfInBounds_toArray, List.set_cons_succ, List.set_cons_zero] at hK
    go_wp2_with (refine (HTl.out _ (HK.out.1.ext (bel_call HX0.out hC.1)) (HK.out.2.ext (bel_call HX0.out hC.1)) (HH.out.ext (bel_call HX0.out hC.1))).mono ?_; rintro e w2 ⟨v', rfl, h2, hE1⟩)
    refine hK _ _ ?_ ?_
    · first | exact Below.refl _ _ | assumption | ((repeat' (first | (with_reducible exact Below.refl _ _) | (with_reducible assumption) | (with_reducible refine below_drewN ?_ _) | (with_reducible refine Below.alloc ?_ ?_ _) | (with_reducible refine Below.drew ?_) | (with_reducible refine Below.setCell ?_ ?_ _) | (with_reducible refine Below.trans ?_ (Below.mono (by with_reducible assumption) ?_)) | go_size)))
    · exact h2
  clear hex
  intro v1 w' hex hv1
  replace hex := Exists.intro w' hex
  simp only [Act.put, List.setIfInBounds_toArray, List.set_cons_succ, List.set_cons_zero]
  refine G.wpS_one (A := ?_) hex rfl rfl (by simp) ?_ ?_ ?_
  rotate_left 2
  · intro w' hC K hK
    obtain ⟨p0, p1, p2, p3, p4⟩ := (HB0.out.ext hC.1).cells5
    go_wp2_with (fail)
    refine hK _ ?_
    first | exact Below.refl _ _ | assumption | ((repeat' (first | (with_reducible exact Below.refl _ _) | (with_reducible assumption) | (with_reducible refine below_drewN ?_ _) | (with_reducible refine Below.alloc ?_ ?_ _) | (with_reducible refine Below.drew ?_) | (with_reducible refine Below.setCell ?_ ?_ _) | (with_reducible refine Below.trans ?_ (Below.mono (by with_reducible assumption) ?_)) | go_size)))
  rotate_left 1
  · rfl
  clear hex; intro hex
  refine G.wpS_one (A := ?_) hex rfl rfl (by simp) ?_ ?_ ?_
  rotate_left 2
  · intro w' hC K hK
    have hF1 := (hC.2 5 (by simp [Region.binds])).1 rfl
    go_wp2_with (refine (eqfault_any v1 _ c s r t c s r t l l _ hF1 (HF.out.ext (bel_call HX0.out hC.1)) true (by simp)).mono ?_; rintro e w2 ⟨rfl, hE1⟩)
    refine hK _ ?_
    first | exact Below.refl _ _ | assumption | ((repeat' (first | (with_reducible exact Below.refl _ _) | (with_reducible assumption) | (with_reducible refine below_drewN ?_ _) | (with_reducible refine Below.alloc ?_ ?_ _) | (with_reducible refine Below.drew ?_) | (with_reducible refine Below.setCell ?_ ?_ _) | (with_reducible refine Below.trans ?_ (Below.mono (by with_reducible assumption) ?_)) | go_size)))
  rotate_left 1
  · rfl
  clear hex; intro hex
  iterate 2
    (refine G.wpS_one (A := ?_) hex rfl rfl (by simp) ?_ ?_ ?_
     rotate_left 2
     · intro w' hC K hK
       go_wp2_with (fail)
       refine hK _ ?_
       first | exact Below.refl _ _ | assumption | ((repeat' (first | (with_reducible exact Below.refl _ _) | (with_reducible assumption) | (with_reducible refine below_drewN ?_ _) | (with_reducible refine Below.alloc ?_ ?_ _) | (with_reducible refine Below.drew ?_) | (with_reducible refine Below.setCell ?_ ?_ _) | (with_reducible refine Below.trans ?_ (Below.mono (by with_reducible assumption) ?_)) | go_size)))
     rotate_left 1
     · rfl
     clear hex; intro hex)
  refine G.wpS_nil fun w4 hAll => ?_
  have HG := Lib.hid (bel_call HX0.out hAll.1)
  clear hAll hex
  go_wp2_with fail
  go_ret
  exact ⟨rfl, HG.out⟩
end Go.Proofs.YtnmdfhnfheekgaaDoor
