/- What every statement of package class asks last: a class there and back. -/
import Derived.Test.YtgcfilgobclcjaaDoorTxe
import Derived.Test.YtgcfilgobclcjaaDoorEq
import Derived.Test.YtgcfilgobclcjaaDoorNmd
namespace Go.Proofs.YtgcfilgobclcjaaDoor
open Go Go.RowKit
abbrev wkText : ByteArray := ⟨#[120, 91, 97, 45, 99, 45, 45, 91, 98, 93, 93, 121]⟩
theorem wk_parse : prs wkText 1 = .inr (ofl [97, 99], 11) := by decide +kernel
theorem wk_text : txt (ofl [97, 99]) = [91, 97, 99, 93] := by decide +kernel
theorem wk_quote : qot [97, 10] = [34, 97, 92, 110, 34] := by decide +kernel
theorem of_is (v : Value) (l : List UInt8) (s : BitVec 256) (w : World) (hv : Bytes w v l) (h : ofl l = s) :
    Calls Tryd.prog 18 #[v] w fun e w' => e = .returned (sv s) ∧ Below w.heap.size w w' := by subst h; exact of_any v l w hv
theorem same_set (s : BitVec 256) : ∀ w, (Op.equalIn 10000 29 (sv s) (sv s)).run Tryd.prog w = .ok true w := fun w => by rw [set_eq]; simp
def RsB (k : Nat) (l : List UInt8) : Nat → Option (Value → World → Prop) := fun j => if j = k then some (fun v w => Bytes w v l) else none
theorem RsB_mono (k : Nat) (l : List UInt8) : G.RsMono Ext (RsB k l) := by
  intro j R h
  unfold RsB at h
  split at h
  · cases h; exact fun v w w' hx hR => Bytes.ext hR hx
  · cases h
theorem parse_is (s : ByteArray) (a : Int) (es ed : Addr) (hs : s.size ≤ 4294967000) (w : World) (hK : Kn w es ed) (S : BitVec 256) (m : Nat) (hx : prs s a = .inr (S, m)) :
    Calls Tryd.prog 12 #[.string s, .int .i64 a] w fun e w' => e = .returned (.tuple #[sv S, .int .i64 m, .nilIface]) ∧ Ext w w' := parse_any s a es ed hs w hK _ hx
theorem text_is (s : BitVec 256) (l : ByteArray) (h : txt s = l.data.toList) (w : World) (hT : Tab w) :
    Calls Tryd.prog 7 #[sv s] w fun e w' => e = .returned (.string l) ∧ Below w.heap.size w w' := by
  have h1 := text_any s w hT
  rw [h] at h1
  exact h1
theorem quote_is (s l : ByteArray) (hs : s.size ≤ 100000000) (h : qot s.data.toList = l.data.toList) (w : World) :
    Calls Tryd.prog 9 #[.string s] w fun e w' => e = .returned (.string l) ∧ Below w.heap.size w w' := by
  have h1 := quote_any s hs w
  rw [h] at h1
  exact h1
set_option maxHeartbeats 2000000 in
set_option maxRecDepth 20000 in
theorem wakes_any (es ed : Addr) (w : World) (hT : Tab w) (hK : Kn w es ed) :
    Calls Tryd.prog 11 #[] w fun e w' => e = .returned (.bool true) ∧ Below w.heap.size w w' := by
  have hp := wk_parse
  have ht := wk_text
  obtain ⟨S, hS⟩ : ∃ S, ofl [97, 99] = S := ⟨_, rfl⟩
  rw [hS] at hp ht
  have hpa := parse_is wkText 1 es ed (by decide) w hK S 11 hp
  have HT := Lib.hid (And.intro ht hS)
  have HTab := Lib.hid hT
  have hss := same_set S
  have q1 : ((ByteArray.mk #[91, 97, 99, 93]).toList == [91, 97, 99, 93]) = true := by rw [str_eq]; rfl
  have q2 : ((ByteArray.mk #[34, 97, 92, 110, 34]).toList == [34, 97, 92, 110, 34]) = true := by rw [str_eq]; rfl
  clear hp ht hS hT hK
  go_enter Tryd.func11, Tryd.ntmps11
  go_wp2_with fail
  refine hpa.mono ?_
  rintro e w1 ⟨rfl, hE⟩
  have HE := Lib.hid hE
  have HT1 := Lib.hid (HTab.out.ext hE)
  have HB := Lib.hid (Blk.new w1 (svs S) 29)
  clear hE hpa
  go_wp2_with fail
  have hx0 : Ext w1 (w1.alloc (.cells (svs S) 29)) := by go_grown
  have HX := Lib.hid hx0
  clear hx0
  generalize w1.alloc (.cells (svs S) 29) = w2 at *
  refine G.wp_region_stab (G := Ext) (RsB 8 [97, 99]) (by kernel_rfl) (by kernel_rfl) (RsB_mono _ _) (fun hex => ?_)
  iterate 8
    (refine G.wpS_one (A := ?_) hex rfl rfl (by simp) ?_ ?_ ?_
     rotate_left 2
     · intro w' hC K hK
       obtain ⟨z0, z1, z2, z3⟩ := (HB.out.ext hC.1).cells4
       go_wp2_with (fail)
       refine hK _ ?_
       first | exact Below.refl _ _ | assumption | ((repeat' (first | (with_reducible exact Below.refl _ _) | (with_reducible assumption) | (with_reducible refine below_drewN ?_ _) | (with_reducible refine Below.alloc ?_ ?_ _) | (with_reducible refine Below.drew ?_) | (with_reducible refine Below.setCell ?_ ?_ _) | (with_reducible refine Below.trans ?_ (Below.mono (by with_reducible assumption) ?_)) | go_size)))
     rotate_left 1
     · rfl
     clear hex; intro hex)
  refine G.wpS_rel (fun v w => Bytes w v [97, 99]) rfl rfl (by simp) (by first | rfl | (simp [Region.wanted, yielded]; done)) ?_ ?_
  · intro w' hC K hK
    simp only [Act.put, List.setIfInBounds_toArray, List.set_cons_succ, List.set_cons_zero] at hK
    go_wp2_with (fail)
    refine hK _ _ ?_ ?_
    · first | exact Below.refl _ _ | assumption | ((repeat' (first | (with_reducible exact Below.refl _ _) | (with_reducible assumption) | (with_reducible refine below_drewN ?_ _) | (with_reducible refine Below.alloc ?_ ?_ _) | (with_reducible refine Below.drew ?_) | (with_reducible refine Below.setCell ?_ ?_ _) | (with_reducible refine Below.trans ?_ (Below.mono (by with_reducible assumption) ?_)) | go_size)))
    · exact bytes_of_blk [97, 99] (Blk.new _ _ _) (by decide)
  clear hex
  intro v1 w' hex hv1
  replace hex := Exists.intro w' hex
  simp only [Act.put, List.setIfInBounds_toArray, List.set_cons_succ, List.set_cons_zero]
  refine G.wpS_one (A := ?_) hex rfl rfl (by simp) ?_ ?_ ?_
  rotate_left 2
  · intro w' hC K hK
    have hb := (hC.2 8 (by simp [Region.binds])).1 rfl
    go_wp2_with (refine (of_is v1 [97, 99] S _ hb HT.out.2).mono ?_; rintro e w3 ⟨rfl, hE3⟩)
    refine hK _ ?_
    first | exact Below.refl _ _ | assumption | ((repeat' (first | (with_reducible exact Below.refl _ _) | (with_reducible assumption) | (with_reducible refine below_drewN ?_ _) | (with_reducible refine Below.alloc ?_ ?_ _) | (with_reducible refine Below.drew ?_) | (with_reducible refine Below.setCell ?_ ?_ _) | (with_reducible refine Below.trans ?_ (Below.mono (by with_reducible assumption) ?_)) | go_size)))
  rotate_left 1
  · rfl
  clear hex; intro hex
  clear hv1
  iterate 4
    (refine G.wpS_one (A := ?_) hex rfl rfl (by simp) ?_ ?_ ?_
     rotate_left 2
     · intro w' hC K hK
       obtain ⟨z0, z1, z2, z3⟩ := (HB.out.ext hC.1).cells4
       go_wp2_with (fail)
       refine hK _ ?_
       first | exact Below.refl _ _ | assumption | ((repeat' (first | (with_reducible exact Below.refl _ _) | (with_reducible assumption) | (with_reducible refine below_drewN ?_ _) | (with_reducible refine Below.alloc ?_ ?_ _) | (with_reducible refine Below.drew ?_) | (with_reducible refine Below.setCell ?_ ?_ _) | (with_reducible refine Below.trans ?_ (Below.mono (by with_reducible assumption) ?_)) | go_size)))
     rotate_left 1
     · rfl
     clear hex; intro hex)
  refine G.wpS_one (A := ?_) hex rfl rfl (by simp) ?_ ?_ ?_
  rotate_left 2
  · intro w' hC K hK
    go_wp2_with (refine (text_is S ⟨#[91, 97, 99, 93]⟩ HT.out.1 _ ((HT1.out.ext HX.out).ext hC.1)).mono ?_; rintro e w3 ⟨rfl, hE3⟩)
    refine hK _ ?_
    first | exact Below.refl _ _ | assumption | ((repeat' (first | (with_reducible exact Below.refl _ _) | (with_reducible assumption) | (with_reducible refine below_drewN ?_ _) | (with_reducible refine Below.alloc ?_ ?_ _) | (with_reducible refine Below.drew ?_) | (with_reducible refine Below.setCell ?_ ?_ _) | (with_reducible refine Below.trans ?_ (Below.mono (by with_reducible assumption) ?_)) | go_size)))
  rotate_left 1
  · rfl
  clear hex; intro hex
  iterate 3
    (refine G.wpS_one (A := ?_) hex rfl rfl (by simp) ?_ ?_ ?_
     rotate_left 2
     · intro w' hC K hK
       go_wp2_with (fail)
       refine hK _ ?_
       first | exact Below.refl _ _ | assumption | ((repeat' (first | (with_reducible exact Below.refl _ _) | (with_reducible assumption) | (with_reducible refine below_drewN ?_ _) | (with_reducible refine Below.alloc ?_ ?_ _) | (with_reducible refine Below.drew ?_) | (with_reducible refine Below.setCell ?_ ?_ _) | (with_reducible refine Below.trans ?_ (Below.mono (by with_reducible assumption) ?_)) | go_size)))
     rotate_left 1
     · rfl
     clear hex; intro hex)
  refine G.wpS_one (A := ?_) hex rfl rfl (by simp) ?_ ?_ ?_
  rotate_left 2
  · intro w' hC K hK
    go_wp2_with (refine (quote_is ⟨#[97, 10]⟩ ⟨#[34, 97, 92, 110, 34]⟩ (by decide) wk_quote _).mono ?_; rintro e w3 ⟨rfl, hE3⟩)
    refine hK _ ?_
    first | exact Below.refl _ _ | assumption | ((repeat' (first | (with_reducible exact Below.refl _ _) | (with_reducible assumption) | (with_reducible refine below_drewN ?_ _) | (with_reducible refine Below.alloc ?_ ?_ _) | (with_reducible refine Below.drew ?_) | (with_reducible refine Below.setCell ?_ ?_ _) | (with_reducible refine Below.trans ?_ (Below.mono (by with_reducible assumption) ?_)) | go_size)))
  rotate_left 1
  · rfl
  clear hex; intro hex
  iterate 3
    (refine G.wpS_one (A := ?_) hex rfl rfl (by simp) ?_ ?_ ?_
     rotate_left 2
     · intro w' hC K hK
       go_wp2_with (fail)
       refine hK _ ?_
       first | exact Below.refl _ _ | assumption | ((repeat' (first | (with_reducible exact Below.refl _ _) | (with_reducible assumption) | (with_reducible refine below_drewN ?_ _) | (with_reducible refine Below.alloc ?_ ?_ _) | (with_reducible refine Below.drew ?_) | (with_reducible refine Below.setCell ?_ ?_ _) | (with_reducible refine Below.trans ?_ (Below.mono (by with_reducible assumption) ?_)) | go_size)))
     rotate_left 1
     · rfl
     clear hex; intro hex)
  refine G.wpS_nil fun w4 hAll => ?_
  have HG := Lib.hid (bel_call (bel_call HE.out HX.out) hAll.1)
  clear hAll hex
  go_wp2_with fail
  go_ret
  exact ⟨rfl, HG.out⟩
end Go.Proofs.YtgcfilgobclcjaaDoor
