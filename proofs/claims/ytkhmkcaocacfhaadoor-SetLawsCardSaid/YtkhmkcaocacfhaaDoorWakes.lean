/- The bytes a and b are what they are. -/
import Derived.Test.YtkhmkcaocacfhaaDoorEqb
import Derived.Test.YtkhmkcaocacfhaaDoorByteset3
import Derived.Test.YtkhmkcaocacfhaaDoorLit
namespace Go.Proofs.YtkhmkcaocacfhaaDoor
open Go Go.RowKit
theorem has_eq (s : BitVec 256) (b : Int) (r : Bool) (w : World) (h0 : 0 ≤ b) (h1 : b ≤ 255) (h : s.getLsbD b.toNat = r) :
    Calls Tryd.prog 39 #[sv s, .int .u8 b] w fun e w' => e = .returned (.bool r) ∧ Below w.heap.size w w' := by subst h; exact has_any s b w h0 h1
theorem compl_eq (s t : BitVec 256) (h : ~~~s = t) (w : World) :
    Calls Tryd.prog 31 #[sv s] w fun e w' => e = .returned (sv t) ∧ Below w.heap.size w w' := by subst h; exact compl_any s w
theorem eq_same (v u : Value) (a b : List UInt8) (w : World) (hv : Bytes w v a) (hu : Bytes w u b) (h : a = b) :
    Calls Tryd.prog 60 #[v, u] w fun e w' => e = .returned (.bool true) ∧ Below w.heap.size w w' := by
  subst h
  have := eq_any v u a a w hv hu
  simpa using this
theorem of_eq (v : Value) (l : List UInt8) (s : BitVec 256) (w : World) (hv : Bytes w v l) (h : ofl l = s) :
    Calls Tryd.prog 15 #[v] w fun e w' => e = .returned (sv s) ∧ Below w.heap.size w w' := by subst h; exact of_any v l w hv
theorem set_same (s : BitVec 256) : ∀ w, (Op.equalIn 10000 25 (sv s) (sv s)).run Tryd.prog w = .ok true w := fun w => by rw [set_eq]; simp
/-- A block of bytes, as a slice. -/
theorem Bytes.of_blk {w : World} {b : Nat} {t : TypeId} (l : List UInt8) (h : Blk w b (l.map ub).toArray t) (hl : l.length ≤ 140737488355328) : Bytes w (.slice (some ⟨b, 0, none⟩) l.length l.length) l := by
  refine ⟨_, _, rfl, Nat.le_refl _, ⟨hl, by unfold maxLen; omega⟩, .inr ⟨b, 0, rfl, h.lt, fun i _ => ?_⟩⟩
  rw [Nat.zero_add, h.cell i]; simp
abbrev abz : List UInt8 := [97, 98, 255]
theorem abz_facts : cnt (ofl abz) = 3 ∧ (ofl abz).getLsbD 255 = true ∧ (ofl abz).getLsbD 99 = false ∧ lst (ofl abz) = abz := by decide +kernel
def RAbz : Value → World → Prop := fun v w => Bytes w v abz
def abzc : Array Value := #[.int .u8 97, .int .u8 98, .int .u8 255]
def RsWakes (B : Nat) : Nat → Option (Value → World → Prop) := fun k => if k = 14 then some RAbz else if k = 15 then some (RLit B abzc 5) else if k = 16 then some (RLit B abzc 5) else none
theorem RAbz_mono : Mono RAbz := fun _ _ _ hx hb => Bytes.lk hb hx
theorem RsWakes_mono (B : Nat) : RsMono (RsWakes B) := by
  intro j R h
  unfold RsWakes at h
  split at h
  · cases h; exact RAbz_mono
  · split at h
    · cases h; exact RLit.mono B abzc _
    · split at h
      · cases h; exact RLit.mono B abzc _
      · cases h
set_option maxHeartbeats 2000000 in
theorem wakes_any (w : World) (hT : Tab w) :
    Calls Tryd.prog 38 #[] w fun e w' => e = .returned (.bool true) ∧ Below w.heap.size w w' := by
  obtain ⟨s, hs⟩ : ∃ s, ofl abz = s := ⟨_, rfl⟩
  obtain ⟨f1, f2, f3, f4⟩ := abz_facts
  rw [hs] at f1 f2 f3 f4
  have HF := Lib.hid (And.intro f1 (And.intro f2 (And.intro f3 f4)))
  have HS := Lib.hid hs
  have HT := Lib.hid hT
  clear f1 f2 f3 f4 hs hT
  have hss := set_same s
  have hab := Bytes.of_blk (w := w.alloc (.cells (abz.map ub).toArray 5)) (b := w.heap.size) abz (Blk.new w _ _) (by decide)
  have HAB := Lib.hid hab
  clear hab
  go_enter Tryd.func38, Tryd.ntmps38
  go_wp2_with fail
  refine (of_eq _ abz s _ HAB.out HS.out).mono ?_; rintro e w1 ⟨rfl, hb1⟩
  obtain ⟨hc1, hf1⟩ := bcell hb1
  have hs1 := hb1.size
  try simp at hs1
  have hz1_0 : w.heap.size < w1.heap.size := by omega
  have HT1 := Lib.hid (HT.out.ext ((Below.alloc (Below.refl _ _) (Nat.le_refl _) _).trans (hb1.mono (by simp))))
  have hB : Below w.heap.size w w1 := (Below.alloc (Below.refl _ _) (Nat.le_refl _) _).trans (hb1.mono (by simp))
  clear hb1 hc1 hf1 hs1
  go_wp2
  refine wp_region_stab (RsWakes (w1.heap.size + 1)) (by kernel_rfl) (by kernel_rfl) (RsWakes_mono _) (fun hex => ?_)
  iterate 14
    (refine wpS_one (A := ?_) hex rfl rfl (by simp) ?_ ?_ ?_
     rotate_left 2
     · intro w' hC K hK
       obtain ⟨hcell, hfrz⟩ := bcell hC.1.ext
       go_wp2_with (first | (go_at_call 40; refine (count_eq s 3 HF.out.1 _).mono ?_; rintro e w2 ⟨rfl, hb2⟩) | (go_at_call_of 39 (Value.int .u8 255); refine (has_eq s 255 true _ (by omega) (by omega) HF.out.2.1).mono ?_; rintro e w2 ⟨rfl, hb2⟩) | (go_at_call_of 39 (Value.int .u8 99); refine (has_eq s 99 false _ (by omega) (by omega) HF.out.2.2.1).mono ?_; rintro e w2 ⟨rfl, hb2⟩))
       refine hK _ ?_
       first | exact Gr.refl _ _ | exact Gr.of_ext (by assumption) hC.1.1.size
     rotate_left 1
     · rfl
     clear hex; intro hex)
  refine wpS_rel (RAbz) rfl rfl (by simp) (by first | rfl | (simp [Region.wanted, yielded]; done)) ?_ ?_
  · intro w' hC K hK
    simp only [Act.put, List.setIfInBounds_toArray, List.set_cons_succ, List.set_cons_zero] at hK
    obtain ⟨hcell, hfrz⟩ := bcell hC.1.ext
    have hTw := Lib.hid ((HT1.out.ext (Below.alloc (Below.refl _ _) (Nat.le_refl _) _)).ext hC.1.ext)
    go_wp2_with (go_at_call 41; refine (list_any s _ hTw.out).mono ?_; rintro e w2 ⟨v, rfl, hbv, hb2⟩)
    refine hK _ _ ?_ ?_
    · first | exact Gr.refl _ _ | exact Gr.of_ext (by assumption) hC.1.1.size | (refine Gr.of_ext ?_ hC.1.1.size; (repeat' (first | (with_reducible exact Below.refl _ _) | (with_reducible assumption) | (with_reducible refine below_drewN ?_ _) | (with_reducible refine Below.alloc ?_ ?_ _) | (with_reducible refine Below.drew ?_) | (with_reducible refine Below.setCell ?_ ?_ _) | (with_reducible refine Below.trans ?_ (Below.mono (by with_reducible assumption) ?_)) | go_size)))
    · rw [HF.out.2.2.2] at hbv; exact hbv
  clear hex
  intro v1 w' hex hv1
  replace hex := Exists.intro w' hex
  simp only [Act.put, List.setIfInBounds_toArray, List.set_cons_succ, List.set_cons_zero]
  refine wpS_rel (RLit (w1.heap.size + 1) abzc 5) rfl rfl (by simp) (by first | rfl | (simp [Region.wanted, yielded]; done)) ?_ ?_
  · intro w' hC K hK
    simp only [Act.put, List.setIfInBounds_toArray, List.set_cons_succ, List.set_cons_zero] at hK
    obtain ⟨hcell, hfrz⟩ := bcell hC.1.ext
    go_wp2_with (fail)
    refine hK _ _ ?_ ?_
    · first | exact Gr.refl _ _ | exact Gr.of_ext (by assumption) hC.1.1.size | (refine Gr.of_ext ?_ hC.1.1.size; (repeat' (first | (with_reducible exact Below.refl _ _) | (with_reducible assumption) | (with_reducible refine below_drewN ?_ _) | (with_reducible refine Below.alloc ?_ ?_ _) | (with_reducible refine Below.drew ?_) | (with_reducible refine Below.setCell ?_ ?_ _) | (with_reducible refine Below.trans ?_ (Below.mono (by with_reducible assumption) ?_)) | go_size)))
    · exact RLit.new _ _ _ (by have := hC.1.1.size; simpa using this)
  clear hex
  intro v2 w' hex hv2
  replace hex := Exists.intro w' hex
  simp only [Act.put, List.setIfInBounds_toArray, List.set_cons_succ, List.set_cons_zero]
  obtain ⟨b2, hv2e, _⟩ := id hv2
  subst hv2e
  refine wpS_rel (RLit (w1.heap.size + 1) abzc 5) rfl rfl (by simp) (by first | rfl | (simp [Region.wanted, yielded]; done)) ?_ ?_
  · intro w' hC K hK
    simp only [Act.put, List.setIfInBounds_toArray, List.set_cons_succ, List.set_cons_zero] at hK
    obtain ⟨bb, hbb, hB2, ff, hff⟩ := (hC.2 15 (by simp [Region.binds])).1 rfl
    obtain rfl : b2 = bb := by simpa using hbb
    have hcv := run_conv_lit (P := Tryd.prog) w' 26 5 abzc ff b2 abzc.size abzc.size Tryd.underlying26 Tryd.underlying5 hff
    obtain ⟨g1, f', g2⟩ := freeze_gr (W := w1.alloc (.cells (svs s) 25)) (n := abzc.size) (by simpa using hB2) hff
    have HG := Lib.hid (And.intro g1 g2)
    clear g1 g2 hff
    go_wp2
    refine hK _ _ HG.out.1 ⟨b2, rfl, hB2, f', HG.out.2⟩
  clear hex
  intro v3 w' hex hv3
  replace hex := Exists.intro w' hex
  simp only [Act.put, List.setIfInBounds_toArray, List.set_cons_succ, List.set_cons_zero]
  refine wpS_one (A := ?_) hex rfl rfl (by simp) ?_ ?_ ?_
  rotate_left 2
  · intro w' hC K hK
    obtain ⟨hcell, hfrz⟩ := bcell hC.1.ext
    have f14 := Lib.hid ((hC.2 14 (by simp [Region.binds])).2.2.1 rfl); have f16 := Lib.hid (RLit.bytes abz (by decide) ((hC.2 16 (by simp [Region.binds])).1 rfl))
    go_wp2_with (go_at_call 60; refine (eq_same _ _ _ _ _ f14.out f16.out rfl).mono ?_; rintro e w2 ⟨rfl, hb2⟩)
    refine hK _ ?_
    first | exact Gr.refl _ _ | exact Gr.of_ext (by assumption) hC.1.1.size
  rotate_left 1
  · rfl
  clear hex; intro hex
  iterate 9
    (refine wpS_one (A := ?_) hex rfl rfl (by simp) ?_ ?_ ?_
     rotate_left 2
     · intro w' hC K hK
       obtain ⟨hcell, hfrz⟩ := bcell hC.1.ext
       go_wp2_with (go_at_call 31; refine (compl_any _ _).mono ?_; rintro e w2 ⟨rfl, hb2⟩)
       refine hK _ ?_
       first | exact Gr.refl _ _ | exact Gr.of_ext (by assumption) hC.1.1.size
     rotate_left 1
     · rfl
     clear hex; intro hex)
  refine wpS_nil fun w2 hE => ?_
  replace hE := hE.1.ext
  obtain ⟨hcell_w2, hfrz_w2⟩ := bcell hE
  go_wp2
  go_ret
  exact ⟨rfl, by (repeat' (first | (with_reducible exact Below.refl _ _) | (with_reducible assumption) | (with_reducible refine below_drewN ?_ _) | (with_reducible refine Below.alloc ?_ ?_ _) | (with_reducible refine Below.drew ?_) | (with_reducible refine Below.setCell ?_ ?_ _) | (with_reducible refine Below.trans ?_ (Below.mono (by with_reducible assumption) ?_)) | go_size))⟩
end Go.Proofs.YtkhmkcaocacfhaaDoor
