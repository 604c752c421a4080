/- Package class: the reader that goes through a text: begin, stands, pass, refuse. -/
import Derived.Test.YtnecafokkhhhhaaGreatDoorShelf
import Derived.Test.YtnecafokkhhhhaaGreatDoorMA
import Derived.WalkKit
import Derived.WalkSpells
import Derived.WalkLawsBesides
import Derived.RegionTactic
import Derived.BigRegion
import Derived.Handy
import Derived.Lib.Hide
import Derived.Deep.RegionWith
import Derived.StillTailTactics
import Derived.Outline
namespace Go.Proofs.YtnecafokkhhhhaaGreatDoor
open Go Go.RowKit
/-- Reader r stands at place i of text s. -/
structure Rdr (w : World) (r : Nat) (s : ByteArray) (i : Nat) : Prop where
  blk : Blk w r #[.string s, .int .i64 i] 104
  le : i ≤ s.size
  size : s.size ≤ 4294967000
theorem Rdr.grown {w w' : World} {r : Nat} {s : ByteArray} {i : Nat} (h : Rdr w r s i) {row : Option Nat} (hg : w.grownBy w' row) (hne : row ≠ some r) : Rdr w' r s i := ⟨h.blk.grown hg hne, h.le, h.size⟩
theorem Rdr.ext {w w' : World} {r : Nat} {s : ByteArray} {i : Nat} (h : Rdr w r s i) (hx : Ext w w') : Rdr w' r s i := ⟨h.blk.ext hx, h.le, h.size⟩
theorem Rdr.drewN {w : World} {r : Nat} {s : ByteArray} {i : Nat} (h : Rdr w r s i) (n : Nat) : Rdr (w.drewN n) r s i := ⟨h.blk.drewN n, h.le, h.size⟩
/-- What is left of the text. -/
def rest (s : ByteArray) (i : Nat) : List UInt8 := s.data.toList.drop i
theorem ext_rest (s : ByteArray) (i : Nat) : (s.extract i s.size).data.toList = rest s i := by
  unfold rest
  rw [ByteArray.data_extract, Array.toList_extract, List.extract_eq_take_drop, List.take_of_length_le]
  rw [List.length_drop, Array.length_toList]
  exact Nat.le_refl _
set_option maxHeartbeats 1000000 in
theorem stands_any (r : Nat) (s p : ByteArray) (i : Nat) (w : World) (h : Rdr w r s i) (q : Bool) (hq : Lib.hasPrefix (rest s i) p.data.toList = q) :
    Calls Tryz.prog 75 #[.pointer (some ⟨r, 0, none⟩), .string p] w fun e w' => e = .returned (.bool q) ∧ ∃ n, w' = w.drewN n := by
  have hsz := h.size
  have hle := h.le
  have c0 := h.blk.cell 0
  have c1 := h.blk.cell 1
  go_enter Tryz.func75, Tryz.ntmps75
  go_wp2_with fail
  refine D.wp_region_stab (fun _ => none) (by kernel_rfl) (by kernel_rfl) (fun _ _ h => by cases h) (fun hex => ?_)
  iterate 8
    (refine D.wpS_one (A := ?_) hex rfl rfl (by simp) ?_ ?_ ?_
     rotate_left 2
     · intro w' hC K hK
       obtain ⟨nq, rfl⟩ := hC.1
       have d0 := (h.blk.drewN nq).cell 0; have d1 := (h.blk.drewN nq).cell 1
       go_wp2_with (fail)
       refine hK _ ?_
       first | exact D.Gr.refl _ _ | exact ⟨_, rfl⟩
     rotate_left 1
     · rfl
     clear hex; intro hex)
  iterate 2
    (refine D.wpS_one (A := ?_) hex rfl rfl (by simp) ?_ ?_ ?_
     rotate_left 2
     · intro w' hC K hK
       obtain ⟨nq, rfl⟩ := hC.1
       go_wp2_with (fail)
       refine hK _ ?_
       first | exact D.Gr.refl _ _ | exact ⟨_, rfl⟩
     rotate_left 1
     · rfl
     clear hex; intro hex)
  refine D.wpS_one (A := ?_) hex rfl rfl (by simp) ?_ ?_ ?_
  rotate_left 2
  · intro w' hC K hK
    obtain ⟨nq, rfl⟩ := hC.1
    go_wp2_with (refine (Tryz.strings_HasPrefix _ _ _).mono ?_; rintro e w2 ⟨rfl, rfl⟩; rw [ext_rest, hq])
    refine hK _ ?_
    first | exact D.Gr.refl _ _ | exact ⟨_, rfl⟩
  rotate_left 1
  · rfl
  clear hex; intro hex
  refine D.wpS_one (A := ?_) hex rfl rfl (by simp) ?_ ?_ ?_
  rotate_left 2
  · intro w' hC K hK
    obtain ⟨nq, rfl⟩ := hC.1
    go_wp2_with (fail)
    refine hK _ ?_
    first | exact D.Gr.refl _ _ | exact ⟨_, rfl⟩
  rotate_left 1
  · rfl
  clear hex; intro hex
  refine D.wpS_nil fun _ hE => ?_
  obtain ⟨nq, rfl⟩ := hE.1
  clear hE hex
  go_wp2
  go_ret
  exact ⟨rfl, _, rfl⟩
set_option maxHeartbeats 1000000 in
theorem pass_no (r : Nat) (s p : ByteArray) (i : Nat) (w : World) (h : Rdr w r s i) (hq : Lib.hasPrefix (rest s i) p.data.toList = false) :
    Calls Tryz.prog 72 #[.pointer (some ⟨r, 0, none⟩), .string p] w fun e w' => e = .returned (.bool false) ∧ ∃ n, w' = w.drewN n := by
  have hs := stands_any r s p i w h false hq
  go_enter Tryz.func72, Tryz.ntmps72
  go_wp2_with fail
  refine hs.mono ?_
  rintro e w1 ⟨rfl, n, rfl⟩
  go_wp2
  go_ret
  exact ⟨rfl, _, rfl⟩
/-- What a method of the reader leaves: all but the reader as it was, the reader at another place. -/
def Moved (w w' : World) (r : Nat) (s : ByteArray) (j : Nat) : Prop := w.grownBy w' (some r) ∧ Rdr w' r s j
theorem grown_trans {a b c : World} {row : Option Nat} (h : a.grownBy b row) (k : b.grownBy c row) : a.grownBy c row :=
  ⟨k.os.trans h.os, k.tape.trans h.tape, k.output.trans h.output, Nat.le_trans h.size k.size, fun n hn hne => (k.block n (Nat.lt_of_lt_of_le hn h.size) hne).trans (h.block n hn hne)⟩
theorem grown_ext {a b c : World} {row : Option Nat} (h : a.grownBy b row) (hE : Ext b c) : a.grownBy c row :=
  ⟨hE.os.trans h.os, hE.tape.trans h.tape, hE.output.trans h.output, Nat.le_trans h.size hE.size, fun k hk hne => (hE.block k (Nat.lt_of_lt_of_le hk h.size)).trans (h.block k hk hne)⟩
theorem grown_of_ext {a b : World} {row : Option Nat} (hE : Ext a b) : a.grownBy b row := ⟨hE.os, hE.tape, hE.output, hE.size, fun k hk _ => hE.block k hk⟩
theorem grown_drew (w : World) (n : Nat) (row : Option Nat) : w.grownBy (w.drewN n) row := ⟨rfl, rfl, rfl, Nat.le_refl _, fun _ _ _ => rfl⟩
theorem Moved.trans {a b c : World} {r : Nat} {s : ByteArray} {i j : Nat} (h : Moved a b r s i) (k : Moved b c r s j) : Moved a c r s j := ⟨grown_trans h.1 k.1, k.2⟩
theorem Moved.ext {a b c : World} {r : Nat} {s : ByteArray} {i : Nat} (h : Moved a b r s i) (hE : Ext b c) : Moved a c r s i := ⟨grown_ext h.1 hE, h.2.ext hE⟩
theorem Moved.drewN {a b : World} {r : Nat} {s : ByteArray} {i : Nat} (h : Moved a b r s i) (n : Nat) : Moved a (b.drewN n) r s i := ⟨grown_trans h.1 (grown_drew _ _ _), h.2.drewN n⟩
theorem Moved.same {w : World} {r : Nat} {s : ByteArray} {i : Nat} (h : Rdr w r s i) : Moved w w r s i := ⟨grown_drew w 0 _, h⟩
theorem Moved.set {a b : World} {r : Nat} {s : ByteArray} {i : Nat} (h : Moved a b r s i) (j : Nat) (hj : j ≤ s.size) : Moved a (b.setCell ⟨r, 1, none⟩ (.int .i64 j)) r s j :=
  ⟨grown_trans h.1 ⟨rfl, rfl, rfl, by simp [World.setCell], fun k _ hk => Below.heap_setCell _ _ _ _ (fun e => hk (by simp [e]))⟩, h.2.blk.set 1 _, hj, h.2.size⟩
set_option maxHeartbeats 1000000 in
theorem pass_yes (r : Nat) (s p : ByteArray) (i : Nat) (w : World) (h : Rdr w r s i) (hq : Lib.hasPrefix (rest s i) p.data.toList = true) (hp : i + p.size ≤ s.size) :
    Calls Tryz.prog 72 #[.pointer (some ⟨r, 0, none⟩), .string p] w fun e w' => e = .returned (.bool true) ∧ Moved w w' r s (i + p.size) := by
  have hs := stands_any r s p i w h true hq
  have hsz := h.size
  go_enter Tryz.func72, Tryz.ntmps72
  go_wp2_with fail
  refine hs.mono ?_
  rintro e w1 ⟨rfl, n, rfl⟩
  have c1 := (h.blk.drewN n).cell 1
  have f1 := (h.blk.drewN n).free 1
  go_wp2
  go_ret
  refine ⟨rfl, ?_⟩
  rw [show (i : Int) + p.size = ((i + p.size : Nat) : Int) by omega]
  exact ((Moved.same h).drewN n).set _ hp
instance : G.GOK Ext := ⟨fun w => Below.refl _ w, fun h k => bel_call h k, fun _ => ⟨rfl, rfl, rfl, Nat.le_refl _, fun _ _ => rfl⟩⟩
/-- The error that stands at an address. -/
abbrev strAt (a : Addr) : Value := .iface 192 (.pointer (some a))
/-- The errors that a reader refuses by: they stand below it. -/
structure Errs (w : World) (r : Nat) (es ed : Addr) : Prop where
  syn : w.cell? ⟨1, 0, none⟩ = some (strAt es)
  deep : w.cell? ⟨2, 0, none⟩ = some (strAt ed)
  ls : 1 < r
  ld : 2 < r
  bs : es.block < r
  bd : ed.block < r
theorem cell_grown {w w' : World} {row : Option Nat} {b o : Nat} {v : Value} (h : w.cell? ⟨b, o, none⟩ = some v) (hg : w.grownBy w' row) (hne : row ≠ some b) : w'.cell? ⟨b, o, none⟩ = some v := by
  have hb : b < w.heap.size := World.block_lt_of_cell? w (⟨b, o, none⟩ : Addr) h
  unfold World.cell? at h ⊢
  rw [hg.block b hb (fun e => hne e.symm)]
  exact h
theorem Errs.moved {w w' : World} {r : Nat} {es ed : Addr} (h : Errs w r es ed) (hg : w.grownBy w' (some r)) : Errs w' r es ed :=
  ⟨cell_grown h.syn hg (by have := h.ls; simp; omega), cell_grown h.deep hg (by have := h.ld; simp; omega), h.ls, h.ld, h.bs, h.bd⟩
theorem Errs.ext {w w' : World} {r : Nat} {es ed : Addr} (h : Errs w r es ed) (hx : Ext w w') : Errs w' r es ed := h.moved (grown_of_ext hx)
/-- A refusal: the error at 'a', placed at n. -/
def Placed (w : World) (v : Value) (a : Addr) (n : Int) : Prop := ∃ p t, v = .iface 70 (.pointer (some ⟨p, 0, none⟩)) ∧ Blk w p #[strAt a, .int .i64 n] t ∧ a.block < p
theorem Placed.ext {w w' : World} {v : Value} {a : Addr} {n : Int} (h : Placed w v a n) (hx : Ext w w') : Placed w' v a n := by
  obtain ⟨p, t, h1, h2, h3⟩ := h
  exact ⟨p, t, h1, h2.ext hx, h3⟩
theorem place_new (a : Addr) (n : Int) (w : World) (ha : a.block < w.heap.size) :
    Calls Tryz.prog 47 #[strAt a, .int .i64 n] w fun e w' => ∃ v, e = .returned v ∧ Placed w' v a n ∧ Ext w w' := by
  have hb := Blk.new w #[strAt a, .int .i64 n] 75
  go_enter Tryz.func47, Tryz.ntmps47
  go_wp2
  go_ret
  exact ⟨_, rfl, ⟨_, _, rfl, hb, ha⟩, by go_grown⟩
def RsP (k : Nat) (a : Addr) (n : Int) : Nat → Option (Value → World → Prop) := fun j => if j = k then some (fun v w => Placed w v a n) else none
theorem RsP_mono (k : Nat) (a : Addr) (n : Int) : G.RsMono Ext (RsP k a n) := by
  intro j R h
  unfold RsP at h
  split at h
  · cases h; exact fun v w w' hx hR => Placed.ext hR hx
  · cases h
set_option maxHeartbeats 1000000 in
theorem refuse_any (r : Nat) (s : ByteArray) (i : Nat) (es ed : Addr) (w : World) (h : Rdr w r s i) (hE : Errs w r es ed) :
    Calls Tryz.prog 73 #[.pointer (some ⟨r, 0, none⟩)] w fun e w' => ∃ v, e = .returned v ∧ Placed w' v es i ∧ Ext w w' := by
  go_enter Tryz.func73, Tryz.ntmps73
  go_wp2_with fail
  refine G.wp_region_stab (G := Ext) (RsP 5 es i) (by kernel_rfl) (by kernel_rfl) (RsP_mono _ _ _) (fun hex => ?_)
  iterate 5
    (refine G.wpS_one (A := ?_) hex rfl rfl (by simp) ?_ ?_ ?_
     rotate_left 2
     · intro w' hC K hK
       have c1 := (h.ext hC.1).blk.cell 1; have cs := (hE.ext hC.1).syn
       go_wp2_with (fail)
       refine hK _ ?_
       first | exact Below.refl _ _ | assumption | ((repeat' (first | (with_reducible exact Below.refl _ _) | (with_reducible assumption) | (with_reducible refine below_drewN ?_ _) | (with_reducible refine Below.alloc ?_ ?_ _) | (with_reducible refine Below.drew ?_) | (with_reducible refine Below.setCell ?_ ?_ _) | (with_reducible refine Below.trans ?_ (Below.mono (by with_reducible assumption) ?_)) | go_size)))
     rotate_left 1
     · rfl
     clear hex; intro hex)
  refine G.wpS_rel (fun v w => Placed w v es i) rfl rfl (by simp) (by first | rfl | (simp [Region.wanted, yielded]; done)) ?_ ?_
  · intro w' hC K hK
    simp only [Act.put, List.setIfInBounds_toArray, List.set_cons_succ, List.set_cons_zero] at hK
    go_wp2_with (refine (place_new es i _ (Nat.lt_trans hE.bs (h.ext hC.1).blk.lt)).mono ?_; rintro e w2 ⟨v', rfl, h1, hE1⟩)
    refine hK _ _ ?_ ?_
    · first | exact Below.refl _ _ | assumption | ((repeat' (first | (with_reducible exact Below.refl _ _) | (with_reducible assumption) | (with_reducible refine below_drewN ?_ _) | (with_reducible refine Below.alloc ?_ ?_ _) | (with_reducible refine Below.drew ?_) | (with_reducible refine Below.setCell ?_ ?_ _) | (with_reducible refine Below.trans ?_ (Below.mono (by with_reducible assumption) ?_)) | go_size)))
    · exact h1
  clear hex
  intro v1 w' hex hv1
  replace hex := Exists.intro w' hex
  simp only [Act.put, List.setIfInBounds_toArray, List.set_cons_succ, List.set_cons_zero]
  refine G.wpS_one (A := ?_) hex rfl rfl (by simp) ?_ ?_ ?_
  rotate_left 2
  · intro w' hC K hK
    go_wp2_with (fail)
    refine hK _ ?_
    first | exact Below.refl _ _ | assumption | ((repeat' (first | (with_reducible exact Below.refl _ _) | (with_reducible assumption) | (with_reducible refine below_drewN ?_ _) | (with_reducible refine Below.alloc ?_ ?_ _) | (with_reducible refine Below.drew ?_) | (with_reducible refine Below.setCell ?_ ?_ _) | (with_reducible refine Below.trans ?_ (Below.mono (by with_reducible assumption) ?_)) | go_size)))
  rotate_left 1
  · rfl
  clear hex; intro hex
  refine G.wpS_nil fun w2 hAll => ?_
  have hp := (hAll.2 5).1 rfl
  go_wp2
  go_ret
  exact ⟨_, rfl, hp, hAll.1⟩
end Go.Proofs.YtnecafokkhhhhaaGreatDoor
