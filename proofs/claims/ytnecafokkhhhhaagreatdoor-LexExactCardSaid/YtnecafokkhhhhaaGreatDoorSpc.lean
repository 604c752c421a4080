/- A span of a class: one byte, or from one byte to another. -/
import Derived.Test.YtnecafokkhhhhaaGreatDoorChr
import Derived.Test.YtnecafokkhhhhaaGreatDoorMB
namespace Go.Proofs.YtnecafokkhhhhaaGreatDoor
open Go Go.RowKit
abbrev marks : ByteArray := ⟨#[91, 93, 45, 10]⟩
theorem grown_set (w : World) (b o : Nat) (v : Value) : w.grownBy (w.setCell ⟨b, o, none⟩ v) (some b) :=
  ⟨rfl, rfl, rfl, by simp [World.setCell], fun k _ hk => Below.heap_setCell _ _ _ _ (fun e => hk (by simp [e]))⟩
set_option maxHeartbeats 1000000 in
theorem span_no (f : List UInt8 → Nat × Nat) (hfn : ∀ l, (f l).2 ≤ l.length) (r : Nat) (s : ByteArray) (i : Nat) (es ed : Addr) (w : World) (h : Rdr w r s i) (hE : Errs w r es ed) (hf : Unesc f) (hv : ErrV w) (ho : chr f marks.data.toList (rest s i) = none) :
    Calls Tryz.prog 92 #[.pointer (some ⟨r, 0, none⟩)] w fun e w' => ∃ v, e = .returned (.tuple #[sv0, v]) ∧ Placed w' v es i ∧ Ext w w' := by
  have hch := fun (w' : World) (hx : Ext w w') => char_any f hfn r s marks i es ed w' (h.ext hx) (hE.ext hx) hf (hv.ext hx) none ho
  go_enter Tryz.func92, Tryz.ntmps92
  have HC := Lib.hid hch
  clear hch h hE hf hv ho
  go_wp2_with fail
  refine (HC.out _ (by go_grown)).mono ?_
  rintro e w1 ⟨v, rfl, ⟨p, t, rfl, hB, hlp⟩, hE1⟩
  have HLP := Lib.hid hlp
  clear hlp
  obtain ⟨hc1, hf1⟩ := bcell hE1
  have hne : w.heap.size ≠ p := by
    intro e
    have h0 := hB.cell 0
    have h1 := ((Blk.new w _ _).ext hE1).cell 0
    rw [← e, h1] at h0
    simp at h0
  have HB := Lib.hid hB
  have HN := Lib.hid hne
  clear hB hne
  go_wp2_with fail
  refine bodyPost_ret (v := .tuple #[sv0, .iface 70 (.pointer (some ⟨p, 0, none⟩))]) ?_ rfl ⟨_, rfl, ⟨p, t, rfl, ?_, HLP.out⟩, ?_⟩
  · simp [results, Tryz.results92, go_sem, hc1]
  · exact HB.out.grown (row := some w.heap.size) (grown_trans (grown_trans (grown_trans (grown_set _ _ _ _) (grown_set _ _ _ _)) (grown_set _ _ _ _)) (grown_set _ _ _ _)) (by simpa using HN.out)
  · (repeat' (first | (with_reducible exact Below.refl _ _) | (with_reducible assumption) | (with_reducible refine below_drewN ?_ _) | (with_reducible refine Below.alloc ?_ ?_ _) | (with_reducible refine Below.drew ?_) | (with_reducible refine Below.setCell ?_ ?_ _) | (with_reducible refine Below.trans ?_ (Below.mono (by with_reducible assumption) ?_)) | go_size))
theorem bytes_of_blk {w : World} {b : Nat} {t : TypeId} (l : List UInt8) (h : Blk w b (l.map ub).toArray t) (hl : l.length ≤ 140737488355328) : Bytes w (.slice (some ⟨b, 0, none⟩) l.length l.length) l := by
  refine ⟨_, _, rfl, Nat.le_refl _, ⟨hl, by unfold maxLen; omega⟩, .inr ⟨b, 0, rfl, h.lt, fun i _ => ?_⟩⟩
  rw [Nat.zero_add, h.cell i]; simp
theorem one_byte (w : World) (k : Nat) (t : TypeId) (hk : k < 256) : Bytes (w.alloc (.cells #[.int .u8 (k : Int)] t)) (.slice (some ⟨w.heap.size, 0, none⟩) 1 1) [UInt8.ofNat k] := by
  have e : ([UInt8.ofNat k].map ub).toArray = #[.int .u8 (k : Int)] := by
    simp only [List.map_cons, List.map_nil, ub]
    rw [UInt8.toNat_ofNat_of_lt' (by omega)]
  exact bytes_of_blk [UInt8.ofNat k] (by rw [e]; exact Blk.new _ _ _) (by simp)
theorem grown_store {w a : World} {row : Option Nat} (h : w.grownBy a row) (b o : Nat) (v : Value) (hb : w.heap.size ≤ b) : w.grownBy (a.setCell ⟨b, o, none⟩ v) row :=
  ⟨h.os, h.tape, h.output, by simpa [World.setCell] using h.size, fun k hk hne => (Below.heap_setCell _ _ _ _ (by intro e; simp at e; omega)).trans (h.block k hk hne)⟩
set_option maxHeartbeats 1000000 in
theorem span_one (f : List UInt8 → Nat × Nat) (hfn : ∀ l, (f l).2 ≤ l.length) (r : Nat) (s : ByteArray) (i : Nat) (es ed : Addr) (w : World) (h : Rdr w r s i) (hE : Errs w r es ed) (hf : Unesc f) (hv : ErrV w) (b n : Nat) (hb : b < 256) (ho : chr f marks.data.toList (rest s i) = some (b, n)) (hq : Lib.hasPrefix (rest s (i + n)) [45, 45] = true ∨ (Lib.hasPrefix (rest s (i + n)) [45, 45] = false ∧ Lib.hasPrefix (rest s (i + n)) [45] = false)) :
    Calls Tryz.prog 92 #[.pointer (some ⟨r, 0, none⟩)] w fun e w' => e = .returned (.tuple #[sv (ofl [UInt8.ofNat b]), .nilIface]) ∧ Moved w w' r s (i + n) := by
  have hch := fun (w' : World) (hx : Ext w w') => char_any f hfn r s marks i es ed w' (h.ext hx) (hE.ext hx) hf (hv.ext hx) _ ho
  have hrw := h.blk.lt
  go_enter Tryz.func92, Tryz.ntmps92
  have HC := Lib.hid hch
  clear hch h hE hf hv ho
  go_wp2_with fail
  refine (HC.out _ (by go_grown)).mono ?_
  rintro e w1 ⟨rfl, hM⟩
  have hx1 : w.grownBy w1 (some r) := grown_trans (grown_of_ext (by go_grown)) hM.1
  have hL := (Blk.new w #[.int .u64 0, .int .u64 0, .int .u64 0, .int .u64 0] 36).grown hM.1 (by simp; omega)
  have hR := hM.2
  have HG := Lib.hid hx1
  have HL := Lib.hid hL
  have HR := Lib.hid hR
  clear hM hx1 hL hR
  have HO := fun (w2 : World) => Lib.hid (of_any (.slice (some ⟨w2.heap.size, 0, none⟩) 1 1) [UInt8.ofNat b] _ (one_byte w2 b 5 hb))
  rcases hq with hq | ⟨hq, hq2⟩
  · have hst := stands_any r s ⟨#[45, 45]⟩ (i + n) w1 HR.out true hq
    go_wp2_with fail
    refine hst.mono ?_
    rintro e w2 ⟨rfl, hk⟩
    have hx2 : Ext w1 w2 := by obtain ⟨k, rfl⟩ := hk; exact drew_ext _ _
    clear hk hst
    go_wp2_with fail
    refine (HO w2).out.mono ?_
    rintro e w4 ⟨rfl, hb4⟩
    have hx4 : Ext w1 w4 := bel_call hx2 (show Ext w2 w4 from by (repeat' (first | (with_reducible exact Below.refl _ _) | (with_reducible assumption) | (with_reducible refine below_drewN ?_ _) | (with_reducible refine Below.alloc ?_ ?_ _) | (with_reducible refine Below.drew ?_) | (with_reducible refine Below.setCell ?_ ?_ _) | (with_reducible refine Below.trans ?_ (Below.mono (by with_reducible assumption) ?_)) | go_size)))
    have hL4 := HL.out.ext hx4
    have l0 := hL4.cell 0
    have l1 := hL4.cell 1
    have l2 := hL4.cell 2
    have l3 := hL4.cell 3
    have g0 := hL4.free 0
    have g1 := hL4.free 1
    have g2 := hL4.free 2
    have g3 := hL4.free 3
    have hwl := hL4.lt
    have HX := Lib.hid hx4
    clear hx4 hL4 hb4 hx2
    go_wp2_with fail
    refine bodyPost_ret (v := .tuple #[sv (ofl [UInt8.ofNat b]), .nilIface]) ?_ rfl ⟨rfl, ?_, ?_⟩
    · simp [results, Tryz.results92, go_sem, l0, l1, l2, l3]
    · refine grown_store (grown_store (grown_store (grown_store (grown_ext HG.out HX.out) _ _ _ ?_) _ _ _ ?_) _ _ _ ?_) _ _ _ ?_ <;> exact Nat.le_refl _
    · exact (HR.out.ext HX.out).grown (row := some w.heap.size) (grown_trans (grown_trans (grown_trans (grown_set _ _ _ _) (grown_set _ _ _ _)) (grown_set _ _ _ _)) (grown_set _ _ _ _)) (by simp; omega)
  · have hst := stands_any r s ⟨#[45, 45]⟩ (i + n) w1 HR.out false hq
    go_wp2_with fail
    refine hst.mono ?_
    rintro e w2 ⟨rfl, hk⟩
    have hx2 : Ext w1 w2 := by obtain ⟨k, rfl⟩ := hk; exact drew_ext _ _
    clear hk hst
    have hps := pass_no r s ⟨#[45]⟩ (i + n) w2 (HR.out.ext hx2) hq2
    go_wp2_with fail
    refine hps.mono ?_
    rintro e w3 ⟨rfl, hk⟩
    have hx3 : Ext w1 w3 := by obtain ⟨k, rfl⟩ := hk; exact bel_call hx2 (drew_ext _ _)
    clear hk hps hx2
    go_wp2_with fail
    refine (HO w3).out.mono ?_
    rintro e w4 ⟨rfl, hb4⟩
    have hx4 : Ext w1 w4 := bel_call hx3 (show Ext w3 w4 from by (repeat' (first | (with_reducible exact Below.refl _ _) | (with_reducible assumption) | (with_reducible refine below_drewN ?_ _) | (with_reducible refine Below.alloc ?_ ?_ _) | (with_reducible refine Below.drew ?_) | (with_reducible refine Below.setCell ?_ ?_ _) | (with_reducible refine Below.trans ?_ (Below.mono (by with_reducible assumption) ?_)) | go_size)))
    have hL4 := HL.out.ext hx4
    have l0 := hL4.cell 0
    have l1 := hL4.cell 1
    have l2 := hL4.cell 2
    have l3 := hL4.cell 3
    have g0 := hL4.free 0
    have g1 := hL4.free 1
    have g2 := hL4.free 2
    have g3 := hL4.free 3
    have hwl := hL4.lt
    have HX := Lib.hid hx4
    clear hx4 hL4 hb4 hx3
    go_wp2_with fail
    refine bodyPost_ret (v := .tuple #[sv (ofl [UInt8.ofNat b]), .nilIface]) ?_ rfl ⟨rfl, ?_, ?_⟩
    · simp [results, Tryz.results92, go_sem, l0, l1, l2, l3]
    · refine grown_store (grown_store (grown_store (grown_store (grown_ext HG.out HX.out) _ _ _ ?_) _ _ _ ?_) _ _ _ ?_) _ _ _ ?_ <;> exact Nat.le_refl _
    · exact (HR.out.ext HX.out).grown (row := some w.heap.size) (grown_trans (grown_trans (grown_trans (grown_set _ _ _ _) (grown_set _ _ _ _)) (grown_set _ _ _ _)) (grown_set _ _ _ _)) (by simp; omega)
set_option maxHeartbeats 1000000 in
theorem span_bad (f : List UInt8 → Nat × Nat) (hfn : ∀ l, (f l).2 ≤ l.length) (r : Nat) (s : ByteArray) (i : Nat) (es ed : Addr) (w : World) (h : Rdr w r s i) (hE : Errs w r es ed) (hf : Unesc f) (hv : ErrV w) (hlc : 18 < r) (b n : Nat) (ho : chr f marks.data.toList (rest s i) = some (b, n)) (hq : Lib.hasPrefix (rest s (i + n)) [45, 45] = false) (hq2 : Lib.hasPrefix (rest s (i + n)) [45] = true) (hle : i + n + 1 ≤ s.size) (ho2 : chr f marks.data.toList (rest s (i + n + 1)) = none) :
    Calls Tryz.prog 92 #[.pointer (some ⟨r, 0, none⟩)] w fun e w' => ∃ v, e = .returned (.tuple #[sv0, v]) ∧ Placed w' v es ((i + n + 1 : Nat) : Int) ∧ w.grownBy w' (some r) := by
  have hch := fun (w' : World) (hx : Ext w w') => char_any f hfn r s marks i es ed w' (h.ext hx) (hE.ext hx) hf (hv.ext hx) _ ho
  have hrw := h.blk.lt
  have hes := hE.ls
  go_enter Tryz.func92, Tryz.ntmps92
  have HC := Lib.hid hch
  have HE := Lib.hid hE
  have HF := Lib.hid hf
  have HV := Lib.hid hv
  clear hch h hE hf hv ho
  go_wp2_with fail
  refine (HC.out _ (by go_grown)).mono ?_
  rintro e w1 ⟨rfl, hM⟩
  have hx1 : w.grownBy w1 (some r) := grown_trans (grown_of_ext (by go_grown)) hM.1
  have hL := (Blk.new w #[.int .u64 0, .int .u64 0, .int .u64 0, .int .u64 0] 36).grown hM.1 (by simp; omega)
  have hR := hM.2
  have HG := Lib.hid hx1
  have HL := Lib.hid hL
  have HR := Lib.hid hR
  clear hM hx1 hL hR HC
  have hst := stands_any r s ⟨#[45, 45]⟩ (i + n) w1 HR.out false hq
  go_wp2_with fail
  refine hst.mono ?_
  rintro e w2 ⟨rfl, hk⟩
  have hx2 : Ext w1 w2 := by obtain ⟨k, rfl⟩ := hk; exact drew_ext _ _
  clear hk hst
  have hps := pass_yes r s ⟨#[45]⟩ (i + n) w2 (HR.out.ext hx2) hq2 hle
  go_wp2_with fail
  refine hps.mono ?_
  rintro e w3 ⟨rfl, hM⟩
  have hx3 : w.grownBy w3 (some r) := grown_trans (grown_ext HG.out hx2) hM.1
  have hL3 := (HL.out.ext hx2).grown hM.1 (by simp; omega)
  have hR3 : Rdr w3 r s (i + n + 1) := hM.2
  have HG3 := Lib.hid hx3
  have HL3 := Lib.hid hL3
  have HR3 := Lib.hid hR3
  clear hM hx3 hL3 hR3 hx2 HG HL HR hps
  have c0 := HR3.out.blk.cell 0
  have c1 := HR3.out.blk.cell 1
  go_wp2_with fail
  refine (char_any f hfn r s marks (i + n + 1) es ed w3 HR3.out (HE.out.moved HG3.out) HF.out (HV.out.moved hlc HG3.out) _ ho2).mono ?_
  clear c0 c1
  rintro e w4 ⟨v, rfl, ⟨p, t, rfl, hB, hlp⟩, hE4⟩
  have HLP := Lib.hid hlp
  clear hlp
  have hL4 := HL3.out.ext hE4
  have hne : w.heap.size ≠ p := by
    intro e
    have h0 := hB.cell 0
    have h1 := hL4.cell 0
    rw [← e, h1] at h0
    simp at h0
  have l0 := hL4.cell 0
  have l1 := hL4.cell 1
  have l2 := hL4.cell 2
  have l3 := hL4.cell 3
  have g0 := hL4.free 0
  have g1 := hL4.free 1
  have g2 := hL4.free 2
  have g3 := hL4.free 3
  have hwl := hL4.lt
  have HX := Lib.hid hE4
  have HB := Lib.hid hB
  have HN := Lib.hid hne
  clear hE4 hL4 hB hne
  go_wp2_with fail
  refine bodyPost_ret (v := .tuple #[sv0, .iface 70 (.pointer (some ⟨p, 0, none⟩))]) ?_ rfl ⟨_, rfl, ⟨p, t, rfl, ?_, HLP.out⟩, ?_⟩
  · simp [results, Tryz.results92, go_sem, l0, l1, l2, l3]
  · exact HB.out.grown (row := some w.heap.size) (grown_trans (grown_trans (grown_trans (grown_set _ _ _ _) (grown_set _ _ _ _)) (grown_set _ _ _ _)) (grown_set _ _ _ _)) (by simpa using HN.out)
  · refine grown_store (grown_store (grown_store (grown_store (grown_ext HG3.out HX.out) _ _ _ ?_) _ _ _ ?_) _ _ _ ?_) _ _ _ ?_ <;> exact Nat.le_refl _
set_option maxHeartbeats 1000000 in
theorem span_two (f : List UInt8 → Nat × Nat) (hfn : ∀ l, (f l).2 ≤ l.length) (r : Nat) (s : ByteArray) (i : Nat) (es ed : Addr) (w : World) (h : Rdr w r s i) (hE : Errs w r es ed) (hf : Unesc f) (hv : ErrV w) (hlc : 18 < r) (b n : Nat) (ho : chr f marks.data.toList (rest s i) = some (b, n)) (hq : Lib.hasPrefix (rest s (i + n)) [45, 45] = false) (hq2 : Lib.hasPrefix (rest s (i + n)) [45] = true) (hle : i + n + 1 ≤ s.size) (c k : Nat) (hb : b < 256) (hc : c < 256) (ho2 : chr f marks.data.toList (rest s (i + n + 1)) = some (c, k)) (hcb : b ≤ c) :
    Calls Tryz.prog 92 #[.pointer (some ⟨r, 0, none⟩)] w fun e w' => e = .returned (.tuple #[sv (rng b c), .nilIface]) ∧ Moved w w' r s (i + n + 1 + k) := by
  have hch := fun (w' : World) (hx : Ext w w') => char_any f hfn r s marks i es ed w' (h.ext hx) (hE.ext hx) hf (hv.ext hx) _ ho
  have hrw := h.blk.lt
  have hes := hE.ls
  go_enter Tryz.func92, Tryz.ntmps92
  have HC := Lib.hid hch
  have HE := Lib.hid hE
  have HF := Lib.hid hf
  have HV := Lib.hid hv
  clear hch h hE hf hv ho
  go_wp2_with fail
  refine (HC.out _ (by go_grown)).mono ?_
  rintro e w1 ⟨rfl, hM⟩
  have hx1 : w.grownBy w1 (some r) := grown_trans (grown_of_ext (by go_grown)) hM.1
  have hL := (Blk.new w #[.int .u64 0, .int .u64 0, .int .u64 0, .int .u64 0] 36).grown hM.1 (by simp; omega)
  have hR := hM.2
  have HG := Lib.hid hx1
  have HL := Lib.hid hL
  have HR := Lib.hid hR
  clear hM hx1 hL hR HC
  have hst := stands_any r s ⟨#[45, 45]⟩ (i + n) w1 HR.out false hq
  go_wp2_with fail
  refine hst.mono ?_
  rintro e w2 ⟨rfl, hk⟩
  have hx2 : Ext w1 w2 := by obtain ⟨k, rfl⟩ := hk; exact drew_ext _ _
  clear hk hst
  have hps := pass_yes r s ⟨#[45]⟩ (i + n) w2 (HR.out.ext hx2) hq2 hle
  go_wp2_with fail
  refine hps.mono ?_
  rintro e w3 ⟨rfl, hM⟩
  have hx3 : w.grownBy w3 (some r) := grown_trans (grown_ext HG.out hx2) hM.1
  have hL3 := (HL.out.ext hx2).grown hM.1 (by simp; omega)
  have hR3 : Rdr w3 r s (i + n + 1) := hM.2
  have HG3 := Lib.hid hx3
  have HL3 := Lib.hid hL3
  have HR3 := Lib.hid hR3
  clear hM hx3 hL3 hR3 hx2 HG HL HR hps
  have c0 := HR3.out.blk.cell 0
  have c1 := HR3.out.blk.cell 1
  go_wp2_with fail
  refine (char_any f hfn r s marks (i + n + 1) es ed w3 HR3.out (HE.out.moved HG3.out) HF.out (HV.out.moved hlc HG3.out) _ ho2).mono ?_
  clear c0 c1
  rintro e w4 ⟨rfl, hM⟩
  have hL4 := HL3.out.grown hM.1 (by simp; omega)
  have hx4 := grown_trans HG3.out hM.1
  have hR4 := hM.2
  have HG4 := Lib.hid hx4
  have HL4 := Lib.hid hL4
  have HR4 := Lib.hid hR4
  clear hM hx4 hL4 hR4
  have hnl : ¬ ((c : Int) < (b : Int)) := by omega
  go_wp2_with fail
  refine (range_any b c w4 (by omega) (by omega) (by omega) (by omega)).mono ?_
  rintro e w5 ⟨rfl, hE5⟩
  have hL5 := HL4.out.ext hE5
  have l0 := hL5.cell 0
  have l1 := hL5.cell 1
  have l2 := hL5.cell 2
  have l3 := hL5.cell 3
  have g0 := hL5.free 0
  have g1 := hL5.free 1
  have g2 := hL5.free 2
  have g3 := hL5.free 3
  have hwl := hL5.lt
  have HX := Lib.hid hE5
  clear hE5 hL5
  go_wp2_with fail
  refine bodyPost_ret (v := .tuple #[sv (rng b c), .nilIface]) ?_ rfl ⟨rfl, ?_, ?_⟩
  · simp [results, Tryz.results92, go_sem, l0, l1, l2, l3]
  · refine grown_store (grown_store (grown_store (grown_store (grown_ext HG4.out HX.out) _ _ _ ?_) _ _ _ ?_) _ _ _ ?_) _ _ _ ?_ <;> exact Nat.le_refl _
  · exact (HR4.out.ext HX.out).grown (row := some w.heap.size) (grown_trans (grown_trans (grown_trans (grown_set _ _ _ _) (grown_set _ _ _ _)) (grown_set _ _ _ _)) (grown_set _ _ _ _)) (by simp; omega)
set_option maxHeartbeats 1000000 in
theorem span_low (f : List UInt8 → Nat × Nat) (hfn : ∀ l, (f l).2 ≤ l.length) (r : Nat) (s : ByteArray) (i : Nat) (es ed : Addr) (w : World) (h : Rdr w r s i) (hE : Errs w r es ed) (hf : Unesc f) (hv : ErrV w) (hlc : 18 < r) (b n : Nat) (ho : chr f marks.data.toList (rest s i) = some (b, n)) (hq : Lib.hasPrefix (rest s (i + n)) [45, 45] = false) (hq2 : Lib.hasPrefix (rest s (i + n)) [45] = true) (hle : i + n + 1 ≤ s.size) (c k : Nat) (_hb : b < 256) (_hc : c < 256) (ho2 : chr f marks.data.toList (rest s (i + n + 1)) = some (c, k)) (hcb : c < b) :
    Calls Tryz.prog 92 #[.pointer (some ⟨r, 0, none⟩)] w fun e w' => ∃ v, e = .returned (.tuple #[sv0, v]) ∧ Placed w' v es ((i + n + 1 : Nat) : Int) ∧ w.grownBy w' (some r) := by
  have hch := fun (w' : World) (hx : Ext w w') => char_any f hfn r s marks i es ed w' (h.ext hx) (hE.ext hx) hf (hv.ext hx) _ ho
  have hrw := h.blk.lt
  have hes := hE.ls
  go_enter Tryz.func92, Tryz.ntmps92
  have HC := Lib.hid hch
  have HE := Lib.hid hE
  have HF := Lib.hid hf
  have HV := Lib.hid hv
  clear hch h hE hf hv ho
  go_wp2_with fail
  refine (HC.out _ (by go_grown)).mono ?_
  rintro e w1 ⟨rfl, hM⟩
  have hx1 : w.grownBy w1 (some r) := grown_trans (grown_of_ext (by go_grown)) hM.1
  have hL := (Blk.new w #[.int .u64 0, .int .u64 0, .int .u64 0, .int .u64 0] 36).grown hM.1 (by simp; omega)
  have hR := hM.2
  have HG := Lib.hid hx1
  have HL := Lib.hid hL
  have HR := Lib.hid hR
  clear hM hx1 hL hR HC
  have hst := stands_any r s ⟨#[45, 45]⟩ (i + n) w1 HR.out false hq
  go_wp2_with fail
  refine hst.mono ?_
  rintro e w2 ⟨rfl, hk⟩
  have hx2 : Ext w1 w2 := by obtain ⟨k, rfl⟩ := hk; exact drew_ext _ _
  clear hk hst
  have hps := pass_yes r s ⟨#[45]⟩ (i + n) w2 (HR.out.ext hx2) hq2 hle
  go_wp2_with fail
  refine hps.mono ?_
  rintro e w3 ⟨rfl, hM⟩
  have hx3 : w.grownBy w3 (some r) := grown_trans (grown_ext HG.out hx2) hM.1
  have hL3 := (HL.out.ext hx2).grown hM.1 (by simp; omega)
  have hR3 : Rdr w3 r s (i + n + 1) := hM.2
  have HG3 := Lib.hid hx3
  have HL3 := Lib.hid hL3
  have HR3 := Lib.hid hR3
  clear hM hx3 hL3 hR3 hx2 HG HL HR hps
  have c0 := HR3.out.blk.cell 0
  have c1 := HR3.out.blk.cell 1
  go_wp2_with fail
  refine (char_any f hfn r s marks (i + n + 1) es ed w3 HR3.out (HE.out.moved HG3.out) HF.out (HV.out.moved hlc HG3.out) _ ho2).mono ?_
  clear c0 c1
  rintro e w4 ⟨rfl, hM⟩
  have hL4 := HL3.out.grown hM.1 (by simp; omega)
  have hx4 := grown_trans HG3.out hM.1
  have cs := (HE.out.moved hx4).syn
  have HG4 := Lib.hid hx4
  have HL4 := Lib.hid hL4
  have hpb : es.block < w4.heap.size := Nat.lt_trans HE.out.bs hM.2.blk.lt
  clear hM hx4 hL4
  have hnl : (c : Int) < (b : Int) := by omega
  go_wp2_with fail
  refine (place_new es _ w4 hpb).mono ?_
  rintro e w5 ⟨v, rfl, ⟨p, t, rfl, hB, hlp⟩, hE5⟩
  have HLP := Lib.hid hlp
  clear hlp hpb
  have hL5 := HL4.out.ext hE5
  have hne : w.heap.size ≠ p := by
    intro e
    have h0 := hB.cell 0
    have h1 := hL5.cell 0
    rw [← e, h1] at h0
    simp at h0
  have l0 := hL5.cell 0
  have l1 := hL5.cell 1
  have l2 := hL5.cell 2
  have l3 := hL5.cell 3
  have g0 := hL5.free 0
  have g1 := hL5.free 1
  have g2 := hL5.free 2
  have g3 := hL5.free 3
  have hwl := hL5.lt
  have HX := Lib.hid hE5
  have HB := Lib.hid hB
  have HN := Lib.hid hne
  clear hE5 hL5 hB hne
  go_wp2_with fail
  refine bodyPost_ret (v := .tuple #[sv0, .iface 70 (.pointer (some ⟨p, 0, none⟩))]) ?_ rfl ⟨_, rfl, ⟨p, t, rfl, ?_, HLP.out⟩, ?_⟩
  · simp [results, Tryz.results92, go_sem, l0, l1, l2, l3]
  · exact HB.out.grown (row := some w.heap.size) (grown_trans (grown_trans (grown_trans (grown_set _ _ _ _) (grown_set _ _ _ _)) (grown_set _ _ _ _)) (grown_set _ _ _ _)) (by simpa using HN.out)
  · refine grown_store (grown_store (grown_store (grown_store (grown_ext HG4.out HX.out) _ _ _ ?_) _ _ _ ?_) _ _ _ ?_) _ _ _ ?_ <;> exact Nat.le_refl _
theorem chr_lt {f : List UInt8 → Nat × Nat} (hfn : ∀ l, (f l).2 ≤ l.length) (hfb : ∀ l, (f l).1 < 256) {m l : List UInt8} {b n : Nat} (h : chr f m l = some (b, n)) : b < 256 ∧ 0 < n ∧ n ≤ l.length := by
  cases l with
  | nil => cases h
  | cons c l =>
    have hch : chr f m (c :: l) = if c = 92 then (if (f l).2 = 0 then none else some ((f l).1, (f l).2 + 1)) else if c ∈ m then none else some (c.toNat, 1) := rfl
    rw [hch] at h
    have h1 := hfn l
    have h2 := hfb l
    have h3 := c.toNat_lt
    rw [List.length_cons]
    by_cases hc : c = 92
    · rw [if_pos hc] at h
      by_cases h0 : (f l).2 = 0
      · rw [if_pos h0] at h; cases h
      · rw [if_neg h0] at h; cases h
        exact ⟨h2, by omega, by omega⟩
    · rw [if_neg hc] at h
      by_cases hm : c ∈ m
      · rw [if_pos hm] at h; cases h
      · rw [if_neg hm] at h; cases h
        exact ⟨h3, by omega, by omega⟩
/-- A span: the set, and how many bytes it takes; or how far behind its begin it's refused. -/
def spq (f : List UInt8 → Nat × Nat) (l : List UInt8) : Sum Nat (BitVec 256 × Nat) :=
  match chr f marks.data.toList l with
  | none => .inl 0
  | some (b, n) =>
    if Lib.hasPrefix (l.drop n) [45, 45] = true ∨ Lib.hasPrefix (l.drop n) [45] = false then .inr (ofl [UInt8.ofNat b], n) else
    match chr f marks.data.toList (l.drop (n + 1)) with
    | none => .inl (n + 1)
    | some (c, k) => if c < b then .inl (n + 1) else .inr (rng b c, n + 1 + k)
/-- What 'span' answers. -/
def SetEnd (w w' : World) (r : Nat) (s : ByteArray) (i : Nat) (es : Addr) (e : Ending) : Sum Nat (BitVec 256 × Nat) → Prop
  | .inl d => ∃ v, e = .returned (.tuple #[sv0, v]) ∧ Placed w' v es ((i + d : Nat) : Int) ∧ w.grownBy w' (some r)
  | .inr (S, n) => e = .returned (.tuple #[sv S, .nilIface]) ∧ Moved w w' r s (i + n)
theorem rest_drop (s : ByteArray) (i n : Nat) : rest s (i + n) = (rest s i).drop n := by
  unfold rest
  rw [List.drop_drop]
theorem rest_len {s : ByteArray} {i : Nat} (h : i ≤ s.size) : (rest s i).length + i = s.size := by
  unfold rest
  rw [List.length_drop, Array.length_toList]
  have : s.data.size = s.size := rfl
  omega
theorem pre_two {l : List UInt8} (h : Lib.hasPrefix l [45] = false) : Lib.hasPrefix l [45, 45] = false := by
  cases l with
  | nil => rfl
  | cons c l =>
    have h1 : ((45 : UInt8) == c && List.isPrefixOf [] l) = false := h
    show ((45 : UInt8) == c && List.isPrefixOf [45] l) = false
    cases h2 : ((45 : UInt8) == c) with
    | false => rfl
    | true => rw [h2] at h1; cases l <;> cases h1
theorem pre_len {l : List UInt8} {c : UInt8} (h : Lib.hasPrefix l [c] = true) : 0 < l.length := by
  cases l with
  | nil => cases h
  | cons c l => simp
theorem span_any (f : List UInt8 → Nat × Nat) (hfn : ∀ l, (f l).2 ≤ l.length) (hfb : ∀ l, (f l).1 < 256) (r : Nat) (s : ByteArray) (i : Nat) (es ed : Addr) (w : World) (h : Rdr w r s i) (hE : Errs w r es ed) (hf : Unesc f) (hv : ErrV w) (hlc : 18 < r) (o : Sum Nat (BitVec 256 × Nat)) (ho : spq f (rest s i) = o) :
    Calls Tryz.prog 92 #[.pointer (some ⟨r, 0, none⟩)] w fun e w' => SetEnd w w' r s i es e o := by
  have hl := rest_len h.le
  unfold spq at ho
  cases h1 : chr f marks.data.toList (rest s i) with
  | none =>
    rw [h1] at ho
    subst ho
    refine (span_no f hfn r s i es ed w h hE hf hv h1).mono ?_
    rintro e w' ⟨v, he, hp, hx⟩
    exact ⟨v, he, hp, grown_of_ext hx⟩
  | some bn =>
    obtain ⟨b, n⟩ := bn
    obtain ⟨hb, hn0, hn⟩ := chr_lt hfn hfb h1
    rw [h1] at ho
    simp only at ho
    rw [← rest_drop, ← rest_drop] at ho
    by_cases hq : Lib.hasPrefix (rest s (i + n)) [45, 45] = true ∨ Lib.hasPrefix (rest s (i + n)) [45] = false
    · rw [if_pos hq] at ho
      subst ho
      exact span_one f hfn r s i es ed w h hE hf hv b n hb h1 (hq.imp id fun hq => ⟨pre_two hq, hq⟩)
    · rw [if_neg hq] at ho
      have hqa : Lib.hasPrefix (rest s (i + n)) [45, 45] = false := by
        cases hh : Lib.hasPrefix (rest s (i + n)) [45, 45] with
        | false => rfl
        | true => exact absurd (.inl hh) hq
      have hqb : Lib.hasPrefix (rest s (i + n)) [45] = true := by
        cases hh : Lib.hasPrefix (rest s (i + n)) [45] with
        | true => rfl
        | false => exact absurd (.inr hh) hq
      have hle : i + n + 1 ≤ s.size := by
        have h3 := pre_len hqb
        have h4 := rest_len (s := s) (i := i + n) (by omega)
        omega
      cases h2 : chr f marks.data.toList (rest s (i + (n + 1))) with
      | none =>
        rw [h2] at ho
        subst ho
        exact span_bad f hfn r s i es ed w h hE hf hv hlc b n h1 hqa hqb hle h2
      | some ck =>
        obtain ⟨c, k⟩ := ck
        obtain ⟨hc, _, _⟩ := chr_lt hfn hfb h2
        rw [h2] at ho
        simp only at ho
        by_cases hcb : c < b
        · rw [if_pos hcb] at ho
          subst ho
          exact span_low f hfn r s i es ed w h hE hf hv hlc b n h1 hqa hqb hle c k hb hc h2 hcb
        · rw [if_neg hcb] at ho
          subst ho
          refine (span_two f hfn r s i es ed w h hE hf hv hlc b n h1 hqa hqb hle c k hb hc h2 (by omega)).mono ?_
          rintro e w' ⟨he, hM⟩
          refine ⟨he, ?_⟩
          rw [show i + (n + 1 + k) = i + n + 1 + k by omega]
          exact hM
end Go.Proofs.YtnecafokkhhhhaaGreatDoor
