/- How a byte is written: spell. -/
import Derived.Test.YtgcfilgobclcjaaDoorQuo
import Derived.Test.YtgcfilgobclcjaaDoorWhr
import Derived.Test.YtgcfilgobclcjaaDoorSpans
namespace Go.Proofs.YtgcfilgobclcjaaDoor
open Go Go.RowKit
/-- What 'spell' leaves: the list of one's own, longer, in its own block or in a new one. -/
def SplEnd (base g : Nat) (w w' : World) (e : Ending) (L : List UInt8) : Prop :=
  ∃ g' cap', e = .returned (.slice (some ⟨g', 0, none⟩) L.length cap') ∧ w'.ownsRow base 5 1 (.slice (some ⟨g', 0, none⟩) L.length cap') L.length (L.map ub) ∧ w.grownBy w' (some g) ∧ (g' = g ∨ w.heap.size ≤ g')
theorem spl_end {base g g1 c1 n : Nat} {L : List UInt8} {w w1 : World} {xs : List Value} (S : List UInt8) (hn : n = (L ++ S).length) (hxs : xs = (L ++ S).map ub) (h : w1.ownsRow base 5 1 (.slice (some ⟨g1, 0, none⟩) n c1) n xs) (hg : w.grownBy w1 (some g)) (hw : g1 = g ∨ w.heap.size ≤ g1) :
    SplEnd base g w w1 (.returned (.slice (some ⟨g1, 0, none⟩) n c1)) (L ++ S) := by
  subst hn hxs
  exact ⟨g1, c1, rfl, h, hg, hw⟩
theorem grown_after {w w' : World} {row : Option Nat} {o : Obj} (h : (w.alloc o).grownBy w' row) : w.grownBy w' row :=
  ⟨h.os, h.tape, h.output, by have := h.size; simp at this; omega, fun k hk hne => by rw [h.block k (by simp; omega) hne, Below.heap_alloc _ _ _ hk]⟩
set_option maxHeartbeats 1000000 in
theorem spell_10 (base g cap : Nat) (L : List UInt8) (p : UInt8) (m : ByteArray) (w : World) (hown : w.ownsRow base 5 1 (.slice (some ⟨g, 0, none⟩) L.length cap) L.length (L.map ub)) (hL : L.length ≤ 1000000000) (hb : base ≤ w.heap.size) :
    Calls Tryd.prog 20 #[.slice (some ⟨g, 0, none⟩) L.length cap, .int .u8 10, .int .u8 p.toNat, .string m] w fun e w' => SplEnd base g w w' e (L ++ [92, 110]) := by
  obtain ⟨i0, hi, hz0, hz1, hz2⟩ := info_parts info_u8
  go_enter Tryd.func20, Tryd.ntmps20
  go_wp2_with (at_builtin; refine wpList_append_str_where rfl (.tmp 31) (.const (.string ⟨#[92, 110]⟩)) 46 9 rfl base 5 i0 Tryd.underlying46 Tryd.underlying9 hi hz0 hz1 hz2 _ _ _ rfl hown ⟨#[92, 110]⟩ rfl (by decide) (by unfold maxLen; show L.length + 2 ≤ _; omega) (by show L.length + 2 ≤ _; omega) (by omega) ?_; intro g1 c1 w1 hown1 hgrow1 hwh1)
  go_ret
  refine ⟨g1, c1, by rw [List.length_append]; rfl, ?_, hgrow1, hwh1.imp (fun e => (Option.some.inj e).symm) id⟩
  rw [List.length_append, List.map_append]
  exact hown1
set_option maxHeartbeats 1000000 in
theorem spell_9 (base g cap : Nat) (L : List UInt8) (p : UInt8) (m : ByteArray) (w : World) (hown : w.ownsRow base 5 1 (.slice (some ⟨g, 0, none⟩) L.length cap) L.length (L.map ub)) (hL : L.length ≤ 1000000000) (hb : base ≤ w.heap.size) :
    Calls Tryd.prog 20 #[.slice (some ⟨g, 0, none⟩) L.length cap, .int .u8 9, .int .u8 p.toNat, .string m] w fun e w' => SplEnd base g w w' e (L ++ [92, 116]) := by
  obtain ⟨i0, hi, hz0, hz1, hz2⟩ := info_parts info_u8
  go_enter Tryd.func20, Tryd.ntmps20
  go_wp2_with (at_builtin; refine wpList_append_str_where rfl (.tmp 33) (.const (.string ⟨#[92, 116]⟩)) 46 9 rfl base 5 i0 Tryd.underlying46 Tryd.underlying9 hi hz0 hz1 hz2 _ _ _ rfl hown ⟨#[92, 116]⟩ rfl (by decide) (by unfold maxLen; show L.length + 2 ≤ _; omega) (by show L.length + 2 ≤ _; omega) (by omega) ?_; intro g1 c1 w1 hown1 hgrow1 hwh1)
  go_ret
  refine ⟨g1, c1, by rw [List.length_append]; rfl, ?_, hgrow1, hwh1.imp (fun e => (Option.some.inj e).symm) id⟩
  rw [List.length_append, List.map_append]
  exact hown1
set_option maxHeartbeats 1000000 in
theorem spell_13 (base g cap : Nat) (L : List UInt8) (p : UInt8) (m : ByteArray) (w : World) (hown : w.ownsRow base 5 1 (.slice (some ⟨g, 0, none⟩) L.length cap) L.length (L.map ub)) (hL : L.length ≤ 1000000000) (hb : base ≤ w.heap.size) :
    Calls Tryd.prog 20 #[.slice (some ⟨g, 0, none⟩) L.length cap, .int .u8 13, .int .u8 p.toNat, .string m] w fun e w' => SplEnd base g w w' e (L ++ [92, 114]) := by
  obtain ⟨i0, hi, hz0, hz1, hz2⟩ := info_parts info_u8
  go_enter Tryd.func20, Tryd.ntmps20
  go_wp2_with (at_builtin; refine wpList_append_str_where rfl (.tmp 35) (.const (.string ⟨#[92, 114]⟩)) 46 9 rfl base 5 i0 Tryd.underlying46 Tryd.underlying9 hi hz0 hz1 hz2 _ _ _ rfl hown ⟨#[92, 114]⟩ rfl (by decide) (by unfold maxLen; show L.length + 2 ≤ _; omega) (by show L.length + 2 ≤ _; omega) (by omega) ?_; intro g1 c1 w1 hown1 hgrow1 hwh1)
  go_ret
  refine ⟨g1, c1, by rw [List.length_append]; rfl, ?_, hgrow1, hwh1.imp (fun e => (Option.some.inj e).symm) id⟩
  rw [List.length_append, List.map_append]
  exact hown1
theorem indexByte_mem {l : List UInt8} {c : UInt8} (h : c ∈ l) : ∃ k : Nat, Lib.indexByte l c = (k : Int) := by
  have h8 := Lib.indexByte_ge l c
  by_cases h9 : Lib.indexByte l c = -1
  · obtain ⟨k, hk⟩ := List.getElem?_of_mem h
    exact absurd hk (Lib.indexByte_none h9 k)
  · exact ⟨(Lib.indexByte l c).toNat, by omega⟩
theorem indexByte_not {l : List UInt8} {c : UInt8} (h : c ∉ l) : Lib.indexByte l c = -1 := by
  have h8 := Lib.indexByte_ge l c
  apply Classical.byContradiction
  intro h9
  have h10 : Lib.indexByte l c = ((Lib.indexByte l c).toNat : Int) := by omega
  exact h (List.mem_of_getElem? (Lib.indexByte_some h10).1)
theorem u8_int (b : UInt8) : ((b.toNat : Int)).toNat.toUInt8 = b := by simp
set_option maxHeartbeats 1000000 in
set_option maxRecDepth 20000 in
theorem spell_mark (base g cap : Nat) (L : List UInt8) (b p : UInt8) (m : ByteArray) (w : World) (hown : w.ownsRow base 5 1 (.slice (some ⟨g, 0, none⟩) L.length cap) L.length (L.map ub)) (hL : L.length ≤ 1000000000) (hb : base ≤ w.heap.size) (h1 : ((b.toNat : Int) == 10) = false) (h2 : ((b.toNat : Int) == 9) = false) (h3 : ((b.toNat : Int) == 13) = false) (hm : b ∈ m.data.toList) :
    Calls Tryd.prog 20 #[.slice (some ⟨g, 0, none⟩) L.length cap, .int .u8 b.toNat, .int .u8 p.toNat, .string m] w fun e w' => SplEnd base g w w' e (L ++ [92, b]) := by
  obtain ⟨i0, hi, hz0, hz1, hz2⟩ := info_parts info_u8
  obtain ⟨k, hk⟩ := indexByte_mem hm
  have hib := fun w => Tryd.strings_IndexByte m (b.toNat : Int) w
  rw [u8_int, hk] at hib
  have hk0 : (0 : Int) ≤ (k : Int) := by omega
  clear hm hk
  have HO := Lib.hid hown
  clear hown
  go_enter Tryd.func20, Tryd.ntmps20
  go_wp2_with fail
  refine (hib _).mono ?_
  rintro e w0 ⟨rfl, rfl⟩
  go_wp2_with (first | (at_builtin; refine wpList_append_where rfl (.tmp 37) (.tmp 38) base 46 5 i0 (.int .u8 0) 1 1 rfl Tryd.underlying46 hi hz0 hz1 hz2 rfl (by decide) _ _ _ (HO.out.alloc _) rfl ⟨w0.heap.size, 0, none⟩ 1 1 (by decide) [_] rfl rfl (cell_one_new _ _ _) (by intro u hu; simp at hu; subst hu; rfl) (by unfold maxLen; omega) (by omega) (by simp; omega) ?_; intro g1 c1 w1 hown1 hgrow1 hwh1) | (at_builtin; refine wpList_append_where rfl (.tmp 40) (.tmp 42) base 46 5 i0 (.int .u8 0) 1 1 rfl Tryd.underlying46 hi hz0 hz1 hz2 rfl (by decide) _ _ _ (hown1.alloc _) rfl ⟨w1.heap.size, 0, none⟩ 1 1 (by decide) [_] rfl rfl (cell_one_new _ _ _) (by intro u hu; simp at hu; subst hu; rfl) (by unfold maxLen; omega) (by omega) (by have := hgrow1.size; simp at this ⊢; omega) ?_; intro g2 c2 w2 hown2 hgrow2 hwh2))
  go_ret
  have hsz1 := hgrow1.size
  simp at hsz1
  have hg1 := grown_after hgrow1
  have hg2 := grown_after hgrow2
  have hw1 : g1 = g ∨ w0.heap.size ≤ g1 := hwh1.imp (fun e => (Option.some.inj e).symm) (fun h => by simp at h; omega)
  have hw2 : g2 = g1 ∨ w1.heap.size ≤ g2 := hwh2.imp (fun e => (Option.some.inj e).symm) (fun h => by simp at h; omega)
  refine spl_end (xs := List.map ub L ++ [.int .u8 92] ++ [.int .u8 (b.toNat : Int)]) [92, b] (by simp) (by simp [ub]) hown2 ?_ ?_
  · refine ⟨hg2.os.trans hg1.os, hg2.tape.trans hg1.tape, hg2.output.trans hg1.output, Nat.le_trans hg1.size hg2.size, fun k hk hne => (hg2.block k (Nat.lt_of_lt_of_le hk hg1.size) (fun e => ?_)).trans (hg1.block k hk hne)⟩
    have e1 : k = g1 := Option.some.inj e
    rcases hw1 with h | h
    · exact hne (by rw [e1, h])
    · omega
  · omega
set_option maxRecDepth 20000 in
theorem spell_own (base g cap : Nat) (L : List UInt8) (b p : UInt8) (m : ByteArray) (w : World) (hown : w.ownsRow base 5 1 (.slice (some ⟨g, 0, none⟩) L.length cap) L.length (L.map ub)) (hL : L.length ≤ 1000000000) (hb : base ≤ w.heap.size) (h1 : ((b.toNat : Int) == 10) = false) (h2 : ((b.toNat : Int) == 9) = false) (h3 : ((b.toNat : Int) == 13) = false) (hm : b ∉ m.data.toList) (hp : (p.toNat : Int) ≤ b.toNat) (hq : (b.toNat : Int) ≤ 126) :
    Calls Tryd.prog 20 #[.slice (some ⟨g, 0, none⟩) L.length cap, .int .u8 b.toNat, .int .u8 p.toNat, .string m] w fun e w' => SplEnd base g w w' e (L ++ [b]) := by
  obtain ⟨i0, hi, hz0, hz1, hz2⟩ := info_parts info_u8
  have hib := fun w => Tryd.strings_IndexByte m (b.toNat : Int) w
  rw [u8_int, indexByte_not hm] at hib
  clear hm
  have HO := Lib.hid hown
  clear hown
  go_enter Tryd.func20, Tryd.ntmps20
  go_wp2_with fail
  refine (hib _).mono ?_
  rintro e w0 ⟨rfl, rfl⟩
  go_wp2_with (at_builtin; refine wpList_append_where rfl (.tmp 40) (.tmp 42) base 46 5 i0 (.int .u8 0) 1 1 rfl Tryd.underlying46 hi hz0 hz1 hz2 rfl (by decide) _ _ _ (HO.out.alloc _) rfl ⟨w0.heap.size, 0, none⟩ 1 1 (by decide) [_] rfl rfl (cell_one_new _ _ _) (by intro u hu; simp at hu; subst hu; rfl) (by unfold maxLen; omega) (by omega) (by simp; omega) ?_; intro g1 c1 w1 hown1 hgrow1 hwh1)
  go_ret
  exact spl_end [b] (by simp) (by simp [ub]) hown1 (grown_after hgrow1) (hwh1.imp (fun e => (Option.some.inj e).symm) (fun h => by simp at h; omega))
theorem index_dig (k : Nat) (hk : k < 16) (w : World) : (Instr.index 9 (.string ⟨#[48, 49, 50, 51, 52, 53, 54, 55, 56, 57, 97, 98, 99, 100, 101, 102]⟩) (.int .u8 (k : Nat))).run Tryd.prog w = .ok (ub (dig k)) w := by
  have e0 : ∀ w, (Instr.index 9 (.string ⟨#[48, 49, 50, 51, 52, 53, 54, 55, 56, 57, 97, 98, 99, 100, 101, 102]⟩) (.int .u8 (0 : Nat))).run Tryd.prog w = .ok (ub (dig 0)) w := fun _ => by kernel_rfl
  have e1 : ∀ w, (Instr.index 9 (.string ⟨#[48, 49, 50, 51, 52, 53, 54, 55, 56, 57, 97, 98, 99, 100, 101, 102]⟩) (.int .u8 (1 : Nat))).run Tryd.prog w = .ok (ub (dig 1)) w := fun _ => by kernel_rfl
  have e2 : ∀ w, (Instr.index 9 (.string ⟨#[48, 49, 50, 51, 52, 53, 54, 55, 56, 57, 97, 98, 99, 100, 101, 102]⟩) (.int .u8 (2 : Nat))).run Tryd.prog w = .ok (ub (dig 2)) w := fun _ => by kernel_rfl
  have e3 : ∀ w, (Instr.index 9 (.string ⟨#[48, 49, 50, 51, 52, 53, 54, 55, 56, 57, 97, 98, 99, 100, 101, 102]⟩) (.int .u8 (3 : Nat))).run Tryd.prog w = .ok (ub (dig 3)) w := fun _ => by kernel_rfl
  have e4 : ∀ w, (Instr.index 9 (.string ⟨#[48, 49, 50, 51, 52, 53, 54, 55, 56, 57, 97, 98, 99, 100, 101, 102]⟩) (.int .u8 (4 : Nat))).run Tryd.prog w = .ok (ub (dig 4)) w := fun _ => by kernel_rfl
  have e5 : ∀ w, (Instr.index 9 (.string ⟨#[48, 49, 50, 51, 52, 53, 54, 55, 56, 57, 97, 98, 99, 100, 101, 102]⟩) (.int .u8 (5 : Nat))).run Tryd.prog w = .ok (ub (dig 5)) w := fun _ => by kernel_rfl
  have e6 : ∀ w, (Instr.index 9 (.string ⟨#[48, 49, 50, 51, 52, 53, 54, 55, 56, 57, 97, 98, 99, 100, 101, 102]⟩) (.int .u8 (6 : Nat))).run Tryd.prog w = .ok (ub (dig 6)) w := fun _ => by kernel_rfl
  have e7 : ∀ w, (Instr.index 9 (.string ⟨#[48, 49, 50, 51, 52, 53, 54, 55, 56, 57, 97, 98, 99, 100, 101, 102]⟩) (.int .u8 (7 : Nat))).run Tryd.prog w = .ok (ub (dig 7)) w := fun _ => by kernel_rfl
  have e8 : ∀ w, (Instr.index 9 (.string ⟨#[48, 49, 50, 51, 52, 53, 54, 55, 56, 57, 97, 98, 99, 100, 101, 102]⟩) (.int .u8 (8 : Nat))).run Tryd.prog w = .ok (ub (dig 8)) w := fun _ => by kernel_rfl
  have e9 : ∀ w, (Instr.index 9 (.string ⟨#[48, 49, 50, 51, 52, 53, 54, 55, 56, 57, 97, 98, 99, 100, 101, 102]⟩) (.int .u8 (9 : Nat))).run Tryd.prog w = .ok (ub (dig 9)) w := fun _ => by kernel_rfl
  have e10 : ∀ w, (Instr.index 9 (.string ⟨#[48, 49, 50, 51, 52, 53, 54, 55, 56, 57, 97, 98, 99, 100, 101, 102]⟩) (.int .u8 (10 : Nat))).run Tryd.prog w = .ok (ub (dig 10)) w := fun _ => by kernel_rfl
  have e11 : ∀ w, (Instr.index 9 (.string ⟨#[48, 49, 50, 51, 52, 53, 54, 55, 56, 57, 97, 98, 99, 100, 101, 102]⟩) (.int .u8 (11 : Nat))).run Tryd.prog w = .ok (ub (dig 11)) w := fun _ => by kernel_rfl
  have e12 : ∀ w, (Instr.index 9 (.string ⟨#[48, 49, 50, 51, 52, 53, 54, 55, 56, 57, 97, 98, 99, 100, 101, 102]⟩) (.int .u8 (12 : Nat))).run Tryd.prog w = .ok (ub (dig 12)) w := fun _ => by kernel_rfl
  have e13 : ∀ w, (Instr.index 9 (.string ⟨#[48, 49, 50, 51, 52, 53, 54, 55, 56, 57, 97, 98, 99, 100, 101, 102]⟩) (.int .u8 (13 : Nat))).run Tryd.prog w = .ok (ub (dig 13)) w := fun _ => by kernel_rfl
  have e14 : ∀ w, (Instr.index 9 (.string ⟨#[48, 49, 50, 51, 52, 53, 54, 55, 56, 57, 97, 98, 99, 100, 101, 102]⟩) (.int .u8 (14 : Nat))).run Tryd.prog w = .ok (ub (dig 14)) w := fun _ => by kernel_rfl
  have e15 : ∀ w, (Instr.index 9 (.string ⟨#[48, 49, 50, 51, 52, 53, 54, 55, 56, 57, 97, 98, 99, 100, 101, 102]⟩) (.int .u8 (15 : Nat))).run Tryd.prog w = .ok (ub (dig 15)) w := fun _ => by kernel_rfl
  have h : k = 0 ∨ k = 1 ∨ k = 2 ∨ k = 3 ∨ k = 4 ∨ k = 5 ∨ k = 6 ∨ k = 7 ∨ k = 8 ∨ k = 9 ∨ k = 10 ∨ k = 11 ∨ k = 12 ∨ k = 13 ∨ k = 14 ∨ k = 15 := by omega
  rcases h with rfl | rfl | rfl | rfl | rfl | rfl | rfl | rfl | rfl | rfl | rfl | rfl | rfl | rfl | rfl | rfl
  · exact e0 w
  · exact e1 w
  · exact e2 w
  · exact e3 w
  · exact e4 w
  · exact e5 w
  · exact e6 w
  · exact e7 w
  · exact e8 w
  · exact e9 w
  · exact e10 w
  · exact e11 w
  · exact e12 w
  · exact e13 w
  · exact e14 w
  · exact e15 w
/-- A new list of four bytes. -/
def RLs (cs : Array Value) : Value → World → Prop := fun v w => ∃ b, v = .slice (some ⟨b, 0, none⟩) 4 4 ∧ ∃ t, Blk w b cs t
def RsL (cs : Array Value) : Nat → Option (Value → World → Prop) := fun k => if k = 7 then some (RLs cs) else none
theorem RsL_mono (cs : Array Value) : G.RsMono Ext (RsL cs) := by
  intro j R h
  unfold RsL at h
  split at h
  · cases h
    rintro v w w' hx ⟨b, hv, t, hb⟩
    exact ⟨b, hv, t, hb.ext hx⟩
  · cases h
set_option maxRecDepth 20000 in
theorem spell_hex (base g cap : Nat) (L : List UInt8) (b p : UInt8) (m : ByteArray) (w : World) (hown : w.ownsRow base 5 1 (.slice (some ⟨g, 0, none⟩) L.length cap) L.length (L.map ub)) (hL : L.length ≤ 1000000000) (hb : base ≤ w.heap.size) (h1 : ((b.toNat : Int) == 10) = false) (h2 : ((b.toNat : Int) == 9) = false) (h3 : ((b.toNat : Int) == 13) = false) (hm : b ∉ m.data.toList) (hp : ¬ ((p.toNat : Int) ≤ b.toNat ∧ (b.toNat : Int) ≤ 126)) :
    Calls Tryd.prog 20 #[.slice (some ⟨g, 0, none⟩) L.length cap, .int .u8 b.toNat, .int .u8 p.toNat, .string m] w fun e w' => SplEnd base g w w' e (L ++ [92, 120, dig (b.toNat / 16), dig (b.toNat % 16)]) := by
  obtain ⟨i0, hi, hz0, hz1, hz2⟩ := info_parts info_u8
  have hib := fun w => Tryd.strings_IndexByte m (b.toNat : Int) w
  rw [u8_int, indexByte_not hm] at hib
  clear hm
  have HO := Lib.hid hown
  clear hown
  have hbb := b.toNat_lt
  have hdg : ∀ k, k < 16 → ∀ w, (Instr.index 9 (.string ⟨#[48, 49, 50, 51, 52, 53, 54, 55, 56, 57, 97, 98, 99, 100, 101, 102]⟩) (.int .u8 (k : Nat))).run Tryd.prog w = .ok (ub (dig k)) w := fun k hk w => index_dig k hk w
  have han : bits .and .u8 (b.toNat : Int) 15 = ((b.toNat % 16 : Nat) : Int) := by
    have h := byte_all (fun b => decide (bits .and .u8 (b.toNat : Int) 15 = ((b.toNat % 16 : Nat) : Int))) (by decide +kernel) b
    simpa using h
  have hd1 := hdg (b.toNat / 16) (by omega)
  have hd2 := hdg (b.toNat % 16) (by omega)
  have hsh : (b.toNat : Int) / 16 = ((b.toNat / 16 : Nat) : Int) := by omega
  generalize b.toNat % 16 = q2 at han hd2 ⊢
  generalize b.toNat / 16 = q1 at hsh hd1 ⊢
  clear hdg
  go_enter Tryd.func20, Tryd.ntmps20
  go_wp2_with fail
  refine (hib _).mono ?_
  rintro e w0 ⟨rfl, rfl⟩
  by_cases hp1 : (p.toNat : Int) ≤ b.toNat
  · have hp2 : ¬ (b.toNat : Int) ≤ 126 := fun h => hp ⟨hp1, h⟩
    have hp3 : decide ((b.toNat : Int) ≤ 126) = false := decide_eq_false hp2
    clear hp
    go_wp2_with fail
    refine G.wp_region_tail (G := Ext) (RsL #[.int .u8 92, .int .u8 120, ub (dig q1), ub (dig q2)]) 8 (by kernel_rfl) (by kernel_rfl) (RsL_mono _) (fun hex => ?_)
    simp only [List.take_succ_cons, List.take_zero, List.drop_succ_cons, List.drop_zero]
    iterate 7
      (refine G.wpS_one (A := ?_) hex rfl rfl (by simp) ?_ ?_ ?_
       rotate_left 2
       · intro w' hC K hK
         go_wp2_with (fail)
         refine hK _ ?_
         first | exact Below.refl _ _ | assumption | ((repeat' (first | (with_reducible exact Below.refl _ _) | (with_reducible assumption) | (with_reducible refine below_drewN ?_ _) | (with_reducible refine Below.alloc ?_ ?_ _) | (with_reducible refine Below.drew ?_) | (with_reducible refine Below.setCell ?_ ?_ _) | (with_reducible refine Below.trans ?_ (Below.mono (by with_reducible assumption) ?_)) | go_size)))
       rotate_left 1
       · rfl
       clear hex; intro hex)
    refine G.wpS_rel (RLs #[.int .u8 92, .int .u8 120, ub (dig q1), ub (dig q2)]) rfl rfl (by simp) (by first | rfl | (simp [Region.wanted, yielded]; done)) ?_ ?_
    · intro w' hC K hK
      simp only [Act.put, List.setIfInBounds_toArray, List.set_cons_succ, List.set_cons_zero] at hK
      go_wp2_with (fail)
      refine hK _ _ ?_ ?_
      · first | exact Below.refl _ _ | assumption | ((repeat' (first | (with_reducible exact Below.refl _ _) | (with_reducible assumption) | (with_reducible refine below_drewN ?_ _) | (with_reducible refine Below.alloc ?_ ?_ _) | (with_reducible refine Below.drew ?_) | (with_reducible refine Below.setCell ?_ ?_ _) | (with_reducible refine Below.trans ?_ (Below.mono (by with_reducible assumption) ?_)) | go_size)))
      · exact ⟨_, rfl, _, Blk.new _ _ _⟩
    clear hex
    intro v3 w' hex hv3
    replace hex := Exists.intro w' hex
    simp only [Act.put, List.setIfInBounds_toArray, List.set_cons_succ, List.set_cons_zero]
    refine G.wpS_nil fun w7 hAll => ?_
    obtain ⟨b', rfl, t', hblk⟩ := (hAll.2 7).1 rfl
    have hx7 := hAll.1
    have hown7 := own_below HO.out hx7 (Nat.le_refl _)
    have hz7 := hx7.size
    have hcs : ∀ (j : Nat) u, [Value.int .u8 92, .int .u8 120, ub (dig q1), ub (dig q2)][j]? = some u → w7.cell? ((⟨b', 0, none⟩ : Addr).add j) = some u := by
      intro j u hu
      have hadd : (⟨b', 0, none⟩ : Addr).add j = ⟨b', j, none⟩ := by unfold Addr.add; split <;> simp_all
      rw [hadd, hblk.cell j]
      simpa using hu
    have HX7 := Lib.hid hx7
    clear hAll hex hv3 hx7 hblk hd1 hd2
    go_wp2_with (at_builtin; refine wpList_append_where rfl (.tmp 44) (.tmp 51) base 46 5 i0 (.int .u8 0) 1 1 rfl Tryd.underlying46 hi hz0 hz1 hz2 rfl (by decide) _ _ _ hown7 rfl ⟨b', 0, none⟩ 4 4 (by decide) [_, _, _, _] rfl rfl hcs (by intro u hu; simp at hu; rcases hu with rfl | rfl | rfl | rfl <;> rfl) (by unfold maxLen; omega) (by omega) (by omega) ?_; intro g1 c1 w1 hown1 hgrow1 hwh1)
    go_ret
    refine spl_end (xs := List.map ub L ++ [.int .u8 92, .int .u8 120, ub (dig q1), ub (dig q2)]) [92, 120, dig q1, dig q2] (by simp) (by simp [ub]) hown1 ?_ ?_
    · exact ⟨hgrow1.os.trans HX7.out.os, hgrow1.tape.trans HX7.out.tape, hgrow1.output.trans HX7.out.output, Nat.le_trans HX7.out.size hgrow1.size, fun k hk hne => (hgrow1.block k (Nat.lt_of_lt_of_le hk HX7.out.size) hne).trans (HX7.out.block k hk)⟩
    · exact hwh1.imp (fun e => (Option.some.inj e).symm) (fun h => by omega)
  · clear hp
    go_wp2_with fail
    refine G.wp_region_tail (G := Ext) (RsL #[.int .u8 92, .int .u8 120, ub (dig q1), ub (dig q2)]) 8 (by kernel_rfl) (by kernel_rfl) (RsL_mono _) (fun hex => ?_)
    simp only [List.take_succ_cons, List.take_zero, List.drop_succ_cons, List.drop_zero]
    iterate 7
      (refine G.wpS_one (A := ?_) hex rfl rfl (by simp) ?_ ?_ ?_
       rotate_left 2
       · intro w' hC K hK
         go_wp2_with (fail)
         refine hK _ ?_
         first | exact Below.refl _ _ | assumption | ((repeat' (first | (with_reducible exact Below.refl _ _) | (with_reducible assumption) | (with_reducible refine below_drewN ?_ _) | (with_reducible refine Below.alloc ?_ ?_ _) | (with_reducible refine Below.drew ?_) | (with_reducible refine Below.setCell ?_ ?_ _) | (with_reducible refine Below.trans ?_ (Below.mono (by with_reducible assumption) ?_)) | go_size)))
       rotate_left 1
       · rfl
       clear hex; intro hex)
    refine G.wpS_rel (RLs #[.int .u8 92, .int .u8 120, ub (dig q1), ub (dig q2)]) rfl rfl (by simp) (by first | rfl | (simp [Region.wanted, yielded]; done)) ?_ ?_
    · intro w' hC K hK
      simp only [Act.put, List.setIfInBounds_toArray, List.set_cons_succ, List.set_cons_zero] at hK
      go_wp2_with (fail)
      refine hK _ _ ?_ ?_
      · first | exact Below.refl _ _ | assumption | ((repeat' (first | (with_reducible exact Below.refl _ _) | (with_reducible assumption) | (with_reducible refine below_drewN ?_ _) | (with_reducible refine Below.alloc ?_ ?_ _) | (with_reducible refine Below.drew ?_) | (with_reducible refine Below.setCell ?_ ?_ _) | (with_reducible refine Below.trans ?_ (Below.mono (by with_reducible assumption) ?_)) | go_size)))
      · exact ⟨_, rfl, _, Blk.new _ _ _⟩
    clear hex
    intro v3 w' hex hv3
    replace hex := Exists.intro w' hex
    simp only [Act.put, List.setIfInBounds_toArray, List.set_cons_succ, List.set_cons_zero]
    refine G.wpS_nil fun w7 hAll => ?_
    obtain ⟨b', rfl, t', hblk⟩ := (hAll.2 7).1 rfl
    have hx7 := hAll.1
    have hown7 := own_below HO.out hx7 (Nat.le_refl _)
    have hz7 := hx7.size
    have hcs : ∀ (j : Nat) u, [Value.int .u8 92, .int .u8 120, ub (dig q1), ub (dig q2)][j]? = some u → w7.cell? ((⟨b', 0, none⟩ : Addr).add j) = some u := by
      intro j u hu
      have hadd : (⟨b', 0, none⟩ : Addr).add j = ⟨b', j, none⟩ := by unfold Addr.add; split <;> simp_all
      rw [hadd, hblk.cell j]
      simpa using hu
    have HX7 := Lib.hid hx7
    clear hAll hex hv3 hx7 hblk hd1 hd2
    go_wp2_with (at_builtin; refine wpList_append_where rfl (.tmp 44) (.tmp 51) base 46 5 i0 (.int .u8 0) 1 1 rfl Tryd.underlying46 hi hz0 hz1 hz2 rfl (by decide) _ _ _ hown7 rfl ⟨b', 0, none⟩ 4 4 (by decide) [_, _, _, _] rfl rfl hcs (by intro u hu; simp at hu; rcases hu with rfl | rfl | rfl | rfl <;> rfl) (by unfold maxLen; omega) (by omega) (by omega) ?_; intro g1 c1 w1 hown1 hgrow1 hwh1)
    go_ret
    refine spl_end (xs := List.map ub L ++ [.int .u8 92, .int .u8 120, ub (dig q1), ub (dig q2)]) [92, 120, dig q1, dig q2] (by simp) (by simp [ub]) hown1 ?_ ?_
    · exact ⟨hgrow1.os.trans HX7.out.os, hgrow1.tape.trans HX7.out.tape, hgrow1.output.trans HX7.out.output, Nat.le_trans HX7.out.size hgrow1.size, fun k hk hne => (hgrow1.block k (Nat.lt_of_lt_of_le hk HX7.out.size) hne).trans (HX7.out.block k hk)⟩
    · exact hwh1.imp (fun e => (Option.some.inj e).symm) (fun h => by omega)
theorem spell_any (base g cap : Nat) (L : List UInt8) (b p : UInt8) (m : ByteArray) (w : World) (hown : w.ownsRow base 5 1 (.slice (some ⟨g, 0, none⟩) L.length cap) L.length (L.map ub)) (hL : L.length ≤ 1000000000) (hb : base ≤ w.heap.size) :
    Calls Tryd.prog 20 #[.slice (some ⟨g, 0, none⟩) L.length cap, .int .u8 b.toNat, .int .u8 p.toNat, .string m] w fun e w' => SplEnd base g w w' e (L ++ spl p m.data.toList b) := by
  unfold spl
  have ne : ∀ (k : Nat), k < 256 → b ≠ UInt8.ofNat k → ((b.toNat : Int) == (k : Int)) = false := by
    intro k hk h
    rw [beq_eq_false_iff_ne]
    intro h'
    apply h
    have h2 : b.toNat = k := by omega
    rw [← h2]; simp
  by_cases h1 : b = 10
  · subst h1
    rw [if_pos rfl]
    exact spell_10 base g cap L p m w hown hL hb
  rw [if_neg h1]
  by_cases h2 : b = 9
  · subst h2
    rw [if_pos rfl]
    exact spell_9 base g cap L p m w hown hL hb
  rw [if_neg h2]
  by_cases h3 : b = 13
  · subst h3
    rw [if_pos rfl]
    exact spell_13 base g cap L p m w hown hL hb
  rw [if_neg h3]
  by_cases h4 : b ∈ m.data.toList
  · rw [if_pos h4]
    exact spell_mark base g cap L b p m w hown hL hb (ne 10 (by omega) h1) (ne 9 (by omega) h2) (ne 13 (by omega) h3) h4
  rw [if_neg h4]
  have e126 : b ≤ 126 ↔ (b.toNat : Int) ≤ 126 := by rw [UInt8.le_iff_toNat_le]; show b.toNat ≤ 126 ↔ _; omega
  have ep : p ≤ b ↔ (p.toNat : Int) ≤ b.toNat := by rw [UInt8.le_iff_toNat_le]; omega
  by_cases h5 : p ≤ b ∧ b ≤ 126
  · rw [if_pos h5]
    exact spell_own base g cap L b p m w hown hL hb (ne 10 (by omega) h1) (ne 9 (by omega) h2) (ne 13 (by omega) h3) h4 (ep.1 h5.1) (e126.1 h5.2)
  · rw [if_neg h5]
    exact spell_hex base g cap L b p m w hown hL hb (ne 10 (by omega) h1) (ne 9 (by omega) h2) (ne 13 (by omega) h3) h4 (fun h => h5 ⟨ep.2 h.1, e126.2 h.2⟩)
end Go.Proofs.YtgcfilgobclcjaaDoor
