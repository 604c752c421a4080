/- Expressions copied: bolterref0.CopyExpr. -/
import Derived.Test.YtnmdfhnfheekgaaDoorSz
import Derived.Test.YtnmdfhnfheekgaaDoorOw
import Derived.Deep.AppendLies
import Derived.Deep.RegionLaw
import Derived.Deep.MidRow
import Derived.Deep.WholeRow
namespace Go.Proofs.YtnmdfhnfheekgaaDoor
open Go Go.RowKit
/-- As Xat, all of it in blocks that P names. -/
inductive Xap (w : World) (P : Nat → Prop) : Option Addr → Nat → List Xp → Prop
  | nil (a : Option Addr) (c : Nat) (h : c ≤ maxLen) : Xap w P a c []
  | put (b o c : Nat) (L : List Xp) (ga : Nat → Option Addr) (gc : Nat → Nat) (h1 : L.length ≤ c) (h2 : c ≤ maxLen) (hb : P b)
      (hk : ∀ y ∈ L, Xok y)
      (hc : ∀ i (h : i < L.length) j, j < 10 → w.cell? ⟨b, o + i * 10 + j, none⟩ = (xcs L[i] (ga i) (gc i))[j]?)
      (hs : ∀ i (h : i < L.length), Xap w P (ga i) (gc i) L[i].args) : Xap w P (some ⟨b, o, none⟩) c L
section
variable {w w' : World} {P Q : Nat → Prop} {a : Option Addr} {c : Nat} {L : List Xp}
theorem cell_same {b o : Nat} (h : w'.heap[b]? = w.heap[b]?) : w'.cell? ⟨b, o, none⟩ = w.cell? ⟨b, o, none⟩ := by simp [World.cell?, h]
theorem Xap.turn (h : Xap w P a c L) (hP : ∀ b, P b → Q b ∧ w'.heap[b]? = w.heap[b]?) : Xap w' Q a c L := by
  induction h with
  | nil a c h => exact .nil a c h
  | put b o c L ga gc h1 h2 hb hk hc _ ih => exact .put b o c L ga gc h1 h2 (hP b hb).1 hk (fun i h j hj => by rw [cell_same (hP b hb).2]; exact hc i h j hj) ih
theorem Xap.xat {B : Nat} (h : Xap w P a c L) (hP : ∀ b, P b → b < B) : Xat w B a c L := by
  induction h with
  | nil a c h => exact .nil a c h
  | put b o c L ga gc h1 h2 hb hk hc _ ih => exact .put b o c L ga gc h1 h2 (hP b hb) hk hc ih
end
theorem info_xp : (Tryd.prog.info? 28).map (fun i => (i.zero, i.size, i.bytes)) = some (some (.agg #[.int .i64 0, .int .i64 0, .int .u64 0, .int .u64 0, .int .u64 0, .int .u64 0, .string ⟨#[]⟩, .int .i64 0, .int .i64 0, .slice none 0 0]), 10, 104) := by kernel_rfl
theorem xcs_one (x : Xp) (a : Option Addr) (c : Nat) : ∀ u ∈ xcs x a c, u.oneCell' = true := by
  intro u hu
  simp [xcs] at hu
  rcases hu with rfl | rfl | rfl | rfl | rfl | rfl | rfl | rfl | rfl | rfl <;> rfl
/-- What stands in one list that a copy makes. -/
abbrev Tri := Xp × Option Addr × Nat
def tcl (T : List Tri) : List Value := T.flatMap fun t => xcs t.1 t.2.1 t.2.2
theorem tcl_get : ∀ (T : List Tri) (i : Nat) (h : i < T.length) (f : Nat), f < 10 → (tcl T)[i * 10 + f]? = (xcs T[i].1 T[i].2.1 T[i].2.2)[f]?
  | [], i, h, f, hf => by simp at h
  | y :: L, 0, h, f, hf => by
    unfold tcl
    rw [List.flatMap_cons, Nat.zero_mul, Nat.zero_add, List.getElem?_append_left (by show f < 10; exact hf)]
    rfl
  | y :: L, i + 1, h, f, hf => by
    have := tcl_get L i (by simpa using h) f hf
    unfold tcl at *
    rw [List.flatMap_cons, List.getElem?_append_right (by show 10 ≤ _; omega)]
    show (List.flatMap _ L)[(i + 1) * 10 + f - 10]? = _
    rw [show (i + 1) * 10 + f - 10 = i * 10 + f by omega, this]
    rfl
theorem tcl_app (T : List Tri) (t : Tri) : tcl (T ++ [t]) = tcl T ++ xcs t.1 t.2.1 t.2.2 := by simp [tcl]
theorem blk_gr {w w' : World} {b base e sz n : Nat} {vs : Array Value} {t : TypeId} {v : Value} {xs : List Value} (h : Blk w b vs t) (hg : w.grownBy w' v.ownBlock) (ho : w.ownsRow base e sz v n xs) (hb : b < base) : Blk w' b vs t := by
  have := h.lt
  unfold Blk at *
  rw [hg.block b this (fun e => by have := (ho.lt b e.symm).1; omega)]; exact h
theorem own_setx {w : World} {base e sz n b i : Nat} {v u : Value} {xs : List Value} (h : w.ownsRow base e sz v n xs) (hb : b < base) : (w.setCell ⟨b, i, none⟩ u).ownsRow base e sz v n xs := by
  obtain ⟨h1, h2 | ⟨g, cap, cur, hv, hg, hh, rest⟩⟩ := h
  · exact ⟨h1, .inl h2⟩
  · exact ⟨h1, .inr ⟨g, cap, cur, hv, hg, by rw [Below.heap_setCell _ _ _ _ (by show g ≠ b; omega)]; exact hh, rest⟩⟩
theorem ext_drw (w : World) : Ext w w.drew := Below.drew (Below.refl _ _)
/-- A round of the copy. -/
theorem cpx_fin {x y : Xp} {a : Option Addr} {c k : Nat} {w wr w2 w4 : World} {o3 : Obj} {v : Value} {T : List Tri} {a2 : Option Addr} {c2 g cap : Nat} (hkl : k < x.args.length) (hyk : Xok y ∧ x.args[k] = y)
    (hT : T.map (·.1) = x.args.take k) (hTl : T.length = k) (hB0 : Blk wr w.heap.size (xbx x a c) 28) (hB1 : ∃ t, Blk wr (w.heap.size + 1) t 28 ∧ t = #[.int .i64 0, .int .i64 0, .int .u64 0, .int .u64 0, .int .u64 0, .int .u64 0, .string ⟨#[]⟩, .int .i64 0, .int .i64 0, .slice none 0 0])
    (hown : wr.ownsRow (w.heap.size + 1 + 1 + 1) 28 10 v k (tcl T)) (hel : ∀ t ∈ T, Xok t.1 ∧ Xap wr (fun b => w.heap.size + 1 + 1 + 1 ≤ b ∧ b < wr.heap.size ∧ some b ≠ v.ownBlock) t.2.1 t.2.2 t.1.args) (hEr : Ext w wr) (hlw : w.heap.size + 1 + 1 < wr.heap.size)
    (HX2 : Ext wr.drew w2) (hown2 : w2.ownsRow (w.heap.size + 1 + 1 + 1) 28 10 v k (tcl T)) (hap2 : Xap w2 (fun b => wr.drew.heap.size ≤ b ∧ b < w2.heap.size) a2 c2 y.args)
    (hgrow4 : (w2.alloc o3).grownBy w4 v.ownBlock) (hown4 : w4.ownsRow (w.heap.size + 1 + 1 + 1) 28 10 (.slice (some ⟨g, 0, none⟩) (k + 1) cap) (k + 1) (tcl T ++ xcs y a2 c2)) (hv4 : v.ownBlock = some g ∨ g = (w2.alloc o3).heap.size)
    (hB4 : Blk w4 (w.heap.size + 1 + 1) #[.int .i64 x.op, .int .i64 x.at_, .int .u64 (wd x.set 0), .int .u64 (wd x.set 1), .int .u64 (wd x.set 2), .int .u64 (wd x.set 3), .string x.text, .int .i64 x.mn, .int .i64 x.mx, v] 28) :
    ∃ T' : List Tri, T'.map (·.1) = x.args.take (k + 1) ∧ T'.length = k + 1 ∧ Blk (w4.setCell ⟨w.heap.size + 1 + 1, 9, none⟩ (.slice (some ⟨g, 0, none⟩) (k + 1) cap)) w.heap.size (xbx x a c) 28 ∧
      (∃ t, Blk (w4.setCell ⟨w.heap.size + 1 + 1, 9, none⟩ (.slice (some ⟨g, 0, none⟩) (k + 1) cap)) (w.heap.size + 1) t 28 ∧ t = #[.int .i64 0, .int .i64 0, .int .u64 0, .int .u64 0, .int .u64 0, .int .u64 0, .string ⟨#[]⟩, .int .i64 0, .int .i64 0, .slice none 0 0]) ∧
      Blk (w4.setCell ⟨w.heap.size + 1 + 1, 9, none⟩ (.slice (some ⟨g, 0, none⟩) (k + 1) cap)) (w.heap.size + 1 + 1) #[.int .i64 x.op, .int .i64 x.at_, .int .u64 (wd x.set 0), .int .u64 (wd x.set 1), .int .u64 (wd x.set 2), .int .u64 (wd x.set 3), .string x.text, .int .i64 x.mn, .int .i64 x.mx, (.slice (some ⟨g, 0, none⟩) (k + 1) cap)] 28 ∧
      (w4.setCell ⟨w.heap.size + 1 + 1, 9, none⟩ (.slice (some ⟨g, 0, none⟩) (k + 1) cap)).ownsRow (w.heap.size + 1 + 1 + 1) 28 10 (.slice (some ⟨g, 0, none⟩) (k + 1) cap) (k + 1) (tcl T') ∧
      (∀ t ∈ T', Xok t.1 ∧ Xap (w4.setCell ⟨w.heap.size + 1 + 1, 9, none⟩ (.slice (some ⟨g, 0, none⟩) (k + 1) cap)) (fun b => w.heap.size + 1 + 1 + 1 ≤ b ∧ b < (w4.setCell ⟨w.heap.size + 1 + 1, 9, none⟩ (.slice (some ⟨g, 0, none⟩) (k + 1) cap)).heap.size ∧ some b ≠ (Value.slice (some ⟨g, 0, none⟩) (k + 1) cap).ownBlock) t.2.1 t.2.2 t.1.args) ∧
      Ext w (w4.setCell ⟨w.heap.size + 1 + 1, 9, none⟩ (.slice (some ⟨g, 0, none⟩) (k + 1) cap)) := by
  have EA : Ext wr w2 := bel_call (ext_drw wr) HX2
  have E3 : Ext w2 (w2.alloc o3) := (Below.refl _ _).alloc (Nat.le_refl _) _
  have EB : Ext wr (w2.alloc o3) := bel_call EA E3
  have ho3 := hown2.alloc o3
  have X4 : Ext w w4 := ext_gr (bel_call hEr EB) hgrow4 ho3 (by omega)
  have hs2 := EA.size
  have hs3 : (w2.alloc o3).heap.size = w2.heap.size + 1 := by simp
  have hs4 := hgrow4.size
  have hs5 : ∀ (q : Addr) (u : Value), (w4.setCell q u).heap.size = w4.heap.size := fun q u => by simp [World.setCell]
  have hsd : wr.drew.heap.size = wr.heap.size := rfl
  refine ⟨T ++ [(y, a2, c2)], ?_, by simp [hTl], ?_, ?_, ?_, ?_, ?_, ?_⟩
  · rw [List.map_append, hT, List.take_succ_eq_append_getElem hkl, hyk.2]; rfl
  · exact (blk_gr (hB0.ext EB) hgrow4 ho3 (by omega)).set_other (a := ⟨w.heap.size + 1 + 1, 9, none⟩) (by show w.heap.size + 1 + 1 ≠ _; omega) _
  · obtain ⟨t, ht, e⟩ := hB1
    exact ⟨t, (blk_gr (ht.ext EB) hgrow4 ho3 (by omega)).set_other (a := ⟨w.heap.size + 1 + 1, 9, none⟩) (by show w.heap.size + 1 + 1 ≠ _; omega) _, e⟩
  · exact hB4.set 9 _
  · rw [tcl_app]; exact own_setx hown4 (by omega)
  · intro t ht
    rcases List.mem_append.1 ht with ht | ht
    · obtain ⟨h1, h2⟩ := hel t ht
      refine ⟨h1, h2.turn fun b hb => ?_⟩
      obtain ⟨b1, b2, b3⟩ := hb
      refine ⟨⟨b1, by rw [hs5]; omega, ?_⟩, ?_⟩
      · show some b ≠ some g
        rcases hv4 with h | h
        · rw [← h]; exact b3
        · intro e; have := Option.some.inj e; omega
      · rw [Below.heap_setCell _ _ _ _ (by show b ≠ w.heap.size + 1 + 1; omega), hgrow4.block b (by omega) b3, EB.block b b2]
    · rcases List.mem_cons.1 ht with rfl | ht
      · refine ⟨hyk.1, hap2.turn fun b hb => ?_⟩
        obtain ⟨b1, b2⟩ := hb
        have b3 : v.ownBlock ≠ some b := fun e => by have := (hown.lt b e).2; omega
        refine ⟨⟨by omega, by rw [hs5]; omega, ?_⟩, ?_⟩
        · show some b ≠ some g
          rcases hv4 with h | h
          · rw [← h]; exact fun e => b3 e.symm
          · intro e; have := Option.some.inj e; omega
        · rw [Below.heap_setCell _ _ _ _ (by show b ≠ w.heap.size + 1 + 1; omega), hgrow4.block b (by omega) (fun e => b3 e.symm), E3.block b b2]
      · cases ht
  · exact Below.trans X4 (Below.setCell (Below.refl _ _) (by show w.heap.size ≤ w.heap.size + 1 + 1; omega) _)
theorem blk_row {w : World} {b : Nat} {vs vs' : Array Value} {t : TypeId} (h : Blk w b vs t) : Blk (w.setRow b vs') b vs' t := by
  unfold Blk at *
  simp [World.setRow, Array.getElem?_modify, h]
theorem Blk.cells10 {w : World} {b : Nat} {t : TypeId} {x : Xp} {a : Option Addr} {c : Nat} (h : Blk w b (xcs x a c).toArray t) : w.cell? ⟨b, 0, none⟩ = some (.int .i64 x.op) ∧ w.cell? ⟨b, 1, none⟩ = some (.int .i64 x.at_) ∧ w.cell? ⟨b, 2, none⟩ = some (.int .u64 (wd x.set 0)) ∧ w.cell? ⟨b, 3, none⟩ = some (.int .u64 (wd x.set 1)) ∧ w.cell? ⟨b, 4, none⟩ = some (.int .u64 (wd x.set 2)) ∧ w.cell? ⟨b, 5, none⟩ = some (.int .u64 (wd x.set 3)) ∧ w.cell? ⟨b, 6, none⟩ = some (.string x.text) ∧ w.cell? ⟨b, 7, none⟩ = some (.int .i64 x.mn) ∧ w.cell? ⟨b, 8, none⟩ = some (.int .i64 x.mx) ∧ w.cell? ⟨b, 9, none⟩ = some (.slice a x.args.length c) :=
  ⟨h.cell 0, h.cell 1, h.cell 2, h.cell 3, h.cell 4, h.cell 5, h.cell 6, h.cell 7, h.cell 8, h.cell 9⟩
theorem row_other (w : World) (b j : Nat) (vs : Array Value) (hj : j ≠ b) : (w.setRow b vs).heap[j]? = w.heap[j]? := by
  simp [World.setRow, Array.getElem?_modify, Ne.symm hj]
theorem row_ext {w0 w : World} (h : Ext w0 w) {b : Nat} (hb : w0.heap.size ≤ b) (vs : Array Value) : Ext w0 (w.setRow b vs) :=
  ⟨h.os, h.tape, h.output, by have := h.size; simpa [World.setRow] using this, fun j hj => by rw [row_other _ _ _ _ (by omega)]; exact h.block j hj⟩
theorem expr_info : (Tryd.prog.info? 28).map (·.size) = some 10 := by kernel_rfl
set_option maxHeartbeats 4000000 in
set_option maxRecDepth 20000 in
theorem copyx_any : ∀ (x : Xp) (a : Option Addr) (c : Nat) (w : World), nn x ≤ 20000 → Xat w w.heap.size a c x.args →
    Calls Tryd.prog 8 #[xv x a c] w fun e w' => ∃ a' c', e = .returned (xv x a' c') ∧ Xap w' (fun b => w.heap.size ≤ b ∧ b < w'.heap.size) a' c' x.args ∧ Ext w w' := by
  intro x
  induction x using Xp.ind with
  | h x ih =>
  intro a c w hnn hx
  obtain ⟨i0, hi, hz0, hz1, hz2⟩ := info_parts info_xp
  have IH := Lib.hid ih
  have HX := Lib.hid hx
  have hl2 : x.args.length ≤ 20000 := by have := nns_len x.args; rw [nn_eq] at hnn; omega
  have HNN := Lib.hid hnn
  clear ih hx hnn
  go_enter Tryd.func8, Tryd.ntmps8
  go_wp2_with fail
  have hb0 := (((Blk.new w (xbx x a c) 28).alloc (.cells #[.int .i64 0, .int .i64 0, .int .u64 0, .int .u64 0, .int .u64 0, .int .u64 0, .string ⟨#[]⟩, .int .i64 0, .int .i64 0, .slice none 0 0] 28)).alloc (.cells #[.int .i64 x.op, .int .i64 x.at_, .int .u64 (wd x.set 0), .int .u64 (wd x.set 1), .int .u64 (wd x.set 2), .int .u64 (wd x.set 3), .string x.text, .int .i64 x.mn, .int .i64 x.mx, .slice none 0 0] 28))
  have hb1 := ((Blk.new (w.alloc (.cells (xbx x a c) 28)) #[.int .i64 0, .int .i64 0, .int .u64 0, .int .u64 0, .int .u64 0, .int .u64 0, .string ⟨#[]⟩, .int .i64 0, .int .i64 0, .slice none 0 0] 28).alloc (.cells #[.int .i64 x.op, .int .i64 x.at_, .int .u64 (wd x.set 0), .int .u64 (wd x.set 1), .int .u64 (wd x.set 2), .int .u64 (wd x.set 3), .string x.text, .int .i64 x.mn, .int .i64 x.mx, .slice none 0 0] 28))
  have hb2 := Blk.new ((w.alloc (.cells (xbx x a c) 28)).alloc (.cells #[.int .i64 0, .int .i64 0, .int .u64 0, .int .u64 0, .int .u64 0, .int .u64 0, .string ⟨#[]⟩, .int .i64 0, .int .i64 0, .slice none 0 0] 28)) #[.int .i64 x.op, .int .i64 x.at_, .int .u64 (wd x.set 0), .int .u64 (wd x.set 1), .int .u64 (wd x.set 2), .int .u64 (wd x.set 3), .string x.text, .int .i64 x.mn, .int .i64 x.mx, .slice none 0 0] 28
  rw [show (w.alloc (.cells (xbx x a c) 28)).heap.size = w.heap.size + 1 by simp] at hb1
  rw [show ((w.alloc (.cells (xbx x a c) 28)).alloc (.cells #[.int .i64 0, .int .i64 0, .int .u64 0, .int .u64 0, .int .u64 0, .int .u64 0, .string ⟨#[]⟩, .int .i64 0, .int .i64 0, .slice none 0 0] 28)).heap.size = w.heap.size + 1 + 1 by simp] at hb2
  have hE : Ext w (((w.alloc (.cells (xbx x a c) 28)).alloc (.cells #[.int .i64 0, .int .i64 0, .int .u64 0, .int .u64 0, .int .u64 0, .int .u64 0, .string ⟨#[]⟩, .int .i64 0, .int .i64 0, .slice none 0 0] 28)).alloc (.cells #[.int .i64 x.op, .int .i64 x.at_, .int .u64 (wd x.set 0), .int .u64 (wd x.set 1), .int .u64 (wd x.set 2), .int .u64 (wd x.set 3), .string x.text, .int .i64 x.mn, .int .i64 x.mx, .slice none 0 0] 28)) := by go_grown
  generalize (((w.alloc (.cells (xbx x a c) 28)).alloc (.cells #[.int .i64 0, .int .i64 0, .int .u64 0, .int .u64 0, .int .u64 0, .int .u64 0, .string ⟨#[]⟩, .int .i64 0, .int .i64 0, .slice none 0 0] 28)).alloc (.cells #[.int .i64 x.op, .int .i64 x.at_, .int .u64 (wd x.set 0), .int .u64 (wd x.set 1), .int .u64 (wd x.set 2), .int .u64 (wd x.set 3), .string x.text, .int .i64 x.mn, .int .i64 x.mx, .slice none 0 0] 28)) = wa at *
  have HB0 := Lib.hid hb0
  have HB1 := Lib.hid hb1
  have HB2 := Lib.hid hb2
  have HE := Lib.hid hE
  clear hb0 hb1 hb2 hE
  go_loopw [4] (fun i wr => ∃ (k : Nat) (v : Value) (T : List Tri), k ≤ x.args.length ∧ i = .int .i64 k ∧ Hid (T.map (·.1) = x.args.take k) ∧ T.length = k ∧
    Hid (Blk wr w.heap.size (xbx x a c) 28) ∧ Hid (∃ t, Blk wr (w.heap.size + 1) t 28 ∧ t = #[.int .i64 0, .int .i64 0, .int .u64 0, .int .u64 0, .int .u64 0, .int .u64 0, .string ⟨#[]⟩, .int .i64 0, .int .i64 0, .slice none 0 0]) ∧
    Hid (Blk wr (w.heap.size + 1 + 1) #[.int .i64 x.op, .int .i64 x.at_, .int .u64 (wd x.set 0), .int .u64 (wd x.set 1), .int .u64 (wd x.set 2), .int .u64 (wd x.set 3), .string x.text, .int .i64 x.mn, .int .i64 x.mx, v] 28) ∧
    Hid (wr.ownsRow (w.heap.size + 1 + 1 + 1) 28 10 v k (tcl T)) ∧ Hid (∀ t ∈ T, Xok t.1 ∧ Xap wr (fun b => w.heap.size + 1 + 1 + 1 ≤ b ∧ b < wr.heap.size ∧ some b ≠ v.ownBlock) t.2.1 t.2.2 t.1.args) ∧ Hid (Ext w wr)) (fun i _ => x.args.length - (intOf i).toNat)
  case atStart => exact ⟨0, _, [], Nat.zero_le _, rfl, Lib.hid (by simp), rfl, HB0, Lib.hid ⟨_, HB1.out, rfl⟩, HB2, Lib.hid (own_nil _ _ _ _), Lib.hid (fun t ht => by cases ht), HE⟩
  case round =>
    obtain ⟨k, v, T, hk, rfl, hT, hTl, hB0, hB1, hB2, hown, hel, hEr⟩ := hrel
    clear HB0 HB1 HB2 HE
    by_cases hkl : k < x.args.length
    · have k1 : decide ((k : Int) < (x.args.length : Int)) = true := by simp; omega
      obtain ⟨b, o, rfl, hbb, y, a', c', hy, hmem, hok, hya, c0, c1, c2, c3, c4, c5, c6, c7, c8, c9⟩ := (HX.out.ext hEr.out).cells hkl
      have hny := nn_mem hmem
      have HC := Lib.hid (fun w h => IH.out y hmem a' c' w (by have := HNN.out; omega) h)
      have z9 := hB0.out.cell 9
      have q9 := hB2.out.cell 9
      simp only [xbx, List.getElem?_toArray, List.getElem?_cons_succ, List.getElem?_cons_zero] at z9 q9
      have f9 := hB2.out.free 9
      have hlw := hB2.out.lt
      have i0' : (0 : Int) ≤ (k : Int) := by omega
      have i1 : (k : Int) + 1 ≤ 20001 := by omega
      have HYA := Lib.hid hya
      have HYK := Lib.hid (And.intro hok hy)
      clear hya hok hy hmem hny
      go_wp2_with fail
      go_region_law (first | (go_simp; go_at_call 8; refine (HC.out _ (HYA.out.ext (by go_grown))).mono ?_; rintro e w2 ⟨a2, c2, rfl, hap, hx2⟩; have hown2 := Lib.hid (own_xt (own_xt hown.out (show Ext wr wr.drew from Below.drew (Below.refl _ _))) hx2); have hap2 := Lib.hid hap; have hsz2 := hx2.size; have HX2 := Lib.hid hx2; have hB22 := Lib.hid ((hB2.out.ext (show Ext wr wr.drew from Below.drew (Below.refl _ _))).ext hx2); have q92 := hB22.out.cell 9; have l92 := hB22.out.lt; simp only [List.getElem?_toArray, List.getElem?_cons_succ, List.getElem?_cons_zero] at q92; simp only [World.drew] at hsz2; clear hap hx2) | (refine step_append_lies _ rfl (.tmp 15) (.tmp 22) 22 rfl (w.heap.size + 1 + 1 + 1) 28 i0 _ 10 104 Tryd.underlying22 hi hz0 hz1 hz2 rfl (by decide) v k (tcl T) rfl (hown2.out.alloc _) ⟨_, 0, none⟩ 1 1 (xcs y a2 c2) rfl rfl (cell_nwb _ (xcs y a2 c2) _ _ rfl) (xcs_one y a2 c2) (by decide) (by unfold maxLen; omega) (by omega) (by simp; omega) _ rfl ?_; intro g cap w4 hown4 hgrow4 hv4 hg4; have hB4 := Lib.hid (blk_gr (Blk.alloc ((hB2.out.ext (show Ext wr wr.drew from Below.drew (Below.refl _ _))).ext HX2.out) _) hgrow4 (hown2.out.alloc _) (by omega)); have q94 := hB4.out.cell 9; have f94 := hB4.out.free 9; simp only [List.getElem?_toArray, List.getElem?_cons_succ, List.getElem?_cons_zero] at q94))
      all_goals
        (go_wp2_with fail
         go_roundw
         case rel =>
           obtain ⟨T', h1, h2, h3, h4, h5, h6, h7, h8⟩ := cpx_fin hkl HYK.out hT.out hTl hB0.out hB1.out hown.out hel.out hEr.out hlw HX2.out hown2.out hap2.out hgrow4 hown4 hv4 hB4.out
           exact ⟨k + 1, _, T', by omega, by go_num, Lib.hid h1, h2, Lib.hid h3, Lib.hid h4, Lib.hid h5, Lib.hid h6, Lib.hid h7, Lib.hid h8⟩
         case measure => simp [intOf] <;> omega)
    · have k1 : decide ((k : Int) < (x.args.length : Int)) = false := by simp; omega
      obtain rfl : k = x.args.length := by omega
      obtain ⟨a2, c2, rfl, hxap⟩ : ∃ a2 c2, v = .slice a2 x.args.length c2 ∧ Xap wr (fun b => w.heap.size ≤ b ∧ b < wr.heap.size ∧ b ≠ w.heap.size + 1) a2 c2 x.args := by
        have hTT : T.map (·.1) = x.args := by have := hT.out; rwa [List.take_length] at this
        have hown' := hown.out
        obtain ⟨_, ⟨hv, h0⟩ | ⟨g, cap, cur, hv, hgb, hg, hg1, hg2, hg3, hg4⟩⟩ := hown.out
        · have e : x.args = [] := List.length_eq_zero_iff.1 h0
          exact ⟨none, 0, by rw [hv, e]; rfl, by rw [e]; exact .nil _ _ (by decide)⟩
        · have hcl := hown'.cells (g := g) (by rw [hv]; rfl)
          refine ⟨some ⟨g, 0, none⟩, cap, hv, ?_⟩
          have hob : v.ownBlock = some g := by rw [hv]; rfl
          refine .put g 0 cap x.args (fun i => (T.getD i (x, none, 0)).2.1) (fun i => (T.getD i (x, none, 0)).2.2) hg1 hg2 ⟨by omega, (Array.getElem?_eq_some_iff.1 hg).1, by omega⟩ (fun y hy => ?_) (fun i hi j hj => ?_) (fun i hi => ?_)
          · rw [← hTT] at hy
            obtain ⟨t, ht, rfl⟩ := List.mem_map.1 hy
            exact (hel.out t ht).1
          · have hiT : i < T.length := by omega
            have hti : T.getD i (x, none, 0) = T[i] := by simp [List.getD_eq_getElem?_getD, hiT]
            have hai : x.args[i] = T[i].1 := by simp [← hTT]
            have hq := tcl_get T i hiT j hj
            rw [hti, hai, ← hq]
            have hlt : i * 10 + j < (tcl T).length := by
              have : (xcs T[i].1 T[i].2.1 T[i].2.2)[j]? ≠ none := by rw [Ne, List.getElem?_eq_none_iff]; show ¬ 10 ≤ j; omega
              rw [← hq] at this
              exact Nat.lt_of_not_le fun h => this (List.getElem?_eq_none_iff.2 h)
            have := hcl (i * 10 + j) (tcl T)[i * 10 + j] (List.getElem?_eq_getElem hlt)
            rw [show (⟨g, 0, none⟩ : Addr).add (i * 10 + j) = ⟨g, 0 + (i * 10 + j), none⟩ by unfold Addr.add; split <;> simp_all] at this
            rw [show 0 + i * 10 + j = 0 + (i * 10 + j) by omega, this, List.getElem?_eq_getElem hlt]
          · have hiT : i < T.length := by omega
            have hti : T.getD i (x, none, 0) = T[i] := by simp [List.getD_eq_getElem?_getD, hiT]
            have hai : x.args[i] = T[i].1 := by simp [← hTT]
            rw [hti, hai]
            exact (hel.out T[i] (List.getElem_mem hiT)).2.turn fun b hb => ⟨⟨by omega, hb.2.1, by omega⟩, rfl⟩
      obtain ⟨t1, hB1', rfl⟩ := hB1.out
      have HB1 := Lib.hid hB1'
      have HXAP := Lib.hid hxap
      have hrg : Hid (wr.rangeAt (w.heap.size + 1 + 1) 0 (xcs x a2 c2)) := Lib.hid (fun j u hu => by
        rw [Nat.zero_add, hB2.out.cell j]
        show (xcs x a2 c2).toArray[j]? = some u
        simpa using hu)
      have z9 := hB0.out.cell 9
      simp only [xbx, List.getElem?_toArray, List.getElem?_cons_succ, List.getElem?_cons_zero] at z9
      clear hxap hB1'
      go_upto_region 7 with fail
      iterate 2 go_step
      refine wp_load_mid 28 (.tmp 3) rfl (w.heap.size + 1 + 1) 0 rfl (xcs x a2 c2) _ hrg.out Tryd.underlying28 rfl expr_info ?_
      simp only [Act.put, List.setIfInBounds_toArray, List.set_cons_succ, List.set_cons_zero]
      iterate 2 go_step
      refine wp_store_row 28 (.tmp 2) (.tmp 25) rfl (w.heap.size + 1) ((xcs x a2 c2).toArray) rfl rfl 28 _ HB1.out expr_info rfl (by simp [xcs, Value.oneCell']) ?_
      simp only [Act.put]
      have HRR := Lib.hid (blk_row (vs' := (xcs x a2 c2).toArray) HB1.out)
      have HEE := Lib.hid (row_ext hEr.out (b := w.heap.size + 1) (by omega) (xcs x a2 c2).toArray)
      go_wp2_with fail
      refine bodyPost_ret (v := xv x a2 c2) ?_ rfl ⟨a2, c2, rfl, ?_, HEE.out⟩
      · obtain ⟨q0, q1, q2, q3, q4, q5, q6, q7, q8, q9⟩ := HRR.out.cells10
        simp [results, Tryd.results8, go_sem, q0, q1, q2, q3, q4, q5, q6, q7, q8, q9]
      · refine HXAP.out.turn fun b hb => ⟨⟨hb.1, by have := hb.2.1; simpa [World.setRow] using this⟩, row_other _ _ _ _ hb.2.2⟩
end Go.Proofs.YtnmdfhnfheekgaaDoor
