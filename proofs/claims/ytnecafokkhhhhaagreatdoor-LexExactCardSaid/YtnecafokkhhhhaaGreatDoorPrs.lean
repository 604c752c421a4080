/- Parse. -/
import Derived.Test.YtnecafokkhhhhaaGreatDoorKls
namespace Go.Proofs.YtnecafokkhhhhaaGreatDoor
open Go Go.RowKit
/-- What the package's calls lean on. -/
structure Kn (w : World) (es ed : Addr) : Prop where
  syn : w.cell? ⟨1, 0, none⟩ = some (strAt es)
  deep : w.cell? ⟨2, 0, none⟩ = some (strAt ed)
  errv : ErrV w
  ml : ∃ m, w.cell? ⟨17, 0, none⟩ = some (.int .i64 m)
  lo : es.block < w.heap.size ∧ ed.block < w.heap.size
theorem Kn.ext {w w' : World} {es ed : Addr} (h : Kn w es ed) (hx : Ext w w') : Kn w' es ed := by
  obtain ⟨m, hm⟩ := h.ml
  have g := grown_of_ext (row := none) hx
  exact ⟨cell_grown h.syn g (by simp), cell_grown h.deep g (by simp), h.errv.ext hx, ⟨m, cell_grown hm g (by simp)⟩, Nat.lt_of_lt_of_le h.lo.1 hx.size, Nat.lt_of_lt_of_le h.lo.2 hx.size⟩
theorem Kn.rk {w w' : World} {es ed : Addr} (h : Kn w es ed) (hx : Ext w w') {r : Nat} (hr : w.heap.size ≤ r) : Rk unq w' r es ed := by
  have h' := h.ext hx
  obtain ⟨m, hm⟩ := h.ml
  obtain ⟨te, pe, hv⟩ := h.errv
  have l1 : 1 < w.heap.size := World.block_lt_of_cell? w (⟨_, 0, none⟩ : Addr) h.syn
  have l2 : 2 < w.heap.size := World.block_lt_of_cell? w (⟨_, 0, none⟩ : Addr) h.deep
  have l3 : 17 < w.heap.size := World.block_lt_of_cell? w (⟨_, 0, none⟩ : Addr) hm
  have l4 : 18 < w.heap.size := World.block_lt_of_cell? w (⟨_, 0, none⟩ : Addr) hv
  exact ⟨⟨h'.syn, h'.deep, by omega, by omega, Nat.lt_of_lt_of_le h.lo.1 hr, Nat.lt_of_lt_of_le h.lo.2 hr⟩, h'.errv, by omega, h'.ml, by omega, unesc_any, unq_len, unq_byte⟩
/-- Where reading begins: what is no place is the end. -/
def pos (s : ByteArray) (a : Int) : Nat := if a < 0 ∨ (s.size : Int) < a then s.size else a.toNat
theorem pos_le (s : ByteArray) (a : Int) : pos s a ≤ s.size := by
  unfold pos
  split
  · exact Nat.le_refl _
  · rename_i h
    simp only [not_or, Int.not_lt] at h
    omega
theorem begin_any (s : ByteArray) (a : Int) (hs : s.size ≤ 4294967000) (w : World) :
    Calls Tryz.prog 49 #[.string s, .int .i64 a] w fun e w' => ∃ r, e = .returned (.pointer (some ⟨r, 0, none⟩)) ∧ w.heap.size ≤ r ∧ Ext w w' ∧ Rdr w' r s (pos s a) := by
  have hle := pos_le s a
  by_cases h1 : a < 0
  · have hp : pos s a = s.size := by unfold pos; rw [if_pos (.inl h1)]
    rw [hp]
    have hb := Blk.new w #[.string s, .int .i64 (s.size : Int)] 104
    clear hle hp
    go_enter Tryz.func49, Tryz.ntmps49
    go_wp2
    go_ret
    exact ⟨_, rfl, Nat.le_refl _, by go_grown, hb, Nat.le_refl _, hs⟩
  · by_cases h2 : (s.size : Int) < a
    · have hp : pos s a = s.size := by unfold pos; rw [if_pos (.inr h2)]
      rw [hp]
      have hb := Blk.new w #[.string s, .int .i64 (s.size : Int)] 104
      clear hle hp
      go_enter Tryz.func49, Tryz.ntmps49
      go_wp2
      go_ret
      exact ⟨_, rfl, Nat.le_refl _, by go_grown, hb, Nat.le_refl _, hs⟩
    · have hp : (pos s a : Int) = a := by unfold pos; rw [if_neg (by simp only [not_or]; exact ⟨h1, h2⟩)]; omega
      have hb := Blk.new w #[.string s, .int .i64 a] 104
      have HL := Lib.hid (And.intro hp hle)
      clear hle hp
      go_enter Tryz.func49, Tryz.ntmps49
      go_wp2
      go_ret
      refine ⟨_, rfl, Nat.le_refl _, by go_grown, ?_, HL.out.2, hs⟩
      rw [HL.out.1]
      exact hb
theorem ext_of_own {w w1 w2 : World} {r : Nat} (hx : Ext w w1) (hg : w1.grownBy w2 (some r)) (hr : w.heap.size ≤ r) : Ext w w2 :=
  ⟨hg.os.trans hx.os, hg.tape.trans hx.tape, hg.output.trans hx.output, Nat.le_trans hx.size hg.size, fun k hk => (hg.block k (Nat.lt_of_lt_of_le hk hx.size) (by simp; omega)).trans (hx.block k hk)⟩
/-- What 'Parse' says of a text at a place. -/
def prs (s : ByteArray) (a : Int) : Sum (Bool × Nat) (BitVec 256 × Nat) := cls unq ((rest s (pos s a)).length + 1) 0 (rest s (pos s a)) (pos s a)
def PrsEnd (w w' : World) (es ed : Addr) (e : Ending) : Sum (Bool × Nat) (BitVec 256 × Nat) → Prop
  | .inl (b, q) => ∃ v, e = .returned (.tuple #[sv0, .int .i64 0, v]) ∧ Placed w' v (if b = true then ed else es) q ∧ Ext w w'
  | .inr (T, m) => e = .returned (.tuple #[sv T, .int .i64 m, .nilIface]) ∧ Ext w w'
set_option maxHeartbeats 4000000 in
set_option maxRecDepth 20000 in
theorem parse_any (s : ByteArray) (a : Int) (es ed : Addr) (hs : s.size ≤ 4294967000) (w : World) (hK : Kn w es ed) (x : Sum (Bool × Nat) (BitVec 256 × Nat)) (hx : prs s a = x) :
    Calls Tryz.prog 31 #[.string s, .int .i64 a] w fun e w' => PrsEnd w w' es ed e x := by
  have hbg := fun w => begin_any s a hs w
  have hlen : (rest s (pos s a)).length < (rest s (pos s a)).length + 1 := Nat.lt_succ_self _
  unfold prs at hx
  generalize pos s a = i at hbg hlen hx
  have HX := Lib.hid hx
  have HL := Lib.hid hlen
  have HK := Lib.hid hK
  clear hx hlen hK
  go_enter Tryz.func31, Tryz.ntmps31
  have hx0 : Ext w (w.alloc (.cells zerS 36)) := by go_grown
  go_wp2_with fail
  refine (hbg _).mono ?_
  rintro e w1 ⟨r, rfl, hr, hx1, hR1⟩
  have hx2 := bel_call hx0 hx1
  have hrs : w.heap.size + 1 ≤ r := by simpa using hr
  have hcl := class_ok unq _ _ (Nat.le_refl _) r s i es ed w1 0 x hR1 (HK.out.rk hx2 (by omega)) (by omega) HL.out HX.out
  have HB1 := Lib.hid ((Blk.new w zerS 36).ext hx1)
  have HX2 := Lib.hid hx2
  have HC := Lib.hid hcl
  clear hx1 hx2 hcl hbg hr HX HL hx0 hR1
  go_wp2_with fail
  refine HC.out.mono ?_
  rintro e w2 ⟨S, v, rfl, hres⟩
  cases x with
  | inl bq =>
    obtain ⟨b, q⟩ := bq
    obtain ⟨rfl, hP, hG⟩ := hres
    have hP2 : ∃ p, v = .iface 70 (.pointer (some ⟨p, 0, none⟩)) := by obtain ⟨p, tp, h1, h2⟩ := hP; exact ⟨p, h1⟩
    have HP := Lib.hid hP
    clear hP
    obtain ⟨p, rfl⟩ := hP2
    have hb := HB1.out.grown hG (by simp; omega)
    have HB2 := Lib.hid hb
    have HG := Lib.hid (ext_of_own HX2.out hG (by omega))
    have hlt := hb.lt
    obtain ⟨z0, z1, z2, z3⟩ := hb.cells4
    have f0 := hb.free 0
    have f1 := hb.free 1
    have f2 := hb.free 2
    have f3 := hb.free 3
    have kB := (hb.store4 (.int .u64 (wd 0#256 0)) (.int .u64 (wd 0#256 1)) (.int .u64 (wd 0#256 2)) (.int .u64 (wd 0#256 3)))
    obtain ⟨u0, u1, u2, u3⟩ := kB.cells4
    have e0 := kB.free 0
    have e1 := kB.free 1
    have e2 := kB.free 2
    have e3 := kB.free 3
    obtain ⟨y0, y1, y2, y3⟩ := (kB.store4 (.int .u64 0) (.int .u64 0) (.int .u64 0) (.int .u64 0)).cells4
    have HKB := Lib.hid kB
    clear kB hb hG HB1 HX2 HC
    go_wp2_with fail
    refine bodyPost_ret (v := .tuple #[sv0, .int .i64 0, .iface 70 (.pointer (some ⟨p, 0, none⟩))]) ?_ rfl ?_
    · simp [results, Tryz.results31, go_sem, y0, y1, y2, y3]
    · refine ⟨_, rfl, ?_, ?_⟩
      · exact (HP.out.own HB2.out _ _ _ _).own HKB.out _ _ _ _
      · have g := grown_own4 (grown_own4 (grown_of_ext (row := none) HG.out) w.heap.size (Nat.le_refl _) (.int .u64 (wd 0#256 0)) (.int .u64 (wd 0#256 1)) (.int .u64 (wd 0#256 2)) (.int .u64 (wd 0#256 3))) w.heap.size (Nat.le_refl _) (.int .u64 0) (.int .u64 0) (.int .u64 0) (.int .u64 0)
        exact ⟨g.os, g.tape, g.output, g.size, fun k hk => g.block k hk (by simp)⟩
  | inr Tm =>
    obtain ⟨T, m⟩ := Tm
    obtain ⟨rfl, rfl, hM⟩ := hres
    have hb := HB1.out.grown hM.1 (by simp; omega)
    have HG := Lib.hid (ext_of_own HX2.out hM.1 (by omega))
    have hlt := hb.lt
    obtain ⟨z0, z1, z2, z3⟩ := hb.cells4
    have f0 := hb.free 0
    have f1 := hb.free 1
    have f2 := hb.free 2
    have f3 := hb.free 3
    have kB := Lib.hid (hb.store4 (.int .u64 (wd S 0)) (.int .u64 (wd S 1)) (.int .u64 (wd S 2)) (.int .u64 (wd S 3)))
    have kR := Lib.hid (hM.2.own (b := w.heap.size) (by omega) (.int .u64 (wd S 0)) (.int .u64 (wd S 1)) (.int .u64 (wd S 2)) (.int .u64 (wd S 3)))
    have kG : Hid (Ext w ((((w2.setCell ⟨w.heap.size, 0, none⟩ (.int .u64 (wd S 0))).setCell ⟨w.heap.size, 1, none⟩ (.int .u64 (wd S 1))).setCell ⟨w.heap.size, 2, none⟩ (.int .u64 (wd S 2))).setCell ⟨w.heap.size, 3, none⟩ (.int .u64 (wd S 3)))) := by
      have g := grown_own4 (grown_of_ext (row := none) HG.out) w.heap.size (Nat.le_refl _) (.int .u64 (wd S 0)) (.int .u64 (wd S 1)) (.int .u64 (wd S 2)) (.int .u64 (wd S 3))
      exact ⟨g.os, g.tape, g.output, g.size, fun k hk => g.block k hk (by simp)⟩
    clear hb hM HB1 HX2 HC HG
    go_wp2_with fail
    clear z0 z1 z2 z3 f0 f1 f2 f3 hlt
    generalize (((w2.setCell ⟨w.heap.size, 0, none⟩ (.int .u64 (wd S 0))).setCell ⟨w.heap.size, 1, none⟩ (.int .u64 (wd S 1))).setCell ⟨w.heap.size, 2, none⟩ (.int .u64 (wd S 2))).setCell ⟨w.heap.size, 3, none⟩ (.int .u64 (wd S 3)) = w3 at *
    refine G.wp_region_stab (G := Ext) (fun _ => none) (by kernel_rfl) (by kernel_rfl) (fun _ _ h => by cases h) (fun hex => ?_)
    iterate 5
      (refine G.wpS_one (A := ?_) hex rfl rfl (by simp) ?_ ?_ ?_
       rotate_left 2
       · intro w' hC K hK
         have hb2 := kB.out.ext hC.1; obtain ⟨z0, z1, z2, z3⟩ := hb2.cells4; have c1 := (kR.out.ext hC.1).blk.cell 1; clear hb2
         go_wp2_with (fail)
         refine hK _ ?_
         first | exact Below.refl _ _ | assumption | ((repeat' (first | (with_reducible exact Below.refl _ _) | (with_reducible assumption) | (with_reducible refine below_drewN ?_ _) | (with_reducible refine Below.alloc ?_ ?_ _) | (with_reducible refine Below.drew ?_) | (with_reducible refine Below.setCell ?_ ?_ _) | (with_reducible refine Below.trans ?_ (Below.mono (by with_reducible assumption) ?_)) | go_size)))
       rotate_left 1
       · rfl
       clear hex; intro hex)
    refine G.wpS_none hex rfl rfl ?_ ?_
    · intro w' hC K hK
      have hb2 := kB.out.ext hC.1
      have HS := Lib.hid (ext_same4 hb2)
      obtain ⟨z0, z1, z2, z3⟩ := hb2.cells4
      have f0 := hb2.free 0
      have f1 := hb2.free 1
      have f2 := hb2.free 2
      have f3 := hb2.free 3
      have hlt := hb2.lt
      clear hb2
      go_wp2_with fail
      exact HS.out
    clear hex; intro hex
    iterate 2
      (refine G.wpS_one (A := ?_) hex rfl rfl (by simp) ?_ ?_ ?_
       rotate_left 2
       · intro w' hC K hK
         go_wp2_with (fail)
         refine hK _ ?_
         first | exact Below.refl _ _ | assumption | ((repeat' (first | (with_reducible exact Below.refl _ _) | (with_reducible assumption) | (with_reducible refine below_drewN ?_ _) | (with_reducible refine Below.alloc ?_ ?_ _) | (with_reducible refine Below.drew ?_) | (with_reducible refine Below.setCell ?_ ?_ _) | (with_reducible refine Below.trans ?_ (Below.mono (by with_reducible assumption) ?_)) | go_size)))
       rotate_left 1
       · rfl
       clear hex; intro hex)
    refine G.wpS_nil fun w4 hAll => ?_
    obtain ⟨y0, y1, y2, y3⟩ := (kB.out.ext hAll.1).cells4
    have HG := Lib.hid (bel_call kG.out hAll.1)
    clear kB kR kG hAll hex
    go_wp2_with fail
    refine bodyPost_ret (v := .tuple #[sv S, .int .i64 m, .nilIface]) ?_ rfl ?_
    · simp [results, Tryz.results31, go_sem, y0, y1, y2, y3]
    · exact ⟨rfl, HG.out⟩
end Go.Proofs.YtnecafokkhhhhaaGreatDoor
