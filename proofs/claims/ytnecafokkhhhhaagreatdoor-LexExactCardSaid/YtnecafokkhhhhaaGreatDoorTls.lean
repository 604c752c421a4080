/- The tails of a class. -/
import Derived.Test.YtnecafokkhhhhaaGreatDoorItm
import Derived.Test.YtnecafokkhhhhaaGreatDoorPln
namespace Go.Proofs.YtnecafokkhhhhaaGreatDoor
open Go Go.RowKit
/-- What 'class' and 'tails' leave. -/
def ClsRes (w w' : World) (r : Nat) (s : ByteArray) (es ed : Addr) (S : BitVec 256) (v : Value) : Sum (Bool × Nat) (BitVec 256 × Nat) → Prop
  | .inl (b, q) => S = 0#256 ∧ Placed w' v (if b = true then ed else es) q ∧ w.grownBy w' (some r)
  | .inr (T, m) => S = T ∧ v = .nilIface ∧ Moved w w' r s m
def ClsEnd (w w' : World) (r : Nat) (s : ByteArray) (es ed : Addr) (e : Ending) (x : Sum (Bool × Nat) (BitVec 256 × Nat)) : Prop :=
  ∃ S v, e = .returned (.tuple #[sv S, v]) ∧ ClsRes w w' r s es ed S v x
theorem grown_set4 (w : World) (b : Nat) (y0 y1 y2 y3 : Value) : w.grownBy ((((w.setCell ⟨b, 0, none⟩ y0).setCell ⟨b, 1, none⟩ y1).setCell ⟨b, 2, none⟩ y2).setCell ⟨b, 3, none⟩ y3) (some b) :=
  grown_trans (grown_trans (grown_trans (grown_set _ _ _ _) (grown_set _ _ _ _)) (grown_set _ _ _ _)) (grown_set _ _ _ _)
theorem grown_own4 {w w' : World} {row : Option Nat} (h : w.grownBy w' row) (b : Nat) (hb : w.heap.size ≤ b) (y0 y1 y2 y3 : Value) : w.grownBy ((((w'.setCell ⟨b, 0, none⟩ y0).setCell ⟨b, 1, none⟩ y1).setCell ⟨b, 2, none⟩ y2).setCell ⟨b, 3, none⟩ y3) row :=
  grown_store (grown_store (grown_store (grown_store h _ _ _ hb) _ _ _ hb) _ _ _ hb) _ _ _ hb
theorem Placed.own {w : World} {v : Value} {a : Addr} {n : Int} (h : Placed w v a n) {b : Nat} {i : Int} {xs : List Value} {t : TypeId} (hB : Blk w b ((.int .u64 i :: xs).toArray) t) (y0 y1 y2 y3 : Value) : Placed ((((w.setCell ⟨b, 0, none⟩ y0).setCell ⟨b, 1, none⟩ y1).setCell ⟨b, 2, none⟩ y2).setCell ⟨b, 3, none⟩ y3) v a n := by
  obtain ⟨p, tp, rfl, hP, hlp⟩ := h
  have hne : b ≠ p := by
    intro e
    have g0 := hP.cell 0
    have g1 := hB.cell 0
    rw [← e, g1] at g0
    simp at g0
  exact ⟨p, tp, rfl, hP.grown (grown_set4 w b y0 y1 y2 y3) (by simpa using hne), hlp⟩
theorem Rdr.own {w : World} {r : Nat} {s : ByteArray} {i : Nat} (h : Rdr w r s i) {b : Nat} (hb : b ≠ r) (y0 y1 y2 y3 : Value) : Rdr ((((w.setCell ⟨b, 0, none⟩ y0).setCell ⟨b, 1, none⟩ y1).setCell ⟨b, 2, none⟩ y2).setCell ⟨b, 3, none⟩ y3) r s i :=
  h.grown (grown_set4 w b y0 y1 y2 y3) (by simpa using hb)
theorem ClsRes.own {w wa wb : World} {r : Nat} {s : ByteArray} {es ed : Addr} {S : BitVec 256} {v : Value} {x : Sum (Bool × Nat) (BitVec 256 × Nat)} (h : ClsRes wa wb r s es ed S v x) (hg : w.grownBy wa (some r)) {b : Nat} {i : Int} {xs : List Value} {t : TypeId} (hB : Blk wb b ((.int .u64 i :: xs).toArray) t) (hb : w.heap.size ≤ b) (hr : b ≠ r) (y0 y1 y2 y3 : Value) :
    ClsRes w ((((wb.setCell ⟨b, 0, none⟩ y0).setCell ⟨b, 1, none⟩ y1).setCell ⟨b, 2, none⟩ y2).setCell ⟨b, 3, none⟩ y3) r s es ed S v x := by
  match x with
  | .inl (q, n) => exact ⟨h.1, h.2.1.own hB _ _ _ _, grown_own4 (grown_trans hg h.2.2) b hb _ _ _ _⟩
  | .inr (T, m) => exact ⟨h.1, h.2.1, grown_own4 (grown_trans hg h.2.2.1) b hb _ _ _ _, h.2.2.2.own hr _ _ _ _⟩
def ClassOk (f : List UInt8 → Nat × Nat) (g : Nat) : Prop := ∀ (r : Nat) (s : ByteArray) (i : Nat) (es ed : Addr) (w : World) (o : Nat) (x : Sum (Bool × Nat) (BitVec 256 × Nat)), Rdr w r s i → Rk f w r es ed → o ≤ 40 → (rest s i).length < g → cls f g o (rest s i) i = x →
  Calls Tryz.prog 51 #[.pointer (some ⟨r, 0, none⟩), .int .i64 o] w fun e w' => ClsEnd w w' r s es ed e x
def TailsOk (f : List UInt8 → Nat × Nat) (g : Nat) : Prop := ∀ (r : Nat) (s : ByteArray) (i : Nat) (es ed : Addr) (w : World) (o : Nat) (S : BitVec 256) (x : Sum (Bool × Nat) (BitVec 256 × Nat)), Rdr w r s i → Rk f w r es ed → o ≤ 40 → (rest s i).length < g → tls f g o S (rest s i) i = x →
  Calls Tryz.prog 78 #[.pointer (some ⟨r, 0, none⟩), sv S, .int .i64 o] w fun e w' => ClsEnd w w' r s es ed e x
set_option maxHeartbeats 4000000 in
set_option maxRecDepth 20000 in
theorem tails_of (f : List UInt8 → Nat × Nat) (n : Nat) (hCK : ∀ g, g < n → ClassOk f g) : TailsOk f n := by
  intro r s i es ed w o S x h hK ho40 hn ho
  have hrw := h.blk.lt
  have HCK := Lib.hid hCK
  have HH := Lib.hid h
  have HK := Lib.hid hK
  have HN := Lib.hid hn
  have HO := Lib.hid ho
  clear h hK hn ho hCK
  go_enter Tryz.func78, Tryz.ntmps78
  go_wp2_with fail
  go_loopg [10] n (fun g _ wr => ∃ (S : BitVec 256) (k : Nat), g ≤ n ∧ (rest s k).length < g ∧ Hid (tls f g o S (rest s k) k = x) ∧ Hid (w.grownBy wr (some r)) ∧ Hid (Rdr wr r s k) ∧ Hid (Blk wr w.heap.size (svs S) 36) ∧ Hid (Blk wr (w.heap.size + 1) zerS 36))
  case atStart =>
    refine ⟨S, i, Nat.le_refl _, HN.out, HO, Lib.hid (grown_of_ext (by (repeat' (first | (with_reducible exact Below.refl _ _) | (with_reducible assumption) | (with_reducible refine below_drewN ?_ _) | (with_reducible refine Below.alloc ?_ ?_ _) | (with_reducible refine Below.drew ?_) | (with_reducible refine Below.setCell ?_ ?_ _) | (with_reducible refine Below.trans ?_ (Below.mono (by with_reducible assumption) ?_)) | go_size)))), Lib.hid (HH.out.ext (by (repeat' (first | (with_reducible exact Below.refl _ _) | (with_reducible assumption) | (with_reducible refine below_drewN ?_ _) | (with_reducible refine Below.alloc ?_ ?_ _) | (with_reducible refine Below.drew ?_) | (with_reducible refine Below.setCell ?_ ?_ _) | (with_reducible refine Below.trans ?_ (Below.mono (by with_reducible assumption) ?_)) | go_size)))), Lib.hid ((Blk.new w (svs S) 36).alloc _), Lib.hid ?_⟩
    have hz := Blk.new (w.alloc (.cells (svs S) 36)) zerS 36
    rw [show (w.alloc (.cells (svs S) 36)).heap.size = w.heap.size + 1 by simp] at hz
    exact hz
  case round =>
    obtain ⟨S, k, hgn, hlen, hO, hG, hR, hB4, hB6⟩ := hrel
    obtain ⟨g, rfl⟩ : ∃ g, gk = g + 1 := ⟨gk - 1, by omega⟩
    have hrl := rest_len hR.out.le
    cases hq1 : Lib.hasPrefix (rest s k) [93] with
    | true =>
      have hl1 := pre_len hq1
      have HX := Lib.hid (show Sum.inr (S, k + 1) = x by rw [← hO.out, tls, if_pos hq1])
      have hps := pass_yes r s ⟨#[93]⟩ k wr hR.out hq1 (by show k + 1 ≤ s.size; omega)
      clear hO
      go_wp2_with fail
      refine hps.mono ?_
      rintro e w1 ⟨rfl, hM⟩
      have hb4 := hB4.out.grown hM.1 (by simp; omega)
      have hb6 := hB6.out.grown hM.1 (by simp; omega)
      have HG1 := Lib.hid (grown_trans hG.out hM.1)
      have HR1 := Lib.hid hM.2
      have hlt := hb6.lt
      obtain ⟨l0, l1, l2, l3⟩ := hb4.cells4
      obtain ⟨z0, z1, z2, z3⟩ := hb6.cells4
      have f0 := hb6.free 0
      have f1 := hb6.free 1
      have f2 := hb6.free 2
      have f3 := hb6.free 3
      obtain ⟨y0, y1, y2, y3⟩ := (hb6.store4 (.int .u64 (wd S 0)) (.int .u64 (wd S 1)) (.int .u64 (wd S 2)) (.int .u64 (wd S 3))).cells4
      clear hb4 hb6 hM hG hR hB4 hB6 hps hq1
      go_wp2_with fail
      refine bodyPost_ret (v := .tuple #[sv S, .nilIface]) ?_ rfl ?_
      · simp [results, Tryz.results78, go_sem, y0, y1, y2, y3]
      · rw [← HX.out]
        exact ⟨S, _, rfl, rfl, rfl, grown_own4 HG1.out _ (by omega) _ _ _ _, HR1.out.own (by omega) _ _ _ _⟩
    | false =>
      have hx1' := hO.out
      have hps1 := pass_no r s ⟨#[93]⟩ k wr hR.out hq1
      go_wp2_with fail
      refine hps1.mono ?_
      rintro e w1 ⟨rfl, hk1⟩
      have hx : Ext wr w1 := by obtain ⟨kk, rfl⟩ := hk1; exact drew_ext _ _
      clear hk1 hps1
      cases hq2 : Lib.hasPrefix (rest s k) [45, 45] with
      | true =>
        have hl2 := pre_two_len hq2
        have hx1 := hx1'
        rw [tls, if_neg (by rw [hq1]; simp), if_pos hq2] at hx1
        have hps2 := pass_yes r s ⟨#[45, 45]⟩ k w1 (hR.out.ext hx) hq2 (by show k + 2 ≤ s.size; omega)
        clear hx1' hq1 hq2
        go_wp2_with fail
        refine hps2.mono ?_
        rintro e w3 ⟨rfl, hM⟩
        clear hps2
        replace hM : Moved w1 w3 r s (k + 2) := hM
        have hG3 := grown_trans (grown_ext hG.out hx) hM.1
        have hb4 := (hB4.out.ext hx).grown hM.1 (by simp; omega)
        have hb6 := (hB6.out.ext hx).grown hM.1 (by simp; omega)
        have HG3 := Lib.hid hG3
        have HR3 := Lib.hid hM.2
        have HB4 := Lib.hid hb4
        have HB6 := Lib.hid hb6
        have hrd : rest s (k + 2) = (rest s k).drop 2 := rest_drop s k 2
        have hl3 : (rest s (k + 2)).length < g := by rw [hrd, List.length_drop]; omega
        obtain ⟨y, hy⟩ : ∃ y, cls f g o (rest s (k + 2)) (k + 2) = y := ⟨_, rfl⟩
        have hcl := HCK.out g (by omega) r s (k + 2) es ed w3 o y HR3.out (HK.out.moved HG3.out) ho40 hl3 hy
        have hcle := (cls_le f g).1 o (rest s (k + 2)) (k + 2)
        rw [hy] at hcle
        rw [← hrd, hy] at hx1
        clear hG3 hb4 hb6 hM hG hR hB4 hB6 hx hO hy hrd
        cases y with
        | inl bq =>
          obtain ⟨b, q⟩ := bq
          have HX := Lib.hid (show Sum.inl (b, q) = x from hx1)
          have HC := Lib.hid hcl
          clear hcl hx1 hl3 hcle
          go_wp2_with fail
          refine HC.out.mono ?_
          rintro e w4 ⟨S4, v4, rfl, rfl, hP, hG4⟩
          have hB4' := HB6.out.grown hG4 (by simp; omega)
          have HB7 := Lib.hid hB4'
          have hP2 : ∃ p, v4 = .iface 70 (.pointer (some ⟨p, 0, none⟩)) := by obtain ⟨p, tp, h1, h2⟩ := hP; exact ⟨p, h1⟩
          have HP := Lib.hid hP
          clear hP
          obtain ⟨p, rfl⟩ := hP2
          have HG5 := Lib.hid (grown_trans HG3.out hG4)
          obtain ⟨z0, z1, z2, z3⟩ := hB4'.cells4
          have f0 := hB4'.free 0
          have f1 := hB4'.free 1
          have f2 := hB4'.free 2
          have f3 := hB4'.free 3
          have hlt := hB4'.lt
          clear hB4' hG4 HG3 HB6 HC
          go_wp2_with fail
          obtain ⟨y0, y1, y2, y3⟩ := ((HB7.out.store4 (.int .u64 0) (.int .u64 0) (.int .u64 0) (.int .u64 0)).alloc (.cells (svs 0#256) 36)).cells4
          refine bodyPost_ret (v := .tuple #[sv0, .iface 70 (.pointer (some ⟨p, 0, none⟩))]) ?_ rfl ?_
          · simp [results, Tryz.results78, go_sem, y0, y1, y2, y3]
          · rw [← HX.out]
            refine ⟨0#256, _, by rw [sv_zero], rfl, ?_, ?_⟩
            · exact (HP.out.own HB7.out _ _ _ _).ext (Below.alloc (Below.refl _ _) (Nat.le_refl _) _)
            · exact grown_ext (grown_own4 HG5.out _ (by omega) _ _ _ _) (Below.alloc (Below.refl _ _) (Nat.le_refl _) _)
        | inr Tm =>
          obtain ⟨T, m⟩ := Tm
          have hkm := hcle T m rfl
          have HC := Lib.hid hcl
          have HX := Lib.hid hx1
          clear hcl hx1 hl3 hcle
          go_wp2_with fail
          refine HC.out.mono ?_
          rintro e w4 ⟨S4, v4, rfl, rfl, rfl, hM⟩
          have hrl4 := rest_len hM.2.le
          have hrd : rest s m = (rest s k).drop (m - k) := by rw [← rest_drop]; congr 1; omega
          have HX4 := Lib.hid (show tls f g o (S &&& ~~~S4) (rest s m) m = x by rw [hrd]; exact HX.out)
          have hb4 := HB4.out.grown hM.1 (by simp; omega)
          have hb6 := HB6.out.grown hM.1 (by simp; omega)
          have HG4 := Lib.hid (grown_trans HG3.out hM.1)
          have HR4 := Lib.hid hM.2
          have hlt := hb6.lt
          have hlt4 := hb4.lt
          obtain ⟨l0, l1, l2, l3⟩ := hb4.cells4
          have HB7 := Lib.hid hb4
          have HB8 := Lib.hid hb6
          clear hM hb4 hb6 hrd HX HC HG3 HR3 HB4 HB6
          have hjn := fun w => minus_any S S4 w
          go_wp2_with fail
          refine (hjn _).mono ?_
          rintro e w5 ⟨rfl, hE5⟩
          have hx5 : Ext w4 w5 := bel_call (show Ext w4 _ from by (repeat' (first | (with_reducible exact Below.refl _ _) | (with_reducible assumption) | (with_reducible refine below_drewN ?_ _) | (with_reducible refine Below.alloc ?_ ?_ _) | (with_reducible refine Below.drew ?_) | (with_reducible refine Below.setCell ?_ ?_ _) | (with_reducible refine Below.trans ?_ (Below.mono (by with_reducible assumption) ?_)) | go_size))) hE5
          have hb4 := HB7.out.ext hx5
          have HB9 := Lib.hid hb4
          have HB10 := Lib.hid (HB8.out.ext hx5)
          have HG5 := Lib.hid (grown_ext HG4.out hx5)
          have HR5 := Lib.hid (HR4.out.ext hx5)
          have hlt5 := hb4.lt
          clear l0 l1 l2 l3
          obtain ⟨z0, z1, z2, z3⟩ := hb4.cells4
          have f0 := hb4.free 0
          have f1 := hb4.free 1
          have f2 := hb4.free 2
          have f3 := hb4.free 3
          clear hb4 hx5 hE5 HB7 HB8 HG4 HR4 hjn
          go_wp2_with fail
          go_roundg g
          case rel =>
            refine ⟨(S &&& ~~~S4), m, by omega, by omega, HX4, Lib.hid (grown_own4 HG5.out _ (by omega) _ _ _ _), Lib.hid (HR5.out.own (by omega) _ _ _ _), Lib.hid (HB9.out.store4 _ _ _ _), Lib.hid (HB10.out.other4 (by omega) _ _ _ _)⟩
          case measure => exact Nat.lt_succ_self g
      | false =>
        have hps2 := pass_no r s ⟨#[45, 45]⟩ k w1 (hR.out.ext hx) hq2
        go_wp2_with fail
        refine hps2.mono ?_
        rintro e w2 ⟨rfl, hk2⟩
        replace hx : Ext wr w2 := by obtain ⟨kk, rfl⟩ := hk2; exact bel_call hx (drew_ext _ _)
        clear hk2 hps2
        cases hq3 : Lib.hasPrefix (rest s k) [38, 38] with
        | true =>
          have hl2 := pre_two_len hq3
          have hx1 := hx1'
          rw [tls, if_neg (by rw [hq1]; simp), if_neg (by rw [hq2]; simp), if_pos hq3] at hx1
          have hps3 := pass_yes r s ⟨#[38, 38]⟩ k w2 (hR.out.ext hx) hq3 (by show k + 2 ≤ s.size; omega)
          clear hx1' hq1 hq2 hq3
          go_wp2_with fail
          refine hps3.mono ?_
          rintro e w3 ⟨rfl, hM⟩
          clear hps3
          replace hM : Moved w2 w3 r s (k + 2) := hM
          have hG3 := grown_trans (grown_ext hG.out hx) hM.1
          have hb4 := (hB4.out.ext hx).grown hM.1 (by simp; omega)
          have hb6 := (hB6.out.ext hx).grown hM.1 (by simp; omega)
          have HG3 := Lib.hid hG3
          have HR3 := Lib.hid hM.2
          have HB4 := Lib.hid hb4
          have HB6 := Lib.hid hb6
          have hrd : rest s (k + 2) = (rest s k).drop 2 := rest_drop s k 2
          have hl3 : (rest s (k + 2)).length < g := by rw [hrd, List.length_drop]; omega
          obtain ⟨y, hy⟩ : ∃ y, cls f g o (rest s (k + 2)) (k + 2) = y := ⟨_, rfl⟩
          have hcl := HCK.out g (by omega) r s (k + 2) es ed w3 o y HR3.out (HK.out.moved HG3.out) ho40 hl3 hy
          have hcle := (cls_le f g).1 o (rest s (k + 2)) (k + 2)
          rw [hy] at hcle
          rw [← hrd, hy] at hx1
          clear hG3 hb4 hb6 hM hG hR hB4 hB6 hx hO hy hrd
          cases y with
          | inl bq =>
            obtain ⟨b, q⟩ := bq
            have HX := Lib.hid (show Sum.inl (b, q) = x from hx1)
            have HC := Lib.hid hcl
            clear hcl hx1 hl3 hcle
            go_wp2_with fail
            refine HC.out.mono ?_
            rintro e w4 ⟨S4, v4, rfl, rfl, hP, hG4⟩
            have hB4' := HB6.out.grown hG4 (by simp; omega)
            have HB7 := Lib.hid hB4'
            have hP2 : ∃ p, v4 = .iface 70 (.pointer (some ⟨p, 0, none⟩)) := by obtain ⟨p, tp, h1, h2⟩ := hP; exact ⟨p, h1⟩
            have HP := Lib.hid hP
            clear hP
            obtain ⟨p, rfl⟩ := hP2
            have HG5 := Lib.hid (grown_trans HG3.out hG4)
            obtain ⟨z0, z1, z2, z3⟩ := hB4'.cells4
            have f0 := hB4'.free 0
            have f1 := hB4'.free 1
            have f2 := hB4'.free 2
            have f3 := hB4'.free 3
            have hlt := hB4'.lt
            clear hB4' hG4 HG3 HB6 HC
            go_wp2_with fail
            obtain ⟨y0, y1, y2, y3⟩ := ((HB7.out.store4 (.int .u64 0) (.int .u64 0) (.int .u64 0) (.int .u64 0)).alloc (.cells (svs 0#256) 36)).cells4
            refine bodyPost_ret (v := .tuple #[sv0, .iface 70 (.pointer (some ⟨p, 0, none⟩))]) ?_ rfl ?_
            · simp [results, Tryz.results78, go_sem, y0, y1, y2, y3]
            · rw [← HX.out]
              refine ⟨0#256, _, by rw [sv_zero], rfl, ?_, ?_⟩
              · exact (HP.out.own HB7.out _ _ _ _).ext (Below.alloc (Below.refl _ _) (Nat.le_refl _) _)
              · exact grown_ext (grown_own4 HG5.out _ (by omega) _ _ _ _) (Below.alloc (Below.refl _ _) (Nat.le_refl _) _)
          | inr Tm =>
            obtain ⟨T, m⟩ := Tm
            have hkm := hcle T m rfl
            have HC := Lib.hid hcl
            have HX := Lib.hid hx1
            clear hcl hx1 hl3 hcle
            go_wp2_with fail
            refine HC.out.mono ?_
            rintro e w4 ⟨S4, v4, rfl, rfl, rfl, hM⟩
            have hrl4 := rest_len hM.2.le
            have hrd : rest s m = (rest s k).drop (m - k) := by rw [← rest_drop]; congr 1; omega
            have HX4 := Lib.hid (show tls f g o (S &&& S4) (rest s m) m = x by rw [hrd]; exact HX.out)
            have hb4 := HB4.out.grown hM.1 (by simp; omega)
            have hb6 := HB6.out.grown hM.1 (by simp; omega)
            have HG4 := Lib.hid (grown_trans HG3.out hM.1)
            have HR4 := Lib.hid hM.2
            have hlt := hb6.lt
            have hlt4 := hb4.lt
            obtain ⟨l0, l1, l2, l3⟩ := hb4.cells4
            have HB7 := Lib.hid hb4
            have HB8 := Lib.hid hb6
            clear hM hb4 hb6 hrd HX HC HG3 HR3 HB4 HB6
            have hjn := fun w => inter_any S S4 w
            go_wp2_with fail
            refine (hjn _).mono ?_
            rintro e w5 ⟨rfl, hE5⟩
            have hx5 : Ext w4 w5 := bel_call (show Ext w4 _ from by (repeat' (first | (with_reducible exact Below.refl _ _) | (with_reducible assumption) | (with_reducible refine below_drewN ?_ _) | (with_reducible refine Below.alloc ?_ ?_ _) | (with_reducible refine Below.drew ?_) | (with_reducible refine Below.setCell ?_ ?_ _) | (with_reducible refine Below.trans ?_ (Below.mono (by with_reducible assumption) ?_)) | go_size))) hE5
            have hb4 := HB7.out.ext hx5
            have HB9 := Lib.hid hb4
            have HB10 := Lib.hid (HB8.out.ext hx5)
            have HG5 := Lib.hid (grown_ext HG4.out hx5)
            have HR5 := Lib.hid (HR4.out.ext hx5)
            have hlt5 := hb4.lt
            clear l0 l1 l2 l3
            obtain ⟨z0, z1, z2, z3⟩ := hb4.cells4
            have f0 := hb4.free 0
            have f1 := hb4.free 1
            have f2 := hb4.free 2
            have f3 := hb4.free 3
            clear hb4 hx5 hE5 HB7 HB8 HG4 HR4 hjn
            go_wp2_with fail
            go_roundg g
            case rel =>
              refine ⟨(S &&& S4), m, by omega, by omega, HX4, Lib.hid (grown_own4 HG5.out _ (by omega) _ _ _ _), Lib.hid (HR5.out.own (by omega) _ _ _ _), Lib.hid (HB9.out.store4 _ _ _ _), Lib.hid (HB10.out.other4 (by omega) _ _ _ _)⟩
            case measure => exact Nat.lt_succ_self g
        | false =>
          have hps3 := pass_no r s ⟨#[38, 38]⟩ k w2 (hR.out.ext hx) hq3
          rw [tls, if_neg (by rw [hq1]; simp), if_neg (by rw [hq2]; simp), if_neg (by rw [hq3]; simp)] at hx1'
          have HX := Lib.hid hx1'
          clear hx1' hq1 hq2 hq3 hO
          go_wp2_with fail
          refine hps3.mono ?_
          rintro e w3 ⟨rfl, hk3⟩
          replace hx : Ext wr w3 := by obtain ⟨kk, rfl⟩ := hk3; exact bel_call hx (drew_ext _ _)
          clear hk3 hps3
          have hre := refuse_any r s k es ed w3 (hR.out.ext hx) (HK.out.moved (grown_ext hG.out hx)).errs
          go_wp2_with fail
          refine hre.mono ?_
          rintro e w4 ⟨v, rfl, hP, hE4⟩
          replace hx := bel_call hx hE4
          have hb6 := hB6.out.ext hx
          have HB7 := Lib.hid hb6
          have HG4 := Lib.hid (grown_ext hG.out hx)
          have HP := Lib.hid hP
          have hlt := hb6.lt
          obtain ⟨z0, z1, z2, z3⟩ := hb6.cells4
          have f0 := hb6.free 0
          have f1 := hb6.free 1
          have f2 := hb6.free 2
          have f3 := hb6.free 3
          obtain ⟨y0, y1, y2, y3⟩ := (hb6.store4 (.int .u64 0) (.int .u64 0) (.int .u64 0) (.int .u64 0)).cells4
          clear hb6 hP hre hE4 hx hG hR hB4 hB6
          go_wp2_with fail
          refine bodyPost_ret (v := .tuple #[sv0, v]) ?_ rfl ?_
          · simp [results, Tryz.results78, go_sem, y0, y1, y2, y3]
          · rw [← HX.out]
            exact ⟨0#256, _, by rw [sv_zero], rfl, HP.out.own HB7.out _ _ _ _, grown_own4 HG4.out _ (by omega) _ _ _ _⟩
end Go.Proofs.YtnecafokkhhhhaaGreatDoor
