/- bolterref3's reader: class, whole. -/
import Derived.Test.YtnecafokkhhhhaaGreatDoorMK
import Derived.Test.YtnecafokkhhhhaaGreatDoorBnd
import Derived.Deep.LoopGhost
import Derived.Outline
namespace Go.Proofs.YtnecafokkhhhhaaGreatDoor
open Go Go.RowKit
theorem cls_step (s : ByteArray) (i n o : Nat) (hq : Lib.hasPrefix (rest s i) [91] = true) (h40 : o ≠ 40) (nb : Bool) (hnb : Lib.hasPrefix (rest s (i + 1)) [94] = nb) (p : Nat) (hp : p = if nb = true then i + 2 else i + 1) :
    cls unq (n + 1) o (rest s i) i = match ims unq ((rest s i).length + 1) (rest s p) 0#256 0 with
      | .inl d => .inl (false, p + d)
      | .inr (S, m) => tls unq n (o + 1) (if nb = true then ~~~S else S) (rest s (p + m)) (p + m) := by
  rw [cls, if_neg (by rw [hq]; simp), if_neg h40, ← rest_drop s i 1, hnb]
  cases nb with
  | true =>
    simp only [if_true] at hp
    subst hp
    rw [if_pos rfl, ← rest_drop s i 2]
    cases ims unq ((rest s i).length + 1) (rest s (i + 2)) 0#256 0 with
    | inl d => rfl
    | inr x =>
      obtain ⟨S, m⟩ := x
      simp only [if_true]
      rw [← rest_drop s i (2 + m), Nat.add_assoc]
  | false =>
    rw [if_neg (by simp)] at hp ⊢
    subst hp
    cases ims unq ((rest s i).length + 1) (rest s (i + 1)) 0#256 0 with
    | inl d => rfl
    | inr x =>
      obtain ⟨S, m⟩ := x
      simp only []
      rw [← rest_drop s i (1 + m), Nat.add_assoc]
      rfl
def imsN (g : Nat) (l : List UInt8) (S : BitVec 256) (c : Nat) : Sum Nat (BitVec 256 × Nat) → Sum Nat (BitVec 256 × Nat)
  | .inl d => .inl (c + d)
  | .inr (T, m) => ims unq g (l.drop m) (S ||| T) (c + m)
theorem ims_next {g : Nat} {l : List UInt8} {S : BitVec 256} {c : Nat} (h : stp l = false) : ims unq (g + 1) l S c = imsN g l S c (itm unq l) := by
  rw [ims, if_neg (by rw [h]; simp)]
  unfold imsN
  cases itm unq l with
  | inl d => rfl
  | inr x => rfl
def tlsN (g o : Nat) (f : BitVec 256 → BitVec 256) (s : ByteArray) : Sum (Bool × Nat) (BitVec 256 × Nat) → Sum (Bool × Nat) (BitVec 256 × Nat)
  | .inl x => .inl x
  | .inr (T, m) => tls unq g o (f T) (rest s m) m
theorem tls_minus {s : ByteArray} {k g o : Nat} {S : BitVec 256} (h1 : Lib.hasPrefix (rest s k) [93] = false) (h2 : Lib.hasPrefix (rest s k) [45, 45] = true) :
    tls unq (g + 1) o S (rest s k) k = tlsN g o (fun T => S &&& ~~~T) s (cls unq g o (rest s (k + 2)) (k + 2)) := by
  rw [tls, if_neg (by rw [h1]; simp), if_pos h2, ← rest_drop]
  have hl := (cls_len g).1 o (rest s (k + 2)) (k + 2)
  cases hz : cls unq g o (rest s (k + 2)) (k + 2) with
  | inl x => rfl
  | inr x =>
    obtain ⟨T, m⟩ := x
    have := (hl.2 T m hz).1
    unfold tlsN
    simp only []
    rw [← rest_drop, show k + (m - k) = m by omega]
theorem tls_inter {s : ByteArray} {k g o : Nat} {S : BitVec 256} (h1 : Lib.hasPrefix (rest s k) [93] = false) (h2 : Lib.hasPrefix (rest s k) [45, 45] = false) (h3 : Lib.hasPrefix (rest s k) [38, 38] = true) :
    tls unq (g + 1) o S (rest s k) k = tlsN g o (fun T => S &&& T) s (cls unq g o (rest s (k + 2)) (k + 2)) := by
  rw [tls, if_neg (by rw [h1]; simp), if_neg (by rw [h2]; simp), if_pos h3, ← rest_drop]
  have hl := (cls_len g).1 o (rest s (k + 2)) (k + 2)
  cases hz : cls unq g o (rest s (k + 2)) (k + 2) with
  | inl x => rfl
  | inr x =>
    obtain ⟨T, m⟩ := x
    have := (hl.2 T m hz).1
    unfold tlsN
    simp only []
    rw [← rest_drop, show k + (m - k) = m by omega]
set_option maxHeartbeats 8000000 in
set_option maxRecDepth 20000 in
theorem rclass_of (n : Nat) (hIH : ∀ g, g ≤ n → RkOk g) : RkOk (n + 1) := by
  intro r s i w o x h hi ho hn hx
  have hrl := rest_len hi
  cases hq : Lib.hasPrefix (rest s i) [91] with
  | false =>
    have e : x = .inl (false, i) := by rw [← hx, cls, if_pos hq]
    rw [e]; exact rclass_no r s i w o h hi ho hq
  | true =>
    by_cases h40 : o = 40
    · subst h40
      have e : x = .inl (true, i) := by rw [← hx, cls, if_neg (by rw [hq]; simp), if_pos rfl]
      rw [e]; exact rclass_deep r s i w h hi hq
    · have hl1 := pre_len hq
      have hsz := h.sz
      have hrw := h.blk.lt
      obtain ⟨nb, hnb⟩ : ∃ nb, Lib.hasPrefix (rest s (i + 1)) [94] = nb := ⟨_, rfl⟩
      obtain ⟨p, hp⟩ : ∃ p, p = if nb = true then i + 2 else i + 1 := ⟨_, rfl⟩
      have hps : p ≤ s.size := by
        cases nb with
        | true =>
          have h1 := pre_len hnb
          have h2 := rest_len (show i + 1 ≤ s.size by omega)
          rw [hp, if_pos rfl]; omega
        | false => rw [hp, if_neg (by simp)]; omega
      have hip : i < p := by cases nb <;> simp at hp <;> omega
      obtain ⟨y, hy⟩ : ∃ y, ims unq ((rest s i).length + 1) (rest s p) 0#256 0 = y := ⟨_, rfl⟩
      have hx1 := cls_step s i n o hq h40 nb hnb p hp
      rw [hx, hy] at hx1
      have HX := Lib.hid hx1
      have HY := Lib.hid hy
      have HP := Lib.hid hp
      have HIH := Lib.hid hIH
      have hx0 : Ext w ((w.alloc (.cells zer 36)).alloc (.cells zer 36)) := by (repeat' (first | (with_reducible exact Below.refl _ _) | (with_reducible assumption) | (with_reducible refine below_drewN ?_ _) | (with_reducible refine Below.alloc ?_ ?_ _) | (with_reducible refine Below.drew ?_) | (with_reducible refine Below.setCell ?_ ?_ _) | (with_reducible refine Below.trans ?_ (Below.mono (by with_reducible assumption) ?_)) | go_size))
      have HH := Lib.hid (h.ext hx0)
      have HB := Lib.hid ((Blk.new w zer 36).alloc (.cells zer 36))
      have HS := Lib.hid (show Blk ((w.alloc (.cells zer 36)).alloc (.cells zer 36)) (w.heap.size + 1) (svs 0#256) 36 from by
        have := Blk.new (w.alloc (.cells zer 36)) zer 36
        simp only [World.size_alloc] at this
        rw [← zer_svs]; exact this)
      have HE := Lib.hid hx0
      have HQ := Lib.hid (fun w => rhasp_at s ⟨#[91]⟩ i (i : Int) rfl hi hsz (by decide) true hq w)
      have HQ2 := Lib.hid (fun w => rhasp_at s ⟨#[94]⟩ (i + 1) ((i : Int) + 1) (by omega) (by omega) hsz (by decide) nb hnb w)
      have n40 : ((o : Int) == 40) = false := by simp; omega
      clear h hq hx0 hx hx1 hy hp hIH hnb
      go_enter Tryz.func41, Tryz.ntmps41
      go_wp2_with fail
      generalize (w.alloc (.cells zer 36)).alloc (.cells zer 36) = w1 at HH HB HS HE ⊢
      refine G.wp_region_stab (G := Ext) (fun _ => none) (by kernel_rfl) (by kernel_rfl) (fun _ _ h => by cases h) (fun hex => ?_)
      iterate 10
        (refine G.wpS_one (A := ?_) hex rfl rfl (by simp) ?_ ?_ ?_
         rotate_left 2
         · intro w' hC K hK
           have hRC := HH.out.ext hC.1; have d0 := (HH.out.blk.ext hC.1).cell 0; have d1 := (HH.out.blk.ext hC.1).cell 1
           go_wp2_with (refine (HQ.out _).mono ?_; rintro e wq ⟨rfl, hEq⟩)
           refine hK _ ?_
           first | exact Below.refl _ _ | assumption | ((repeat' (first | (with_reducible exact Below.refl _ _) | (with_reducible assumption) | (with_reducible refine below_drewN ?_ _) | (with_reducible refine Below.alloc ?_ ?_ _) | (with_reducible refine Below.drew ?_) | (with_reducible refine Below.setCell ?_ ?_ _) | (with_reducible refine Below.trans ?_ (Below.mono (by with_reducible assumption) ?_)) | go_size)))
         rotate_left 1
         · rfl
         clear hex; intro hex)
      refine G.wpS_nil fun w2 hAll => ?_
      have hE := hAll.1
      have h2 := HH.out.ext hE
      have B2 := Lib.hid ((HB.out.ext hE).set_other (a := ⟨r, 2, none⟩) (by simp; omega) (.int .i64 ((o : Int) + 1)) |>.set_other (a := ⟨r, 1, none⟩) (by simp; omega) (.int .i64 ((i : Int) + 1)))
      have S2 := Lib.hid ((HS.out.ext hE).set_other (a := ⟨r, 2, none⟩) (by simp; omega) (.int .i64 ((o : Int) + 1)) |>.set_other (a := ⟨r, 1, none⟩) (by simp; omega) (.int .i64 ((i : Int) + 1)))
      have E2 := Lib.hid (grown_trans (grown_of_ext (row := some r) (bel_call HE.out hE)) (grown_trans (grown_set w2 r 2 (.int .i64 ((o : Int) + 1))) (grown_set _ r 1 (.int .i64 ((i : Int) + 1)))))
      have h3 := (h2.open (o + 1) ((o : Int) + 1) (by omega))
      have H2 := Lib.hid (h3.at (i + 1) ((i : Int) + 1) (by omega))
      have k1 := h2.blk.cell 1
      have k2 := h2.blk.cell 2
      have k31 := h3.blk.cell 1
      have f2 := h2.blk.free 2
      have f1 := h3.blk.free 1
      have hlt := h2.blk.lt
      clear hE hex hAll HH HB HE HQ HS h2 h3
      go_wp2_with fail
      clear k1 k2 k31 f1 f2 hlt n40
      generalize (w2.setCell ⟨r, 2, none⟩ (.int .i64 ((o : Int) + 1))).setCell ⟨r, 1, none⟩ (.int .i64 ((i : Int) + 1)) = w3 at B2 S2 E2 H2 ⊢
      have d0' := H2.out.blk.cell 0
      clear d0'
      refine G.wp_region_stab (G := Ext) (fun _ => none) (by kernel_rfl) (by kernel_rfl) (fun _ _ h => by cases h) (fun hex => ?_)
      iterate 10
        (refine G.wpS_one (A := ?_) hex rfl rfl (by simp) ?_ ?_ ?_
         rotate_left 2
         · intro w' hC K hK
           have hRC := H2.out.ext hC.1; have d0 := (H2.out.blk.ext hC.1).cell 0; have d1 := (H2.out.blk.ext hC.1).cell 1
           go_wp2_with (refine (HQ2.out _).mono ?_; rintro e wq ⟨rfl, hEq⟩)
           refine hK _ ?_
           first | exact Below.refl _ _ | assumption | ((repeat' (first | (with_reducible exact Below.refl _ _) | (with_reducible assumption) | (with_reducible refine below_drewN ?_ _) | (with_reducible refine Below.alloc ?_ ?_ _) | (with_reducible refine Below.drew ?_) | (with_reducible refine Below.setCell ?_ ?_ _) | (with_reducible refine Below.trans ?_ (Below.mono (by with_reducible assumption) ?_)) | go_size)))
         rotate_left 1
         · rfl
         clear hex; intro hex)
      refine G.wpS_nil fun w4 hAll => ?_
      have hE := hAll.1
      have H4 := Lib.hid (H2.out.ext hE)
      have B4 := Lib.hid (B2.out.ext hE)
      have S4 := Lib.hid (S2.out.ext hE)
      have E4 := Lib.hid (grown_ext E2.out hE)
      clear hE hex hAll H2 B2 S2 E2 HQ2
      go_upto_if 73 with fail
      go_cut [5] from 73 to 80 (fun s5 wx => s5 = .bool nb ∧ Hid (w.grownBy wx (some r)) ∧ Hid (RR wx r s p (o + 1) 0 0) ∧ Hid (Blk wx w.heap.size zer 36) ∧ Hid (Blk wx (w.heap.size + 1) (svs 0#256) 36))
      case first =>
        cases nb with
        | false =>
          have hpp : p = i + 1 := by have := HP.out; simpa using this
          rw [← hpp] at H4
          have HPP := Lib.hid hpp
          clear hpp
          go_wp2_with fail
          go_meet
          exact ⟨rfl, E4, H4, B4, S4⟩
        | true =>
          have hpp : p = i + 2 := by have := HP.out; simpa using this
          have k1 := H4.out.blk.cell 1
          have f1 := H4.out.blk.free 1
          have hlt := H4.out.blk.lt
          have H5 := Lib.hid (H4.out.at p ((i : Int) + 1 + 1) (by omega))
          have B5 := Lib.hid (B4.out.set_other (a := ⟨r, 1, none⟩) (by simp; omega) (.int .i64 ((i : Int) + 1 + 1)))
          have S5 := Lib.hid (S4.out.set_other (a := ⟨r, 1, none⟩) (by simp; omega) (.int .i64 ((i : Int) + 1 + 1)))
          have E5 := Lib.hid (grown_trans E4.out (grown_set w4 r 1 (.int .i64 ((i : Int) + 1 + 1))))
          clear hpp
          go_wp2_with fail
          go_meet
          exact ⟨rfl, E5, H5, B5, S5⟩
      case rest =>
        obtain ⟨rfl, HG, HR, HB, HS⟩ := hcut
        clear H4 B4 S4 E4
        go_upto_block 0 with fail
        go_cut [5] from 81 to 122 (fun s5 wx => s5 = .bool nb ∧ Hid (w.grownBy wx (some r)) ∧ Hid (Blk wx w.heap.size zer 36) ∧ ∃ (S : BitVec 256), Hid (Blk wx (w.heap.size + 1) (svs S) 36) ∧ Hid ((∃ m, y = .inr (S, m) ∧ p + m ≤ s.size ∧ RR wx r s (p + m) (o + 1) 0 0) ∨ (∃ d j, y = .inl d ∧ j ≤ s.size ∧ RR wx r s j (o + 1) 3 ((p + d : Nat) : Int))))
        case first =>
          go_wp2_with fail
          go_loopg [] ((rest s i).length + 1) (fun g wr => Hid (w.grownBy wr (some r)) ∧ Hid (Blk wr w.heap.size zer 36) ∧ ∃ (S : BitVec 256), Hid (Blk wr (w.heap.size + 1) (svs S) 36) ∧ ((∃ k c, Hid (p + c = k) ∧ k ≤ s.size ∧ (rest s k).length < g ∧ Hid (ims unq g (rest s k) S c = y) ∧ Hid (RR wr r s k (o + 1) 0 0)) ∨ Hid (∃ d j, y = .inl d ∧ j ≤ s.size ∧ RR wr r s j (o + 1) 3 ((p + d : Nat) : Int))))
          case atStart =>
            have hrp := rest_len hps
            exact ⟨HG, HB, 0#256, HS, .inl ⟨p, 0, Lib.hid rfl, hps, by omega, HY, HR⟩⟩
          case round =>
            clear HG HR HB HS HY
            obtain ⟨hG, hB, S, hS, ⟨k, c, hkc, hk, hlen, hI, hR⟩ | hF⟩ := hrel
            · obtain ⟨g, rfl⟩ : ∃ g, gk = g + 1 := ⟨gk - 1, by omega⟩
              have hrk := rest_len hk
              have HOK := Lib.hid (fun w' (h : RR w' r s k (o + 1) 0 0) => rok_any r s k (o + 1) 0 0 w' h true (by decide))
              cases hq1 : Lib.hasPrefix (rest s k) [93] with
              | true =>
                have HQ1 := Lib.hid (fun w => rhasp_at s ⟨#[93]⟩ k (k : Int) rfl hk hsz (by decide) true hq1 w)
                have hst : stp (rest s k) = true := by unfold stp; rw [hq1]; simp
                have hyy : y = .inr (S, c) := by rw [← hI.out, ims, if_pos hst]
                have HYY := Lib.hid hyy
                have HKC := Lib.hid (show RR wr r s (p + c) (o + 1) 0 0 by rw [hkc.out]; exact hR.out)
                have HKS := Lib.hid (show p + c ≤ s.size by have := hkc.out; omega)
                clear hst hyy
                go_wp2_with fail
                refine G.wp_region_stab (G := Ext) (fun _ => none) (by kernel_rfl) (by kernel_rfl) (fun _ _ h => by cases h) (fun hex => ?_)
                iterate 38
                  (refine G.wpS_one (A := ?_) hex rfl rfl (by simp) ?_ ?_ ?_
                   rotate_left 2
                   · intro w' hC K hK
                     have hRC := hR.out.ext hC.1; have d0 := (hR.out.blk.ext hC.1).cell 0; have d1 := (hR.out.blk.ext hC.1).cell 1
                     go_wp2_with (((first | with_reducible refine (HOK.out _ hRC).mono ?_ | with_reducible refine (HQ1.out _).mono ?_); rintro e wq ⟨rfl, hEq⟩))
                     refine hK _ ?_
                     first | exact Below.refl _ _ | assumption | ((repeat' (first | (with_reducible exact Below.refl _ _) | (with_reducible assumption) | (with_reducible refine below_drewN ?_ _) | (with_reducible refine Below.alloc ?_ ?_ _) | (with_reducible refine Below.drew ?_) | (with_reducible refine Below.setCell ?_ ?_ _) | (with_reducible refine Below.trans ?_ (Below.mono (by with_reducible assumption) ?_)) | go_size)))
                   rotate_left 1
                   · rfl
                   clear hex; intro hex)
                refine G.wpS_nil fun w5 hAll => ?_
                have hE := hAll.1
                have FIN := Lib.hid (show w.grownBy w5 (some r) ∧ Blk w5 w.heap.size zer 36 ∧ Blk w5 (w.heap.size + 1) (svs S) 36 ∧ RR w5 r s (p + c) (o + 1) 0 0 from ⟨grown_ext hG.out hE, hB.out.ext hE, hS.out.ext hE, HKC.out.ext hE⟩)
                clear hE hex hAll hR hB hS hG
                go_wp2_with fail
                go_meet
                exact ⟨rfl, Lib.hid FIN.out.1, Lib.hid FIN.out.2.1, S, Lib.hid FIN.out.2.2.1, Lib.hid (.inl ⟨c, HYY.out, HKS.out, FIN.out.2.2.2⟩)⟩
              | false =>
                have HQ1 := Lib.hid (fun w => rhasp_at s ⟨#[93]⟩ k (k : Int) rfl hk hsz (by decide) false hq1 w)
                cases hq2 : Lib.hasPrefix (rest s k) [45, 45] with
                | true =>
                  have HQ2 := Lib.hid (fun w => rhasp_at s ⟨#[45, 45]⟩ k (k : Int) rfl hk hsz (by decide) true hq2 w)
                  have hst : stp (rest s k) = true := by unfold stp; rw [hq2]; simp
                  have hyy : y = .inr (S, c) := by rw [← hI.out, ims, if_pos hst]
                  have HYY := Lib.hid hyy
                  have HKC := Lib.hid (show RR wr r s (p + c) (o + 1) 0 0 by rw [hkc.out]; exact hR.out)
                  have HKS := Lib.hid (show p + c ≤ s.size by have := hkc.out; omega)
                  clear hst hyy
                  go_wp2_with fail
                  refine G.wp_region_stab (G := Ext) (fun _ => none) (by kernel_rfl) (by kernel_rfl) (fun _ _ h => by cases h) (fun hex => ?_)
                  iterate 38
                    (refine G.wpS_one (A := ?_) hex rfl rfl (by simp) ?_ ?_ ?_
                     rotate_left 2
                     · intro w' hC K hK
                       have hRC := hR.out.ext hC.1; have d0 := (hR.out.blk.ext hC.1).cell 0; have d1 := (hR.out.blk.ext hC.1).cell 1
                       go_wp2_with (((first | with_reducible refine (HOK.out _ hRC).mono ?_ | with_reducible refine (HQ1.out _).mono ?_ | with_reducible refine (HQ2.out _).mono ?_); rintro e wq ⟨rfl, hEq⟩))
                       refine hK _ ?_
                       first | exact Below.refl _ _ | assumption | ((repeat' (first | (with_reducible exact Below.refl _ _) | (with_reducible assumption) | (with_reducible refine below_drewN ?_ _) | (with_reducible refine Below.alloc ?_ ?_ _) | (with_reducible refine Below.drew ?_) | (with_reducible refine Below.setCell ?_ ?_ _) | (with_reducible refine Below.trans ?_ (Below.mono (by with_reducible assumption) ?_)) | go_size)))
                     rotate_left 1
                     · rfl
                     clear hex; intro hex)
                  refine G.wpS_nil fun w5 hAll => ?_
                  have hE := hAll.1
                  have FIN := Lib.hid (show w.grownBy w5 (some r) ∧ Blk w5 w.heap.size zer 36 ∧ Blk w5 (w.heap.size + 1) (svs S) 36 ∧ RR w5 r s (p + c) (o + 1) 0 0 from ⟨grown_ext hG.out hE, hB.out.ext hE, hS.out.ext hE, HKC.out.ext hE⟩)
                  clear hE hex hAll hR hB hS hG
                  go_wp2_with fail
                  go_meet
                  exact ⟨rfl, Lib.hid FIN.out.1, Lib.hid FIN.out.2.1, S, Lib.hid FIN.out.2.2.1, Lib.hid (.inl ⟨c, HYY.out, HKS.out, FIN.out.2.2.2⟩)⟩
                | false =>
                  have HQ2 := Lib.hid (fun w => rhasp_at s ⟨#[45, 45]⟩ k (k : Int) rfl hk hsz (by decide) false hq2 w)
                  cases hq3 : Lib.hasPrefix (rest s k) [38, 38] with
                  | true =>
                    have HQ3 := Lib.hid (fun w => rhasp_at s ⟨#[38, 38]⟩ k (k : Int) rfl hk hsz (by decide) true hq3 w)
                    have hst : stp (rest s k) = true := by unfold stp; rw [hq3]; simp
                    have hyy : y = .inr (S, c) := by rw [← hI.out, ims, if_pos hst]
                    have HYY := Lib.hid hyy
                    have HKC := Lib.hid (show RR wr r s (p + c) (o + 1) 0 0 by rw [hkc.out]; exact hR.out)
                    have HKS := Lib.hid (show p + c ≤ s.size by have := hkc.out; omega)
                    clear hst hyy
                    go_wp2_with fail
                    refine G.wp_region_stab (G := Ext) (fun _ => none) (by kernel_rfl) (by kernel_rfl) (fun _ _ h => by cases h) (fun hex => ?_)
                    iterate 38
                      (refine G.wpS_one (A := ?_) hex rfl rfl (by simp) ?_ ?_ ?_
                       rotate_left 2
                       · intro w' hC K hK
                         have hRC := hR.out.ext hC.1; have d0 := (hR.out.blk.ext hC.1).cell 0; have d1 := (hR.out.blk.ext hC.1).cell 1
                         go_wp2_with (((first | with_reducible refine (HOK.out _ hRC).mono ?_ | with_reducible refine (HQ1.out _).mono ?_ | with_reducible refine (HQ2.out _).mono ?_ | with_reducible refine (HQ3.out _).mono ?_); rintro e wq ⟨rfl, hEq⟩))
                         refine hK _ ?_
                         first | exact Below.refl _ _ | assumption | ((repeat' (first | (with_reducible exact Below.refl _ _) | (with_reducible assumption) | (with_reducible refine below_drewN ?_ _) | (with_reducible refine Below.alloc ?_ ?_ _) | (with_reducible refine Below.drew ?_) | (with_reducible refine Below.setCell ?_ ?_ _) | (with_reducible refine Below.trans ?_ (Below.mono (by with_reducible assumption) ?_)) | go_size)))
                       rotate_left 1
                       · rfl
                       clear hex; intro hex)
                    refine G.wpS_nil fun w5 hAll => ?_
                    have hE := hAll.1
                    have FIN := Lib.hid (show w.grownBy w5 (some r) ∧ Blk w5 w.heap.size zer 36 ∧ Blk w5 (w.heap.size + 1) (svs S) 36 ∧ RR w5 r s (p + c) (o + 1) 0 0 from ⟨grown_ext hG.out hE, hB.out.ext hE, hS.out.ext hE, HKC.out.ext hE⟩)
                    clear hE hex hAll hR hB hS hG
                    go_wp2_with fail
                    go_meet
                    exact ⟨rfl, Lib.hid FIN.out.1, Lib.hid FIN.out.2.1, S, Lib.hid FIN.out.2.2.1, Lib.hid (.inl ⟨c, HYY.out, HKS.out, FIN.out.2.2.2⟩)⟩
                  | false =>
                    have HQ3 := Lib.hid (fun w => rhasp_at s ⟨#[38, 38]⟩ k (k : Int) rfl hk hsz (by decide) false hq3 w)
                    have hst : stp (rest s k) = false := by unfold stp; rw [hq1, hq2, hq3]; rfl
                    clear hq1 hq2 hq3
                    go_wp2_with fail
                    refine G.wp_region_stab (G := Ext) (fun _ => none) (by kernel_rfl) (by kernel_rfl) (fun _ _ h => by cases h) (fun hex => ?_)
                    iterate 38
                      (refine G.wpS_one (A := ?_) hex rfl rfl (by simp) ?_ ?_ ?_
                       rotate_left 2
                       · intro w' hC K hK
                         have hRC := hR.out.ext hC.1; have d0 := (hR.out.blk.ext hC.1).cell 0; have d1 := (hR.out.blk.ext hC.1).cell 1
                         go_wp2_with (((first | with_reducible refine (HOK.out _ hRC).mono ?_ | with_reducible refine (HQ1.out _).mono ?_ | with_reducible refine (HQ2.out _).mono ?_ | with_reducible refine (HQ3.out _).mono ?_); rintro e wq ⟨rfl, hEq⟩))
                         refine hK _ ?_
                         first | exact Below.refl _ _ | assumption | ((repeat' (first | (with_reducible exact Below.refl _ _) | (with_reducible assumption) | (with_reducible refine below_drewN ?_ _) | (with_reducible refine Below.alloc ?_ ?_ _) | (with_reducible refine Below.drew ?_) | (with_reducible refine Below.setCell ?_ ?_ _) | (with_reducible refine Below.trans ?_ (Below.mono (by with_reducible assumption) ?_)) | go_size)))
                       rotate_left 1
                       · rfl
                       clear hex; intro hex)
                    refine G.wpS_nil fun w5 hAll => ?_
                    have hE := hAll.1
                    have R5 := Lib.hid (hR.out.ext hE)
                    have B5 := Lib.hid (hB.out.ext hE)
                    have S5 := Lib.hid (hS.out.ext hE)
                    have G5 := Lib.hid (grown_ext hG.out hE)
                    clear hE hex hAll hR hB hS hG HQ1 HQ2 HQ3
                    obtain ⟨z, hz⟩ : ∃ z, itm unq (rest s k) = z := ⟨_, rfl⟩
                    have HIT := Lib.hid (fun w h => ritem_any r s k (o + 1) w h hk z hz)
                    have hmv : ∀ T m, z = .inr (T, m) → 0 < m := fun T m e => by rw [e] at hz; exact (itm_pos unq_len unq_byte hz).1
                    have HI := Lib.hid (show imsN g (rest s k) S c z = y by rw [← hI.out, ims_next hst, hz])
                    have HUN := Lib.hid (fun T w => runion_any S T w)
                    have hzk := (itm_len (rest s k))
                    rw [hz] at hzk
                    have HZK := Lib.hid hzk
                    have HMV := Lib.hid hmv
                    clear hz hmv hI hst hzk
                    go_wp2_with fail
                    cases z with
                    | inl d =>
                      have HYY := Lib.hid (show y = .inl (c + d) from HI.out.symm)
                      clear HZK HMV HI
                      obtain ⟨p0, p1, p2, p3⟩ := S5.out.cells4
                      go_region_with (first
                        | (go_at_call 67; refine (HIT.out _ (R5.out.ext (by (repeat' (first | (with_reducible exact Below.refl _ _) | (with_reducible assumption) | (with_reducible refine below_drewN ?_ _) | (with_reducible refine Below.alloc ?_ ?_ _) | (with_reducible refine Below.drew ?_) | (with_reducible refine Below.setCell ?_ ?_ _) | (with_reducible refine Below.trans ?_ (Below.mono (by with_reducible assumption) ?_)) | go_size))))).mono ?_; rintro e w7 ⟨T, j, hj, rfl, hG7, hR7⟩; have S7 := Lib.hid ((S5.out.ext (by (repeat' (first | (with_reducible exact Below.refl _ _) | (with_reducible assumption) | (with_reducible refine below_drewN ?_ _) | (with_reducible refine Below.alloc ?_ ?_ _) | (with_reducible refine Below.drew ?_) | (with_reducible refine Below.setCell ?_ ?_ _) | (with_reducible refine Below.trans ?_ (Below.mono (by with_reducible assumption) ?_)) | go_size)))).grown hG7 (by simp; omega)); have B7 := Lib.hid ((B5.out.ext (by (repeat' (first | (with_reducible exact Below.refl _ _) | (with_reducible assumption) | (with_reducible refine below_drewN ?_ _) | (with_reducible refine Below.alloc ?_ ?_ _) | (with_reducible refine Below.drew ?_) | (with_reducible refine Below.setCell ?_ ?_ _) | (with_reducible refine Below.trans ?_ (Below.mono (by with_reducible assumption) ?_)) | go_size)))).grown hG7 (by simp; omega)); have G7 := Lib.hid (grown_trans (grown_ext G5.out (by (repeat' (first | (with_reducible exact Below.refl _ _) | (with_reducible assumption) | (with_reducible refine below_drewN ?_ _) | (with_reducible refine Below.alloc ?_ ?_ _) | (with_reducible refine Below.drew ?_) | (with_reducible refine Below.setCell ?_ ?_ _) | (with_reducible refine Below.trans ?_ (Below.mono (by with_reducible assumption) ?_)) | go_size)))) hG7); have R7 := Lib.hid hR7; clear hR7 hG7; obtain ⟨q0, q1, q2, q3⟩ := S7.out.cells4)
                        | (go_at_call 66; refine (HUN.out _ _).mono ?_; rintro e w8 ⟨rfl, hE8⟩; have S8 := S7.out.ext hE8; obtain ⟨z0, z1, z2, z3⟩ := S8.cells4; have f0 := S8.free 0; have f1 := S8.free 1; have f2 := S8.free 2; have f3 := S8.free 3; have hlt8 := S8.lt; have HE8 := Lib.hid hE8; have HS8 := Lib.hid S8; clear hE8 S8))
                      all_goals (
                        go_wp2_with fail
                        go_roundg g
                        case rel =>
                          refine ⟨Lib.hid (grown_own4 (grown_ext G7.out HE8.out) _ (by omega) _ _ _ _), Lib.hid ((B7.out.ext HE8.out).other4 (by omega) _ _ _ _), S ||| T, Lib.hid (HS8.out.store4 _ _ _ _), .inr (Lib.hid ⟨c + d, j, HYY.out, hj, ?_⟩)⟩
                          have h1 := (R7.out.ext HE8.out).own (b := w.heap.size + 1) (by omega) (.int .u64 (wd (S ||| T) 0)) (.int .u64 (wd (S ||| T) 1)) (.int .u64 (wd (S ||| T) 2)) (.int .u64 (wd (S ||| T) 3))
                          rw [show p + (c + d) = k + d by have := hkc.out; omega]
                          exact h1
                        case measure => exact Nat.lt_succ_self g)
                    | inr x =>
                      obtain ⟨T, m⟩ := x
                      have hm := HMV.out T m rfl
                      have hml := (HZK.out.2 T m rfl).2
                      have hrm := rest_len (s := s) (i := k + m) (by omega)
                      have HI2 := Lib.hid (show ims unq g (rest s (k + m)) (S ||| T) (c + m) = y by rw [rest_drop]; exact HI.out)
                      clear HZK HMV HI
                      obtain ⟨p0, p1, p2, p3⟩ := S5.out.cells4
                      go_region_with (first
                        | (go_at_call 67; refine (HIT.out _ (R5.out.ext (by (repeat' (first | (with_reducible exact Below.refl _ _) | (with_reducible assumption) | (with_reducible refine below_drewN ?_ _) | (with_reducible refine Below.alloc ?_ ?_ _) | (with_reducible refine Below.drew ?_) | (with_reducible refine Below.setCell ?_ ?_ _) | (with_reducible refine Below.trans ?_ (Below.mono (by with_reducible assumption) ?_)) | go_size))))).mono ?_; rintro e w7 ⟨rfl, hG7, hR7⟩; have S7 := Lib.hid ((S5.out.ext (by (repeat' (first | (with_reducible exact Below.refl _ _) | (with_reducible assumption) | (with_reducible refine below_drewN ?_ _) | (with_reducible refine Below.alloc ?_ ?_ _) | (with_reducible refine Below.drew ?_) | (with_reducible refine Below.setCell ?_ ?_ _) | (with_reducible refine Below.trans ?_ (Below.mono (by with_reducible assumption) ?_)) | go_size)))).grown hG7 (by simp; omega)); have B7 := Lib.hid ((B5.out.ext (by (repeat' (first | (with_reducible exact Below.refl _ _) | (with_reducible assumption) | (with_reducible refine below_drewN ?_ _) | (with_reducible refine Below.alloc ?_ ?_ _) | (with_reducible refine Below.drew ?_) | (with_reducible refine Below.setCell ?_ ?_ _) | (with_reducible refine Below.trans ?_ (Below.mono (by with_reducible assumption) ?_)) | go_size)))).grown hG7 (by simp; omega)); have G7 := Lib.hid (grown_trans (grown_ext G5.out (by (repeat' (first | (with_reducible exact Below.refl _ _) | (with_reducible assumption) | (with_reducible refine below_drewN ?_ _) | (with_reducible refine Below.alloc ?_ ?_ _) | (with_reducible refine Below.drew ?_) | (with_reducible refine Below.setCell ?_ ?_ _) | (with_reducible refine Below.trans ?_ (Below.mono (by with_reducible assumption) ?_)) | go_size)))) hG7); have R7 := Lib.hid hR7; clear hR7 hG7; obtain ⟨q0, q1, q2, q3⟩ := S7.out.cells4)
                        | (go_at_call 66; refine (HUN.out _ _).mono ?_; rintro e w8 ⟨rfl, hE8⟩; have S8 := S7.out.ext hE8; obtain ⟨z0, z1, z2, z3⟩ := S8.cells4; have f0 := S8.free 0; have f1 := S8.free 1; have f2 := S8.free 2; have f3 := S8.free 3; have hlt8 := S8.lt; have HE8 := Lib.hid hE8; have HS8 := Lib.hid S8; clear hE8 S8))
                      all_goals (
                        go_wp2_with fail
                        go_roundg g
                        case rel =>
                          refine ⟨Lib.hid (grown_own4 (grown_ext G7.out HE8.out) _ (by omega) _ _ _ _), Lib.hid ((B7.out.ext HE8.out).other4 (by omega) _ _ _ _), S ||| T, Lib.hid (HS8.out.store4 _ _ _ _), .inl ⟨k + m, c + m, Lib.hid (by have := hkc.out; omega), by omega, by omega, HI2, Lib.hid ?_⟩⟩
                          exact (R7.out.ext HE8.out).own (b := w.heap.size + 1) (by omega) (.int .u64 (wd (S ||| T) 0)) (.int .u64 (wd (S ||| T) 1)) (.int .u64 (wd (S ||| T) 2)) (.int .u64 (wd (S ||| T) 3))
                        case measure => exact Nat.lt_succ_self g)
            · obtain ⟨d, j, hyy, hj, hR0⟩ := hF.out
              have hR := Lib.hid hR0
              have HYY := Lib.hid hyy
              have HOK := Lib.hid (fun w' (h : RR w' r s j (o + 1) 3 ((p + d : Nat) : Int)) => rok_any r s j (o + 1) 3 ((p + d : Nat) : Int) w' h false (by decide))
              clear hyy hR0 hF
              go_wp2_with fail
              refine G.wp_region_stab (G := Ext) (fun _ => none) (by kernel_rfl) (by kernel_rfl) (fun _ _ h => by cases h) (fun hex => ?_)
              iterate 38
                (refine G.wpS_one (A := ?_) hex rfl rfl (by simp) ?_ ?_ ?_
                 rotate_left 2
                 · intro w' hC K hK
                   have hRC := hR.out.ext hC.1; have d0 := (hR.out.blk.ext hC.1).cell 0; have d1 := (hR.out.blk.ext hC.1).cell 1
                   go_wp2_with ((with_reducible refine (HOK.out _ hRC).mono ?_; rintro e wq ⟨rfl, hEq⟩))
                   refine hK _ ?_
                   first | exact Below.refl _ _ | assumption | ((repeat' (first | (with_reducible exact Below.refl _ _) | (with_reducible assumption) | (with_reducible refine below_drewN ?_ _) | (with_reducible refine Below.alloc ?_ ?_ _) | (with_reducible refine Below.drew ?_) | (with_reducible refine Below.setCell ?_ ?_ _) | (with_reducible refine Below.trans ?_ (Below.mono (by with_reducible assumption) ?_)) | go_size)))
                 rotate_left 1
                 · rfl
                 clear hex; intro hex)
              refine G.wpS_nil fun w5 hAll => ?_
              have hE := hAll.1
              have FIN := Lib.hid (show w.grownBy w5 (some r) ∧ Blk w5 w.heap.size zer 36 ∧ Blk w5 (w.heap.size + 1) (svs S) 36 ∧ RR w5 r s j (o + 1) 3 ((p + d : Nat) : Int) from ⟨grown_ext hG.out hE, hB.out.ext hE, hS.out.ext hE, hR.out.ext hE⟩)
              clear hE hex hAll hR hB hS hG
              go_wp2_with fail
              go_meet
              exact ⟨rfl, Lib.hid FIN.out.1, Lib.hid FIN.out.2.1, S, Lib.hid FIN.out.2.2.1, Lib.hid (.inr ⟨d, j, HYY.out, hj, FIN.out.2.2.2⟩)⟩
        case rest =>
          obtain ⟨rfl, HG, HB, S1, HS, HF⟩ := hcut
          clear HY HP
          go_upto_if 123 with fail
          go_cut [5] from 123 to 125 (fun s5 wx => s5 = .bool nb ∧ Hid (w.grownBy wx (some r)) ∧ Hid (Blk wx w.heap.size zer 36) ∧ ∃ (S : BitVec 256), Hid (Blk wx (w.heap.size + 1) (svs S) 36) ∧ ((∃ k, k ≤ s.size ∧ (rest s k).length < n ∧ Hid (tls unq n (o + 1) S (rest s k) k = x) ∧ Hid (RR wx r s k (o + 1) 0 0)) ∨ Hid (∃ b q j, x = .inl (b, q) ∧ j + (o + 1) ≤ s.size + 41 ∧ RR wx r s j (o + 1) (if b = true then 4 else 3) (q : Int))))
          case first =>
            cases nb with
            | false =>
              have hst : (∃ k, k ≤ s.size ∧ (rest s k).length < n ∧ Hid (tls unq n (o + 1) S1 (rest s k) k = x) ∧ Hid (RR wc r s k (o + 1) 0 0)) ∨ Hid (∃ b q j, x = .inl (b, q) ∧ j + (o + 1) ≤ s.size + 41 ∧ RR wc r s j (o + 1) (if b = true then 4 else 3) (q : Int)) := by
                rcases HF.out with ⟨m, hym, hpm, hR⟩ | ⟨d, j, hyd, hj, hR⟩
                · have h1 := HX.out
                  rw [hym] at h1
                  have hrm := rest_len hpm
                  exact .inl ⟨p + m, hpm, by omega, Lib.hid h1.symm, Lib.hid hR⟩
                · have h1 := HX.out
                  rw [hyd] at h1
                  exact .inr (Lib.hid ⟨false, p + d, j, h1, by omega, hR⟩)
              have HST := Lib.hid hst
              clear hst HF
              go_wp2_with fail
              go_meet
              exact ⟨rfl, HG, HB, S1, HS, HST.out⟩
            | true =>
              have HC := Lib.hid (fun w => rcompl_any S1 w)
              obtain ⟨q0, q1, q2, q3⟩ := HS.out.cells4
              go_wp2_with fail
              refine (HC.out _).mono ?_
              rintro e w5 ⟨rfl, hE5⟩
              have S5 := HS.out.ext hE5
              obtain ⟨z0, z1, z2, z3⟩ := S5.cells4
              have f0 := S5.free 0
              have f1 := S5.free 1
              have f2 := S5.free 2
              have f3 := S5.free 3
              have hlt := S5.lt
              have hst : (∃ k, k ≤ s.size ∧ (rest s k).length < n ∧ Hid (tls unq n (o + 1) (~~~S1) (rest s k) k = x) ∧ Hid (RR ((((w5.setCell ⟨w.heap.size + 1, 0, none⟩ (.int .u64 (wd (~~~S1) 0))).setCell ⟨w.heap.size + 1, 1, none⟩ (.int .u64 (wd (~~~S1) 1))).setCell ⟨w.heap.size + 1, 2, none⟩ (.int .u64 (wd (~~~S1) 2))).setCell ⟨w.heap.size + 1, 3, none⟩ (.int .u64 (wd (~~~S1) 3))) r s k (o + 1) 0 0)) ∨ Hid (∃ b q j, x = .inl (b, q) ∧ j + (o + 1) ≤ s.size + 41 ∧ RR ((((w5.setCell ⟨w.heap.size + 1, 0, none⟩ (.int .u64 (wd (~~~S1) 0))).setCell ⟨w.heap.size + 1, 1, none⟩ (.int .u64 (wd (~~~S1) 1))).setCell ⟨w.heap.size + 1, 2, none⟩ (.int .u64 (wd (~~~S1) 2))).setCell ⟨w.heap.size + 1, 3, none⟩ (.int .u64 (wd (~~~S1) 3))) r s j (o + 1) (if b = true then 4 else 3) (q : Int)) := by
                rcases HF.out with ⟨m, hym, hpm, hR⟩ | ⟨d, j, hyd, hj, hR⟩
                · have h1 := HX.out
                  rw [hym] at h1
                  have hrm := rest_len hpm
                  exact .inl ⟨p + m, hpm, by omega, Lib.hid h1.symm, Lib.hid ((hR.ext hE5).own (by omega) _ _ _ _)⟩
                · have h1 := HX.out
                  rw [hyd] at h1
                  exact .inr (Lib.hid ⟨false, p + d, j, h1, by omega, (hR.ext hE5).own (by omega) _ _ _ _⟩)
              have HST := Lib.hid hst
              have SS := Lib.hid (S5.store4 (.int .u64 (wd (~~~S1) 0)) (.int .u64 (wd (~~~S1) 1)) (.int .u64 (wd (~~~S1) 2)) (.int .u64 (wd (~~~S1) 3)))
              have BB := Lib.hid ((HB.out.ext hE5).other4 (b := w.heap.size + 1) (by omega) (.int .u64 (wd (~~~S1) 0)) (.int .u64 (wd (~~~S1) 1)) (.int .u64 (wd (~~~S1) 2)) (.int .u64 (wd (~~~S1) 3)))
              have GG := Lib.hid (grown_own4 (grown_ext HG.out hE5) (w.heap.size + 1) (by omega) (.int .u64 (wd (~~~S1) 0)) (.int .u64 (wd (~~~S1) 1)) (.int .u64 (wd (~~~S1) 2)) (.int .u64 (wd (~~~S1) 3)))
              clear hst HF S5 hE5 q0 q1 q2 q3 HC
              go_wp2_with fail
              go_meet
              exact ⟨rfl, GG, BB, ~~~S1, SS, HST.out⟩
          case rest =>
            clear HG HB HS HF HX
            obtain ⟨rfl, HG, HB, S1, HS, HST⟩ := hcut
            go_wp2_with fail
            go_loopg [] n (fun g wr => g ≤ n ∧ Hid (w.grownBy wr (some r)) ∧ Hid (Blk wr w.heap.size zer 36) ∧ ∃ (S : BitVec 256), Hid (Blk wr (w.heap.size + 1) (svs S) 36) ∧ ((∃ k, k ≤ s.size ∧ (rest s k).length < g ∧ Hid (tls unq g (o + 1) S (rest s k) k = x) ∧ Hid (RR wr r s k (o + 1) 0 0)) ∨ Hid (∃ b q j, x = .inl (b, q) ∧ j + (o + 1) ≤ s.size + 41 ∧ RR wr r s j (o + 1) (if b = true then 4 else 3) (q : Int))))
            case atStart => exact ⟨Nat.le_refl _, HG, HB, S1, HS, HST⟩
            case round =>
              clear HG HB HS HST
              obtain ⟨hgn, hG, hB, S, hS, ⟨k, hk, hlen, hI, hR⟩ | hF⟩ := hrel
              · obtain ⟨g, rfl⟩ : ∃ g, gk = g + 1 := ⟨gk - 1, by omega⟩
                have hrk := rest_len hk
                have HOK := Lib.hid (fun w' (h : RR w' r s k (o + 1) 0 0) => rok_any r s k (o + 1) 0 0 w' h true (by decide))
                cases hq1 : Lib.hasPrefix (rest s k) [93] with
                | true =>
                  have HQ1 := Lib.hid (fun w => rhasp_at s ⟨#[93]⟩ k (k : Int) rfl hk hsz (by decide) true hq1 w)
                  have hxx : x = .inr (S, k + 1) := by rw [← hI.out, tls, if_pos hq1]
                  have hk1 : k + 1 ≤ s.size := by have := pre_len hq1; omega
                  have HXX := Lib.hid hxx
                  clear hI hxx
                  go_wp2_with fail
                  refine G.wp_region_stab (G := Ext) (fun _ => none) (by kernel_rfl) (by kernel_rfl) (fun _ _ h => by cases h) (fun hex => ?_)
                  iterate 14
                    (refine G.wpS_one (A := ?_) hex rfl rfl (by simp) ?_ ?_ ?_
                     rotate_left 2
                     · intro w' hC K hK
                       have hRC := hR.out.ext hC.1; have d0 := (hR.out.blk.ext hC.1).cell 0; have d1 := (hR.out.blk.ext hC.1).cell 1
                       go_wp2_with (((first | with_reducible refine (HOK.out _ hRC).mono ?_ | with_reducible refine (HQ1.out _).mono ?_); rintro e wq ⟨rfl, hEq⟩))
                       refine hK _ ?_
                       first | exact Below.refl _ _ | assumption | ((repeat' (first | (with_reducible exact Below.refl _ _) | (with_reducible assumption) | (with_reducible refine below_drewN ?_ _) | (with_reducible refine Below.alloc ?_ ?_ _) | (with_reducible refine Below.drew ?_) | (with_reducible refine Below.setCell ?_ ?_ _) | (with_reducible refine Below.trans ?_ (Below.mono (by with_reducible assumption) ?_)) | go_size)))
                     rotate_left 1
                     · rfl
                     clear hex; intro hex)
                  refine G.wpS_nil fun w5 hAll => ?_
                  have hE := hAll.1
                  have R5 := Lib.hid (hR.out.ext hE)
                  have B5 := Lib.hid (hB.out.ext hE)
                  have S5 := Lib.hid (hS.out.ext hE)
                  have G5 := Lib.hid (grown_ext hG.out hE)
                  clear hE hex hAll hR hB hS hG HQ1 HOK
                  have k1 := R5.out.blk.cell 1
                  have f1 := R5.out.blk.free 1
                  have hlt := R5.out.blk.lt
                  have r1 := R5.out.at (k + 1) ((k : Int) + 1) (by omega)
                  have k2 := r1.blk.cell 2
                  have f2 := r1.blk.free 2
                  have hlt1 := r1.blk.lt
                  have r2 := r1.open o (o : Int) rfl
                  have RZ := Lib.hid r2
                  have BZ := Lib.hid ((B5.out.set_other (a := ⟨r, 1, none⟩) (by simp; omega) (.int .i64 ((k : Int) + 1))).set_other (a := ⟨r, 2, none⟩) (by simp; omega) (.int .i64 (o : Int)))
                  have SZ := Lib.hid ((S5.out.set_other (a := ⟨r, 1, none⟩) (by simp; omega) (.int .i64 ((k : Int) + 1))).set_other (a := ⟨r, 2, none⟩) (by simp; omega) (.int .i64 (o : Int)))
                  have GZ := Lib.hid (grown_trans G5.out (grown_trans (grown_set _ r 1 (.int .i64 ((k : Int) + 1))) (grown_set _ r 2 (.int .i64 (o : Int)))))
                  have FR := Lib.hid (RZ.out.own (b := w.heap.size) (by omega) (.int .u64 (wd S 0)) (.int .u64 (wd S 1)) (.int .u64 (wd S 2)) (.int .u64 (wd S 3)))
                  have FG := Lib.hid (grown_own4 GZ.out w.heap.size (Nat.le_refl _) (.int .u64 (wd S 0)) (.int .u64 (wd S 1)) (.int .u64 (wd S 2)) (.int .u64 (wd S 3)))
                  clear r1 r2 R5 B5 S5 G5
                  obtain ⟨q0, q1, q2, q3⟩ := SZ.out.cells4
                  have kb := BZ.out
                  obtain ⟨z0, z1, z2, z3⟩ := kb.cells4
                  have g0 := kb.free 0
                  have g1 := kb.free 1
                  have g2 := kb.free 2
                  have g3 := kb.free 3
                  have hltb := kb.lt
                  obtain ⟨y0, y1, y2, y3⟩ := (kb.store4 (.int .u64 (wd S 0)) (.int .u64 (wd S 1)) (.int .u64 (wd S 2)) (.int .u64 (wd S 3))).cells4
                  clear kb
                  go_wp2_with fail
                  refine bodyPost_ret (v := sv S) ?_ rfl ?_
                  · simp [results, Tryz.results41, go_sem, y0, y1, y2, y3]
                  · rw [HXX.out]
                    exact ⟨rfl, hk1, FG.out, FR.out⟩
                | false =>
                  have HQ1 := Lib.hid (fun w => rhasp_at s ⟨#[93]⟩ k (k : Int) rfl hk hsz (by decide) false hq1 w)
                  cases hq2 : Lib.hasPrefix (rest s k) [45, 45] with
                  | true =>
                    have HQ2 := Lib.hid (fun w => rhasp_at s ⟨#[45, 45]⟩ k (k : Int) rfl hk hsz (by decide) true hq2 w)
                    have hk2 : k + 2 ≤ s.size := by have := pre_two_len hq2; omega
                    obtain ⟨z, hz⟩ : ∃ z, cls unq g (o + 1) (rest s (k + 2)) (k + 2) = z := ⟨_, rfl⟩
                    have HI := Lib.hid (show tlsN g (o + 1) (fun T => S &&& ~~~T) s z = x by rw [← hI.out, tls_minus hq1 hq2, hz])
                    have hrk2 := rest_len hk2
                    have HCL := Lib.hid (fun w h => HIH.out g (by omega) r s (k + 2) w (o + 1) z h hk2 (by omega) (by omega) hz)
                    have hcl2 := (cls_len g).1 (o + 1) (rest s (k + 2)) (k + 2)
                    rw [hz] at hcl2
                    have HCL2 := Lib.hid hcl2.2
                    clear hcl2
                    clear hI hz hq1 hq2
                    go_wp2_with fail
                    refine G.wp_region_stab (G := Ext) (fun _ => none) (by kernel_rfl) (by kernel_rfl) (fun _ _ h => by cases h) (fun hex => ?_)
                    iterate 14
                      (refine G.wpS_one (A := ?_) hex rfl rfl (by simp) ?_ ?_ ?_
                       rotate_left 2
                       · intro w' hC K hK
                         have hRC := hR.out.ext hC.1; have d0 := (hR.out.blk.ext hC.1).cell 0; have d1 := (hR.out.blk.ext hC.1).cell 1
                         go_wp2_with (((first | with_reducible refine (HOK.out _ hRC).mono ?_ | with_reducible refine (HQ1.out _).mono ?_); rintro e wq ⟨rfl, hEq⟩))
                         refine hK _ ?_
                         first | exact Below.refl _ _ | assumption | ((repeat' (first | (with_reducible exact Below.refl _ _) | (with_reducible assumption) | (with_reducible refine below_drewN ?_ _) | (with_reducible refine Below.alloc ?_ ?_ _) | (with_reducible refine Below.drew ?_) | (with_reducible refine Below.setCell ?_ ?_ _) | (with_reducible refine Below.trans ?_ (Below.mono (by with_reducible assumption) ?_)) | go_size)))
                       rotate_left 1
                       · rfl
                       clear hex; intro hex)
                    refine G.wpS_nil fun w5 hAll => ?_
                    have hE := hAll.1
                    have R5 := Lib.hid (hR.out.ext hE)
                    have B5 := Lib.hid (hB.out.ext hE)
                    have S5 := Lib.hid (hS.out.ext hE)
                    have G5 := Lib.hid (grown_ext hG.out hE)
                    clear hE hex hAll hR hB hS hG
                    go_wp2_with fail
                    refine G.wp_region_stab (G := Ext) (fun _ => none) (by kernel_rfl) (by kernel_rfl) (fun _ _ h => by cases h) (fun hex => ?_)
                    iterate 10
                      (refine G.wpS_one (A := ?_) hex rfl rfl (by simp) ?_ ?_ ?_
                       rotate_left 2
                       · intro w' hC K hK
                         have hRC := R5.out.ext hC.1; have d0 := (R5.out.blk.ext hC.1).cell 0; have d1 := (R5.out.blk.ext hC.1).cell 1
                         go_wp2_with ((with_reducible refine (HQ2.out _).mono ?_; rintro e wq ⟨rfl, hEq⟩))
                         refine hK _ ?_
                         first | exact Below.refl _ _ | assumption | ((repeat' (first | (with_reducible exact Below.refl _ _) | (with_reducible assumption) | (with_reducible refine below_drewN ?_ _) | (with_reducible refine Below.alloc ?_ ?_ _) | (with_reducible refine Below.drew ?_) | (with_reducible refine Below.setCell ?_ ?_ _) | (with_reducible refine Below.trans ?_ (Below.mono (by with_reducible assumption) ?_)) | go_size)))
                       rotate_left 1
                       · rfl
                       clear hex; intro hex)
                    refine G.wpS_nil fun w6 hAll => ?_
                    have hE := hAll.1
                    have R6 := Lib.hid (R5.out.ext hE)
                    have B6 := Lib.hid (B5.out.ext hE)
                    have S6 := Lib.hid (S5.out.ext hE)
                    have G6 := Lib.hid (grown_ext G5.out hE)
                    clear hE hex hAll R5 B5 S5 G5
                    go_wp2_with fail
                    refine G.wp_region_stab (G := Ext) (fun _ => none) (by kernel_rfl) (by kernel_rfl) (fun _ _ h => by cases h) (fun hex => ?_)
                    iterate 14
                      (refine G.wpS_one (A := ?_) hex rfl rfl (by simp) ?_ ?_ ?_
                       rotate_left 2
                       · intro w' hC K hK
                         have hRC := R6.out.ext hC.1; have d0 := (R6.out.blk.ext hC.1).cell 0; have d1 := (R6.out.blk.ext hC.1).cell 1
                         go_wp2_with (fail)
                         refine hK _ ?_
                         first | exact Below.refl _ _ | assumption | ((repeat' (first | (with_reducible exact Below.refl _ _) | (with_reducible assumption) | (with_reducible refine below_drewN ?_ _) | (with_reducible refine Below.alloc ?_ ?_ _) | (with_reducible refine Below.drew ?_) | (with_reducible refine Below.setCell ?_ ?_ _) | (with_reducible refine Below.trans ?_ (Below.mono (by with_reducible assumption) ?_)) | go_size)))
                       rotate_left 1
                       · rfl
                       clear hex; intro hex)
                    refine G.wpS_nil fun w7 hAll => ?_
                    have hE := hAll.1
                    have R7 := Lib.hid (R6.out.ext hE)
                    have B7 := Lib.hid (B6.out.ext hE)
                    have S7 := Lib.hid (S6.out.ext hE)
                    have G7 := Lib.hid (grown_ext G6.out hE)
                    clear hE hex hAll R6 B6 S6 G6
                    have k1 := R7.out.blk.cell 1
                    have f1 := R7.out.blk.free 1
                    have hlt := R7.out.blk.lt
                    have R8 := Lib.hid (R7.out.at (k + 2) ((k : Int) + 2) (by omega))
                    have B8 := Lib.hid (B7.out.set_other (a := ⟨r, 1, none⟩) (by simp; omega) (.int .i64 ((k : Int) + 2)))
                    have S8 := Lib.hid (S7.out.set_other (a := ⟨r, 1, none⟩) (by simp; omega) (.int .i64 ((k : Int) + 2)))
                    have G8 := Lib.hid (grown_trans G7.out (grown_set w7 r 1 (.int .i64 ((k : Int) + 2))))
                    clear R7 B7 S7 G7 HOK HQ1 HQ2
                    go_wp2_with fail
                    refine (HCL.out _ R8.out).mono ?_
                    rintro e w9 hce
                    have HM := Lib.hid (fun T w => rminus_any S T w)
                    clear k1 f1 hlt HCL
                    cases z with
                    | inl bq =>
                      obtain ⟨b, q⟩ := bq
                      obtain ⟨T, j, hj, rfl, hG9, hR9⟩ := hce
                      have HXX := Lib.hid (show x = .inl (b, q) from HI.out.symm)
                      have G9 := Lib.hid (grown_trans G8.out hG9)
                      have R9 := Lib.hid hR9
                      have B9 := Lib.hid (B8.out.grown hG9 (by simp; omega))
                      have S9 := Lib.hid (S8.out.grown hG9 (by simp; omega))
                      clear hG9 hR9 G8 R8 B8 S8 HI HCL2
                      have hTB := Blk.new w9 (svs T) 36
                      obtain ⟨q0, q1, q2, q3⟩ := (S9.out.alloc (.cells (svs T) 36)).cells4
                      obtain ⟨t0, t1, t2, t3⟩ := hTB.cells4
                      clear hTB
                      go_wp2_with fail
                      refine (HM.out T _).mono ?_
                      rintro e wz ⟨rfl, hEz⟩
                      have hEz2 : Ext w9 wz := bel_call (show Ext w9 (w9.alloc (.cells (svs T) 36)) from by (repeat' (first | (with_reducible exact Below.refl _ _) | (with_reducible assumption) | (with_reducible refine below_drewN ?_ _) | (with_reducible refine Below.alloc ?_ ?_ _) | (with_reducible refine Below.drew ?_) | (with_reducible refine Below.setCell ?_ ?_ _) | (with_reducible refine Below.trans ?_ (Below.mono (by with_reducible assumption) ?_)) | go_size))) hEz
                      have sz := S9.out.ext hEz2
                      obtain ⟨z0, z1, z2, z3⟩ := sz.cells4
                      have f0 := sz.free 0
                      have f1 := sz.free 1
                      have f2 := sz.free 2
                      have f3 := sz.free 3
                      have hltz := sz.lt
                      have SZ := Lib.hid sz
                      have EZ := Lib.hid hEz2
                      clear hEz hEz2 sz q0 q1 q2 q3 t0 t1 t2 t3 HM
                      go_wp2_with fail
                      go_roundg g
                      case rel =>
                        refine ⟨by omega, Lib.hid (grown_own4 (grown_ext G9.out EZ.out) _ (by omega) _ _ _ _), Lib.hid ((B9.out.ext EZ.out).other4 (by omega) _ _ _ _), S &&& ~~~T, Lib.hid (SZ.out.store4 _ _ _ _), .inr (Lib.hid ⟨b, q, j, HXX.out, hj, (R9.out.ext EZ.out).own (by omega) _ _ _ _⟩)⟩
                      case measure => exact Nat.lt_succ_self g
                    | inr Tm =>
                      obtain ⟨T, m⟩ := Tm
                      obtain ⟨rfl, hm, hG9, hR9⟩ := hce
                      have hI2 : tls unq g (o + 1) (S &&& ~~~T) (rest s m) m = x := HI.out
                      have HI2 := Lib.hid hI2
                      have hkm := (HCL2.out T m rfl).1
                      have hrm := rest_len hm
                      have G9 := Lib.hid (grown_trans G8.out hG9)
                      have R9 := Lib.hid hR9
                      have B9 := Lib.hid (B8.out.grown hG9 (by simp; omega))
                      have S9 := Lib.hid (S8.out.grown hG9 (by simp; omega))
                      clear hG9 hR9 G8 R8 B8 S8 HI HCL2 hI2
                      have hTB := Blk.new w9 (svs T) 36
                      obtain ⟨q0, q1, q2, q3⟩ := (S9.out.alloc (.cells (svs T) 36)).cells4
                      obtain ⟨t0, t1, t2, t3⟩ := hTB.cells4
                      clear hTB
                      go_wp2_with fail
                      refine (HM.out T _).mono ?_
                      rintro e wz ⟨rfl, hEz⟩
                      have hEz2 : Ext w9 wz := bel_call (show Ext w9 (w9.alloc (.cells (svs T) 36)) from by (repeat' (first | (with_reducible exact Below.refl _ _) | (with_reducible assumption) | (with_reducible refine below_drewN ?_ _) | (with_reducible refine Below.alloc ?_ ?_ _) | (with_reducible refine Below.drew ?_) | (with_reducible refine Below.setCell ?_ ?_ _) | (with_reducible refine Below.trans ?_ (Below.mono (by with_reducible assumption) ?_)) | go_size))) hEz
                      have sz := S9.out.ext hEz2
                      obtain ⟨z0, z1, z2, z3⟩ := sz.cells4
                      have f0 := sz.free 0
                      have f1 := sz.free 1
                      have f2 := sz.free 2
                      have f3 := sz.free 3
                      have hltz := sz.lt
                      have SZ := Lib.hid sz
                      have EZ := Lib.hid hEz2
                      clear hEz hEz2 sz q0 q1 q2 q3 t0 t1 t2 t3 HM
                      go_wp2_with fail
                      go_roundg g
                      case rel =>
                        refine ⟨by omega, Lib.hid (grown_own4 (grown_ext G9.out EZ.out) _ (by omega) _ _ _ _), Lib.hid ((B9.out.ext EZ.out).other4 (by omega) _ _ _ _), S &&& ~~~T, Lib.hid (SZ.out.store4 _ _ _ _), .inl ⟨m, hm, by omega, HI2, Lib.hid ((R9.out.ext EZ.out).own (by omega) _ _ _ _)⟩⟩
                      case measure => exact Nat.lt_succ_self g
                  | false =>
                    have HQ2 := Lib.hid (fun w => rhasp_at s ⟨#[45, 45]⟩ k (k : Int) rfl hk hsz (by decide) false hq2 w)
                    cases hq3 : Lib.hasPrefix (rest s k) [38, 38] with
                    | true =>
                      have HQ3 := Lib.hid (fun w => rhasp_at s ⟨#[38, 38]⟩ k (k : Int) rfl hk hsz (by decide) true hq3 w)
                      have hk2 : k + 2 ≤ s.size := by have := pre_two_len hq3; omega
                      obtain ⟨z, hz⟩ : ∃ z, cls unq g (o + 1) (rest s (k + 2)) (k + 2) = z := ⟨_, rfl⟩
                      have HI := Lib.hid (show tlsN g (o + 1) (fun T => S &&& T) s z = x by rw [← hI.out, tls_inter hq1 hq2 hq3, hz])
                      have hrk2 := rest_len hk2
                      have HCL := Lib.hid (fun w h => HIH.out g (by omega) r s (k + 2) w (o + 1) z h hk2 (by omega) (by omega) hz)
                      have hcl2 := (cls_len g).1 (o + 1) (rest s (k + 2)) (k + 2)
                      rw [hz] at hcl2
                      have HCL2 := Lib.hid hcl2.2
                      clear hcl2
                      clear hI hz hq1 hq2 hq3
                      go_wp2_with fail
                      refine G.wp_region_stab (G := Ext) (fun _ => none) (by kernel_rfl) (by kernel_rfl) (fun _ _ h => by cases h) (fun hex => ?_)
                      iterate 14
                        (refine G.wpS_one (A := ?_) hex rfl rfl (by simp) ?_ ?_ ?_
                         rotate_left 2
                         · intro w' hC K hK
                           have hRC := hR.out.ext hC.1; have d0 := (hR.out.blk.ext hC.1).cell 0; have d1 := (hR.out.blk.ext hC.1).cell 1
                           go_wp2_with (((first | with_reducible refine (HOK.out _ hRC).mono ?_ | with_reducible refine (HQ1.out _).mono ?_); rintro e wq ⟨rfl, hEq⟩))
                           refine hK _ ?_
                           first | exact Below.refl _ _ | assumption | ((repeat' (first | (with_reducible exact Below.refl _ _) | (with_reducible assumption) | (with_reducible refine below_drewN ?_ _) | (with_reducible refine Below.alloc ?_ ?_ _) | (with_reducible refine Below.drew ?_) | (with_reducible refine Below.setCell ?_ ?_ _) | (with_reducible refine Below.trans ?_ (Below.mono (by with_reducible assumption) ?_)) | go_size)))
                         rotate_left 1
                         · rfl
                         clear hex; intro hex)
                      refine G.wpS_nil fun w5 hAll => ?_
                      have hE := hAll.1
                      have R5 := Lib.hid (hR.out.ext hE)
                      have B5 := Lib.hid (hB.out.ext hE)
                      have S5 := Lib.hid (hS.out.ext hE)
                      have G5 := Lib.hid (grown_ext hG.out hE)
                      clear hE hex hAll hR hB hS hG
                      go_wp2_with fail
                      refine G.wp_region_stab (G := Ext) (fun _ => none) (by kernel_rfl) (by kernel_rfl) (fun _ _ h => by cases h) (fun hex => ?_)
                      iterate 10
                        (refine G.wpS_one (A := ?_) hex rfl rfl (by simp) ?_ ?_ ?_
                         rotate_left 2
                         · intro w' hC K hK
                           have hRC := R5.out.ext hC.1; have d0 := (R5.out.blk.ext hC.1).cell 0; have d1 := (R5.out.blk.ext hC.1).cell 1
                           go_wp2_with ((with_reducible refine (HQ2.out _).mono ?_; rintro e wq ⟨rfl, hEq⟩))
                           refine hK _ ?_
                           first | exact Below.refl _ _ | assumption | ((repeat' (first | (with_reducible exact Below.refl _ _) | (with_reducible assumption) | (with_reducible refine below_drewN ?_ _) | (with_reducible refine Below.alloc ?_ ?_ _) | (with_reducible refine Below.drew ?_) | (with_reducible refine Below.setCell ?_ ?_ _) | (with_reducible refine Below.trans ?_ (Below.mono (by with_reducible assumption) ?_)) | go_size)))
                         rotate_left 1
                         · rfl
                         clear hex; intro hex)
                      refine G.wpS_nil fun w6 hAll => ?_
                      have hE := hAll.1
                      have R6 := Lib.hid (R5.out.ext hE)
                      have B6 := Lib.hid (B5.out.ext hE)
                      have S6 := Lib.hid (S5.out.ext hE)
                      have G6 := Lib.hid (grown_ext G5.out hE)
                      clear hE hex hAll R5 B5 S5 G5
                      go_wp2_with fail
                      refine G.wp_region_stab (G := Ext) (fun _ => none) (by kernel_rfl) (by kernel_rfl) (fun _ _ h => by cases h) (fun hex => ?_)
                      iterate 14
                        (refine G.wpS_one (A := ?_) hex rfl rfl (by simp) ?_ ?_ ?_
                         rotate_left 2
                         · intro w' hC K hK
                           have hRC := R6.out.ext hC.1; have d0 := (R6.out.blk.ext hC.1).cell 0; have d1 := (R6.out.blk.ext hC.1).cell 1
                           go_wp2_with ((with_reducible refine (HQ3.out _).mono ?_; rintro e wq ⟨rfl, hEq⟩))
                           refine hK _ ?_
                           first | exact Below.refl _ _ | assumption | ((repeat' (first | (with_reducible exact Below.refl _ _) | (with_reducible assumption) | (with_reducible refine below_drewN ?_ _) | (with_reducible refine Below.alloc ?_ ?_ _) | (with_reducible refine Below.drew ?_) | (with_reducible refine Below.setCell ?_ ?_ _) | (with_reducible refine Below.trans ?_ (Below.mono (by with_reducible assumption) ?_)) | go_size)))
                         rotate_left 1
                         · rfl
                         clear hex; intro hex)
                      refine G.wpS_nil fun w7 hAll => ?_
                      have hE := hAll.1
                      have R7 := Lib.hid (R6.out.ext hE)
                      have B7 := Lib.hid (B6.out.ext hE)
                      have S7 := Lib.hid (S6.out.ext hE)
                      have G7 := Lib.hid (grown_ext G6.out hE)
                      clear hE hex hAll R6 B6 S6 G6
                      have k1 := R7.out.blk.cell 1
                      have f1 := R7.out.blk.free 1
                      have hlt := R7.out.blk.lt
                      have R8 := Lib.hid (R7.out.at (k + 2) ((k : Int) + 2) (by omega))
                      have B8 := Lib.hid (B7.out.set_other (a := ⟨r, 1, none⟩) (by simp; omega) (.int .i64 ((k : Int) + 2)))
                      have S8 := Lib.hid (S7.out.set_other (a := ⟨r, 1, none⟩) (by simp; omega) (.int .i64 ((k : Int) + 2)))
                      have G8 := Lib.hid (grown_trans G7.out (grown_set w7 r 1 (.int .i64 ((k : Int) + 2))))
                      clear R7 B7 S7 G7 HOK HQ1 HQ2
                      go_wp2_with fail
                      refine (HCL.out _ R8.out).mono ?_
                      rintro e w9 hce
                      have HM := Lib.hid (fun T w => rinter_any S T w)
                      clear k1 f1 hlt HCL
                      cases z with
                      | inl bq =>
                        obtain ⟨b, q⟩ := bq
                        obtain ⟨T, j, hj, rfl, hG9, hR9⟩ := hce
                        have HXX := Lib.hid (show x = .inl (b, q) from HI.out.symm)
                        have G9 := Lib.hid (grown_trans G8.out hG9)
                        have R9 := Lib.hid hR9
                        have B9 := Lib.hid (B8.out.grown hG9 (by simp; omega))
                        have S9 := Lib.hid (S8.out.grown hG9 (by simp; omega))
                        clear hG9 hR9 G8 R8 B8 S8 HI HCL2
                        have hTB := Blk.new w9 (svs T) 36
                        obtain ⟨q0, q1, q2, q3⟩ := (S9.out.alloc (.cells (svs T) 36)).cells4
                        obtain ⟨t0, t1, t2, t3⟩ := hTB.cells4
                        clear hTB
                        go_wp2_with fail
                        refine (HM.out T _).mono ?_
                        rintro e wz ⟨rfl, hEz⟩
                        have hEz2 : Ext w9 wz := bel_call (show Ext w9 (w9.alloc (.cells (svs T) 36)) from by (repeat' (first | (with_reducible exact Below.refl _ _) | (with_reducible assumption) | (with_reducible refine below_drewN ?_ _) | (with_reducible refine Below.alloc ?_ ?_ _) | (with_reducible refine Below.drew ?_) | (with_reducible refine Below.setCell ?_ ?_ _) | (with_reducible refine Below.trans ?_ (Below.mono (by with_reducible assumption) ?_)) | go_size))) hEz
                        have sz := S9.out.ext hEz2
                        obtain ⟨z0, z1, z2, z3⟩ := sz.cells4
                        have f0 := sz.free 0
                        have f1 := sz.free 1
                        have f2 := sz.free 2
                        have f3 := sz.free 3
                        have hltz := sz.lt
                        have SZ := Lib.hid sz
                        have EZ := Lib.hid hEz2
                        clear hEz hEz2 sz q0 q1 q2 q3 t0 t1 t2 t3 HM
                        go_wp2_with fail
                        go_roundg g
                        case rel =>
                          refine ⟨by omega, Lib.hid (grown_own4 (grown_ext G9.out EZ.out) _ (by omega) _ _ _ _), Lib.hid ((B9.out.ext EZ.out).other4 (by omega) _ _ _ _), S &&& T, Lib.hid (SZ.out.store4 _ _ _ _), .inr (Lib.hid ⟨b, q, j, HXX.out, hj, (R9.out.ext EZ.out).own (by omega) _ _ _ _⟩)⟩
                        case measure => exact Nat.lt_succ_self g
                      | inr Tm =>
                        obtain ⟨T, m⟩ := Tm
                        obtain ⟨rfl, hm, hG9, hR9⟩ := hce
                        have hI2 : tls unq g (o + 1) (S &&& T) (rest s m) m = x := HI.out
                        have HI2 := Lib.hid hI2
                        have hkm := (HCL2.out T m rfl).1
                        have hrm := rest_len hm
                        have G9 := Lib.hid (grown_trans G8.out hG9)
                        have R9 := Lib.hid hR9
                        have B9 := Lib.hid (B8.out.grown hG9 (by simp; omega))
                        have S9 := Lib.hid (S8.out.grown hG9 (by simp; omega))
                        clear hG9 hR9 G8 R8 B8 S8 HI HCL2 hI2
                        have hTB := Blk.new w9 (svs T) 36
                        obtain ⟨q0, q1, q2, q3⟩ := (S9.out.alloc (.cells (svs T) 36)).cells4
                        obtain ⟨t0, t1, t2, t3⟩ := hTB.cells4
                        clear hTB
                        go_wp2_with fail
                        refine (HM.out T _).mono ?_
                        rintro e wz ⟨rfl, hEz⟩
                        have hEz2 : Ext w9 wz := bel_call (show Ext w9 (w9.alloc (.cells (svs T) 36)) from by (repeat' (first | (with_reducible exact Below.refl _ _) | (with_reducible assumption) | (with_reducible refine below_drewN ?_ _) | (with_reducible refine Below.alloc ?_ ?_ _) | (with_reducible refine Below.drew ?_) | (with_reducible refine Below.setCell ?_ ?_ _) | (with_reducible refine Below.trans ?_ (Below.mono (by with_reducible assumption) ?_)) | go_size))) hEz
                        have sz := S9.out.ext hEz2
                        obtain ⟨z0, z1, z2, z3⟩ := sz.cells4
                        have f0 := sz.free 0
                        have f1 := sz.free 1
                        have f2 := sz.free 2
                        have f3 := sz.free 3
                        have hltz := sz.lt
                        have SZ := Lib.hid sz
                        have EZ := Lib.hid hEz2
                        clear hEz hEz2 sz q0 q1 q2 q3 t0 t1 t2 t3 HM
                        go_wp2_with fail
                        go_roundg g
                        case rel =>
                          refine ⟨by omega, Lib.hid (grown_own4 (grown_ext G9.out EZ.out) _ (by omega) _ _ _ _), Lib.hid ((B9.out.ext EZ.out).other4 (by omega) _ _ _ _), S &&& T, Lib.hid (SZ.out.store4 _ _ _ _), .inl ⟨m, hm, by omega, HI2, Lib.hid ((R9.out.ext EZ.out).own (by omega) _ _ _ _)⟩⟩
                        case measure => exact Nat.lt_succ_self g
                    | false =>
                      have HQ3 := Lib.hid (fun w => rhasp_at s ⟨#[38, 38]⟩ k (k : Int) rfl hk hsz (by decide) false hq3 w)
                      have hxx : x = .inl (false, k) := by rw [← hI.out, tls, if_neg (by rw [hq1]; simp), if_neg (by rw [hq2]; simp), if_neg (by rw [hq3]; simp)]
                      have HXX := Lib.hid hxx
                      clear hI hq1 hq2 hq3 hxx
                      go_wp2_with fail
                      refine G.wp_region_stab (G := Ext) (fun _ => none) (by kernel_rfl) (by kernel_rfl) (fun _ _ h => by cases h) (fun hex => ?_)
                      iterate 14
                        (refine G.wpS_one (A := ?_) hex rfl rfl (by simp) ?_ ?_ ?_
                         rotate_left 2
                         · intro w' hC K hK
                           have hRC := hR.out.ext hC.1; have d0 := (hR.out.blk.ext hC.1).cell 0; have d1 := (hR.out.blk.ext hC.1).cell 1
                           go_wp2_with (((first | with_reducible refine (HOK.out _ hRC).mono ?_ | with_reducible refine (HQ1.out _).mono ?_); rintro e wq ⟨rfl, hEq⟩))
                           refine hK _ ?_
                           first | exact Below.refl _ _ | assumption | ((repeat' (first | (with_reducible exact Below.refl _ _) | (with_reducible assumption) | (with_reducible refine below_drewN ?_ _) | (with_reducible refine Below.alloc ?_ ?_ _) | (with_reducible refine Below.drew ?_) | (with_reducible refine Below.setCell ?_ ?_ _) | (with_reducible refine Below.trans ?_ (Below.mono (by with_reducible assumption) ?_)) | go_size)))
                         rotate_left 1
                         · rfl
                         clear hex; intro hex)
                      refine G.wpS_nil fun w5 hAll => ?_
                      have hE := hAll.1
                      have R5 := Lib.hid (hR.out.ext hE)
                      have B5 := Lib.hid (hB.out.ext hE)
                      have S5 := Lib.hid (hS.out.ext hE)
                      have G5 := Lib.hid (grown_ext hG.out hE)
                      clear hE hex hAll hR hB hS hG
                      go_wp2_with fail
                      refine G.wp_region_stab (G := Ext) (fun _ => none) (by kernel_rfl) (by kernel_rfl) (fun _ _ h => by cases h) (fun hex => ?_)
                      iterate 10
                        (refine G.wpS_one (A := ?_) hex rfl rfl (by simp) ?_ ?_ ?_
                         rotate_left 2
                         · intro w' hC K hK
                           have hRC := R5.out.ext hC.1; have d0 := (R5.out.blk.ext hC.1).cell 0; have d1 := (R5.out.blk.ext hC.1).cell 1
                           go_wp2_with ((with_reducible refine (HQ2.out _).mono ?_; rintro e wq ⟨rfl, hEq⟩))
                           refine hK _ ?_
                           first | exact Below.refl _ _ | assumption | ((repeat' (first | (with_reducible exact Below.refl _ _) | (with_reducible assumption) | (with_reducible refine below_drewN ?_ _) | (with_reducible refine Below.alloc ?_ ?_ _) | (with_reducible refine Below.drew ?_) | (with_reducible refine Below.setCell ?_ ?_ _) | (with_reducible refine Below.trans ?_ (Below.mono (by with_reducible assumption) ?_)) | go_size)))
                         rotate_left 1
                         · rfl
                         clear hex; intro hex)
                      refine G.wpS_nil fun w6 hAll => ?_
                      have hE := hAll.1
                      have R6 := Lib.hid (R5.out.ext hE)
                      have B6 := Lib.hid (B5.out.ext hE)
                      have S6 := Lib.hid (S5.out.ext hE)
                      have G6 := Lib.hid (grown_ext G5.out hE)
                      clear hE hex hAll R5 B5 S5 G5
                      go_wp2_with fail
                      refine G.wp_region_stab (G := Ext) (fun _ => none) (by kernel_rfl) (by kernel_rfl) (fun _ _ h => by cases h) (fun hex => ?_)
                      iterate 14
                        (refine G.wpS_one (A := ?_) hex rfl rfl (by simp) ?_ ?_ ?_
                         rotate_left 2
                         · intro w' hC K hK
                           have hRC := R6.out.ext hC.1; have d0 := (R6.out.blk.ext hC.1).cell 0; have d1 := (R6.out.blk.ext hC.1).cell 1
                           go_wp2_with ((with_reducible refine (HQ3.out _).mono ?_; rintro e wq ⟨rfl, hEq⟩))
                           refine hK _ ?_
                           first | exact Below.refl _ _ | assumption | ((repeat' (first | (with_reducible exact Below.refl _ _) | (with_reducible assumption) | (with_reducible refine below_drewN ?_ _) | (with_reducible refine Below.alloc ?_ ?_ _) | (with_reducible refine Below.drew ?_) | (with_reducible refine Below.setCell ?_ ?_ _) | (with_reducible refine Below.trans ?_ (Below.mono (by with_reducible assumption) ?_)) | go_size)))
                         rotate_left 1
                         · rfl
                         clear hex; intro hex)
                      refine G.wpS_nil fun w7 hAll => ?_
                      have hE := hAll.1
                      have R7 := Lib.hid (R6.out.ext hE)
                      have B7 := Lib.hid (B6.out.ext hE)
                      have S7 := Lib.hid (S6.out.ext hE)
                      have G7 := Lib.hid (grown_ext G6.out hE)
                      clear hE hex hAll R6 B6 S6 G6
                      have k1 := R7.out.blk.cell 1
                      go_wp2_with fail
                      refine (rrefuse_any r s _ (o + 1) 3 (k : Int) _ R7.out).mono ?_
                      rintro e w9 ⟨rfl, hG9, hR9⟩
                      have G9 := Lib.hid (grown_trans G7.out hG9)
                      have R9 := Lib.hid hR9
                      have B9 := Lib.hid (B7.out.grown hG9 (by simp; omega))
                      have S9 := Lib.hid (S7.out.grown hG9 (by simp; omega))
                      clear hG9 hR9 k1 G7 R7 B7 S7
                      have k1 := R9.out.blk.cell 1
                      have f1 := R9.out.blk.free 1
                      have hlt := R9.out.blk.lt
                      have r1 := R9.out.at (k + 1) ((k : Int) + 1) (by omega)
                      have k2 := r1.blk.cell 2
                      have f2 := r1.blk.free 2
                      have hlt1 := r1.blk.lt
                      have r2 := r1.open o (o : Int) rfl
                      have RZ := Lib.hid r2
                      have BZ := Lib.hid ((B9.out.set_other (a := ⟨r, 1, none⟩) (by simp; omega) (.int .i64 ((k : Int) + 1))).set_other (a := ⟨r, 2, none⟩) (by simp; omega) (.int .i64 (o : Int)))
                      have SZ := Lib.hid ((S9.out.set_other (a := ⟨r, 1, none⟩) (by simp; omega) (.int .i64 ((k : Int) + 1))).set_other (a := ⟨r, 2, none⟩) (by simp; omega) (.int .i64 (o : Int)))
                      have GZ := Lib.hid (grown_trans G9.out (grown_trans (grown_set _ r 1 (.int .i64 ((k : Int) + 1))) (grown_set _ r 2 (.int .i64 (o : Int)))))
                      have FR := Lib.hid (RZ.out.own (b := w.heap.size) (by omega) (.int .u64 (wd S 0)) (.int .u64 (wd S 1)) (.int .u64 (wd S 2)) (.int .u64 (wd S 3)))
                      have FG := Lib.hid (grown_own4 GZ.out w.heap.size (Nat.le_refl _) (.int .u64 (wd S 0)) (.int .u64 (wd S 1)) (.int .u64 (wd S 2)) (.int .u64 (wd S 3)))
                      clear r1 r2 R9 B9 S9 G9
                      obtain ⟨q0, q1, q2, q3⟩ := SZ.out.cells4
                      have kb := BZ.out
                      obtain ⟨z0, z1, z2, z3⟩ := kb.cells4
                      have g0 := kb.free 0
                      have g1 := kb.free 1
                      have g2 := kb.free 2
                      have g3 := kb.free 3
                      have hltb := kb.lt
                      obtain ⟨y0, y1, y2, y3⟩ := (kb.store4 (.int .u64 (wd S 0)) (.int .u64 (wd S 1)) (.int .u64 (wd S 2)) (.int .u64 (wd S 3))).cells4
                      clear kb
                      go_wp2_with fail
                      refine bodyPost_ret (v := sv S) ?_ rfl ?_
                      · simp [results, Tryz.results41, go_sem, y0, y1, y2, y3]
                      · rw [HXX.out]
                        exact ⟨S, k + 1, by omega, rfl, FG.out, FR.out⟩
              · obtain ⟨b, q, j, hxx, hj, hR0⟩ := hF.out
                have hR := Lib.hid hR0
                have HXX := Lib.hid hxx
                have HOK := Lib.hid (fun w' (h : RR w' r s j (o + 1) (if b = true then 4 else 3) (q : Int)) => rok_any r s j (o + 1) _ _ w' h false (by cases b <;> decide))
                clear hxx hR0 hF
                go_wp2_with fail
                refine G.wp_region_stab (G := Ext) (fun _ => none) (by kernel_rfl) (by kernel_rfl) (fun _ _ h => by cases h) (fun hex => ?_)
                iterate 14
                  (refine G.wpS_one (A := ?_) hex rfl rfl (by simp) ?_ ?_ ?_
                   rotate_left 2
                   · intro w' hC K hK
                     have hRC := hR.out.ext hC.1; have d0 := (hR.out.blk.ext hC.1).cell 0; have d1 := (hR.out.blk.ext hC.1).cell 1
                     go_wp2_with ((with_reducible refine (HOK.out _ hRC).mono ?_; rintro e wq ⟨rfl, hEq⟩))
                     refine hK _ ?_
                     first | exact Below.refl _ _ | assumption | ((repeat' (first | (with_reducible exact Below.refl _ _) | (with_reducible assumption) | (with_reducible refine below_drewN ?_ _) | (with_reducible refine Below.alloc ?_ ?_ _) | (with_reducible refine Below.drew ?_) | (with_reducible refine Below.setCell ?_ ?_ _) | (with_reducible refine Below.trans ?_ (Below.mono (by with_reducible assumption) ?_)) | go_size)))
                   rotate_left 1
                   · rfl
                   clear hex; intro hex)
                refine G.wpS_nil fun w5 hAll => ?_
                have hE := hAll.1
                have R5 := Lib.hid (hR.out.ext hE)
                have B5 := Lib.hid (hB.out.ext hE)
                have S5 := Lib.hid (hS.out.ext hE)
                have G5 := Lib.hid (grown_ext hG.out hE)
                clear hE hex hAll hR hB hS hG
                have k1 := R5.out.blk.cell 1
                have f1 := R5.out.blk.free 1
                have hlt := R5.out.blk.lt
                have r1 := R5.out.at (j + 1) ((j : Int) + 1) (by omega)
                have k2 := r1.blk.cell 2
                have f2 := r1.blk.free 2
                have hlt1 := r1.blk.lt
                have r2 := r1.open o (o : Int) rfl
                have RZ := Lib.hid r2
                have BZ := Lib.hid ((B5.out.set_other (a := ⟨r, 1, none⟩) (by simp; omega) (.int .i64 ((j : Int) + 1))).set_other (a := ⟨r, 2, none⟩) (by simp; omega) (.int .i64 (o : Int)))
                have SZ := Lib.hid ((S5.out.set_other (a := ⟨r, 1, none⟩) (by simp; omega) (.int .i64 ((j : Int) + 1))).set_other (a := ⟨r, 2, none⟩) (by simp; omega) (.int .i64 (o : Int)))
                have GZ := Lib.hid (grown_trans G5.out (grown_trans (grown_set _ r 1 (.int .i64 ((j : Int) + 1))) (grown_set _ r 2 (.int .i64 (o : Int)))))
                have FR := Lib.hid (RZ.out.own (b := w.heap.size) (by omega) (.int .u64 (wd S 0)) (.int .u64 (wd S 1)) (.int .u64 (wd S 2)) (.int .u64 (wd S 3)))
                have FG := Lib.hid (grown_own4 GZ.out w.heap.size (Nat.le_refl _) (.int .u64 (wd S 0)) (.int .u64 (wd S 1)) (.int .u64 (wd S 2)) (.int .u64 (wd S 3)))
                clear r1 r2 R5 B5 S5 G5
                obtain ⟨q0, q1, q2, q3⟩ := SZ.out.cells4
                have kb := BZ.out
                obtain ⟨z0, z1, z2, z3⟩ := kb.cells4
                have g0 := kb.free 0
                have g1 := kb.free 1
                have g2 := kb.free 2
                have g3 := kb.free 3
                have hltb := kb.lt
                obtain ⟨y0, y1, y2, y3⟩ := (kb.store4 (.int .u64 (wd S 0)) (.int .u64 (wd S 1)) (.int .u64 (wd S 2)) (.int .u64 (wd S 3))).cells4
                clear kb
                go_wp2_with fail
                refine bodyPost_ret (v := sv S) ?_ rfl ?_
                · simp [results, Tryz.results41, go_sem, y0, y1, y2, y3]
                · rw [HXX.out]
                  exact ⟨S, j + 1, by omega, rfl, FG.out, FR.out⟩
/-- Each class is read as 'cls' says, whatever the fuel beyond its length. -/
theorem rclass_ok (n : Nat) : ∀ g, g ≤ n → RkOk g := by
  induction n with
  | zero =>
    intro g hg r s i w o x h hi ho hn hx
    omega
  | succ n ih =>
    intro g hg
    by_cases e : g = n + 1
    · subst e
      exact rclass_of n ih
    · exact ih g (by omega)
end Go.Proofs.YtnecafokkhhhhaaGreatDoor
