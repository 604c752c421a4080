/- Package census: how many words of a length there are: each length is counted when it is asked for. -/
import Derived.Test.YtniamfaiamgncaaDoorKt6
namespace Go.Proofs.YtniamfaiamgncaaDoor
open Go Go.RowKit
def knw (w : World) (tb : Nat) : Nat := match w.cell? ⟨tb, 2, none⟩ with | some v => (intOf v).toNat | none => 0
theorem Tbl.knw {w0 w : World} {tb gf n k : Nat} {vN : Value} {d : Dd} {T : Nat → Nat → Option Nat} (h : Tbl w0 w tb gf n k vN d T) : knw w tb = k := by
  have : w.cell? ⟨tb, 2, none⟩ = some (.int .i64 (k : Int)) := h.bk.cell 2
  unfold Proofs.YtniamfaiamgncaaDoor.knw
  rw [this]; simp [intOf]
/-- What is known while a length is counted. -/
def TI (dl : Nat → Nat → Nat) (lab : Nat → Int) (x : Int) (j s : Nat) : Nat → Nat → Option Nat := fun s' l => if l ≤ j ∨ (l = j + 1 ∧ s' < s) then some (cnt dl lab x l s') else none
section
variable {dl : Nat → Nat → Nat} {lab : Nat → Int} {x : Int} {j s n : Nat}
theorem TI_zero : ∀ s' l, TT dl lab x j s' l = TI dl lab x j 0 s' l := fun s' l => by
  unfold TT TI
  by_cases e : l ≤ j
  · rw [if_pos e, if_pos (Or.inl e)]
  · have h1 : ¬ (l ≤ j ∨ (l = j + 1 ∧ s' < 0)) := by omega
    rw [if_neg e, if_neg h1]
theorem TI_end : ∀ s' l, s' < n → TI dl lab x j n s' l = TT dl lab x (j + 1) s' l := fun s' l hs => by
  unfold TT TI
  by_cases e : l ≤ j + 1
  · have h1 : l ≤ j ∨ (l = j + 1 ∧ s' < n) := by omega
    rw [if_pos e, if_pos h1]
  · have h1 : ¬ (l ≤ j ∨ (l = j + 1 ∧ s' < n)) := by omega
    rw [if_neg e, if_neg h1]
theorem TI_step : ∀ s' l, upT (TI dl lab x j s) s (j + 1) (cnt dl lab x (j + 1) s) s' l = TI dl lab x j (s + 1) s' l := fun s' l => by
  unfold upT TI
  by_cases e : s' = s ∧ l = j + 1
  · obtain ⟨rfl, rfl⟩ := e
    have h1 : j + 1 ≤ j ∨ (j + 1 = j + 1 ∧ s' < s' + 1) := by omega
    rw [if_pos ⟨rfl, rfl⟩, if_pos h1]
  · rw [if_neg e]
    by_cases q : l ≤ j ∨ (l = j + 1 ∧ s' < s)
    · have h1 : l ≤ j ∨ (l = j + 1 ∧ s' < s + 1) := by omega
      rw [if_pos q, if_pos h1]
    · have h1 : ¬ (l ≤ j ∨ (l = j + 1 ∧ s' < s + 1)) := by omega
      rw [if_neg q, if_neg h1]
end
theorem Tbl.same {w0 w : World} {tb gf n k : Nat} {vN : Value} {d : Dd} {T T' : Nat → Nat → Option Nat} (h : Tbl w0 w tb gf n k vN d T) (e : ∀ s l, s < n → l < 65 → T s l = T' s l) : Tbl w0 w tb gf n k vN d T' := ⟨h.ex, h.nx, h.bk, h.fm.same e, h.lo⟩
theorem Tbl.known {w0 w : World} {tb gf n k k' : Nat} {vN : Value} {d : Dd} {T : Nat → Nat → Option Nat} (h : Tbl w0 w tb gf n k vN d T) : Tbl w0 (w.setCell ⟨tb, 2, none⟩ (.int .i64 (k' : Int))) tb gf n k' vN d T := by
  have hne : gf ≠ tb := h.fm.ne_blk h.bk (by decide)
  exact ⟨h.ex.setCell (p := ⟨tb, 2, none⟩) h.lo _, h.nx, h.bk.set 2 _, own_set h.fm (fun q => hne (Option.some.inj q)), h.lo⟩
theorem Tbl.put {w0 w : World} {tb gf n k s l x : Nat} {vN : Value} {d : Dd} {T : Nat → Nat → Option Nat} (h : Tbl w0 w tb gf n k vN d T) (hl : l < 65) :
    Tbl w0 ((w.setCell ⟨gf, s * 130 + l * 2, none⟩ (.int .u64 (sN x : Nat))).setCell ⟨gf, s * 130 + l * 2 + 1, none⟩ (.bool (sB x))) tb gf n k vN d (upT T s l x) := by
  have hne : gf ≠ tb := h.fm.ne_blk h.bk (by decide)
  exact ⟨(h.ex.setCell (p := ⟨gf, s * 130 + l * 2, none⟩) h.fm.lo.1 _).setCell (p := ⟨gf, s * 130 + l * 2 + 1, none⟩) h.fm.lo.1 _, h.nx, (h.bk.set_other (a := ⟨gf, s * 130 + l * 2, none⟩) hne _).set_other (a := ⟨gf, s * 130 + l * 2 + 1, none⟩) hne _, h.fm.put hl, h.lo⟩
theorem cc_zero : cc 0 = #[.int .u64 0, .bool true] := by
  unfold cc
  rw [sN_of (show 0 < T64 by decide), sB_of (show 0 < T64 by decide)]
  rfl
/-- Blocks of a table. -/
abbrev Stb (tb gf : Nat) (g : Nat) : Prop := g = tb ∨ g = gf
set_option maxHeartbeats 4000000 in
set_option maxRecDepth 20000 in
theorem words_any {w0 w : World} {tb gf n k l : Nat} {vN : Value} {d : Dd} {x : Int} (h : Tbl w0 w tb gf n k vN d (TT d.to d.lab x k)) (hd : d.Ok) (hn : d.nx.length = n) (hl : l ≤ 64) (_hk : k ≤ 64) :
    Calls Tryd.prog 75 #[.pointer (some ⟨tb, 0, none⟩), .int .i64 (l : Int)] w fun e w' =>
      ∃ k', k' = max k l ∧ e = .returned (cv (cnt d.to d.lab x l 0)) ∧ Tbl w0 w' tb gf n k' vN d (TT d.to d.lab x k') ∧ Fr (Stb tb gf) w w' := by
  have hp : 0 < n := by rw [← hn]; exact hd.pos
  have h6 : n ≤ 600 := by rw [← hn]; exact hd.le
  have HE0 := Lib.hid h.ex.size
  have hx := ext_box w #[.int .u64 0, .bool false] 117
  have HR := Lib.hid (Blk.new w #[.int .u64 0, .bool false] 117)
  have HT := Lib.hid (h.ext hx)
  have HX := Lib.hid hx
  have HO := Lib.hid hd
  have HN := Lib.hid hn
  have HTL := Lib.hid (And.intro h.bk.lt (h.fm.lo.2))
  clear h hx hd hn
  go_enter Tryd.func75, Tryd.ntmps75
  go_wp2_with fail
  obtain ⟨rb, hrb⟩ : ∃ b, w.heap.size = b := ⟨_, rfl⟩
  simp only [hrb] at HR ⊢
  have HTL : Hid (tb < rb ∧ gf < rb) := by rw [hrb] at HTL; exact HTL
  have HRB := Lib.hid hrb
  have HRL : Hid (w0.heap.size ≤ rb) := Lib.hid (by rw [← hrb]; exact HE0.out)
  generalize w.alloc (.cells #[.int .u64 0, .bool false] 117) = w1 at *
  clear hrb
  have HF0 := Lib.hid (Fr.of_ext (S := Stb tb gf) HX.out)
  go_loopw [] (fun wr => ∃ j : Nat, k ≤ j ∧ j ≤ max k l ∧ Hid (Tbl w0 wr tb gf n j vN d (TT d.to d.lab x j)) ∧ Hid (Fr (Stb tb gf) w wr) ∧ Hid (Blk wr rb #[.int .u64 0, .bool false] 117)) (fun wr => l - knw wr tb)
  case atStart => exact ⟨k, Nat.le_refl _, by omega, HT, HF0, HR⟩
  case round =>
    clear HT HF0 HR
    obtain ⟨j, hkj, hjl, hT, hF, hR⟩ := hrel
    by_cases hj : j < l
    · have HK0 := Lib.hid hT.out.knw
      have z2 := hT.out.bk.cell 2
      have f2 := hT.out.bk.free 2
      have T2 : Hid (Tbl w0 (wr.setCell ⟨tb, 2, none⟩ (.int .i64 ((j : Int) + 1))) tb gf n (j + 1) vN d (TI d.to d.lab x j 0)) := Lib.hid ((hT.out.known (k' := j + 1)).same (fun s l _ _ => TI_zero s l))
      have F2 := Lib.hid (hF.out.set (b := tb) (i := 2) (.inl (.inl rfl)) (.int .i64 ((j : Int) + 1)))
      have R2 := Lib.hid (hR.out.set_other (a := ⟨tb, 2, none⟩) (show tb ≠ rb by have := HTL.out.1; omega) (.int .i64 ((j : Int) + 1)))
      go_upto_region 3 with fail
      clear z2 f2 hT hF hR
      generalize wr.setCell ⟨tb, 2, none⟩ (.int .i64 ((j : Int) + 1)) = w2 at *
      have z1 := T2.out.bk.cell 1
      go_wp2_with fail
      clear z1
      go_loopw [25] (fun s25 wr => ∃ s : Nat, s ≤ n ∧ s25 = .int .i64 s ∧ Hid (Tbl w0 wr tb gf n (j + 1) vN d (TI d.to d.lab x j s)) ∧ Hid (Fr (Stb tb gf) w wr) ∧ Hid (Blk wr rb #[.int .u64 0, .bool false] 117)) (fun s25 _ => n - (intOf s25).toNat)
      case atStart => exact ⟨0, Nat.zero_le _, rfl, T2, F2, R2⟩
      case round =>
        clear T2 F2 R2
        obtain ⟨s, hs, rfl, hT, hF, hR⟩ := hrel
        by_cases hsn : s < n
        · go_wp2_with fail
          refine (exactly_zero _).mono ?_
          rintro e w3 ⟨rfl, e3⟩
          have x3 := ext_box w3 #[.int .u64 0, .bool true] 117
          have B4 := Lib.hid (show Blk (w3.alloc (.cells #[.int .u64 0, .bool true] 117)) w3.heap.size (cc 0) 117 by rw [cc_zero]; exact Blk.new w3 _ _)
          have T4 := Lib.hid (hT.out.ext (bel_call e3 x3))
          have R4 := Lib.hid (hR.out.ext (bel_call e3 x3))
          have F4 := Lib.hid (hF.out.trans (Fr.of_ext (S := fun _ => False) (bel_call e3 x3)) (fun _ _ q => q.elim))
          have hlo : w0.heap.size ≤ w3.heap.size := (bel_call hT.out.ex e3).size
          have hrs : w.heap.size ≤ w3.heap.size := Nat.le_trans hF.out.2.2.2.1 e3.size
          have hrb3 : rb < w3.heap.size := (hR.out.ext e3).lt
          go_upto_region 7 with fail
          clear hT hF hR e3 x3
          obtain ⟨sb, hsb⟩ : ∃ g, w3.heap.size = g := ⟨_, rfl⟩
          simp only [hsb] at B4 hlo hrs hrb3 ⊢
          clear hsb
          generalize w3.alloc (.cells #[.int .u64 0, .bool true] 117) = w4 at *
          have z2 := T4.out.bk.cell 2
          have HBel := Lib.hid (below_any (b := 256) (m := j) (f := fun t => cnt d.to d.lab x j t) T4.out HO.out HN.out hsn (Nat.le_refl _) (by omega) (fun t _ => if_pos (Or.inl (Nat.le_refl _))) B4.out hlo)
          go_wp2_with fail
          refine HBel.out.mono ?_
          rintro e w5 ⟨rfl, hb5, hf5⟩
          have T5 := Lib.hid (T4.out.fr hf5 (fun g q => by rw [q]; exact hlo) (fun e => T4.out.bk.ne_sb B4.out (by decide) e) (fun e => T4.out.fm.ne_blk B4.out (by decide) e))
          have R5 := Lib.hid (hf5.blk R4.out (fun e => by omega))
          have F5 := Lib.hid (F4.out.trans hf5 (fun g hg q => by omega))
          have B5 : Hid (Blk w5 sb (cc (cnt d.to d.lab x (j + 1) s)) 117) := Lib.hid (by rw [Nat.zero_add] at hb5; exact hb5)
          clear T4 R4 F4 B4 hb5 hf5 HBel z2
          go_upto_region 8 with fail
          refine G.wp_region_tail (G := Ext) (fun _ => none) 12 (by kernel_rfl) (by kernel_rfl) (fun _ _ h => by cases h) (fun hex => ?_)
          simp only [List.take_succ_cons, List.take_zero, List.drop_succ_cons, List.drop_zero]
          iterate 12
            (refine G.wpS_one (A := ?_) hex rfl rfl (by simp) ?_ ?_ ?_
             rotate_left 2
             · intro w' hC K hK
               have z1 := (T5.out.bk.ext hC.1).cell 1; have z2 := (T5.out.bk.ext hC.1).cell 2; have y0 := (B5.out.ext hC.1).cell 0; have y1 := (B5.out.ext hC.1).cell 1
               go_wp2_with (fail)
               refine hK _ ?_
               first | exact Below.refl _ _ | assumption | ((repeat' (first | (with_reducible exact Below.refl _ _) | (with_reducible assumption) | (with_reducible refine below_drewN ?_ _) | (with_reducible refine Below.alloc ?_ ?_ _) | (with_reducible refine Below.drew ?_) | (with_reducible refine Below.setCell ?_ ?_ _) | (with_reducible refine Below.trans ?_ (Below.mono (by with_reducible assumption) ?_)) | go_size)))
             rotate_left 1
             · rfl
             clear hex; intro hex)
          refine G.wpS_nil fun w6 hAll => ?_
          have T6 := Lib.hid (T5.out.ext hAll.1)
          have R6 := Lib.hid (R5.out.ext hAll.1)
          have F6 := Lib.hid (F5.out.trans (Fr.of_ext (S := fun _ => False) hAll.1) (fun _ _ q => q.elim))
          have c0 := T6.out.fm.cell0 hsn (show j + 1 < 65 by omega)
          have c1 := T6.out.fm.cell1 hsn (show j + 1 < 65 by omega)
          have f0 := T6.out.fm.free (s * 130 + (j + 1) * 2)
          have f1 := T6.out.fm.free (s * 130 + (j + 1) * 2 + 1)
          clear hAll hex T5 R5 F5 B5
          have T7 := Lib.hid ((T6.out.put (s := s) (l := j + 1) (x := cnt d.to d.lab x (j + 1) s) (by omega)).same (fun s' l' _ _ => TI_step s' l'))
          have R7 := Lib.hid ((R6.out.set_other (a := ⟨gf, s * 130 + (j + 1) * 2, none⟩) (show gf ≠ rb by have := HTL.out.2; omega) (.int .u64 (sN (cnt d.to d.lab x (j + 1) s) : Nat))).set_other (a := ⟨gf, s * 130 + (j + 1) * 2 + 1, none⟩) (show gf ≠ rb by have := HTL.out.2; omega) (.bool (sB (cnt d.to d.lab x (j + 1) s))))
          have F7 := Lib.hid ((F6.out.set (b := gf) (i := s * 130 + (j + 1) * 2) (.inl (.inr rfl)) (.int .u64 (sN (cnt d.to d.lab x (j + 1) s) : Nat))).set (b := gf) (i := s * 130 + (j + 1) * 2 + 1) (.inl (.inr rfl)) (.bool (sB (cnt d.to d.lab x (j + 1) s))))
          go_upto_region 9 with fail
          clear c0 c1 f0 f1 T6 R6 F6
          generalize (w6.setCell ⟨gf, s * 130 + (j + 1) * 2, none⟩ (.int .u64 (sN (cnt d.to d.lab x (j + 1) s) : Nat))).setCell ⟨gf, s * 130 + (j + 1) * 2 + 1, none⟩ (.bool (sB (cnt d.to d.lab x (j + 1) s))) = w7 at *
          go_wp2_with fail
          go_roundw
          case rel => exact ⟨s + 1, by omega, by go_num, T7, F7, R7⟩
          case measure => simp [intOf]; omega
        · obtain rfl : n = s := by omega
          have T7 := Lib.hid (hT.out.same (fun s' l' hs' _ => TI_end s' l' hs'))
          have hkw := T7.out.knw
          have hkw0 := HK0.out
          clear hT
          go_wp2_with fail
          go_roundw
          case rel => exact ⟨j + 1, by omega, by omega, T7, hF, hR⟩
          case measure => rw [hkw, hkw0]; omega
    · have hjm : j = max k l := by omega
      have c0 := hT.out.fm.cell0 hp (show l < 65 by omega)
      have c1 := hT.out.fm.cell1 hp (show l < 65 by omega)
      rw [Nat.zero_mul, Nat.zero_add] at c0 c1
      have hTT : TT d.to d.lab x j 0 l = some (cnt d.to d.lab x l 0) := if_pos (by omega)
      rw [hTT] at c0 c1
      replace c0 : wr.cell? ⟨gf, l * 2, none⟩ = some (.int .u64 (sN (cnt d.to d.lab x l 0) : Nat)) := c0
      replace c1 : wr.cell? ⟨gf, l * 2 + 1, none⟩ = some (.bool (sB (cnt d.to d.lab x l 0))) := c1
      have z1 := hT.out.bk.cell 1
      have z2 := hT.out.bk.cell 2
      have y0 := hR.out.cell 0
      have y1 := hR.out.cell 1
      have f0 := hR.out.free 0
      have f1 := hR.out.free 1
      have T9 := Lib.hid (hT.out.fr ((Fr.refl (fun g => g = rb) wr |>.set (b := rb) (i := 0) (.inl rfl) (.int .u64 (sN (cnt d.to d.lab x l 0) : Nat))).set (b := rb) (i := 1) (.inl rfl) (.bool (sB (cnt d.to d.lab x l 0)))) (fun g q => by rw [q]; exact HRL.out) (fun e => by have := HTL.out.1; omega) (fun e => by have := HTL.out.2; omega))
      have F9 := Lib.hid ((hF.out.set (b := rb) (i := 0) (.inr (Nat.le_of_eq HRB.out)) (.int .u64 (sN (cnt d.to d.lab x l 0) : Nat))).set (b := rb) (i := 1) (.inr (Nat.le_of_eq HRB.out)) (.bool (sB (cnt d.to d.lab x l 0))))
      have B9 := (hR.out.set 0 (.int .u64 (sN (cnt d.to d.lab x l 0) : Nat))).set 1 (.bool (sB (cnt d.to d.lab x l 0)))
      have r0 := B9.cell 0
      have r1 := B9.cell 1
      clear hT hF hR B9
      have tj : decide ((j : Int) < (l : Int)) = false := decide_eq_false (by omega)
      have HJ := Lib.hid hjm
      clear hjm
      go_wp2_with fail
      refine bodyPost_ret (v := cv (cnt d.to d.lab x l 0)) (by simp [results, Tryd.results75, go_sem, r0, r1]) rfl ⟨j, HJ.out, rfl, T9.out, F9.out⟩
end Go.Proofs.YtniamfaiamgncaaDoor
