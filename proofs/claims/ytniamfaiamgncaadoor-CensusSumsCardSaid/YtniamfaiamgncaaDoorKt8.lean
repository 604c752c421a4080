/- Package census: the byte at which a place lies. -/
import Derived.Test.YtniamfaiamgncaaDoorKt7
namespace Go.Proofs.YtniamfaiamgncaaDoor
open Go Go.RowKit
/-- What the closure holds: the place, the table, how many bytes are left. -/
structure Cap (w0 w : World) (tb gf n kk : Nat) (vN : Value) (d : Dd) (x : Int) (kb tx lb m : Nat) : Prop where
  tbl : Tbl w0 w tb gf n kk vN d (TT d.to d.lab x kk)
  tx : Blk w tx #[.pointer (some ⟨tb, 0, none⟩)] 118
  lb : Blk w lb #[.int .i64 (m : Int)] 3
  kl : w0.heap.size ≤ kb
theorem Cap.fr {w0 w w' : World} {tb gf n kk : Nat} {vN : Value} {d : Dd} {x : Int} {kb tx lb m k : Nat} (h : Cap w0 w tb gf n kk vN d x kb tx lb m) (hk : Blk w kb (pcl k) 122) (hx : Fr (fun g => g = kb) w w') : Cap w0 w' tb gf n kk vN d x kb tx lb m :=
  ⟨h.tbl.fr hx (fun g q => by rw [q]; exact h.kl) (fun e => h.tbl.bk.ne_sb hk (by decide) e) (fun e => h.tbl.fm.ne_blk hk (by decide) e), hx.blk h.tx (fun e => h.tx.ne_sb hk (by decide) e), hx.blk h.lb (fun e => h.lb.ne_sb hk (by decide) e), h.kl⟩
set_option maxHeartbeats 2000000 in
set_option maxRecDepth 20000 in
theorem clo_any {w0 w : World} {tb gf n kk : Nat} {vN : Value} {d : Dd} {x : Int} {kb tx lb m k t : Nat} (h : Cap w0 w tb gf n kk vN d x kb tx lb m) (hk : Blk w kb (pcl k) 122) (hkT : k < T64) (ht : t < n) (hm : m ≤ kk) (hkk : kk ≤ 64) :
    Calls Tryd.prog 147 #[.int .i64 (t : Int), .pointer (some ⟨kb, 0, none⟩), .pointer (some ⟨tx, 0, none⟩), .pointer (some ⟨lb, 0, none⟩)] w fun e w' =>
      e = .returned (.bool (decide (k < cnt d.to d.lab x m t))) ∧ Blk w' kb (pcl (if k < cnt d.to d.lab x m t then k else k - cnt d.to d.lab x m t)) 122 ∧ Fr (fun g => g = kb) w w' := by
  have HH := Lib.hid h
  have HK := Lib.hid hk
  have HTT : Hid (TT d.to d.lab x kk t m = some (cnt d.to d.lab x m t)) := Lib.hid (if_pos hm)
  have hm65 : m < 65 := by omega
  obtain ⟨y, hy⟩ : ∃ y, cnt d.to d.lab x m t = y := ⟨_, rfl⟩
  rw [hy] at HTT ⊢
  have HWI := Lib.hid (fun w6 (hb : Blk w6 kb (pcl k) 122) => within_any kb k y w6 hb hkT)
  generalize (if k < y then k else k - y) = r at HWI ⊢
  generalize decide (k < y) = bb at HWI ⊢
  clear h hk hm hkk hy
  go_enter Tryd.func147, Tryd.ntmps147
  go_upto_region 1 with fail
  refine G.wp_region_tail (G := Ext) (fun _ => none) 9 (by kernel_rfl) (by kernel_rfl) (fun _ _ h => by cases h) (fun hex => ?_)
  simp only [List.take_succ_cons, List.take_zero, List.drop_succ_cons, List.drop_zero]
  iterate 9
    (refine G.wpS_one (A := ?_) hex rfl rfl (by simp) ?_ ?_ ?_
     rotate_left 2
     · intro w' hC K hK
       have q1 := (HH.out.tx.ext hC.1).cell 0; have q2 := (HH.out.lb.ext hC.1).cell 0; have z1 := (HH.out.tbl.bk.ext hC.1).cell 1; have c0 := (HH.out.tbl.fm.ext hC.1).cell0 ht hm65; have c1 := (HH.out.tbl.fm.ext hC.1).cell1 ht hm65; rw [HTT.out] at c0 c1
       go_wp2_with (fail)
       refine hK _ ?_
       first | exact Below.refl _ _ | assumption | ((repeat' (first | (with_reducible exact Below.refl _ _) | (with_reducible assumption) | (with_reducible refine below_drewN ?_ _) | (with_reducible refine Below.alloc ?_ ?_ _) | (with_reducible refine Below.drew ?_) | (with_reducible refine Below.setCell ?_ ?_ _) | (with_reducible refine Below.trans ?_ (Below.mono (by with_reducible assumption) ?_)) | go_size)))
     rotate_left 1
     · rfl
     clear hex; intro hex)
  refine G.wpS_nil fun w6 hAll => ?_
  have HW := Lib.hid (HWI.out w6 (HK.out.ext hAll.1))
  have HE := Lib.hid hAll.1
  clear hAll hex
  go_wp2_with fail
  refine HW.out.mono ?_
  rintro e w7 ⟨rfl, hb7, hf7⟩
  have B7 := Lib.hid hb7
  have F7 := Lib.hid ((Fr.of_ext (S := fun g => g = kb) HE.out).trans hf7 (fun _ _ q => q))
  clear hb7 hf7 HW HE
  go_wp2_with fail
  go_ret
  exact ⟨rfl, B7.out, F7.out⟩
theorem findB_step {f : Nat → Nat} {i k : Nat} (h : ¬ k < f i) (hi : i < 256) : findB f (256 - i) i k = findB f (256 - (i + 1)) (i + 1) (k - f i) := by
  rw [show 256 - i = (256 - (i + 1)) + 1 by omega, findB, if_neg h]
theorem findB_hit {f : Nat → Nat} {i k : Nat} (h : k < f i) (hi : i < 256) : findB f (256 - i) i k = (i, k) := by
  rw [show 256 - i = (256 - (i + 1)) + 1 by omega, findB, if_pos h]
/-- Where the search for a byte stands. -/
def FindI (f : Nat → Nat) (i k : Nat) (z : Nat × Nat) : Prop := k < T64 ∧ findB f (256 - i) i k = z ∧ k < sumB (fun c => f (i + c)) (256 - i)
theorem sumB_front (f : Nat → Nat) : ∀ m, sumB f (m + 1) = f 0 + sumB (fun i => f (i + 1)) m
  | 0 => by simp [sumB]
  | m + 1 => by rw [sumB, sumB_front f m, sumB]; omega
theorem FindI.step {f : Nat → Nat} {i k : Nat} {z : Nat × Nat} (h : FindI f i k z) (hi : i < 256) (hk : ¬ k < f i) : FindI f (i + 1) (k - f i) z := by
  obtain ⟨h1, h2, h3⟩ := h
  refine ⟨by omega, by rw [← findB_step hk hi]; exact h2, ?_⟩
  rw [show 256 - i = (256 - (i + 1)) + 1 by omega, sumB_front] at h3
  have e : sumB (fun c => f (i + (c + 1))) (256 - (i + 1)) = sumB (fun c => f (i + 1 + c)) (256 - (i + 1)) := sumB_congr fun c _ => by rw [show i + (c + 1) = i + 1 + c by omega]
  rw [e] at h3
  simp only [Nat.add_zero] at h3
  omega
theorem FindI.hit {f : Nat → Nat} {i k : Nat} {z : Nat × Nat} (h : FindI f i k z) (hi : i < 256) (hk : k < f i) : z = (i, k) := by
  rw [← h.2.1, findB_hit hk hi]
set_option maxHeartbeats 2000000 in
set_option maxRecDepth 20000 in
theorem idx_any {w0 w : World} {tb gf n kk : Nat} {vN : Value} {d : Dd} {x : Int} {kb tx lb m k s cap : Nat} {a : Option Addr} {L : List Int} (h : Cap w0 w tb gf n kk vN d x kb tx lb m) (hk : Blk w kb (pcl k) 122) (hkT : k < T64) (hm : m ≤ kk) (hkk : kk ≤ 64)
    (hL : Ints w0 (.slice a 256 cap) L) (hl : L.length = 256) (hto : ∀ (i : Nat) (h : i < L.length), L[i] = ((d.to s i : Nat) : Int)) (htl : ∀ c, c < 256 → d.to s c < n) (hks : k < cnt d.to d.lab x (m + 1) s) :
    Calls Tryd.prog 146 #[.slice a 256 cap, .func (.func 147) #[] #[.pointer (some ⟨kb, 0, none⟩), .pointer (some ⟨tx, 0, none⟩), .pointer (some ⟨lb, 0, none⟩)]] w fun e w' =>
      ∃ c k', findB (fun c => cnt d.to d.lab x m (d.to s c)) 256 0 k = (c, k') ∧ e = .returned (.int .i64 (c : Int)) ∧ Blk w' kb (pcl k') 122 ∧ Fr (fun g => g = kb) w w' := by
  have HH := Lib.hid h
  have HB := Lib.hid hk
  have HL := Lib.hid hL
  have HLL := Lib.hid hl
  have HTO := Lib.hid hto
  have HTL := Lib.hid htl
  obtain ⟨z, hz⟩ : ∃ z, findB (fun c => cnt d.to d.lab x m (d.to s c)) 256 0 k = z := ⟨_, rfl⟩
  have H0 := Lib.hid (show FindI (fun c => cnt d.to d.lab x m (d.to s c)) 0 k z from ⟨hkT, hz, by simp only [Nat.zero_add]; exact hks⟩)
  have HMK := Lib.hid (And.intro hm hkk)
  rw [hz]
  clear h hk hL hl hto htl hkT hks hm hkk hz
  go_enter Tryd.func146, Tryd.ntmps146
  go_wp2_with fail
  go_loopw [8] (fun s8 wr => ∃ i : Nat, i ≤ 256 ∧ s8 = .int .i64 i ∧ ∃ k', Hid (FindI (fun c => cnt d.to d.lab x m (d.to s c)) i k' z) ∧ Hid (Blk wr kb (pcl k') 122) ∧ Hid (Fr (fun g => g = kb) w wr)) (fun s8 _ => 256 - (intOf s8).toNat)
  case atStart => exact ⟨0, Nat.zero_le _, rfl, k, H0, HB, Lib.hid (Fr.refl _ _)⟩
  case round =>
    clear H0
    obtain ⟨i, hi, rfl, k', hI, hK, hF⟩ := hrel
    by_cases hi6 : i < 256
    · have hil : i < L.length := by rw [HLL.out]; exact hi6
      obtain ⟨bE, oE, rfl, hbE, hcE, -⟩ := HL.out.cell hil
      rw [HTO.out i hil] at hcE
      have ht : d.to s i < n := HTL.out i hi6
      obtain ⟨t, htq⟩ : ∃ t, d.to s i = t := ⟨_, rfl⟩
      rw [htq] at hcE ht
      have hC := HH.out.fr HB.out hF.out
      have y1 := (hC.tbl.ex.cell (p := ⟨bE, oE + i, none⟩) hbE).trans hcE
      have HCl := Lib.hid (clo_any hC hK.out hI.out.1 ht HMK.out.1 HMK.out.2)
      have HTQ := Lib.hid htq
      clear hC hcE htq hil
      go_wp2_with fail
      refine HCl.out.mono ?_
      rintro e w7 ⟨rfl, hb7, hf7⟩
      have F7 := Lib.hid (hF.out.trans hf7 (fun _ _ q => q))
      by_cases q : k' < cnt d.to d.lab x m t
      · have hz := hI.out.hit hi6 (by rw [HTQ.out]; exact q)
        subst hz
        rw [if_pos q] at hb7
        have B7 := Lib.hid hb7
        have e1 : decide (k' < cnt d.to d.lab x m t) = true := decide_eq_true q
        rw [e1]
        clear hb7 hf7 HCl y1 hK hF hI q e1
        go_wp2_with fail
        go_ret
        exact ⟨i, k', rfl, rfl, B7.out, F7.out⟩
      · have I9 := Lib.hid (hI.out.step hi6 (by rw [HTQ.out]; exact q))
        rw [if_neg q] at hb7
        have e1 : decide (k' < cnt d.to d.lab x m t) = false := decide_eq_false q
        rw [e1]
        have B9 : Hid (Blk w7 kb (pcl (k' - cnt d.to d.lab x m (d.to s i))) 122) := Lib.hid (by rw [HTQ.out]; exact hb7)
        clear hb7 hf7 HCl y1 hK hF hI q e1
        go_wp2_with fail
        go_roundw
        case rel => exact ⟨i + 1, by omega, by go_num, _, I9, B9, F7⟩
        case measure => simp [intOf]; omega
    · exfalso
      obtain rfl : i = 256 := by omega
      have := hI.out.2.2
      simp [sumB] at this
end Go.Proofs.YtniamfaiamgncaaDoor
