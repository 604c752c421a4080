/- What wakes layer 8. -/
import Derived.Test.YtnmdfhnfheekgaaDoorCs
namespace Go.Proofs.YtnmdfhnfheekgaaDoor
open Go Go.RowKit
def sA : Xp := .mk 2 0 (1#256 <<< 97) .empty 0 0 []
def sB : Xp := .mk 2 0 (1#256 <<< 98) .empty 0 0 []
def sR : Xp := .mk 7 0 0#256 .empty 0 (-1) [sA]
set_option maxRecDepth 20000 in
theorem set_a (w : World) : Calls Tryd.prog 27 #[.int .u8 97] w fun e w' => e = .returned (xv sA none 0) ∧ Ext w w' := by
  go_enter Tryd.func27, Tryd.ntmps27
  go_wp2_with fail
  refine bodyPost_ret (v := xv sA none 0) ?_ rfl ⟨rfl, by go_grown⟩
  simp [results, Tryd.results27, go_sem]
  repeat' (first | apply And.intro | kernel_rfl)
set_option maxRecDepth 20000 in
theorem set_b (w : World) : Calls Tryd.prog 27 #[.int .u8 98] w fun e w' => e = .returned (xv sB none 0) ∧ Ext w w' := by
  go_enter Tryd.func27, Tryd.ntmps27
  go_wp2_with fail
  refine bodyPost_ret (v := xv sB none 0) ?_ rfl ⟨rfl, by go_grown⟩
  simp [results, Tryd.results27, go_sem]
  repeat' (first | apply And.intro | kernel_rfl)
theorem fok_s (s : BitVec 256) : Fok (.mk 2 0 s .empty 0 0 []) := ⟨rfl, rfl, .inr (.inl ⟨rfl, rfl, rfl, rfl⟩)⟩
theorem fok_r : Fok sR := ⟨rfl, rfl, .inr (.inr (.inr ⟨rfl, rfl, rfl, .inl ⟨rfl, .inl rfl⟩⟩))⟩
theorem chk_s (s : BitVec 256) : Chk (.mk 2 0 s .empty 0 0 []) := by
  unfold Chk
  rw [mb_eq, if_neg (by rintro (h | h | h); exact absurd h (by decide); exact absurd h (by decide); exact h (fok_s s))]
  rfl
theorem chk_r : Chk sR := by
  unfold Chk
  rw [mb_eq, if_neg (by rintro (h | h | h); exact absurd h (by decide); exact absurd h (by decide); exact h fok_r)]
  show (mbs [sA] _ _).isSome = true
  simp only [mbs, sA]
  rw [mb_eq, if_neg (by rintro (h | h | h); exact absurd h (by decide); exact absurd h (by decide); exact h (fok_s _))]
  rfl
theorem wo_a : wo sA = .bounded 1 1 := by kernel_rfl
theorem wo_b : wo sB = .bounded 1 1 := by kernel_rfl
theorem wo_r : wo sR = .endless 0 := by kernel_rfl
theorem ln_a (aA : Addr) : lnv sA = .agg #[.bool false, .int .i64 1, .int .i64 1] ∧ lne sA aA = .nilIface := by
  unfold lnv lne; rw [if_pos (show Chk sA from chk_s _), if_pos (show Chk sA from chk_s _), wo_a]; exact ⟨rfl, rfl⟩
theorem ln_r (aA : Addr) : lnv sR = .agg #[.bool false, .int .i64 0, .int .i64 (-1)] ∧ lne sR aA = .nilIface := by
  unfold lnv lne; rw [if_pos chk_r, if_pos chk_r, wo_r]; exact ⟨rfl, rfl⟩
def sC : Cr := ⟨sA, true, sB⟩
theorem cut_c : cut1 sC = some (1, 1) := by
  unfold cut1; rw [if_neg (by simp [sC])]
  show (if (wo sA).emp = true then none else if (wo sB).ol.2 = true then some (1, (wo sB).ol.1) else if (wo sA).ol.2 = true then some (2, max (wo sA).ol.1 1) else none) = _
  rw [wo_a, wo_b]; rfl
theorem mays_c : Mays [sC] := by
  refine ⟨by decide, fun r hr => ?_⟩
  rcases List.mem_cons.1 hr with rfl | hr
  · refine ⟨chk_s _, ?_⟩
    unfold Tmb; rw [if_pos (show sC.ht = true from rfl)]; exact chk_s _
  · cases hr
theorem xok_s (s : BitVec 256) : Xok (.mk 2 0 s .empty 0 0 []) := by
  unfold Xok I64; simp only [Xp.op, Xp.at_, Xp.mn, Xp.mx, Xp.text]; decide
theorem Xat.one {w : World} {y : Xp} {a : Option Addr} {c b : Nat} {t : TypeId} (hb : Blk w b (xbx y a c) t) (hk : Xok y) (h : Xat w w.heap.size a c y.args) : Xat w w.heap.size (some ⟨b, 0, none⟩) 1 [y] :=
  .put b 0 1 [y] (fun _ => a) (fun _ => c) (by simp) (by decide) hb.lt (fun z hz => by rcases List.mem_cons.1 hz with rfl | hz; exact hk; cases hz)
    (fun i hi j hj => by
      obtain rfl : i = 0 := by simp at hi; omega
      rw [hb.cell]
      simp only [List.getElem_cons_zero]
      show (xbx y a c)[0 + 0 * 10 + j]? = (xcs y a c)[j]?
      rw [show 0 + 0 * 10 + j = j by omega]
      show (xcs y a c).toArray[j]? = _
      simp)
    (fun i hi => by
      obtain rfl : i = 0 := by simp at hi; omega
      exact h)
theorem Cat.one {w : World} {r : Cr} {a : Option Addr} {c : Nat} {a' : Option Addr} {c' b : Nat} {t : TypeId} (hb : Blk w b (cbx r a c a' c') t) (hk : Xok r.h) (hk' : Xok r.t) (h : Xat w w.heap.size a c r.h.args) (h' : Xat w w.heap.size a' c' r.t.args) : Cat w w.heap.size (some ⟨b, 0, none⟩) 1 [r] :=
  ⟨by simp, by decide, .inr ⟨b, 0, rfl, hb.lt, fun _ => a, fun _ => c, fun _ => a', fun _ => c', fun i hi => by
    obtain rfl : i = 0 := by simp at hi; omega
    refine ⟨hk, hk', fun j hj => ?_, h, h'⟩
    rw [hb.cell, show 0 + 0 * 21 + j = j by omega]
    simp only [List.getElem_cons_zero]
    simp⟩⟩
set_option maxHeartbeats 4000000 in
set_option maxRecDepth 20000 in
theorem wakes8_any (aA aT : Addr) (w : World) (hA : Ag w aA aT) : Calls Tryd.prog 13 #[] w fun e w' => e = .returned (.bool true) ∧ Ext w w' := by
  have HA := Lib.hid hA
  have hsa := set_a
  have hsb := set_b
  have q1 : ∀ w, (Op.equalIn 10000 31 (.agg #[.bool false, .int .i64 1, .int .i64 1]) (.agg #[.bool false, .int .i64 1, .int .i64 1])).run Tryd.prog w = .ok true w := fun w => by kernel_rfl
  have q2 : ∀ w, (Op.equalIn 10000 31 (.agg #[.bool false, .int .i64 0, .int .i64 (-1)]) (.agg #[.bool false, .int .i64 0, .int .i64 (-1)])).run Tryd.prog w = .ok true w := fun w => by kernel_rfl
  have q3 : ∀ w, (Op.equalIn 10000 64 (.agg #[.int .i64 1, .int .i64 1]) (.agg #[.int .i64 1, .int .i64 1])).run Tryd.prog w = .ok true w := fun w => by kernel_rfl
  clear hA
  go_enter Tryd.func13, Tryd.ntmps13
  go_wp2_with fail
  refine (hsa _).mono ?_
  rintro e w1 ⟨rfl, x1⟩
  have X1 := Lib.hid x1
  clear x1
  go_wp2_with fail
  have hO1 := lenof_any sA none 0 aA aT w1 (.nil _ _ (by decide)) (HA.out.ext X1.out)
  rw [(ln_a aA).1, (ln_a aA).2] at hO1
  refine hO1.mono ?_
  rintro e w2 ⟨rfl, x2⟩
  have hd1 := Blk.new w2 #[.bool false, .int .i64 1, .int .i64 1] 31
  have HD1 := Lib.hid hd1
  have hE2 : Ext w2 (w2.alloc (.cells #[.bool false, .int .i64 1, .int .i64 1] 31)) := by go_grown
  have X2 := Lib.hid (bel_call (bel_call X1.out x2) hE2)
  clear x2 hE2 hO1 hd1
  go_wp2_with fail
  generalize w2.alloc (.cells #[.bool false, .int .i64 1, .int .i64 1] 31) = w3 at *
  refine (hsa _).mono ?_
  rintro e w4 ⟨rfl, x4⟩
  have hbR := Blk.new w4 (xbx sA none 0) 28
  have hE4 : Ext w4 (w4.alloc (.cells (xbx sA none 0) 28)) := by go_grown
  have X4 := Lib.hid (bel_call (bel_call X2.out x4) hE4)
  have HD4 := Lib.hid ((HD1.out.ext x4).ext hE4)
  have HXR := Lib.hid (Xat.one hbR (xok_s _) (.nil _ _ (by decide)))
  clear x4 hE4 hbR HD1
  go_wp2_with fail
  have hO2 := lenof_any sR (some ⟨w4.heap.size, 0, none⟩) 1 aA aT _ HXR.out (HA.out.ext X4.out)
  rw [(ln_r aA).1, (ln_r aA).2] at hO2
  refine Calls.mono hO2 ?_
  rintro e w5 ⟨rfl, x5⟩
  have hd2 := Blk.new w5 #[.bool false, .int .i64 0, .int .i64 (-1)] 31
  have hE5 : Ext w5 (w5.alloc (.cells #[.bool false, .int .i64 0, .int .i64 (-1)] 31)) := by go_grown
  have X5 := Lib.hid (bel_call (bel_call X4.out x5) hE5)
  have HD5 := Lib.hid ((HD4.out.ext x5).ext hE5)
  have HF5 := Lib.hid hd2
  clear x5 hE5 hO2 hd2 HD4
  go_wp2_with fail
  generalize w5.alloc (.cells #[.bool false, .int .i64 0, .int .i64 (-1)] 31) = w6 at *
  refine (hsa _).mono ?_
  rintro e w7 ⟨rfl, x7⟩
  go_wp2_with fail
  refine (hsb _).mono ?_
  rintro e w8 ⟨rfl, x8⟩
  have hbC := Blk.new w8 (cbx sC none 0 none 0) 48
  have hE8 : Ext w8 (w8.alloc (.cells (cbx sC none 0 none 0) 48)) := by go_grown
  have X8 := Lib.hid (bel_call (bel_call (bel_call X5.out x7) x8) hE8)
  have HD8 := Lib.hid (((HD5.out.ext x7).ext x8).ext hE8)
  have HF8 := Lib.hid (((HF5.out.ext x7).ext x8).ext hE8)
  have HCA := Lib.hid (Cat.one hbC (xok_s _) (xok_s _) (.nil _ _ (by decide)) (.nil _ _ (by decide)))
  clear x7 x8 hE8 hbC HD5 HF5
  go_wp2_with fail
  have hO3 := cuts_any [sC] (some ⟨w8.heap.size, 0, none⟩) 1 aA aT _ HCA.out (HA.out.ext X8.out)
  refine Calls.mono hO3 ?_
  rintro e w9 ⟨hres, x9⟩
  have hd9 := HD8.out.ext x9
  have hf9 := HF8.out.ext x9
  have X9 := Lib.hid (bel_call X8.out x9)
  clear x9 hO3 HD8 HF8
  rcases hres with ⟨h, _⟩ | ⟨_, i, hi, hc, _⟩ | ⟨_, _, v, rfl, hown⟩
  · exact absurd mays_c h
  · obtain rfl : i = 0 := by simp at hi; omega
    rw [List.getElem_cons_zero, cut_c] at hc
    cases hc
  · obtain ⟨y0, y1, y2⟩ := hd9.cells3
    obtain ⟨z0, z1, z2⟩ := hf9.cells3
    have hown' := hown
    obtain ⟨_, ⟨_, h0⟩ | ⟨g, cap, cur, rfl, hgb, hg, hg1, hg2, hg3, hg4⟩⟩ := hown
    · simp at h0
    · have hcl := hown'.cells (g := g) rfl
      have u0 := hcl 0 (.int .i64 1) (by rw [show cutk [sC] = [(1, 1)] by simp [cutk, cut_c]]; rfl)
      have u1 := hcl 1 (.int .i64 1) (by rw [show cutk [sC] = [(1, 1)] by simp [cutk, cut_c]]; rfl)
      rw [add_off] at u0 u1
      simp only [Nat.zero_add] at u0 u1
      clear hcl hown' hd9 hf9 hgb hg hg1 hg2 hg3 hg4
      go_wp2_with fail
      go_ret
      exact ⟨rfl, X9.out⟩
end Go.Proofs.YtnmdfhnfheekgaaDoor
