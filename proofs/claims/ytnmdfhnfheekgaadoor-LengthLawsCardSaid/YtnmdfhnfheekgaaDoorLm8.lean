/- LengthLaws: the walk up to the answers. -/
import Derived.Test.YtnmdfhnfheekgaaDoorLl8
namespace Go.Proofs.YtnmdfhnfheekgaaDoor
open Go Go.RowKit
theorem wk_call {aA aT : Addr} {w w8 W : World} (h : ∀ w, Ag w aA aT → Calls Tryd.prog 13 #[] w fun e w' => e = .returned (.bool true) ∧ Ext w w') (hA : Ag w8 aA aT) (X8 : Ext w w8) (hE : Ext w8 W) :
    Calls Tryd.prog 13 #[] W fun e w' => e = .returned (.bool true) ∧ Ext w w' :=
  (h W (hA.ext hE)).mono fun _ _ ⟨e, x⟩ => ⟨e, bel_call (bel_call X8 hE) x⟩
theorem lnv_shape (x : Xp) : ∃ (n : Bool) (l m : Int), lnv x = .agg #[.bool n, .int .i64 l, .int .i64 m] := by
  unfold lnv
  split
  · cases wo x with
    | none => exact ⟨_, _, _, rfl⟩
    | bounded l m => exact ⟨_, _, _, rfl⟩
    | endless l => exact ⟨_, _, _, rfl⟩
  · exact ⟨_, _, _, rfl⟩
set_option maxHeartbeats 8000000 in
set_option maxRecDepth 20000 in
theorem laws_any (A B : Xp) (a : Option Addr) (c : Nat) (a' : Option Addr) (c' : Nat) (aA aT : Addr) (w : World) (hkA : Xok A) (hkB : Xok B) (hx : Xat w w.heap.size a c A.args) (hy : Xat w w.heap.size a' c' B.args) (hA : Ag w aA aT) :
    Calls Tryd.prog 5 #[tv A B a c a' c'] w fun e w' => e = .returned (.bool true) ∧ Ext w w' := by
  have hE : Ext w (w.alloc (.cells (tcs A B a c a' c').toArray 59)) := by go_grown
  have HE := Lib.hid hE
  have HB := Lib.hid (Blk.new w (tcs A B a c a' c').toArray 59)
  have HX := Lib.hid (hx.ext hE)
  have HY := Lib.hid (hy.ext hE)
  have HA := Lib.hid (hA.ext hE)
  have HS1 := Lib.hid (fun w h => size_any A 0 0 a c w rfl (by omega) h)
  have HS2 := Lib.hid (fun w h => size_any B 0 0 a' c' w rfl (by omega) h)
  have hs1 := sz_le A 0 (by omega)
  have hs2 := sz_le B 0 (by omega)
  have HWK := Lib.hid (fun w h => wakes8_any aA aT w h)
  have HK := Lib.hid (And.intro hkA hkB)
  have hn1 := sz_nn A 0
  have hn2 := sz_nn B 0
  generalize sz A 0 = SA at *
  generalize sz B 0 = SB at *
  have hn1h := Lib.hid hn1
  have hn2h := Lib.hid hn2
  clear hx hy hA hE hkA hkB hn1 hn2
  go_enter Tryd.func5, Tryd.ntmps5
  go_wp2_with fail
  generalize w.alloc (.cells (tcs A B a c a' c').toArray 59) = wa at *
  have hsum : (SA : Int) + (SB : Int) ≤ 20000000000 := by omega
  refine wp_region_stab (fun _ => none) (by kernel_rfl) (by kernel_rfl) (fun _ _ h => by cases h) (fun hex => ?_)
  iterate 8
    (refine wpS_one (A := ?_) hex rfl rfl (by simp) ?_ ?_ ?_
     rotate_left 2
     · intro w' hC K hK
       obtain ⟨hcell, hfrz⟩ := bcell hC.1.ext
       have HXE := HX.out.ext hC.1.ext; have HYE := HY.out.ext hC.1.ext; obtain ⟨z0, z1, z2, z3, z4, z5, z6, z7, z8, z9, z10, z11, z12, z13, z14, z15, z16, z17, z18, z19⟩ := (HB.out.ext hC.1.ext).cells20; clear hcell hfrz
       go_wp2_with (go_at_call 7; first | (with_reducible refine (HS1.out _ HXE).mono ?_; rintro e w2 ⟨rfl, hb2⟩) | (with_reducible refine (HS2.out _ HYE).mono ?_; rintro e w2 ⟨rfl, hb2⟩))
       refine hK _ ?_
       first | exact Gr.refl _ _ | exact Gr.of_ext (by assumption) hC.1.1.size
     rotate_left 1
     · rfl
     clear hex; intro hex)
  refine wpS_nil fun w6 hE => ?_
  replace hE := hE.1.ext
  obtain ⟨hcell_w6, hfrz_w6⟩ := bcell hE
  have HE6 := Lib.hid hE
  clear hE
  by_cases hbig : 20000 < SA + SB
  · have d1 : decide ((20000 : Int) < (SA : Int) + (SB : Int)) = true := by simp; omega
    as_aux_lemma =>
      go_wp2_with fail
      refine (HWK.out _ (HA.out.ext HE6.out)).mono ?_
      rintro e w7 ⟨rfl, x7⟩
      have X7 := Lib.hid (bel_call (bel_call HE.out HE6.out) x7)
      clear x7
      go_wp2_with fail
      go_ret
      exact ⟨rfl, X7.out⟩
  · have d1 : decide ((20000 : Int) < (SA : Int) + (SB : Int)) = false := by simp; omega
    have hnA : SA = nn A := hn1h.out (by omega)
    have hnB : SB = nn B := hn2h.out (by omega)
    have hN1 := Lib.hid (show ∀ w, Xat w w.heap.size a c A.args → Calls Tryd.prog 7 #[xv A a c, .int .i64 0] w (fun e w' => e = .returned (.int .i64 (nn A : Nat)) ∧ Ext w w') from by rw [← hnA]; exact HS1.out)
    have hN2 := Lib.hid (show ∀ w, Xat w w.heap.size a' c' B.args → Calls Tryd.prog 7 #[xv B a' c', .int .i64 0] w (fun e w' => e = .returned (.int .i64 (nn B : Nat)) ∧ Ext w w') from by rw [← hnB]; exact HS2.out)
    have hNN := Lib.hid (show nn A + nn B ≤ 20000 by omega)
    clear hn1h hn2h hs1 hs2 HS1 HS2 hsum hnA hnB hex hcell_w6 hfrz_w6
    obtain ⟨nA, lA, mA, hvA⟩ := lnv_shape A
    obtain ⟨eA, heA⟩ : ∃ e, lne A aA = e := ⟨_, rfl⟩
    have HVA := Lib.hid hvA
    have HVA' := Lib.hid heA
    clear hvA heA
    obtain ⟨nB, lB, mB, hvB⟩ := lnv_shape B
    obtain ⟨eB, heB⟩ : ∃ e, lne B aA = e := ⟨_, rfl⟩
    have HVB := Lib.hid hvB
    have HVB' := Lib.hid heB
    clear hvB heB
    obtain ⟨nC, lC, mC, hvC⟩ := lnv_shape (xcat 5 A B)
    obtain ⟨eC, heC⟩ : ∃ e, lne (xcat 5 A B) aA = e := ⟨_, rfl⟩
    have HVC := Lib.hid hvC
    have HVC' := Lib.hid heC
    clear hvC heC
    obtain ⟨nF, lF, mF, hvF⟩ := lnv_shape (xcat 6 A B)
    obtain ⟨eF, heF⟩ : ∃ e, lne (xcat 6 A B) aA = e := ⟨_, rfl⟩
    have HVF := Lib.hid hvF
    have HVF' := Lib.hid heF
    clear hvF heF
    obtain ⟨nS, lS, mS, hvS⟩ := lnv_shape (xstar A)
    obtain ⟨eS, heS⟩ : ∃ e, lne (xstar A) aA = e := ⟨_, rfl⟩
    have HVS := Lib.hid hvS
    have HVS' := Lib.hid heS
    clear hvS heS
    have XE0 := Lib.hid (bel_call HE.out HE6.out)
    have HB0 := Lib.hid (HB.out.ext HE6.out)
    have HX0 := Lib.hid (HX.out.ext HE6.out)
    have HY0 := Lib.hid (HY.out.ext HE6.out)
    have HA0 := Lib.hid (HA.out.ext HE6.out)
    clear HE6 HE HB HX HY HA
    obtain ⟨z0, z1, z2, z3, z4, z5, z6, z7, z8, z9, z10, z11, z12, z13, z14, z15, z16, z17, z18, z19⟩ := Blk.cells20 HB0.out
    go_wp2_with fail
    clear z0 z1 z2 z3 z4 z5 z6 z7 z8 z9 z10 z11 z12 z13 z14 z15 z16 z17 z18 z19
    have hO := lenof_any A a c aA aT w6 HX0.out HA0.out
    rw [HVA.out, HVA'.out] at hO
    refine Calls.mono hO ?_
    rintro e u0 ⟨rfl, x0⟩
    clear hO
    have y0 : Ext w6 u0 := x0
    have hd := Blk.new u0 #[.bool nA, .int .i64 lA, .int .i64 mA] 31
    have hEd : Ext w6 (u0.alloc (.cells #[.bool nA, .int .i64 lA, .int .i64 mA] 31)) := bel_call y0 (by go_grown)
    have XE1 := Lib.hid (bel_call XE0.out hEd)
    have HB1 := Lib.hid (HB0.out.ext hEd)
    have HX1 := Lib.hid (HX0.out.ext hEd)
    have HY1 := Lib.hid (HY0.out.ext hEd)
    have HA1 := Lib.hid (HA0.out.ext hEd)
    have DA1 := Lib.hid hd
    clear hd hEd x0 y0 XE0 HB0 HX0 HY0 HA0
    go_upto_region 4 with fail
    generalize u0.alloc (.cells #[.bool nA, .int .i64 lA, .int .i64 mA] 31) = V1 at *
    obtain ⟨z0, z1, z2, z3, z4, z5, z6, z7, z8, z9, z10, z11, z12, z13, z14, z15, z16, z17, z18, z19⟩ := Blk.cells20 HB1.out
    go_wp2_with fail
    clear z0 z1 z2 z3 z4 z5 z6 z7 z8 z9 z10 z11 z12 z13 z14 z15 z16 z17 z18 z19
    have hO := lenof_any B a' c' aA aT V1 HY1.out HA1.out
    rw [HVB.out, HVB'.out] at hO
    refine Calls.mono hO ?_
    rintro e u1 ⟨rfl, x1⟩
    clear hO
    have y1 : Ext V1 u1 := x1
    have hd := Blk.new u1 #[.bool nB, .int .i64 lB, .int .i64 mB] 31
    have hEd : Ext V1 (u1.alloc (.cells #[.bool nB, .int .i64 lB, .int .i64 mB] 31)) := bel_call y1 (by go_grown)
    have XE2 := Lib.hid (bel_call XE1.out hEd)
    have HB2 := Lib.hid (HB1.out.ext hEd)
    have HX2 := Lib.hid (HX1.out.ext hEd)
    have HY2 := Lib.hid (HY1.out.ext hEd)
    have HA2 := Lib.hid (HA1.out.ext hEd)
    have DA2 := Lib.hid (DA1.out.ext hEd)
    have DB2 := Lib.hid hd
    clear hd hEd x1 y1 XE1 HB1 HX1 HY1 HA1 DA1
    go_upto_region 5 with fail
    generalize u1.alloc (.cells #[.bool nB, .int .i64 lB, .int .i64 mB] 31) = V2 at *
    obtain ⟨z0, z1, z2, z3, z4, z5, z6, z7, z8, z9, z10, z11, z12, z13, z14, z15, z16, z17, z18, z19⟩ := Blk.cells20 HB2.out
    go_wp2_with fail
    clear z0 z1 z2 z3 z4 z5 z6 z7 z8 z9 z10 z11 z12 z13 z14 z15 z16 z17 z18 z19
    have hb := Blk.new V2 (tcs A B a c a' c').toArray 28
    have hEb : Ext V2 (V2.alloc (.cells (tcs A B a c a' c').toArray 28)) := by go_grown
    have hO := lenof_any (xcat 5 A B) (some ⟨V2.heap.size, 0, none⟩) 2 aA aT _ (Xat.two hb HK.out.1 HK.out.2 (HX2.out.ext hEb) (HY2.out.ext hEb)) (HA2.out.ext hEb)
    rw [HVC.out, HVC'.out, xv_cat] at hO
    simp only [tcs] at hO
    with_reducible refine Calls.mono hO ?_
    rintro e u2 ⟨rfl, x2⟩
    have y2 : Ext V2 u2 := bel_call hEb x2
    clear hO hb hEb
    have hd := Blk.new u2 #[.bool nC, .int .i64 lC, .int .i64 mC] 31
    have hEd : Ext V2 (u2.alloc (.cells #[.bool nC, .int .i64 lC, .int .i64 mC] 31)) := bel_call y2 (by go_grown)
    have XE3 := Lib.hid (bel_call XE2.out hEd)
    have HB3 := Lib.hid (HB2.out.ext hEd)
    have HX3 := Lib.hid (HX2.out.ext hEd)
    have HY3 := Lib.hid (HY2.out.ext hEd)
    have HA3 := Lib.hid (HA2.out.ext hEd)
    have DA3 := Lib.hid (DA2.out.ext hEd)
    have DB3 := Lib.hid (DB2.out.ext hEd)
    have DC3 := Lib.hid hd
    clear hd hEd x2 y2 XE2 HB2 HX2 HY2 HA2 DA2 DB2
    go_upto_region 6 with fail
    generalize u2.alloc (.cells #[.bool nC, .int .i64 lC, .int .i64 mC] 31) = V3 at *
    obtain ⟨z0, z1, z2, z3, z4, z5, z6, z7, z8, z9, z10, z11, z12, z13, z14, z15, z16, z17, z18, z19⟩ := Blk.cells20 HB3.out
    go_wp2_with fail
    clear z0 z1 z2 z3 z4 z5 z6 z7 z8 z9 z10 z11 z12 z13 z14 z15 z16 z17 z18 z19
    have hb := Blk.new V3 (tcs A B a c a' c').toArray 28
    have hEb : Ext V3 (V3.alloc (.cells (tcs A B a c a' c').toArray 28)) := by go_grown
    have hO := lenof_any (xcat 6 A B) (some ⟨V3.heap.size, 0, none⟩) 2 aA aT _ (Xat.two hb HK.out.1 HK.out.2 (HX3.out.ext hEb) (HY3.out.ext hEb)) (HA3.out.ext hEb)
    rw [HVF.out, HVF'.out, xv_cat] at hO
    simp only [tcs] at hO
    with_reducible refine Calls.mono hO ?_
    rintro e u3 ⟨rfl, x3⟩
    have y3 : Ext V3 u3 := bel_call hEb x3
    clear hO hb hEb
    have hd := Blk.new u3 #[.bool nF, .int .i64 lF, .int .i64 mF] 31
    have hEd : Ext V3 (u3.alloc (.cells #[.bool nF, .int .i64 lF, .int .i64 mF] 31)) := bel_call y3 (by go_grown)
    have XE4 := Lib.hid (bel_call XE3.out hEd)
    have HB4 := Lib.hid (HB3.out.ext hEd)
    have HX4 := Lib.hid (HX3.out.ext hEd)
    have HY4 := Lib.hid (HY3.out.ext hEd)
    have HA4 := Lib.hid (HA3.out.ext hEd)
    have DA4 := Lib.hid (DA3.out.ext hEd)
    have DB4 := Lib.hid (DB3.out.ext hEd)
    have DC4 := Lib.hid (DC3.out.ext hEd)
    have DF4 := Lib.hid hd
    clear hd hEd x3 y3 XE3 HB3 HX3 HY3 HA3 DA3 DB3 DC3
    go_upto_region 7 with fail
    generalize u3.alloc (.cells #[.bool nF, .int .i64 lF, .int .i64 mF] 31) = V4 at *
    obtain ⟨z0, z1, z2, z3, z4, z5, z6, z7, z8, z9, z10, z11, z12, z13, z14, z15, z16, z17, z18, z19⟩ := Blk.cells20 HB4.out
    go_wp2_with fail
    clear z0 z1 z2 z3 z4 z5 z6 z7 z8 z9 z10 z11 z12 z13 z14 z15 z16 z17 z18 z19
    have hb := Blk.new V4 (xbx A a c) 28
    have hEb : Ext V4 (V4.alloc (.cells (xbx A a c) 28)) := by go_grown
    have hO := lenof_any (xstar A) (some ⟨V4.heap.size, 0, none⟩) 1 aA aT _ (Xat.one hb HK.out.1 (HX4.out.ext hEb)) (HA4.out.ext hEb)
    rw [HVS.out, HVS'.out, xv_star] at hO
    with_reducible refine Calls.mono hO ?_
    rintro e u4 ⟨rfl, x4⟩
    have y4 : Ext V4 u4 := bel_call hEb x4
    clear hO hb hEb
    have hd := Blk.new u4 #[.bool nS, .int .i64 lS, .int .i64 mS] 31
    have hEd : Ext V4 (u4.alloc (.cells #[.bool nS, .int .i64 lS, .int .i64 mS] 31)) := bel_call y4 (by go_grown)
    have XE5 := Lib.hid (bel_call XE4.out hEd)
    have HB5 := Lib.hid (HB4.out.ext hEd)
    have HX5 := Lib.hid (HX4.out.ext hEd)
    have HY5 := Lib.hid (HY4.out.ext hEd)
    have HA5 := Lib.hid (HA4.out.ext hEd)
    have DA5 := Lib.hid (DA4.out.ext hEd)
    have DB5 := Lib.hid (DB4.out.ext hEd)
    have DC5 := Lib.hid (DC4.out.ext hEd)
    have DF5 := Lib.hid (DF4.out.ext hEd)
    have DS5 := Lib.hid hd
    clear hd hEd x4 y4 XE4 HB4 HX4 HY4 HA4 DA4 DB4 DC4 DF4
    go_upto_region 8 with fail
    generalize u4.alloc (.cells #[.bool nS, .int .i64 lS, .int .i64 mS] 31) = V5 at *
    generalize (Value.agg #[.int .i64 A.op, .int .i64 A.at_, .int .u64 (wd A.set 0), .int .u64 (wd A.set 1), .int .u64 (wd A.set 2), .int .u64 (wd A.set 3), .string A.text, .int .i64 A.mn, .int .i64 A.mx, .slice a A.args.length c]) = qA
    generalize (Value.agg #[.int .i64 B.op, .int .i64 B.at_, .int .u64 (wd B.set 0), .int .u64 (wd B.set 1), .int .u64 (wd B.set 2), .int .u64 (wd B.set 3), .string B.text, .int .i64 B.mn, .int .i64 B.mx, .slice a' B.args.length c']) = qB
    generalize tv A B a c a' c' = qT
    by_cases cA : Chk A
    rotate_left
    · have cC : ¬ Chk (xcat 5 A B) := fun h => cA (chk_cat h).1
      have cF : ¬ Chk (xcat 6 A B) := fun h => cA (chk_cat h).1
      have cS : ¬ Chk (xstar A) := fun h => cA (chk_star h)
      obtain rfl : errAt aA = eA := (lne_not cA aA).symm.trans HVA'.out
      obtain rfl : errAt aA = eC := (lne_not cC aA).symm.trans HVC'.out
      obtain rfl : errAt aA = eF := (lne_not cF aA).symm.trans HVF'.out
      obtain rfl : errAt aA = eS := (lne_not cS aA).symm.trans HVS'.out
      clear cA cC cF cS
      as_aux_lemma =>
        go_wp2_with fail
        refine (HWK.out _ HA5.out).mono ?_
        rintro e w7 ⟨rfl, x7⟩
        have X7 := Lib.hid (bel_call XE5.out x7)
        clear x7
        go_wp2_with fail
        go_ret
        exact ⟨rfl, X7.out⟩
    obtain rfl : .nilIface = eA := (lne_of cA aA).symm.trans HVA'.out
    by_cases cB : Chk B
    rotate_left
    · have cC : ¬ Chk (xcat 5 A B) := fun h => cB (chk_cat h).2
      have cF : ¬ Chk (xcat 6 A B) := fun h => cB (chk_cat h).2
      obtain rfl : errAt aA = eB := (lne_not cB aA).symm.trans HVB'.out
      obtain rfl : errAt aA = eC := (lne_not cC aA).symm.trans HVC'.out
      obtain rfl : errAt aA = eF := (lne_not cF aA).symm.trans HVF'.out
      clear cA cB cC cF
      as_aux_lemma =>
        go_wp2_with fail
        refine (HWK.out _ HA5.out).mono ?_
        rintro e w7 ⟨rfl, x7⟩
        have X7 := Lib.hid (bel_call XE5.out x7)
        clear x7
        go_wp2_with fail
        go_ret
        exact ⟨rfl, X7.out⟩
    obtain rfl : .nilIface = eB := (lne_of cB aA).symm.trans HVB'.out
    by_cases cC : Chk (xcat 5 A B)
    rotate_left
    · have hgt : 4000 < nn A + nn B := Nat.lt_of_not_le fun h => cC (chk_small cA cB h).1
      obtain rfl : errAt aA = eC := (lne_not cC aA).symm.trans HVC'.out
      clear cA cB cC
      as_aux_lemma =>
        have hgi : (4000 : Int) < (nn A : Int) + (nn B : Int) := by omega
        have d4 : decide ((4000 : Int) < (nn A : Int) + (nn B : Int)) = true := by simp; omega
        have hsm : (nn A : Int) + (nn B : Int) ≤ 20000 := by have := hNN.out; omega
        go_wp2_with fail
        refine wp_region_stab (fun _ => none) (by kernel_rfl) (by kernel_rfl) (fun _ _ h => by cases h) (fun hex => ?_)
        iterate 12
          (refine wpS_one (A := ?_) hex rfl rfl (by simp) ?_ ?_ ?_
           rotate_left 2
           · intro w' hC K hK
             obtain ⟨hcell, hfrz⟩ := bcell hC.1.ext
             have HXE := HX5.out.ext hC.1.ext; have HYE := HY5.out.ext hC.1.ext; have HAE := HA5.out.ext hC.1.ext; obtain ⟨z0, z1, z2, z3, z4, z5, z6, z7, z8, z9, z10, z11, z12, z13, z14, z15, z16, z17, z18, z19⟩ := (HB5.out.ext hC.1.ext).cells20; clear hcell hfrz
             go_wp2_with (first | (go_at_call 7; first | (with_reducible refine (hN1.out _ HXE).mono ?_; rintro e w2 ⟨rfl, hb2⟩) | (with_reducible refine (hN2.out _ HYE).mono ?_; rintro e w2 ⟨rfl, hb2⟩)) | (go_at_call 13; with_reducible refine (HWK.out _ HAE).mono ?_; rintro e w2 ⟨rfl, hb2⟩))
             refine hK _ ?_
             first | exact Gr.refl _ _ | exact Gr.of_ext (by assumption) hC.1.1.size
           rotate_left 1
           · rfl
           clear hex; intro hex)
        refine wpS_nil fun w7 hE => ?_
        replace hE := hE.1.ext
        obtain ⟨hcell_w7, hfrz_w7⟩ := bcell hE
        have X7 := Lib.hid (bel_call XE5.out hE)
        go_wp2_with fail
        go_ret
        exact ⟨rfl, X7.out⟩
    have cF := (chk56 A B).1 cC
    obtain rfl : .nilIface = eC := (lne_of cC aA).symm.trans HVC'.out
    obtain rfl : .nilIface = eF := (lne_of cF aA).symm.trans HVF'.out
    by_cases cS : Chk (xstar A)
    rotate_left
    · have hgt : 4000 < nn A + nn B := Nat.lt_of_not_le fun h => cS (chk_small cA cB h).2.2
      obtain rfl : errAt aA = eS := (lne_not cS aA).symm.trans HVS'.out
      clear cA cB cC cF cS
      as_aux_lemma =>
        have hgi : (4000 : Int) < (nn A : Int) + (nn B : Int) := by omega
        have d4 : decide ((4000 : Int) < (nn A : Int) + (nn B : Int)) = true := by simp; omega
        have hsm : (nn A : Int) + (nn B : Int) ≤ 20000 := by have := hNN.out; omega
        go_wp2_with fail
        refine wp_region_stab (fun _ => none) (by kernel_rfl) (by kernel_rfl) (fun _ _ h => by cases h) (fun hex => ?_)
        iterate 12
          (refine wpS_one (A := ?_) hex rfl rfl (by simp) ?_ ?_ ?_
           rotate_left 2
           · intro w' hC K hK
             obtain ⟨hcell, hfrz⟩ := bcell hC.1.ext
             have HXE := HX5.out.ext hC.1.ext; have HYE := HY5.out.ext hC.1.ext; have HAE := HA5.out.ext hC.1.ext; obtain ⟨z0, z1, z2, z3, z4, z5, z6, z7, z8, z9, z10, z11, z12, z13, z14, z15, z16, z17, z18, z19⟩ := (HB5.out.ext hC.1.ext).cells20; clear hcell hfrz
             go_wp2_with (first | (go_at_call 7; first | (with_reducible refine (hN1.out _ HXE).mono ?_; rintro e w2 ⟨rfl, hb2⟩) | (with_reducible refine (hN2.out _ HYE).mono ?_; rintro e w2 ⟨rfl, hb2⟩)) | (go_at_call 13; with_reducible refine (HWK.out _ HAE).mono ?_; rintro e w2 ⟨rfl, hb2⟩))
             refine hK _ ?_
             first | exact Gr.refl _ _ | exact Gr.of_ext (by assumption) hC.1.1.size
           rotate_left 1
           · rfl
           clear hex; intro hex)
        refine wpS_nil fun w7 hE => ?_
        replace hE := hE.1.ext
        obtain ⟨hcell_w7, hfrz_w7⟩ := bcell hE
        have X7 := Lib.hid (bel_call XE5.out hE)
        go_wp2_with fail
        go_ret
        exact ⟨rfl, X7.out⟩
    obtain rfl : .nilIface = eS := (lne_of cS aA).symm.trans HVS'.out
    have hA : (wo A).lv = .agg #[.bool nA, .int .i64 lA, .int .i64 mA] := (lnv_of cA).symm.trans HVA.out
    have hB : (wo B).lv = .agg #[.bool nB, .int .i64 lB, .int .i64 mB] := (lnv_of cB).symm.trans HVB.out
    have hC : ((wo A).join (wo B)).lv = .agg #[.bool nC, .int .i64 lC, .int .i64 mC] := by rw [← wo_cat]; exact (lnv_of cC).symm.trans HVC.out
    have hF : ((wo A).alt (wo B)).lv = .agg #[.bool nF, .int .i64 lF, .int .i64 mF] := by rw [← wo_alt]; exact (lnv_of cF).symm.trans HVF.out
    have hS : ((wo A).rep 0 (-1)).lv = .agg #[.bool nS, .int .i64 lS, .int .i64 mS] := by rw [← wo_star]; exact (lnv_of cS).symm.trans HVS.out
    have gA := (wo_le A).mono (m := 20000) (by have := hNN.out; omega)
    have gB := (wo_le B).mono (m := 20000) (by have := hNN.out; omega)
    clear HVA HVB HVC HVF HVS HVA' HVB' HVC' HVF' HVS' cA cB cC cF cS hN1 hN2 hNN HK hbig d1
    generalize wo A = vA at *
    generalize wo B = vB at *
    cases vA with
    | none =>
      cases vB with
      | none =>
        obtain ⟨rfl, rfl, rfl⟩ := lv_inj (hA.symm.trans (show _ = Value.agg #[.bool true, .int .i64 0, .int .i64 0] from rfl))
        obtain ⟨rfl, rfl, rfl⟩ := lv_inj (hB.symm.trans (show _ = Value.agg #[.bool true, .int .i64 0, .int .i64 0] from rfl))
        obtain ⟨rfl, rfl, rfl⟩ := lv_inj (hC.symm.trans (show _ = Value.agg #[.bool true, .int .i64 0, .int .i64 0] from rfl))
        obtain ⟨rfl, rfl, rfl⟩ := lv_inj (hF.symm.trans (show _ = Value.agg #[.bool true, .int .i64 0, .int .i64 0] from rfl))
        obtain ⟨rfl, rfl, rfl⟩ := lv_inj (hS.symm.trans (show _ = Value.agg #[.bool false, .int .i64 0, .int .i64 0] from rfl))
        clear hA hB hC hF hS
        as_aux_lemma =>
          have lA5 := DA5.out.lt
          have lB5 := DB5.out.lt
          have lF5 := DF5.out.lt
          have lS5 := DS5.out.lt
          go_wp2_with fail
          refine wp_region_stab (fun _ => none) (by kernel_rfl) (by kernel_rfl) (fun _ _ h => by cases h) (fun hex => ?_)
          iterate 29
            (refine wpS_one (A := ?_) hex rfl rfl (by simp) ?_ ?_ ?_
             rotate_left 2
             · intro w' hC K hK
               obtain ⟨hcell, hfrz⟩ := bcell hC.1.ext
               obtain ⟨a0, a1, a2⟩ := (DA5.out.ext hC.1.ext).cells3; obtain ⟨b0, b1, b2⟩ := (DB5.out.ext hC.1.ext).cells3; obtain ⟨c0, c1, c2⟩ := (DC5.out.ext hC.1.ext).cells3; clear hcell hfrz
               go_wp2_with (fail)
               refine hK _ ?_
               first | exact Gr.refl _ _ | exact Gr.of_ext (by assumption) hC.1.1.size
             rotate_left 1
             · rfl
             clear hex; intro hex)
          refine wpS_nil fun w8 hE => ?_
          replace hE := hE.1.ext
          obtain ⟨hcell_w8, hfrz_w8⟩ := bcell hE
          obtain ⟨a0, a1, a2⟩ := (DA5.out.ext hE).cells3
          obtain ⟨b0, b1, b2⟩ := (DB5.out.ext hE).cells3
          obtain ⟨f0, f1, f2⟩ := (DF5.out.ext hE).cells3
          obtain ⟨s0, s1, s2⟩ := (DS5.out.ext hE).cells3
          have hsz8 := hE.size
          have la8 := Nat.lt_of_lt_of_le lA5 hsz8
          have lb8 := Nat.lt_of_lt_of_le lB5 hsz8
          have lf8 := Nat.lt_of_lt_of_le lF5 hsz8
          have ls8 := Nat.lt_of_lt_of_le lS5 hsz8
          have X8 := Lib.hid (bel_call XE5.out hE)
          have HA8 := Lib.hid (HA5.out.ext hE)
          clear hE hex hcell_w8 hfrz_w8 lA5 lB5 lF5 lS5 hsz8
          have hls := len_same
          go_wp2_with fail
          refine Calls.mono (wk_call HWK.out HA8.out X8.out (by go_grown)) ?_
          rintro e w9 ⟨rfl, x9⟩
          have X9 := Lib.hid x9
          clear x9
          go_wp2_with fail
          go_ret
          exact ⟨rfl, X9.out⟩
      | bounded j k =>
        obtain ⟨rfl, rfl, rfl⟩ := lv_inj (hA.symm.trans (show _ = Value.agg #[.bool true, .int .i64 0, .int .i64 0] from rfl))
        obtain ⟨rfl, rfl, rfl⟩ := lv_inj (hB.symm.trans (show _ = Value.agg #[.bool false, .int .i64 (j : Int), .int .i64 (k : Int)] from rfl))
        obtain ⟨rfl, rfl, rfl⟩ := lv_inj (hC.symm.trans (show _ = Value.agg #[.bool true, .int .i64 0, .int .i64 0] from rfl))
        obtain ⟨rfl, rfl, rfl⟩ := lv_inj (hF.symm.trans (show _ = Value.agg #[.bool false, .int .i64 (j : Int), .int .i64 (k : Int)] from rfl))
        obtain ⟨rfl, rfl, rfl⟩ := lv_inj (hS.symm.trans (show _ = Value.agg #[.bool false, .int .i64 0, .int .i64 0] from rfl))
        clear hA hB hC hF hS
        as_aux_lemma =>
          have lA5 := DA5.out.lt
          have lB5 := DB5.out.lt
          have lF5 := DF5.out.lt
          have lS5 := DS5.out.lt
          go_wp2_with fail
          refine wp_region_stab (fun _ => none) (by kernel_rfl) (by kernel_rfl) (fun _ _ h => by cases h) (fun hex => ?_)
          iterate 29
            (refine wpS_one (A := ?_) hex rfl rfl (by simp) ?_ ?_ ?_
             rotate_left 2
             · intro w' hC K hK
               obtain ⟨hcell, hfrz⟩ := bcell hC.1.ext
               obtain ⟨a0, a1, a2⟩ := (DA5.out.ext hC.1.ext).cells3; obtain ⟨b0, b1, b2⟩ := (DB5.out.ext hC.1.ext).cells3; obtain ⟨c0, c1, c2⟩ := (DC5.out.ext hC.1.ext).cells3; clear hcell hfrz
               go_wp2_with (fail)
               refine hK _ ?_
               first | exact Gr.refl _ _ | exact Gr.of_ext (by assumption) hC.1.1.size
             rotate_left 1
             · rfl
             clear hex; intro hex)
          refine wpS_nil fun w8 hE => ?_
          replace hE := hE.1.ext
          obtain ⟨hcell_w8, hfrz_w8⟩ := bcell hE
          obtain ⟨a0, a1, a2⟩ := (DA5.out.ext hE).cells3
          obtain ⟨b0, b1, b2⟩ := (DB5.out.ext hE).cells3
          obtain ⟨f0, f1, f2⟩ := (DF5.out.ext hE).cells3
          obtain ⟨s0, s1, s2⟩ := (DS5.out.ext hE).cells3
          have hsz8 := hE.size
          have la8 := Nat.lt_of_lt_of_le lA5 hsz8
          have lb8 := Nat.lt_of_lt_of_le lB5 hsz8
          have lf8 := Nat.lt_of_lt_of_le lF5 hsz8
          have ls8 := Nat.lt_of_lt_of_le lS5 hsz8
          have X8 := Lib.hid (bel_call XE5.out hE)
          have HA8 := Lib.hid (HA5.out.ext hE)
          clear hE hex hcell_w8 hfrz_w8 lA5 lB5 lF5 lS5 hsz8
          have hls := len_same
          go_wp2_with fail
          refine Calls.mono (wk_call HWK.out HA8.out X8.out (by go_grown)) ?_
          rintro e w9 ⟨rfl, x9⟩
          have X9 := Lib.hid x9
          clear x9
          go_wp2_with fail
          go_ret
          exact ⟨rfl, X9.out⟩
      | endless j =>
        obtain ⟨rfl, rfl, rfl⟩ := lv_inj (hA.symm.trans (show _ = Value.agg #[.bool true, .int .i64 0, .int .i64 0] from rfl))
        obtain ⟨rfl, rfl, rfl⟩ := lv_inj (hB.symm.trans (show _ = Value.agg #[.bool false, .int .i64 (j : Int), .int .i64 (-1)] from rfl))
        obtain ⟨rfl, rfl, rfl⟩ := lv_inj (hC.symm.trans (show _ = Value.agg #[.bool true, .int .i64 0, .int .i64 0] from rfl))
        obtain ⟨rfl, rfl, rfl⟩ := lv_inj (hF.symm.trans (show _ = Value.agg #[.bool false, .int .i64 (j : Int), .int .i64 (-1)] from rfl))
        obtain ⟨rfl, rfl, rfl⟩ := lv_inj (hS.symm.trans (show _ = Value.agg #[.bool false, .int .i64 0, .int .i64 0] from rfl))
        clear hA hB hC hF hS
        as_aux_lemma =>
          have lA5 := DA5.out.lt
          have lB5 := DB5.out.lt
          have lF5 := DF5.out.lt
          have lS5 := DS5.out.lt
          go_wp2_with fail
          refine wp_region_stab (fun _ => none) (by kernel_rfl) (by kernel_rfl) (fun _ _ h => by cases h) (fun hex => ?_)
          iterate 29
            (refine wpS_one (A := ?_) hex rfl rfl (by simp) ?_ ?_ ?_
             rotate_left 2
             · intro w' hC K hK
               obtain ⟨hcell, hfrz⟩ := bcell hC.1.ext
               obtain ⟨a0, a1, a2⟩ := (DA5.out.ext hC.1.ext).cells3; obtain ⟨b0, b1, b2⟩ := (DB5.out.ext hC.1.ext).cells3; obtain ⟨c0, c1, c2⟩ := (DC5.out.ext hC.1.ext).cells3; clear hcell hfrz
               go_wp2_with (fail)
               refine hK _ ?_
               first | exact Gr.refl _ _ | exact Gr.of_ext (by assumption) hC.1.1.size
             rotate_left 1
             · rfl
             clear hex; intro hex)
          refine wpS_nil fun w8 hE => ?_
          replace hE := hE.1.ext
          obtain ⟨hcell_w8, hfrz_w8⟩ := bcell hE
          obtain ⟨a0, a1, a2⟩ := (DA5.out.ext hE).cells3
          obtain ⟨b0, b1, b2⟩ := (DB5.out.ext hE).cells3
          obtain ⟨f0, f1, f2⟩ := (DF5.out.ext hE).cells3
          obtain ⟨s0, s1, s2⟩ := (DS5.out.ext hE).cells3
          have hsz8 := hE.size
          have la8 := Nat.lt_of_lt_of_le lA5 hsz8
          have lb8 := Nat.lt_of_lt_of_le lB5 hsz8
          have lf8 := Nat.lt_of_lt_of_le lF5 hsz8
          have ls8 := Nat.lt_of_lt_of_le lS5 hsz8
          have X8 := Lib.hid (bel_call XE5.out hE)
          have HA8 := Lib.hid (HA5.out.ext hE)
          clear hE hex hcell_w8 hfrz_w8 lA5 lB5 lF5 lS5 hsz8
          have hls := len_same
          go_wp2_with fail
          refine Calls.mono (wk_call HWK.out HA8.out X8.out (by go_grown)) ?_
          rintro e w9 ⟨rfl, x9⟩
          have X9 := Lib.hid x9
          clear x9
          go_wp2_with fail
          go_ret
          exact ⟨rfl, X9.out⟩
    | bounded l m =>
      simp only [Wv.le] at gA
      by_cases hm0 : m = 0
      · obtain rfl : l = 0 := by omega
        subst hm0
        rw [show (Wv.bounded 0 0).rep 0 (-1) = .bounded 0 0 from rfl] at hS
        cases vB with
        | none =>
          obtain ⟨rfl, rfl, rfl⟩ := lv_inj (hA.symm.trans (show _ = Value.agg #[.bool false, .int .i64 0, .int .i64 0] from rfl))
          obtain ⟨rfl, rfl, rfl⟩ := lv_inj (hB.symm.trans (show _ = Value.agg #[.bool true, .int .i64 0, .int .i64 0] from rfl))
          obtain ⟨rfl, rfl, rfl⟩ := lv_inj (hC.symm.trans (show _ = Value.agg #[.bool true, .int .i64 0, .int .i64 0] from rfl))
          obtain ⟨rfl, rfl, rfl⟩ := lv_inj (hF.symm.trans (show _ = Value.agg #[.bool false, .int .i64 0, .int .i64 0] from rfl))
          obtain ⟨rfl, rfl, rfl⟩ := lv_inj (hS.symm.trans (show _ = Value.agg #[.bool false, .int .i64 0, .int .i64 0] from rfl))
          clear hA hB hC hF hS
          as_aux_lemma =>
            have lA5 := DA5.out.lt
            have lB5 := DB5.out.lt
            have lF5 := DF5.out.lt
            have lS5 := DS5.out.lt
            go_wp2_with fail
            refine wp_region_stab (fun _ => none) (by kernel_rfl) (by kernel_rfl) (fun _ _ h => by cases h) (fun hex => ?_)
            iterate 29
              (refine wpS_one (A := ?_) hex rfl rfl (by simp) ?_ ?_ ?_
               rotate_left 2
               · intro w' hC K hK
                 obtain ⟨hcell, hfrz⟩ := bcell hC.1.ext
                 obtain ⟨a0, a1, a2⟩ := (DA5.out.ext hC.1.ext).cells3; obtain ⟨b0, b1, b2⟩ := (DB5.out.ext hC.1.ext).cells3; obtain ⟨c0, c1, c2⟩ := (DC5.out.ext hC.1.ext).cells3; clear hcell hfrz
                 go_wp2_with (fail)
                 refine hK _ ?_
                 first | exact Gr.refl _ _ | exact Gr.of_ext (by assumption) hC.1.1.size
               rotate_left 1
               · rfl
               clear hex; intro hex)
            refine wpS_nil fun w8 hE => ?_
            replace hE := hE.1.ext
            obtain ⟨hcell_w8, hfrz_w8⟩ := bcell hE
            obtain ⟨a0, a1, a2⟩ := (DA5.out.ext hE).cells3
            obtain ⟨b0, b1, b2⟩ := (DB5.out.ext hE).cells3
            obtain ⟨f0, f1, f2⟩ := (DF5.out.ext hE).cells3
            obtain ⟨s0, s1, s2⟩ := (DS5.out.ext hE).cells3
            have hsz8 := hE.size
            have la8 := Nat.lt_of_lt_of_le lA5 hsz8
            have lb8 := Nat.lt_of_lt_of_le lB5 hsz8
            have lf8 := Nat.lt_of_lt_of_le lF5 hsz8
            have ls8 := Nat.lt_of_lt_of_le lS5 hsz8
            have X8 := Lib.hid (bel_call XE5.out hE)
            have HA8 := Lib.hid (HA5.out.ext hE)
            clear hE hex hcell_w8 hfrz_w8 lA5 lB5 lF5 lS5 hsz8
            have hls := len_same
            go_wp2_with fail
            refine Calls.mono (wk_call HWK.out HA8.out X8.out (by go_grown)) ?_
            rintro e w9 ⟨rfl, x9⟩
            have X9 := Lib.hid x9
            clear x9
            go_wp2_with fail
            go_ret
            exact ⟨rfl, X9.out⟩
        | bounded j k =>
          simp only [Wv.le] at gB
          rw [show (Wv.bounded 0 0).join (.bounded j k) = .bounded j k by simp [Wv.join]] at hC
          rw [show (Wv.bounded 0 0).alt (.bounded j k) = .bounded 0 k by simp [Wv.alt]] at hF
          have dp0 : decide ((0 : Int) ≤ (j : Int)) = true := by simp
          have dn0 : decide ((j : Int) < 0) = false := by simp
          have di0 : (0 : Int) ≤ (j : Int) := by omega
          have dp1 : decide ((0 : Int) ≤ (k : Int)) = true := by simp
          have dn1 : decide ((k : Int) < 0) = false := by simp
          have di1 : (0 : Int) ≤ (k : Int) := by omega
          by_cases hk0 : 0 < k
          · skip
            have dk1 : decide ((0 : Int) < (k : Int)) = true := by first | (simp; omega) | simp
            obtain ⟨rfl, rfl, rfl⟩ := lv_inj (hA.symm.trans (show _ = Value.agg #[.bool false, .int .i64 0, .int .i64 0] from rfl))
            obtain ⟨rfl, rfl, rfl⟩ := lv_inj (hB.symm.trans (show _ = Value.agg #[.bool false, .int .i64 (j : Int), .int .i64 (k : Int)] from rfl))
            obtain ⟨rfl, rfl, rfl⟩ := lv_inj (hC.symm.trans (show _ = Value.agg #[.bool false, .int .i64 (j : Int), .int .i64 (k : Int)] from rfl))
            obtain ⟨rfl, rfl, rfl⟩ := lv_inj (hF.symm.trans (show _ = Value.agg #[.bool false, .int .i64 0, .int .i64 (k : Int)] from rfl))
            obtain ⟨rfl, rfl, rfl⟩ := lv_inj (hS.symm.trans (show _ = Value.agg #[.bool false, .int .i64 0, .int .i64 0] from rfl))
            have hsum := fun w => sum_any 0 (k : Int) w (by omega) (by omega)
            simp only [if_neg (show ¬ ((0 : Int) < 0 ∨ (k : Int) < 0) by omega), Int.zero_add] at hsum
            clear hA hB hC hF hS
            as_aux_lemma =>
              have lA5 := DA5.out.lt
              have lB5 := DB5.out.lt
              have lF5 := DF5.out.lt
              have lS5 := DS5.out.lt
              go_wp2_with fail
              refine wp_region_stab (fun _ => none) (by kernel_rfl) (by kernel_rfl) (fun _ _ h => by cases h) (fun hex => ?_)
              iterate 29
                (refine wpS_one (A := ?_) hex rfl rfl (by simp) ?_ ?_ ?_
                 rotate_left 2
                 · intro w' hC K hK
                   obtain ⟨hcell, hfrz⟩ := bcell hC.1.ext
                   obtain ⟨a0, a1, a2⟩ := (DA5.out.ext hC.1.ext).cells3; obtain ⟨b0, b1, b2⟩ := (DB5.out.ext hC.1.ext).cells3; obtain ⟨c0, c1, c2⟩ := (DC5.out.ext hC.1.ext).cells3; clear hcell hfrz
                   go_wp2_with (go_at_call 19; with_reducible refine (hsum _).mono ?_; rintro e w2 ⟨rfl, rfl⟩)
                   refine hK _ ?_
                   first | exact Gr.refl _ _ | exact Gr.of_ext (by assumption) hC.1.1.size
                 rotate_left 1
                 · rfl
                 clear hex; intro hex)
              refine wpS_nil fun w8 hE => ?_
              replace hE := hE.1.ext
              obtain ⟨hcell_w8, hfrz_w8⟩ := bcell hE
              obtain ⟨a0, a1, a2⟩ := (DA5.out.ext hE).cells3
              obtain ⟨b0, b1, b2⟩ := (DB5.out.ext hE).cells3
              obtain ⟨f0, f1, f2⟩ := (DF5.out.ext hE).cells3
              obtain ⟨s0, s1, s2⟩ := (DS5.out.ext hE).cells3
              have hsz8 := hE.size
              have la8 := Nat.lt_of_lt_of_le lA5 hsz8
              have lb8 := Nat.lt_of_lt_of_le lB5 hsz8
              have lf8 := Nat.lt_of_lt_of_le lF5 hsz8
              have ls8 := Nat.lt_of_lt_of_le lS5 hsz8
              have X8 := Lib.hid (bel_call XE5.out hE)
              have HA8 := Lib.hid (HA5.out.ext hE)
              clear hE hex hcell_w8 hfrz_w8 lA5 lB5 lF5 lS5 hsz8
              have hls := len_same
              go_wp2_with fail
              refine Calls.mono (wk_call HWK.out HA8.out X8.out (by go_grown)) ?_
              rintro e w9 ⟨rfl, x9⟩
              have X9 := Lib.hid x9
              clear x9
              go_wp2_with fail
              go_ret
              exact ⟨rfl, X9.out⟩
          · obtain rfl : k = 0 := by omega
            obtain rfl : j = 0 := by omega
            obtain ⟨rfl, rfl, rfl⟩ := lv_inj (hA.symm.trans (show _ = Value.agg #[.bool false, .int .i64 0, .int .i64 0] from rfl))
            obtain ⟨rfl, rfl, rfl⟩ := lv_inj (hB.symm.trans (show _ = Value.agg #[.bool false, .int .i64 0, .int .i64 0] from rfl))
            obtain ⟨rfl, rfl, rfl⟩ := lv_inj (hC.symm.trans (show _ = Value.agg #[.bool false, .int .i64 0, .int .i64 0] from rfl))
            obtain ⟨rfl, rfl, rfl⟩ := lv_inj (hF.symm.trans (show _ = Value.agg #[.bool false, .int .i64 0, .int .i64 0] from rfl))
            obtain ⟨rfl, rfl, rfl⟩ := lv_inj (hS.symm.trans (show _ = Value.agg #[.bool false, .int .i64 0, .int .i64 0] from rfl))
            have hsum := fun w => sum_any 0 0 w (by omega) (by omega)
            simp only [if_neg (show ¬ ((0 : Int) < 0 ∨ (0 : Int) < 0) by omega), Int.zero_add] at hsum
            clear hA hB hC hF hS
            as_aux_lemma =>
              have lA5 := DA5.out.lt
              have lB5 := DB5.out.lt
              have lF5 := DF5.out.lt
              have lS5 := DS5.out.lt
              go_wp2_with fail
              refine wp_region_stab (fun _ => none) (by kernel_rfl) (by kernel_rfl) (fun _ _ h => by cases h) (fun hex => ?_)
              iterate 29
                (refine wpS_one (A := ?_) hex rfl rfl (by simp) ?_ ?_ ?_
                 rotate_left 2
                 · intro w' hC K hK
                   obtain ⟨hcell, hfrz⟩ := bcell hC.1.ext
                   obtain ⟨a0, a1, a2⟩ := (DA5.out.ext hC.1.ext).cells3; obtain ⟨b0, b1, b2⟩ := (DB5.out.ext hC.1.ext).cells3; obtain ⟨c0, c1, c2⟩ := (DC5.out.ext hC.1.ext).cells3; clear hcell hfrz
                   go_wp2_with (go_at_call 19; with_reducible refine (hsum _).mono ?_; rintro e w2 ⟨rfl, rfl⟩)
                   refine hK _ ?_
                   first | exact Gr.refl _ _ | exact Gr.of_ext (by assumption) hC.1.1.size
                 rotate_left 1
                 · rfl
                 clear hex; intro hex)
              refine wpS_nil fun w8 hE => ?_
              replace hE := hE.1.ext
              obtain ⟨hcell_w8, hfrz_w8⟩ := bcell hE
              obtain ⟨a0, a1, a2⟩ := (DA5.out.ext hE).cells3
              obtain ⟨b0, b1, b2⟩ := (DB5.out.ext hE).cells3
              obtain ⟨f0, f1, f2⟩ := (DF5.out.ext hE).cells3
              obtain ⟨s0, s1, s2⟩ := (DS5.out.ext hE).cells3
              have hsz8 := hE.size
              have la8 := Nat.lt_of_lt_of_le lA5 hsz8
              have lb8 := Nat.lt_of_lt_of_le lB5 hsz8
              have lf8 := Nat.lt_of_lt_of_le lF5 hsz8
              have ls8 := Nat.lt_of_lt_of_le lS5 hsz8
              have X8 := Lib.hid (bel_call XE5.out hE)
              have HA8 := Lib.hid (HA5.out.ext hE)
              clear hE hex hcell_w8 hfrz_w8 lA5 lB5 lF5 lS5 hsz8
              have hls := len_same
              go_wp2_with fail
              refine Calls.mono (wk_call HWK.out HA8.out X8.out (by go_grown)) ?_
              rintro e w9 ⟨rfl, x9⟩
              have X9 := Lib.hid x9
              clear x9
              go_wp2_with fail
              go_ret
              exact ⟨rfl, X9.out⟩
        | endless j =>
          simp only [Wv.le] at gB
          rw [show (Wv.bounded 0 0).join (.endless j) = .endless j by simp [Wv.join]] at hC
          rw [show (Wv.bounded 0 0).alt (.endless j) = .endless 0 by simp [Wv.alt]] at hF
          have dp2 : decide ((0 : Int) ≤ (j : Int)) = true := by simp
          have dn2 : decide ((j : Int) < 0) = false := by simp
          have di2 : (0 : Int) ≤ (j : Int) := by omega
          obtain ⟨rfl, rfl, rfl⟩ := lv_inj (hA.symm.trans (show _ = Value.agg #[.bool false, .int .i64 0, .int .i64 0] from rfl))
          obtain ⟨rfl, rfl, rfl⟩ := lv_inj (hB.symm.trans (show _ = Value.agg #[.bool false, .int .i64 (j : Int), .int .i64 (-1)] from rfl))
          obtain ⟨rfl, rfl, rfl⟩ := lv_inj (hC.symm.trans (show _ = Value.agg #[.bool false, .int .i64 (j : Int), .int .i64 (-1)] from rfl))
          obtain ⟨rfl, rfl, rfl⟩ := lv_inj (hF.symm.trans (show _ = Value.agg #[.bool false, .int .i64 0, .int .i64 (-1)] from rfl))
          obtain ⟨rfl, rfl, rfl⟩ := lv_inj (hS.symm.trans (show _ = Value.agg #[.bool false, .int .i64 0, .int .i64 0] from rfl))
          have hsum := fun w => sum_any 0 (-1) w (by omega) (by omega)
          simp only [if_pos (show (0 : Int) < 0 ∨ (-1 : Int) < 0 by omega)] at hsum
          clear hA hB hC hF hS
          as_aux_lemma =>
            have lA5 := DA5.out.lt
            have lB5 := DB5.out.lt
            have lF5 := DF5.out.lt
            have lS5 := DS5.out.lt
            go_wp2_with fail
            refine wp_region_stab (fun _ => none) (by kernel_rfl) (by kernel_rfl) (fun _ _ h => by cases h) (fun hex => ?_)
            iterate 29
              (refine wpS_one (A := ?_) hex rfl rfl (by simp) ?_ ?_ ?_
               rotate_left 2
               · intro w' hC K hK
                 obtain ⟨hcell, hfrz⟩ := bcell hC.1.ext
                 obtain ⟨a0, a1, a2⟩ := (DA5.out.ext hC.1.ext).cells3; obtain ⟨b0, b1, b2⟩ := (DB5.out.ext hC.1.ext).cells3; obtain ⟨c0, c1, c2⟩ := (DC5.out.ext hC.1.ext).cells3; clear hcell hfrz
                 go_wp2_with (go_at_call 19; with_reducible refine (hsum _).mono ?_; rintro e w2 ⟨rfl, rfl⟩)
                 refine hK _ ?_
                 first | exact Gr.refl _ _ | exact Gr.of_ext (by assumption) hC.1.1.size
               rotate_left 1
               · rfl
               clear hex; intro hex)
            refine wpS_nil fun w8 hE => ?_
            replace hE := hE.1.ext
            obtain ⟨hcell_w8, hfrz_w8⟩ := bcell hE
            obtain ⟨a0, a1, a2⟩ := (DA5.out.ext hE).cells3
            obtain ⟨b0, b1, b2⟩ := (DB5.out.ext hE).cells3
            obtain ⟨f0, f1, f2⟩ := (DF5.out.ext hE).cells3
            obtain ⟨s0, s1, s2⟩ := (DS5.out.ext hE).cells3
            have hsz8 := hE.size
            have la8 := Nat.lt_of_lt_of_le lA5 hsz8
            have lb8 := Nat.lt_of_lt_of_le lB5 hsz8
            have lf8 := Nat.lt_of_lt_of_le lF5 hsz8
            have ls8 := Nat.lt_of_lt_of_le lS5 hsz8
            have X8 := Lib.hid (bel_call XE5.out hE)
            have HA8 := Lib.hid (HA5.out.ext hE)
            clear hE hex hcell_w8 hfrz_w8 lA5 lB5 lF5 lS5 hsz8
            have hls := len_same
            go_wp2_with fail
            refine Calls.mono (wk_call HWK.out HA8.out X8.out (by go_grown)) ?_
            rintro e w9 ⟨rfl, x9⟩
            have X9 := Lib.hid x9
            clear x9
            go_wp2_with fail
            go_ret
            exact ⟨rfl, X9.out⟩
      · rw [show (Wv.bounded l m).rep 0 (-1) = .endless 0 by simp [Wv.rep, Wv.again, Wv.alt, show 0 < m by omega]] at hS
        have dp3 : decide ((0 : Int) ≤ (l : Int)) = true := by simp
        have dn3 : decide ((l : Int) < 0) = false := by simp
        have di3 : (0 : Int) ≤ (l : Int) := by omega
        have dp4 : decide ((0 : Int) ≤ (m : Int)) = true := by simp
        have dn4 : decide ((m : Int) < 0) = false := by simp
        have di4 : (0 : Int) ≤ (m : Int) := by omega
        have dz5 : decide ((m : Int) = 0) = false := by first | (simp; omega) | simp
        have de5 : ((m : Int) == 0) = false := by first | (simp; omega) | simp
        have dq5 : (m == 0) = false := by first | (simp; omega) | simp
        have dr5 : decide (m = 0) = false := by first | (simp; omega) | simp
        have dl6 : decide ((l : Int) ≤ (m : Int)) = true := by first | (simp; omega) | simp
        have dm6 : decide (l ≤ m) = true := by first | (simp; omega) | simp
        cases vB with
        | none =>
          obtain ⟨rfl, rfl, rfl⟩ := lv_inj (hA.symm.trans (show _ = Value.agg #[.bool false, .int .i64 (l : Int), .int .i64 (m : Int)] from rfl))
          obtain ⟨rfl, rfl, rfl⟩ := lv_inj (hB.symm.trans (show _ = Value.agg #[.bool true, .int .i64 0, .int .i64 0] from rfl))
          obtain ⟨rfl, rfl, rfl⟩ := lv_inj (hC.symm.trans (show _ = Value.agg #[.bool true, .int .i64 0, .int .i64 0] from rfl))
          obtain ⟨rfl, rfl, rfl⟩ := lv_inj (hF.symm.trans (show _ = Value.agg #[.bool false, .int .i64 (l : Int), .int .i64 (m : Int)] from rfl))
          obtain ⟨rfl, rfl, rfl⟩ := lv_inj (hS.symm.trans (show _ = Value.agg #[.bool false, .int .i64 0, .int .i64 (-1)] from rfl))
          clear hA hB hC hF hS
          as_aux_lemma =>
            have lA5 := DA5.out.lt
            have lB5 := DB5.out.lt
            have lF5 := DF5.out.lt
            have lS5 := DS5.out.lt
            go_wp2_with fail
            refine wp_region_stab (fun _ => none) (by kernel_rfl) (by kernel_rfl) (fun _ _ h => by cases h) (fun hex => ?_)
            iterate 29
              (refine wpS_one (A := ?_) hex rfl rfl (by simp) ?_ ?_ ?_
               rotate_left 2
               · intro w' hC K hK
                 obtain ⟨hcell, hfrz⟩ := bcell hC.1.ext
                 obtain ⟨a0, a1, a2⟩ := (DA5.out.ext hC.1.ext).cells3; obtain ⟨b0, b1, b2⟩ := (DB5.out.ext hC.1.ext).cells3; obtain ⟨c0, c1, c2⟩ := (DC5.out.ext hC.1.ext).cells3; clear hcell hfrz
                 go_wp2_with (fail)
                 refine hK _ ?_
                 first | exact Gr.refl _ _ | exact Gr.of_ext (by assumption) hC.1.1.size
               rotate_left 1
               · rfl
               clear hex; intro hex)
            refine wpS_nil fun w8 hE => ?_
            replace hE := hE.1.ext
            obtain ⟨hcell_w8, hfrz_w8⟩ := bcell hE
            obtain ⟨a0, a1, a2⟩ := (DA5.out.ext hE).cells3
            obtain ⟨b0, b1, b2⟩ := (DB5.out.ext hE).cells3
            obtain ⟨f0, f1, f2⟩ := (DF5.out.ext hE).cells3
            obtain ⟨s0, s1, s2⟩ := (DS5.out.ext hE).cells3
            have hsz8 := hE.size
            have la8 := Nat.lt_of_lt_of_le lA5 hsz8
            have lb8 := Nat.lt_of_lt_of_le lB5 hsz8
            have lf8 := Nat.lt_of_lt_of_le lF5 hsz8
            have ls8 := Nat.lt_of_lt_of_le lS5 hsz8
            have X8 := Lib.hid (bel_call XE5.out hE)
            have HA8 := Lib.hid (HA5.out.ext hE)
            clear hE hex hcell_w8 hfrz_w8 lA5 lB5 lF5 lS5 hsz8
            have hls := len_same
            go_wp2_with fail
            refine Calls.mono (wk_call HWK.out HA8.out X8.out (by go_grown)) ?_
            rintro e w9 ⟨rfl, x9⟩
            have X9 := Lib.hid x9
            clear x9
            go_wp2_with fail
            go_ret
            exact ⟨rfl, X9.out⟩
        | bounded j k =>
          simp only [Wv.le] at gB
          have dp7 : decide ((0 : Int) ≤ (j : Int)) = true := by simp
          have dn7 : decide ((j : Int) < 0) = false := by simp
          have di7 : (0 : Int) ≤ (j : Int) := by omega
          have dp8 : decide ((0 : Int) ≤ (k : Int)) = true := by simp
          have dn8 : decide ((k : Int) < 0) = false := by simp
          have di8 : (0 : Int) ≤ (k : Int) := by omega
          have sb1 : (l : Int) + (j : Int) ≤ 40000 := by omega
          have sb2 : (m : Int) + (k : Int) ≤ 40000 := by omega
          by_cases hjl : j < l
          · skip
            have dc9 : decide ((j : Int) < (l : Int)) = true := by first | (simp; omega) | simp
            have dd9 : decide (j < l) = true := by first | (simp; omega) | simp
            by_cases hmk : m < k
            · skip
              have dc10 : decide ((m : Int) < (k : Int)) = true := by first | (simp; omega) | simp
              have dd10 : decide (m < k) = true := by first | (simp; omega) | simp
              rw [show (Wv.bounded l m).alt (.bounded j k) = .bounded j k by simp only [Wv.alt]; rw [show min l j = j by omega, show max m k = k by omega]] at hF
              obtain ⟨rfl, rfl, rfl⟩ := lv_inj (hA.symm.trans (show _ = Value.agg #[.bool false, .int .i64 (l : Int), .int .i64 (m : Int)] from rfl))
              obtain ⟨rfl, rfl, rfl⟩ := lv_inj (hB.symm.trans (show _ = Value.agg #[.bool false, .int .i64 (j : Int), .int .i64 (k : Int)] from rfl))
              obtain ⟨rfl, rfl, rfl⟩ := lv_inj (hC.symm.trans (show _ = Value.agg #[.bool false, .int .i64 ((l : Int) + (j : Int)), .int .i64 ((m : Int) + (k : Int))] from by show Value.agg #[.bool false, .int .i64 ((l + j : Nat) : Int), .int .i64 ((m + k : Nat) : Int)] = _; rw [Int.natCast_add, Int.natCast_add]))
              obtain ⟨rfl, rfl, rfl⟩ := lv_inj (hF.symm.trans (show _ = Value.agg #[.bool false, .int .i64 (j : Int), .int .i64 (k : Int)] from rfl))
              obtain ⟨rfl, rfl, rfl⟩ := lv_inj (hS.symm.trans (show _ = Value.agg #[.bool false, .int .i64 0, .int .i64 (-1)] from rfl))
              have hsum := fun w => sum_any (m : Int) (k : Int) w (by omega) (by omega)
              simp only [if_neg (show ¬ ((m : Int) < 0 ∨ (k : Int) < 0) by omega)] at hsum
              clear hA hB hC hF hS
              as_aux_lemma =>
                have lA5 := DA5.out.lt
                have lB5 := DB5.out.lt
                have lF5 := DF5.out.lt
                have lS5 := DS5.out.lt
                go_wp2_with fail
                refine wp_region_stab (fun _ => none) (by kernel_rfl) (by kernel_rfl) (fun _ _ h => by cases h) (fun hex => ?_)
                iterate 29
                  (refine wpS_one (A := ?_) hex rfl rfl (by simp) ?_ ?_ ?_
                   rotate_left 2
                   · intro w' hC K hK
                     obtain ⟨hcell, hfrz⟩ := bcell hC.1.ext
                     obtain ⟨a0, a1, a2⟩ := (DA5.out.ext hC.1.ext).cells3; obtain ⟨b0, b1, b2⟩ := (DB5.out.ext hC.1.ext).cells3; obtain ⟨c0, c1, c2⟩ := (DC5.out.ext hC.1.ext).cells3; clear hcell hfrz
                     go_wp2_with (go_at_call 19; with_reducible refine (hsum _).mono ?_; rintro e w2 ⟨rfl, rfl⟩)
                     refine hK _ ?_
                     first | exact Gr.refl _ _ | exact Gr.of_ext (by assumption) hC.1.1.size
                   rotate_left 1
                   · rfl
                   clear hex; intro hex)
                refine wpS_nil fun w8 hE => ?_
                replace hE := hE.1.ext
                obtain ⟨hcell_w8, hfrz_w8⟩ := bcell hE
                obtain ⟨a0, a1, a2⟩ := (DA5.out.ext hE).cells3
                obtain ⟨b0, b1, b2⟩ := (DB5.out.ext hE).cells3
                obtain ⟨f0, f1, f2⟩ := (DF5.out.ext hE).cells3
                obtain ⟨s0, s1, s2⟩ := (DS5.out.ext hE).cells3
                have hsz8 := hE.size
                have la8 := Nat.lt_of_lt_of_le lA5 hsz8
                have lb8 := Nat.lt_of_lt_of_le lB5 hsz8
                have lf8 := Nat.lt_of_lt_of_le lF5 hsz8
                have ls8 := Nat.lt_of_lt_of_le lS5 hsz8
                have X8 := Lib.hid (bel_call XE5.out hE)
                have HA8 := Lib.hid (HA5.out.ext hE)
                clear hE hex hcell_w8 hfrz_w8 lA5 lB5 lF5 lS5 hsz8
                have hls := len_same
                go_wp2_with fail
                refine Calls.mono (wk_call HWK.out HA8.out X8.out (by go_grown)) ?_
                rintro e w9 ⟨rfl, x9⟩
                have X9 := Lib.hid x9
                clear x9
                go_wp2_with fail
                go_ret
                exact ⟨rfl, X9.out⟩
            · skip
              have dc11 : decide ((m : Int) < (k : Int)) = false := by first | (simp; omega) | simp
              have dd11 : decide (m < k) = false := by first | (simp; omega) | simp
              rw [show (Wv.bounded l m).alt (.bounded j k) = .bounded j m by simp only [Wv.alt]; rw [show min l j = j by omega, show max m k = m by omega]] at hF
              obtain ⟨rfl, rfl, rfl⟩ := lv_inj (hA.symm.trans (show _ = Value.agg #[.bool false, .int .i64 (l : Int), .int .i64 (m : Int)] from rfl))
              obtain ⟨rfl, rfl, rfl⟩ := lv_inj (hB.symm.trans (show _ = Value.agg #[.bool false, .int .i64 (j : Int), .int .i64 (k : Int)] from rfl))
              obtain ⟨rfl, rfl, rfl⟩ := lv_inj (hC.symm.trans (show _ = Value.agg #[.bool false, .int .i64 ((l : Int) + (j : Int)), .int .i64 ((m : Int) + (k : Int))] from by show Value.agg #[.bool false, .int .i64 ((l + j : Nat) : Int), .int .i64 ((m + k : Nat) : Int)] = _; rw [Int.natCast_add, Int.natCast_add]))
              obtain ⟨rfl, rfl, rfl⟩ := lv_inj (hF.symm.trans (show _ = Value.agg #[.bool false, .int .i64 (j : Int), .int .i64 (m : Int)] from rfl))
              obtain ⟨rfl, rfl, rfl⟩ := lv_inj (hS.symm.trans (show _ = Value.agg #[.bool false, .int .i64 0, .int .i64 (-1)] from rfl))
              have hsum := fun w => sum_any (m : Int) (k : Int) w (by omega) (by omega)
              simp only [if_neg (show ¬ ((m : Int) < 0 ∨ (k : Int) < 0) by omega)] at hsum
              clear hA hB hC hF hS
              as_aux_lemma =>
                have lA5 := DA5.out.lt
                have lB5 := DB5.out.lt
                have lF5 := DF5.out.lt
                have lS5 := DS5.out.lt
                go_wp2_with fail
                refine wp_region_stab (fun _ => none) (by kernel_rfl) (by kernel_rfl) (fun _ _ h => by cases h) (fun hex => ?_)
                iterate 29
                  (refine wpS_one (A := ?_) hex rfl rfl (by simp) ?_ ?_ ?_
                   rotate_left 2
                   · intro w' hC K hK
                     obtain ⟨hcell, hfrz⟩ := bcell hC.1.ext
                     obtain ⟨a0, a1, a2⟩ := (DA5.out.ext hC.1.ext).cells3; obtain ⟨b0, b1, b2⟩ := (DB5.out.ext hC.1.ext).cells3; obtain ⟨c0, c1, c2⟩ := (DC5.out.ext hC.1.ext).cells3; clear hcell hfrz
                     go_wp2_with (go_at_call 19; with_reducible refine (hsum _).mono ?_; rintro e w2 ⟨rfl, rfl⟩)
                     refine hK _ ?_
                     first | exact Gr.refl _ _ | exact Gr.of_ext (by assumption) hC.1.1.size
                   rotate_left 1
                   · rfl
                   clear hex; intro hex)
                refine wpS_nil fun w8 hE => ?_
                replace hE := hE.1.ext
                obtain ⟨hcell_w8, hfrz_w8⟩ := bcell hE
                obtain ⟨a0, a1, a2⟩ := (DA5.out.ext hE).cells3
                obtain ⟨b0, b1, b2⟩ := (DB5.out.ext hE).cells3
                obtain ⟨f0, f1, f2⟩ := (DF5.out.ext hE).cells3
                obtain ⟨s0, s1, s2⟩ := (DS5.out.ext hE).cells3
                have hsz8 := hE.size
                have la8 := Nat.lt_of_lt_of_le lA5 hsz8
                have lb8 := Nat.lt_of_lt_of_le lB5 hsz8
                have lf8 := Nat.lt_of_lt_of_le lF5 hsz8
                have ls8 := Nat.lt_of_lt_of_le lS5 hsz8
                have X8 := Lib.hid (bel_call XE5.out hE)
                have HA8 := Lib.hid (HA5.out.ext hE)
                clear hE hex hcell_w8 hfrz_w8 lA5 lB5 lF5 lS5 hsz8
                have hls := len_same
                go_wp2_with fail
                refine Calls.mono (wk_call HWK.out HA8.out X8.out (by go_grown)) ?_
                rintro e w9 ⟨rfl, x9⟩
                have X9 := Lib.hid x9
                clear x9
                go_wp2_with fail
                go_ret
                exact ⟨rfl, X9.out⟩
          · skip
            have dc12 : decide ((j : Int) < (l : Int)) = false := by first | (simp; omega) | simp
            have dd12 : decide (j < l) = false := by first | (simp; omega) | simp
            by_cases hmk : m < k
            · skip
              have dc13 : decide ((m : Int) < (k : Int)) = true := by first | (simp; omega) | simp
              have dd13 : decide (m < k) = true := by first | (simp; omega) | simp
              rw [show (Wv.bounded l m).alt (.bounded j k) = .bounded l k by simp only [Wv.alt]; rw [show min l j = l by omega, show max m k = k by omega]] at hF
              obtain ⟨rfl, rfl, rfl⟩ := lv_inj (hA.symm.trans (show _ = Value.agg #[.bool false, .int .i64 (l : Int), .int .i64 (m : Int)] from rfl))
              obtain ⟨rfl, rfl, rfl⟩ := lv_inj (hB.symm.trans (show _ = Value.agg #[.bool false, .int .i64 (j : Int), .int .i64 (k : Int)] from rfl))
              obtain ⟨rfl, rfl, rfl⟩ := lv_inj (hC.symm.trans (show _ = Value.agg #[.bool false, .int .i64 ((l : Int) + (j : Int)), .int .i64 ((m : Int) + (k : Int))] from by show Value.agg #[.bool false, .int .i64 ((l + j : Nat) : Int), .int .i64 ((m + k : Nat) : Int)] = _; rw [Int.natCast_add, Int.natCast_add]))
              obtain ⟨rfl, rfl, rfl⟩ := lv_inj (hF.symm.trans (show _ = Value.agg #[.bool false, .int .i64 (l : Int), .int .i64 (k : Int)] from rfl))
              obtain ⟨rfl, rfl, rfl⟩ := lv_inj (hS.symm.trans (show _ = Value.agg #[.bool false, .int .i64 0, .int .i64 (-1)] from rfl))
              have hsum := fun w => sum_any (m : Int) (k : Int) w (by omega) (by omega)
              simp only [if_neg (show ¬ ((m : Int) < 0 ∨ (k : Int) < 0) by omega)] at hsum
              clear hA hB hC hF hS
              as_aux_lemma =>
                have lA5 := DA5.out.lt
                have lB5 := DB5.out.lt
                have lF5 := DF5.out.lt
                have lS5 := DS5.out.lt
                go_wp2_with fail
                refine wp_region_stab (fun _ => none) (by kernel_rfl) (by kernel_rfl) (fun _ _ h => by cases h) (fun hex => ?_)
                iterate 29
                  (refine wpS_one (A := ?_) hex rfl rfl (by simp) ?_ ?_ ?_
                   rotate_left 2
                   · intro w' hC K hK
                     obtain ⟨hcell, hfrz⟩ := bcell hC.1.ext
                     obtain ⟨a0, a1, a2⟩ := (DA5.out.ext hC.1.ext).cells3; obtain ⟨b0, b1, b2⟩ := (DB5.out.ext hC.1.ext).cells3; obtain ⟨c0, c1, c2⟩ := (DC5.out.ext hC.1.ext).cells3; clear hcell hfrz
                     go_wp2_with (go_at_call 19; with_reducible refine (hsum _).mono ?_; rintro e w2 ⟨rfl, rfl⟩)
                     refine hK _ ?_
                     first | exact Gr.refl _ _ | exact Gr.of_ext (by assumption) hC.1.1.size
                   rotate_left 1
                   · rfl
                   clear hex; intro hex)
                refine wpS_nil fun w8 hE => ?_
                replace hE := hE.1.ext
                obtain ⟨hcell_w8, hfrz_w8⟩ := bcell hE
                obtain ⟨a0, a1, a2⟩ := (DA5.out.ext hE).cells3
                obtain ⟨b0, b1, b2⟩ := (DB5.out.ext hE).cells3
                obtain ⟨f0, f1, f2⟩ := (DF5.out.ext hE).cells3
                obtain ⟨s0, s1, s2⟩ := (DS5.out.ext hE).cells3
                have hsz8 := hE.size
                have la8 := Nat.lt_of_lt_of_le lA5 hsz8
                have lb8 := Nat.lt_of_lt_of_le lB5 hsz8
                have lf8 := Nat.lt_of_lt_of_le lF5 hsz8
                have ls8 := Nat.lt_of_lt_of_le lS5 hsz8
                have X8 := Lib.hid (bel_call XE5.out hE)
                have HA8 := Lib.hid (HA5.out.ext hE)
                clear hE hex hcell_w8 hfrz_w8 lA5 lB5 lF5 lS5 hsz8
                have hls := len_same
                go_wp2_with fail
                refine Calls.mono (wk_call HWK.out HA8.out X8.out (by go_grown)) ?_
                rintro e w9 ⟨rfl, x9⟩
                have X9 := Lib.hid x9
                clear x9
                go_wp2_with fail
                go_ret
                exact ⟨rfl, X9.out⟩
            · skip
              have dc14 : decide ((m : Int) < (k : Int)) = false := by first | (simp; omega) | simp
              have dd14 : decide (m < k) = false := by first | (simp; omega) | simp
              rw [show (Wv.bounded l m).alt (.bounded j k) = .bounded l m by simp only [Wv.alt]; rw [show min l j = l by omega, show max m k = m by omega]] at hF
              obtain ⟨rfl, rfl, rfl⟩ := lv_inj (hA.symm.trans (show _ = Value.agg #[.bool false, .int .i64 (l : Int), .int .i64 (m : Int)] from rfl))
              obtain ⟨rfl, rfl, rfl⟩ := lv_inj (hB.symm.trans (show _ = Value.agg #[.bool false, .int .i64 (j : Int), .int .i64 (k : Int)] from rfl))
              obtain ⟨rfl, rfl, rfl⟩ := lv_inj (hC.symm.trans (show _ = Value.agg #[.bool false, .int .i64 ((l : Int) + (j : Int)), .int .i64 ((m : Int) + (k : Int))] from by show Value.agg #[.bool false, .int .i64 ((l + j : Nat) : Int), .int .i64 ((m + k : Nat) : Int)] = _; rw [Int.natCast_add, Int.natCast_add]))
              obtain ⟨rfl, rfl, rfl⟩ := lv_inj (hF.symm.trans (show _ = Value.agg #[.bool false, .int .i64 (l : Int), .int .i64 (m : Int)] from rfl))
              obtain ⟨rfl, rfl, rfl⟩ := lv_inj (hS.symm.trans (show _ = Value.agg #[.bool false, .int .i64 0, .int .i64 (-1)] from rfl))
              have hsum := fun w => sum_any (m : Int) (k : Int) w (by omega) (by omega)
              simp only [if_neg (show ¬ ((m : Int) < 0 ∨ (k : Int) < 0) by omega)] at hsum
              clear hA hB hC hF hS
              as_aux_lemma =>
                have lA5 := DA5.out.lt
                have lB5 := DB5.out.lt
                have lF5 := DF5.out.lt
                have lS5 := DS5.out.lt
                go_wp2_with fail
                refine wp_region_stab (fun _ => none) (by kernel_rfl) (by kernel_rfl) (fun _ _ h => by cases h) (fun hex => ?_)
                iterate 29
                  (refine wpS_one (A := ?_) hex rfl rfl (by simp) ?_ ?_ ?_
                   rotate_left 2
                   · intro w' hC K hK
                     obtain ⟨hcell, hfrz⟩ := bcell hC.1.ext
                     obtain ⟨a0, a1, a2⟩ := (DA5.out.ext hC.1.ext).cells3; obtain ⟨b0, b1, b2⟩ := (DB5.out.ext hC.1.ext).cells3; obtain ⟨c0, c1, c2⟩ := (DC5.out.ext hC.1.ext).cells3; clear hcell hfrz
                     go_wp2_with (go_at_call 19; with_reducible refine (hsum _).mono ?_; rintro e w2 ⟨rfl, rfl⟩)
                     refine hK _ ?_
                     first | exact Gr.refl _ _ | exact Gr.of_ext (by assumption) hC.1.1.size
                   rotate_left 1
                   · rfl
                   clear hex; intro hex)
                refine wpS_nil fun w8 hE => ?_
                replace hE := hE.1.ext
                obtain ⟨hcell_w8, hfrz_w8⟩ := bcell hE
                obtain ⟨a0, a1, a2⟩ := (DA5.out.ext hE).cells3
                obtain ⟨b0, b1, b2⟩ := (DB5.out.ext hE).cells3
                obtain ⟨f0, f1, f2⟩ := (DF5.out.ext hE).cells3
                obtain ⟨s0, s1, s2⟩ := (DS5.out.ext hE).cells3
                have hsz8 := hE.size
                have la8 := Nat.lt_of_lt_of_le lA5 hsz8
                have lb8 := Nat.lt_of_lt_of_le lB5 hsz8
                have lf8 := Nat.lt_of_lt_of_le lF5 hsz8
                have ls8 := Nat.lt_of_lt_of_le lS5 hsz8
                have X8 := Lib.hid (bel_call XE5.out hE)
                have HA8 := Lib.hid (HA5.out.ext hE)
                clear hE hex hcell_w8 hfrz_w8 lA5 lB5 lF5 lS5 hsz8
                have hls := len_same
                go_wp2_with fail
                refine Calls.mono (wk_call HWK.out HA8.out X8.out (by go_grown)) ?_
                rintro e w9 ⟨rfl, x9⟩
                have X9 := Lib.hid x9
                clear x9
                go_wp2_with fail
                go_ret
                exact ⟨rfl, X9.out⟩
        | endless j =>
          simp only [Wv.le] at gB
          have dp15 : decide ((0 : Int) ≤ (j : Int)) = true := by simp
          have dn15 : decide ((j : Int) < 0) = false := by simp
          have di15 : (0 : Int) ≤ (j : Int) := by omega
          have sb1 : (l : Int) + (j : Int) ≤ 40000 := by omega
          have dw1 : decide ((m : Int) < -1) = false := by first | (simp; omega) | simp
          by_cases hjl : j < l
          · skip
            have dc16 : decide ((j : Int) < (l : Int)) = true := by first | (simp; omega) | simp
            have dd16 : decide (j < l) = true := by first | (simp; omega) | simp
            rw [show (Wv.bounded l m).alt (.endless j) = .endless j by simp only [Wv.alt]; rw [show min l j = j by omega]] at hF
            obtain ⟨rfl, rfl, rfl⟩ := lv_inj (hA.symm.trans (show _ = Value.agg #[.bool false, .int .i64 (l : Int), .int .i64 (m : Int)] from rfl))
            obtain ⟨rfl, rfl, rfl⟩ := lv_inj (hB.symm.trans (show _ = Value.agg #[.bool false, .int .i64 (j : Int), .int .i64 (-1)] from rfl))
            obtain ⟨rfl, rfl, rfl⟩ := lv_inj (hC.symm.trans (show _ = Value.agg #[.bool false, .int .i64 ((l : Int) + (j : Int)), .int .i64 (-1)] from by show Value.agg #[.bool false, .int .i64 ((l + j : Nat) : Int), .int .i64 (-1)] = _; rw [Int.natCast_add]))
            obtain ⟨rfl, rfl, rfl⟩ := lv_inj (hF.symm.trans (show _ = Value.agg #[.bool false, .int .i64 (j : Int), .int .i64 (-1)] from rfl))
            obtain ⟨rfl, rfl, rfl⟩ := lv_inj (hS.symm.trans (show _ = Value.agg #[.bool false, .int .i64 0, .int .i64 (-1)] from rfl))
            have hsum := fun w => sum_any (m : Int) (-1) w (by omega) (by omega)
            simp only [if_pos (show (m : Int) < 0 ∨ (-1 : Int) < 0 by omega)] at hsum
            clear hA hB hC hF hS
            as_aux_lemma =>
              have lA5 := DA5.out.lt
              have lB5 := DB5.out.lt
              have lF5 := DF5.out.lt
              have lS5 := DS5.out.lt
              go_wp2_with fail
              refine wp_region_stab (fun _ => none) (by kernel_rfl) (by kernel_rfl) (fun _ _ h => by cases h) (fun hex => ?_)
              iterate 29
                (refine wpS_one (A := ?_) hex rfl rfl (by simp) ?_ ?_ ?_
                 rotate_left 2
                 · intro w' hC K hK
                   obtain ⟨hcell, hfrz⟩ := bcell hC.1.ext
                   obtain ⟨a0, a1, a2⟩ := (DA5.out.ext hC.1.ext).cells3; obtain ⟨b0, b1, b2⟩ := (DB5.out.ext hC.1.ext).cells3; obtain ⟨c0, c1, c2⟩ := (DC5.out.ext hC.1.ext).cells3; clear hcell hfrz
                   go_wp2_with (go_at_call 19; with_reducible refine (hsum _).mono ?_; rintro e w2 ⟨rfl, rfl⟩)
                   refine hK _ ?_
                   first | exact Gr.refl _ _ | exact Gr.of_ext (by assumption) hC.1.1.size
                 rotate_left 1
                 · rfl
                 clear hex; intro hex)
              refine wpS_nil fun w8 hE => ?_
              replace hE := hE.1.ext
              obtain ⟨hcell_w8, hfrz_w8⟩ := bcell hE
              obtain ⟨a0, a1, a2⟩ := (DA5.out.ext hE).cells3
              obtain ⟨b0, b1, b2⟩ := (DB5.out.ext hE).cells3
              obtain ⟨f0, f1, f2⟩ := (DF5.out.ext hE).cells3
              obtain ⟨s0, s1, s2⟩ := (DS5.out.ext hE).cells3
              have hsz8 := hE.size
              have la8 := Nat.lt_of_lt_of_le lA5 hsz8
              have lb8 := Nat.lt_of_lt_of_le lB5 hsz8
              have lf8 := Nat.lt_of_lt_of_le lF5 hsz8
              have ls8 := Nat.lt_of_lt_of_le lS5 hsz8
              have X8 := Lib.hid (bel_call XE5.out hE)
              have HA8 := Lib.hid (HA5.out.ext hE)
              clear hE hex hcell_w8 hfrz_w8 lA5 lB5 lF5 lS5 hsz8
              have hls := len_same
              go_wp2_with fail
              refine Calls.mono (wk_call HWK.out HA8.out X8.out (by go_grown)) ?_
              rintro e w9 ⟨rfl, x9⟩
              have X9 := Lib.hid x9
              clear x9
              go_wp2_with fail
              go_ret
              exact ⟨rfl, X9.out⟩
          · skip
            have dc17 : decide ((j : Int) < (l : Int)) = false := by first | (simp; omega) | simp
            have dd17 : decide (j < l) = false := by first | (simp; omega) | simp
            rw [show (Wv.bounded l m).alt (.endless j) = .endless l by simp only [Wv.alt]; rw [show min l j = l by omega]] at hF
            obtain ⟨rfl, rfl, rfl⟩ := lv_inj (hA.symm.trans (show _ = Value.agg #[.bool false, .int .i64 (l : Int), .int .i64 (m : Int)] from rfl))
            obtain ⟨rfl, rfl, rfl⟩ := lv_inj (hB.symm.trans (show _ = Value.agg #[.bool false, .int .i64 (j : Int), .int .i64 (-1)] from rfl))
            obtain ⟨rfl, rfl, rfl⟩ := lv_inj (hC.symm.trans (show _ = Value.agg #[.bool false, .int .i64 ((l : Int) + (j : Int)), .int .i64 (-1)] from by show Value.agg #[.bool false, .int .i64 ((l + j : Nat) : Int), .int .i64 (-1)] = _; rw [Int.natCast_add]))
            obtain ⟨rfl, rfl, rfl⟩ := lv_inj (hF.symm.trans (show _ = Value.agg #[.bool false, .int .i64 (l : Int), .int .i64 (-1)] from rfl))
            obtain ⟨rfl, rfl, rfl⟩ := lv_inj (hS.symm.trans (show _ = Value.agg #[.bool false, .int .i64 0, .int .i64 (-1)] from rfl))
            have hsum := fun w => sum_any (m : Int) (-1) w (by omega) (by omega)
            simp only [if_pos (show (m : Int) < 0 ∨ (-1 : Int) < 0 by omega)] at hsum
            clear hA hB hC hF hS
            as_aux_lemma =>
              have lA5 := DA5.out.lt
              have lB5 := DB5.out.lt
              have lF5 := DF5.out.lt
              have lS5 := DS5.out.lt
              go_wp2_with fail
              refine wp_region_stab (fun _ => none) (by kernel_rfl) (by kernel_rfl) (fun _ _ h => by cases h) (fun hex => ?_)
              iterate 29
                (refine wpS_one (A := ?_) hex rfl rfl (by simp) ?_ ?_ ?_
                 rotate_left 2
                 · intro w' hC K hK
                   obtain ⟨hcell, hfrz⟩ := bcell hC.1.ext
                   obtain ⟨a0, a1, a2⟩ := (DA5.out.ext hC.1.ext).cells3; obtain ⟨b0, b1, b2⟩ := (DB5.out.ext hC.1.ext).cells3; obtain ⟨c0, c1, c2⟩ := (DC5.out.ext hC.1.ext).cells3; clear hcell hfrz
                   go_wp2_with (go_at_call 19; with_reducible refine (hsum _).mono ?_; rintro e w2 ⟨rfl, rfl⟩)
                   refine hK _ ?_
                   first | exact Gr.refl _ _ | exact Gr.of_ext (by assumption) hC.1.1.size
                 rotate_left 1
                 · rfl
                 clear hex; intro hex)
              refine wpS_nil fun w8 hE => ?_
              replace hE := hE.1.ext
              obtain ⟨hcell_w8, hfrz_w8⟩ := bcell hE
              obtain ⟨a0, a1, a2⟩ := (DA5.out.ext hE).cells3
              obtain ⟨b0, b1, b2⟩ := (DB5.out.ext hE).cells3
              obtain ⟨f0, f1, f2⟩ := (DF5.out.ext hE).cells3
              obtain ⟨s0, s1, s2⟩ := (DS5.out.ext hE).cells3
              have hsz8 := hE.size
              have la8 := Nat.lt_of_lt_of_le lA5 hsz8
              have lb8 := Nat.lt_of_lt_of_le lB5 hsz8
              have lf8 := Nat.lt_of_lt_of_le lF5 hsz8
              have ls8 := Nat.lt_of_lt_of_le lS5 hsz8
              have X8 := Lib.hid (bel_call XE5.out hE)
              have HA8 := Lib.hid (HA5.out.ext hE)
              clear hE hex hcell_w8 hfrz_w8 lA5 lB5 lF5 lS5 hsz8
              have hls := len_same
              go_wp2_with fail
              refine Calls.mono (wk_call HWK.out HA8.out X8.out (by go_grown)) ?_
              rintro e w9 ⟨rfl, x9⟩
              have X9 := Lib.hid x9
              clear x9
              go_wp2_with fail
              go_ret
              exact ⟨rfl, X9.out⟩
    | endless l =>
      simp only [Wv.le] at gA
      rw [show (Wv.endless l).rep 0 (-1) = .endless 0 by simp [Wv.rep, Wv.again, Wv.alt]] at hS
      have dp18 : decide ((0 : Int) ≤ (l : Int)) = true := by simp
      have dn18 : decide ((l : Int) < 0) = false := by simp
      have di18 : (0 : Int) ≤ (l : Int) := by omega
      cases vB with
      | none =>
        obtain ⟨rfl, rfl, rfl⟩ := lv_inj (hA.symm.trans (show _ = Value.agg #[.bool false, .int .i64 (l : Int), .int .i64 (-1)] from rfl))
        obtain ⟨rfl, rfl, rfl⟩ := lv_inj (hB.symm.trans (show _ = Value.agg #[.bool true, .int .i64 0, .int .i64 0] from rfl))
        obtain ⟨rfl, rfl, rfl⟩ := lv_inj (hC.symm.trans (show _ = Value.agg #[.bool true, .int .i64 0, .int .i64 0] from rfl))
        obtain ⟨rfl, rfl, rfl⟩ := lv_inj (hF.symm.trans (show _ = Value.agg #[.bool false, .int .i64 (l : Int), .int .i64 (-1)] from rfl))
        obtain ⟨rfl, rfl, rfl⟩ := lv_inj (hS.symm.trans (show _ = Value.agg #[.bool false, .int .i64 0, .int .i64 (-1)] from rfl))
        clear hA hB hC hF hS
        as_aux_lemma =>
          have lA5 := DA5.out.lt
          have lB5 := DB5.out.lt
          have lF5 := DF5.out.lt
          have lS5 := DS5.out.lt
          go_wp2_with fail
          refine wp_region_stab (fun _ => none) (by kernel_rfl) (by kernel_rfl) (fun _ _ h => by cases h) (fun hex => ?_)
          iterate 29
            (refine wpS_one (A := ?_) hex rfl rfl (by simp) ?_ ?_ ?_
             rotate_left 2
             · intro w' hC K hK
               obtain ⟨hcell, hfrz⟩ := bcell hC.1.ext
               obtain ⟨a0, a1, a2⟩ := (DA5.out.ext hC.1.ext).cells3; obtain ⟨b0, b1, b2⟩ := (DB5.out.ext hC.1.ext).cells3; obtain ⟨c0, c1, c2⟩ := (DC5.out.ext hC.1.ext).cells3; clear hcell hfrz
               go_wp2_with (fail)
               refine hK _ ?_
               first | exact Gr.refl _ _ | exact Gr.of_ext (by assumption) hC.1.1.size
             rotate_left 1
             · rfl
             clear hex; intro hex)
          refine wpS_nil fun w8 hE => ?_
          replace hE := hE.1.ext
          obtain ⟨hcell_w8, hfrz_w8⟩ := bcell hE
          obtain ⟨a0, a1, a2⟩ := (DA5.out.ext hE).cells3
          obtain ⟨b0, b1, b2⟩ := (DB5.out.ext hE).cells3
          obtain ⟨f0, f1, f2⟩ := (DF5.out.ext hE).cells3
          obtain ⟨s0, s1, s2⟩ := (DS5.out.ext hE).cells3
          have hsz8 := hE.size
          have la8 := Nat.lt_of_lt_of_le lA5 hsz8
          have lb8 := Nat.lt_of_lt_of_le lB5 hsz8
          have lf8 := Nat.lt_of_lt_of_le lF5 hsz8
          have ls8 := Nat.lt_of_lt_of_le lS5 hsz8
          have X8 := Lib.hid (bel_call XE5.out hE)
          have HA8 := Lib.hid (HA5.out.ext hE)
          clear hE hex hcell_w8 hfrz_w8 lA5 lB5 lF5 lS5 hsz8
          have hls := len_same
          go_wp2_with fail
          refine Calls.mono (wk_call HWK.out HA8.out X8.out (by go_grown)) ?_
          rintro e w9 ⟨rfl, x9⟩
          have X9 := Lib.hid x9
          clear x9
          go_wp2_with fail
          go_ret
          exact ⟨rfl, X9.out⟩
      | bounded j k =>
        simp only [Wv.le] at gB
        have dp19 : decide ((0 : Int) ≤ (j : Int)) = true := by simp
        have dn19 : decide ((j : Int) < 0) = false := by simp
        have di19 : (0 : Int) ≤ (j : Int) := by omega
        have dp20 : decide ((0 : Int) ≤ (k : Int)) = true := by simp
        have dn20 : decide ((k : Int) < 0) = false := by simp
        have di20 : (0 : Int) ≤ (k : Int) := by omega
        have dw2 : decide ((-1 : Int) < (k : Int)) = true := by first | (simp; omega) | simp
        have sb1 : (l : Int) + (j : Int) ≤ 40000 := by omega
        by_cases hjl : j < l
        · skip
          have dc21 : decide ((j : Int) < (l : Int)) = true := by first | (simp; omega) | simp
          have dd21 : decide (j < l) = true := by first | (simp; omega) | simp
          rw [show (Wv.endless l).alt (.bounded j k) = .endless j by simp only [Wv.alt]; rw [show min l j = j by omega]] at hF
          obtain ⟨rfl, rfl, rfl⟩ := lv_inj (hA.symm.trans (show _ = Value.agg #[.bool false, .int .i64 (l : Int), .int .i64 (-1)] from rfl))
          obtain ⟨rfl, rfl, rfl⟩ := lv_inj (hB.symm.trans (show _ = Value.agg #[.bool false, .int .i64 (j : Int), .int .i64 (k : Int)] from rfl))
          obtain ⟨rfl, rfl, rfl⟩ := lv_inj (hC.symm.trans (show _ = Value.agg #[.bool false, .int .i64 ((l : Int) + (j : Int)), .int .i64 (-1)] from by show Value.agg #[.bool false, .int .i64 ((l + j : Nat) : Int), .int .i64 (-1)] = _; rw [Int.natCast_add]))
          obtain ⟨rfl, rfl, rfl⟩ := lv_inj (hF.symm.trans (show _ = Value.agg #[.bool false, .int .i64 (j : Int), .int .i64 (-1)] from rfl))
          obtain ⟨rfl, rfl, rfl⟩ := lv_inj (hS.symm.trans (show _ = Value.agg #[.bool false, .int .i64 0, .int .i64 (-1)] from rfl))
          have hsum := fun w => sum_any (-1) (k : Int) w (by omega) (by omega)
          simp only [if_pos (show (-1 : Int) < 0 ∨ (k : Int) < 0 by omega)] at hsum
          clear hA hB hC hF hS
          as_aux_lemma =>
            have lA5 := DA5.out.lt
            have lB5 := DB5.out.lt
            have lF5 := DF5.out.lt
            have lS5 := DS5.out.lt
            go_wp2_with fail
            refine wp_region_stab (fun _ => none) (by kernel_rfl) (by kernel_rfl) (fun _ _ h => by cases h) (fun hex => ?_)
            iterate 29
              (refine wpS_one (A := ?_) hex rfl rfl (by simp) ?_ ?_ ?_
               rotate_left 2
               · intro w' hC K hK
                 obtain ⟨hcell, hfrz⟩ := bcell hC.1.ext
                 obtain ⟨a0, a1, a2⟩ := (DA5.out.ext hC.1.ext).cells3; obtain ⟨b0, b1, b2⟩ := (DB5.out.ext hC.1.ext).cells3; obtain ⟨c0, c1, c2⟩ := (DC5.out.ext hC.1.ext).cells3; clear hcell hfrz
                 go_wp2_with (go_at_call 19; with_reducible refine (hsum _).mono ?_; rintro e w2 ⟨rfl, rfl⟩)
                 refine hK _ ?_
                 first | exact Gr.refl _ _ | exact Gr.of_ext (by assumption) hC.1.1.size
               rotate_left 1
               · rfl
               clear hex; intro hex)
            refine wpS_nil fun w8 hE => ?_
            replace hE := hE.1.ext
            obtain ⟨hcell_w8, hfrz_w8⟩ := bcell hE
            obtain ⟨a0, a1, a2⟩ := (DA5.out.ext hE).cells3
            obtain ⟨b0, b1, b2⟩ := (DB5.out.ext hE).cells3
            obtain ⟨f0, f1, f2⟩ := (DF5.out.ext hE).cells3
            obtain ⟨s0, s1, s2⟩ := (DS5.out.ext hE).cells3
            have hsz8 := hE.size
            have la8 := Nat.lt_of_lt_of_le lA5 hsz8
            have lb8 := Nat.lt_of_lt_of_le lB5 hsz8
            have lf8 := Nat.lt_of_lt_of_le lF5 hsz8
            have ls8 := Nat.lt_of_lt_of_le lS5 hsz8
            have X8 := Lib.hid (bel_call XE5.out hE)
            have HA8 := Lib.hid (HA5.out.ext hE)
            clear hE hex hcell_w8 hfrz_w8 lA5 lB5 lF5 lS5 hsz8
            have hls := len_same
            go_wp2_with fail
            refine Calls.mono (wk_call HWK.out HA8.out X8.out (by go_grown)) ?_
            rintro e w9 ⟨rfl, x9⟩
            have X9 := Lib.hid x9
            clear x9
            go_wp2_with fail
            go_ret
            exact ⟨rfl, X9.out⟩
        · skip
          have dc22 : decide ((j : Int) < (l : Int)) = false := by first | (simp; omega) | simp
          have dd22 : decide (j < l) = false := by first | (simp; omega) | simp
          rw [show (Wv.endless l).alt (.bounded j k) = .endless l by simp only [Wv.alt]; rw [show min l j = l by omega]] at hF
          obtain ⟨rfl, rfl, rfl⟩ := lv_inj (hA.symm.trans (show _ = Value.agg #[.bool false, .int .i64 (l : Int), .int .i64 (-1)] from rfl))
          obtain ⟨rfl, rfl, rfl⟩ := lv_inj (hB.symm.trans (show _ = Value.agg #[.bool false, .int .i64 (j : Int), .int .i64 (k : Int)] from rfl))
          obtain ⟨rfl, rfl, rfl⟩ := lv_inj (hC.symm.trans (show _ = Value.agg #[.bool false, .int .i64 ((l : Int) + (j : Int)), .int .i64 (-1)] from by show Value.agg #[.bool false, .int .i64 ((l + j : Nat) : Int), .int .i64 (-1)] = _; rw [Int.natCast_add]))
          obtain ⟨rfl, rfl, rfl⟩ := lv_inj (hF.symm.trans (show _ = Value.agg #[.bool false, .int .i64 (l : Int), .int .i64 (-1)] from rfl))
          obtain ⟨rfl, rfl, rfl⟩ := lv_inj (hS.symm.trans (show _ = Value.agg #[.bool false, .int .i64 0, .int .i64 (-1)] from rfl))
          have hsum := fun w => sum_any (-1) (k : Int) w (by omega) (by omega)
          simp only [if_pos (show (-1 : Int) < 0 ∨ (k : Int) < 0 by omega)] at hsum
          clear hA hB hC hF hS
          as_aux_lemma =>
            have lA5 := DA5.out.lt
            have lB5 := DB5.out.lt
            have lF5 := DF5.out.lt
            have lS5 := DS5.out.lt
            go_wp2_with fail
            refine wp_region_stab (fun _ => none) (by kernel_rfl) (by kernel_rfl) (fun _ _ h => by cases h) (fun hex => ?_)
            iterate 29
              (refine wpS_one (A := ?_) hex rfl rfl (by simp) ?_ ?_ ?_
               rotate_left 2
               · intro w' hC K hK
                 obtain ⟨hcell, hfrz⟩ := bcell hC.1.ext
                 obtain ⟨a0, a1, a2⟩ := (DA5.out.ext hC.1.ext).cells3; obtain ⟨b0, b1, b2⟩ := (DB5.out.ext hC.1.ext).cells3; obtain ⟨c0, c1, c2⟩ := (DC5.out.ext hC.1.ext).cells3; clear hcell hfrz
                 go_wp2_with (go_at_call 19; with_reducible refine (hsum _).mono ?_; rintro e w2 ⟨rfl, rfl⟩)
                 refine hK _ ?_
                 first | exact Gr.refl _ _ | exact Gr.of_ext (by assumption) hC.1.1.size
               rotate_left 1
               · rfl
               clear hex; intro hex)
            refine wpS_nil fun w8 hE => ?_
            replace hE := hE.1.ext
            obtain ⟨hcell_w8, hfrz_w8⟩ := bcell hE
            obtain ⟨a0, a1, a2⟩ := (DA5.out.ext hE).cells3
            obtain ⟨b0, b1, b2⟩ := (DB5.out.ext hE).cells3
            obtain ⟨f0, f1, f2⟩ := (DF5.out.ext hE).cells3
            obtain ⟨s0, s1, s2⟩ := (DS5.out.ext hE).cells3
            have hsz8 := hE.size
            have la8 := Nat.lt_of_lt_of_le lA5 hsz8
            have lb8 := Nat.lt_of_lt_of_le lB5 hsz8
            have lf8 := Nat.lt_of_lt_of_le lF5 hsz8
            have ls8 := Nat.lt_of_lt_of_le lS5 hsz8
            have X8 := Lib.hid (bel_call XE5.out hE)
            have HA8 := Lib.hid (HA5.out.ext hE)
            clear hE hex hcell_w8 hfrz_w8 lA5 lB5 lF5 lS5 hsz8
            have hls := len_same
            go_wp2_with fail
            refine Calls.mono (wk_call HWK.out HA8.out X8.out (by go_grown)) ?_
            rintro e w9 ⟨rfl, x9⟩
            have X9 := Lib.hid x9
            clear x9
            go_wp2_with fail
            go_ret
            exact ⟨rfl, X9.out⟩
      | endless j =>
        simp only [Wv.le] at gB
        have dp23 : decide ((0 : Int) ≤ (j : Int)) = true := by simp
        have dn23 : decide ((j : Int) < 0) = false := by simp
        have di23 : (0 : Int) ≤ (j : Int) := by omega
        have sb1 : (l : Int) + (j : Int) ≤ 40000 := by omega
        by_cases hjl : j < l
        · skip
          have dc24 : decide ((j : Int) < (l : Int)) = true := by first | (simp; omega) | simp
          have dd24 : decide (j < l) = true := by first | (simp; omega) | simp
          rw [show (Wv.endless l).alt (.endless j) = .endless j by simp only [Wv.alt]; rw [show min l j = j by omega]] at hF
          obtain ⟨rfl, rfl, rfl⟩ := lv_inj (hA.symm.trans (show _ = Value.agg #[.bool false, .int .i64 (l : Int), .int .i64 (-1)] from rfl))
          obtain ⟨rfl, rfl, rfl⟩ := lv_inj (hB.symm.trans (show _ = Value.agg #[.bool false, .int .i64 (j : Int), .int .i64 (-1)] from rfl))
          obtain ⟨rfl, rfl, rfl⟩ := lv_inj (hC.symm.trans (show _ = Value.agg #[.bool false, .int .i64 ((l : Int) + (j : Int)), .int .i64 (-1)] from by show Value.agg #[.bool false, .int .i64 ((l + j : Nat) : Int), .int .i64 (-1)] = _; rw [Int.natCast_add]))
          obtain ⟨rfl, rfl, rfl⟩ := lv_inj (hF.symm.trans (show _ = Value.agg #[.bool false, .int .i64 (j : Int), .int .i64 (-1)] from rfl))
          obtain ⟨rfl, rfl, rfl⟩ := lv_inj (hS.symm.trans (show _ = Value.agg #[.bool false, .int .i64 0, .int .i64 (-1)] from rfl))
          have hsum := fun w => sum_any (-1) (-1) w (by omega) (by omega)
          simp only [if_pos (show (-1 : Int) < 0 ∨ (-1 : Int) < 0 by omega)] at hsum
          clear hA hB hC hF hS
          as_aux_lemma =>
            have lA5 := DA5.out.lt
            have lB5 := DB5.out.lt
            have lF5 := DF5.out.lt
            have lS5 := DS5.out.lt
            go_wp2_with fail
            refine wp_region_stab (fun _ => none) (by kernel_rfl) (by kernel_rfl) (fun _ _ h => by cases h) (fun hex => ?_)
            iterate 29
              (refine wpS_one (A := ?_) hex rfl rfl (by simp) ?_ ?_ ?_
               rotate_left 2
               · intro w' hC K hK
                 obtain ⟨hcell, hfrz⟩ := bcell hC.1.ext
                 obtain ⟨a0, a1, a2⟩ := (DA5.out.ext hC.1.ext).cells3; obtain ⟨b0, b1, b2⟩ := (DB5.out.ext hC.1.ext).cells3; obtain ⟨c0, c1, c2⟩ := (DC5.out.ext hC.1.ext).cells3; clear hcell hfrz
                 go_wp2_with (go_at_call 19; with_reducible refine (hsum _).mono ?_; rintro e w2 ⟨rfl, rfl⟩)
                 refine hK _ ?_
                 first | exact Gr.refl _ _ | exact Gr.of_ext (by assumption) hC.1.1.size
               rotate_left 1
               · rfl
               clear hex; intro hex)
            refine wpS_nil fun w8 hE => ?_
            replace hE := hE.1.ext
            obtain ⟨hcell_w8, hfrz_w8⟩ := bcell hE
            obtain ⟨a0, a1, a2⟩ := (DA5.out.ext hE).cells3
            obtain ⟨b0, b1, b2⟩ := (DB5.out.ext hE).cells3
            obtain ⟨f0, f1, f2⟩ := (DF5.out.ext hE).cells3
            obtain ⟨s0, s1, s2⟩ := (DS5.out.ext hE).cells3
            have hsz8 := hE.size
            have la8 := Nat.lt_of_lt_of_le lA5 hsz8
            have lb8 := Nat.lt_of_lt_of_le lB5 hsz8
            have lf8 := Nat.lt_of_lt_of_le lF5 hsz8
            have ls8 := Nat.lt_of_lt_of_le lS5 hsz8
            have X8 := Lib.hid (bel_call XE5.out hE)
            have HA8 := Lib.hid (HA5.out.ext hE)
            clear hE hex hcell_w8 hfrz_w8 lA5 lB5 lF5 lS5 hsz8
            have hls := len_same
            go_wp2_with fail
            refine Calls.mono (wk_call HWK.out HA8.out X8.out (by go_grown)) ?_
            rintro e w9 ⟨rfl, x9⟩
            have X9 := Lib.hid x9
            clear x9
            go_wp2_with fail
            go_ret
            exact ⟨rfl, X9.out⟩
        · skip
          have dc25 : decide ((j : Int) < (l : Int)) = false := by first | (simp; omega) | simp
          have dd25 : decide (j < l) = false := by first | (simp; omega) | simp
          rw [show (Wv.endless l).alt (.endless j) = .endless l by simp only [Wv.alt]; rw [show min l j = l by omega]] at hF
          obtain ⟨rfl, rfl, rfl⟩ := lv_inj (hA.symm.trans (show _ = Value.agg #[.bool false, .int .i64 (l : Int), .int .i64 (-1)] from rfl))
          obtain ⟨rfl, rfl, rfl⟩ := lv_inj (hB.symm.trans (show _ = Value.agg #[.bool false, .int .i64 (j : Int), .int .i64 (-1)] from rfl))
          obtain ⟨rfl, rfl, rfl⟩ := lv_inj (hC.symm.trans (show _ = Value.agg #[.bool false, .int .i64 ((l : Int) + (j : Int)), .int .i64 (-1)] from by show Value.agg #[.bool false, .int .i64 ((l + j : Nat) : Int), .int .i64 (-1)] = _; rw [Int.natCast_add]))
          obtain ⟨rfl, rfl, rfl⟩ := lv_inj (hF.symm.trans (show _ = Value.agg #[.bool false, .int .i64 (l : Int), .int .i64 (-1)] from rfl))
          obtain ⟨rfl, rfl, rfl⟩ := lv_inj (hS.symm.trans (show _ = Value.agg #[.bool false, .int .i64 0, .int .i64 (-1)] from rfl))
          have hsum := fun w => sum_any (-1) (-1) w (by omega) (by omega)
          simp only [if_pos (show (-1 : Int) < 0 ∨ (-1 : Int) < 0 by omega)] at hsum
          clear hA hB hC hF hS
          as_aux_lemma =>
            have lA5 := DA5.out.lt
            have lB5 := DB5.out.lt
            have lF5 := DF5.out.lt
            have lS5 := DS5.out.lt
            go_wp2_with fail
            refine wp_region_stab (fun _ => none) (by kernel_rfl) (by kernel_rfl) (fun _ _ h => by cases h) (fun hex => ?_)
            iterate 29
              (refine wpS_one (A := ?_) hex rfl rfl (by simp) ?_ ?_ ?_
               rotate_left 2
               · intro w' hC K hK
                 obtain ⟨hcell, hfrz⟩ := bcell hC.1.ext
                 obtain ⟨a0, a1, a2⟩ := (DA5.out.ext hC.1.ext).cells3; obtain ⟨b0, b1, b2⟩ := (DB5.out.ext hC.1.ext).cells3; obtain ⟨c0, c1, c2⟩ := (DC5.out.ext hC.1.ext).cells3; clear hcell hfrz
                 go_wp2_with (go_at_call 19; with_reducible refine (hsum _).mono ?_; rintro e w2 ⟨rfl, rfl⟩)
                 refine hK _ ?_
                 first | exact Gr.refl _ _ | exact Gr.of_ext (by assumption) hC.1.1.size
               rotate_left 1
               · rfl
               clear hex; intro hex)
            refine wpS_nil fun w8 hE => ?_
            replace hE := hE.1.ext
            obtain ⟨hcell_w8, hfrz_w8⟩ := bcell hE
            obtain ⟨a0, a1, a2⟩ := (DA5.out.ext hE).cells3
            obtain ⟨b0, b1, b2⟩ := (DB5.out.ext hE).cells3
            obtain ⟨f0, f1, f2⟩ := (DF5.out.ext hE).cells3
            obtain ⟨s0, s1, s2⟩ := (DS5.out.ext hE).cells3
            have hsz8 := hE.size
            have la8 := Nat.lt_of_lt_of_le lA5 hsz8
            have lb8 := Nat.lt_of_lt_of_le lB5 hsz8
            have lf8 := Nat.lt_of_lt_of_le lF5 hsz8
            have ls8 := Nat.lt_of_lt_of_le lS5 hsz8
            have X8 := Lib.hid (bel_call XE5.out hE)
            have HA8 := Lib.hid (HA5.out.ext hE)
            clear hE hex hcell_w8 hfrz_w8 lA5 lB5 lF5 lS5 hsz8
            have hls := len_same
            go_wp2_with fail
            refine Calls.mono (wk_call HWK.out HA8.out X8.out (by go_grown)) ?_
            rintro e w9 ⟨rfl, x9⟩
            have X9 := Lib.hid x9
            clear x9
            go_wp2_with fail
            go_ret
            exact ⟨rfl, X9.out⟩
end Go.Proofs.YtnmdfhnfheekgaaDoor
