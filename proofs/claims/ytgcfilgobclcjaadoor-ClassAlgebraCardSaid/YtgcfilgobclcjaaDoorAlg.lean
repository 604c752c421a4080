/- ClassAlgebra: the walk. -/
import Derived.Test.YtgcfilgobclcjaaDoorSti
import Derived.Test.YtgcfilgobclcjaaDoorTrn
namespace Go.Proofs.YtgcfilgobclcjaaDoor
open Go Go.RowKit
theorem ext_mid (T : ByteArray) (l : List UInt8) (h : T.data.toList = 91 :: (l ++ [93])) : (T.extract 1 (T.size - 1)).data.toList = l := by
  have hs : T.size = l.length + 2 := by
    have : T.size = T.data.toList.length := by rw [Array.length_toList]; rfl
    rw [this, h]; simp
  rw [ByteArray.data_extract, Array.toList_extract, List.extract_eq_take_drop, h, hs]
  show List.take (l.length + 2 - 1 - 1) (l ++ [93]) = l
  rw [show l.length + 2 - 1 - 1 = l.length by omega, List.take_left]
theorem ext_tail (T : ByteArray) (l : List UInt8) (h : T.data.toList = 91 :: l) : (T.extract 1 T.size).data.toList = l := by
  have h1 := ext_rest T 1
  rw [h1]
  unfold rest
  rw [h]
  rfl
theorem inr_len (s : BitVec 256) : (inr s).length ≤ 2400 := by
  have h1 := flat_le9 (spn s)
  have h2 := spn_len s
  unfold inr
  omega
theorem compl_is (s t : BitVec 256) (h : ~~~s = t) (w : World) :
    Calls Tryd.prog 14 #[sv s] w fun e w' => e = .returned (sv t) ∧ Below w.heap.size w w' := by subst h; exact compl_any s w
theorem union_is (s u t : BitVec 256) (h : s ||| u = t) (w : World) :
    Calls Tryd.prog 15 #[sv s, sv u] w fun e w' => e = .returned (sv t) ∧ Below w.heap.size w w' := by subst h; exact union_any s u w
theorem inter_is (s u t : BitVec 256) (h : s &&& u = t) (w : World) :
    Calls Tryd.prog 16 #[sv s, sv u] w fun e w' => e = .returned (sv t) ∧ Below w.heap.size w w' := by subst h; exact inter_any s u w
theorem minus_is (s u t : BitVec 256) (h : s &&& ~~~u = t) (w : World) :
    Calls Tryd.prog 17 #[sv s, sv u] w fun e w' => e = .returned (sv t) ∧ Below w.heap.size w w' := by subst h; exact minus_any s u w
set_option maxHeartbeats 4000000 in
set_option maxRecDepth 20000 in
theorem algebra_any (v : Value) (L : List (BitVec 256)) (es ed : Addr) (w : World) (hv : SetsIn w v L) (hT : Tab w) (hK : Kn w es ed) :
    Calls Tryd.prog 5 #[v] w fun e w' => e = .returned (.bool true) ∧ Below w.heap.size w w' := by
  obtain ⟨va, vc, rfl, hc1, hc2, hv⟩ := hv
  have HV := Lib.hid hv
  have HT := Lib.hid hT
  have HK := Lib.hid hK
  clear hv hT hK
  have hL63 : L.length ≤ 9223372036854775807 := by unfold maxLen at hc2; omega
  go_enter Tryd.func5, Tryd.ntmps5
  go_wp2_with fail
  go_loopw [3] (fun i wr => ∃ k : Nat, 2 ≤ k ∧ k ≤ 20 ∧ i = .int .i64 k ∧ Hid (Ext w wr)) (fun i _ => 20 - (intOf i).toNat)
  case atStart => exact ⟨2, by omega, by omega, rfl, Lib.hid (Below.refl _ _)⟩
  case round =>
    obtain ⟨k, hk2, hk20, rfl, hE⟩ := hrel
    by_cases hkn : k < L.length
    · by_cases hk : k < 20
      · have hd1 : decide ((k : Int) < (L.length : Int)) = true := by simp; omega
        have hd2 : decide ((k : Int) < 20) = true := by simp; omega
        have hcells : ∃ b o, va = some ⟨b, o, none⟩ ∧ b < wr.heap.size ∧ ∀ i (h : i < L.length), wr.cell? ⟨b, o + i * 4, none⟩ = some (.int .u64 (wd L[i] 0)) ∧ wr.cell? ⟨b, o + i * 4 + 1, none⟩ = some (.int .u64 (wd L[i] 1)) ∧ wr.cell? ⟨b, o + i * 4 + 2, none⟩ = some (.int .u64 (wd L[i] 2)) ∧ wr.cell? ⟨b, o + i * 4 + 3, none⟩ = some (.int .u64 (wd L[i] 3)) := by
          obtain ⟨a', c', h1, _, _, h | h⟩ := SetsIn.ext (v := .slice va L.length vc) ⟨va, vc, rfl, hc1, hc2, HV.out⟩ hE.out
          · subst h; exact absurd hkn (by simp)
          · obtain ⟨b, o, ha, hb, h⟩ := h
            cases h1
            exact ⟨b, o, ha, hb, h⟩
        obtain ⟨b, o, rfl, hb, hcell⟩ := hcells
        obtain ⟨A, hA⟩ : ∃ A, L[k - 2]'(by omega) = A := ⟨_, rfl⟩
        obtain ⟨B, hB⟩ : ∃ B, L[k - 1]'(by omega) = B := ⟨_, rfl⟩
        obtain ⟨C, hC⟩ : ∃ C, L[k] = C := ⟨_, rfl⟩
        obtain ⟨a0, a1, a2, a3⟩ := hcell (k - 2) (by omega)
        obtain ⟨b0, b1, b2, b3⟩ := hcell (k - 1) (by omega)
        obtain ⟨c0, c1, c2, c3⟩ := hcell k hkn
        rw [hA] at a0 a1 a2 a3
        rw [hB] at b0 b1 b2 b3
        rw [hC] at c0 c1 c2 c3
        clear hcell hA hB hC
        obtain ⟨TA, hTA⟩ : ∃ TA : ByteArray, txt A = TA.data.toList := ⟨⟨(txt A).toArray⟩, by simp⟩
        obtain ⟨TB, hTB⟩ : ∃ TB : ByteArray, txt B = TB.data.toList := ⟨⟨(txt B).toArray⟩, by simp⟩
        obtain ⟨TC, hTC⟩ : ∃ TC : ByteArray, txt C = TC.data.toList := ⟨⟨(txt C).toArray⟩, by simp⟩
        have hla := txt_len A
        have hlb := txt_len B
        rw [hTA, Array.length_toList] at hla
        rw [hTB, Array.length_toList] at hlb
        have hsa : 2 ≤ TA.size ∧ TA.size ≤ 3000 := hla
        have hsb : 2 ≤ TB.size ∧ TB.size ≤ 3000 := hlb
        have hda : decide ((TA.size : Int) < 2) = false := by simp; omega
        have hdb : decide ((TB.size : Int) < 2) = false := by simp; omega
        have HTA := Lib.hid (And.intro hTA (And.intro hTB hTC))
        clear hTA hTB hTC hla hlb
        go_wp2_with fail
        have hx2 : Ext wr (((wr.alloc (.cells (svs A) 29)).alloc (.cells (svs B) 29)).alloc (.cells (svs C) 29)) := by go_grown
        have kA := ((Blk.new wr (svs A) 29).alloc (.cells (svs B) 29)).alloc (.cells (svs C) 29)
        have kB := (Blk.new (wr.alloc (.cells (svs A) 29)) (svs B) 29).alloc (.cells (svs C) 29)
        have kC := Blk.new ((wr.alloc (.cells (svs A) 29)).alloc (.cells (svs B) 29)) (svs C) 29
        rw [show (wr.alloc (.cells (svs A) 29)).heap.size = wr.heap.size + 1 by simp] at kB
        rw [show ((wr.alloc (.cells (svs A) 29)).alloc (.cells (svs B) 29)).heap.size = wr.heap.size + 2 by simp] at kC
        have HX := Lib.hid (And.intro hx2 (And.intro kA (And.intro kB kC)))
        clear hx2 kA kB kC a0 a1 a2 a3 b0 b1 b2 b3 c0 c1 c2 c3 HV
        generalize ((wr.alloc (.cells (svs A) 29)).alloc (.cells (svs B) 29)).alloc (.cells (svs C) 29) = w2 at HX ⊢
        have HE2 := Lib.hid (bel_call hE.out HX.out.1)
        have hta := text_is A TA HTA.out.1 w2 (HT.out.ext HE2.out)
        refine hta.mono ?_
        rintro e w3 ⟨rfl, hx3⟩
        obtain ⟨b0, b1, b2, b3⟩ := (HX.out.2.2.1.ext hx3).cells4
        have HE3 := Lib.hid (bel_call HE2.out hx3)
        have HK3 := Lib.hid (And.intro (HX.out.2.1.ext hx3) (And.intro (HX.out.2.2.1.ext hx3) (HX.out.2.2.2.ext hx3)))
        have htb := text_is B TB HTA.out.2.1 w3 (HT.out.ext HE3.out)
        have HTb := Lib.hid htb
        clear htb hta hx3 HE2 HX
        go_wp2_with fail
        refine HTb.out.mono ?_
        rintro e w4 ⟨rfl, hx4⟩
        have HE4 := Lib.hid (bel_call HE3.out hx4)
        have HK4 := Lib.hid (And.intro (HK3.out.1.ext hx4) (And.intro (HK3.out.2.1.ext hx4) (HK3.out.2.2.ext hx4)))
        clear hx4 HE3 HK3 HTb b0 b1 b2 b3
        go_wp2_with fail
        have hin : (TA.extract 1 (TA.size - 1)).data.toList = inr A := ext_mid TA _ HTA.out.1.symm
        have hrb : (TB.extract 1 TB.size).data.toList = inr B ++ [93] := ext_tail TB _ HTA.out.2.1.symm
        generalize TA.extract 1 (TA.size - 1) = TI at hin ⊢
        obtain ⟨m1, hm1, hp1⟩ := prL_not A
        obtain ⟨m2, hm2, hp2⟩ := prL_two A B
        obtain ⟨m3, hm3, hp3⟩ := prL_all A B C
        obtain ⟨m4, hm4, hp4⟩ := prL_none A B
        obtain ⟨N, hN⟩ : ∃ N, ~~~A = N := ⟨_, rfl⟩
        obtain ⟨U, hU⟩ : ∃ U, A ||| B = U := ⟨_, rfl⟩
        obtain ⟨X, hX⟩ : ∃ X, A &&& ~~~B = X := ⟨_, rfl⟩
        obtain ⟨Y, hY⟩ : ∃ Y, X &&& C = Y := ⟨_, rfl⟩
        obtain ⟨V, hV⟩ : ∃ V, ~~~U = V := ⟨_, rfl⟩
        rw [hN] at hm1
        rw [hU] at hm2
        rw [hX, hY] at hm3
        rw [hU, hV] at hm4
        have HD := Lib.hid (And.intro hN (And.intro hU (And.intro hX (And.intro hY hV))))
        have hsN := same_set N
        have hsU := same_set U
        have hsY := same_set Y
        have hsV := same_set V
        clear hN hU hX hY hV
        have la := inr_len A
        have lb := inr_len B
        have lc := inr_len C
        have hti : TI.size ≤ 2400 := by
          have : TI.size = TI.data.toList.length := by rw [Array.length_toList]; rfl
          rw [this, hin]; exact la
        have htc : TC.size ≤ 3000 := by
          have h1 : TC.size = TC.data.toList.length := by rw [Array.length_toList]; rfl
          have h2 := txt_len C
          rw [h1, ← HTA.out.2.2]; exact h2.2
        have HP2 := fun w hK => Lib.hid (parse_of (⟨#[91]⟩ ++ TI ++ TB.extract 1 TB.size) _ (by rw [data_append, data_append, hin, hrb]; rfl) (by simp only [List.length_append, List.length_cons, List.length_nil]; omega) _ m2 hm2 es ed w hK)
        have HP1 := parse_of (⟨#[91, 94]⟩ ++ TI ++ ⟨#[93]⟩) _ (by rw [data_append, data_append, hin]; rfl) (by simp only [List.length_append, List.length_cons, List.length_nil]; omega) _ m1 hm1 es ed w4 (HK.out.ext HE4.out)
        have HM := Lib.hid (And.intro hm1 (And.intro hm2 (And.intro hm3 hm4)))
        have HIN := Lib.hid (And.intro hin hrb)
        have HP1' := Lib.hid HP1
        have HTBt := Lib.hid HTA.out.2.1
        have HTCt := Lib.hid HTA.out.2.2
        clear HP1 hin hrb hm1 hm2 hm3 hm4 HTA
        refine HP1'.out.mono ?_
        rintro e w5 ⟨rfl, hx5⟩
        have hx6 : Ext w4 (w5.alloc (.cells (svs N) 29)) := bel_alloc hx5 (Below.refl _ _) _
        have HE6 := Lib.hid (bel_call HE4.out hx6)
        have HK6 := Lib.hid (And.intro (HK4.out.1.ext hx6) (And.intro (HK4.out.2.1.ext hx6) (And.intro (HK4.out.2.2.ext hx6) (Blk.new w5 (svs N) 29))))
        have HTB := Lib.hid (fun w h => text_is B TB HTBt.out w h)
        have hlt5 := (HK4.out.2.1.ext hx5).lt
        obtain ⟨b0, b1, b2, b3⟩ := (HK4.out.2.1.ext hx5).cells4
        clear hx5 hx6 HE4 HK4 HP1'
        go_wp2_with fail
        clear b0 b1 b2 b3
        generalize hg9 : w5.heap.size = s9 at HK6 hlt5 ⊢
        generalize w5.alloc (.cells (svs N) 29) = w6 at HE6 HK6 ⊢
        refine (HTB.out w6 (HT.out.ext HE6.out)).mono ?_
        rintro e w7 ⟨rfl, hx7⟩
        have HE7 := Lib.hid (bel_call HE6.out hx7)
        have HK7 := Lib.hid (And.intro (HK6.out.1.ext hx7) (And.intro (HK6.out.2.1.ext hx7) (And.intro (HK6.out.2.2.1.ext hx7) (HK6.out.2.2.2.ext hx7))))
        clear hx7 HE6 HK6 hg9 hlt5
        go_wp2_with fail
        refine (HP2 w7 (HK.out.ext HE7.out)).out.mono ?_
        rintro e w8 ⟨rfl, hx8⟩
        have hx9 : Ext w7 (w8.alloc (.cells (svs U) 29)) := bel_alloc hx8 (Below.refl _ _) _
        have HE9 := Lib.hid (bel_call HE7.out hx9)
        have HK9 := Lib.hid (And.intro (HK7.out.1.ext hx9) (And.intro (HK7.out.2.1.ext hx9) (And.intro (HK7.out.2.2.1.ext hx9) (And.intro (HK7.out.2.2.2.ext hx9) (Blk.new w8 (svs U) 29)))))
        clear hx8 hx9 HE7 HK7 HP2
        go_wp2_with fail
        generalize hg12 : w8.heap.size = s12 at HK9 ⊢
        generalize w8.alloc (.cells (svs U) 29) = w9 at HE9 HK9 ⊢
        clear hg12
        have h3z : ((m3 : Int) == 0) = false := by simp; omega
        have HBk9 := HK9
        obtain ⟨ZT, hZT⟩ : ∃ ZT : Obj, Obj.cells (svs Y) 29 = ZT := ⟨_, rfl⟩
        have HTB2 := fun w h => text_is B TB HTBt.out w h
        have HTC2 := fun w h => text_is C TC HTCt.out w h
        have HP3 := fun w hK => parse_of (⟨#[91]⟩ ++ TI ++ ⟨#[45, 45]⟩ ++ TB ++ ⟨#[38, 38]⟩ ++ TC ++ ⟨#[45, 45, 91, 93, 93]⟩) _ (by rw [data_append, data_append, data_append, data_append, data_append, data_append, HIN.out.1, ← HTBt.out, ← HTCt.out]; simp only [List.append_assoc]; rfl) (by have := txt_len B; have := txt_len C; simp only [List.length_append, List.length_cons, List.length_nil]; omega) _ m3 HM.out.2.2.1 es ed w hK
        have HTB2' := Lib.hid HTB2
        have HTC2' := Lib.hid HTC2
        have HP3' := Lib.hid HP3
        clear HTB2 HTC2 HP3 hZT ZT
        refine H.wp_region_stab (G := Tn w9.heap.size (.cells zerS 29) (.cells (svs Y) 29)) (RsT1 16 17 15 w9.heap.size (.cells zerS 29) (.cells (svs Y) 29)) (by kernel_rfl) (by kernel_rfl) (RsT1_mono _ _ _ _ _ _) (fun hex => ?_)
        iterate 3
          (refine H.wpS_one (A := ?_) hex rfl rfl (by simp) ?_ ?_ ?_
           rotate_left 2
           · intro w' hC K hK
             go_wp2_with (fail)
             refine hK _ ?_
             first | exact G.GOK.refl _ | exact Tn.of_ext (by assumption) hC.1.1.size | (refine Tn.of_ext ?_ hC.1.1.size; (repeat' (first | (with_reducible exact Below.refl _ _) | (with_reducible assumption) | (with_reducible refine below_drewN ?_ _) | (with_reducible refine Below.alloc ?_ ?_ _) | (with_reducible refine Below.drew ?_) | (with_reducible refine Below.setCell ?_ ?_ _) | (with_reducible refine Below.trans ?_ (Below.mono (by with_reducible assumption) ?_)) | go_size)))
           rotate_left 1
           · rfl
           clear hex; intro hex)
        refine H.wpS_one (A := ?_) hex rfl rfl (by simp) ?_ ?_ ?_
        rotate_left 2
        · intro w' hC K hK
          obtain ⟨b0, b1, b2, b3⟩ := (HK9.out.2.1.ext hC.1.1).cells4
          go_wp2_with (fail)
          refine hK _ ?_
          first | exact G.GOK.refl _ | exact Tn.of_ext (by assumption) hC.1.1.size | (refine Tn.of_ext ?_ hC.1.1.size; (repeat' (first | (with_reducible exact Below.refl _ _) | (with_reducible assumption) | (with_reducible refine below_drewN ?_ _) | (with_reducible refine Below.alloc ?_ ?_ _) | (with_reducible refine Below.drew ?_) | (with_reducible refine Below.setCell ?_ ?_ _) | (with_reducible refine Below.trans ?_ (Below.mono (by with_reducible assumption) ?_)) | go_size)))
        rotate_left 1
        · rfl
        clear hex; intro hex
        refine H.wpS_one (A := ?_) hex rfl rfl (by simp) ?_ ?_ ?_
        rotate_left 2
        · intro w' hC K hK
          go_wp2_with (refine (HTB2'.out _ (HT.out.ext (bel_call HE9.out hC.1.1))).mono ?_; rintro e wq ⟨rfl, hEq⟩)
          refine hK _ ?_
          first | exact G.GOK.refl _ | exact Tn.of_ext (by assumption) hC.1.1.size | (refine Tn.of_ext ?_ hC.1.1.size; (repeat' (first | (with_reducible exact Below.refl _ _) | (with_reducible assumption) | (with_reducible refine below_drewN ?_ _) | (with_reducible refine Below.alloc ?_ ?_ _) | (with_reducible refine Below.drew ?_) | (with_reducible refine Below.setCell ?_ ?_ _) | (with_reducible refine Below.trans ?_ (Below.mono (by with_reducible assumption) ?_)) | go_size)))
        rotate_left 1
        · rfl
        clear hex; intro hex
        iterate 2
          (refine H.wpS_one (A := ?_) hex rfl rfl (by simp) ?_ ?_ ?_
           rotate_left 2
           · intro w' hC K hK
             go_wp2_with (fail)
             refine hK _ ?_
             first | exact G.GOK.refl _ | exact Tn.of_ext (by assumption) hC.1.1.size | (refine Tn.of_ext ?_ hC.1.1.size; (repeat' (first | (with_reducible exact Below.refl _ _) | (with_reducible assumption) | (with_reducible refine below_drewN ?_ _) | (with_reducible refine Below.alloc ?_ ?_ _) | (with_reducible refine Below.drew ?_) | (with_reducible refine Below.setCell ?_ ?_ _) | (with_reducible refine Below.trans ?_ (Below.mono (by with_reducible assumption) ?_)) | go_size)))
           rotate_left 1
           · rfl
           clear hex; intro hex)
        refine H.wpS_one (A := ?_) hex rfl rfl (by simp) ?_ ?_ ?_
        rotate_left 2
        · intro w' hC K hK
          obtain ⟨b0, b1, b2, b3⟩ := (HK9.out.2.2.1.ext hC.1.1).cells4
          go_wp2_with (fail)
          refine hK _ ?_
          first | exact G.GOK.refl _ | exact Tn.of_ext (by assumption) hC.1.1.size | (refine Tn.of_ext ?_ hC.1.1.size; (repeat' (first | (with_reducible exact Below.refl _ _) | (with_reducible assumption) | (with_reducible refine below_drewN ?_ _) | (with_reducible refine Below.alloc ?_ ?_ _) | (with_reducible refine Below.drew ?_) | (with_reducible refine Below.setCell ?_ ?_ _) | (with_reducible refine Below.trans ?_ (Below.mono (by with_reducible assumption) ?_)) | go_size)))
        rotate_left 1
        · rfl
        clear hex; intro hex
        refine H.wpS_one (A := ?_) hex rfl rfl (by simp) ?_ ?_ ?_
        rotate_left 2
        · intro w' hC K hK
          go_wp2_with (refine (HTC2'.out _ (HT.out.ext (bel_call HE9.out hC.1.1))).mono ?_; rintro e wq ⟨rfl, hEq⟩)
          refine hK _ ?_
          first | exact G.GOK.refl _ | exact Tn.of_ext (by assumption) hC.1.1.size | (refine Tn.of_ext ?_ hC.1.1.size; (repeat' (first | (with_reducible exact Below.refl _ _) | (with_reducible assumption) | (with_reducible refine below_drewN ?_ _) | (with_reducible refine Below.alloc ?_ ?_ _) | (with_reducible refine Below.drew ?_) | (with_reducible refine Below.setCell ?_ ?_ _) | (with_reducible refine Below.trans ?_ (Below.mono (by with_reducible assumption) ?_)) | go_size)))
        rotate_left 1
        · rfl
        clear hex; intro hex
        iterate 2
          (refine H.wpS_one (A := ?_) hex rfl rfl (by simp) ?_ ?_ ?_
           rotate_left 2
           · intro w' hC K hK
             go_wp2_with (fail)
             refine hK _ ?_
             first | exact G.GOK.refl _ | exact Tn.of_ext (by assumption) hC.1.1.size | (refine Tn.of_ext ?_ hC.1.1.size; (repeat' (first | (with_reducible exact Below.refl _ _) | (with_reducible assumption) | (with_reducible refine below_drewN ?_ _) | (with_reducible refine Below.alloc ?_ ?_ _) | (with_reducible refine Below.drew ?_) | (with_reducible refine Below.setCell ?_ ?_ _) | (with_reducible refine Below.trans ?_ (Below.mono (by with_reducible assumption) ?_)) | go_size)))
           rotate_left 1
           · rfl
           clear hex; intro hex)
        refine H.wpS_one (A := ?_) hex rfl rfl (by simp) ?_ ?_ ?_
        rotate_left 2
        · intro w' hC K hK
          go_wp2_with (refine (HP3'.out _ (HK.out.ext (bel_call HE9.out hC.1.1))).mono ?_; rintro e wq ⟨rfl, hEq⟩)
          refine hK _ ?_
          first | exact G.GOK.refl _ | exact Tn.of_ext (by assumption) hC.1.1.size | (refine Tn.of_ext ?_ hC.1.1.size; (repeat' (first | (with_reducible exact Below.refl _ _) | (with_reducible assumption) | (with_reducible refine below_drewN ?_ _) | (with_reducible refine Below.alloc ?_ ?_ _) | (with_reducible refine Below.drew ?_) | (with_reducible refine Below.setCell ?_ ?_ _) | (with_reducible refine Below.trans ?_ (Below.mono (by with_reducible assumption) ?_)) | go_size)))
        rotate_left 1
        · rfl
        clear hex; intro hex
        iterate 4
          (refine H.wpS_one (A := ?_) hex rfl rfl (by simp) ?_ ?_ ?_
           rotate_left 2
           · intro w' hC K hK
             go_wp2_with (fail)
             refine hK _ ?_
             first | exact G.GOK.refl _ | exact Tn.of_ext (by assumption) hC.1.1.size | (refine Tn.of_ext ?_ hC.1.1.size; (repeat' (first | (with_reducible exact Below.refl _ _) | (with_reducible assumption) | (with_reducible refine below_drewN ?_ _) | (with_reducible refine Below.alloc ?_ ?_ _) | (with_reducible refine Below.drew ?_) | (with_reducible refine Below.setCell ?_ ?_ _) | (with_reducible refine Below.trans ?_ (Below.mono (by with_reducible assumption) ?_)) | go_size)))
           rotate_left 1
           · rfl
           clear hex; intro hex)
        refine H.wpS_rel none (RMade (w9.heap.size) (.cells zerS 29) (.cells (svs Y) 29)) rfl (fun _ h => by cases h) rfl (by simp) (by first | rfl | (simp [Region.wanted, yielded]; done)) ?_ ?_
        · intro w' hC K hK
          simp only [Act.put, List.setIfInBounds_toArray, List.set_cons_succ, List.set_cons_zero] at hK
          go_wp2_with fail
          refine hK _ _ ?_ ⟨_, rfl, hC.1.1.size, .inl (Blk.new _ _ _)⟩
          first | exact G.GOK.refl _ | exact Tn.of_ext (by assumption) hC.1.1.size | (refine Tn.of_ext ?_ hC.1.1.size; (repeat' (first | (with_reducible exact Below.refl _ _) | (with_reducible assumption) | (with_reducible refine below_drewN ?_ _) | (with_reducible refine Below.alloc ?_ ?_ _) | (with_reducible refine Below.drew ?_) | (with_reducible refine Below.setCell ?_ ?_ _) | (with_reducible refine Below.trans ?_ (Below.mono (by with_reducible assumption) ?_)) | go_size)))
        clear hex
        intro v w' hex hv
        obtain ⟨bq, rfl, hbq, hBz⟩ := hv
        clear hBz
        replace hex := Exists.intro w' hex
        simp only [Act.put, List.setIfInBounds_toArray, List.set_cons_succ, List.set_cons_zero]
        refine H.wpS_said (some (.tmp 15)) (RSet (w9.heap.size) (.cells (svs Y) 29)) rfl (by intro y h; cases h; simp [Op.operands]) rfl (by first | rfl | (simp [Region.wanted, yielded]; done)) (fun _ _ _ _ h => h) ?_ ?_
        · intro w' hC K hK
          obtain ⟨b', e', hb', hBz⟩ := (hC.2 16 (by simp [Region.binds])).1 rfl
          cases e'
          obtain ⟨x0, x1, x2, x3, hbk, z0, z1, z2, z3⟩ := hBz.cells4
          have f0 := hbk.free 0
          have f1 := hbk.free 1
          have f2 := hbk.free 2
          have f3 := hbk.free 3
          have hlt := hbk.lt
          have HST := Lib.hid (And.intro hb' hBz)
          clear hbk hBz
          go_wp2_with fail
          exact hK _ (Tn.store4 HST.out.1 HST.out.2).1 ⟨bq, rfl, HST.out.1, (Tn.store4 HST.out.1 HST.out.2).2⟩
        clear hex
        intro hex
        iterate 2
          (refine H.wpS_one (A := ?_) hex rfl rfl (by simp) ?_ ?_ ?_
           rotate_left 2
           · intro w' hC K hK
             go_wp2_with (fail)
             refine hK _ ?_
             first | exact G.GOK.refl _ | exact Tn.of_ext (by assumption) hC.1.1.size | (refine Tn.of_ext ?_ hC.1.1.size; (repeat' (first | (with_reducible exact Below.refl _ _) | (with_reducible assumption) | (with_reducible refine below_drewN ?_ _) | (with_reducible refine Below.alloc ?_ ?_ _) | (with_reducible refine Below.drew ?_) | (with_reducible refine Below.setCell ?_ ?_ _) | (with_reducible refine Below.trans ?_ (Below.mono (by with_reducible assumption) ?_)) | go_size)))
           rotate_left 1
           · rfl
           clear hex; intro hex)
        refine H.wpS_nil fun w10 hAll => ?_
        obtain ⟨bq', eq', _, hBt⟩ := (hAll.2 17).1 rfl
        cases eq'
        have HK10 := Lib.hid (And.intro (HK9.out.1.ext hAll.1.1) (And.intro (HK9.out.2.1.ext hAll.1.1) (And.intro (HK9.out.2.2.1.ext hAll.1.1) (And.intro (HK9.out.2.2.2.1.ext hAll.1.1) (And.intro (HK9.out.2.2.2.2.ext hAll.1.1) (show Blk w10 bq (svs Y) 29 from hBt))))))
        have HE10 := Lib.hid (bel_call HE9.out hAll.1.1)
        have hbw : w.heap.size ≤ bq := Nat.le_trans HE9.out.size hbq
        have hneA : bq ≠ wr.heap.size := by have := HK9.out.1.lt; omega
        have hneB : bq ≠ wr.heap.size + 1 := by have := HK9.out.2.1.lt; omega
        clear hAll hBt hex HP3' HTC2' HBk9 HE9 HK9
        have FD := fun w => compl_is A N HD.out.1 w
        have FU := fun w => union_is A B U HD.out.2.1 w
        have FX := fun w => minus_is A B X HD.out.2.2.1 w
        have FY := fun w => inter_is X C Y HD.out.2.2.2.1 w
        have FV := fun w => compl_is U V HD.out.2.2.2.2 w
        have HF := Lib.hid (And.intro FD (And.intro FU (And.intro FX (And.intro FY FV))))
        clear FD FU FX FY FV
        go_wp2_with fail
        refine G.wp_region_stab (G := Ext) (fun _ => none) (by kernel_rfl) (by kernel_rfl) (fun _ _ h => by cases h) (fun hex => ?_)
        iterate 11
          (refine G.wpS_one (A := ?_) hex rfl rfl (by simp) ?_ ?_ ?_
           rotate_left 2
           · intro w' hC K hK
             go_wp2_with (fail)
             refine hK _ ?_
             first | exact Below.refl _ _ | assumption | ((repeat' (first | (with_reducible exact Below.refl _ _) | (with_reducible assumption) | (with_reducible refine below_drewN ?_ _) | (with_reducible refine Below.alloc ?_ ?_ _) | (with_reducible refine Below.drew ?_) | (with_reducible refine Below.setCell ?_ ?_ _) | (with_reducible refine Below.trans ?_ (Below.mono (by with_reducible assumption) ?_)) | go_size)))
           rotate_left 1
           · rfl
           clear hex; intro hex)
        refine G.wpS_one (A := ?_) hex rfl rfl (by simp) ?_ ?_ ?_
        rotate_left 2
        · intro w' hC K hK
          obtain ⟨b0, b1, b2, b3⟩ := (HK10.out.2.2.2.1.ext hC.1).cells4
          go_wp2_with (fail)
          refine hK _ ?_
          first | exact Below.refl _ _ | assumption | ((repeat' (first | (with_reducible exact Below.refl _ _) | (with_reducible assumption) | (with_reducible refine below_drewN ?_ _) | (with_reducible refine Below.alloc ?_ ?_ _) | (with_reducible refine Below.drew ?_) | (with_reducible refine Below.setCell ?_ ?_ _) | (with_reducible refine Below.trans ?_ (Below.mono (by with_reducible assumption) ?_)) | go_size)))
        rotate_left 1
        · rfl
        clear hex; intro hex
        refine G.wpS_one (A := ?_) hex rfl rfl (by simp) ?_ ?_ ?_
        rotate_left 2
        · intro w' hC K hK
          obtain ⟨b0, b1, b2, b3⟩ := (HK10.out.1.ext hC.1).cells4
          go_wp2_with (fail)
          refine hK _ ?_
          first | exact Below.refl _ _ | assumption | ((repeat' (first | (with_reducible exact Below.refl _ _) | (with_reducible assumption) | (with_reducible refine below_drewN ?_ _) | (with_reducible refine Below.alloc ?_ ?_ _) | (with_reducible refine Below.drew ?_) | (with_reducible refine Below.setCell ?_ ?_ _) | (with_reducible refine Below.trans ?_ (Below.mono (by with_reducible assumption) ?_)) | go_size)))
        rotate_left 1
        · rfl
        clear hex; intro hex
        refine G.wpS_one (A := ?_) hex rfl rfl (by simp) ?_ ?_ ?_
        rotate_left 2
        · intro w' hC K hK
          go_wp2_with (refine (HF.out.1 _).mono ?_; rintro e wq ⟨rfl, hEq⟩)
          refine hK _ ?_
          first | exact Below.refl _ _ | assumption | ((repeat' (first | (with_reducible exact Below.refl _ _) | (with_reducible assumption) | (with_reducible refine below_drewN ?_ _) | (with_reducible refine Below.alloc ?_ ?_ _) | (with_reducible refine Below.drew ?_) | (with_reducible refine Below.setCell ?_ ?_ _) | (with_reducible refine Below.trans ?_ (Below.mono (by with_reducible assumption) ?_)) | go_size)))
        rotate_left 1
        · rfl
        clear hex; intro hex
        iterate 3
          (refine G.wpS_one (A := ?_) hex rfl rfl (by simp) ?_ ?_ ?_
           rotate_left 2
           · intro w' hC K hK
             go_wp2_with (fail)
             refine hK _ ?_
             first | exact Below.refl _ _ | assumption | ((repeat' (first | (with_reducible exact Below.refl _ _) | (with_reducible assumption) | (with_reducible refine below_drewN ?_ _) | (with_reducible refine Below.alloc ?_ ?_ _) | (with_reducible refine Below.drew ?_) | (with_reducible refine Below.setCell ?_ ?_ _) | (with_reducible refine Below.trans ?_ (Below.mono (by with_reducible assumption) ?_)) | go_size)))
           rotate_left 1
           · rfl
           clear hex; intro hex)
        refine G.wpS_one (A := ?_) hex rfl rfl (by simp) ?_ ?_ ?_
        rotate_left 2
        · intro w' hC K hK
          obtain ⟨b0, b1, b2, b3⟩ := (HK10.out.2.2.2.2.1.ext hC.1).cells4
          go_wp2_with (fail)
          refine hK _ ?_
          first | exact Below.refl _ _ | assumption | ((repeat' (first | (with_reducible exact Below.refl _ _) | (with_reducible assumption) | (with_reducible refine below_drewN ?_ _) | (with_reducible refine Below.alloc ?_ ?_ _) | (with_reducible refine Below.drew ?_) | (with_reducible refine Below.setCell ?_ ?_ _) | (with_reducible refine Below.trans ?_ (Below.mono (by with_reducible assumption) ?_)) | go_size)))
        rotate_left 1
        · rfl
        clear hex; intro hex
        refine G.wpS_one (A := ?_) hex rfl rfl (by simp) ?_ ?_ ?_
        rotate_left 2
        · intro w' hC K hK
          obtain ⟨b0, b1, b2, b3⟩ := (HK10.out.1.ext hC.1).cells4
          go_wp2_with (fail)
          refine hK _ ?_
          first | exact Below.refl _ _ | assumption | ((repeat' (first | (with_reducible exact Below.refl _ _) | (with_reducible assumption) | (with_reducible refine below_drewN ?_ _) | (with_reducible refine Below.alloc ?_ ?_ _) | (with_reducible refine Below.drew ?_) | (with_reducible refine Below.setCell ?_ ?_ _) | (with_reducible refine Below.trans ?_ (Below.mono (by with_reducible assumption) ?_)) | go_size)))
        rotate_left 1
        · rfl
        clear hex; intro hex
        refine G.wpS_one (A := ?_) hex rfl rfl (by simp) ?_ ?_ ?_
        rotate_left 2
        · intro w' hC K hK
          obtain ⟨b0, b1, b2, b3⟩ := (HK10.out.2.1.ext hC.1).cells4
          go_wp2_with (fail)
          refine hK _ ?_
          first | exact Below.refl _ _ | assumption | ((repeat' (first | (with_reducible exact Below.refl _ _) | (with_reducible assumption) | (with_reducible refine below_drewN ?_ _) | (with_reducible refine Below.alloc ?_ ?_ _) | (with_reducible refine Below.drew ?_) | (with_reducible refine Below.setCell ?_ ?_ _) | (with_reducible refine Below.trans ?_ (Below.mono (by with_reducible assumption) ?_)) | go_size)))
        rotate_left 1
        · rfl
        clear hex; intro hex
        refine G.wpS_one (A := ?_) hex rfl rfl (by simp) ?_ ?_ ?_
        rotate_left 2
        · intro w' hC K hK
          go_wp2_with (refine (HF.out.2.1 _).mono ?_; rintro e wq ⟨rfl, hEq⟩)
          refine hK _ ?_
          first | exact Below.refl _ _ | assumption | ((repeat' (first | (with_reducible exact Below.refl _ _) | (with_reducible assumption) | (with_reducible refine below_drewN ?_ _) | (with_reducible refine Below.alloc ?_ ?_ _) | (with_reducible refine Below.drew ?_) | (with_reducible refine Below.setCell ?_ ?_ _) | (with_reducible refine Below.trans ?_ (Below.mono (by with_reducible assumption) ?_)) | go_size)))
        rotate_left 1
        · rfl
        clear hex; intro hex
        iterate 3
          (refine G.wpS_one (A := ?_) hex rfl rfl (by simp) ?_ ?_ ?_
           rotate_left 2
           · intro w' hC K hK
             go_wp2_with (fail)
             refine hK _ ?_
             first | exact Below.refl _ _ | assumption | ((repeat' (first | (with_reducible exact Below.refl _ _) | (with_reducible assumption) | (with_reducible refine below_drewN ?_ _) | (with_reducible refine Below.alloc ?_ ?_ _) | (with_reducible refine Below.drew ?_) | (with_reducible refine Below.setCell ?_ ?_ _) | (with_reducible refine Below.trans ?_ (Below.mono (by with_reducible assumption) ?_)) | go_size)))
           rotate_left 1
           · rfl
           clear hex; intro hex)
        refine G.wpS_one (A := ?_) hex rfl rfl (by simp) ?_ ?_ ?_
        rotate_left 2
        · intro w' hC K hK
          obtain ⟨b0, b1, b2, b3⟩ := (HK10.out.2.2.2.2.2.ext hC.1).cells4
          go_wp2_with (fail)
          refine hK _ ?_
          first | exact Below.refl _ _ | assumption | ((repeat' (first | (with_reducible exact Below.refl _ _) | (with_reducible assumption) | (with_reducible refine below_drewN ?_ _) | (with_reducible refine Below.alloc ?_ ?_ _) | (with_reducible refine Below.drew ?_) | (with_reducible refine Below.setCell ?_ ?_ _) | (with_reducible refine Below.trans ?_ (Below.mono (by with_reducible assumption) ?_)) | go_size)))
        rotate_left 1
        · rfl
        clear hex; intro hex
        refine G.wpS_one (A := ?_) hex rfl rfl (by simp) ?_ ?_ ?_
        rotate_left 2
        · intro w' hC K hK
          obtain ⟨b0, b1, b2, b3⟩ := (HK10.out.1.ext hC.1).cells4
          go_wp2_with (fail)
          refine hK _ ?_
          first | exact Below.refl _ _ | assumption | ((repeat' (first | (with_reducible exact Below.refl _ _) | (with_reducible assumption) | (with_reducible refine below_drewN ?_ _) | (with_reducible refine Below.alloc ?_ ?_ _) | (with_reducible refine Below.drew ?_) | (with_reducible refine Below.setCell ?_ ?_ _) | (with_reducible refine Below.trans ?_ (Below.mono (by with_reducible assumption) ?_)) | go_size)))
        rotate_left 1
        · rfl
        clear hex; intro hex
        refine G.wpS_one (A := ?_) hex rfl rfl (by simp) ?_ ?_ ?_
        rotate_left 2
        · intro w' hC K hK
          obtain ⟨b0, b1, b2, b3⟩ := (HK10.out.2.1.ext hC.1).cells4
          go_wp2_with (fail)
          refine hK _ ?_
          first | exact Below.refl _ _ | assumption | ((repeat' (first | (with_reducible exact Below.refl _ _) | (with_reducible assumption) | (with_reducible refine below_drewN ?_ _) | (with_reducible refine Below.alloc ?_ ?_ _) | (with_reducible refine Below.drew ?_) | (with_reducible refine Below.setCell ?_ ?_ _) | (with_reducible refine Below.trans ?_ (Below.mono (by with_reducible assumption) ?_)) | go_size)))
        rotate_left 1
        · rfl
        clear hex; intro hex
        refine G.wpS_one (A := ?_) hex rfl rfl (by simp) ?_ ?_ ?_
        rotate_left 2
        · intro w' hC K hK
          go_wp2_with (refine (HF.out.2.2.1 _).mono ?_; rintro e wq ⟨rfl, hEq⟩)
          refine hK _ ?_
          first | exact Below.refl _ _ | assumption | ((repeat' (first | (with_reducible exact Below.refl _ _) | (with_reducible assumption) | (with_reducible refine below_drewN ?_ _) | (with_reducible refine Below.alloc ?_ ?_ _) | (with_reducible refine Below.drew ?_) | (with_reducible refine Below.setCell ?_ ?_ _) | (with_reducible refine Below.trans ?_ (Below.mono (by with_reducible assumption) ?_)) | go_size)))
        rotate_left 1
        · rfl
        clear hex; intro hex
        refine G.wpS_one (A := ?_) hex rfl rfl (by simp) ?_ ?_ ?_
        rotate_left 2
        · intro w' hC K hK
          obtain ⟨b0, b1, b2, b3⟩ := (HK10.out.2.2.1.ext hC.1).cells4
          go_wp2_with (fail)
          refine hK _ ?_
          first | exact Below.refl _ _ | assumption | ((repeat' (first | (with_reducible exact Below.refl _ _) | (with_reducible assumption) | (with_reducible refine below_drewN ?_ _) | (with_reducible refine Below.alloc ?_ ?_ _) | (with_reducible refine Below.drew ?_) | (with_reducible refine Below.setCell ?_ ?_ _) | (with_reducible refine Below.trans ?_ (Below.mono (by with_reducible assumption) ?_)) | go_size)))
        rotate_left 1
        · rfl
        clear hex; intro hex
        refine G.wpS_one (A := ?_) hex rfl rfl (by simp) ?_ ?_ ?_
        rotate_left 2
        · intro w' hC K hK
          go_wp2_with (refine (HF.out.2.2.2.1 _).mono ?_; rintro e wq ⟨rfl, hEq⟩)
          refine hK _ ?_
          first | exact Below.refl _ _ | assumption | ((repeat' (first | (with_reducible exact Below.refl _ _) | (with_reducible assumption) | (with_reducible refine below_drewN ?_ _) | (with_reducible refine Below.alloc ?_ ?_ _) | (with_reducible refine Below.drew ?_) | (with_reducible refine Below.setCell ?_ ?_ _) | (with_reducible refine Below.trans ?_ (Below.mono (by with_reducible assumption) ?_)) | go_size)))
        rotate_left 1
        · rfl
        clear hex; intro hex
        iterate 3
          (refine G.wpS_one (A := ?_) hex rfl rfl (by simp) ?_ ?_ ?_
           rotate_left 2
           · intro w' hC K hK
             go_wp2_with (fail)
             refine hK _ ?_
             first | exact Below.refl _ _ | assumption | ((repeat' (first | (with_reducible exact Below.refl _ _) | (with_reducible assumption) | (with_reducible refine below_drewN ?_ _) | (with_reducible refine Below.alloc ?_ ?_ _) | (with_reducible refine Below.drew ?_) | (with_reducible refine Below.setCell ?_ ?_ _) | (with_reducible refine Below.trans ?_ (Below.mono (by with_reducible assumption) ?_)) | go_size)))
           rotate_left 1
           · rfl
           clear hex; intro hex)
        iterate 3
          (refine G.wpS_one (A := ?_) hex rfl rfl (by simp) ?_ ?_ ?_
           rotate_left 2
           · intro w' hC K hK
             go_wp2_with (fail)
             refine hK _ ?_
             first | exact Below.refl _ _ | assumption | ((repeat' (first | (with_reducible exact Below.refl _ _) | (with_reducible assumption) | (with_reducible refine below_drewN ?_ _) | (with_reducible refine Below.alloc ?_ ?_ _) | (with_reducible refine Below.drew ?_) | (with_reducible refine Below.setCell ?_ ?_ _) | (with_reducible refine Below.trans ?_ (Below.mono (by with_reducible assumption) ?_)) | go_size)))
           rotate_left 1
           · rfl
           clear hex; intro hex)
        refine G.wpS_nil fun w11 hAll => ?_
        have HE11 := Lib.hid (bel_call HE10.out hAll.1)
        have HK11 := Lib.hid (And.intro (HK10.out.1.ext hAll.1) (And.intro (HK10.out.2.1.ext hAll.1) (HK10.out.2.2.2.2.2.ext hAll.1)))
        have hp4 := parse_of (⟨#[91, 94]⟩ ++ TI ++ ⟨#[38, 38]⟩ ++ ⟨#[91, 94]⟩ ++ TB.extract 1 TB.size ++ ⟨#[93]⟩) _ (by rw [data_append, data_append, data_append, data_append, data_append, HIN.out.1, HIN.out.2]; simp only [List.append_assoc, List.cons_append, List.nil_append]) (by have := txt_len B; simp only [List.length_append, List.length_cons, List.length_nil]; omega) _ m4 HM.out.2.2.2 es ed
        have HP4 := Lib.hid hp4
        obtain ⟨b0, b1, b2, b3⟩ := HK11.out.2.1.cells4
        clear hAll hex HE10 HK10 hp4 hsN hsU hsY h3z HM
        go_wp2_with fail
        clear b0 b1 b2 b3
        refine (HTB2'.out _ (HT.out.ext HE11.out)).mono ?_
        rintro e w12 ⟨rfl, hx12⟩
        have HE12 := Lib.hid (bel_call HE11.out hx12)
        have HK12 := Lib.hid (And.intro (HK11.out.1.ext hx12) (And.intro (HK11.out.2.1.ext hx12) (HK11.out.2.2.ext hx12)))
        clear hx12 HE11 HK11 HTB2' HTB
        go_wp2_with fail
        refine (HP4.out w12 (HK.out.ext HE12.out)).mono ?_
        rintro e w13 ⟨rfl, hx13⟩
        have HE13 := Lib.hid (bel_call HE12.out hx13)
        have HK13 := Lib.hid (And.intro (HK12.out.1.ext hx13) (And.intro (HK12.out.2.1.ext hx13) (HK12.out.2.2.ext hx13)))
        obtain ⟨z0, z1, z2, z3⟩ := HK13.out.2.2.cells4
        have f0 := HK13.out.2.2.free 0
        have f1 := HK13.out.2.2.free 1
        have f2 := HK13.out.2.2.free 2
        have f3 := HK13.out.2.2.free 3
        have hlt := HK13.out.2.2.lt
        have HN := Lib.hid (And.intro (HK13.out.2.2.store4 (.int .u64 (wd V 0)) (.int .u64 (wd V 1)) (.int .u64 (wd V 2)) (.int .u64 (wd V 3))) (And.intro (HK13.out.1.other4 hneA (.int .u64 (wd V 0)) (.int .u64 (wd V 1)) (.int .u64 (wd V 2)) (.int .u64 (wd V 3))) (HK13.out.2.1.other4 hneB (.int .u64 (wd V 0)) (.int .u64 (wd V 1)) (.int .u64 (wd V 2)) (.int .u64 (wd V 3)))))
        have hG := grown_own4 (grown_of_ext (row := none) HE13.out) bq hbw (.int .u64 (wd V 0)) (.int .u64 (wd V 1)) (.int .u64 (wd V 2)) (.int .u64 (wd V 3))
        have HE14 : Hid (Ext w ((((w13.setCell ⟨bq, 0, none⟩ (.int .u64 (wd V 0))).setCell ⟨bq, 1, none⟩ (.int .u64 (wd V 1))).setCell ⟨bq, 2, none⟩ (.int .u64 (wd V 2))).setCell ⟨bq, 3, none⟩ (.int .u64 (wd V 3)))) := ⟨hG.os, hG.tape, hG.output, hG.size, fun k hk => hG.block k hk (by simp)⟩
        clear hx13 HE12 HK12 HP4 hG
        go_wp2_with fail
        clear z0 z1 z2 z3 f0 f1 f2 f3 hlt HE13 HK13
        generalize ((((w13.setCell ⟨bq, 0, none⟩ (.int .u64 (wd V 0))).setCell ⟨bq, 1, none⟩ (.int .u64 (wd V 1))).setCell ⟨bq, 2, none⟩ (.int .u64 (wd V 2))).setCell ⟨bq, 3, none⟩ (.int .u64 (wd V 3))) = w14 at HN HE14 ⊢
        refine G.wp_region_stab (G := Ext) (fun _ => none) (by kernel_rfl) (by kernel_rfl) (fun _ _ h => by cases h) (fun hex => ?_)
        iterate 3
          (refine G.wpS_one (A := ?_) hex rfl rfl (by simp) ?_ ?_ ?_
           rotate_left 2
           · intro w' hC K hK
             go_wp2_with (fail)
             refine hK _ ?_
             first | exact Below.refl _ _ | assumption | ((repeat' (first | (with_reducible exact Below.refl _ _) | (with_reducible assumption) | (with_reducible refine below_drewN ?_ _) | (with_reducible refine Below.alloc ?_ ?_ _) | (with_reducible refine Below.drew ?_) | (with_reducible refine Below.setCell ?_ ?_ _) | (with_reducible refine Below.trans ?_ (Below.mono (by with_reducible assumption) ?_)) | go_size)))
           rotate_left 1
           · rfl
           clear hex; intro hex)
        refine G.wpS_one (A := ?_) hex rfl rfl (by simp) ?_ ?_ ?_
        rotate_left 2
        · intro w' hC K hK
          obtain ⟨b0, b1, b2, b3⟩ := (HN.out.1.ext hC.1).cells4
          go_wp2_with (fail)
          refine hK _ ?_
          first | exact Below.refl _ _ | assumption | ((repeat' (first | (with_reducible exact Below.refl _ _) | (with_reducible assumption) | (with_reducible refine below_drewN ?_ _) | (with_reducible refine Below.alloc ?_ ?_ _) | (with_reducible refine Below.drew ?_) | (with_reducible refine Below.setCell ?_ ?_ _) | (with_reducible refine Below.trans ?_ (Below.mono (by with_reducible assumption) ?_)) | go_size)))
        rotate_left 1
        · rfl
        clear hex; intro hex
        refine G.wpS_one (A := ?_) hex rfl rfl (by simp) ?_ ?_ ?_
        rotate_left 2
        · intro w' hC K hK
          obtain ⟨b0, b1, b2, b3⟩ := (HN.out.2.1.ext hC.1).cells4
          go_wp2_with (fail)
          refine hK _ ?_
          first | exact Below.refl _ _ | assumption | ((repeat' (first | (with_reducible exact Below.refl _ _) | (with_reducible assumption) | (with_reducible refine below_drewN ?_ _) | (with_reducible refine Below.alloc ?_ ?_ _) | (with_reducible refine Below.drew ?_) | (with_reducible refine Below.setCell ?_ ?_ _) | (with_reducible refine Below.trans ?_ (Below.mono (by with_reducible assumption) ?_)) | go_size)))
        rotate_left 1
        · rfl
        clear hex; intro hex
        refine G.wpS_one (A := ?_) hex rfl rfl (by simp) ?_ ?_ ?_
        rotate_left 2
        · intro w' hC K hK
          obtain ⟨b0, b1, b2, b3⟩ := (HN.out.2.2.ext hC.1).cells4
          go_wp2_with (fail)
          refine hK _ ?_
          first | exact Below.refl _ _ | assumption | ((repeat' (first | (with_reducible exact Below.refl _ _) | (with_reducible assumption) | (with_reducible refine below_drewN ?_ _) | (with_reducible refine Below.alloc ?_ ?_ _) | (with_reducible refine Below.drew ?_) | (with_reducible refine Below.setCell ?_ ?_ _) | (with_reducible refine Below.trans ?_ (Below.mono (by with_reducible assumption) ?_)) | go_size)))
        rotate_left 1
        · rfl
        clear hex; intro hex
        refine G.wpS_one (A := ?_) hex rfl rfl (by simp) ?_ ?_ ?_
        rotate_left 2
        · intro w' hC K hK
          go_wp2_with (refine (HF.out.2.1 _).mono ?_; rintro e wq ⟨rfl, hEq⟩)
          refine hK _ ?_
          first | exact Below.refl _ _ | assumption | ((repeat' (first | (with_reducible exact Below.refl _ _) | (with_reducible assumption) | (with_reducible refine below_drewN ?_ _) | (with_reducible refine Below.alloc ?_ ?_ _) | (with_reducible refine Below.drew ?_) | (with_reducible refine Below.setCell ?_ ?_ _) | (with_reducible refine Below.trans ?_ (Below.mono (by with_reducible assumption) ?_)) | go_size)))
        rotate_left 1
        · rfl
        clear hex; intro hex
        refine G.wpS_one (A := ?_) hex rfl rfl (by simp) ?_ ?_ ?_
        rotate_left 2
        · intro w' hC K hK
          go_wp2_with (refine (HF.out.2.2.2.2 _).mono ?_; rintro e wq ⟨rfl, hEq⟩)
          refine hK _ ?_
          first | exact Below.refl _ _ | assumption | ((repeat' (first | (with_reducible exact Below.refl _ _) | (with_reducible assumption) | (with_reducible refine below_drewN ?_ _) | (with_reducible refine Below.alloc ?_ ?_ _) | (with_reducible refine Below.drew ?_) | (with_reducible refine Below.setCell ?_ ?_ _) | (with_reducible refine Below.trans ?_ (Below.mono (by with_reducible assumption) ?_)) | go_size)))
        rotate_left 1
        · rfl
        clear hex; intro hex
        iterate 2
          (refine G.wpS_one (A := ?_) hex rfl rfl (by simp) ?_ ?_ ?_
           rotate_left 2
           · intro w' hC K hK
             go_wp2_with (fail)
             refine hK _ ?_
             first | exact Below.refl _ _ | assumption | ((repeat' (first | (with_reducible exact Below.refl _ _) | (with_reducible assumption) | (with_reducible refine below_drewN ?_ _) | (with_reducible refine Below.alloc ?_ ?_ _) | (with_reducible refine Below.drew ?_) | (with_reducible refine Below.setCell ?_ ?_ _) | (with_reducible refine Below.trans ?_ (Below.mono (by with_reducible assumption) ?_)) | go_size)))
           rotate_left 1
           · rfl
           clear hex; intro hex)
        refine G.wpS_nil fun w15 hAll => ?_
        have HE15 := Lib.hid (bel_call HE14.out hAll.1)
        clear hAll hex HN HE14 HF
        go_wp2_with fail
        go_roundw
        case rel => first | exact ⟨k + 1, by omega, by omega, by go_num, HE15⟩ | ((repeat apply Exists.intro); exact ⟨⟨k + 1, by omega, by omega, by go_num, HE15⟩, rfl⟩)
        case measure => simp [intOf]; omega
      · obtain rfl : k = 20 := by omega
        have hd1 : decide (((20 : Nat) : Int) < (L.length : Int)) = true := by simp; omega
        have hw := wakes_any es ed wr (HT.out.ext hE.out) (HK.out.ext hE.out)
        go_wp2_with fail
        refine hw.mono ?_
        rintro e w1 ⟨rfl, hx⟩
        have HX := Lib.hid (bel_call hE.out hx)
        clear hx hw
        go_wp2_with fail
        go_ret
        exact ⟨rfl, HX.out⟩
    · have hd1 : decide ((k : Int) < (L.length : Int)) = false := by simp; omega
      have hw := wakes_any es ed wr (HT.out.ext hE.out) (HK.out.ext hE.out)
      go_wp2_with fail
      refine hw.mono ?_
      rintro e w1 ⟨rfl, hx⟩
      have HX := Lib.hid (bel_call hE.out hx)
      clear hx hw
      go_wp2_with fail
      go_ret
      exact ⟨rfl, HX.out⟩
end Go.Proofs.YtgcfilgobclcjaaDoor
