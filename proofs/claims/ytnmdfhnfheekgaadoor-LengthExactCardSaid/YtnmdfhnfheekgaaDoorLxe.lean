/- LengthExact: the walk. -/
import Derived.Test.YtnmdfhnfheekgaaDoorRo8
import Derived.Test.YtnmdfhnfheekgaaDoorSmf
import Derived.Test.YtnmdfhnfheekgaaDoorCpx
import Derived.Test.YtnmdfhnfheekgaaDoorEqe
import Derived.Test.YtnmdfhnfheekgaaDoorLlp
namespace Go.Proofs.YtnmdfhnfheekgaaDoor
open Go Go.RowKit
theorem lnv_sh (x : Xp) : ∃ (n : Bool) (l m : Int), lnv x = .agg #[.bool n, .int .i64 l, .int .i64 m] := by
  unfold lnv
  split
  · exact lv_shape _
  · exact ⟨_, _, _, rfl⟩
set_option maxHeartbeats 8000000 in
set_option maxRecDepth 20000 in
theorem exact8_any (L : List Xp) (a : Option Addr) (c : Nat) (ea : Nat → Addr) (w : World) (hx : Xat w w.heap.size a c L) (hS : Sent w ea) (hG : ErrT w) (hA : Ag w (ea 13) (ea 8)) :
    Calls Tryd.prog 3 #[.slice a L.length c] w fun e w' => e = .returned (.bool true) ∧ Ext w w' := by
  have HX := Lib.hid hx
  have HA := Lib.hid hA
  have HSG := Lib.hid (And.intro hS hG)
  have hlen := hx.len
  have hmx : maxLen ≤ 9223372036854775807 := by decide
  have hl1 : L.length ≤ 9223372036854775807 := by omega
  have HWK := Lib.hid (fun w h => wakes8_any (ea 13) (ea 8) w h)
  clear hx hS hG hA hlen hmx
  go_enter Tryd.func3, Tryd.ntmps3
  go_wp2_with fail
  go_loopw [3] (fun i wr => ∃ k : Nat, k ≤ L.length ∧ i = .int .i64 k ∧ Hid (Ext w wr)) (fun i _ => L.length - (intOf i).toNat)
  case atStart => exact ⟨0, Nat.zero_le _, rfl, Lib.hid (Below.refl _ _)⟩
  case round =>
    obtain ⟨k, hk, rfl, hEr⟩ := hrel
    by_cases hkl : k < L.length
    · have k1 : decide ((k : Int) < (L.length : Int)) = true := by simp; omega
      by_cases hk20 : k < 20
      · have k2 : decide ((k : Int) < (20 : Int)) = true := by simp; omega
        obtain ⟨b, o, rfl, hbb, y, a', c', hy, hmem, hok, hya, c0, c1, c2, c3, c4, c5, c6, c7, c8, c9⟩ := (HX.out.ext hEr.out).cells hkl
        have HC := Lib.hid (And.intro c0 (And.intro c1 (And.intro c2 (And.intro c3 (And.intro c4 (And.intro c5 (And.intro c6 (And.intro c7 (And.intro c8 c9)))))))))
        have HSZ := Lib.hid (size_any y 0 0 a' c' wr rfl (by omega) hya)
        have HYA := Lib.hid hya
        have hnn := sz_nn y 0
        have hszl := sz_le y 0 (by omega)
        generalize sz y 0 = SY at *
        have i0 : (0 : Int) ≤ (k : Int) := by omega
        have i1 : (k : Int) < (L.length : Int) := by omega
        have i0n : k < L.length := hkl
        have i2 : (k : Int) + 1 ≤ 21 := by omega
        clear hya hy hmem hok
        by_cases hbig : 20000 < SY
        · have d1 : decide ((20000 : Int) < (SY : Int)) = true := by simp; omega
          clear hnn
          as_aux_lemma =>
            go_wp2_with fail
            refine HSZ.out.mono ?_
            rintro e w2 ⟨rfl, x2⟩
            have X2 := Lib.hid (bel_call hEr.out x2)
            clear x2
            go_wp2_with fail
            go_roundw
            case rel => exact ⟨k + 1, by omega, by go_num, X2⟩
            case measure => simp [intOf] <;> omega
        · have d1 : decide ((20000 : Int) < (SY : Int)) = false := by simp; omega
          have hny : nn y ≤ 20000 := by have := hnn (by omega); omega
          clear hnn hszl
          as_aux_lemma =>
            go_wp2_with fail
            refine HSZ.out.mono ?_
            rintro e w2 ⟨rfl, x2⟩
            obtain ⟨c0, c1, c2, c3, c4, c5, c6, c7, c8, c9⟩ := HC.out
            rw [← Below.cell x2 (p := ⟨b, _, none⟩) hbb] at c0 c1 c2 c3 c4 c5 c6 c7 c8 c9
            have X2 := Lib.hid x2
            clear x2
            go_wp2_with fail
            refine (copyx_any y a' c' w2 hny (HYA.out.ext X2.out)).mono ?_
            rintro e w3 ⟨a1, c1', rfl, hap, x3⟩
            have HXC := Lib.hid (hap.xat (B := w3.heap.size) (fun b hb => hb.2))
            have hEb : Ext w3 (w3.alloc (.cells (xbx y a1 c1') 28)) := by go_grown
            have HBC := Lib.hid (Blk.new w3 (xbx y a1 c1') 28)
            have hO := lenof_any y a1 c1' (ea 13) (ea 8) _ (HXC.out.ext hEb) (HA.out.ext (bel_call (bel_call (bel_call hEr.out X2.out) x3) hEb))
            have X3 := Lib.hid (bel_call (bel_call X2.out x3) hEb)
            have HXD := Lib.hid (HXC.out.ext hEb)
            clear c0 c1 c2 c3 c4 c5 c6 c7 c8 c9 hap x3 hEb
            obtain ⟨n, l, m, hv⟩ := lnv_sh y
            have HRO := Lib.hid (fun w h => rof_any y a' c' w h)
            obtain ⟨eY, cY, heY, hcY, hSM⟩ : ∃ eY cY, lne y (ea 13) = eY ∧ (if Chk y then (0 : Int) else 15) = cY ∧ ∀ w', Ext w w' → Calls Tryd.prog 11 #[eY, ftv cY] w' fun e w2 => e = .returned (.bool true) ∧ Ext w' w2 := by
              refine ⟨_, _, rfl, rfl, fun w' hx' => ?_⟩
              by_cases h : Chk y
              · rw [lne_of h, if_pos h]; exact same_nil8 _ 0 0 0 [] w' ⟨_, rfl, Texts.nil w'⟩
              · rw [lne_not h, if_neg h]
                exact same_err8 ea [] (errAt (ea 13)) _ (ea 13) 15 0 0 0 [] w' (HSG.out.1.ext hx') (HSG.out.2.ext hx') (ErrOf.base ((HSG.out.1.ext hx').row 13 (by omega))) (code_at (HSG.out.1.ext hx') 16 0 13 rfl (by omega) (by omega)) rfl rfl rfl rfl (by decide) ⟨_, rfl, Texts.nil w'⟩
            rw [hv, hcY] at HRO
            rw [hv, heY] at hO
            have HSM := Lib.hid hSM
            clear hv heY hcY hSM
            go_wp2_with fail
            generalize w3.alloc (.cells (xbx y a1 c1') 28) = w4 at *
            refine hO.mono ?_
            rintro e w5 ⟨rfl, x5⟩
            have hE5 : Ext w5 (w5.alloc (.cells #[.bool n, .int .i64 l, .int .i64 m] 31)) := by go_grown
            have HD5 := Lib.hid (Blk.new w5 #[.bool n, .int .i64 l, .int .i64 m] 31)
            have X5 := Lib.hid (bel_call x5 hE5)
            have hw5 := (bel_call X3.out X5.out)
            obtain ⟨c0, c1, c2, c3, c4, c5, c6, c7, c8, c9⟩ := HC.out
            rw [← Below.cell hw5 (p := ⟨b, _, none⟩) hbb] at c0 c1 c2 c3 c4 c5 c6 c7 c8 c9
            have HW5 := Lib.hid hw5
            clear x5 hE5 hO hw5
            go_wp2_with fail
            generalize w5.alloc (.cells #[.bool n, .int .i64 l, .int .i64 m] 31) = w6 at *
            refine (HRO.out _ (HYA.out.ext HW5.out)).mono ?_
            rintro e w7 ⟨rfl, x7⟩
            have hE7 : Ext w7 ((w7.alloc (.cells #[.bool n, .int .i64 l, .int .i64 m] 31)).alloc (.cells #[.int .i64 cY, .int .i64 0, .int .i64 0, .int .i64 0, .slice none 0 0] 38)) := by go_grown
            have HD7 := Lib.hid ((Blk.new w7 #[.bool n, .int .i64 l, .int .i64 m] 31).alloc (.cells #[.int .i64 cY, .int .i64 0, .int .i64 0, .int .i64 0, .slice none 0 0] 38))
            have hf7 := Blk.new (w7.alloc (.cells #[.bool n, .int .i64 l, .int .i64 m] 31)) #[.int .i64 cY, .int .i64 0, .int .i64 0, .int .i64 0, .slice none 0 0] 38
            rw [show (w7.alloc (.cells #[.bool n, .int .i64 l, .int .i64 m] 31)).heap.size = w7.heap.size + 1 by simp] at hf7
            have HF7 := Lib.hid hf7
            have X7 := Lib.hid (bel_call x7 hE7)
            clear x7 hE7 hf7 c0 c1 c2 c3 c4 c5 c6 c7 c8 c9
            go_upto_region 8 with fail
            generalize (w7.alloc (.cells #[.bool n, .int .i64 l, .int .i64 m] 31)).alloc (.cells #[.int .i64 cY, .int .i64 0, .int .i64 0, .int .i64 0, .slice none 0 0] 38) = w8 at *
            have XW := Lib.hid (bel_call HW5.out X7.out)
            have X48 := Lib.hid (bel_call X5.out X7.out)
            have HEQ := Lib.hid (fun w h h' => eqx_same y a1 c1' a' c' w h h')
            have hls := len_same n l m
            have HXE8 := Lib.hid (HXD.out.ext X48.out)
            have HYE8 := Lib.hid (HYA.out.ext XW.out)
            have HB8 := Lib.hid (HBC.out.ext X48.out)
            have HD8 := Lib.hid (HD5.out.ext X7.out)
            have hb8 : b < w8.heap.size := Nat.lt_of_lt_of_le hbb XW.out.size
            have HC8 := (by
              obtain ⟨c0, c1, c2, c3, c4, c5, c6, c7, c8, c9⟩ := HC.out
              rw [← Below.cell XW.out (p := ⟨b, _, none⟩) hbb] at c0 c1 c2 c3 c4 c5 c6 c7 c8 c9
              exact Lib.hid (And.intro c0 (And.intro c1 (And.intro c2 (And.intro c3 (And.intro c4 (And.intro c5 (And.intro c6 (And.intro c7 (And.intro c8 c9))))))))))
            refine wp_region_stab (fun _ => none) (by kernel_rfl) (by kernel_rfl) (fun _ _ h => by cases h) (fun hex => ?_)
            iterate 18
              (refine wpS_one (A := ?_) hex rfl rfl (by simp) ?_ ?_ ?_
               rotate_left 2
               · intro w' hC K hK
                 obtain ⟨hcell, hfrz⟩ := bcell hC.1.ext
                 have hwE := bel_call (bel_call hEr.out XW.out) hC.1.ext; have hxE := HXE8.out.ext hC.1.ext; have hyE := HYE8.out.ext hC.1.ext; obtain ⟨p0, p1, p2⟩ := (HD8.out.ext hC.1.ext).cells3; obtain ⟨q0, q1, q2⟩ := (HD7.out.ext hC.1.ext).cells3; obtain ⟨r0, r1, r2, r3, r4⟩ := (HF7.out.ext hC.1.ext).cells5; obtain ⟨x0, x1, x2, x3, x4, x5, x6, x7, x8, x9⟩ := (HB8.out.ext hC.1.ext).cells10x; obtain ⟨c0, c1, c2, c3, c4, c5, c6, c7, c8, c9⟩ := HC8.out; rw [← hC.1.ext.cell (p := ⟨b, _, none⟩) hb8] at c0 c1 c2 c3 c4 c5 c6 c7 c8 c9; clear hcell hfrz
                 go_wp2_with (first | (go_at_call 11; with_reducible refine (HSM.out _ hwE).mono ?_; rintro e w2 ⟨rfl, hb2⟩) | (go_at_call 12; with_reducible refine (HEQ.out _ hxE hyE).mono ?_; rintro e w2 ⟨rfl, hb2⟩))
                 refine hK _ ?_
                 first | exact Gr.refl _ _ | exact Gr.of_ext (by assumption) hC.1.1.size
               rotate_left 1
               · rfl
               clear hex; intro hex)
            refine wpS_nil fun w9 hE => ?_
            replace hE := hE.1.ext
            obtain ⟨hcell_w9, hfrz_w9⟩ := bcell hE
            have X9 := Lib.hid (bel_call (bel_call hEr.out XW.out) hE)
            clear hE hex hcell_w9 hfrz_w9
            go_wp2_with fail
            go_roundw
            case rel => exact ⟨k + 1, by omega, by go_num, X9⟩
            case measure => simp [intOf] <;> omega
      · have k2 : decide ((k : Int) < (20 : Int)) = false := by simp; omega
        as_aux_lemma =>
          go_wp2_with fail
          refine (HWK.out _ (HA.out.ext hEr.out)).mono ?_
          rintro e w2 ⟨rfl, x2⟩
          have X2 := Lib.hid (bel_call hEr.out x2)
          clear x2
          go_wp2_with fail
          go_ret
          exact ⟨rfl, X2.out⟩
    · have k1 : decide ((k : Int) < (L.length : Int)) = false := by simp; omega
      as_aux_lemma =>
        go_wp2_with fail
        refine (HWK.out _ (HA.out.ext hEr.out)).mono ?_
        rintro e w2 ⟨rfl, x2⟩
        have X2 := Lib.hid (bel_call hEr.out x2)
        clear x2
        go_wp2_with fail
        go_ret
        exact ⟨rfl, X2.out⟩
end Go.Proofs.YtnmdfhnfheekgaaDoor
