/- LengthCuts returns true for every list of lists of cores, and leaves what it read as it was: on the conditions that the errors which the card ties to the program's text stand in their variables when the call begins. -/
import Derived.Test.YtnmdfhnfheekgaaDoorCpx
import Derived.Test.YtnmdfhnfheekgaaDoorXo
import Derived.Test.YtnmdfhnfheekgaaDoorXl
import Derived.Test.YtnmdfhnfheekgaaDoorCz
import Derived.Test.YtnmdfhnfheekgaaDoorLtp
import Derived.Test.YtnmdfhnfheekgaaDoorStabG
import Derived.Test.YtnmdfhnfheekgaaDoorLlp
import Derived.Laws.Tables
import Derived.Great.BuildSlice
import Derived.Test.YtnmdfhnfheekgaaDoorSmf
import Derived.Deep.AppendLies
import Derived.Deep.CutBlock
import Derived.Test.YtnmdfhnfheekgaaDoorCs
import Derived.Test.YtnmdfhnfheekgaaDoorEqe
import Derived.Deep.QuietTactic
import Derived.BigQuiet
import Derived.LoopTactic
import Derived.Test.YtnmdfhnfheekgaaDoorRo8
import Derived.Test.YtnmdfhnfheekgaaDoorCu
import Derived.Test.YtnmdfhnfheekgaaDoorWk8
import Derived.Test.YtnmdfhnfheekgaaDoorSz
namespace Go.Proofs.YtnmdfhnfheekgaaDoor
open Go Go.RowKit
/-- No list in an expression takes more bytes than may be. -/
inductive Rch : Xp → Prop
  | mk (x : Xp) (h : x.args.length * 104 ≤ 140737488355328) (k : ∀ y ∈ x.args, Rch y) : Rch x
theorem Rch.len {x : Xp} (h : Rch x) : x.args.length * 104 ≤ 140737488355328 := by cases h; assumption
theorem Rch.kid {x y : Xp} (h : Rch x) (hy : y ∈ x.args) : Rch y := by cases h with | mk _ _ k => exact k y hy
set_option maxHeartbeats 4000000 in
set_option maxRecDepth 20000 in
theorem copyr_any : ∀ (x : Xp) (a : Option Addr) (c : Nat) (w : World), Rch x → Xat w w.heap.size a c x.args →
    Calls Tryd.prog 8 #[xv x a c] w fun e w' => ∃ a' c', e = .returned (xv x a' c') ∧ Xap w' (fun b => w.heap.size ≤ b ∧ b < w'.heap.size) a' c' x.args ∧ Ext w w' := by
  intro x
  induction x using Xp.ind with
  | h x ih =>
  intro a c w hnn hx
  obtain ⟨i0, hi, hz0, hz1, hz2⟩ := info_parts info_xp
  have IH := Lib.hid ih
  have HX := Lib.hid hx
  have hl2 : x.args.length * 104 ≤ 140737488355328 := hnn.len
  have HNN := Lib.hid hnn
  clear ih hx hnn
  go_enter Tryd.func8, Tryd.ntmps8
  go_wp2_with fail
  have hb0 := (((Blk.new w (xbx x a c) 28).alloc (.cells #[.int .i64 0, .int .i64 0, .int .u64 0, .int .u64 0, .int .u64 0, .int .u64 0, .string ⟨#[]⟩, .int .i64 0, .int .i64 0, .slice none 0 0] 28)).alloc (.cells #[.int .i64 x.op, .int .i64 x.at_, .int .u64 (wd x.set 0), .int .u64 (wd x.set 1), .int .u64 (wd x.set 2), .int .u64 (wd x.set 3), .string x.text, .int .i64 x.mn, .int .i64 x.mx, .slice none 0 0] 28))
  have hb1 := ((Blk.new (w.alloc (.cells (xbx x a c) 28)) #[.int .i64 0, .int .i64 0, .int .u64 0, .int .u64 0, .int .u64 0, .int .u64 0, .string ⟨#[]⟩, .int .i64 0, .int .i64 0, .slice none 0 0] 28).alloc (.cells #[.int .i64 x.op, .int .i64 x.at_, .int .u64 (wd x.set 0), .int .u64 (wd x.set 1), .int .u64 (wd x.set 2), .int .u64 (wd x.set 3), .string x.text, .int .i64 x.mn, .int .i64 x.mx, .slice none 0 0] 28))
  have hb2 := Blk.new ((w.alloc (.cells (xbx x a c) 28)).alloc (.cells #[.int .i64 0, .int .i64 0, .int .u64 0, .int .u64 0, .int .u64 0, .int .u64 0, .string ⟨#[]⟩, .int .i64 0, .int .i64 0, .slice none 0 0] 28)) #[.int .i64 x.op, .int .i64 x.at_, .int .u64 (wd x.set 0), .int .u64 (wd x.set 1), .int .u64 (wd x.set 2), .int .u64 (wd x.set 3), .string x.text, .int .i64 x.mn, .int .i64 x.mx, .slice none 0 0] 28
  rw [show (w.alloc (.cells (xbx x a c) 28)).heap.size = w.heap.size + 1 by simp] at hb1
  rw [show ((w.alloc (.cells (xbx x a c) 28)).alloc (.cells #[.int .i64 0, .int .i64 0, .int .u64 0, .int .u64 0, .int .u64 0, .int .u64 0, .string ⟨#[]⟩, .int .i64 0, .int .i64 0, .slice none 0 0] 28)).heap.size = w.heap.size + 1 + 1 by simp] at hb2
  have hE : Ext w (((w.alloc (.cells (xbx x a c) 28)).alloc (.cells #[.int .i64 0, .int .i64 0, .int .u64 0, .int .u64 0, .int .u64 0, .int .u64 0, .string ⟨#[]⟩, .int .i64 0, .int .i64 0, .slice none 0 0] 28)).alloc (.cells #[.int .i64 x.op, .int .i64 x.at_, .int .u64 (wd x.set 0), .int .u64 (wd x.set 1), .int .u64 (wd x.set 2), .int .u64 (wd x.set 3), .string x.text, .int .i64 x.mn, .int .i64 x.mx, .slice none 0 0] 28)) := by go_grown
  generalize (((w.alloc (.cells (xbx x a c) 28)).alloc (.cells #[.int .i64 0, .int .i64 0, .int .u64 0, .int .u64 0, .int .u64 0, .int .u64 0, .string ⟨#[]⟩, .int .i64 0, .int .i64 0, .slice none 0 0] 28)).alloc (.cells #[.int .i64 x.op, .int .i64 x.at_, .int .u64 (wd x.set 0), .int .u64 (wd x.set 1), .int .u64 (wd x.set 2), .int .u64 (wd x.set 3), .string x.text, .int .i64 x.mn, .int .i64 x.mx, .slice none 0 0] 28)) = wa at *
  have HB0 := Lib.hid hb0
  have HB1 := Lib.hid hb1
  have HB2 := Lib.hid hb2
  have HE := Lib.hid hE
  clear hb0 hb1 hb2 hE
  go_loopw [4] (fun i wr => ∃ (k : Nat) (v : Value) (T : List Tri), k ≤ x.args.length ∧ i = .int .i64 k ∧ Hid (T.map (·.1) = x.args.take k) ∧ T.length = k ∧
    Hid (Blk wr w.heap.size (xbx x a c) 28) ∧ Hid (∃ t, Blk wr (w.heap.size + 1) t 28 ∧ t = #[.int .i64 0, .int .i64 0, .int .u64 0, .int .u64 0, .int .u64 0, .int .u64 0, .string ⟨#[]⟩, .int .i64 0, .int .i64 0, .slice none 0 0]) ∧
    Hid (Blk wr (w.heap.size + 1 + 1) #[.int .i64 x.op, .int .i64 x.at_, .int .u64 (wd x.set 0), .int .u64 (wd x.set 1), .int .u64 (wd x.set 2), .int .u64 (wd x.set 3), .string x.text, .int .i64 x.mn, .int .i64 x.mx, v] 28) ∧
    Hid (wr.ownsRow (w.heap.size + 1 + 1 + 1) 28 10 v k (tcl T)) ∧ Hid (∀ t ∈ T, Xok t.1 ∧ Xap wr (fun b => w.heap.size + 1 + 1 + 1 ≤ b ∧ b < wr.heap.size ∧ some b ≠ v.ownBlock) t.2.1 t.2.2 t.1.args) ∧ Hid (Ext w wr)) (fun i _ => x.args.length - (intOf i).toNat)
  case atStart => exact ⟨0, _, [], Nat.zero_le _, rfl, Lib.hid (by simp), rfl, HB0, Lib.hid ⟨_, HB1.out, rfl⟩, HB2, Lib.hid (own_nil _ _ _ _), Lib.hid (fun t ht => by cases ht), HE⟩
  case round =>
    obtain ⟨k, v, T, hk, rfl, hT, hTl, hB0, hB1, hB2, hown, hel, hEr⟩ := hrel
    clear HB0 HB1 HB2 HE
    by_cases hkl : k < x.args.length
    · have k1 : decide ((k : Int) < (x.args.length : Int)) = true := by simp; omega
      obtain ⟨b, o, rfl, hbb, y, a', c', hy, hmem, hok, hya, c0, c1, c2, c3, c4, c5, c6, c7, c8, c9⟩ := (HX.out.ext hEr.out).cells hkl
      have HC := Lib.hid (fun w h => IH.out y hmem a' c' w (HNN.out.kid hmem) h)
      have z9 := hB0.out.cell 9
      have q9 := hB2.out.cell 9
      simp only [xbx, List.getElem?_toArray, List.getElem?_cons_succ, List.getElem?_cons_zero] at z9 q9
      have f9 := hB2.out.free 9
      have hlw := hB2.out.lt
      have i0' : (0 : Int) ≤ (k : Int) := by omega
      have i1 : (k : Int) + 1 ≤ 1353245080400 := by omega
      have i9 : (k + 1) * 104 ≤ 140737488355328 := by omega
      have HYA := Lib.hid hya
      have HYK := Lib.hid (And.intro hok hy)
      clear hya hok hy hmem
      go_wp2_with fail
      go_region_law (first | (go_simp; go_at_call 8; refine (HC.out _ (HYA.out.ext (by go_grown))).mono ?_; rintro e w2 ⟨a2, c2, rfl, hap, hx2⟩; have hown2 := Lib.hid (own_xt (own_xt hown.out (show Ext wr wr.drew from Below.drew (Below.refl _ _))) hx2); have hap2 := Lib.hid hap; have hsz2 := hx2.size; have HX2 := Lib.hid hx2; have hB22 := Lib.hid ((hB2.out.ext (show Ext wr wr.drew from Below.drew (Below.refl _ _))).ext hx2); have q92 := hB22.out.cell 9; have l92 := hB22.out.lt; simp only [List.getElem?_toArray, List.getElem?_cons_succ, List.getElem?_cons_zero] at q92; simp only [World.drew] at hsz2; clear hap hx2) | (refine step_append_lies _ rfl (.tmp 15) (.tmp 22) 22 rfl (w.heap.size + 1 + 1 + 1) 28 i0 _ 10 104 Tryd.underlying22 hi hz0 hz1 hz2 rfl (by decide) v k (tcl T) rfl (hown2.out.alloc _) ⟨_, 0, none⟩ 1 1 (xcs y a2 c2) rfl rfl (cell_nwb _ (xcs y a2 c2) _ _ rfl) (xcs_one y a2 c2) (by decide) (by unfold maxLen; omega) (by omega) (by simp; omega) _ rfl ?_; intro g cap w4 hown4 hgrow4 hv4 hg4; have hB4 := Lib.hid (blk_gr (Blk.alloc ((hB2.out.ext (show Ext wr wr.drew from Below.drew (Below.refl _ _))).ext HX2.out) _) hgrow4 (hown2.out.alloc _) (by omega)); have q94 := hB4.out.cell 9; have f94 := hB4.out.free 9; simp only [List.getElem?_toArray, List.getElem?_cons_succ, List.getElem?_cons_zero] at q94))
      all_goals
        (go_wp2_with fail
         go_roundw
         case rel =>
           obtain ⟨T', h1, h2, h3, h4, h5, h6, h7, h8⟩ := cpx_fin hkl HYK.out hT.out hTl hB0.out hB1.out hown.out hel.out hEr.out hlw HX2.out hown2.out hap2.out hgrow4 hown4 hv4 hB4.out
           exact ⟨k + 1, _, T', by omega, by go_num, Lib.hid h1, h2, Lib.hid h3, Lib.hid h4, Lib.hid h5, Lib.hid h6, Lib.hid h7, Lib.hid h8⟩
         case measure => simp [intOf] <;> omega)
    · have k1 : decide ((k : Int) < (x.args.length : Int)) = false := by simp; omega
      obtain rfl : k = x.args.length := by omega
      obtain ⟨a2, c2, rfl, hxap⟩ : ∃ a2 c2, v = .slice a2 x.args.length c2 ∧ Xap wr (fun b => w.heap.size ≤ b ∧ b < wr.heap.size ∧ b ≠ w.heap.size + 1) a2 c2 x.args := by
        have hTT : T.map (·.1) = x.args := by have := hT.out; rwa [List.take_length] at this
        have hown' := hown.out
        obtain ⟨_, ⟨hv, h0⟩ | ⟨g, cap, cur, hv, hgb, hg, hg1, hg2, hg3, hg4⟩⟩ := hown.out
        · have e : x.args = [] := List.length_eq_zero_iff.1 h0
          exact ⟨none, 0, by rw [hv, e]; rfl, by rw [e]; exact .nil _ _ (by decide)⟩
        · have hcl := hown'.cells (g := g) (by rw [hv]; rfl)
          refine ⟨some ⟨g, 0, none⟩, cap, hv, ?_⟩
          have hob : v.ownBlock = some g := by rw [hv]; rfl
          refine .put g 0 cap x.args (fun i => (T.getD i (x, none, 0)).2.1) (fun i => (T.getD i (x, none, 0)).2.2) hg1 hg2 ⟨by omega, (Array.getElem?_eq_some_iff.1 hg).1, by omega⟩ (fun y hy => ?_) (fun i hi j hj => ?_) (fun i hi => ?_)
          · rw [← hTT] at hy
            obtain ⟨t, ht, rfl⟩ := List.mem_map.1 hy
            exact (hel.out t ht).1
          · have hiT : i < T.length := by omega
            have hti : T.getD i (x, none, 0) = T[i] := by simp [List.getD_eq_getElem?_getD, hiT]
            have hai : x.args[i] = T[i].1 := by simp [← hTT]
            have hq := tcl_get T i hiT j hj
            rw [hti, hai, ← hq]
            have hlt : i * 10 + j < (tcl T).length := by
              have : (xcs T[i].1 T[i].2.1 T[i].2.2)[j]? ≠ none := by rw [Ne, List.getElem?_eq_none_iff]; show ¬ 10 ≤ j; omega
              rw [← hq] at this
              exact Nat.lt_of_not_le fun h => this (List.getElem?_eq_none_iff.2 h)
            have := hcl (i * 10 + j) (tcl T)[i * 10 + j] (List.getElem?_eq_getElem hlt)
            rw [show (⟨g, 0, none⟩ : Addr).add (i * 10 + j) = ⟨g, 0 + (i * 10 + j), none⟩ by unfold Addr.add; split <;> simp_all] at this
            rw [show 0 + i * 10 + j = 0 + (i * 10 + j) by omega, this, List.getElem?_eq_getElem hlt]
          · have hiT : i < T.length := by omega
            have hti : T.getD i (x, none, 0) = T[i] := by simp [List.getD_eq_getElem?_getD, hiT]
            have hai : x.args[i] = T[i].1 := by simp [← hTT]
            rw [hti, hai]
            exact (hel.out T[i] (List.getElem_mem hiT)).2.turn fun b hb => ⟨⟨by omega, hb.2.1, by omega⟩, rfl⟩
      obtain ⟨t1, hB1', rfl⟩ := hB1.out
      have HB1 := Lib.hid hB1'
      have HXAP := Lib.hid hxap
      have hrg : Hid (wr.rangeAt (w.heap.size + 1 + 1) 0 (xcs x a2 c2)) := Lib.hid (fun j u hu => by
        rw [Nat.zero_add, hB2.out.cell j]
        show (xcs x a2 c2).toArray[j]? = some u
        simpa using hu)
      have z9 := hB0.out.cell 9
      simp only [xbx, List.getElem?_toArray, List.getElem?_cons_succ, List.getElem?_cons_zero] at z9
      clear hxap hB1'
      go_upto_region 7 with fail
      iterate 2 go_step
      refine wp_load_mid 28 (.tmp 3) rfl (w.heap.size + 1 + 1) 0 rfl (xcs x a2 c2) _ hrg.out Tryd.underlying28 rfl expr_info ?_
      simp only [Act.put, List.setIfInBounds_toArray, List.set_cons_succ, List.set_cons_zero]
      iterate 2 go_step
      refine wp_store_row 28 (.tmp 2) (.tmp 25) rfl (w.heap.size + 1) ((xcs x a2 c2).toArray) rfl rfl 28 _ HB1.out expr_info rfl (by simp [xcs, Value.oneCell']) ?_
      simp only [Act.put]
      have HRR := Lib.hid (blk_row (vs' := (xcs x a2 c2).toArray) HB1.out)
      have HEE := Lib.hid (row_ext hEr.out (b := w.heap.size + 1) (by omega) (xcs x a2 c2).toArray)
      go_wp2_with fail
      refine bodyPost_ret (v := xv x a2 c2) ?_ rfl ⟨a2, c2, rfl, ?_, HEE.out⟩
      · obtain ⟨q0, q1, q2, q3, q4, q5, q6, q7, q8, q9⟩ := HRR.out.cells10
        simp [results, Tryd.results8, go_sem, q0, q1, q2, q3, q4, q5, q6, q7, q8, q9]
      · refine HXAP.out.turn fun b hb => ⟨⟨hb.1, by have := hb.2.1; simpa [World.setRow] using this⟩, row_other _ _ _ _ hb.2.2⟩
end Go.Proofs.YtnmdfhnfheekgaaDoor
namespace Go.Proofs.YtnmdfhnfheekgaaDoor
open Go Go.ChangeShapes Go.WideShapes Go.ChangeAt Go.RowKit
theorem weights_all9 {H : Type} {P : Program} {e : TypeId} : ∀ {l : List (DataW H)} {d : DataW H}, d ∈ l → ∀ n ∈ d.weights P e, n ∈ DataW.weightsAll P e l
  | [], _, h, _, _ => by cases h
  | x :: l, d, h, n, hn => by
    simp only [DataW.weightsAll, List.mem_append]
    rcases List.mem_cons.1 h with rfl | h
    · exact .inl hn
    · exact .inr (weights_all9 h n hn)
section
variable {H : Type} {enc : TypeId × Value → H} {w : World}
theorem open_xpr : ∀ (fuel : Nat) (cs : List Value) (y : DataW H × List MemPlace), DataW.trod enc Tryd.prog w 0 (fun _ => true) true fuel 28 cs = some y → (∀ n ∈ y.1.weights Tryd.prog 28, n ≤ reachBytes) → ∃ x a c, cs = xcs x a c ∧ Xok x ∧ Xat w w.heap.size a c x.args ∧ Rch x := by
  intro fuel
  induction fuel using Nat.strongRecOn with
  | ind fuel ih =>
  intro cs y h hw
  have b104 : Tryd.prog.bytesOf 28 = 104 := by kernel_rfl
  have c10 : Tryd.prog.cellsOf 28 = 10 := by kernel_rfl
  have c1 : Tryd.prog.cellsOf 3 = 1 := by kernel_rfl
  have c4 : Tryd.prog.cellsOf 26 = 4 := by kernel_rfl
  have cs1 : Tryd.prog.cellsOf 9 = 1 := by kernel_rfl
  have cl1 : Tryd.prog.cellsOf 22 = 1 := by kernel_rfl
  obtain ⟨xs, n, hn, hx, hl, hlen, hf⟩ := DataW.trod_struct Tryd.underlying28 h
  rw [c10] at hl
  obtain ⟨v0, v1, v2, v3, v4, v5, v6, v7, v8, v9, rfl⟩ := lten_of hl
  obtain ⟨y0, y1, y2, y3, y4, y5, y6, rfl⟩ := lseven_of hlen
  have e0 : DataW.trod enc Tryd.prog w 0 (fun _ => true) true n 3 (([v0, v1, v2, v3, v4, v5, v6, v7, v8, v9].drop 0).take (Tryd.prog.cellsOf 3)) = [y0, y1, y2, y3, y4, y5, y6][0]? := hf 0 _ rfl
  have e1 : DataW.trod enc Tryd.prog w 0 (fun _ => true) true n 3 (([v0, v1, v2, v3, v4, v5, v6, v7, v8, v9].drop 1).take (Tryd.prog.cellsOf 3)) = [y0, y1, y2, y3, y4, y5, y6][1]? := hf 1 _ rfl
  have e2 : DataW.trod enc Tryd.prog w 0 (fun _ => true) true n 26 (([v0, v1, v2, v3, v4, v5, v6, v7, v8, v9].drop 2).take (Tryd.prog.cellsOf 26)) = [y0, y1, y2, y3, y4, y5, y6][2]? := hf 2 _ rfl
  have e3 : DataW.trod enc Tryd.prog w 0 (fun _ => true) true n 9 (([v0, v1, v2, v3, v4, v5, v6, v7, v8, v9].drop 6).take (Tryd.prog.cellsOf 9)) = [y0, y1, y2, y3, y4, y5, y6][3]? := hf 3 _ rfl
  have e4 : DataW.trod enc Tryd.prog w 0 (fun _ => true) true n 3 (([v0, v1, v2, v3, v4, v5, v6, v7, v8, v9].drop 7).take (Tryd.prog.cellsOf 3)) = [y0, y1, y2, y3, y4, y5, y6][4]? := hf 4 _ rfl
  have e5 : DataW.trod enc Tryd.prog w 0 (fun _ => true) true n 3 (([v0, v1, v2, v3, v4, v5, v6, v7, v8, v9].drop 8).take (Tryd.prog.cellsOf 3)) = [y0, y1, y2, y3, y4, y5, y6][5]? := hf 5 _ rfl
  have e6 : DataW.trod enc Tryd.prog w 0 (fun _ => true) true n 22 (([v0, v1, v2, v3, v4, v5, v6, v7, v8, v9].drop 9).take (Tryd.prog.cellsOf 22)) = [y0, y1, y2, y3, y4, y5, y6][6]? := hf 6 _ rfl
  simp only [c1, c4, cs1, cl1, List.drop_zero, List.drop_succ_cons, List.take_succ_cons, List.take_zero, List.getElem?_cons_zero, List.getElem?_cons_succ] at e0 e1 e2 e3 e4 e5 e6
  have hww : ∀ m ∈ y6.1.weights Tryd.prog 22, m ≤ reachBytes := by
    intro m hm
    refine hw m ?_
    rw [hx]
    simp only [DataW.weights, Tryd.underlying28]
    exact DataW.weights_mem_each (ts := [3, 3, 26, 9, 3, 3, 22]) (ds := [y0.1, y1.1, y2.1, y3.1, y4.1, y5.1, y6.1]) (j := 6) rfl rfl m hm
  obtain ⟨n0, f0, _, w0⟩ := DataW.trod_int Tryd.underlying3 e0
  obtain ⟨n1, f1, _, w1⟩ := DataW.trod_int Tryd.underlying3 e1
  obtain ⟨s, f2, _⟩ := set_trod e2
  obtain ⟨t, f3, _, w3⟩ := DataW.trod_string Tryd.underlying9 e3
  obtain ⟨n4, f4, _, w4⟩ := DataW.trod_int Tryd.underlying3 e4
  obtain ⟨n5, f5, _, w5⟩ := DataW.trod_int Tryd.underlying3 e5
  simp only [List.cons.injEq, and_true] at f0 f1 f2 f3 f4 f5
  obtain ⟨rfl, rfl, rfl, rfl⟩ := f2
  subst f0; subst f1; subst f3; subst f4; subst f5
  rcases DataW.trod_slice Tryd.underlying22 e6 with ⟨hcs, _⟩ | ⟨a, len, cap, elems, rest, m, hm, hcs, hxe, hb, hle, hcm, helen, hel, hsp, hns⟩
  · simp only [List.cons.injEq, and_true] at hcs
    subst hcs
    exact ⟨.mk n0 n1 s t n4 n5 [], none, 0, rfl, ⟨i64_of w0, i64_of w1, i64_of w4, i64_of w5, w3⟩, .nil _ _ (by unfold maxLen; omega), .mk _ (by simp [Xp.args]) (fun y hy => by cases hy)⟩
  · simp only [List.cons.injEq, and_true] at hcs
    subst hcs
    have hS : ∀ i, ∃ (x : Xp) (a' : Option Addr) (c' : Nat), i < len → (∀ j, j < 10 → w.cell? ((a.add (i * 10)).add j) = (xcs x a' c')[j]?) ∧ Xok x ∧ Xat w w.heap.size a' c' x.args ∧ Rch x := by
      intro i
      by_cases hi : i < len
      · have hi2 := hel i hi
        rw [List.getElem?_eq_getElem (by omega), c10] at hi2
        obtain ⟨cs', h1, h2⟩ := Option.bind_eq_some_iff.1 hi2
        obtain ⟨x, a', c', rfl, hk, hx, hr⟩ := ih m (by omega) cs' _ h2 fun n hn => hww n (by
          rw [hxe]
          simp only [DataW.weights, Tryd.underlying22, List.mem_cons, List.mem_append]
          exact .inr (.inl (weights_all9 (List.mem_map.2 ⟨elems[i], List.getElem_mem _, rfl⟩) n hn)))
        obtain ⟨_, _, hc⟩ := World.cells?_some h1
        exact ⟨x, a', c', fun _ => ⟨fun j hj => hc j hj, hk, hx, hr⟩⟩
      · exact ⟨.mk 0 0 0#256 .empty 0 0 [], none, 0, fun h => absurd h hi⟩
    obtain ⟨X, hX⟩ := Classical.axiomOfChoice hS
    obtain ⟨ga, hga⟩ := Classical.axiomOfChoice hX
    obtain ⟨gc, hgc⟩ := Classical.axiomOfChoice hga
    refine ⟨.mk n0 n1 s t n4 n5 ((List.range len).map X), some a, cap, by simp [xcs, Xp.args, Xp.op, Xp.at_, Xp.set, Xp.text, Xp.mn, Xp.mx], ⟨i64_of w0, i64_of w1, i64_of w4, i64_of w5, w3⟩, ?_, .mk _ (by show ((List.range len).map X).length * 104 ≤ _; have hwl := hww ((elems.length + rest.length) * 104) (by rw [hxe]; simp [DataW.weights, Tryd.underlying22, b104]); simp only [reachBytes] at hwl; simp; omega) (fun y hy => by obtain ⟨i, hi, rfl⟩ := List.mem_map.1 hy; exact (hgc i (List.mem_range.1 hi)).2.2.2)⟩
    show Xat w w.heap.size (some a) cap ((List.range len).map X)
    by_cases h0 : len = 0
    · subst h0; exact .nil _ _ hcm
    · obtain ⟨b, off, spot⟩ := a
      have h00 := (hgc 0 (by omega)).1 0 (by decide)
      have hspot : spot = none := by
        have : (xcs (X 0) (ga 0) (gc 0))[0]? = some (.int .i64 (X 0).op) := rfl
        rw [this] at h00
        simpa [Addr.add] using World.cell?_spot h00
      subst hspot
      simp only [addr_add] at hgc h00
      refine .put b off cap _ ga gc (by simpa using hle) hcm (World.block_lt_of_cell? w (⟨b, off + 0 * 10 + 0, none⟩ : Addr) h00) (fun y hy => ?_) (fun i hi j hj => ?_) (fun i hi => ?_)
      · obtain ⟨i, hi, rfl⟩ := List.mem_map.1 hy
        exact (hgc i (List.mem_range.1 hi)).2.1
      · have hi' : i < len := by simpa using hi
        simp only [List.getElem_map, List.getElem_range]
        exact (hgc i hi').1 j hj
      · have hi' : i < len := by simpa using hi
        simp only [List.getElem_map, List.getElem_range]
        exact (hgc i hi').2.2.1
end
end Go.Proofs.YtnmdfhnfheekgaaDoor
namespace Go.Proofs.YtnmdfhnfheekgaaDoor
open Go Go.ChangeShapes Go.WideShapes Go.ChangeAt Go.RowKit
theorem open_core {H : Type} {enc : TypeId × Value → H} {w : World} {k : Nat} {cs : List Value} {y : DataW H × List MemPlace} (h : DataW.trod enc Tryd.prog w 0 (fun _ => true) true k 48 cs = some y) (hw : ∀ n ∈ y.1.weights Tryd.prog 48, n ≤ reachBytes) :
    ∃ (r : Cr) (a1 : Option Addr) (c1 : Nat) (a2 : Option Addr) (c2 : Nat), cs = ccs r a1 c1 a2 c2 ∧ Xok r.h ∧ Xok r.t ∧ Xat w w.heap.size a1 c1 r.h.args ∧ Xat w w.heap.size a2 c2 r.t.args ∧ Rch r.h ∧ Rch r.t := by
  have c10 : Tryd.prog.cellsOf 28 = 10 := by kernel_rfl
  have c1 : Tryd.prog.cellsOf 4 = 1 := by kernel_rfl
  have c21 : Tryd.prog.cellsOf 48 = 21 := by kernel_rfl
  obtain ⟨xs, n, hn, hx, hl, hlen, hf⟩ := DataW.trod_struct Tryd.underlying48 h
  rw [c21] at hl
  obtain ⟨z0, z1, z2, rfl⟩ : ∃ z0 z1 z2, xs = [z0, z1, z2] := by
    match xs, hlen with
    | [z0, z1, z2], _ => exact ⟨z0, z1, z2, rfl⟩
  have e0' : DataW.trod enc Tryd.prog w 0 (fun _ => true) true n 28 ((cs.drop 0).take (Tryd.prog.cellsOf 28)) = some z0 := hf 0 _ rfl
  have e1' : DataW.trod enc Tryd.prog w 0 (fun _ => true) true n 4 ((cs.drop 10).take (Tryd.prog.cellsOf 4)) = some z1 := hf 1 _ rfl
  have e2' : DataW.trod enc Tryd.prog w 0 (fun _ => true) true n 28 ((cs.drop 11).take (Tryd.prog.cellsOf 28)) = some z2 := hf 2 _ rfl
  have hww : ∀ (j : Nat) (t : TypeId) (d : DataW H), [28, 4, 28][j]? = some t → [z0.1, z1.1, z2.1][j]? = some d → ∀ m ∈ d.weights Tryd.prog t, m ≤ reachBytes := by
    intro j t d ht hd m hm
    refine hw m ?_
    rw [hx]
    simp only [DataW.weights, Tryd.underlying48]
    exact DataW.weights_mem_each (ts := [28, 4, 28]) (ds := [z0.1, z1.1, z2.1]) ht hd m hm
  have e0 := e0'
  have e1 := e1'
  have e2 := e2'
  rw [c10] at e0 e2
  rw [c1] at e1
  obtain ⟨x1, a1, d1, h1, k1, t1, r1⟩ := open_xpr n _ _ e0 (hww 0 _ _ rfl rfl)
  obtain ⟨b, hb, _⟩ := DataW.trod_bool Tryd.underlying4 e1
  obtain ⟨x2, a2, d2, h2, k2, t2, r2⟩ := open_xpr n _ _ e2 (hww 2 _ _ rfl rfl)
  refine ⟨⟨x1, b, x2⟩, a1, d1, a2, d2, ?_, k1, k2, t1, t2, r1, r2⟩
  have h3 : cs = (cs.drop 0).take 10 ++ ((cs.drop 10).take 1 ++ (cs.drop 11).take 10) := by
    rw [List.drop_zero, List.take_of_length_le (l := cs.drop 11) (by simp [hl])]
    have : cs.drop 11 = (cs.drop 10).drop 1 := by rw [List.drop_drop]
    rw [this, List.take_append_drop, List.take_append_drop]
  rw [h3, h1, h2, hb]
  rfl
theorem open_cores {H : Type} {enc : TypeId × Value → H} {w : World} {k : Nat} {v : Value} {y : DataW H × List MemPlace} (h : DataW.trod enc Tryd.prog w 0 (fun _ => true) true k 46 [v] = some y) (hw : ∀ n ∈ y.1.weights Tryd.prog 46, n ≤ reachBytes) : ∃ a c L, v = .slice a (L : List Cr).length c ∧ Cat w w.heap.size a c L ∧ L.length * 216 ≤ 140737488355328 ∧ ∀ r ∈ L, Rch r.h ∧ Rch r.t := by
  have c21 : Tryd.prog.cellsOf 48 = 21 := by kernel_rfl
  have b216 : Tryd.prog.bytesOf 48 = 216 := by kernel_rfl
  rcases DataW.trod_slice Tryd.underlying46 h with ⟨hcs, _⟩ | ⟨a, len, cap, elems, rest, m, hm, hcs, hxe, hb, hle, hcm, helen, hel, hsp, hns⟩
  · simp only [List.cons.injEq, and_true] at hcs
    subst hcs
    exact ⟨none, 0, [], rfl, ⟨by simp, by unfold maxLen; omega, .inl rfl⟩, by simp, fun r hr => by cases hr⟩
  · simp only [List.cons.injEq, and_true] at hcs
    subst hcs
    have hS : ∀ i, ∃ (r : Cr) (a1 : Option Addr) (c1 : Nat) (a2 : Option Addr) (c2 : Nat), i < len → (∀ j, j < 21 → w.cell? ((a.add (i * 21)).add j) = (ccs r a1 c1 a2 c2)[j]?) ∧ Xok r.h ∧ Xok r.t ∧ Xat w w.heap.size a1 c1 r.h.args ∧ Xat w w.heap.size a2 c2 r.t.args ∧ Rch r.h ∧ Rch r.t := by
      intro i
      by_cases hi : i < len
      · have hi2 := hel i hi
        rw [List.getElem?_eq_getElem (by omega), c21] at hi2
        obtain ⟨cs', h1, h2⟩ := Option.bind_eq_some_iff.1 hi2
        obtain ⟨r, a1, c1, a2, c2, rfl, hk⟩ := open_core h2 fun n hn => hw n (by
          rw [hxe]
          simp only [DataW.weights, Tryd.underlying46, List.mem_cons, List.mem_append]
          exact .inr (.inl (weights_all9 (List.mem_map.2 ⟨elems[i], List.getElem_mem _, rfl⟩) n hn)))
        obtain ⟨_, _, hc⟩ := World.cells?_some h1
        exact ⟨r, a1, c1, a2, c2, fun _ => ⟨fun j hj => hc j hj, hk⟩⟩
      · exact ⟨⟨.mk 0 0 0#256 .empty 0 0 [], false, .mk 0 0 0#256 .empty 0 0 []⟩, none, 0, none, 0, fun h => absurd h hi⟩
    obtain ⟨X, hX⟩ := Classical.axiomOfChoice hS
    obtain ⟨ga, hX⟩ := Classical.axiomOfChoice hX
    obtain ⟨gc, hX⟩ := Classical.axiomOfChoice hX
    obtain ⟨ha, hX⟩ := Classical.axiomOfChoice hX
    obtain ⟨hc, hX⟩ := Classical.axiomOfChoice hX
    have hwl := hw ((elems.length + rest.length) * 216) (by rw [hxe]; simp [DataW.weights, Tryd.underlying46, b216])
    simp only [reachBytes] at hwl
    refine ⟨some a, cap, (List.range len).map X, by simp, ⟨by simpa using hle, hcm, ?_⟩, by simp; omega, fun r hr => by obtain ⟨i, hi, rfl⟩ := List.mem_map.1 hr; exact (hX i (List.mem_range.1 hi)).2.2.2.2.2⟩
    by_cases h0 : len = 0
    · subst h0; exact .inl rfl
    · obtain ⟨b, off, spot⟩ := a
      have h00 := (hX 0 (by omega)).1 0 (by decide)
      have hspot : spot = none := by
        have : (ccs (X 0) (ga 0) (gc 0) (ha 0) (hc 0))[0]? = some (.int .i64 (X 0).h.op) := rfl
        rw [this] at h00
        simpa [Addr.add] using World.cell?_spot h00
      subst hspot
      simp only [addr_add] at hX h00
      refine .inr ⟨b, off, rfl, World.block_lt_of_cell? w (⟨b, off + 0 * 21 + 0, none⟩ : Addr) h00, ga, gc, ha, hc, fun i hi => ?_⟩
      have hi' : i < len := by simpa using hi
      obtain ⟨h1, h2, h3, h4, h5, _⟩ := hX i hi'
      simp only [List.getElem_map, List.getElem_range]
      exact ⟨h2, h3, fun j hj => h1 j hj, h4, h5⟩
/-- A list of lists of cores, where its slice says. -/
def Cll (w : World) (B : Nat) (a : Option Addr) (L : List (List Cr)) : Prop :=
  L = [] ∨ ∃ b o, a = some ⟨b, o, none⟩ ∧ b < B ∧ ∀ i (h : i < L.length), ∃ a' c', w.cell? ⟨b, o + i, none⟩ = some (.slice a' L[i].length c') ∧ Cat w B a' c' L[i] ∧ L[i].length * 216 ≤ 140737488355328 ∧ ∀ r ∈ L[i], Rch r.h ∧ Rch r.t
theorem Cll.ext {w w' : World} {a : Option Addr} {L : List (List Cr)} (h : Cll w w.heap.size a L) (hx : Ext w w') : Cll w' w'.heap.size a L := by
  rcases h with h | ⟨b, o, rfl, hb, h⟩
  · exact .inl h
  · refine .inr ⟨b, o, rfl, Nat.lt_of_lt_of_le hb hx.size, fun i hi => ?_⟩
    obtain ⟨a', c', h1, h2, h3⟩ := h i hi
    exact ⟨a', c', by rw [Below.cell hx (p := ⟨b, o + i, none⟩) hb]; exact h1, h2.ext hx, h3⟩
theorem open_coress {H : Type} {enc : TypeId × Value → H} {w : World} {k : Nat} {v : Value} {y : DataW H × List MemPlace} (h : DataW.trod enc Tryd.prog w 0 (fun _ => true) true k 45 [v] = some y) (hw : ∀ n ∈ y.1.weights Tryd.prog 45, n ≤ reachBytes) :
    ∃ a c L, v = .slice a (L : List (List Cr)).length c ∧ Cll w w.heap.size a L ∧ L.length ≤ maxLen := by
  have c1 : Tryd.prog.cellsOf 46 = 1 := by kernel_rfl
  rcases DataW.trod_slice Tryd.underlying45 h with ⟨hcs, _⟩ | ⟨a, len, cap, elems, rest, m, hm, hcs, hxe, hb, hle, hcm, helen, hel, hsp, hns⟩
  · simp only [List.cons.injEq, and_true] at hcs
    subst hcs
    exact ⟨none, 0, [], rfl, .inl rfl, by unfold maxLen; simp⟩
  · simp only [List.cons.injEq, and_true] at hcs
    subst hcs
    have hS : ∀ i, ∃ (L : List Cr) (a' : Option Addr) (c' : Nat), i < len → w.cell? ((a.add (i * 1)).add 0) = some (.slice a' L.length c') ∧ Cat w w.heap.size a' c' L ∧ L.length * 216 ≤ 140737488355328 ∧ ∀ r ∈ L, Rch r.h ∧ Rch r.t := by
      intro i
      by_cases hi : i < len
      · have hi2 := hel i hi
        rw [List.getElem?_eq_getElem (by omega), c1] at hi2
        obtain ⟨cs', h1, h2⟩ := Option.bind_eq_some_iff.1 hi2
        obtain ⟨hlen, _, hc⟩ := World.cells?_some h1
        match cs', hlen with
        | [u], _ =>
          obtain ⟨a', c', L, rfl, hk⟩ := open_cores h2 fun n hn => hw n (by
            rw [hxe]
            simp only [DataW.weights, Tryd.underlying45, List.mem_cons, List.mem_append]
            exact .inr (.inl (weights_all9 (List.mem_map.2 ⟨elems[i], List.getElem_mem _, rfl⟩) n hn)))
          refine ⟨L, a', c', fun _ => ⟨?_, hk⟩⟩
          exact hc 0 (by omega)
      · exact ⟨[], none, 0, fun h => absurd h hi⟩
    obtain ⟨X, hX⟩ := Classical.axiomOfChoice hS
    obtain ⟨ga, hX⟩ := Classical.axiomOfChoice hX
    obtain ⟨gc, hX⟩ := Classical.axiomOfChoice hX
    refine ⟨some a, cap, (List.range len).map X, by simp, ?_, by simp; omega⟩
    by_cases h0 : len = 0
    · subst h0; exact .inl rfl
    · obtain ⟨b, off, spot⟩ := a
      have h00 := (hX 0 (by omega)).1
      have hspot : spot = none := by simpa [Addr.add] using World.cell?_spot h00
      subst hspot
      simp only [addr_add, Nat.mul_one, Nat.add_zero] at hX h00
      refine .inr ⟨b, off, rfl, World.block_lt_of_cell? w (⟨b, off, none⟩ : Addr) h00, fun i hi => ?_⟩
      have hi' : i < len := by simpa using hi
      simp only [List.getElem_map, List.getElem_range]
      exact ⟨_, _, (hX i hi').1, (hX i hi').2⟩
end Go.Proofs.YtnmdfhnfheekgaaDoor
namespace Go.Proofs.YtnmdfhnfheekgaaDoor
open Go Go.RowKit
/-- A core is built. -/
theorem built_core (u0 u1 u2 u3 u4 u5 u6 u7 u8 u9 v0 v1 v2 v3 v4 v5 v6 v7 v8 v9 : Value) (b : Bool) :
    Tryd.prog.built 48 [(0, .agg #[u0, u1, u2, u3, u4, u5, u6, u7, u8, u9]), (1, .bool b), (2, .agg #[v0, v1, v2, v3, v4, v5, v6, v7, v8, v9])] = some #[u0, u1, u2, u3, u4, u5, u6, u7, u8, u9, .bool b, v0, v1, v2, v3, v4, v5, v6, v7, v8, v9] := by kernel_rfl
theorem wpList_core {ops : Array Oper} {rest : List Oper} {o : Oper} {a : Act} {w : World} {Q : Exit → Act → World → Prop} (hg : o.guard = none) (s x y : Operand) (ho : o.op = .build 48 #[(0, s), (1, x), (2, y)])
    (r : Cr) (a1 a2 : Option Addr) (c1 c2 : Nat) (hs : a.eval s = xv r.h a1 c1) (hx : a.eval x = .bool r.ht) (hy : a.eval y = xv r.t a2 c2)
    (h : wpList Tryd.prog ops Q rest (a.put o.dst (.agg (ccs r a1 c1 a2 c2).toArray)) w) : wpList Tryd.prog ops Q (o :: rest) a w := by
  refine wpList_plain hg fun _ hK => ?_
  unfold Oper.wp execOp
  have e : (#[(0, s), (1, x), (2, y)] : Array (Nat × Operand)).map (fun (i, x) => (i, a.eval x)) = #[(0, xv r.h a1 c1), (1, .bool r.ht), (2, xv r.t a2 c2)] := by simp [hs, hx, hy]
  simp only [ho]
  rw [e]
  rw [Sem.run_bind, run_build w _ _ ((ccs r a1 c1 a2 c2).toArray) (built_core _ _ _ _ _ _ _ _ _ _ _ _ _ _ _ _ _ _ _ _ _)]
  exact hK _ _ h
theorem fill_core (v0 v1 v2 v3 v4 v5 v6 v7 v8 v9 v10 v11 v12 v13 v14 v15 v16 v17 v18 v19 v20 : Value) (z : Value) (hz : z.cells = #[.int .i64 0, .int .i64 0, .int .u64 0, .int .u64 0, .int .u64 0, .int .u64 0, .string ⟨#[]⟩, .int .i64 0, .int .i64 0, .slice none 0 0, .bool false, .int .i64 0, .int .i64 0, .int .u64 0, .int .u64 0, .int .u64 0, .int .u64 0, .string ⟨#[]⟩, .int .i64 0, .int .i64 0, .slice none 0 0]) :
    Instr.fill (fun i => some (i * 21, 21)) ((Array.range (1 * 21)).map (z.cells[· % z.cells.size]!)) [(0, .agg #[v0, v1, v2, v3, v4, v5, v6, v7, v8, v9, v10, v11, v12, v13, v14, v15, v16, v17, v18, v19, v20])] = some #[v0, v1, v2, v3, v4, v5, v6, v7, v8, v9, v10, v11, v12, v13, v14, v15, v16, v17, v18, v19, v20] := by
  rw [hz]
  kernel_rfl
theorem core_row : (Tryd.prog.info? 48).map (fun i => (i.zero, i.size)) = some (some (.agg #[.int .i64 0, .int .i64 0, .int .u64 0, .int .u64 0, .int .u64 0, .int .u64 0, .string ⟨#[]⟩, .int .i64 0, .int .i64 0, .slice none 0 0, .bool false, .int .i64 0, .int .i64 0, .int .u64 0, .int .u64 0, .int .u64 0, .int .u64 0, .string ⟨#[]⟩, .int .i64 0, .int .i64 0, .slice none 0 0]), 21) := by kernel_rfl
theorem wpList_core1 {ops : Array Oper} {rest : List Oper} {o : Oper} {a : Act} {w : World} {Q : Exit → Act → World → Prop} (hg : o.guard = none) (s : Operand) (ho : o.op = .buildSlice 46 1 #[(0, s)])
    (r : Cr) (a1 a2 : Option Addr) (c1 c2 : Nat) (hs : a.eval s = .agg (ccs r a1 c1 a2 c2).toArray)
    (h : wpList Tryd.prog ops Q rest (a.put o.dst (.slice (some ⟨w.heap.size, 0, none⟩) 1 1)) (w.alloc (.cells (ccs r a1 c1 a2 c2).toArray 48))) : wpList Tryd.prog ops Q (o :: rest) a w := by
  have hrow := core_row
  cases hi : Tryd.prog.info? 48 with
  | none => rw [hi] at hrow; cases hrow
  | some ie =>
    rw [hi] at hrow
    simp only [Option.map_some, Option.some.injEq, Prod.mk.injEq] at hrow
    have e : ((#[(0, s)] : Array (Nat × Operand)).map (fun (i, x) => (i, a.eval x))).toList = [(0, .agg (ccs r a1 c1 a2 c2).toArray)] := by simp [hs]
    refine wpList_buildSlice hg 46 48 1 #[(0, s)] ho _ ie _ Tryd.underlying46 hi hrow.1 (by rw [hrow.2]; decide) (by rw [hrow.2]; decide) ?_ h
    rw [e, hrow.2]
    exact fill_core _ _ _ _ _ _ _ _ _ _ _ _ _ _ _ _ _ _ _ _ _ _ rfl
/-- A slice of one, in a block of its own. -/
def OneQ (B : Nat) (q : Qd) (v : Value) (w : World) : Prop := ∃ b, v = .slice (some ⟨b, 0, none⟩) 1 1 ∧ B ≤ b ∧ b < w.heap.size ∧ Blk w b (qcs q).toArray 48
theorem OneQ_mono (B : Nat) (q : Qd) : G.Mono Ext (OneQ B q) := fun _ _ _ hx ⟨b, h1, h2, h3, h4⟩ => ⟨b, h1, h2, Nat.lt_of_lt_of_le h3 hx.size, h4.ext hx⟩
def RsQ (B : Nat) (q : Qd) : Nat → Option (Value → World → Prop) := fun j => if j = 12 then some (OneQ B q) else none
theorem RsQ_mono (B : Nat) (q : Qd) : G.RsMono Ext (RsQ B q) := by
  intro j R h
  unfold RsQ at h
  split at h
  · cases h; exact OneQ_mono B q
  · cases h
end Go.Proofs.YtnmdfhnfheekgaaDoor
namespace Go.Proofs.YtnmdfhnfheekgaaDoor
open Go Go.RowKit
def TOk (w : World) (T : List Qd) : Prop := ∀ t ∈ T, QdOk w w.heap.size t ∧ Chk t.1.h ∧ Chk t.1.t ∧ t.1.ht = true
theorem tmb_of {r : Cr} (h : r.ht = true) (hc : Chk r.t) : Tmb r := by unfold Tmb; rw [if_pos h]; exact hc
theorem mays_one {x y : Xp} (hx : Chk x) (hy : Chk y) : Mays [⟨x, true, y⟩] :=
  ⟨by simp, fun r hr => by
    obtain rfl : r = ⟨x, true, y⟩ := by simpa using hr
    exact ⟨hx, tmb_of rfl hy⟩⟩
def BadE (e : Ending) : Prop := ∃ T v, e = .returned (.tuple #[.slice none 0 0, .iface T v])
theorem cuts1_bad (x y : Xp) (a : Option Addr) (c : Nat) (aA aT : Addr) (w : World) (hc : Cat w w.heap.size a c [⟨x, true, y⟩]) (hA : Ag w aA aT) (hx : Chk x) (hy : Chk y) (h : tb x y = true) :
    Calls Tryd.prog 15 #[.slice a 1 c] w fun e w' => BadE e ∧ Ext w w' := by
  refine (cuts_any [⟨x, true, y⟩] a c aA aT w hc hA).mono ?_
  rintro e w' ⟨hr, hx'⟩
  refine ⟨?_, hx'⟩
  rcases hr with ⟨hn, _⟩ | ⟨_, i, hi, h1, _, v, rfl, hv⟩ | ⟨_, h1, _⟩
  · exact absurd (mays_one hx hy) hn
  · obtain ⟨T, u, rfl⟩ := hv.iface; exact ⟨T, u, rfl⟩
  · exact absurd ((cut1_none x y).2 h) (h1 0 (by simp))
def kdv (_x y : Xp) : Int := if (wo y).ol.2 = true then 1 else 2
def knv (x y : Xp) : Int := if (wo y).ol.2 = true then ((wo y).ol.1 : Int) else ((max (wo x).ol.1 1 : Nat) : Int)
def OneE (x y : Xp) (w : World) (e : Ending) (w' : World) : Prop := ∃ g c, e = .returned (.tuple #[.slice (some ⟨g, 0, none⟩) 1 c, .nilIface]) ∧ w'.cell? ⟨g, 0, none⟩ = some (.int .i64 (kdv x y)) ∧ w'.cell? ⟨g, 0 + 1, none⟩ = some (.int .i64 (knv x y)) ∧ g < w'.heap.size ∧ w.heap.size ≤ g
theorem cut1_ok {x y : Xp} (h : tb x y = false) : ∃ p, cut1 ⟨x, true, y⟩ = some p ∧ (p.1 : Int) = kdv x y ∧ (p.2 : Int) = knv x y := by
  unfold tb at h
  unfold cut1 kdv knv
  simp only [Bool.true_eq_false, if_false]
  cases he : (wo x).emp <;> cases hy : (wo y).ol.2 <;> cases hx : (wo x).ol.2 <;> simp [he, hy, hx] at h ⊢
theorem cuts1_ok (x y : Xp) (a : Option Addr) (c : Nat) (aA aT : Addr) (w : World) (hc : Cat w w.heap.size a c [⟨x, true, y⟩]) (hA : Ag w aA aT) (_hx : Chk x) (_hy : Chk y) (h : tb x y = false) :
    Calls Tryd.prog 15 #[.slice a 1 c] w fun e w' => OneE x y w e w' ∧ Ext w w' := by
  obtain ⟨p, hp, h1, h2⟩ := cut1_ok h
  refine (cuts_any [⟨x, true, y⟩] a c aA aT w hc hA).mono ?_
  rintro e w' ⟨hr, hx'⟩
  refine ⟨?_, hx'⟩
  rcases hr with ⟨hn, _⟩ | ⟨_, i, hi, h1, _, v, rfl, hv⟩ | ⟨_, _, v, rfl, hv⟩
  · exact absurd (mays_one _hx _hy) hn
  · obtain rfl : i = 0 := by simpa using hi
    exact absurd h1 (by simp [hp])
  · obtain ⟨g, cap, rfl, hb, hg⟩ := hv.form (by simp)
    have hcl := hv.cells (g := g) rfl
    have hk : (cutk [⟨x, true, y⟩]).flatMap ccl = [.int .i64 (p.1 : Int), .int .i64 (p.2 : Int)] := by simp [cutk, hp, ccl]
    rw [hk] at hcl
    refine ⟨g, cap, rfl, ?_, ?_, hg, hb⟩
    · have := hcl 0 _ rfl
      rw [← h1, ← this]; rfl
    · have := hcl 1 _ rfl
      rw [← h2, ← this]; rfl
theorem mays_list {w : World} {T : List Qd} (h : TOk w T) (hl : T.length ≤ 200) : Mays (T.map (·.1)) :=
  ⟨by simpa using hl, fun r hr => by
    obtain ⟨t, ht, rfl⟩ := List.mem_map.1 hr
    obtain ⟨_, h1, h2, h3⟩ := h t ht
    exact ⟨h1, tmb_of h3 h2⟩⟩
/-- The list, as a list of cores. -/
theorem cat_all {w0 w : World} {base n : Nat} {v : Value} {T : List Qd} (h : w.ownsRow base 48 21 v n (crl T)) (hn : T.length = n) (hT : TOk w0 T) (hx : Ext w0 w) :
    ∃ a c, v = .slice a n c ∧ Cat w w.heap.size a c (T.map (·.1)) := by
  have h' := h
  obtain ⟨hl, ⟨hv, h0⟩ | ⟨g, cap, cur, hv, hgb, hg, hg1, hg2, hg3, hg4⟩⟩ := h
  · have hl0 : T = [] := by
      rw [h0, crl_len] at hl
      have : T.length = 0 := by omega
      exact List.length_eq_zero_iff.1 this
    subst hl0
    refine ⟨none, 0, by rw [hv, ← hn]; rfl, by simp, by decide, .inl rfl⟩
  · subst hv
    have := cat_own (g := g) h' hn (fun t ht => (hT t ht).1.ext hx) 0 (Nat.zero_le _)
    rw [Nat.zero_mul, List.drop_zero] at this
    exact ⟨_, cap, rfl, this⟩
def BadL (bd : Nat) (aT : Addr) (e : Ending) (w' : World) : Prop := ∃ v, e = .returned (.tuple #[.slice none 0 0, v]) ∧ ErrOf w' [.rule (bd : Int)] v aT
def OkL (n : Nat) (e : Ending) : Prop := ∃ a c, e = .returned (.tuple #[.slice a n c, .nilIface])
theorem cutsT_bad {w0 : World} (T : List Qd) (bd : Nat) (a : Option Addr) (c : Nat) (aA aT : Addr) (w : World) (hc : Cat w w.heap.size a c (T.map (·.1))) (hA : Ag w aA aT) (hT : TOk w0 T) (hl : T.length ≤ 200) (hb : Bd (T.map (·.1)) bd) (h0 : 0 < bd) :
    Calls Tryd.prog 15 #[.slice a T.length c] w fun e w' => BadL bd aT e w' ∧ Ext w w' := by
  have hca := cuts_any (T.map (·.1)) a c aA aT w hc hA
  rw [List.length_map] at hca
  refine hca.mono ?_
  rintro e w' ⟨hr, hx'⟩
  refine ⟨?_, hx'⟩
  rcases hb with ⟨hb, _⟩ | ⟨_, hb1, hb2, hb3⟩
  · omega
  rcases hr with ⟨hn, _⟩ | ⟨_, i, hi, h1, h2, v, rfl, hv⟩ | ⟨_, h1, _⟩
  · exact absurd (mays_list hT hl) hn
  · have e1 : i = bd - 1 := by
      rcases Nat.lt_trichotomy i (bd - 1) with h | h | h
      · exact absurd h1 (hb3 i hi h)
      · exact h
      · exact absurd hb2 (h2 (bd - 1) hb1 h)
    refine ⟨v, rfl, ?_⟩
    rw [show (bd : Int) = (i : Int) + 1 by omega]
    exact hv
  · exact absurd hb2 (h1 _ hb1)
theorem cutsT_ok {w0 : World} (T : List Qd) (a : Option Addr) (c : Nat) (aA aT : Addr) (w : World) (hc : Cat w w.heap.size a c (T.map (·.1))) (hA : Ag w aA aT) (hT : TOk w0 T) (hl : T.length ≤ 200) (hb : Bd (T.map (·.1)) 0) :
    Calls Tryd.prog 15 #[.slice a T.length c] w fun e w' => OkL T.length e ∧ Ext w w' := by
  have hca := cuts_any (T.map (·.1)) a c aA aT w hc hA
  rw [List.length_map] at hca
  refine hca.mono ?_
  rintro e w' ⟨hr, hx'⟩
  refine ⟨?_, hx'⟩
  rcases hb with ⟨_, hb⟩ | ⟨hb, _⟩
  rotate_left
  · omega
  rcases hr with ⟨hn, _⟩ | ⟨_, i, hi, h1, _, v, rfl, hv⟩ | ⟨_, _, v, rfl, hv⟩
  · exact absurd (mays_list hT hl) hn
  · exact absurd h1 (hb i hi)
  · obtain ⟨a, c, rfl⟩ := own_shp hv
    exact ⟨a, c, by rw [List.length_map]⟩
/-- One more. -/
theorem tok_put {w0 : World} {T : List Qd} {t : Qd} (h : TOk w0 T) (hq : QdOk w0 w0.heap.size t ∧ Chk t.1.h ∧ Chk t.1.t ∧ t.1.ht = true) : TOk w0 (T ++ [t]) := by
  intro u hu
  rcases List.mem_append.1 hu with hu | hu
  · exact h u hu
  · obtain rfl : u = t := by simpa using hu
    exact hq
/-- The last one alone. -/
theorem cat_last {w0 w : World} {base g cap m : Nat} {T : List Qd} {t : Qd} (h : w.ownsRow base 48 21 (.slice (some ⟨g, 0, none⟩) (m + 1) cap) (m + 1) (crl T ++ qcs t)) (hm : T.length = m) (hT : TOk w0 (T ++ [t])) (hx : Ext w0 w) :
    Cat w w.heap.size (some ⟨g, m * 21, none⟩) (cap - m) [t.1] := by
  rw [← crl_app] at h
  have := cat_own h (by simp [hm]) (fun u hu => (hT u hu).1.ext hx) m (by omega)
  rw [← hm, List.drop_left] at this
  rw [← hm]
  exact this
theorem own_cap {w : World} {base g cap n e sz : Nat} {xs : List Value} (h : w.ownsRow base e sz (.slice (some ⟨g, 0, none⟩) n cap) n xs) : n ≤ cap ∧ cap ≤ maxLen := by
  obtain ⟨_, ⟨hv, _⟩ | ⟨g', cap', cur, hv, _, _, h1, h2, _⟩⟩ := h
  · cases hv
  · cases hv; exact ⟨h1, h2⟩
/-- What the law reckons. -/
theorem tb_emp {x y : Xp} (h : (wo x).emp = true) : tb x y = true := by unfold tb; rw [h]; rfl
theorem tb_not {x y : Xp} (h : (wo x).emp = false) : tb x y = (!(wo x).ol.2 && !(wo y).ol.2) := by unfold tb; rw [h]; rfl
theorem lnv_parts {x : Xp} {n : Bool} {l m : Int} (hc : Chk x) (h : lnv x = .agg #[.bool n, .int .i64 l, .int .i64 m]) :
    (wo x).ol.2 = (n || decide (l = m)) ∧ (wo x).emp = (!n && decide (l = 0)) ∧ (n = false → 0 ≤ l ∧ l ≤ 65536 ∧ ((wo x).ol.2 = true → ((wo x).ol.1 : Int) = l)) := by
  unfold lnv at h
  rw [if_pos hc, Wv.lv_eq] at h
  simp only [Value.agg.injEq, Array.mk.injEq, List.cons.injEq, Value.bool.injEq, Value.int.injEq, true_and, and_true] at h
  obtain ⟨rfl, rfl, rfl⟩ := h
  refine ⟨Wv.ol_eq _, Wv.emp_eq _, fun hn => ?_⟩
  have hle := (wo_le x).mono (chk_good hc).2
  refine ⟨?_, ?_, fun h2 => Wv.ol1 hn h2⟩
  · cases hw : wo x <;> simp only [Wv.ll] <;> omega
  · cases hw : wo x with
    | none => simp only [Wv.ll]; omega
    | bounded a b => rw [hw] at hle; simp only [Wv.ll, Wv.le] at *; omega
    | endless a => rw [hw] at hle; simp only [Wv.ll, Wv.le] at *; omega
end Go.Proofs.YtnmdfhnfheekgaaDoor
namespace Go.Proofs.YtnmdfhnfheekgaaDoor
open Go Go.RowKit
instance : G.GOK Ext := ⟨fun w => Below.refl _ w, fun h k => bel_call h k, fun _ => ⟨rfl, rfl, rfl, Nat.le_refl _, fun _ _ => rfl⟩⟩
section
/-- The blocks from B on. -/
abbrev Fr (B : Nat) (w : World) (b : Nat) : Prop := B ≤ b ∧ b < w.heap.size
theorem Xap.ext' {w w' : World} {B : Nat} {a : Option Addr} {c : Nat} {L : List Xp} (h : Xap w (Fr B w) a c L) (hx : Ext w w') : Xap w' (Fr B w') a c L :=
  h.turn fun b hb => ⟨⟨hb.1, Nat.lt_of_lt_of_le hb.2 hx.size⟩, hx.block b hb.2⟩
/-- A copied expression. -/
def CpR (B : Nat) (x : Xp) (v : Value) (w : World) : Prop := ∃ a c, v = xv x a c ∧ Xap w (Fr B w) a c x.args
theorem CpR_mono (B : Nat) (x : Xp) : G.Mono Ext (CpR B x) := fun _ _ _ hx ⟨a, c, h1, h2⟩ => ⟨a, c, h1, h2.ext' hx⟩
/-- A core that was built. -/
def BldR (B : Nat) (r : Cr) (v : Value) (w : World) : Prop := ∃ a1 c1 a2 c2, v = .agg (ccs r a1 c1 a2 c2).toArray ∧ Xap w (Fr B w) a1 c1 r.h.args ∧ Xap w (Fr B w) a2 c2 r.t.args
theorem BldR_mono (B : Nat) (r : Cr) : G.Mono Ext (BldR B r) := fun _ _ _ hx ⟨a1, c1, a2, c2, h1, h2, h3⟩ => ⟨a1, c1, a2, c2, h1, h2.ext' hx, h3.ext' hx⟩
/-- A slice of one core. -/
def OneC (B : Nat) (r : Cr) (v : Value) (w : World) : Prop := ∃ b a1 c1 a2 c2, v = .slice (some ⟨b, 0, none⟩) 1 1 ∧ Blk w b (ccs r a1 c1 a2 c2).toArray 48 ∧ Xap w (Fr B w) a1 c1 r.h.args ∧ Xap w (Fr B w) a2 c2 r.t.args
theorem OneC_mono (B : Nat) (r : Cr) : G.Mono Ext (OneC B r) := fun _ _ _ hx ⟨b, a1, c1, a2, c2, h1, h2, h3, h4⟩ => ⟨b, a1, c1, a2, c2, h1, h2.ext hx, h3.ext' hx, h4.ext' hx⟩
def RsC (B : Nat) (r : Cr) : Nat → Option (Value → World → Prop) := fun j => if j = 6 then some (CpR B r.h) else if j = 17 then some (CpR B r.t) else if j = 18 then some (BldR B r) else if j = 19 then some (OneC B r) else none
theorem RsC_mono (B : Nat) (r : Cr) : G.RsMono Ext (RsC B r) := by
  intro j R h
  unfold RsC at h
  split at h
  · cases h; exact CpR_mono B r.h
  · split at h
    · cases h; exact CpR_mono B r.t
    · split at h
      · cases h; exact BldR_mono B r
      · split at h
        · cases h; exact OneC_mono B r
        · cases h
theorem xv_inj {x : Xp} {a a' : Option Addr} {c c' : Nat} (h : xv x a c = xv x a' c') : a = a' ∧ c = c' := by
  simp [xv] at h
  exact h
theorem ccs_inj {r : Cr} {a1 a2 a1' a2' : Option Addr} {c1 c2 c1' c2' : Nat} (h : Value.agg (ccs r a1 c1 a2 c2).toArray = .agg (ccs r a1' c1' a2' c2').toArray) : a1 = a1' ∧ c1 = c1' ∧ a2 = a2' ∧ c2 = c2' := by
  simp [ccs] at h
  exact ⟨h.1.1, h.1.2, h.2.1, h.2.2⟩
theorem CpR.at {B : Nat} {x : Xp} {a : Option Addr} {c : Nat} {w : World} (h : CpR B x (xv x a c) w) : Xap w (Fr B w) a c x.args := by
  obtain ⟨a', c', h1, h2⟩ := h
  obtain ⟨rfl, rfl⟩ := xv_inj h1
  exact h2
/-- The blocks from B on, but the list's own. -/
def Fo (B : Nat) (v : Value) (w : World) (b : Nat) : Prop := B ≤ b ∧ b < w.heap.size ∧ some b ≠ v.ownBlock
def Qap (w : World) (B : Nat) (v : Value) (t : Qd) : Prop := Xok t.1.h ∧ Xok t.1.t ∧ Xap w (Fo B v w) t.2.1.1 t.2.1.2 t.1.h.args ∧ Xap w (Fo B v w) t.2.2.1 t.2.2.2 t.1.t.args
theorem fo_grow {wr w7 w8 : World} {B g n c : Nat} {v : Value} (x7 : Ext wr w7) (hg : w7.grownBy w8 v.ownBlock) (hv : v.ownBlock = some g ∨ g = w7.heap.size) (b : Nat) (hb : Fo B v wr b) : Fo B (.slice (some ⟨g, 0, none⟩) n c) w8 b ∧ w8.heap[b]? = wr.heap[b]? := by
  obtain ⟨b1, b2, b3⟩ := hb
  have h7 := x7.size
  have h8 := hg.size
  refine ⟨⟨b1, by omega, ?_⟩, ?_⟩
  · show some b ≠ some g
    rcases hv with h | h
    · rw [← h]; exact b3
    · intro e; have := Option.some.inj e; omega
  · rw [hg.block b (by omega) b3, x7.block b b2]
theorem fr_grow {wr w7 w8 : World} {B g n c e sz m : Nat} {v : Value} {xs : List Value} (hown : wr.ownsRow B e sz v m xs) (x7 : Ext wr w7) (hB : B ≤ wr.heap.size) (hg : w7.grownBy w8 v.ownBlock) (hv : v.ownBlock = some g ∨ g = w7.heap.size) (b : Nat) (hb : Fr wr.heap.size w7 b) : Fo B (.slice (some ⟨g, 0, none⟩) n c) w8 b ∧ w8.heap[b]? = w7.heap[b]? := by
  obtain ⟨b1, b2⟩ := hb
  have h7 := x7.size
  have h8 := hg.size
  have b3 : some b ≠ v.ownBlock := fun e => by have := (hown.lt b e.symm).2; omega
  refine ⟨⟨by omega, by omega, ?_⟩, ?_⟩
  · show some b ≠ some g
    rcases hv with h | h
    · rw [← h]; exact b3
    · intro e; have := Option.some.inj e; omega
  · rw [hg.block b b2 b3]
theorem qap_grow {wr w7 w8 : World} {B g n c : Nat} {v : Value} {t : Qd} (h : Qap wr B v t) (x7 : Ext wr w7) (hg : w7.grownBy w8 v.ownBlock) (hv : v.ownBlock = some g ∨ g = w7.heap.size) : Qap w8 B (.slice (some ⟨g, 0, none⟩) n c) t :=
  ⟨h.1, h.2.1, h.2.2.1.turn (fo_grow x7 hg hv), h.2.2.2.turn (fo_grow x7 hg hv)⟩
theorem Qap.ok {w : World} {B : Nat} {v : Value} {t : Qd} (h : Qap w B v t) : QdOk w w.heap.size t :=
  ⟨h.1, h.2.1, h.2.2.1.xat fun _ hb => hb.2.1, h.2.2.2.xat fun _ hb => hb.2.1⟩
theorem cat_qap {w : World} {base n : Nat} {v : Value} {T : List Qd} (h : w.ownsRow base 48 21 v n (crl T)) (hn : T.length = n) (hT : ∀ t ∈ T, Qap w base v t) :
    ∃ a c, v = .slice a n c ∧ Cat w w.heap.size a c (T.map (·.1)) := by
  have h' := h
  obtain ⟨hl, ⟨hv, h0⟩ | ⟨g, cap, cur, hv, hgb, hg, hg1, hg2, hg3, hg4⟩⟩ := h
  · have hl0 : T = [] := by
      rw [h0, crl_len] at hl
      have : T.length = 0 := by omega
      exact List.length_eq_zero_iff.1 this
    subst hl0
    refine ⟨none, 0, by rw [hv, ← hn]; rfl, by simp, by decide, .inl rfl⟩
  · subst hv
    have := cat_own (g := g) h' hn (fun t ht => (hT t ht).ok) 0 (Nat.zero_le _)
    rw [Nat.zero_mul, List.drop_zero] at this
    exact ⟨_, cap, rfl, this⟩
end
theorem cc_info : (Tryd.prog.info? 48).map (fun i => (i.zero, i.size, i.bytes)) = some (some (.agg #[.int .i64 0, .int .i64 0, .int .u64 0, .int .u64 0, .int .u64 0, .int .u64 0, .string ⟨#[]⟩, .int .i64 0, .int .i64 0, .slice none 0 0, .bool false, .int .i64 0, .int .i64 0, .int .u64 0, .int .u64 0, .int .u64 0, .int .u64 0, .string ⟨#[]⟩, .int .i64 0, .int .i64 0, .slice none 0 0]), 21, 216) := by kernel_rfl
def CopR (L : List Cr) (w : World) (e : Ending) (w' : World) : Prop := ∃ a c, e = .returned (.slice a L.length c) ∧ Cat w' w'.heap.size a c L ∧ Ext w w'
set_option maxHeartbeats 4000000 in
set_option maxRecDepth 20000 in
theorem copycores_any (L : List Cr) (a : Option Addr) (c : Nat) (w : World) (hx : Cat w w.heap.size a c L) (hl : L.length * 216 ≤ 140737488355328) (hnn : ∀ r ∈ L, Rch r.h ∧ Rch r.t) :
    Calls Tryd.prog 14 #[.slice a L.length c] w (CopR L w) := by
  obtain ⟨i0, hi, hz0, hz1, hz2⟩ := info_parts cc_info
  have HX := Lib.hid hx
  have HNN := Lib.hid hnn
  have HL := Lib.hid hl
  have hl1 : L.length ≤ 9223372036854775807 := by omega
  clear hx hnn hl
  go_enter Tryd.func14, Tryd.ntmps14
  go_wp2_with fail
  go_loopw [3, 4] (fun v i wr => ∃ (k : Nat) (T : List Qd), k ≤ L.length ∧ i = .int .i64 k ∧ Hid (T.map (·.1) = L.take k) ∧ T.length = k ∧ Hid (wr.ownsRow w.heap.size 48 21 v k (crl T)) ∧ Hid (∀ t ∈ T, Qap wr w.heap.size v t) ∧ Hid (Ext w wr)) (fun _ i _ => L.length - (intOf i).toNat)
  case atStart => exact ⟨0, [], Nat.zero_le _, rfl, Lib.hid (by simp), rfl, Lib.hid (own_nil _ _ _ _), Lib.hid (fun t ht => by cases ht), Lib.hid (Below.refl _ _)⟩
  case round =>
    obtain ⟨k, T, hk, rfl, hT, hTl, hown, hel, hEr⟩ := hrel
    obtain ⟨va, vc, rfl⟩ := own_shp hown.out
    by_cases hkl : k < L.length
    · have k1 : decide ((k : Int) < (L.length : Int)) = true := by simp; omega
      obtain ⟨b, o, rfl, hbb, r, a1, c1, a2, c2, hy, hmem, hok, hok2, hya, hyb, hcc⟩ := (HX.out.ext hEr.out).cells hkl
      have HCC := Lib.hid (fun w' (h : Ext wr w') => (show Crc w' b (o + k * 21) r a1 c1 a2 c2 from fun j hj => by rw [Below.cell h (p := ⟨b, o + k * 21 + j, none⟩) hbb]; exact hcc j hj))
      have HC1 := Lib.hid (fun w' (h : Ext wr w') => copyr_any r.h a1 c1 w' (HNN.out r hmem).1 (hya.ext h))
      have HC2 := Lib.hid (fun w' (h : Ext wr w') => copyr_any r.t a2 c2 w' (HNN.out r hmem).2 (hyb.ext h))
      have HOK := Lib.hid (And.intro hok (And.intro hok2 hy))
      have i0' : (0 : Int) ≤ (k : Int) := by omega
      have i1 : (k : Int) < (L.length : Int) := by omega
      have i2 : (k : Int) + 1 ≤ 651562446090 := by have := HL.out; omega
      have i3 : k + 1 ≤ maxLen := by have := HL.out; unfold maxLen; omega
      have i4 : (k + 1) * 216 ≤ 140737488355328 := by have := HL.out; omega
      have hsw := hEr.out.size
      clear hya hyb hcc hmem hok hok2 hy
      go_upto_region 5 with fail
      refine G.wp_region_tail (G := Ext) (RsC wr.heap.size r) 20 (by kernel_rfl) (by kernel_rfl) (RsC_mono _ _) (fun hex => ?_)
      simp only [List.take_succ_cons, List.take_zero, List.drop_succ_cons, List.drop_zero]
      iterate 6
        (refine G.wpS_one (A := ?_) hex rfl rfl (by simp) ?_ ?_ ?_
         rotate_left 2
         · intro w' hC K hK
           obtain ⟨z0, z1, z2, z3, z4, z5, z6, z7, z8, z9, z10, z11, z12, z13, z14, z15, z16, z17, z18, z19, z20⟩ := Crc.cells21 (HCC.out _ hC.1)
           go_wp2_with (fail)
           refine hK _ ?_
           first | exact Below.refl _ _ | assumption | ((repeat' (first | (with_reducible exact Below.refl _ _) | (with_reducible assumption) | (with_reducible refine below_drewN ?_ _) | (with_reducible refine Below.alloc ?_ ?_ _) | (with_reducible refine Below.drew ?_) | (with_reducible refine Below.setCell ?_ ?_ _) | (with_reducible refine Below.trans ?_ (Below.mono (by with_reducible assumption) ?_)) | go_size)))
         rotate_left 1
         · rfl
         clear hex; intro hex)
      refine G.wpS_rel (CpR wr.heap.size r.h) rfl rfl (by simp) (by first | rfl | (simp [Region.wanted, yielded]; done)) ?_ ?_
      · intro w' hC K hK
        simp only [Act.put, List.setIfInBounds_toArray, List.set_cons_succ, List.set_cons_zero] at hK
        go_wp2_with (go_at_call 8; refine (HC1.out _ hC.1).mono ?_; rintro e w2 ⟨a6, c6, rfl, hap, hx2⟩)
        refine hK _ _ ?_ ?_
        · first | exact Below.refl _ _ | assumption | ((repeat' (first | (with_reducible exact Below.refl _ _) | (with_reducible assumption) | (with_reducible refine below_drewN ?_ _) | (with_reducible refine Below.alloc ?_ ?_ _) | (with_reducible refine Below.drew ?_) | (with_reducible refine Below.setCell ?_ ?_ _) | (with_reducible refine Below.trans ?_ (Below.mono (by with_reducible assumption) ?_)) | go_size)))
        · exact ⟨_, _, rfl, hap.turn fun b hb => ⟨⟨Nat.le_trans hC.1.size hb.1, hb.2⟩, rfl⟩⟩
      clear hex
      intro v6 w' hex hv6
      replace hex := Exists.intro w' hex
      simp only [Act.put, List.setIfInBounds_toArray, List.set_cons_succ, List.set_cons_zero]
      obtain ⟨a6, c6, rfl, hap6⟩ := hv6
      clear hap6
      iterate 10
        (refine G.wpS_one (A := ?_) hex rfl rfl (by simp) ?_ ?_ ?_
         rotate_left 2
         · intro w' hC K hK
           obtain ⟨z0, z1, z2, z3, z4, z5, z6, z7, z8, z9, z10, z11, z12, z13, z14, z15, z16, z17, z18, z19, z20⟩ := Crc.cells21 (HCC.out _ hC.1)
           go_wp2_with (fail)
           refine hK _ ?_
           first | exact Below.refl _ _ | assumption | ((repeat' (first | (with_reducible exact Below.refl _ _) | (with_reducible assumption) | (with_reducible refine below_drewN ?_ _) | (with_reducible refine Below.alloc ?_ ?_ _) | (with_reducible refine Below.drew ?_) | (with_reducible refine Below.setCell ?_ ?_ _) | (with_reducible refine Below.trans ?_ (Below.mono (by with_reducible assumption) ?_)) | go_size)))
         rotate_left 1
         · rfl
         clear hex; intro hex)
      refine G.wpS_rel (CpR wr.heap.size r.t) rfl rfl (by simp) (by first | rfl | (simp [Region.wanted, yielded]; done)) ?_ ?_
      · intro w' hC K hK
        simp only [Act.put, List.setIfInBounds_toArray, List.set_cons_succ, List.set_cons_zero] at hK
        go_wp2_with (go_at_call 8; refine (HC2.out _ hC.1).mono ?_; rintro e w2 ⟨a6, c6, rfl, hap, hx2⟩)
        refine hK _ _ ?_ ?_
        · first | exact Below.refl _ _ | assumption | ((repeat' (first | (with_reducible exact Below.refl _ _) | (with_reducible assumption) | (with_reducible refine below_drewN ?_ _) | (with_reducible refine Below.alloc ?_ ?_ _) | (with_reducible refine Below.drew ?_) | (with_reducible refine Below.setCell ?_ ?_ _) | (with_reducible refine Below.trans ?_ (Below.mono (by with_reducible assumption) ?_)) | go_size)))
        · exact ⟨_, _, rfl, hap.turn fun b hb => ⟨⟨Nat.le_trans hC.1.size hb.1, hb.2⟩, rfl⟩⟩
      clear hex
      intro v7 w' hex hv7
      replace hex := Exists.intro w' hex
      simp only [Act.put, List.setIfInBounds_toArray, List.set_cons_succ, List.set_cons_zero]
      obtain ⟨a7, c7, rfl, hap7⟩ := hv7
      clear hap7
      refine G.wpS_rel (BldR wr.heap.size r) rfl rfl (by simp) (by first | rfl | (simp [Region.wanted, yielded]; done)) ?_ ?_
      · intro w' hC K hK
        have h6 := CpR.at ((hC.2 6 (by simp [Region.binds])).2.1 rfl)
        have h7 := CpR.at ((hC.2 17 (by simp [Region.binds])).1 rfl)
        refine wpList_core rfl (.tmp 17) (.tmp 22) (.tmp 28) rfl r a6 a7 c6 c7 rfl rfl rfl ?_
        exact hK _ _ (Below.refl _ _) ⟨_, _, _, _, rfl, h6, h7⟩
      clear hex
      intro v8 w' hex hv8
      replace hex := Exists.intro w' hex
      simp only [Act.put, List.setIfInBounds_toArray, List.set_cons_succ, List.set_cons_zero]
      obtain ⟨a61, c61, a71, c71, rfl, hap6, hap7⟩ := hv8
      clear hap6 hap7
      refine G.wpS_rel (OneC wr.heap.size r) rfl rfl (by simp) (by first | rfl | (simp [Region.wanted, yielded]; done)) ?_ ?_
      · intro w' hC K hK
        obtain ⟨a62, c62, a72, c72, e8, h6, h7⟩ := (hC.2 18 (by simp [Region.binds])).1 rfl
        obtain ⟨rfl, rfl, rfl, rfl⟩ := ccs_inj e8
        refine wpList_core1 rfl (.tmp 29) rfl r a61 a71 c61 c71 rfl ?_
        have hx8 : Ext w' (w'.alloc (.cells (ccs r a61 c61 a71 c71).toArray 48)) := (Below.refl _ _).alloc (Nat.le_refl _) _
        exact hK _ _ hx8 ⟨_, _, _, _, _, rfl, Blk.new _ _ _, h6.ext' hx8, h7.ext' hx8⟩
      clear hex
      intro v9 w' hex hv9
      replace hex := Exists.intro w' hex
      simp only [Act.put, List.setIfInBounds_toArray, List.set_cons_succ, List.set_cons_zero]
      refine G.wpS_nil fun w7 hAll => ?_
      obtain ⟨b7, a63, c63, a73, c73, rfl, hB7, h6, h7⟩ := (hAll.2 19).1 rfl
      have X7 := Lib.hid hAll.1
      have own7 := Lib.hid (own_xt hown.out hAll.1)
      have hsz7 := hAll.1.size
      have HAP := Lib.hid (And.intro h6 h7)
      clear hAll hex h6 h7
      go_wp2_with (at_builtin; refine wpList_append_lies _ rfl (.tmp 11) (.tmp 30) 46 rfl w.heap.size 48 i0 _ 21 216 Tryd.underlying46 hi hz0 hz1 hz2 rfl (by decide) _ k (crl T) rfl own7.out ⟨b7, 0, none⟩ 1 1 (qcs (r, (a63, c63), (a73, c73))) rfl rfl (World.news_of_block hB7) (qcs_one _) (by decide) i3 i4 (by omega) _ rfl ?_; intro g8 cap8 w8 hown8 hgrow8 hv8 hg8)
      have HX8 := Lib.hid (ext_gr (bel_call hEr.out X7.out) hgrow8 own7.out (Nat.le_refl _))
      have HEL := Lib.hid (show ∀ t ∈ T ++ [((r : Cr), (a63, c63), (a73, c73))], Qap w8 w.heap.size (.slice (some ⟨g8, 0, none⟩) (k + 1) cap8) t from fun t ht => by
        rcases List.mem_append.1 ht with ht | ht
        · exact qap_grow (hel.out t ht) X7.out hgrow8 hv8
        · obtain rfl := List.mem_singleton.1 ht
          exact ⟨HOK.out.1, HOK.out.2.1, HAP.out.1.turn (fr_grow hown.out X7.out hsw hgrow8 hv8), HAP.out.2.turn (fr_grow hown.out X7.out hsw hgrow8 hv8)⟩)
      have HTT := Lib.hid (show (T ++ [((r : Cr), (a63, c63), (a73, c73))]).map (·.1) = L.take (k + 1) by
        rw [List.map_append, hT.out, List.take_succ_eq_append_getElem hkl, HOK.out.2.2]; rfl)
      have HOW := Lib.hid hown8
      clear hown8 hgrow8 hv8 own7 X7 HAP
      go_wp2_with fail
      go_roundw
      case rel => exact ⟨k + 1, T ++ [((r : Cr), (a63, c63), (a73, c73))], by omega, by go_num, HTT, by simp [hTl], Lib.hid (by rw [crl_app]; exact HOW.out), HEL, HX8⟩
      case measure => simp [intOf] <;> omega
    · have k1 : decide ((k : Int) < (L.length : Int)) = false := by simp; omega
      obtain rfl : k = L.length := by omega
      obtain ⟨a9, c9, hva, hcat⟩ := cat_qap hown.out hTl hel.out
      injection hva with e1 e2 e3
      subst e1 e3
      have hTT : T.map (·.1) = L := by have := hT.out; rwa [List.take_length] at this
      rw [hTT] at hcat
      have HC := Lib.hid hcat
      clear hcat hTT
      go_wp2_with fail
      go_ret
      exact ⟨_, _, rfl, HC.out, hEr.out⟩
end Go.Proofs.YtnmdfhnfheekgaaDoor
namespace Go.Proofs.YtnmdfhnfheekgaaDoor
open Go Go.RowKit
theorem cbx_info : (Tryd.prog.info? 48).map (·.size) = some 21 := by kernel_rfl
theorem rng_ext {w w' : World} {b o : Nat} {cs : List Value} (h : w.rangeAt b o cs) (hx : Ext w w') (hb : b < w.heap.size) : w'.rangeAt b o cs := fun j v hv => by
  rw [Below.cell hx (p := ⟨b, o + j, none⟩) hb]; exact h j v hv
set_option maxHeartbeats 4000000 in
set_option maxRecDepth 20000 in
theorem eqcore_same (r : Cr) (a1 : Option Addr) (c1 : Nat) (a2 : Option Addr) (c2 : Nat) (b1 : Option Addr) (d1 : Nat) (b2 : Option Addr) (d2 : Nat) (w : World)
    (h1 : Xat w w.heap.size a1 c1 r.h.args) (h2 : Xat w w.heap.size a2 c2 r.t.args) (h3 : Xat w w.heap.size b1 d1 r.h.args) (h4 : Xat w w.heap.size b2 d2 r.t.args) :
    Calls Tryd.prog 33 #[cv r a1 c1 a2 c2, cv r b1 d1 b2 d2] w fun e w' => e = .returned (.bool true) ∧ Ext w w' := by
  have hE : Ext w ((w.alloc (.cells (cbx r a1 c1 a2 c2) 48)).alloc (.cells (cbx r b1 d1 b2 d2) 48)) := by go_grown
  have HA1 := Lib.hid ((Blk.new w (cbx r a1 c1 a2 c2) 48).alloc (.cells (cbx r b1 d1 b2 d2) 48))
  have hb2 := Blk.new (w.alloc (.cells (cbx r a1 c1 a2 c2) 48)) (cbx r b1 d1 b2 d2) 48
  rw [show (w.alloc (.cells (cbx r a1 c1 a2 c2) 48)).heap.size = w.heap.size + 1 by simp] at hb2
  have HA2 := Lib.hid hb2
  have HE := Lib.hid hE
  have HX := Lib.hid (And.intro (h1.ext hE) (And.intro (h2.ext hE) (And.intro (h3.ext hE) (h4.ext hE))))
  clear h1 h2 h3 h4 hE hb2
  go_enter Tryd.func33, Tryd.ntmps33
  go_upto_region 1 with fail
  generalize (w.alloc (.cells (cbx r a1 c1 a2 c2) 48)).alloc (.cells (cbx r b1 d1 b2 d2) 48) = wa at *
  obtain ⟨p0, p1, p2, p3, p4, p5, p6, p7, p8, p9, p10, p11, p12, p13, p14, p15, p16, p17, p18, p19, p20⟩ := Blk.cells21 HA1.out
  obtain ⟨q0, q1, q2, q3, q4, q5, q6, q7, q8, q9, q10, q11, q12, q13, q14, q15, q16, q17, q18, q19, q20⟩ := Blk.cells21 HA2.out
  go_wp2_with fail
  refine (eqx_same r.h a1 c1 b1 d1 wa HX.out.1 HX.out.2.2.1).mono ?_
  rintro e w2 ⟨rfl, x2⟩
  clear p0 p1 p2 p3 p4 p5 p6 p7 p8 p9 p10 p11 p12 p13 p14 p15 p16 p17 p18 p19 p20 q0 q1 q2 q3 q4 q5 q6 q7 q8 q9 q10 q11 q12 q13 q14 q15 q16 q17 q18 q19 q20
  obtain ⟨p0, p1, p2, p3, p4, p5, p6, p7, p8, p9, p10, p11, p12, p13, p14, p15, p16, p17, p18, p19, p20⟩ := Blk.cells21 (HA1.out.ext x2)
  obtain ⟨q0, q1, q2, q3, q4, q5, q6, q7, q8, q9, q10, q11, q12, q13, q14, q15, q16, q17, q18, q19, q20⟩ := Blk.cells21 (HA2.out.ext x2)
  have HE2 := Lib.hid (bel_call HE.out x2)
  have HX2 := Lib.hid (And.intro (HX.out.2.1.ext x2) (HX.out.2.2.2.ext x2))
  clear x2
  go_wp2_with fail
  refine (eqx_same r.t a2 c2 b2 d2 w2 HX2.out.1 HX2.out.2).mono ?_
  rintro e w3 ⟨rfl, x3⟩
  have HE3 := Lib.hid (bel_call HE2.out x3)
  clear x3 p0 p1 p2 p3 p4 p5 p6 p7 p8 p9 p10 p11 p12 p13 p14 p15 p16 p17 p18 p19 p20 q0 q1 q2 q3 q4 q5 q6 q7 q8 q9 q10 q11 q12 q13 q14 q15 q16 q17 q18 q19 q20
  go_wp2_with fail
  go_ret
  exact ⟨rfl, HE3.out⟩
set_option maxHeartbeats 4000000 in
set_option maxRecDepth 20000 in
theorem eqcores_same (L : List Cr) (a a' : Option Addr) (c c' : Nat) (w : World) (h1 : Cat w w.heap.size a c L) (h2 : Cat w w.heap.size a' c' L) (hl : L.length * 216 ≤ 140737488355328) :
    Calls Tryd.prog 18 #[.slice a L.length c, .slice a' L.length c'] w fun e w' => e = .returned (.bool true) ∧ Ext w w' := by
  have H1 := Lib.hid h1
  have H2 := Lib.hid h2
  have hl1 : L.length ≤ 9223372036854775807 := by omega
  have HL := Lib.hid hl
  clear h1 h2 hl
  go_enter Tryd.func18, Tryd.ntmps18
  go_wp2_with fail
  go_loopw [5] (fun i wr => ∃ k : Nat, k ≤ L.length ∧ i = .int .i64 k ∧ Hid (Ext w wr)) (fun i _ => L.length - (intOf i).toNat)
  case atStart => exact ⟨0, Nat.zero_le _, rfl, Lib.hid (Below.refl _ _)⟩
  case round =>
    obtain ⟨k, hk, rfl, hEr⟩ := hrel
    by_cases hkl : k < L.length
    · have k1 : decide ((k : Int) < (L.length : Int)) = true := by simp; omega
      have i0 : (0 : Int) ≤ (k : Int) := by omega
      have i1 : (k : Int) < (L.length : Int) := by omega
      have i2 := Lib.hid (show (k : Int) + 1 ≤ 9223372036854775807 by have := HL.out; omega)
      obtain ⟨b, o, rfl, hbb, r, a1, c1, a2, c2, hy, _, _, _, hya, hyb, hcc⟩ := (H1.out.ext hEr.out).cells hkl
      obtain ⟨b', o', rfl, hbb', r', b1, d1, b2, d2, hy', _, _, _, hya', hyb', hcc'⟩ := (H2.out.ext hEr.out).cells hkl
      obtain rfl : r = r' := hy.symm.trans hy'
      have hrg := Lib.hid hcc.range
      have hrg' := Lib.hid hcc'.range
      have HC := Lib.hid (fun w' (h : Ext wr w') => eqcore_same r a1 c1 a2 c2 b1 d1 b2 d2 w' (hya.ext h) (hyb.ext h) (hya'.ext h) (hyb'.ext h))
      have HB := Lib.hid (And.intro hbb hbb')
      clear hya hyb hya' hyb' hcc hcc' hy hy' hbb hbb'
      go_upto_region 6 with fail
      refine wp_region_stab (fun _ => none) (by kernel_rfl) (by kernel_rfl) (fun _ _ h => by cases h) (fun hex => ?_)
      iterate 3
        (refine wpS_one (A := ?_) hex rfl rfl (by simp) ?_ ?_ ?_
         rotate_left 2
         · intro w' hC K hK
           obtain ⟨hcell, hfrz⟩ := bcell hC.1.ext
           go_wp2_with (fail)
           refine hK _ ?_
           first | exact Gr.refl _ _ | exact Gr.of_ext (by assumption) hC.1.1.size
         rotate_left 1
         · rfl
         clear hex; intro hex)
      refine wpS_one (A := ?_) hex rfl rfl (by simp) ?_ ?_ ?_
      rotate_left 2
      · intro w' hC K hK
        refine wpList_load_mid rfl 48 (.tmp 19) rfl b (o + k * 21) rfl (ccs r a1 c1 a2 c2) _ (rng_ext hrg.out hC.1.ext HB.out.1) Tryd.underlying48 rfl cbx_info ?_
        exact hK _ (Gr.refl _ _)
      rotate_left 1
      · rfl
      clear hex; intro hex
      simp only [Act.put, List.setIfInBounds_toArray, List.set_cons_succ, List.set_cons_zero]
      iterate 3
        (refine wpS_one (A := ?_) hex rfl rfl (by simp) ?_ ?_ ?_
         rotate_left 2
         · intro w' hC K hK
           obtain ⟨hcell, hfrz⟩ := bcell hC.1.ext
           go_wp2_with (fail)
           refine hK _ ?_
           first | exact Gr.refl _ _ | exact Gr.of_ext (by assumption) hC.1.1.size
         rotate_left 1
         · rfl
         clear hex; intro hex)
      refine wpS_one (A := ?_) hex rfl rfl (by simp) ?_ ?_ ?_
      rotate_left 2
      · intro w' hC K hK
        refine wpList_load_mid rfl 48 (.tmp 23) rfl b' (o' + k * 21) rfl (ccs r b1 d1 b2 d2) _ (rng_ext hrg'.out hC.1.ext HB.out.2) Tryd.underlying48 rfl cbx_info ?_
        exact hK _ (Gr.refl _ _)
      rotate_left 1
      · rfl
      clear hex; intro hex
      simp only [Act.put, List.setIfInBounds_toArray, List.set_cons_succ, List.set_cons_zero]
      refine wpS_one (A := ?_) hex rfl rfl (by simp) ?_ ?_ ?_
      rotate_left 2
      · intro w' hC K hK
        obtain ⟨hcell, hfrz⟩ := bcell hC.1.ext
        go_wp2_with (go_at_call 33; refine (HC.out _ hC.1.ext).mono ?_; rintro e w2 ⟨rfl, hb2⟩)
        refine hK _ ?_
        first | exact Gr.refl _ _ | exact Gr.of_ext (by assumption) hC.1.1.size
      rotate_left 1
      · rfl
      clear hex; intro hex
      refine wpS_one (A := ?_) hex rfl rfl (by simp) ?_ ?_ ?_
      rotate_left 2
      · intro w' hC K hK
        obtain ⟨hcell, hfrz⟩ := bcell hC.1.ext
        go_wp2_with (fail)
        refine hK _ ?_
        first | exact Gr.refl _ _ | exact Gr.of_ext (by assumption) hC.1.1.size
      rotate_left 1
      · rfl
      clear hex; intro hex
      refine wpS_nil fun w9 hE => ?_
      replace hE := hE.1.ext
      obtain ⟨hcell_w9, hfrz_w9⟩ := bcell hE
      have X6 := Lib.hid (bel_call hEr.out hE)
      clear hE hex hcell_w9 hfrz_w9
      have i3 := i2.out
      go_wp2_with fail
      go_roundw
      case rel => exact ⟨k + 1, by omega, by go_num, X6⟩
      case measure => simp [intOf] <;> omega
    · have k1 : decide ((k : Int) < (L.length : Int)) = false := by simp; omega
      go_wp2_with fail
      go_ret
      exact ⟨rfl, hEr.out⟩
theorem info_cut2 : (Tryd.prog.info? 64).map (fun i => (i.zero, i.size, i.bytes)) = some (some (.agg #[.int .i64 0, .int .i64 0]), 2, 16) := by kernel_rfl
/-- Two lists of cuts that say the same. -/
def Cul (w : World) (B : Nat) (a : Option Addr) (p : List (Nat × Nat)) : Prop := p = [] ∨ ∃ b o, a = some ⟨b, o, none⟩ ∧ b < B ∧ ∀ i (h : i < p.length), w.cell? ⟨b, o + i * 2, none⟩ = some (.int .i64 (p[i].1 : Int)) ∧ w.cell? ⟨b, o + i * 2 + 1, none⟩ = some (.int .i64 (p[i].2 : Int))
theorem Cul.ext {w w' : World} {a : Option Addr} {p : List (Nat × Nat)} (h : Cul w w.heap.size a p) (hx : Ext w w') : Cul w' w'.heap.size a p := by
  rcases h with h | ⟨b, o, rfl, hb, h⟩
  · exact .inl h
  · refine .inr ⟨b, o, rfl, Nat.lt_of_lt_of_le hb hx.size, fun i hi => ?_⟩
    rw [Below.cell hx (p := ⟨b, _, none⟩) hb, Below.cell hx (p := ⟨b, _, none⟩) hb]
    exact h i hi
theorem ccl_get : ∀ (p : List (Nat × Nat)) (i : Nat) (h : i < p.length), (p.flatMap ccl)[i * 2]? = some (.int .i64 (p[i].1 : Int)) ∧ (p.flatMap ccl)[i * 2 + 1]? = some (.int .i64 (p[i].2 : Int))
  | [], i, h => by simp at h
  | x :: p, 0, h => ⟨rfl, rfl⟩
  | x :: p, i + 1, h => by
    have := ccl_get p i (by simpa using h)
    rw [List.flatMap_cons, show (i + 1) * 2 = i * 2 + 2 by omega, show i * 2 + 2 + 1 = i * 2 + 1 + 2 by omega]
    exact this
theorem ccl_len (p : List (Nat × Nat)) : (p.flatMap ccl).length = p.length * 2 := by
  induction p with
  | nil => rfl
  | cons x p ih => rw [List.flatMap_cons, List.length_append, ih, List.length_cons]; show 2 + _ = _; omega
theorem cul_own {w : World} {base n : Nat} {v : Value} {p : List (Nat × Nat)} (h : w.ownsRow base 64 2 v n (p.flatMap ccl)) (hn : p.length = n) : ∃ a c, v = .slice a n c ∧ Cul w w.heap.size a p := by
  have h' := h
  obtain ⟨hl, ⟨hv, h0⟩ | ⟨g, cap, cur, hv, hgb, hg, hg1, hg2, hg3, hg4⟩⟩ := h
  · exact ⟨none, 0, by rw [hv, h0], .inl (List.length_eq_zero_iff.1 (by omega))⟩
  · have hcl := h'.cells (g := g) (by rw [hv]; rfl)
    refine ⟨_, cap, hv, .inr ⟨g, 0, rfl, (Array.getElem?_eq_some_iff.1 hg).1, fun i hi => ?_⟩⟩
    obtain ⟨e1, e2⟩ := ccl_get p i hi
    have := hcl _ _ e1
    have h2 := hcl _ _ e2
    rw [show (⟨g, 0, none⟩ : Addr).add (i * 2) = ⟨g, 0 + i * 2, none⟩ by unfold Addr.add; split <;> simp_all] at this
    rw [show (⟨g, 0, none⟩ : Addr).add (i * 2 + 1) = ⟨g, 0 + i * 2 + 1, none⟩ by unfold Addr.add; split <;> simp_all] at h2
    exact ⟨this, h2⟩
set_option maxHeartbeats 4000000 in
set_option maxRecDepth 20000 in
theorem eqcuts_same (p : List (Nat × Nat)) (a a' : Option Addr) (c c' : Nat) (w : World) (h1 : Cul w w.heap.size a p) (h2 : Cul w w.heap.size a' p) (hl : p.length ≤ 20000) :
    Calls Tryd.prog 17 #[.slice a p.length c, .slice a' p.length c'] w fun e w' => e = .returned (.bool true) ∧ Ext w w' := by
  have H1 := Lib.hid h1
  have H2 := Lib.hid h2
  have hl1 : p.length ≤ 9223372036854775807 := by omega
  have HL := Lib.hid hl
  clear h1 h2 hl
  go_enter Tryd.func17, Tryd.ntmps17
  go_wp2_with fail
  go_loopw [5] (fun i wr => ∃ k : Nat, k ≤ p.length ∧ i = .int .i64 k ∧ Hid (Ext w wr)) (fun i _ => p.length - (intOf i).toNat)
  case atStart => exact ⟨0, Nat.zero_le _, rfl, Lib.hid (Below.refl _ _)⟩
  case round =>
    obtain ⟨k, hk, rfl, hEr⟩ := hrel
    by_cases hkl : k < p.length
    · have k1 : decide ((k : Int) < (p.length : Int)) = true := by simp; omega
      have i0 : (0 : Int) ≤ (k : Int) := by omega
      have i1 : (k : Int) < (p.length : Int) := by omega
      have i2 := Lib.hid (show (k : Int) + 1 ≤ 9223372036854775807 by omega)
      obtain h | ⟨b, o, rfl, hb, h⟩ := H1.out.ext hEr.out
      · rw [h] at hkl; simp at hkl
      obtain h' | ⟨b', o', rfl, hb', h'⟩ := H2.out.ext hEr.out
      · rw [h'] at hkl; simp at hkl
      obtain ⟨z0, z1⟩ := h k hkl
      obtain ⟨y0, y1⟩ := h' k hkl
      clear h h'
      generalize ((p[k].1 : Nat) : Int) = u at *
      generalize ((p[k].2 : Nat) : Int) = v at *
      go_upto_region 6 with fail
      go_quiet (fail)
      have X6 := Lib.hid (below_drewN hEr.out nq)
      have i3 := i2.out
      clear z0 z1 y0 y1
      go_wp2_with fail
      go_roundw
      case rel => exact ⟨k + 1, by omega, by go_num, X6⟩
      case measure => simp [intOf] <;> omega
    · have k1 : decide ((k : Int) < (p.length : Int)) = false := by simp; omega
      go_wp2_with fail
      go_ret
      exact ⟨rfl, hEr.out⟩
end Go.Proofs.YtnmdfhnfheekgaaDoor
namespace Go.Proofs.YtnmdfhnfheekgaaDoor
open Go Go.RowKit
abbrev xz : Value := .agg #[.int .i64 0, .int .i64 0, .int .u64 0, .int .u64 0, .int .u64 0, .int .u64 0, .string ⟨#[]⟩, .int .i64 0, .int .i64 0, .slice none 0 0]
theorem txt_emp (s : ByteArray) : s.toList.isEmpty = decide (s = .empty) := by
  rw [← txt_nil]; cases s.toList <;> rfl
set_option maxHeartbeats 4000000 in
set_option maxRecDepth 20000 in
theorem eqz_any (x : Xp) (a : Option Addr) (c : Nat) (w : World) (_hlen : x.args.length ≤ maxLen) :
    Calls Tryd.prog 12 #[xv x a c, xz] w fun e w' => e = .returned (.bool (decide (Zro x))) ∧ Ext w w' := by
  have hse := set_eq0 x.set
  have hse0 := set_eq00
  have hmx : maxLen ≤ 9223372036854775807 := by decide
  by_cases h_op : x.op = 0
  · skip
    have e1_op : (x.op == 0) = true := by simpa using h_op
    have e2_op : decide (x.op = 0) = true := by simpa using h_op
    have e3_op : (x.op != 0) = false := by simpa using h_op
    by_cases h_at : x.at_ = 0
    · skip
      have e1_at : (x.at_ == 0) = true := by simpa using h_at
      have e2_at : decide (x.at_ = 0) = true := by simpa using h_at
      have e3_at : (x.at_ != 0) = false := by simpa using h_at
      by_cases h_set : x.set = 0#256
      · skip
        have es : decide (x.set = 0#256) = true := by simpa using h_set
        by_cases h_text : x.text = .empty
        · skip
          have et : (x.text.toList == []) = true := by rw [txt_nil]; simpa using h_text
          have et3 : (x.text.toList != []) = false := by rw [bne, txt_nil]; simpa using h_text
          have et4 : x.text.toList.isEmpty = true := by rw [txt_emp]; simpa using h_text
          by_cases h_mn : x.mn = 0
          · skip
            have e1_mn : (x.mn == 0) = true := by simpa using h_mn
            have e2_mn : decide (x.mn = 0) = true := by simpa using h_mn
            have e3_mn : (x.mn != 0) = false := by simpa using h_mn
            by_cases h_mx : x.mx = 0
            · skip
              have e1_mx : (x.mx == 0) = true := by simpa using h_mx
              have e2_mx : decide (x.mx = 0) = true := by simpa using h_mx
              have e3_mx : (x.mx != 0) = false := by simpa using h_mx
              by_cases h_len : x.args.length = 0
              · skip
                have el1 : ((x.args.length : Int) == 0) = true := by rw [h_len]; rfl
                have el2 : decide ((x.args.length : Int) = 0) = true := by rw [h_len]; rfl
                have el3 : (x.args.length == 0) = true := by rw [h_len]; rfl
                have el4 : decide (x.args.length = 0) = true := by rw [h_len]; rfl
                have el5 : x.args.isEmpty = true := by rw [List.length_eq_zero_iff] at h_len; rw [h_len]; rfl
                have el6 : ((x.args.length : Int) != 0) = false := by rw [h_len]; rfl
                have hq : decide (Zro x) = true := by simp only [Zro]; simp [h_op, h_at, h_set, h_text, h_mn, h_mx, h_len]
                rw [hq]
                have hl0 : ¬ 0 < x.args.length := by omega
                have hl1 : decide ((0 : Int) < (x.args.length : Int)) = false := by rw [decide_eq_false_iff_not]; omega
                clear hq h_op h_at h_set h_text h_mn h_mx h_len
                go_enter Tryd.func12, Tryd.ntmps12
                go_wp2_with fail
                go_loop [5] (fun i => i = .int .i64 0) (fun _ => 0)
                case atStart => rfl
                case round =>
                  cases hrel
                  go_wp2_with fail
                  go_ret
                  exact ⟨rfl, by go_grown⟩
              · skip
                have el1 : ((x.args.length : Int) == 0) = false := by simp only [beq_eq_false_iff_ne, ne_eq]; omega
                have el2 : decide ((x.args.length : Int) = 0) = false := by simp only [decide_eq_false_iff_not]; omega
                have el3 : (x.args.length == 0) = false := by simp only [beq_eq_false_iff_ne, ne_eq]; omega
                have el4 : decide (x.args.length = 0) = false := by simp only [decide_eq_false_iff_not]; omega
                have el5 : x.args.isEmpty = false := by cases hh : x.args.isEmpty with | false => rfl | true => exact absurd (by rw [List.isEmpty_iff] at hh; rw [hh]; rfl) h_len
                have el6 : ((x.args.length : Int) != 0) = true := by simp only [bne_iff_ne, ne_eq]; omega
                have hq : decide (Zro x) = false := by simp only [Zro]; simp [h_op, h_at, h_set, h_text, h_mn, h_mx, h_len]
                rw [hq]
                clear hq h_op h_at h_set h_text h_mn h_mx h_len
                go_enter Tryd.func12, Tryd.ntmps12
                go_wp2_with fail
                go_ret
                exact ⟨rfl, by go_grown⟩
            · skip
              have e1_mx : (x.mx == 0) = false := by simpa using h_mx
              have e2_mx : decide (x.mx = 0) = false := by simpa using h_mx
              have e3_mx : (x.mx != 0) = true := by simpa using h_mx
              have hq : decide (Zro x) = false := by simp only [Zro]; simp [h_op, h_at, h_set, h_text, h_mn, h_mx]
              rw [hq]
              clear hq h_op h_at h_set h_text h_mn h_mx
              go_enter Tryd.func12, Tryd.ntmps12
              go_wp2_with fail
              go_ret
              exact ⟨rfl, by go_grown⟩
          · skip
            have e1_mn : (x.mn == 0) = false := by simpa using h_mn
            have e2_mn : decide (x.mn = 0) = false := by simpa using h_mn
            have e3_mn : (x.mn != 0) = true := by simpa using h_mn
            have hq : decide (Zro x) = false := by simp only [Zro]; simp [h_op, h_at, h_set, h_text, h_mn]
            rw [hq]
            clear hq h_op h_at h_set h_text h_mn
            go_enter Tryd.func12, Tryd.ntmps12
            go_wp2_with fail
            go_ret
            exact ⟨rfl, by go_grown⟩
        · skip
          have et : (x.text.toList == []) = false := by rw [txt_nil]; simpa using h_text
          have et3 : (x.text.toList != []) = true := by rw [bne, txt_nil]; simpa using h_text
          have et4 : x.text.toList.isEmpty = false := by rw [txt_emp]; simpa using h_text
          have hq : decide (Zro x) = false := by simp only [Zro]; simp [h_op, h_at, h_set, h_text]
          rw [hq]
          clear hq h_op h_at h_set h_text
          go_enter Tryd.func12, Tryd.ntmps12
          go_wp2_with fail
          go_ret
          exact ⟨rfl, by go_grown⟩
      · skip
        have es : decide (x.set = 0#256) = false := by simpa using h_set
        have hq : decide (Zro x) = false := by simp only [Zro]; simp [h_op, h_at, h_set]
        rw [hq]
        clear hq h_op h_at h_set
        go_enter Tryd.func12, Tryd.ntmps12
        go_wp2_with fail
        go_ret
        exact ⟨rfl, by go_grown⟩
    · skip
      have e1_at : (x.at_ == 0) = false := by simpa using h_at
      have e2_at : decide (x.at_ = 0) = false := by simpa using h_at
      have e3_at : (x.at_ != 0) = true := by simpa using h_at
      have hq : decide (Zro x) = false := by simp only [Zro]; simp [h_op, h_at]
      rw [hq]
      clear hq h_op h_at
      go_enter Tryd.func12, Tryd.ntmps12
      go_wp2_with fail
      go_ret
      exact ⟨rfl, by go_grown⟩
  · skip
    have e1_op : (x.op == 0) = false := by simpa using h_op
    have e2_op : decide (x.op = 0) = false := by simpa using h_op
    have e3_op : (x.op != 0) = true := by simpa using h_op
    have hq : decide (Zro x) = false := by simp only [Zro]; simp [h_op]
    rw [hq]
    clear hq h_op
    go_enter Tryd.func12, Tryd.ntmps12
    go_wp2_with fail
    go_ret
    exact ⟨rfl, by go_grown⟩
end Go.Proofs.YtnmdfhnfheekgaaDoor
namespace Go.Proofs.YtnmdfhnfheekgaaDoor
open Go Go.RowKit
set_option maxHeartbeats 4000000 in
set_option maxRecDepth 20000 in
theorem may_any (r : Cr) (a1 : Option Addr) (c1 : Nat) (a2 : Option Addr) (c2 : Nat) (w : World)
    (h1 : Xat w w.heap.size a1 c1 r.h.args) (h2 : Xat w w.heap.size a2 c2 r.t.args) :
    Calls Tryd.prog 31 #[cv r a1 c1 a2 c2] w fun e w' => e = .returned (.bool (decide (Chk r.h ∧ Tmb r))) ∧ Ext w w' := by
  have hE : Ext w (w.alloc (.cells (cbx r a1 c1 a2 c2) 48)) := by go_grown
  have HA1 := Lib.hid (Blk.new w (cbx r a1 c1 a2 c2) 48)
  have HE := Lib.hid hE
  have HX := Lib.hid (And.intro (h1.ext hE) (h2.ext hE))
  have HC1 := Lib.hid (rcheck_any r.h a1 c1 _ (h1.ext hE))
  have hlen := h2.len
  clear h1 h2 hE
  by_cases hq : Chk r.h
  rotate_left
  · have hd : decide (Chk r.h ∧ Tmb r) = false := by simp [hq]
    rw [hd]
    have hc := HC1.out
    rw [decide_eq_false hq] at hc
    have HC := Lib.hid hc
    clear hc hq hd HC1 hlen
    go_enter Tryd.func31, Tryd.ntmps31
    go_upto_region 1 with fail
    generalize w.alloc (.cells (cbx r a1 c1 a2 c2) 48) = wa at *
    obtain ⟨p0, p1, p2, p3, p4, p5, p6, p7, p8, p9, p10, p11, p12, p13, p14, p15, p16, p17, p18, p19, p20⟩ := Blk.cells21 HA1.out
    go_wp2_with fail
    refine HC.out.mono ?_
    rintro e w2 ⟨rfl, x2⟩
    have HE2 := Lib.hid (bel_call HE.out x2)
    clear x2 p0 p1 p2 p3 p4 p5 p6 p7 p8 p9 p10 p11 p12 p13 p14 p15 p16 p17 p18 p19 p20
    go_wp2_with fail
    go_ret
    exact ⟨rfl, HE2.out⟩
  · have hc := HC1.out
    rw [decide_eq_true hq] at hc
    have HC := Lib.hid hc
    cases hht : r.ht with
    | true =>
      have hd : decide (Chk r.h ∧ Tmb r) = decide (Chk r.t) := by rw [decide_eq_decide]; simp [hq, Tmb, hht]
      rw [hd]
      have HT := Lib.hid (fun w' h => rcheck_any r.t a2 c2 w' h)
      clear hc hq hd HC1 hlen
      go_enter Tryd.func31, Tryd.ntmps31
      go_upto_region 1 with fail
      generalize w.alloc (.cells (cbx r a1 c1 a2 c2) 48) = wa at *
      obtain ⟨p0, p1, p2, p3, p4, p5, p6, p7, p8, p9, p10, p11, p12, p13, p14, p15, p16, p17, p18, p19, p20⟩ := Blk.cells21 HA1.out
      rw [hht] at p10
      have hhh := Lib.hid hht
      clear hht
      go_wp2_with fail
      refine HC.out.mono ?_
      rintro e w2 ⟨rfl, x2⟩
      have HE2 := Lib.hid (bel_call HE.out x2)
      clear p0 p1 p2 p3 p4 p5 p6 p7 p8 p9 p10 p11 p12 p13 p14 p15 p16 p17 p18 p19 p20
      obtain ⟨p0, p1, p2, p3, p4, p5, p6, p7, p8, p9, p10, p11, p12, p13, p14, p15, p16, p17, p18, p19, p20⟩ := Blk.cells21 (HA1.out.ext x2)
      rw [hhh.out] at p10
      have HX2 := Lib.hid (HX.out.2.ext x2)
      clear x2
      go_wp2_with fail
      refine (HT.out _ HX2.out).mono ?_
      rintro e w3 ⟨rfl, x3⟩
      have HE3 := Lib.hid (bel_call HE2.out x3)
      clear x3 p0 p1 p2 p3 p4 p5 p6 p7 p8 p9 p10 p11 p12 p13 p14 p15 p16 p17 p18 p19 p20
      go_wp2_with fail
      go_ret
      exact ⟨rfl, HE3.out⟩
    | false =>
      have hd : decide (Chk r.h ∧ Tmb r) = decide (Zro r.t) := by rw [decide_eq_decide]; simp [hq, Tmb, hht]
      rw [hd]
      have HT := Lib.hid (fun w' => eqz_any r.t a2 c2 w' hlen)
      clear hc hq hd HC1 hlen
      go_enter Tryd.func31, Tryd.ntmps31
      go_upto_region 1 with fail
      generalize w.alloc (.cells (cbx r a1 c1 a2 c2) 48) = wa at *
      obtain ⟨p0, p1, p2, p3, p4, p5, p6, p7, p8, p9, p10, p11, p12, p13, p14, p15, p16, p17, p18, p19, p20⟩ := Blk.cells21 HA1.out
      rw [hht] at p10
      have hhh := Lib.hid hht
      clear hht
      go_wp2_with fail
      refine HC.out.mono ?_
      rintro e w2 ⟨rfl, x2⟩
      have HE2 := Lib.hid (bel_call HE.out x2)
      clear p0 p1 p2 p3 p4 p5 p6 p7 p8 p9 p10 p11 p12 p13 p14 p15 p16 p17 p18 p19 p20
      obtain ⟨p0, p1, p2, p3, p4, p5, p6, p7, p8, p9, p10, p11, p12, p13, p14, p15, p16, p17, p18, p19, p20⟩ := Blk.cells21 (HA1.out.ext x2)
      rw [hhh.out] at p10
      clear x2
      go_wp2_with fail
      refine (HT.out _).mono ?_
      rintro e w3 ⟨rfl, x3⟩
      have HE3 := Lib.hid (bel_call HE2.out x3)
      clear x3 p0 p1 p2 p3 p4 p5 p6 p7 p8 p9 p10 p11 p12 p13 p14 p15 p16 p17 p18 p19 p20
      go_wp2_with fail
      go_ret
      exact ⟨rfl, HE3.out⟩
theorem one_any (n : Bool) (l m : Int) (w : World) : Calls Tryd.prog 32 #[.agg #[.bool n, .int .i64 l, .int .i64 m]] w fun e w' => e = .returned (.bool (n || decide (l = m))) ∧ Ext w w' := by
  cases n with
  | true =>
    go_enter Tryd.func32, Tryd.ntmps32
    go_wp2_with fail
    go_ret
    exact ⟨rfl, by go_grown⟩
  | false =>
    by_cases h : l = m
    · have q : (l == m) = true := by simpa using h
      rw [decide_eq_true h]
      clear h
      go_enter Tryd.func32, Tryd.ntmps32
      go_wp2_with fail
      go_ret
      exact ⟨rfl, by go_grown⟩
    · have q : (l == m) = false := by simpa using h
      rw [decide_eq_false h]
      clear h
      go_enter Tryd.func32, Tryd.ntmps32
      go_wp2_with fail
      go_ret
      exact ⟨rfl, by go_grown⟩
/-- Lengths, as numbers. -/
theorem wv_parts (v : Wv) {n : Nat} (hle : v.le n) : ∃ (b : Bool) (l : Nat) (m : Int), v.lv = .agg #[.bool b, .int .i64 (l : Int), .int .i64 m] ∧ v.ol.2 = (b || decide ((l : Int) = m)) ∧ v.emp = (!b && decide (l = 0)) ∧ (v.ol.2 = true → v.ol.1 = l) ∧ (b = true → l = 0) ∧ l ≤ n := by
  cases v with
  | none => exact ⟨true, 0, 0, rfl, rfl, rfl, fun _ => rfl, fun _ => rfl, Nat.zero_le _⟩
  | bounded l m =>
    simp only [Wv.le] at hle
    refine ⟨false, l, m, rfl, ?_, ?_, fun _ => rfl, (fun h => by cases h), by omega⟩
    · show (l == m) = (false || decide ((l : Int) = (m : Int)))
      rw [Bool.false_or, Bool.eq_iff_iff, beq_iff_eq, decide_eq_true_iff]
      omega
    · simp only [Wv.emp]; rw [Bool.eq_iff_iff]; simp
  | endless l =>
    simp only [Wv.le] at hle
    refine ⟨false, l, -1, rfl, ?_, ?_, (fun h => by cases h), (fun h => by cases h), by omega⟩
    · show false = (false || decide ((l : Int) = -1))
      rw [Bool.false_or, decide_eq_false (by omega)]
    · simp only [Wv.emp]; rw [Bool.eq_iff_iff]; simp
end Go.Proofs.YtnmdfhnfheekgaaDoor
namespace Go.Proofs.YtnmdfhnfheekgaaDoor
open Go Go.RowKit
abbrev fz : Array Value := #[.int .i64 0, .int .i64 0, .int .i64 0, .int .i64 0, .slice none 0 0]
abbrev ftr (n : Int) : Value := .agg #[.int .i64 10, .int .i64 0, .int .i64 n, .int .i64 0, .slice none 0 0]
theorem own_bs {w : World} {b b' e sz n : Nat} {v : Value} {xs : List Value} (h : w.ownsRow b e sz v n xs) (hb : b' ≤ b) : w.ownsRow b' e sz v n xs := by
  obtain ⟨hl, h | ⟨g, cap, cur, hv, hgb, rest⟩⟩ := h
  · exact ⟨hl, .inl h⟩
  · exact ⟨hl, .inr ⟨g, cap, cur, hv, Nat.le_trans hb hgb, rest⟩⟩
/-- What the document's own answer is. -/
def RCuts (L : List Cr) (w : World) (e : Ending) (w' : World) : Prop :=
  (¬ Mays L ∧ e = .returned (.tuple #[.slice none 0 0, ftv 15])) ∨
  (Mays L ∧ ∃ (i : Nat) (h : i < L.length), cut1 L[i] = none ∧ (∀ j (h : j < L.length), j < i → cut1 L[j] ≠ none) ∧ e = .returned (.tuple #[.slice none 0 0, ftr ((i : Int) + 1)])) ∨
  (Mays L ∧ (∀ j (h : j < L.length), cut1 L[j] ≠ none) ∧ ∃ v, e = .returned (.tuple #[v, ftv 0]) ∧ w'.ownsRow w.heap.size 64 2 v L.length ((cutk L).flatMap ccl))
set_option maxHeartbeats 16000000 in
set_option maxRecDepth 20000 in
theorem rcuts_any (L : List Cr) (a : Option Addr) (c : Nat) (w : World) (hx : Cat w w.heap.size a c L) :
    Calls Tryd.prog 16 #[.slice a L.length c] w fun e w' => RCuts L w e w' ∧ Ext w w' := by
  have hlen := hx.len
  have HX := Lib.hid hx
  have hmx : maxLen ≤ 9223372036854775807 := by decide
  have hl1 : L.length ≤ 9223372036854775807 := by omega
  clear hx hlen hmx
  by_cases h200 : 200 < L.length
  · have g1 : decide ((200 : Int) < (L.length : Int)) = true := by simp; omega
    have HM := Lib.hid (show ¬ Mays L from fun h => by have := h.1; omega)
    have his := ris_any 15
    have hb0 := Blk.new w fz 38
    have hE : Ext w (w.alloc (.cells fz 38)) := by go_grown
    have HB0 := Lib.hid hb0
    have HE := Lib.hid hE
    clear hb0 hE
    go_enter Tryd.func16, Tryd.ntmps16
    go_upto_region 1 with fail
    generalize w.alloc (.cells fz 38) = wa at *
    go_wp2_with fail
    refine (his _).mono ?_
    rintro e w2 ⟨rfl, x2⟩
    have kF := Lib.hid (HB0.out.ext x2)
    have X2 := Lib.hid (bel_call HE.out x2)
    clear x2
    obtain ⟨z0, z1, z2, z3, z4⟩ := kF.out.cells5
    have v0 := kF.out.free 0
    have v1 := kF.out.free 1
    have v2 := kF.out.free 2
    have v3 := kF.out.free 3
    have v4 := kF.out.free 4
    go_wp2_with fail
    have kF5 := ((((kF.out.set 0 (.int .i64 15)).set 1 (.int .i64 0)).set 2 (.int .i64 0)).set 3 (.int .i64 0)).set 4 (.slice none 0 0)
    obtain ⟨q0, q1, q2, q3, q4⟩ := kF5.cells5
    refine bodyPost_ret (v := .tuple #[.slice none 0 0, .agg #[.int .i64 15, .int .i64 0, .int .i64 0, .int .i64 0, .slice none 0 0]]) ?_ rfl ⟨.inl ⟨HM.out, rfl⟩, Below.trans (B := w.heap.size) X2.out (by go_grown)⟩
    simp [results, Tryd.results16, go_sem, q0, q1, q2, q3, q4]
  · have g1 : decide ((200 : Int) < (L.length : Int)) = false := by simp; omega
    have HL := Lib.hid (show L.length ≤ 200 by omega)
    have his := ris_any 15
    have hb0 := Blk.new w fz 38
    have hE : Ext w (w.alloc (.cells fz 38)) := by go_grown
    have HB0 := Lib.hid hb0
    have HE := Lib.hid hE
    have HSZ := Lib.hid (show (w.alloc (.cells fz 38)).heap.size = w.heap.size + 1 by simp)
    clear hb0 hE h200
    go_enter Tryd.func16, Tryd.ntmps16
    go_upto_region 1 with fail
    generalize w.alloc (.cells fz 38) = wa at *
    go_wp2_with fail
    go_loopw [4] (fun i wr => ∃ k : Nat, k ≤ L.length ∧ i = .int .i64 k ∧ Hid (∀ j (h : j < L.length), j < k → (Chk L[j].h ∧ Tmb L[j])) ∧ Hid (Ext wa wr)) (fun i _ => L.length - (intOf i).toNat)
    case atStart => exact ⟨0, Nat.zero_le _, rfl, Lib.hid (fun j _ h => by omega), Lib.hid (Below.refl _ _)⟩
    case round =>
      obtain ⟨k, hk, rfl, hmy, hEr⟩ := hrel
      by_cases hkl : k < L.length
      · have k1 : decide ((k : Int) < (L.length : Int)) = true := by simp; omega
        have i0 : (0 : Int) ≤ (k : Int) := by omega
        have i1 : (k : Int) < (L.length : Int) := by omega
        have i2 : (k : Int) + 1 ≤ 201 := by have := HL.out; omega
        obtain ⟨b, o, rfl, hbb, r, a1, c1, a2, c2, hy, hmem, _, _, hya, hyb, hcc⟩ := (HX.out.ext (bel_call HE.out hEr.out)).cells hkl
        have hrg := Lib.hid hcc.range
        have HMY := Lib.hid (may_any r a1 c1 a2 c2 wr hya hyb)
        have HY := Lib.hid (And.intro hy hmem)
        clear hya hyb hcc hy hmem
        go_upto_region 6 with fail
        iterate 11 go_step
        refine wp_load_mid 48 (.tmp 21) rfl b (o + k * 21) rfl (ccs r a1 c1 a2 c2) _ hrg.out Tryd.underlying48 rfl core_info ?_
        simp only [Act.put, List.setIfInBounds_toArray, List.set_cons_succ, List.set_cons_zero]
        by_cases hq : Chk r.h ∧ Tmb r
        · have hm2 := HMY.out
          rw [decide_eq_true hq] at hm2
          have HMY := Lib.hid hm2
          have HNX := Lib.hid (show ∀ j (h : j < L.length), j < k + 1 → (Chk L[j].h ∧ Tmb L[j]) from fun j h hj => by
            by_cases hjk : j < k
            · exact hmy.out j h hjk
            · obtain rfl : j = k := by omega
              rw [HY.out.1]; exact hq)
          clear hm2 hq
          as_aux_lemma =>
            go_wp2_with fail
            refine HMY.out.mono ?_
            rintro e w2 ⟨rfl, x2⟩
            have X2 := Lib.hid (bel_call hEr.out x2)
            clear x2
            go_wp2_with fail
            go_roundw
            case rel => exact ⟨k + 1, by omega, by go_num, HNX, X2⟩
            case measure => simp [intOf] <;> omega
        · have hm2 := HMY.out
          rw [decide_eq_false hq] at hm2
          have HMY := Lib.hid hm2
          have HM := Lib.hid (show ¬ Mays L from fun h => hq (h.2 r HY.out.2))
          clear hm2 hq
          go_wp2_with fail
          refine HMY.out.mono ?_
          rintro e w1 ⟨rfl, x1⟩
          have X1 := Lib.hid (bel_call (bel_call HE.out hEr.out) x1)
          have HB1 := Lib.hid ((HB0.out.ext hEr.out).ext x1)
          clear x1
          go_wp2_with fail
          refine (his _).mono ?_
          rintro e w2 ⟨rfl, x2⟩
          have kF := Lib.hid (HB1.out.ext x2)
          have X2 := Lib.hid (bel_call X1.out x2)
          clear x2
          obtain ⟨z0, z1, z2, z3, z4⟩ := kF.out.cells5
          have v0 := kF.out.free 0
          have v1 := kF.out.free 1
          have v2 := kF.out.free 2
          have v3 := kF.out.free 3
          have v4 := kF.out.free 4
          go_wp2_with fail
          have kF5 := ((((kF.out.set 0 (.int .i64 15)).set 1 (.int .i64 0)).set 2 (.int .i64 0)).set 3 (.int .i64 0)).set 4 (.slice none 0 0)
          obtain ⟨q0, q1, q2, q3, q4⟩ := kF5.cells5
          refine bodyPost_ret (v := .tuple #[.slice none 0 0, .agg #[.int .i64 15, .int .i64 0, .int .i64 0, .int .i64 0, .slice none 0 0]]) ?_ rfl ⟨.inl ⟨HM.out, rfl⟩, Below.trans (B := w.heap.size) X2.out (by go_grown)⟩
          simp [results, Tryd.results16, go_sem, q0, q1, q2, q3, q4]
      · have k1 : decide ((k : Int) < (L.length : Int)) = false := by simp; omega
        obtain rfl : k = L.length := by omega
        have HM := Lib.hid (show Mays L from ⟨HL.out, fun r hr => by
          obtain ⟨i, hi, rfl⟩ := List.getElem_of_mem hr
          exact hmy.out i hi hi⟩)
        obtain ⟨i0, hi, hz0, hz1, hz2⟩ := info_parts info_cut
        have HE1 := Lib.hid (bel_call HE.out hEr.out)
        have HB1 := Lib.hid (HB0.out.ext hEr.out)
        have HSZ1 := Lib.hid (show w.heap.size + 1 ≤ wr.heap.size by have := hEr.out.size; have := HSZ.out; omega)
        clear hmy
        obtain ⟨wb, rfl⟩ : ∃ wb : World, wb = wr := ⟨_, rfl⟩
        go_wp2_with fail
        go_loopw [5, 6] (fun v i wr => ∃ k : Nat, k ≤ L.length ∧ i = .int .i64 k ∧ Hid (wr.ownsRow (w.heap.size + 1) 64 2 v k ((cutk (L.take k)).flatMap ccl)) ∧ Hid (∀ j (h : j < L.length), j < k → cut1 L[j] ≠ none) ∧ Hid (Blk wr w.heap.size fz 38) ∧ Hid (Ext w wr) ∧ Hid (w.heap.size + 1 ≤ wr.heap.size)) (fun _ i _ => L.length - (intOf i).toNat)
        case atStart => exact ⟨0, Nat.zero_le _, rfl, Lib.hid (own_nil _ _ _ _), Lib.hid (fun j _ h => by omega), HB1, HE1, HSZ1⟩
        case round =>
          obtain ⟨k, hk, rfl, hown, hnn, hBr, hEr2, hszr⟩ := hrel
          obtain ⟨va, vc, rfl⟩ := own_shp hown.out
          clear HE1 HB1 HSZ1 hEr HB0 HE HSZ
          by_cases hkl : k < L.length
          · have k1 : decide ((k : Int) < (L.length : Int)) = true := by simp; omega
            have i0' : (0 : Int) ≤ (k : Int) := by omega
            have i1 : (k : Int) < (L.length : Int) := by omega
            have i2 : (k : Int) + 1 ≤ 201 := by have := HL.out; omega
            obtain ⟨b, o, rfl, hbb, r, a1, c1, a2, c2, hy, hmem, _, _, hya, hyb, hcc⟩ := (HX.out.ext hEr2.out).cells hkl
            have HCC := Lib.hid (fun w' (h : Ext wr w') => (show Crc w' b (o + k * 21) r a1 c1 a2 c2 from fun j hj => by rw [Below.cell h (p := ⟨b, o + k * 21 + j, none⟩) hbb]; exact hcc j hj))
            have HY := Lib.hid (And.intro hy hmem)
            have HXX := Lib.hid (And.intro hya hyb)
            clear hya hyb hcc hy hmem
            cases hht : r.ht with
            | false =>
              have hp : cut1 r = some (0, 0) := by unfold cut1; rw [if_pos hht]
              have HTK := Lib.hid (cutk_take hkl (by rw [HY.out.1]; exact hp))
              have HNN := Lib.hid (show ∀ j (h : j < L.length), j < k + 1 → cut1 L[j] ≠ none from fun j h hj => by
                by_cases hjk : j < k
                · exact hnn.out j h hjk
                · obtain rfl : j = k := by omega
                  rw [HY.out.1, hp]; simp)
              obtain ⟨z0, z1, z2, z3, z4, z5, z6, z7, z8, z9, z10, z11, z12, z13, z14, z15, z16, z17, z18, z19, z20⟩ := Crc.cells21 (HCC.out _ (Below.refl _ _))
              rw [hht] at z10
              clear hp hht
              as_aux_lemma =>
                go_wp2_with (at_builtin; refine wpList_append_own _ rfl (.tmp 38) (.tmp 40) 50 rfl (w.heap.size + 1) 64 i0 (.agg #[.int .i64 0, .int .i64 0]) 2 16 Tryd.underlying50 hi hz0 hz1 hz2 rfl (by decide) _ _ _ rfl (hown.out.alloc _) ⟨_, 0, none⟩ 1 1 (ccl (0, 0)) rfl rfl (cell_nwb _ (ccl (0, 0)) _ _ (by simp)) (by intro u hu; simp [ccl] at hu; rcases hu with rfl | rfl <;> rfl) (by unfold maxLen; omega) (by omega) (by have := hszr.out; simp; omega) ?_; intro vq wq hownq hgrowq hnilq)
                have HEA := Lib.hid (show Ext wr (wr.alloc (.cells (ccl (0, 0)).toArray 64)) from (Below.refl _ _).alloc (Nat.le_refl _) _)
                have XQ := Lib.hid (ext_gr (bel_call hEr2.out HEA.out) hgrowq (hown.out.alloc _) (by omega))
                have BQ := Lib.hid (blk_gr (hBr.out.alloc _) hgrowq (hown.out.alloc _) (by omega))
                have SQ := Lib.hid (show w.heap.size + 1 ≤ wq.heap.size by have := hgrowq.size; have := hszr.out; simp at *; omega)
                have OQ := Lib.hid hownq
                clear hownq hgrowq hnilq
                go_wp2_with fail
                go_roundw
                case rel => exact ⟨k + 1, by omega, by go_num, Lib.hid (by rw [HTK.out]; exact OQ.out), HNN, BQ, XQ, SQ⟩
                case measure => simp [intOf] <;> omega
            | true =>
              have HTR := Lib.hid hht
              have hg1 := chk_good (HM.out.2 r HY.out.2).1
              have hg2 := chk_good (show Chk r.t by have := (HM.out.2 r HY.out.2).2; unfold Tmb at this; rwa [if_pos hht] at this)
              obtain ⟨n1, l1, m1, hv1, ho1, he1, hq1, hz1, hb1⟩ := wv_parts (wo r.h) (wo_le r.h)
              obtain ⟨n2, l2, m2, hv2, ho2, he2, hq2, hz2, hb2⟩ := wv_parts (wo r.t) (wo_le r.t)
              have hof1 := fun w' h => of_any r.h a1 c1 w' hg1.1 (by have := hg1.2; omega) h
              have hof2 := fun w' h => of_any r.t a2 c2 w' hg2.1 (by have := hg2.2; omega) h
              rw [hv1] at hof1
              rw [hv2] at hof2
              have HO1 := Lib.hid hof1
              have HO2 := Lib.hid hof2
              have hl1b : (l1 : Int) ≤ 65536 := by have := hg1.2; omega
              have hl2b : (l2 : Int) ≤ 65536 := by have := hg2.2; omega
              have hC1 : cut1 r = if (!n1 && decide (l1 = 0)) = true then none else if (n2 || decide ((l2 : Int) = m2)) = true then some (1, (wo r.t).ol.1) else if (n1 || decide ((l1 : Int) = m1)) = true then some (2, max (wo r.h).ol.1 1) else none := by
                unfold cut1
                rw [if_neg (by rw [hht]; simp), he1, ho2, ho1]
              have HC1 := Lib.hid hC1
              have HP1 := Lib.hid (And.intro ho1 (And.intro hq1 hz1))
              have HP2 := Lib.hid (And.intro ho2 (And.intro hq2 hz2))
              have HON1 := Lib.hid (fun w' => one_any n1 (l1 : Int) m1 w')
              have HON2 := Lib.hid (fun w' => one_any n2 (l2 : Int) m2 w')
              obtain ⟨z0, z1, z2, z3, z4, z5, z6, z7, z8, z9, z10, z11, z12, z13, z14, z15, z16, z17, z18, z19, z20⟩ := Crc.cells21 (HCC.out _ (Below.refl _ _))
              rw [hht] at z10
              clear hht hg1 hg2 hv1 hv2 ho1 he1 hq1 hz1 hb1 ho2 he2 hq2 hz2 hb2 hof1 hof2 hC1
              go_wp2_with fail
              refine (HO1.out _ HXX.out.1).mono ?_
              rintro e w3 ⟨rfl, x3⟩
              have hE3 : Ext w3 (w3.alloc (.cells #[.bool n1, .int .i64 (l1 : Int), .int .i64 m1] 31)) := by go_grown
              have HB3 := Lib.hid (Blk.new w3 #[.bool n1, .int .i64 (l1 : Int), .int .i64 m1] 31)
              have X3 := Lib.hid (bel_call x3 hE3)
              clear z0 z1 z2 z3 z4 z5 z6 z7 z8 z9 z10 z11 z12 z13 z14 z15 z16 z17 z18 z19 z20 x3 hE3
              obtain ⟨z0, z1, z2, z3, z4, z5, z6, z7, z8, z9, z10, z11, z12, z13, z14, z15, z16, z17, z18, z19, z20⟩ := Crc.cells21 (HCC.out _ X3.out)
              go_wp2_with fail
              generalize w3.alloc (.cells #[.bool n1, .int .i64 (l1 : Int), .int .i64 m1] 31) = w4 at *
              refine (HO2.out _ (HXX.out.2.ext X3.out)).mono ?_
              rintro e w5 ⟨rfl, x5⟩
              have hE5 : Ext w5 (w5.alloc (.cells #[.bool n2, .int .i64 (l2 : Int), .int .i64 m2] 31)) := by go_grown
              have hBn := Blk.new w5 #[.bool n2, .int .i64 (l2 : Int), .int .i64 m2] 31
              have HL1 := Lib.hid (HB3.out.ext (bel_call x5 hE5))
              have X5 := Lib.hid (bel_call X3.out (bel_call x5 hE5))
              clear z0 z1 z2 z3 z4 z5 z6 z7 z8 z9 z10 z11 z12 z13 z14 z15 z16 z17 z18 z19 z20 x5 hE5 HB3 X3 HO1 HO2
              go_upto_region 17 with fail
              generalize w5.alloc (.cells #[.bool n2, .int .i64 (l2 : Int), .int .i64 m2] 31) = w6 at *
              have HL2 := Lib.hid hBn
              have HOW := Lib.hid (own_xt hown.out X5.out)
              have HBR := Lib.hid (hBr.out.ext X5.out)
              have HXW := Lib.hid (bel_call hEr2.out X5.out)
              have HSW := Lib.hid (show w.heap.size + 1 ≤ w6.heap.size by have := X5.out.size; have := hszr.out; omega)
              clear hBn hown hBr hszr HCC HXX
              cases n1 with
              | true =>
                have hl0 : l1 = 0 := HP1.out.2.2 rfl
                by_cases h2 : (n2 || decide ((l2 : Int) = m2)) = true
                · have ho2 := HON2.out
                  rw [h2] at ho2
                  have HON2 := Lib.hid ho2
                  have hcp : cut1 r = some (1, l2) := by rw [HC1.out, if_neg (by simp), if_pos h2, HP2.out.2.1 (HP2.out.1.trans h2)]
                  have HTK := Lib.hid (cutk_take hkl (by rw [HY.out.1]; exact hcp))
                  have HNN := Lib.hid (show ∀ j (h : j < L.length), j < k + 1 → cut1 L[j] ≠ none from fun j h hj => by
                    by_cases hjk : j < k
                    · exact hnn.out j h hjk
                    · obtain rfl : j = k := by omega
                      rw [HY.out.1, hcp]; simp)
                  clear hcp
                  clear h2 ho2 hl0
                  as_aux_lemma =>
                    obtain ⟨p0, p1, p2⟩ := HL1.out.cells3
                    obtain ⟨r0, r1, r2⟩ := HL2.out.cells3
                    go_wp2_with fail
                    refine (HON1.out _).mono ?_
                    rintro e w7 ⟨rfl, x7⟩
                    replace HL1 := Lib.hid (HL1.out.ext x7)
                    replace HL2 := Lib.hid (HL2.out.ext x7)
                    replace HOW := Lib.hid (own_xt HOW.out x7)
                    replace HBR := Lib.hid (HBR.out.ext x7)
                    replace HXW := Lib.hid (bel_call HXW.out x7)
                    replace HSW := Lib.hid (Nat.le_trans HSW.out x7.size)
                    clear p0 p1 p2 r0 r1 r2 x7
                    obtain ⟨p0, p1, p2⟩ := HL1.out.cells3
                    obtain ⟨r0, r1, r2⟩ := HL2.out.cells3
                    go_wp2_with fail
                    refine (HON2.out _).mono ?_
                    rintro e w7 ⟨rfl, x7⟩
                    replace HL1 := Lib.hid (HL1.out.ext x7)
                    replace HL2 := Lib.hid (HL2.out.ext x7)
                    replace HOW := Lib.hid (own_xt HOW.out x7)
                    replace HBR := Lib.hid (HBR.out.ext x7)
                    replace HXW := Lib.hid (bel_call HXW.out x7)
                    replace HSW := Lib.hid (Nat.le_trans HSW.out x7.size)
                    clear p0 p1 p2 r0 r1 r2 x7
                    obtain ⟨p0, p1, p2⟩ := HL1.out.cells3
                    obtain ⟨r0, r1, r2⟩ := HL2.out.cells3
                    go_wp2_with (at_builtin; refine wpList_append_own _ rfl (.tmp 85) (.tmp 89) 50 rfl (w.heap.size + 1) 64 i0 (.agg #[.int .i64 0, .int .i64 0]) 2 16 Tryd.underlying50 hi hz0 hz1 hz2 rfl (by decide) _ _ _ rfl (HOW.out.alloc _) ⟨_, 0, none⟩ 1 1 (ccl (1, l2)) rfl rfl (cell_nwb _ (ccl (1, l2)) _ _ (by simp)) (by intro u hu; simp [ccl] at hu; rcases hu with rfl | rfl <;> rfl) (by unfold maxLen; omega) (by omega) (by have := HSW.out; simp; omega) ?_; intro vq wq hownq hgrowq hnilq)
                    have HEA := Lib.hid (show Ext w7 (w7.alloc (.cells (ccl (1, l2)).toArray 64)) from (Below.refl _ _).alloc (Nat.le_refl _) _)
                    have XQ := Lib.hid (ext_gr (bel_call HXW.out HEA.out) hgrowq (HOW.out.alloc _) (by omega))
                    have BQ := Lib.hid (blk_gr (HBR.out.alloc _) hgrowq (HOW.out.alloc _) (by omega))
                    have SQ := Lib.hid (show w.heap.size + 1 ≤ wq.heap.size by have := hgrowq.size; have := HSW.out; simp at *; omega)
                    have OQ := Lib.hid hownq
                    clear hownq hgrowq hnilq
                    go_wp2_with fail
                    go_roundw
                    case rel => exact ⟨k + 1, by omega, by go_num, Lib.hid (by rw [HTK.out]; exact OQ.out), HNN, BQ, XQ, SQ⟩
                    case measure => simp [intOf] <;> omega
                · have ho2 := HON2.out
                  rw [Bool.eq_false_iff.2 h2] at ho2
                  have HON2 := Lib.hid ho2
                  have hcp : cut1 r = some (2, 1) := by rw [HC1.out, if_neg (by simp), if_neg h2, if_pos (by simp), HP1.out.2.1 (HP1.out.1.trans (by simp)), hl0]; rfl
                  have HTK := Lib.hid (cutk_take hkl (by rw [HY.out.1]; exact hcp))
                  have HNN := Lib.hid (show ∀ j (h : j < L.length), j < k + 1 → cut1 L[j] ≠ none from fun j h hj => by
                    by_cases hjk : j < k
                    · exact hnn.out j h hjk
                    · obtain rfl : j = k := by omega
                      rw [HY.out.1, hcp]; simp)
                  clear hcp
                  clear h2 ho2 hl0
                  as_aux_lemma =>
                    obtain ⟨p0, p1, p2⟩ := HL1.out.cells3
                    obtain ⟨r0, r1, r2⟩ := HL2.out.cells3
                    go_wp2_with fail
                    refine (HON1.out _).mono ?_
                    rintro e w7 ⟨rfl, x7⟩
                    replace HL1 := Lib.hid (HL1.out.ext x7)
                    replace HL2 := Lib.hid (HL2.out.ext x7)
                    replace HOW := Lib.hid (own_xt HOW.out x7)
                    replace HBR := Lib.hid (HBR.out.ext x7)
                    replace HXW := Lib.hid (bel_call HXW.out x7)
                    replace HSW := Lib.hid (Nat.le_trans HSW.out x7.size)
                    clear p0 p1 p2 r0 r1 r2 x7
                    obtain ⟨p0, p1, p2⟩ := HL1.out.cells3
                    obtain ⟨r0, r1, r2⟩ := HL2.out.cells3
                    go_wp2_with fail
                    refine (HON2.out _).mono ?_
                    rintro e w7 ⟨rfl, x7⟩
                    replace HL1 := Lib.hid (HL1.out.ext x7)
                    replace HL2 := Lib.hid (HL2.out.ext x7)
                    replace HOW := Lib.hid (own_xt HOW.out x7)
                    replace HBR := Lib.hid (HBR.out.ext x7)
                    replace HXW := Lib.hid (bel_call HXW.out x7)
                    replace HSW := Lib.hid (Nat.le_trans HSW.out x7.size)
                    clear p0 p1 p2 r0 r1 r2 x7
                    obtain ⟨p0, p1, p2⟩ := HL1.out.cells3
                    obtain ⟨r0, r1, r2⟩ := HL2.out.cells3
                    go_wp2_with (at_builtin; refine wpList_append_own _ rfl (.tmp 94) (.tmp 96) 50 rfl (w.heap.size + 1) 64 i0 (.agg #[.int .i64 0, .int .i64 0]) 2 16 Tryd.underlying50 hi hz0 hz1 hz2 rfl (by decide) _ _ _ rfl (HOW.out.alloc _) ⟨_, 0, none⟩ 1 1 (ccl (2, 1)) rfl rfl (cell_nwb _ (ccl (2, 1)) _ _ (by simp)) (by intro u hu; simp [ccl] at hu; rcases hu with rfl | rfl <;> rfl) (by unfold maxLen; omega) (by omega) (by have := HSW.out; simp; omega) ?_; intro vq wq hownq hgrowq hnilq)
                    have HEA := Lib.hid (show Ext w7 (w7.alloc (.cells (ccl (2, 1)).toArray 64)) from (Below.refl _ _).alloc (Nat.le_refl _) _)
                    have XQ := Lib.hid (ext_gr (bel_call HXW.out HEA.out) hgrowq (HOW.out.alloc _) (by omega))
                    have BQ := Lib.hid (blk_gr (HBR.out.alloc _) hgrowq (HOW.out.alloc _) (by omega))
                    have SQ := Lib.hid (show w.heap.size + 1 ≤ wq.heap.size by have := hgrowq.size; have := HSW.out; simp at *; omega)
                    have OQ := Lib.hid hownq
                    clear hownq hgrowq hnilq
                    go_wp2_with fail
                    go_roundw
                    case rel => exact ⟨k + 1, by omega, by go_num, Lib.hid (by rw [HTK.out]; exact OQ.out), HNN, BQ, XQ, SQ⟩
                    case measure => simp [intOf] <;> omega
              | false =>
                by_cases hl0 : l1 = 0
                · have q0 : ((l1 : Int) == 0) = true := by simp [hl0]
                  have HCN := Lib.hid (show cut1 r = none by rw [HC1.out, if_pos (by simp [hl0])])
                  clear hl0
                  obtain ⟨p0, p1, p2⟩ := HL1.out.cells3
                  obtain ⟨r0, r1, r2⟩ := HL2.out.cells3
                  have kF := HBR
                  have X2 := HXW
                  obtain ⟨z0, z1, z2, z3, z4⟩ := kF.out.cells5
                  have v0 := kF.out.free 0
                  have v1 := kF.out.free 1
                  have v2 := kF.out.free 2
                  have v3 := kF.out.free 3
                  have v4 := kF.out.free 4
                  go_wp2_with fail
                  have kF5 := ((((kF.out.set 0 (.int .i64 10)).set 1 (.int .i64 0)).set 2 (.int .i64 ((k : Int) + 1))).set 3 (.int .i64 0)).set 4 (.slice none 0 0)
                  obtain ⟨q0, q1, q2, q3, q4⟩ := kF5.cells5
                  refine bodyPost_ret (v := .tuple #[.slice none 0 0, .agg #[.int .i64 10, .int .i64 0, .int .i64 ((k : Int) + 1), .int .i64 0, .slice none 0 0]]) ?_ rfl ⟨.inr (.inl ⟨HM.out, k, hkl, by rw [HY.out.1]; exact HCN.out, hnn.out, rfl⟩), Below.trans (B := w.heap.size) X2.out (by go_grown)⟩
                  simp [results, Tryd.results16, go_sem, q0, q1, q2, q3, q4]
                · have q0 : ((l1 : Int) == 0) = false := by simp; omega
                  by_cases h1 : (l1 : Int) = m1
                  · have e1 : (false || decide ((l1 : Int) = m1)) = true := by simp [h1]
                    have ho1 := HON1.out
                    rw [e1] at ho1
                    have HON1 := Lib.hid ho1
                    by_cases h2 : (n2 || decide ((l2 : Int) = m2)) = true
                    · have ho2 := HON2.out
                      rw [h2] at ho2
                      have HON2 := Lib.hid ho2
                      have hcp : cut1 r = some (1, l2) := by rw [HC1.out, if_neg (by simp; omega), if_pos h2, HP2.out.2.1 (HP2.out.1.trans h2)]
                      have HTK := Lib.hid (cutk_take hkl (by rw [HY.out.1]; exact hcp))
                      have HNN := Lib.hid (show ∀ j (h : j < L.length), j < k + 1 → cut1 L[j] ≠ none from fun j h hj => by
                        by_cases hjk : j < k
                        · exact hnn.out j h hjk
                        · obtain rfl : j = k := by omega
                          rw [HY.out.1, hcp]; simp)
                      clear hcp
                      clear h1 h2 ho2 ho1 hl0 e1
                      as_aux_lemma =>
                        obtain ⟨p0, p1, p2⟩ := HL1.out.cells3
                        obtain ⟨r0, r1, r2⟩ := HL2.out.cells3
                        go_wp2_with fail
                        refine (HON1.out _).mono ?_
                        rintro e w7 ⟨rfl, x7⟩
                        replace HL1 := Lib.hid (HL1.out.ext x7)
                        replace HL2 := Lib.hid (HL2.out.ext x7)
                        replace HOW := Lib.hid (own_xt HOW.out x7)
                        replace HBR := Lib.hid (HBR.out.ext x7)
                        replace HXW := Lib.hid (bel_call HXW.out x7)
                        replace HSW := Lib.hid (Nat.le_trans HSW.out x7.size)
                        clear p0 p1 p2 r0 r1 r2 x7
                        obtain ⟨p0, p1, p2⟩ := HL1.out.cells3
                        obtain ⟨r0, r1, r2⟩ := HL2.out.cells3
                        go_wp2_with fail
                        refine (HON2.out _).mono ?_
                        rintro e w7 ⟨rfl, x7⟩
                        replace HL1 := Lib.hid (HL1.out.ext x7)
                        replace HL2 := Lib.hid (HL2.out.ext x7)
                        replace HOW := Lib.hid (own_xt HOW.out x7)
                        replace HBR := Lib.hid (HBR.out.ext x7)
                        replace HXW := Lib.hid (bel_call HXW.out x7)
                        replace HSW := Lib.hid (Nat.le_trans HSW.out x7.size)
                        clear p0 p1 p2 r0 r1 r2 x7
                        obtain ⟨p0, p1, p2⟩ := HL1.out.cells3
                        obtain ⟨r0, r1, r2⟩ := HL2.out.cells3
                        go_wp2_with (at_builtin; refine wpList_append_own _ rfl (.tmp 85) (.tmp 89) 50 rfl (w.heap.size + 1) 64 i0 (.agg #[.int .i64 0, .int .i64 0]) 2 16 Tryd.underlying50 hi hz0 hz1 hz2 rfl (by decide) _ _ _ rfl (HOW.out.alloc _) ⟨_, 0, none⟩ 1 1 (ccl (1, l2)) rfl rfl (cell_nwb _ (ccl (1, l2)) _ _ (by simp)) (by intro u hu; simp [ccl] at hu; rcases hu with rfl | rfl <;> rfl) (by unfold maxLen; omega) (by omega) (by have := HSW.out; simp; omega) ?_; intro vq wq hownq hgrowq hnilq)
                        have HEA := Lib.hid (show Ext w7 (w7.alloc (.cells (ccl (1, l2)).toArray 64)) from (Below.refl _ _).alloc (Nat.le_refl _) _)
                        have XQ := Lib.hid (ext_gr (bel_call HXW.out HEA.out) hgrowq (HOW.out.alloc _) (by omega))
                        have BQ := Lib.hid (blk_gr (HBR.out.alloc _) hgrowq (HOW.out.alloc _) (by omega))
                        have SQ := Lib.hid (show w.heap.size + 1 ≤ wq.heap.size by have := hgrowq.size; have := HSW.out; simp at *; omega)
                        have OQ := Lib.hid hownq
                        clear hownq hgrowq hnilq
                        go_wp2_with fail
                        go_roundw
                        case rel => exact ⟨k + 1, by omega, by go_num, Lib.hid (by rw [HTK.out]; exact OQ.out), HNN, BQ, XQ, SQ⟩
                        case measure => simp [intOf] <;> omega
                    · have ho2 := HON2.out
                      rw [Bool.eq_false_iff.2 h2] at ho2
                      have HON2 := Lib.hid ho2
                      have hcp : cut1 r = some (2, l1) := by rw [HC1.out, if_neg (by simp; omega), if_neg h2, if_pos e1, HP1.out.2.1 (HP1.out.1.trans e1), Nat.max_eq_left (by omega)]
                      have HTK := Lib.hid (cutk_take hkl (by rw [HY.out.1]; exact hcp))
                      have HNN := Lib.hid (show ∀ j (h : j < L.length), j < k + 1 → cut1 L[j] ≠ none from fun j h hj => by
                        by_cases hjk : j < k
                        · exact hnn.out j h hjk
                        · obtain rfl : j = k := by omega
                          rw [HY.out.1, hcp]; simp)
                      clear hcp
                      clear h1 h2 ho2 ho1 hl0 e1
                      as_aux_lemma =>
                        obtain ⟨p0, p1, p2⟩ := HL1.out.cells3
                        obtain ⟨r0, r1, r2⟩ := HL2.out.cells3
                        go_wp2_with fail
                        refine (HON1.out _).mono ?_
                        rintro e w7 ⟨rfl, x7⟩
                        replace HL1 := Lib.hid (HL1.out.ext x7)
                        replace HL2 := Lib.hid (HL2.out.ext x7)
                        replace HOW := Lib.hid (own_xt HOW.out x7)
                        replace HBR := Lib.hid (HBR.out.ext x7)
                        replace HXW := Lib.hid (bel_call HXW.out x7)
                        replace HSW := Lib.hid (Nat.le_trans HSW.out x7.size)
                        clear p0 p1 p2 r0 r1 r2 x7
                        obtain ⟨p0, p1, p2⟩ := HL1.out.cells3
                        obtain ⟨r0, r1, r2⟩ := HL2.out.cells3
                        go_wp2_with fail
                        refine (HON2.out _).mono ?_
                        rintro e w7 ⟨rfl, x7⟩
                        replace HL1 := Lib.hid (HL1.out.ext x7)
                        replace HL2 := Lib.hid (HL2.out.ext x7)
                        replace HOW := Lib.hid (own_xt HOW.out x7)
                        replace HBR := Lib.hid (HBR.out.ext x7)
                        replace HXW := Lib.hid (bel_call HXW.out x7)
                        replace HSW := Lib.hid (Nat.le_trans HSW.out x7.size)
                        clear p0 p1 p2 r0 r1 r2 x7
                        obtain ⟨p0, p1, p2⟩ := HL1.out.cells3
                        obtain ⟨r0, r1, r2⟩ := HL2.out.cells3
                        go_wp2_with (at_builtin; refine wpList_append_own _ rfl (.tmp 54) (.tmp 58) 50 rfl (w.heap.size + 1) 64 i0 (.agg #[.int .i64 0, .int .i64 0]) 2 16 Tryd.underlying50 hi hz0 hz1 hz2 rfl (by decide) _ _ _ rfl (HOW.out.alloc _) ⟨_, 0, none⟩ 1 1 (ccl (2, l1)) rfl rfl (cell_nwb _ (ccl (2, l1)) _ _ (by simp)) (by intro u hu; simp [ccl] at hu; rcases hu with rfl | rfl <;> rfl) (by unfold maxLen; omega) (by omega) (by have := HSW.out; simp; omega) ?_; intro vq wq hownq hgrowq hnilq)
                        have HEA := Lib.hid (show Ext w7 (w7.alloc (.cells (ccl (2, l1)).toArray 64)) from (Below.refl _ _).alloc (Nat.le_refl _) _)
                        have XQ := Lib.hid (ext_gr (bel_call HXW.out HEA.out) hgrowq (HOW.out.alloc _) (by omega))
                        have BQ := Lib.hid (blk_gr (HBR.out.alloc _) hgrowq (HOW.out.alloc _) (by omega))
                        have SQ := Lib.hid (show w.heap.size + 1 ≤ wq.heap.size by have := hgrowq.size; have := HSW.out; simp at *; omega)
                        have OQ := Lib.hid hownq
                        clear hownq hgrowq hnilq
                        go_wp2_with fail
                        go_roundw
                        case rel => exact ⟨k + 1, by omega, by go_num, Lib.hid (by rw [HTK.out]; exact OQ.out), HNN, BQ, XQ, SQ⟩
                        case measure => simp [intOf] <;> omega
                  · have e1 : (false || decide ((l1 : Int) = m1)) = false := by simp [h1]
                    have ho1 := HON1.out
                    rw [e1] at ho1
                    have HON1 := Lib.hid ho1
                    by_cases h2 : (n2 || decide ((l2 : Int) = m2)) = true
                    · have ho2 := HON2.out
                      rw [h2] at ho2
                      have HON2 := Lib.hid ho2
                      have hcp : cut1 r = some (1, l2) := by rw [HC1.out, if_neg (by simp; omega), if_pos h2, HP2.out.2.1 (HP2.out.1.trans h2)]
                      have HTK := Lib.hid (cutk_take hkl (by rw [HY.out.1]; exact hcp))
                      have HNN := Lib.hid (show ∀ j (h : j < L.length), j < k + 1 → cut1 L[j] ≠ none from fun j h hj => by
                        by_cases hjk : j < k
                        · exact hnn.out j h hjk
                        · obtain rfl : j = k := by omega
                          rw [HY.out.1, hcp]; simp)
                      clear hcp
                      clear h1 h2 ho2 ho1 hl0 e1
                      as_aux_lemma =>
                        obtain ⟨p0, p1, p2⟩ := HL1.out.cells3
                        obtain ⟨r0, r1, r2⟩ := HL2.out.cells3
                        go_wp2_with fail
                        refine (HON1.out _).mono ?_
                        rintro e w7 ⟨rfl, x7⟩
                        replace HL1 := Lib.hid (HL1.out.ext x7)
                        replace HL2 := Lib.hid (HL2.out.ext x7)
                        replace HOW := Lib.hid (own_xt HOW.out x7)
                        replace HBR := Lib.hid (HBR.out.ext x7)
                        replace HXW := Lib.hid (bel_call HXW.out x7)
                        replace HSW := Lib.hid (Nat.le_trans HSW.out x7.size)
                        clear p0 p1 p2 r0 r1 r2 x7
                        obtain ⟨p0, p1, p2⟩ := HL1.out.cells3
                        obtain ⟨r0, r1, r2⟩ := HL2.out.cells3
                        go_wp2_with fail
                        refine (HON2.out _).mono ?_
                        rintro e w7 ⟨rfl, x7⟩
                        replace HL1 := Lib.hid (HL1.out.ext x7)
                        replace HL2 := Lib.hid (HL2.out.ext x7)
                        replace HOW := Lib.hid (own_xt HOW.out x7)
                        replace HBR := Lib.hid (HBR.out.ext x7)
                        replace HXW := Lib.hid (bel_call HXW.out x7)
                        replace HSW := Lib.hid (Nat.le_trans HSW.out x7.size)
                        clear p0 p1 p2 r0 r1 r2 x7
                        obtain ⟨p0, p1, p2⟩ := HL1.out.cells3
                        obtain ⟨r0, r1, r2⟩ := HL2.out.cells3
                        go_wp2_with fail
                        refine (HON2.out _).mono ?_
                        rintro e w7 ⟨rfl, x7⟩
                        replace HL1 := Lib.hid (HL1.out.ext x7)
                        replace HL2 := Lib.hid (HL2.out.ext x7)
                        replace HOW := Lib.hid (own_xt HOW.out x7)
                        replace HBR := Lib.hid (HBR.out.ext x7)
                        replace HXW := Lib.hid (bel_call HXW.out x7)
                        replace HSW := Lib.hid (Nat.le_trans HSW.out x7.size)
                        clear p0 p1 p2 r0 r1 r2 x7
                        obtain ⟨p0, p1, p2⟩ := HL1.out.cells3
                        obtain ⟨r0, r1, r2⟩ := HL2.out.cells3
                        go_wp2_with (at_builtin; refine wpList_append_own _ rfl (.tmp 85) (.tmp 89) 50 rfl (w.heap.size + 1) 64 i0 (.agg #[.int .i64 0, .int .i64 0]) 2 16 Tryd.underlying50 hi hz0 hz1 hz2 rfl (by decide) _ _ _ rfl (HOW.out.alloc _) ⟨_, 0, none⟩ 1 1 (ccl (1, l2)) rfl rfl (cell_nwb _ (ccl (1, l2)) _ _ (by simp)) (by intro u hu; simp [ccl] at hu; rcases hu with rfl | rfl <;> rfl) (by unfold maxLen; omega) (by omega) (by have := HSW.out; simp; omega) ?_; intro vq wq hownq hgrowq hnilq)
                        have HEA := Lib.hid (show Ext w7 (w7.alloc (.cells (ccl (1, l2)).toArray 64)) from (Below.refl _ _).alloc (Nat.le_refl _) _)
                        have XQ := Lib.hid (ext_gr (bel_call HXW.out HEA.out) hgrowq (HOW.out.alloc _) (by omega))
                        have BQ := Lib.hid (blk_gr (HBR.out.alloc _) hgrowq (HOW.out.alloc _) (by omega))
                        have SQ := Lib.hid (show w.heap.size + 1 ≤ wq.heap.size by have := hgrowq.size; have := HSW.out; simp at *; omega)
                        have OQ := Lib.hid hownq
                        clear hownq hgrowq hnilq
                        go_wp2_with fail
                        go_roundw
                        case rel => exact ⟨k + 1, by omega, by go_num, Lib.hid (by rw [HTK.out]; exact OQ.out), HNN, BQ, XQ, SQ⟩
                        case measure => simp [intOf] <;> omega
                    · have ho2 := HON2.out
                      rw [Bool.eq_false_iff.2 h2] at ho2
                      have HON2 := Lib.hid ho2
                      have HCN := Lib.hid (show cut1 r = none by rw [HC1.out, if_neg (by simp; omega), if_neg h2, if_neg (by rw [e1]; simp)])
                      clear h1 h2 ho2 ho1 hl0 e1
                      obtain ⟨p0, p1, p2⟩ := HL1.out.cells3
                      obtain ⟨r0, r1, r2⟩ := HL2.out.cells3
                      go_wp2_with fail
                      refine (HON1.out _).mono ?_
                      rintro e w7 ⟨rfl, x7⟩
                      replace HL1 := Lib.hid (HL1.out.ext x7)
                      replace HL2 := Lib.hid (HL2.out.ext x7)
                      replace HOW := Lib.hid (own_xt HOW.out x7)
                      replace HBR := Lib.hid (HBR.out.ext x7)
                      replace HXW := Lib.hid (bel_call HXW.out x7)
                      replace HSW := Lib.hid (Nat.le_trans HSW.out x7.size)
                      clear p0 p1 p2 r0 r1 r2 x7
                      obtain ⟨p0, p1, p2⟩ := HL1.out.cells3
                      obtain ⟨r0, r1, r2⟩ := HL2.out.cells3
                      go_wp2_with fail
                      refine (HON2.out _).mono ?_
                      rintro e w7 ⟨rfl, x7⟩
                      replace HL1 := Lib.hid (HL1.out.ext x7)
                      replace HL2 := Lib.hid (HL2.out.ext x7)
                      replace HOW := Lib.hid (own_xt HOW.out x7)
                      replace HBR := Lib.hid (HBR.out.ext x7)
                      replace HXW := Lib.hid (bel_call HXW.out x7)
                      replace HSW := Lib.hid (Nat.le_trans HSW.out x7.size)
                      clear p0 p1 p2 r0 r1 r2 x7
                      obtain ⟨p0, p1, p2⟩ := HL1.out.cells3
                      obtain ⟨r0, r1, r2⟩ := HL2.out.cells3
                      have kF := HBR
                      have X2 := HXW
                      obtain ⟨z0, z1, z2, z3, z4⟩ := kF.out.cells5
                      have v0 := kF.out.free 0
                      have v1 := kF.out.free 1
                      have v2 := kF.out.free 2
                      have v3 := kF.out.free 3
                      have v4 := kF.out.free 4
                      go_wp2_with fail
                      have kF5 := ((((kF.out.set 0 (.int .i64 10)).set 1 (.int .i64 0)).set 2 (.int .i64 ((k : Int) + 1))).set 3 (.int .i64 0)).set 4 (.slice none 0 0)
                      obtain ⟨q0, q1, q2, q3, q4⟩ := kF5.cells5
                      refine bodyPost_ret (v := .tuple #[.slice none 0 0, .agg #[.int .i64 10, .int .i64 0, .int .i64 ((k : Int) + 1), .int .i64 0, .slice none 0 0]]) ?_ rfl ⟨.inr (.inl ⟨HM.out, k, hkl, by rw [HY.out.1]; exact HCN.out, hnn.out, rfl⟩), Below.trans (B := w.heap.size) X2.out (by go_grown)⟩
                      simp [results, Tryd.results16, go_sem, q0, q1, q2, q3, q4]
          · have k1 : decide ((k : Int) < (L.length : Int)) = false := by simp; omega
            obtain rfl : k = L.length := by omega
            rw [List.take_length] at hown
            have kF := hBr
            have X2 := hEr2
            obtain ⟨z0, z1, z2, z3, z4⟩ := kF.out.cells5
            have v0 := kF.out.free 0
            have v1 := kF.out.free 1
            have v2 := kF.out.free 2
            have v3 := kF.out.free 3
            have v4 := kF.out.free 4
            go_wp2_with fail
            have kF5 := ((((kF.out.set 0 (.int .i64 0)).set 1 (.int .i64 0)).set 2 (.int .i64 0)).set 3 (.int .i64 0)).set 4 (.slice none 0 0)
            obtain ⟨q0, q1, q2, q3, q4⟩ := kF5.cells5
            refine bodyPost_ret (v := .tuple #[.slice va L.length vc, .agg #[.int .i64 0, .int .i64 0, .int .i64 0, .int .i64 0, .slice none 0 0]]) ?_ rfl ⟨.inr (.inr ⟨HM.out, fun j h => hnn.out j h h, _, rfl, own_bs (own_setx (own_setx (own_setx (own_setx (own_setx hown.out (by omega)) (by omega)) (by omega)) (by omega)) (by omega)) (by omega)⟩), Below.trans (B := w.heap.size) X2.out (by go_grown)⟩
            simp [results, Tryd.results16, go_sem, q0, q1, q2, q3, q4]
end Go.Proofs.YtnmdfhnfheekgaaDoor
namespace Go.Proofs.YtnmdfhnfheekgaaDoor
open Go Go.RowKit
/-- What both tell, held against each other. -/
theorem held8 {M : List Cr} {ea : Nat → Addr} {w3 w4 w5 : World} {e e' : Ending} (h1 : CutsRes M (ea 13) (ea 8) w3 e w4) (h2 : RCuts M w4 e' w5) (x : Ext w4 w5) (hS : Sent w5 ea) (hG : ErrT w5) :
    ∃ xs v ys C R, e = .returned (.tuple #[xs, v]) ∧ e' = .returned (.tuple #[ys, .agg #[.int .i64 C, .int .i64 0, .int .i64 R, .int .i64 0, .slice none 0 0]]) ∧
      (∀ w', Ext w5 w' → Calls Tryd.prog 17 #[xs, ys] w' fun e w2 => e = .returned (.bool true) ∧ Ext w' w2) ∧
      (∀ w', Ext w5 w' → Calls Tryd.prog 11 #[v, .agg #[.int .i64 C, .int .i64 0, .int .i64 R, .int .i64 0, .slice none 0 0]] w' fun e w2 => e = .returned (.bool true) ∧ Ext w' w2) := by
  rcases h1 with ⟨hn, rfl⟩ | ⟨hm, i, hi, hi1, hi2, v, rfl, hv⟩ | ⟨hm, hall, xs, rfl, hown⟩
  · rcases h2 with ⟨_, rfl⟩ | ⟨hm, _⟩ | ⟨hm, _⟩
    · refine ⟨_, _, _, 15, 0, rfl, rfl, fun w' _ => eqcuts_same [] none none 0 0 w' (.inl rfl) (.inl rfl) (by simp), fun w' hx => ?_⟩
      exact same_err8 ea [] (errAt (ea 13)) _ (ea 13) 15 0 0 0 [] w' (hS.ext hx) (hG.ext hx) (ErrOf.base ((hS.ext hx).row 13 (by omega))) (code_at (hS.ext hx) 16 0 13 rfl (by omega) (by omega)) rfl rfl rfl rfl (by decide) ⟨_, rfl, Texts.nil w'⟩
    · exact absurd hm hn
    · exact absurd hm hn
  · rcases h2 with ⟨hn, _⟩ | ⟨_, j, hj, hj1, hj2, rfl⟩ | ⟨_, hall, _⟩
    · exact absurd hm hn
    · obtain rfl : i = j := by
        rcases Nat.lt_trichotomy i j with h | h | h
        · exact absurd hi1 (hj2 i hi h)
        · exact h
        · exact absurd hj1 (hi2 j hj h)
      refine ⟨_, v, _, 10, (i : Int) + 1, rfl, rfl, fun w' _ => eqcuts_same [] none none 0 0 w' (.inl rfl) (.inl rfl) (by simp), fun w' hx => ?_⟩
      exact same_err8 ea [.rule ((i : Int) + 1)] v _ (ea 8) 10 0 ((i : Int) + 1) 0 [] w' (hS.ext hx) (hG.ext hx) (hv.ext (bel_call x hx)) (code_at (hS.ext hx) 16 0 8 rfl (by omega) (by omega)) rfl rfl rfl rfl (by decide) ⟨_, rfl, Texts.nil w'⟩
    · exact absurd hi1 (hall i hi)
  · rcases h2 with ⟨hn, _⟩ | ⟨_, j, hj, hj1, _⟩ | ⟨_, _, ys, rfl, hown2⟩
    · exact absurd hm hn
    · exact absurd hj1 (hall j hj)
    · have hk : (cutk M).length = M.length := by simp [cutk]
      obtain ⟨a1, c1, rfl, hc1⟩ := cul_own hown hk
      obtain ⟨a2, c2, rfl, hc2⟩ := cul_own hown2 hk
      refine ⟨_, _, _, 0, 0, rfl, rfl, fun w' hx => ?_, fun w' hx => same_nil8 _ 0 0 0 [] w' ⟨_, rfl, Texts.nil w'⟩⟩
      have := eqcuts_same (cutk M) a1 a2 c1 c2 w' (hc1.ext (bel_call x hx)) (hc2.ext hx) (by rw [hk]; have := hm.1; omega)
      rw [hk] at this
      exact this
theorem res_shape {M : List Cr} {aA aT : Addr} {w w' : World} {e : Ending} (h : CutsRes M aA aT w e w') : ∃ xs v, e = .returned (.tuple #[xs, v]) := by
  rcases h with ⟨_, rfl⟩ | ⟨_, _, _, _, _, v, rfl, _⟩ | ⟨_, _, v, rfl, _⟩
  · exact ⟨_, _, rfl⟩
  · exact ⟨_, _, rfl⟩
  · exact ⟨_, _, rfl⟩
theorem tup2_inj {a b c d : Value} (h : Ending.returned (.tuple #[a, b]) = .returned (.tuple #[c, d])) : c = a ∧ d = b := by
  simp at h
  exact ⟨h.1.symm, h.2.symm⟩
set_option maxHeartbeats 8000000 in
set_option maxRecDepth 20000 in
theorem cuts8_all (L : List (List Cr)) (a : Option Addr) (c : Nat) (ea : Nat → Addr) (w : World) (hx : Cll w w.heap.size a L) (hlen : L.length ≤ maxLen) (hS : Sent w ea) (hG : ErrT w) (hA : Ag w (ea 13) (ea 8)) :
    Calls Tryd.prog 4 #[.slice a L.length c] w fun e w' => e = .returned (.bool true) ∧ Ext w w' := by
  have HX := Lib.hid hx
  have HA := Lib.hid hA
  have HSG := Lib.hid (And.intro hS hG)
  have hmx : maxLen ≤ 9223372036854775807 := by decide
  have hl1 : L.length ≤ 9223372036854775807 := by omega
  have HWK := Lib.hid (fun w h => wakes8_any (ea 13) (ea 8) w h)
  clear hx hS hG hA hlen hmx
  go_enter Tryd.func4, Tryd.ntmps4
  go_wp2_with fail
  go_loopw [3] (fun i wr => ∃ k : Nat, k ≤ L.length ∧ k ≤ 20 ∧ i = .int .i64 k ∧ Hid (Ext w wr)) (fun i _ => L.length - (intOf i).toNat)
  case atStart => exact ⟨0, Nat.zero_le _, by omega, rfl, Lib.hid (Below.refl _ _)⟩
  case round =>
    obtain ⟨k, hk, hk20, rfl, hEr⟩ := hrel
    by_cases hkl : k < L.length
    · have k1 : decide ((k : Int) < (L.length : Int)) = true := by simp; omega
      by_cases hk2 : k < 20
      · have k2 : decide ((k : Int) < (20 : Int)) = true := by simp; omega
        obtain h0 | ⟨b, o, rfl, hbb, hcl⟩ := HX.out
        · rw [h0] at hkl; simp at hkl
        obtain ⟨a1, c1, hce, hcat, hlm, hrch⟩ := hcl k hkl
        clear hcl
        generalize L[k] = M at *
        have HCE := Lib.hid (fun w' (h : Ext w w') => (Below.cell h (p := ⟨b, o + k, none⟩) hbb).trans hce)
        have HCT := Lib.hid (fun w' (h : Ext w w') => hcat.ext h)
        have HRC := Lib.hid (And.intro hlm hrch)
        have i0 : (0 : Int) ≤ (k : Int) := by omega
        have i1 : (k : Int) < (L.length : Int) := by omega
        have i2 : (k : Int) + 1 ≤ 21 := by omega
        have hlm1 : M.length ≤ 651562446090 := by omega
        clear hce hcat hlm hrch
        obtain ⟨wo, rfl⟩ : ∃ wo : World, wo = wr := ⟨_, rfl⟩
        go_wp2_with fail
        go_loopw [4, 5] (fun n i wr => ∃ (j : Nat) (q : Int), j ≤ M.length ∧ n = .int .i64 q ∧ i = .int .i64 j ∧ Hid (Ext w wr)) (fun _ i _ => M.length - (intOf i).toNat)
        case atStart => exact ⟨0, 0, Nat.zero_le _, rfl, rfl, hEr⟩
        case round =>
          obtain ⟨j, q, hj, rfl, rfl, hEi⟩ := hrel
          have hce := HCE.out _ hEi.out
          by_cases hjl : j < M.length
          · have j1 : decide ((j : Int) < (M.length : Int)) = true := by simp; omega
            have n0 : (0 : Int) ≤ (j : Int) := by omega
            have n1 : (j : Int) < (M.length : Int) := by omega
            have n2 : (j : Int) + 1 ≤ 651562446091 := by omega
            obtain ⟨b', o', rfl, hbb', r, u1, d1, u2, d2, hy, hmem, _, _, hya, hyb, hcc⟩ := (HCT.out _ hEi.out).cells hjl
            have HCC := Lib.hid (fun w' (h : Ext wr w') => (show Crc w' b' (o' + j * 21) r u1 d1 u2 d2 from fun i hi => by rw [Below.cell h (p := ⟨b', o' + j * 21 + i, none⟩) hbb']; exact hcc i hi))
            have HS1 := Lib.hid (fun w' (h : Ext wr w') => size_any r.h 0 0 u1 d1 w' rfl (by omega) (hya.ext h))
            have HS2 := Lib.hid (fun w' (h : Ext wr w') => size_any r.t 0 0 u2 d2 w' rfl (by omega) (hyb.ext h))
            generalize sz r.h 0 = SX at *
            generalize sz r.t 0 = SY at *
            clear hya hyb hcc hy hmem
            go_wp2_with fail
            clear hce
            refine wp_region_stab (fun _ => none) (by kernel_rfl) (by kernel_rfl) (fun _ _ h => by cases h) (fun hex => ?_)
            iterate 22
              (refine wpS_one (A := ?_) hex rfl rfl (by simp) ?_ ?_ ?_
               rotate_left 2
               · intro w' hC K hK
                 obtain ⟨hcell, hfrz⟩ := bcell hC.1.ext
                 have hwE := hC.1.ext; have hce := HCE.out _ (bel_call hEi.out hwE); obtain ⟨z0, z1, z2, z3, z4, z5, z6, z7, z8, z9, z10, z11, z12, z13, z14, z15, z16, z17, z18, z19, z20⟩ := Crc.cells21 (HCC.out _ hwE); clear hcell hfrz
                 go_wp2_with (go_at_call 7; first | (with_reducible refine (HS1.out _ hwE).mono ?_; rintro e w2 ⟨rfl, hb2⟩) | (with_reducible refine (HS2.out _ hwE).mono ?_; rintro e w2 ⟨rfl, hb2⟩))
                 refine hK _ ?_
                 first | exact Gr.refl _ _ | exact Gr.of_ext (by assumption) hC.1.1.size
               rotate_left 1
               · rfl
               clear hex; intro hex)
            refine wpS_nil fun w2 hE => ?_
            replace hE := hE.1.ext
            obtain ⟨hcell_w2, hfrz_w2⟩ := bcell hE
            have XE := Lib.hid (bel_call hEi.out hE)
            clear hE hex hcell_w2 hfrz_w2
            go_wp2_with fail
            go_roundw
            case rel => exact ⟨j + 1, _, by omega, rfl, by go_num, XE⟩
            case measure => simp [intOf] <;> omega
          · have j1 : decide ((j : Int) < (M.length : Int)) = false := by simp; omega
            by_cases hq : 20000 < q
            · have q1 : decide ((20000 : Int) < q) = true := by simpa using hq
              clear hq
              go_wp2_with fail
              go_roundw
              case rel => exact ⟨k + 1, by omega, by omega, by go_num, hEi⟩
              case measure => simp [intOf] <;> omega
            · have q1 : decide ((20000 : Int) < q) = false := by simpa using hq
              clear hq
              have HCP := Lib.hid (fun w' (h : Ext w w') => copycores_any M a1 c1 w' (HCT.out _ h) HRC.out.1 HRC.out.2)
              have HCU := Lib.hid (fun a3 c3 w' (hc : Cat w' w'.heap.size a3 c3 M) (h : Ext w w') => cuts_any M a3 c3 (ea 13) (ea 8) w' hc (HA.out.ext h))
              have HRU := Lib.hid (fun w' (h : Ext w w') => rcuts_any M a1 c1 w' (HCT.out _ h))
              have HEC := Lib.hid (fun a3 c3 w' (hc : Cat w' w'.heap.size a3 c3 M) (h : Ext w w') => eqcores_same M a3 a1 c3 c1 w' hc (HCT.out _ h) HRC.out.1)
              as_aux_lemma =>
                go_wp2_with fail
                refine (HCP.out _ hEi.out).mono ?_
                rintro e w3 ⟨a3, c3, rfl, hc3, x3⟩
                have X3 := Lib.hid (bel_call hEi.out x3)
                have HC3 := Lib.hid hc3
                clear hce x3 hc3
                go_wp2_with fail
                refine (HCU.out _ _ _ HC3.out X3.out).mono ?_
                rintro e w4 ⟨hr4, x4⟩
                have X4 := Lib.hid (bel_call X3.out x4)
                have HC4 := Lib.hid (HC3.out.ext x4)
                obtain ⟨xs, v4, he4⟩ := res_shape hr4
                subst he4
                have HR4 := Lib.hid hr4
                have hce := HCE.out _ X4.out
                clear hr4 x4 HC3
                go_wp2_with fail
                refine (HRU.out _ X4.out).mono ?_
                rintro e w5 ⟨hr5, x5⟩
                obtain ⟨xs', v', ys, C, R, he, he', hEQ, hSM⟩ := held8 HR4.out hr5 x5 (HSG.out.1.ext (bel_call X4.out x5)) (HSG.out.2.ext (bel_call X4.out x5))
                obtain ⟨rfl, rfl⟩ := tup2_inj he
                subst he'
                have X5 := Lib.hid (bel_call X4.out x5)
                have HC5 := Lib.hid (HC4.out.ext x5)
                have HEQ := Lib.hid hEQ
                have HSM := Lib.hid hSM
                have hE6 : Ext w5 (w5.alloc (.cells #[.int .i64 C, .int .i64 0, .int .i64 R, .int .i64 0, .slice none 0 0] 38)) := by go_grown
                have HB6 := Lib.hid (Blk.new w5 #[.int .i64 C, .int .i64 0, .int .i64 R, .int .i64 0, .slice none 0 0] 38)
                clear hr5 x5 he hEQ hSM hce HR4 HC4
                go_upto_region 13 with fail
                generalize w5.alloc (.cells #[.int .i64 C, .int .i64 0, .int .i64 R, .int .i64 0, .slice none 0 0] 38) = w6 at *
                have E6 := Lib.hid hE6
                clear hE6
                go_wp2_with fail
                refine (HEQ.out _ E6.out).mono ?_
                rintro e w7 ⟨rfl, x7⟩
                have E7 := Lib.hid (bel_call E6.out x7)
                obtain ⟨z0, z1, z2, z3, z4⟩ := (HB6.out.ext x7).cells5
                have HB7 := Lib.hid (HB6.out.ext x7)
                clear x7
                go_wp2_with fail
                refine (HSM.out _ E7.out).mono ?_
                rintro e w8 ⟨rfl, x8⟩
                have E8 := Lib.hid (bel_call E7.out x8)
                have hce := HCE.out _ (bel_call X5.out E8.out)
                clear x8 z0 z1 z2 z3 z4
                go_wp2_with fail
                refine (HEC.out _ _ _ (HC5.out.ext E8.out) (bel_call X5.out E8.out)).mono ?_
                rintro e w9 ⟨rfl, x9⟩
                have X9 := Lib.hid (bel_call (bel_call X5.out E8.out) x9)
                clear hce x9
                go_wp2_with fail
                go_roundw
                case rel => exact ⟨k + 1, by omega, by omega, by go_num, X9⟩
                case measure => simp [intOf] <;> omega
      · have k2 : decide ((k : Int) < (20 : Int)) = false := by simp; omega
        go_wp2_with fail
        refine (HWK.out _ (HA.out.ext hEr.out)).mono ?_
        rintro e w2 ⟨rfl, x2⟩
        have X2 := Lib.hid (bel_call hEr.out x2)
        clear x2
        go_wp2_with fail
        go_ret
        exact ⟨rfl, X2.out⟩
    · have k1 : decide ((k : Int) < (L.length : Int)) = false := by simp; omega
      go_wp2_with fail
      refine (HWK.out _ (HA.out.ext hEr.out)).mono ?_
      rintro e w2 ⟨rfl, x2⟩
      have X2 := Lib.hid (bel_call hEr.out x2)
      clear x2
      go_wp2_with fail
      go_ret
      exact ⟨rfl, X2.out⟩
end Go.Proofs.YtnmdfhnfheekgaaDoor
namespace Go.Proofs.YtnmdfhnfheekgaaDoor
open Go Go.ChangeShapes Go.WideShapes Go.ChangeAt Go.RowKit
theorem lengthCuts_met (os : Os) (args : Array Value) : laidMetH Tryd.prog Rows.lengthCutsRow.laid ((World.doorLaid Tryd.prog 400 os).forCall (fun _ _ => 0) ⟨#[], args, []⟩).memory :=
  laidMetH_of_parts (laidMet_of_run' 8 (by kernel_rfl) (by kernel_rfl)) (by kernel_rfl)
set_option maxRecDepth 100000 in
theorem lengthCuts_contract {H : Type} {enc : TypeId × Value → H} (F : Stop.Interp) (W : World) (base : Nat) (args : Array Value) (ds gs : List (DataW H)) (before : List MemPlace)
    (hval0 : ∀ (j : Nat) t v, Tryd.f4.params[j]? = some t → args[j]? = some v → Value.okWide Tryd.prog W .any base t v)
    (hW : DataW.Whole enc Tryd.prog Tryd.f4.params.toList (OpenSpec.ofChange Rows.lengthCutsSpec).vars false W args.toList ds gs before)
    (hsz : (DataW.weightsEach Tryd.prog (Tryd.f4.params.toList ++ (OpenSpec.ofChange Rows.lengthCutsSpec).bare.plain.varTypes Tryd.prog) (ds ++ gs)).all (· ≤ reachBytes) = true)
    (hL : laidMetH Tryd.prog Rows.lengthCutsRow.laid W) (hsh : W.ShapedOpen Tryd.prog) :
    Calls Tryd.prog 4 args W fun e W' => ∃ v, e = .returned v ∧ ((OpenSpec.ofChange Rows.lengthCutsSpec).at F).post enc Tryd.prog Tryd.f4 false true false false W args v W' := by
  have hval : ∀ (j : Nat) t v, Tryd.f4.params[j]? = some t → args[j]? = some v → Value.okWide Tryd.prog W .any base t v := hval0
  have hW' := hW
  obtain ⟨p, q, hA0, hV, rfl, hfz, hnd⟩ := hW
  have hA : DataW.TrodAll enc Tryd.prog W 0 (fun _ => true) true Tryd.f4.params.toList args.toList ds p := hA0
  rw [Tryd.params4] at hA hval
  obtain ⟨v0, d0, rfl, rfl, h0⟩ := trodAll_one hA
  obtain ⟨rfl, rfl⟩ := trodVars_none hV
  have hlt : ∀ x ∈ p, x.block < W.heap.size := fun x hx => hW'.lt x (by simp [hx])
  have hwt : ∀ n ∈ d0.weights Tryd.prog 45, n ≤ reachBytes := fun n hn => by simpa using List.all_eq_true.1 hsz n (DataW.weights_mem_each (j := 0) rfl rfl n hn)
  have _ := hsh; obtain ⟨ea, hSn, hEt, hAg⟩ := known_lengthCuts hL
  obtain ⟨a0, n0, c0, rfl⟩ := okWide_slice Tryd.underlying45 (hval 0 _ v0 rfl rfl); obtain ⟨a1, c1, L, hv1, hxl, hlen⟩ : ∃ a c L, Value.slice a0 n0 c0 = .slice a (L : List (List Cr)).length c ∧ Cll W W.heap.size a L ∧ L.length ≤ maxLen := (by obtain ⟨fuel, hf⟩ := h0; exact open_coress hf hwt); cases hv1
  refine (cuts8_all L a0 c0 ea W hxl hlen hSn hEt hAg).mono fun e W' ⟨he, hB⟩ => ?_
  subst he
  have e1 : ((OpenSpec.ofChange Rows.lengthCutsSpec).at F).fn H ([d0] ++ []) = { results := [.lit (.bool true)], args := [d0] } := rfl
  refine ⟨_, rfl, _, _, _, [], p, [], hW', ?_, ?_, ?_, hB.frame _, fun h => by cases h⟩
  · rw [e1]; exact trodAll_mk1 (shut_bool Tryd.underlying4 true)
  · rw [e1]; exact trodAll_mk1 (Below.trod laidOut (by kernel_rfl) (of_decide_eq_true (by kernel_rfl)) h0 hB hlt)
  · rw [e1]; rfl
set_option maxRecDepth 100000 in
theorem lengthCuts_lifted (os : Os) (started : os.Started) (H : Type) (enc : TypeId × Value → H) (F : Stop.Interp) :
    ReturnsInHanded {} Tryd.checked os 4 .any ((OpenSpec.ofChange Rows.lengthCutsSpec).preRow enc Tryd.prog Tryd.f4 Rows.lengthCutsRow.domain false Rows.lengthCutsRow.laid) (((OpenSpec.ofChange Rows.lengthCutsSpec).at F).post enc Tryd.prog Tryd.f4 false true false false) := by
  have hx : DataW.whole enc Tryd.prog ((World.doorLaid Tryd.prog 400 os).forCall (fun _ _ => 0) ⟨#[], #[.slice none 0 0], []⟩).memory Tryd.f4.params.toList (OpenSpec.ofChange Rows.lengthCutsSpec).vars false (#[.slice none 0 0] : Array Value).toList 8 = some ([.nil], [], []) := by kernel_rfl
  refine returnsInHanded_of_row (C := Tryd.checked) (s := OpenSpec.ofChange Rows.lengthCutsSpec) own started (by kernel_rfl) Tryd.func4
    (witness_row_atRef (enc := enc) (C := Tryd.checked) false (World.doorLaid Tryd.prog 400 os) #[.slice none 0 0] rfl (by kernel_rfl) (by kernel_rfl) (by kernel_rfl)
      (OpenSpec.preRow_of_cond 8 hx (by kernel_rfl) (fun k hk => by cases hk) (by kernel_rfl) (lengthCuts_met os _))) ?_
  intro W base args ds gs before hval hW _ _ hsz hL hsh _
  exact lengthCuts_contract F W base args ds gs before hval hW hsz hL hsh
theorem lengthCuts_row : Rows.LengthCutsSaid :=
  OpenClaim.holds_of_cond 4 Tryd.f4 rfl rfl rfl rfl rfl rfl rfl ⟨rfl, rfl, rfl, rfl, rfl⟩ rfl rfl rfl rfl rfl (by kernel_rfl) Tryd.func4 (by kernel_rfl)
    (of_decide_eq_true (by kernel_rfl)) (by unfold Func.isWrapper; rw [if_neg (of_decide_eq_false (by kernel_rfl))]; exact ⟨rfl, rfl⟩)
    (fun os started H enc _ F => by rw [OpenClaim.pre_eq_preRow]; exact lengthCuts_lifted os started H enc F)
theorem lengthCuts_holds : Rows.LengthCutsCardSaid :=
  Claim7.holds_tied_plain_at .later [] _ _ Rows.lengthCutsCard.stood.harness Rows.lengthCutsCard.stood.looks
    lengthCuts_row (fun _ h => by cases h) (by kernel_rfl) (fun _ h => by cases h) lengthCuts_row_tie rfl ⟨rfl, rfl⟩ (by kernel_rfl) rfl
    (fun f fn hf hfn => by
      obtain rfl : f = 4 := Option.some.inj ((show Tryd.prog.funcNamed Rows.lengthCutsRow.func = some 4 by kernel_rfl).symm.trans hf) |>.symm
      obtain rfl : fn = Tryd.f4 := (Option.some.inj (Tryd.func4.symm.trans hfn)).symm
      exact ⟨by kernel_rfl, fun j t ht => by
        rw [Tryd.params4] at ht
        have hm : t ∈ [45] := by simpa using Array.mem_of_getElem? ht
        have hall : ([45].all fun u => !Tryd.prog.wantsStandIn u) = true := by kernel_rfl
        exact (show Tryd.prog.wantsStandIn t = false by simpa using List.all_eq_true.1 hall t hm)⟩)
    (by kernel_rfl)
#print axioms lengthCuts_holds
end Go.Proofs.YtnmdfhnfheekgaaDoor
