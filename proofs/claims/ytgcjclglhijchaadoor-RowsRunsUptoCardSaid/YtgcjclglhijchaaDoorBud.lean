/- rows.Build: whether automata may be; their table. -/
import Derived.Test.YtgcjclglhijchaaDoorTab
import Derived.Test.YtgcjclglhijchaaDoorErr
namespace Go.Proofs.YtgcjclglhijchaaDoor
open Go Go.RowKit Go.Maps
def amB (L : List Dd) : Bool := decide (1 ≤ L.length) && (decide (L.length ≤ 16) && (L.all okB && decide (sumN L ≤ 600)))
theorem amB_iff {L : List Dd} : amB L = true ↔ 1 ≤ L.length ∧ L.length ≤ 16 ∧ (∀ d ∈ L, d.Ok) ∧ sumN L ≤ 600 := by
  unfold amB
  simp only [Bool.and_eq_true, decide_eq_true_eq, List.all_eq_true, okB_ok]
theorem sumN_succ (L : List Dd) {k : Nat} (hk : k < L.length) : sumN (L.take (k + 1)) = sumN (L.take k) + L[k].nx.length := by
  unfold sumN
  rw [List.take_succ_eq_append_getElem hk, List.map_append, List.sum_append]; simp
set_option maxHeartbeats 2000000 in
set_option maxRecDepth 20000 in
theorem autos_any (L : List Dd) (a : Option Addr) (c : Nat) (w : World) (h : Dls w a L) (hl : L.length ≤ 140737488355328) :
    Calls Tryd.prog 30 #[.slice a L.length c] w fun e w' => e = .returned (.bool (amB L)) ∧ Ext w w' := by
  have H := Lib.hid h
  have HAM : Hid (amB L = (decide (1 ≤ L.length) && (decide (L.length ≤ 16) && (L.all okB && decide (sumN L ≤ 600))))) := Lib.hid rfl
  obtain ⟨n, hn⟩ : ∃ n, L.length = n := ⟨_, rfl⟩
  rw [hn] at hl HAM ⊢
  have HN := Lib.hid hn
  clear h hn
  by_cases h1 : n = 0
  · subst h1
    have HF := Lib.hid (show amB L = false by rw [HAM.out]; rfl)
    go_enter Tryd.func30, Tryd.ntmps30
    go_wp2
    go_ret
    exact ⟨ret_bool HF.out.symm, Below.refl _ _⟩
  · by_cases h2 : n ≤ 16
    rotate_left
    · have HF := Lib.hid (show amB L = false by rw [HAM.out]; simp [h2])
      have t1 : ((n : Int) == 0) = false := by simpa using h1
      have t2 : decide ((16 : Int) < (n : Int)) = true := by simp; omega
      clear h1 h2
      go_enter Tryd.func30, Tryd.ntmps30
      go_wp2
      go_ret
      exact ⟨ret_bool HF.out.symm, Below.refl _ _⟩
    · have t1 : ((n : Int) == 0) = false := by simpa using h1
      have t2 : decide ((16 : Int) < (n : Int)) = false := by simp; omega
      have HAM2 := Lib.hid (show amB L = (L.all okB && decide (sumN L ≤ 600)) by rw [HAM.out]; simp [h2, show 1 ≤ n by omega])
      have H16 := Lib.hid h2
      clear h1 h2 HAM
      go_enter Tryd.func30, Tryd.ntmps30
      go_wp2_with fail
      clear t1 t2
      go_loopw [16, 3] (fun s16 s3 wr => ∃ k : Nat, k ≤ n ∧ s16 = .int .i64 k ∧ ∃ m : Nat, s3 = .int .i64 (m : Int) ∧ m ≤ k * 600 ∧ Hid (sumN (L.take k) = m) ∧ Hid (∀ j (hj : j < L.length), j < k → okB L[j] = true) ∧ Hid (Ext w wr)) (fun s16 _ _ => n - (intOf s16).toNat)
      case atStart => exact ⟨0, Nat.zero_le _, rfl, 0, rfl, by omega, Lib.hid rfl, Lib.hid (fun j _ h => by omega), Lib.hid (Below.refl _ _)⟩
      case round =>
        obtain ⟨k, hk, rfl, m, rfl, hm, hsum, hall, hE⟩ := hrel
        have hn16 := H16.out
        by_cases hkn : k < n
        · have hkL : k < L.length := by rw [HN.out]; exact hkn
          rcases H.out with h0 | ⟨b, o, rfl, hb, h0⟩
          · rw [h0] at hkL; simp at hkL
          · obtain ⟨p, q, c1, c2, r1, r2⟩ := h0 k hkL
            have k1 := (hE.out.cell (p := ⟨b, o + k * 2, none⟩) hb).trans c1
            have k2 := (hE.out.cell (p := ⟨b, o + k * 2 + 1, none⟩) hb).trans c2
            have hxb := ext_box wr #[p, q] 62
            have HC := checkd_any L[k] (.agg #[p, q]) (wr.alloc (.cells #[p, q] 62)) ⟨p, q, rfl, r1.ext (bel_call hE.out hxb), r2.ext (bel_call hE.out hxb)⟩
            have HBX := Lib.hid (Blk.new wr #[p, q] 62)
            have HXB := Lib.hid hxb
            have HSS := Lib.hid (sumN_succ L hkL)
            obtain ⟨pa, pc, rfl, _⟩ := r1.shape
            obtain ⟨qa, qc, rfl, _⟩ := r2.shape
            cases hq : okB L[k]
            · have HF := Lib.hid (show amB L = false by
                rw [HAM2.out, Bool.and_eq_false_iff]
                left
                rw [List.all_eq_false]
                exact ⟨L[k], List.getElem_mem hkL, by simp [hq]⟩)
              rw [hq] at HC
              have HC := Lib.hid HC
              clear hq h0 c1 c2 r1 r2 hxb
              go_wp2_with fail
              refine HC.out.mono ?_
              rintro e w7 ⟨rfl, x7⟩
              have E7 := Lib.hid (bel_call hE.out (bel_call HXB.out x7))
              clear x7 HC
              go_wp2_with fail
              go_ret
              exact ⟨ret_bool HF.out.symm, E7.out⟩
            · rw [hq] at HC
              have HC := Lib.hid HC
              have hd := okB_ok.1 hq
              have hle := hd.le
              have HQ := Lib.hid hq
              obtain ⟨z, hz⟩ : ∃ z, L[k].nx.length = z := ⟨_, rfl⟩
              rw [hz] at hle HSS HBX HC HXB k1
              have HZ := Lib.hid hz
              clear hq h0 c1 c2 r1 r2 hxb hd hz
              go_wp2_with fail
              refine HC.out.mono ?_
              rintro e w7 ⟨rfl, x7⟩
              have E7 := Lib.hid (bel_call hE.out (bel_call HXB.out x7))
              have z0 := (HBX.out.ext x7).cell 0
              clear x7 HC k1 k2
              go_wp2_with fail
              go_roundw
              case rel => exact ⟨k + 1, by omega, by go_num, m + z, by simp, by omega, Lib.hid (by rw [HSS.out, hsum.out]), Lib.hid (fun j hj hjk => by
                by_cases e : j = k
                · subst e; exact HQ.out
                · exact hall.out j hj (by omega)), E7⟩
              case measure => simp [intOf]; omega
        · have ek : k = n := by omega
          have HF := Lib.hid (show amB L = decide ((m : Int) ≤ 600) by
            rw [HAM2.out]
            have h1 : L.all okB = true := by
              rw [List.all_eq_true]
              intro d hd
              obtain ⟨j, hj, rfl⟩ := List.getElem_of_mem hd
              exact hall.out j hj (by have := HN.out; omega)
            have h2 : sumN L = m := by rw [← hsum.out, ek, ← HN.out, take_all]
            rw [h1, h2, Bool.true_and, Bool.eq_iff_iff, decide_eq_true_eq, decide_eq_true_eq]; omega)
          obtain ⟨bb, hbb⟩ : ∃ bb, decide ((m : Int) ≤ 600) = bb := ⟨_, rfl⟩
          rw [hbb] at HF
          clear ek
          go_wp2
          go_ret
          exact ⟨ret_bool HF.out.symm, hE.out⟩
theorem TbOwn.put5 {w : World} {B b : Nat} {u0 u1 u2 u3 u4 vC vS vN vL : Value} {vs : List Value} {t : Tb} (h : TbOwn w B vC vS vN vL vs t) (hb : b < B) :
    TbOwn (((((w.setCell ⟨b, 0, none⟩ u0).setCell ⟨b, 1, none⟩ u1).setCell ⟨b, 2, none⟩ u2).setCell ⟨b, 3, none⟩ u3).setCell ⟨b, 4, none⟩ u4) B vC vS vN vL vs t :=
  ⟨own_set5 h.cl (fun q => by have := (h.cl.lt _ q).1; omega), own_set5 h.st (fun q => by have := (h.st.lt _ q).1; omega), ((((h.nx.put9 hb).put9 hb).put9 hb).put9 hb).put9 hb, own_set5 h.lb (fun q => by have := (h.lb.lt _ q).1; omega), h.cs, h.cb, h.sl, h.rc, h.rs, h.rl⟩
theorem TbOwn.mono {w : World} {B B' : Nat} {vC vS vN vL : Value} {vs : List Value} {t : Tb} (h : TbOwn w B vC vS vN vL vs t) (hb : B' ≤ B) : TbOwn w B' vC vS vN vL vs t :=
  ⟨h.cl.mono hb, h.st.mono hb, h.nx.mono hb, h.lb.mono hb, h.cs, h.cb, h.sl, h.rc, h.rs, h.rl⟩
theorem TbOwn.ext {w w' : World} {B : Nat} {vC vS vN vL : Value} {vs : List Value} {t : Tb} (h : TbOwn w B vC vS vN vL vs t) (hx : Ext w w') : TbOwn w' B vC vS vN vL vs t :=
  ⟨own_ex h.cl hx, own_ex h.st hx, h.nx.ext hx, own_ex h.lb hx, h.cs, h.cb, h.sl, h.rc, h.rs, h.rl⟩
theorem set_same {w : World} {b i : Nat} {vs : Array Value} {t : TypeId} {v : Value} (h : Blk w b vs t) (hv : vs[i]? = some v) : w.setCell ⟨b, i, none⟩ v = w := by
  have e : vs.setIfInBounds i v = vs := by
    apply Array.ext_getElem?
    intro j
    rw [Array.getElem?_setIfInBounds]
    split
    · rename_i e; subst e
      split
      · exact hv.symm
      · rename_i hn; rw [Array.getElem?_eq_none (by omega)]
    · rfl
  have hh : w.heap.modify b (fun
      | .cells c elem frozen => .cells (if ((⟨b, i, none⟩ : Addr).spot).isSome then c else c.setIfInBounds i v) elem frozen
      | o => o) = w.heap := by
    apply Array.ext_getElem?
    intro j
    rw [Array.getElem?_modify]
    split
    · rename_i e; subst e
      unfold Blk at h
      rw [h]
      show some (Obj.cells (vs.setIfInBounds i v) t (0, 0)) = _
      rw [e]
    · rfl
  have e2 : w.setCell ⟨b, i, none⟩ v = { w with heap := w.heap.modify b (fun
      | .cells c elem frozen => .cells (if ((⟨b, i, none⟩ : Addr).spot).isSome then c else c.setIfInBounds i v) elem frozen
      | o => o) } := by unfold World.setCell; rfl
  rw [e2, hh]
theorem drewx (w : World) : Ext w w.drew := ⟨rfl, rfl, rfl, Nat.le_refl _, fun _ _ => rfl⟩
/-- Where the error of what may not be stands. -/
structure Arg (w : World) (aA : Addr) : Prop where
  arg : w.cell? ⟨0, 0, none⟩ = some (errAt aA)
  lt : 0 < w.heap.size
theorem Arg.ext {w w' : World} {aA : Addr} (h : Arg w aA) (hx : Ext w w') : Arg w' aA := ⟨(hx.cell (p := ⟨_, 0, none⟩) h.lt).trans h.arg, Nat.lt_of_lt_of_le h.lt hx.size⟩
set_option maxHeartbeats 2000000 in
set_option maxRecDepth 20000 in
theorem build_ok (L : List Dd) (a : Option Addr) (c : Nat) (w : World) (h : Dls w a L) (hm : amB L = true) :
    Calls Tryd.prog 11 #[.slice a L.length c] w fun e w' => ∃ vC vS vN vL vs, e = .returned (.tuple #[.agg #[vC, .int .i64 (tabOf L).cn, vS, vN, vL], .nilIface]) ∧ TbOwn w' w.heap.size vC vS vN vL vs (tabOf L) ∧ Ext w w' := by
  obtain ⟨h1, h2, h3, h4⟩ := amB_iff.1 hm
  obtain ⟨w0, hw0⟩ : ∃ w0, w.alloc (.cells zer29 29) = w0 := ⟨_, rfl⟩
  have hx0 : Ext w w0 := by rw [← hw0]; exact ext_box w _ _
  have HBR := Lib.hid (show Blk w0 w.heap.size zer29 29 by rw [← hw0]; exact Blk.new _ _ _)
  have hs0 : w0.heap.size = w.heap.size + 1 := by rw [← hw0]; simp
  have HA := autos_any L a c _ (h.ext hx0) (by omega)
  rw [hm] at HA
  have HT := Lib.hid (fun w' (hx : Ext w0 w') => tableof_any15 L a c w' h3 h2 h4 (h.ext (bel_call hx0 hx)))
  have HX0 := Lib.hid hx0
  have HA := Lib.hid HA
  generalize L.length = n at *
  generalize tabOf L = tb at *
  clear h1 h2 h3 h4 hm h hx0
  go_enter Tryd.func11, Tryd.ntmps11
  go_wp2_with fail
  clear hw0
  refine HA.out.mono ?_
  rintro e w1 ⟨rfl, x1⟩
  have HT1 := Lib.hid (HT.out w1 x1)
  have X1 := Lib.hid (bel_call HX0.out x1)
  have B1 := Lib.hid (HBR.out.ext x1)
  have hs1 := x1.size
  clear x1 HA HT HBR HX0
  go_wp2_with fail
  refine HT1.out.mono ?_
  rintro e w2 ⟨vC, vS, vN, vL, vs, rfl, tb2, x2⟩
  obtain ⟨aC, kC, eC⟩ := own_shp tb2.cl
  obtain ⟨aS, kS, eS⟩ := own_shp tb2.st
  obtain ⟨aN, kN, eN⟩ := own_shp tb2.nx.rn
  obtain ⟨aL, kL, eL⟩ := own_shp tb2.lb
  subst eC eS eN eL
  have TB := Lib.hid tb2
  have X2 := Lib.hid (bel_call X1.out x2)
  have BW := B1.out.ext x2
  generalize tb.cl.length = n1 at *
  generalize tb.st.length = n2 at *
  generalize tb.nx.length = n3 at *
  generalize tb.lb.length = n4 at *
  obtain ⟨cn, hcn⟩ : ∃ cn, tb.cn = cn := ⟨_, rfl⟩
  have HCN := Lib.hid hcn
  rw [hcn]
  clear hcn
  have f0 := BW.free 0
  have f1 := (BW.set 0 (.slice aC n1 kC)).free 1
  have f2 := ((BW.set 0 (.slice aC n1 kC)).set 1 (.int .i64 cn)).free 2
  have f3 := (((BW.set 0 (.slice aC n1 kC)).set 1 (.int .i64 cn)).set 2 (.slice aS n2 kS)).free 3
  have f4 := ((((BW.set 0 (.slice aC n1 kC)).set 1 (.int .i64 cn)).set 2 (.slice aS n2 kS)).set 3 (.slice aN n3 kN)).free 4
  have p0 := BW.cell 0
  have p1 := (BW.set 0 (.slice aC n1 kC)).cell 1
  have p2 := ((BW.set 0 (.slice aC n1 kC)).set 1 (.int .i64 cn)).cell 2
  have p3 := (((BW.set 0 (.slice aC n1 kC)).set 1 (.int .i64 cn)).set 2 (.slice aS n2 kS)).cell 3
  have p4 := ((((BW.set 0 (.slice aC n1 kC)).set 1 (.int .i64 cn)).set 2 (.slice aS n2 kS)).set 3 (.slice aN n3 kN)).cell 4
  have BF := Lib.hid (set5 BW (u0 := .slice aC n1 kC) (u1 := .int .i64 cn) (u2 := .slice aS n2 kS) (u3 := .slice aN n3 kN) (u4 := .slice aL n4 kL))
  have T9 := Lib.hid (fun hb => TbOwn.put5 (u0 := .slice aC n1 kC) (u1 := .int .i64 cn) (u2 := .slice aS n2 kS) (u3 := .slice aN n3 kN) (u4 := .slice aL n4 kL) TB.out (b := w.heap.size) hb)
  have E9 := Lib.hid (((((X2.out.setCell (p := ⟨w.heap.size, 0, none⟩) (Nat.le_refl _) (.slice aC n1 kC)).setCell (p := ⟨w.heap.size, 1, none⟩) (Nat.le_refl _) (.int .i64 cn)).setCell (p := ⟨w.heap.size, 2, none⟩) (Nat.le_refl _) (.slice aS n2 kS)).setCell (p := ⟨w.heap.size, 3, none⟩) (Nat.le_refl _) (.slice aN n3 kN)).setCell (p := ⟨w.heap.size, 4, none⟩) (Nat.le_refl _) (.slice aL n4 kL))
  clear tb2 x2 BW HT1 X1 B1
  go_wp2_with fail
  have r0 := BF.out.cell 0
  have r1 := BF.out.cell 1
  have r2 := BF.out.cell 2
  have r3 := BF.out.cell 3
  have r4 := BF.out.cell 4
  refine bodyPost_ret (v := .tuple #[.agg #[.slice aC n1 kC, .int .i64 cn, .slice aS n2 kS, .slice aN n3 kN, .slice aL n4 kL], .nilIface]) ?_ rfl ⟨.slice aC n1 kC, .slice aS n2 kS, .slice aN n3 kN, .slice aL n4 kL, vs, by rw [HCN.out], (T9.out (by omega)).mono (by omega), E9.out⟩
  simp [results, Tryd.results11, go_sem, r0, r1, r2, r3, r4]
set_option maxHeartbeats 2000000 in
set_option maxRecDepth 20000 in
theorem build_no (L : List Dd) (a : Option Addr) (c : Nat) (aA : Addr) (w : World) (h : Dls w a L) (hm : amB L = false) (hl : L.length ≤ 140737488355328) (hA : Arg w aA) :
    Calls Tryd.prog 11 #[.slice a L.length c] w fun e w' => e = .returned (.tuple #[.agg #[nilS, .int .i64 0, nilS, nilS, nilS], errAt aA]) ∧ Ext w w' := by
  obtain ⟨w0, hw0⟩ : ∃ w0, w.alloc (.cells zer29 29) = w0 := ⟨_, rfl⟩
  have hx0 : Ext w w0 := by rw [← hw0]; exact ext_box w _ _
  have HBR := Lib.hid (show Blk w0 w.heap.size zer29 29 by rw [← hw0]; exact Blk.new _ _ _)
  have HC := autos_any L a c _ (h.ext hx0) hl
  rw [hm] at HC
  have HX0 := Lib.hid hx0
  have HAG := Lib.hid (hA.ext hx0)
  have HC := Lib.hid HC
  generalize L.length = n at *
  clear hm h hx0 hA
  go_enter Tryd.func11, Tryd.ntmps11
  go_wp2_with fail
  clear hw0
  refine HC.out.mono ?_
  rintro e w1 ⟨rfl, x1⟩
  have BR := HBR.out.ext x1
  have za := (HAG.out.ext x1).arg
  have p0 : w1.cell? ⟨w.heap.size, 0, none⟩ = some (.slice none 0 0) := BR.cell 0
  have p1 : w1.cell? ⟨w.heap.size, 1, none⟩ = some (.int .i64 0) := BR.cell 1
  have p2 : w1.cell? ⟨w.heap.size, 2, none⟩ = some (.slice none 0 0) := BR.cell 2
  have p3 : w1.cell? ⟨w.heap.size, 3, none⟩ = some (.slice none 0 0) := BR.cell 3
  have p4 : w1.cell? ⟨w.heap.size, 4, none⟩ = some (.slice none 0 0) := BR.cell 4
  have f0 := BR.free 0
  have f1 := BR.free 1
  have f2 := BR.free 2
  have f3 := BR.free 3
  have f4 := BR.free 4
  have s0 : w1.setCell ⟨w.heap.size, 0, none⟩ (.slice none 0 0) = w1 := set_same BR rfl
  have s1 : w1.setCell ⟨w.heap.size, 1, none⟩ (.int .i64 0) = w1 := set_same BR rfl
  have s2 : w1.setCell ⟨w.heap.size, 2, none⟩ (.slice none 0 0) = w1 := set_same BR rfl
  have s3 : w1.setCell ⟨w.heap.size, 3, none⟩ (.slice none 0 0) = w1 := set_same BR rfl
  have s4 : w1.setCell ⟨w.heap.size, 4, none⟩ (.slice none 0 0) = w1 := set_same BR rfl
  have BD := BR.ext (drewx w1)
  have d0 : w1.drew.cell? ⟨w.heap.size, 0, none⟩ = some (.slice none 0 0) := BD.cell 0
  have d1 : w1.drew.cell? ⟨w.heap.size, 1, none⟩ = some (.int .i64 0) := BD.cell 1
  have d2 : w1.drew.cell? ⟨w.heap.size, 2, none⟩ = some (.slice none 0 0) := BD.cell 2
  have d3 : w1.drew.cell? ⟨w.heap.size, 3, none⟩ = some (.slice none 0 0) := BD.cell 3
  have d4 : w1.drew.cell? ⟨w.heap.size, 4, none⟩ = some (.slice none 0 0) := BD.cell 4
  have E10 := Lib.hid (show Ext w w1.drew from bel_call (bel_call HX0.out x1) (drewx w1))
  clear HC x1 BR BD HAG HBR HX0
  go_upto_region 2 with fail
  go_region
  go_wp2_with fail
  refine bodyPost_ret (v := .tuple #[.agg #[nilS, .int .i64 0, nilS, nilS, nilS], errAt aA]) ?_ rfl ⟨rfl, E10.out⟩
  simp [results, Tryd.results11, go_sem, d0, d1, d2, d3, d4]
end Go.Proofs.YtgcjclglhijchaaDoor
