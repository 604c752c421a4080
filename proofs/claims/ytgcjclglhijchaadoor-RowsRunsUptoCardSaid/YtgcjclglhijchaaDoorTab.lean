/- rows.tableOf: all automata as one table. -/
import Derived.Test.YtgcjclglhijchaaDoorWpt
import Derived.Test.YtgcjclglhijchaaDoorClo
namespace Go.Proofs.YtgcjclglhijchaaDoor
open Go Go.RowKit Go.Maps
/-- Where a list of automata lies. -/
def Dls (w : World) (a : Option Addr) (L : List Dd) : Prop := L = [] ∨ ∃ b o, a = some ⟨b, o, none⟩ ∧ b < w.heap.size ∧ ∀ i (h : i < L.length), ∃ p q, w.cell? ⟨b, o + i * 2, none⟩ = some p ∧ w.cell? ⟨b, o + i * 2 + 1, none⟩ = some q ∧ Rws w p L[i].nx ∧ Ints w q L[i].lb
theorem Dls.ext {w w' : World} {a : Option Addr} {L : List Dd} (h : Dls w a L) (hx : Ext w w') : Dls w' a L := by
  rcases h with h | ⟨b, o, e, hb, h⟩
  · exact .inl h
  · refine .inr ⟨b, o, e, Nat.lt_of_lt_of_le hb hx.size, fun i hi => ?_⟩
    obtain ⟨p, q, h1, h2, h3, h4⟩ := h i hi
    exact ⟨p, q, (hx.cell (p := ⟨b, _, none⟩) hb).trans h1, (hx.cell (p := ⟨b, _, none⟩) hb).trans h2, h3.ext hx, h4.ext hx⟩
/-- A table of one's own. -/
structure TbOwn (w : World) (B : Nat) (vC vS vN vL : Value) (vs : List Value) (t : Tb) : Prop where
  cl : w.ownsRow B 3 1 vC t.cl.length (t.cl.map iv)
  st : w.ownsRow B 3 1 vS t.st.length (t.st.map iv)
  nx : OwnR w B vN vs t.nx
  lb : w.ownsRow B 3 1 vL t.lb.length (t.lb.map iv)
  cs : Dj vC vS
  cb : Dj vC vL
  sl : Dj vS vL
  rc : ∀ j, j < t.nx.length → Dj vC (vs.getD j nilS)
  rs : ∀ j, j < t.nx.length → Dj vS (vs.getD j nilS)
  rl : ∀ j, j < t.nx.length → Dj vL (vs.getD j nilS)
theorem OwnR.rws {w : World} {B : Nat} {v : Value} {vs : List Value} {R : List (List Int)} (h : OwnR w B v vs R) (hl : R.length ≤ 140737488355328) (hr : ∀ r ∈ R, r.length ≤ 140737488355328 ∧ ∀ x ∈ r, -9223372036854775808 ≤ x ∧ x ≤ 9223372036854775807) : Rws w v R := by
  have hvl : vs.length = R.length := by have := h.rn.1; omega
  refine ⟨vs, hvl, Slc.of_own h.rn hl, fun i hi => ⟨vs.getD i nilS, by rw [getD_get (by omega)]; exact List.getElem?_eq_getElem _, ?_⟩⟩
  have he := h.en i hi
  rw [getD_get hi] at he
  obtain ⟨h1, h2⟩ := hr R[i] (List.getElem_mem hi)
  exact ⟨Slc.of_own he h1, h2⟩
/-- One row more, made before. -/
theorem OwnR.more2 {w w1 w2 : World} {B : Nat} {v v2 u : Value} {vs : List Value} {R : List (List Int)} {L : List Int}
    (h : OwnR w B v vs R) (hx : Ext w w1) (hu : w1.ownsRow w.heap.size 3 1 u L.length (L.map iv)) (hB : B ≤ w.heap.size)
    (hg : w1.grownBy w2 v.ownBlock) (ho : w2.ownsRow B 26 1 v2 (R.length + 1) (vs ++ [u])) : OwnR w2 B v2 (vs ++ [u]) (R ++ [L]) := by
  have hvl := h.rn.1
  have hk : ∀ {B' n : Nat} {x : Value} {xs : List Value}, w1.ownsRow B' 3 1 x n xs → w2.ownsRow B' 3 1 x n xs := fun {B' n x xs} k =>
    k.kept hg (by
      cases hq : x.ownBlock with
      | none => exact .inl rfl
      | some g => exact .inr (fun q => own_ne_own (own_ex h.rn hx) k (by decide) g hq q.symm))
  refine ⟨by rw [List.length_append]; exact ho, fun j hj => ?_, fun j k hj hk2 hne => ?_⟩
  · by_cases e : j < R.length
    · rw [getD_app_l (by omega), getD_app_l e]
      exact hk (own_ex (h.en j e) hx)
    · have e : j = R.length := by simp at hj; omega
      rw [getD_app_r (by omega), getD_app_r e]
      exact (hk hu).mono hB
  · by_cases e : j < R.length
    · by_cases e2 : k < R.length
      · rw [getD_app_l (by omega), getD_app_l (by omega)]; exact h.dd j k e e2 hne
      · have e2 : k = R.length := by simp at hk2; omega
        rw [getD_app_l (by omega), getD_app_r (by omega)]
        intro g q q2
        have := (own_lo (h.en j e) g q).2
        have := (own_lo hu g q2).1
        omega
    · have e : j = R.length := by simp at hj; omega
      have e2 : k < R.length := by simp at hk2; omega
      rw [getD_app_r (by omega), getD_app_l (by omega)]
      intro g q q2
      have := (own_lo (h.en k e2) g q2).2
      have := (own_lo hu g q).1
      omega
theorem Wd.nx_in {W : Wd} (h : W.Ok) (hn : W.nx.length ≤ 600) : ∀ r ∈ W.nx, r.length ≤ 140737488355328 ∧ ∀ x ∈ r, -9223372036854775808 ≤ x ∧ x ≤ 9223372036854775807 := fun r hr => by
  obtain ⟨h1, h2⟩ := h.row r hr
  exact ⟨by omega, fun x hx => by have := h2 x hx; omega⟩
theorem sumN_take (L : List Dd) {k : Nat} (hk : k < L.length) : sumN (L.take k) + L[k].nx.length ≤ sumN L := by
  have h1 : sumN L = sumN (L.take k) + sumN (L.drop k) := by
    unfold sumN
    rw [← List.sum_append, ← List.map_append, List.take_append_drop]
  have h2 : sumN (L.drop k) = L[k].nx.length + sumN (L.drop (k + 1)) := by
    rw [List.drop_eq_getElem_cons hk]
    unfold sumN
    simp only [List.map_cons, List.sum_cons]
  omega
abbrev zer29 : Array Value := #[nilS, .int .i64 0, nilS, nilS, nilS]
def RNw (B m : Nat) (X : List Int) (v : Value) (w : World) : Prop := ∃ g, v = .slice (some ⟨g, 0, none⟩) m m ∧ w.ownsRow B 3 1 (.slice (some ⟨g, 0, none⟩) m m) m (X.map iv)
theorem RNw_mono (B m : Nat) (X : List Int) : G.Mono Ext (RNw B m X) := fun _ _ _ hx ⟨g, h1, h2⟩ => ⟨g, h1, own_ex h2 hx⟩
def RNx (B m : Nat) (X : List Int) (v : Value) (w : World) : Prop := ∃ b g, v = .slice (some ⟨b, 0, none⟩) 1 1 ∧ Blk w b #[.slice (some ⟨g, 0, none⟩) m m] 26 ∧ w.ownsRow B 3 1 (.slice (some ⟨g, 0, none⟩) m m) m (X.map iv)
theorem RNx_mono (B m : Nat) (X : List Int) : G.Mono Ext (RNx B m X) := fun _ _ _ hx ⟨b, g, h1, h2, h3⟩ => ⟨b, g, h1, h2.ext hx, own_ex h3 hx⟩
/-- What the loop over the wide rows keeps. -/
structure TbI (w5 wr : World) (r5 k : Nat) (vC vS vX vL : Value) (cn : Int) (vs : List Value) (W : Wd) (F : List Nat) : Prop where
  blk : Blk wr r5 #[vC, .int .i64 cn, vS, vX, vL] 29
  nx : OwnR wr w5.heap.size vX vs ((W.nx.take k).map (narrowR F))
  fr : Fr (fun g => g = r5 ∨ w5.heap.size ≤ g) w5 wr
theorem set5 {w : World} {b : Nat} {z0 z1 z2 z3 z4 u0 u1 u2 u3 u4 : Value} {t : TypeId} (h : Blk w b #[z0, z1, z2, z3, z4] t) :
    Blk (((((w.setCell ⟨b, 0, none⟩ u0).setCell ⟨b, 1, none⟩ u1).setCell ⟨b, 2, none⟩ u2).setCell ⟨b, 3, none⟩ u3).setCell ⟨b, 4, none⟩ u4) b #[u0, u1, u2, u3, u4] t := by
  have := ((((h.set 0 u0).set 1 u1).set 2 u2).set 3 u3).set 4 u4
  simpa using this
theorem own_set5 {w : World} {base e sz n b : Nat} {u0 u1 u2 u3 u4 v : Value} {xs : List Value} (h : w.ownsRow base e sz v n xs) (hne : v.ownBlock ≠ some b) :
    (((((w.setCell ⟨b, 0, none⟩ u0).setCell ⟨b, 1, none⟩ u1).setCell ⟨b, 2, none⟩ u2).setCell ⟨b, 3, none⟩ u3).setCell ⟨b, 4, none⟩ u4).ownsRow base e sz v n xs :=
  own_set (own_set (own_set (own_set (own_set h hne) hne) hne) hne) hne
set_option maxHeartbeats 8000000 in
set_option maxRecDepth 20000 in
theorem tableof_any15 (L : List Dd) (a : Option Addr) (c : Nat) (w : World) (hL : ∀ d ∈ L, d.Ok) (hl : L.length ≤ 16) (hs : sumN L ≤ 600) (h : Dls w a L) :
    Calls Tryd.prog 31 #[.slice a L.length c] w fun e w' => ∃ vC vS vN vL vs, e = .returned (.agg #[vC, .int .i64 (tabOf L).cn, vS, vN, vL]) ∧ TbOwn w' w.heap.size vC vS vN vL vs (tabOf L) ∧ Ext w w' := by
  obtain ⟨j0, hj, hy0, hy1, hy2⟩ := info_parts info_sli
  obtain ⟨w0, hw0⟩ : ∃ w0, w.alloc (.cells zer29 29) = w0 := ⟨_, rfl⟩
  have hx0 : Ext w w0 := by rw [← hw0]; exact ext_box w _ _
  have hs0 : w0.heap.size = w.heap.size + 1 := by rw [← hw0]; simp
  have HBR := Lib.hid (show Blk w0 w.heap.size zer29 29 by rw [← hw0]; exact Blk.new _ _ _)
  have H := Lib.hid (h.ext hx0)
  have HX0 := Lib.hid hx0
  have HL := Lib.hid hL
  have HS := Lib.hid hs
  have HW0 := Lib.hid hw0
  have X1 := Lib.hid (ext_box w0 #[nilS, nilS, nilS] 81)
  have W1 := Lib.hid (show Wdm (w0.alloc (.cells #[nilS, nilS, nilS] 81)) (w.heap.size + 2) (w.heap.size + 1) nilS nilS nilS [] (wideOf (L.take 0)) from
    ⟨by rw [← hs0]; exact Blk.new _ _ _, own_nil _ _ _ _, OwnR.nil _ _, own_nil _ _ _ _, Dj.nil _, fun j hj => by simp [wideOf] at hj, fun j hj => by simp [wideOf] at hj⟩)
  obtain ⟨n, hn⟩ : ∃ n, L.length = n := ⟨_, rfl⟩
  rw [hn] at hl ⊢
  have HN := Lib.hid hn
  clear hL hs h hx0 hn
  go_enter Tryd.func31, Tryd.ntmps31
  go_upto_region 2 with fail
  clear hw0
  generalize w0.alloc (.cells #[nilS, nilS, nilS] 81) = w1 at *
  try simp only [hs0]
  have hs1 : w.heap.size + 2 ≤ w1.heap.size := by have := W1.out.blk.lt; omega
  go_wp2_with fail
  go_loopw [13] (fun s13 wr => ∃ k : Nat, k ≤ n ∧ s13 = .int .i64 k ∧ ∃ vS vN vL vs, Hid (Wdm wr (w.heap.size + 2) (w.heap.size + 1) vS vN vL vs (wideOf (L.take k))) ∧ Hid (Ext w0 wr) ∧ w1.heap.size ≤ wr.heap.size) (fun s13 _ => n - (intOf s13).toNat)
  case atStart => exact ⟨0, Nat.zero_le _, rfl, _, _, _, _, W1, X1, Nat.le_refl _⟩
  case round =>
    clear W1 X1
    obtain ⟨k, hk, rfl, vS, vN, vL, vs, hW, hX, hsz⟩ := hrel
    by_cases hkn : k < n
    · have hkL : k < L.length := by rw [HN.out]; exact hkn
      rcases H.out with h0 | ⟨b, o, rfl, hb, h0⟩
      · rw [h0] at hkL; simp at hkL
      · obtain ⟨p, q, c1, c2, r1, r2⟩ := h0 k hkL
        have k1 := (hX.out.cell (p := ⟨b, o + k * 2, none⟩) hb).trans c1
        have k2 := (hX.out.cell (p := ⟨b, o + k * 2 + 1, none⟩) hb).trans c2
        have hxb := ext_box wr #[p, q] 62
        have hwl := wide_len (L := L) k (by omega)
        have hst := sumN_take L hkL
        have hss := HS.out
        have HP := Lib.hid (wput_any L[k] (.agg #[p, q]) w0 (wr.alloc (.cells #[p, q] 62)) (HL.out _ (List.getElem_mem hkL)) ⟨p, q, rfl, r1, r2⟩ (bel_call hX.out hxb) (hW.out.ext hxb) (by omega) (by omega) (by simp; omega) (by omega) (wide_ok HL.out k (by omega)).lbl (by omega))
        have HTK := Lib.hid (wideOf_take hkL)
        obtain ⟨pa, pc, rfl, _⟩ := r1.shape
        obtain ⟨qa, qc, rfl, _⟩ := r2.shape
        clear h0 c1 c2 r1 r2 hxb hwl hst hss
        go_wp2_with fail
        refine HP.out.mono ?_
        rintro e w7 ⟨rfl, vS', vN', vL', vs', h7, x7, s7⟩
        have W7 := Lib.hid (by rw [HTK.out]; exact h7 : Wdm w7 (w.heap.size + 2) (w.heap.size + 1) vS' vN' vL' vs' (wideOf (L.take (k + 1))))
        have X7 := Lib.hid x7
        have hs7 : w1.heap.size ≤ w7.heap.size := by simp at s7; omega
        clear h7 x7 s7 HP
        go_wp2_with fail
        go_roundw
        case rel => exact ⟨k + 1, by omega, by go_num, _, _, _, _, W7, X7, hs7⟩
        case measure => simp [intOf]; omega
    · have ek : k = n := by omega
      have W2 := hW.out
      rw [ek, ← HN.out, take_all] at W2
      have W2 := Lib.hid W2
      clear hW ek
      have hWok := wide_ok HL.out L.length (Nat.le_refl _)
      have hWl := wide_len (L := L) L.length (Nat.le_refl _)
      have hWt : (tabOf L).nx = (wideOf L).nx.map (narrowR (clsN (alike (wideOf L).nx) 256).2) := rfl
      rw [take_all] at hWok hWl
      have HTB := Lib.hid (show tabOf L = (wideOf L).tb from rfl)
      have hW6 : (wideOf L).nx.length ≤ 600 := by have := HS.out; omega
      have HRW := Lib.hid (W2.out.nx.rws (by omega) (Wd.nx_in hWok hW6))
      have HWO := Lib.hid hWok
      have HR2 := Lib.hid (fun r hr => (hWok.row r hr).1)
      have HSL := Lib.hid hWl.1
      have HCO := Lib.hid (cols_any (wideOf L).nx vN wr HRW.out HR2.out hW6)
      clear hWt hWl hWok
      obtain ⟨W, hWW⟩ : ∃ W, wideOf L = W := ⟨_, rfl⟩
      rw [hWW] at W2 HRW HWO HR2 HSL HCO hW6 HTB
      have HWW := Lib.hid hWW
      clear hWW
      obtain ⟨aN, kN, eN⟩ := own_shp W2.out.nx.rn
      obtain ⟨aS, kS, eS⟩ := own_shp W2.out.st
      obtain ⟨aL, kL, eL⟩ := own_shp W2.out.lb
      subst eN eS eL
      obtain ⟨p, hp⟩ : ∃ p, (W.nx.length + 7) / 8 = p := ⟨_, rfl⟩
      rw [hp] at HCO
      have hp8 : W.nx.length ≤ p * 8 := by omega
      have hp6 : p ≤ 76 := by omega
      have z1 := W2.out.blk.cell 1
      clear hp
      go_wp2_with fail
      refine HCO.out.mono ?_
      rintro e w3 ⟨u, cs, rfl, hcs, x3⟩
      obtain ⟨a3, k3, e3⟩ := own_shp hcs.own
      subst e3
      have HCL := Lib.hid (clsof_any hcs hp8 hp6)
      have X3 := Lib.hid x3
      clear hcs x3 z1 HCO
      go_wp2_with fail
      refine HCL.out.mono ?_
      rintro e w4 ⟨v1, v2, rfl, o1, o2, dj, x4⟩
      obtain ⟨a4, k4, e4⟩ := own_shp o1
      obtain ⟨a5, k5, e5⟩ := own_shp o2
      subst e4 e5
      have hF6 := (clsN_fst_le (E := alike W.nx) 256).1
      have HF2 := Lib.hid (clsN_fst_le (E := alike W.nx) 256).2
      have hC6 := clsN_len (E := alike W.nx) 256
      have XX := bel_call X3.out x4
      have W4 := Lib.hid (W2.out.ext XX)
      have z0 := W4.out.blk.cell 0
      have z1 := W4.out.blk.cell 1
      have z2 := W4.out.blk.cell 2
      have XX := Lib.hid XX
      have O1 := Lib.hid o1
      have O2 := Lib.hid o2
      have DJ := Lib.hid dj
      have HTB2 : Hid (W.tb = ⟨(clsN (alike W.nx) 256).1, (((clsN (alike W.nx) 256).2.length : Nat) : Int), W.st, W.nx.map (narrowR (clsN (alike W.nx) 256).2), W.lb⟩) := Lib.hid rfl
      generalize (clsN (alike W.nx) 256).1 = C at *
      generalize (clsN (alike W.nx) 256).2 = F at *
      have hs34 : w3.heap.size ≤ w4.heap.size := x4.size
      clear o1 o2 dj x4 HCL
      have HSlt := Lib.hid (fun g (hg : (Value.slice aS W.st.length kS).ownBlock = some g) => show g < w3.heap.size from by have := (W2.out.st.lt g hg).2; have := X3.out.size; omega)
      have HLlt := Lib.hid (fun g (hg : (Value.slice aL W.lb.length kL).ownBlock = some g) => show g < w3.heap.size from by have := (W2.out.lb.lt g hg).2; have := X3.out.size; omega)
      have HR4 := Lib.hid (HRW.out.ext XX.out)
      have X04 := Lib.hid (bel_call hX.out XX.out)
      have hsz3 : w.heap.size + 2 ≤ w3.heap.size := by have := X3.out.size; omega
      clear W2 HRW hX XX X3
      go_upto_region 9 with fail
      have x5 := ext_box w4 #[.slice a4 256 k4, .int .i64 (F.length : Int), .slice aS W.st.length kS, nilS, .slice aL W.lb.length kL] 29
      have B5 := Blk.new w4 #[.slice a4 256 k4, .int .i64 (F.length : Int), .slice aS W.st.length kS, nilS, .slice aL W.lb.length kL] 29
      have z1' := (W4.out.ext x5).blk.cell 1
      obtain ⟨r5, hr5⟩ : ∃ r5, w4.heap.size = r5 := ⟨_, rfl⟩
      rw [hr5] at B5
      have hs5 : (w4.alloc (.cells #[.slice a4 256 k4, .int .i64 (F.length : Int), .slice aS W.st.length kS, nilS, .slice aL W.lb.length kL] 29)).heap.size = w4.heap.size + 1 := by simp
      simp only [hr5] at hs5 ⊢
      have HI5 := Lib.hid (show TbI (w4.alloc (.cells #[.slice a4 256 k4, .int .i64 (F.length : Int), .slice aS W.st.length kS, nilS, .slice aL W.lb.length kL] 29)) _ r5 0 (.slice a4 256 k4) (.slice aS W.st.length kS) nilS (.slice aL W.lb.length kL) (F.length : Int) [] W F from ⟨B5, OwnR.nil _ _, Fr.refl _ _⟩)
      have X5 := Lib.hid x5
      have HR5 := Lib.hid hr5
      clear z0 z1 z2 B5 x5
      generalize w4.alloc (.cells #[.slice a4 256 k4, .int .i64 (F.length : Int), .slice aS W.st.length kS, nilS, .slice aL W.lb.length kL] 29) = w5 at *
      have HNL := Lib.hid (show W.nx.length = W.nx.length from rfl)
      obtain ⟨N, hN⟩ : ∃ N, W.nx.length = N := ⟨_, rfl⟩
      rw [hN] at HR4 z1' hW6
      have HNN := Lib.hid hN
      obtain ⟨m, hm⟩ : ∃ m, F.length = m := ⟨_, rfl⟩
      rw [hm] at O2 HI5 hF6
      have HMM := Lib.hid hm
      have HF4 := Lib.hid (show Ints w4 (.slice a5 m k5) (nzl F) from by
        refine ⟨?_, fun x hx => ?_⟩
        · have h := O2.out
          rw [show F.map nv = (nzl F).map iv by simp [List.map_map, Function.comp_def]] at h
          rw [show (nzl F).length = m by rw [List.length_map]; exact hm]
          exact Slc.of_own h (by omega)
        · obtain ⟨f, hf, rfl⟩ := List.mem_map.1 hx
          have := HF2.out f hf
          omega)
      have HX4 := Lib.hid (fun wr (hf : Fr (fun g => g = r5 ∨ w5.heap.size ≤ g) w5 wr) => show Ext w4 wr from Below.trans X5.out (hf.below X5.out.size (fun g hg q => by have := HR5.out; omega)))
      rw [hN, hm]
      clear hr5 hN hm HNL
      go_wp2_with fail
      clear z1'
      go_loopw [38] (fun s38 wr => ∃ k : Nat, k ≤ N ∧ s38 = .int .i64 k ∧ ∃ vX vs, Hid (TbI w5 wr r5 k (.slice a4 256 k4) (.slice aS W.st.length kS) vX (.slice aL W.lb.length kL) (m : Int) vs W F)) (fun s38 _ => N - (intOf s38).toNat)
      case atStart => exact ⟨0, Nat.zero_le _, rfl, _, _, HI5⟩
      case round =>
        clear HI5
        obtain ⟨k, hk, rfl, vX, us, hI⟩ := hrel
        have HE4 := Lib.hid (HX4.out wr hI.out.fr)
        by_cases hkN : k < N
        · have hkW : k < W.nx.length := by rw [HNN.out]; exact hkN
          obtain ⟨bR, oR, aR, cR, rfl, hbR, hcR, hIR, -⟩ := (HR4.out.ext HE4.out).cell hkW
          have hrl : W.nx[k].length = 256 := HR2.out _ (List.getElem_mem hkW)
          rw [hrl] at hcR hIR
          have hus := hI.out.nx.rn
          have htk : ((W.nx.take k).map (narrowR F)).length = k := by rw [List.length_map, List.length_take]; omega
          rw [htk] at hus
          obtain ⟨aX, kX, eX⟩ := own_shp hus
          subst eX
          have HTK := Lib.hid htk
          have HUS := Lib.hid hus
          have hm256 : m ≤ 256 := hF6
          have HNA := Lib.hid (fun w' (hx : Ext wr w') => narrow_any W.nx[k] F (.slice aR 256 cR) (.slice a5 m k5) w' (hIR.ext hx) (HF4.out.ext (bel_call HE4.out hx)) (fun f hf => by rw [hrl]; exact HF2.out f hf) (by rw [HMM.out]; exact hm256))
          rw [HMM.out] at HNA
          have HSN := Lib.hid (show (W.nx.take (k + 1)).map (narrowR F) = (W.nx.take k).map (narrowR F) ++ [narrowR F W.nx[k]] by rw [List.take_succ_eq_append_getElem hkW, List.map_append]; rfl)
          have HXL : Hid ((narrowR F W.nx[k]).length = m) := Lib.hid (by unfold narrowR; rw [List.length_map]; exact HMM.out)
          obtain ⟨X, hX9⟩ : ∃ X, narrowR F W.nx[k] = X := ⟨_, rfl⟩
          rw [hX9] at HNA HSN HXL
          have HBK := Lib.hid hI.out.blk
          have hszr := hI.out.fr.2.2.2.1
          clear hrl hIR hus htk hX9
          go_upto_region 12 with fail
          refine G.wp_region_tail (G := Ext) (RsF [(4, RNw wr.heap.size m X), (5, RNx wr.heap.size m X)]) 6 (by kernel_rfl) (by kernel_rfl) (RsF_mono (by simp only [List.forall_mem_cons, List.not_mem_nil, false_implies, implies_true, and_true]; exact ⟨RNw_mono _ _ _, RNx_mono _ _ _⟩)) (fun hex => ?_)
          simp only [List.take_succ_cons, List.take_zero, List.drop_succ_cons, List.drop_zero]
          iterate 4
            (refine G.wpS_one (A := ?_) hex rfl rfl (by simp) ?_ ?_ ?_
             rotate_left 2
             · intro w' hC K hK
               have y3 := (HBK.out.ext hC.1).cell 3
               go_wp2_with (fail)
               refine hK _ ?_
               first | exact Below.refl _ _ | assumption | ((repeat' (first | (with_reducible exact Below.refl _ _) | (with_reducible assumption) | (with_reducible refine below_drewN ?_ _) | (with_reducible refine Below.alloc ?_ ?_ _) | (with_reducible refine Below.drew ?_) | (with_reducible refine Below.setCell ?_ ?_ _) | (with_reducible refine Below.trans ?_ (Below.mono (by with_reducible assumption) ?_)) | go_size)))
             rotate_left 1
             · rfl
             clear hex; intro hex)
          refine G.wpS_rel (RNw wr.heap.size m X) rfl rfl (by simp) (by first | rfl | (simp [Region.wanted, yielded]; done)) ?_ ?_
          · intro w' hC K hK
            simp only [Act.put, List.setIfInBounds_toArray, List.set_cons_succ, List.set_cons_zero] at hK
            skip
            go_wp2_with (refine (HNA.out w' hC.1).mono ?_; rintro e w9 ⟨g9, rfl, o9, x9⟩)
            refine hK _ _ ?_ ?_
            · first | exact Below.refl _ _ | assumption | ((repeat' (first | (with_reducible exact Below.refl _ _) | (with_reducible assumption) | (with_reducible refine below_drewN ?_ _) | (with_reducible refine Below.alloc ?_ ?_ _) | (with_reducible refine Below.drew ?_) | (with_reducible refine Below.setCell ?_ ?_ _) | (with_reducible refine Below.trans ?_ (Below.mono (by with_reducible assumption) ?_)) | go_size)))
            · exact ⟨g9, rfl, o9.mono hC.1.size⟩
          clear hex
          intro v4 w' hex hv4
          replace hex := Exists.intro w' hex
          simp only [Act.put, List.setIfInBounds_toArray, List.set_cons_succ, List.set_cons_zero]
          obtain ⟨g4, rfl, -⟩ := hv4
          refine G.wpS_rel (RNx wr.heap.size m X) rfl rfl (by simp) (by first | rfl | (simp [Region.wanted, yielded]; done)) ?_ ?_
          · intro w' hC K hK
            simp only [Act.put, List.setIfInBounds_toArray, List.set_cons_succ, List.set_cons_zero] at hK
            obtain ⟨g, e4, i4⟩ := (hC.2 4 (by simp [Region.binds])).1 rfl; cases e4
            go_wp2_with (fail)
            refine hK _ _ ?_ ?_
            · first | exact Below.refl _ _ | assumption | ((repeat' (first | (with_reducible exact Below.refl _ _) | (with_reducible assumption) | (with_reducible refine below_drewN ?_ _) | (with_reducible refine Below.alloc ?_ ?_ _) | (with_reducible refine Below.drew ?_) | (with_reducible refine Below.setCell ?_ ?_ _) | (with_reducible refine Below.trans ?_ (Below.mono (by with_reducible assumption) ?_)) | go_size)))
            · exact ⟨_, g4, rfl, Blk.new _ _ _, own_ex i4 (ext_box _ _ _)⟩
          clear hex
          intro v5 w' hex hv5
          replace hex := Exists.intro w' hex
          simp only [Act.put, List.setIfInBounds_toArray, List.set_cons_succ, List.set_cons_zero]
          obtain ⟨b6, g6', rfl, -, -⟩ := hv5
          refine G.wpS_nil fun w6 hAll => ?_
          obtain ⟨b6', g6, e6, hb6, hg6⟩ := (hAll.2 5).1 rfl
          cases e6
          have US6 := Lib.hid (own_ex HUS.out hAll.1)
          have B6 := Lib.hid (HBK.out.ext hAll.1)
          have E6 := Lib.hid hAll.1
          have HB6 := Lib.hid hb6
          have HG6 := Lib.hid hg6
          have hs6 := hAll.1.size
          clear hAll hex hb6 hg6 HNA
          go_wp2_with (at_builtin; refine wpList_append_own_at _ rfl (.tmp 43) (.tmp 47) 27 rfl w5.heap.size 26 j0 nilS 1 24 Tryd.underlying27 hj hy0 hy1 hy2 rfl (by decide) _ _ _ rfl US6.out ⟨_, 0, none⟩ 1 1 [.slice (some ⟨g6, 0, none⟩) m m] rfl rfl (World.news_of_block HB6.out) (nil_ones _ ⟨_, _, _, rfl⟩) (by unfold maxLen; omega) (by omega) (by omega) ?_; intro v7 w7 hown7 hgrow7 hnil7 hloc7; obtain ⟨a7, c7, rfl⟩ := own_shp hown7; have F7 := Lib.hid (Fr.of_grown (S := fun g => (Value.slice aX k kX).ownBlock = some g) hgrow7 (fun _ h => h)); have B7 := Lib.hid (F7.out.blk B6.out (own_ne_blk US6.out B6.out (by decide))); have q3 := B7.out.cell 3; have f3 := B7.out.free 3)
          have NI := Lib.hid (show TbI w5 (w7.setCell ⟨r5, 3, none⟩ (.slice a7 (k + 1) c7)) r5 (k + 1) (.slice a4 256 k4) (.slice aS W.st.length kS) (.slice a7 (k + 1) c7) (.slice aL W.lb.length kL) (m : Int) (us ++ [.slice (some ⟨g6, 0, none⟩) m m]) W F from by
            have hlt5 : r5 < w5.heap.size := by omega
            refine ⟨?_, ?_, ?_⟩
            · have := B7.out.set 3 (.slice a7 (k + 1) c7)
              simpa using this
            · rw [HSN.out]
              exact (OwnR.more2 hI.out.nx E6.out (by rw [HXL.out]; exact HG6.out) hszr hgrow7 (by rw [HTK.out]; exact hown7)).put9 hlt5
            · exact ((hI.out.fr.trans (Fr.of_ext (S := fun _ => False) E6.out) (fun _ _ q => q.elim)).trans F7.out (fun g hg q => .inr ((US6.out.lt g q).1))).set (.inl (.inl rfl)) _)
          clear hown7 hgrow7 hnil7 hloc7 q3 f3
          go_wp2_with fail
          go_roundw
          case rel => exact ⟨k + 1, by omega, by go_num, _, _, NI⟩
          case measure => simp [intOf]; omega
        · have ek : k = N := by omega
          have hus := hI.out.nx.rn
          have hal : (W.nx.take k).map (narrowR F) = W.nx.map (narrowR F) := by rw [ek, ← HNN.out, take_all]
          have hNX := hI.out.nx
          rw [hal] at hus hNX
          rw [List.length_map, HNN.out] at hus
          obtain ⟨aX, kX, eX⟩ := own_shp hus
          subst eX
          have HNX := Lib.hid hNX
          have BW := Lib.hid (HBR.out.ext (bel_call X04.out HE4.out))
          have y0 := hI.out.blk.cell 0
          have y1 := hI.out.blk.cell 1
          have y2 := hI.out.blk.cell 2
          have y3 := hI.out.blk.cell 3
          have y4 := hI.out.blk.cell 4
          have f0 := BW.out.free 0
          have f1 := (BW.out.set 0 (.slice a4 256 k4)).free 1
          have f2 := ((BW.out.set 0 (.slice a4 256 k4)).set 1 (.int .i64 (m : Int))).free 2
          have f3 := (((BW.out.set 0 (.slice a4 256 k4)).set 1 (.int .i64 (m : Int))).set 2 (.slice aS W.st.length kS)).free 3
          have f4 := ((((BW.out.set 0 (.slice a4 256 k4)).set 1 (.int .i64 (m : Int))).set 2 (.slice aS W.st.length kS)).set 3 (.slice aX N kX)).free 4
          have p0 := BW.out.cell 0
          have p1 := (BW.out.set 0 (.slice a4 256 k4)).cell 1
          have p2 := ((BW.out.set 0 (.slice a4 256 k4)).set 1 (.int .i64 (m : Int))).cell 2
          have p3 := (((BW.out.set 0 (.slice a4 256 k4)).set 1 (.int .i64 (m : Int))).set 2 (.slice aS W.st.length kS)).cell 3
          have p4 := ((((BW.out.set 0 (.slice a4 256 k4)).set 1 (.int .i64 (m : Int))).set 2 (.slice aS W.st.length kS)).set 3 (.slice aX N kX)).cell 4
          have BF := Lib.hid (set5 BW.out (u0 := .slice a4 256 k4) (u1 := .int .i64 (m : Int)) (u2 := .slice aS W.st.length kS) (u3 := .slice aX N kX) (u4 := .slice aL W.lb.length kL))
          clear hus hal hNX ek
          go_wp2_with fail
          have r0 := BF.out.cell 0
          have r1 := BF.out.cell 1
          have r2 := BF.out.cell 2
          have r3 := BF.out.cell 3
          have r4 := BF.out.cell 4
          have HT9 := Lib.hid (show tabOf L = ⟨C, (m : Int), W.st, W.nx.map (narrowR F), W.lb⟩ by rw [HTB.out, HTB2.out, HMM.out])
          refine bodyPost_ret (v := .agg #[.slice a4 256 k4, .int .i64 (m : Int), .slice aS W.st.length kS, .slice aX N kX, .slice aL W.lb.length kL]) ?_ rfl ⟨.slice a4 256 k4, .slice aS W.st.length kS, .slice aX N kX, .slice aL W.lb.length kL, us, by rw [HT9.out], ?_, ?_⟩
          · simp [results, Tryd.results31, go_sem, r0, r1, r2, r3, r4]
          · rw [HT9.out]
            have oC := own_ex O1.out HE4.out
            have oS := own_ex W4.out.st HE4.out
            have oL := own_ex W4.out.lb HE4.out
            have nx := HNX.out
            have hw5 : w.heap.size < w5.heap.size := by have := X5.out.size; omega
            have hC4 : ∀ g, (Value.slice a4 256 k4).ownBlock = some g → w3.heap.size ≤ g ∧ g < w5.heap.size := fun g hg => ⟨(O1.out.lt g hg).1, by have := (O1.out.lt g hg).2; have := X5.out.size; omega⟩
            have h35 : w3.heap.size ≤ w5.heap.size := by have := X5.out.size; omega
            have hrow : ∀ j, j < (W.nx.map (narrowR F)).length → ∀ g, (us.getD j nilS).ownBlock = some g → w5.heap.size ≤ g := fun j hj g hg => ((nx.en j hj).lt g hg).1
            refine ⟨?_, ?_, ?_, ?_, fun g hg q => ?_, fun g hg q => ?_, W4.out.sl, fun j hj g hg q => ?_, fun j hj g hg q => ?_, fun j hj g hg q => ?_⟩
            · have hcl : C.length = 256 := hC6
              show World.ownsRow _ _ _ _ _ C.length _
              rw [hcl]
              exact own_set5 (oC.mono (by omega)) (fun q => by have := (hC4 _ q).1; omega)
            · exact own_set5 (oS.mono (by omega)) (fun q => by have := (oS.lt _ q).1; omega)
            · have n5 := ((((nx.put9 (k := 0) (u := .slice a4 256 k4) hw5).put9 (k := 1) (u := .int .i64 (m : Int)) hw5).put9 (k := 2) (u := .slice aS W.st.length kS) hw5).put9 (k := 3) (u := .slice aX N kX) hw5).put9 (k := 4) (u := .slice aL W.lb.length kL) hw5
              exact n5.mono (by omega)
            · exact own_set5 (oL.mono (by omega)) (fun q => by have := (oL.lt _ q).1; omega)
            · have := (hC4 g hg).1; have := HSlt.out g q; omega
            · have := (hC4 g hg).1; have := HLlt.out g q; omega
            · have := (hC4 g hg).2; have := hrow j hj g q; omega
            · have := HSlt.out g hg; have := hrow j hj g q; omega
            · have := HLlt.out g hg; have := hrow j hj g q; omega
          · have hE9 : Ext w wr := bel_call HX0.out (bel_call X04.out HE4.out)
            exact ((((hE9.setCell (p := ⟨w.heap.size, 0, none⟩) (Nat.le_refl _) _).setCell (p := ⟨w.heap.size, 1, none⟩) (Nat.le_refl _) _).setCell (p := ⟨w.heap.size, 2, none⟩) (Nat.le_refl _) _).setCell (p := ⟨w.heap.size, 3, none⟩) (Nat.le_refl _) _).setCell (p := ⟨w.heap.size, 4, none⟩) (Nat.le_refl _) _
end Go.Proofs.YtgcjclglhijchaaDoor
