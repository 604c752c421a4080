/- rows' wide: an automaton's states put behind those that are there. -/
import Derived.Test.YtgcjclglhijchaaDoorLiv
import Derived.Test.YtgcjclglhijchaaDoorEnf
import Derived.Test.YtgcjclglhijchaaDoorCpe
import Derived.Test.YtgcjclglhijchaaDoorStabM
namespace Go.Proofs.YtgcjclglhijchaaDoor
open Go Go.RowKit Go.Maps
/-- All automata's states in memory. -/
structure Wdm (w : World) (B wb : Nat) (vS vN vL : Value) (vs : List Value) (W : Wd) : Prop where
  blk : Blk w wb #[vS, vN, vL] 81
  st : w.ownsRow B 3 1 vS W.st.length (W.st.map iv)
  nx : OwnR w B vN vs W.nx
  lb : w.ownsRow B 3 1 vL W.lb.length (W.lb.map iv)
  sl : Dj vS vL
  rs : ∀ j, j < W.nx.length → Dj vS (vs.getD j nilS)
  rl : ∀ j, j < W.nx.length → Dj vL (vs.getD j nilS)
theorem Wdm.ext {w w' : World} {B wb : Nat} {vS vN vL : Value} {vs : List Value} {W : Wd} (h : Wdm w B wb vS vN vL vs W) (hx : Ext w w') : Wdm w' B wb vS vN vL vs W :=
  ⟨h.blk.ext hx, own_ex h.st hx, h.nx.ext hx, own_ex h.lb hx, h.sl, h.rs, h.rl⟩
theorem OwnR.fr {w w' : World} {B : Nat} {v : Value} {vs : List Value} {R : List (List Int)} {S : Nat → Prop} (h : OwnR w B v vs R) (hf : Fr S w w') (h1 : ∀ g, v.ownBlock = some g → ¬ S g) (h2 : ∀ j, j < R.length → ∀ g, (vs.getD j nilS).ownBlock = some g → ¬ S g) : OwnR w' B v vs R :=
  ⟨hf.own h.rn h1, fun j hj => hf.own (h.en j hj) (h2 j hj), h.dd⟩
theorem OwnR.put9 {w : World} {B b k : Nat} {v u : Value} {vs : List Value} {R : List (List Int)} (h : OwnR w B v vs R) (hb : b < B) : OwnR (w.setCell ⟨b, k, none⟩ u) B v vs R :=
  ⟨own_set h.rn (fun q => by have := (h.rn.lt b q).1; omega), fun j hj => own_set (h.en j hj) (fun q => by have := ((h.en j hj).lt b q).1; omega), h.dd⟩
/-- A start more. -/
theorem Wdm.start {w w6 : World} {B wb x : Nat} {vS vN vL v6 : Value} {vs : List Value} {W : Wd} (h : Wdm w B wb vS vN vL vs W) (hB : wb < B) (hf : Fr (fun g => vS.ownBlock = some g) w w6) (ho : w6.ownsRow B 3 1 v6 (W.st.length + 1) (W.st.map iv ++ [nv x])) (hl : ∀ g, v6.ownBlock = some g → vS.ownBlock = some g ∨ w.heap.size ≤ g) :
    Wdm (w6.setCell ⟨wb, 0, none⟩ v6) B wb v6 vN vL vs ⟨W.st ++ [(x : Int)], W.nx, W.lb⟩ := by
  have hd : ∀ {u : Value} {B' e n : Nat} {xs : List Value}, w.ownsRow B' e 1 u n xs → Dj vS u → Dj v6 u := fun hu hd g hg q => by
    rcases hl g hg with h1 | h1
    · exact hd g h1 q
    · have := (hu.lt g q).2; omega
  refine ⟨?_, ?_, (h.nx.fr hf (fun g hg q => own_ne_own h.nx.rn h.st (by decide) g q hg) (fun j hj g hg q => h.rs j hj g q hg)).put9 hB, own_set (hf.own h.lb (fun g hg q => h.sl g q hg)) (fun q => by have := (h.lb.lt wb q).1; omega), hd h.lb h.sl, fun j hj => hd (h.nx.en j hj) (h.rs j hj), h.rl⟩
  · have := (hf.blk h.blk (fun q => by have := (h.st.lt wb q).1; omega)).set 0 v6
    simpa using this
  · refine own_set ?_ (fun q => by have := (ho.lt wb q).1; omega)
    show w6.ownsRow B 3 1 v6 (W.st ++ [(x : Int)]).length ((W.st ++ [(x : Int)]).map iv)
    rw [List.length_append, List.map_append]; exact ho
def Wd.upto (W : Wd) (d : Dd) (k : Nat) : Wd := ⟨W.st ++ [(W.nx.length : Int)], W.nx ++ (d.kept.take k).map (d.wrow W.nx.length), W.lb ++ (d.kept.take k).map d.lab⟩
theorem Wd.upto_all (W : Wd) (d : Dd) : W.upto d d.kept.length = W.put d := by
  unfold Wd.upto Wd.put Dd.wnx Dd.wlb; rw [List.take_length]
theorem Wd.upto_succ (W : Wd) {d : Dd} {k : Nat} (hk : k < d.kept.length) : W.upto d (k + 1) = ⟨(W.upto d k).st, (W.upto d k).nx ++ [d.wrow W.nx.length d.kept[k]], (W.upto d k).lb ++ [d.lab d.kept[k]]⟩ := by
  unfold Wd.upto
  simp only [List.take_succ_eq_append_getElem hk, List.map_append, List.map_cons, List.map_nil, List.append_assoc]
/-- How far a row is filled. -/
def wfil (d : Dd) (b s c : Nat) : List Int := (d.wrow b s).take c ++ List.replicate (256 - c) 0
theorem wrow_len (d : Dd) (b s : Nat) : (d.wrow b s).length = 256 := by simp [Dd.wrow]
theorem wfil_zero (d : Dd) (b s : Nat) : wfil d b s 0 = List.replicate 256 0 := rfl
theorem wfil_all (d : Dd) (b s : Nat) : wfil d b s 256 = d.wrow b s := by
  unfold wfil
  rw [List.take_of_length_le (by rw [wrow_len]; exact Nat.le_refl _)]
  simp
theorem wfil_set {d : Dd} {b s c : Nat} (hc : c < 256) : (wfil d b s c).set c (d.num b (d.to s c)) = wfil d b s (c + 1) := by
  unfold wfil
  have h1 : ((d.wrow b s).take c).length = c := by rw [List.length_take, wrow_len]; omega
  rw [List.set_append_right _ _ (by omega), h1, Nat.sub_self, show 256 - c = (256 - (c + 1)) + 1 by omega, List.replicate_succ, List.set_cons_zero]
  rw [List.take_succ_eq_append_getElem (show c < (d.wrow b s).length by rw [wrow_len]; exact hc), List.append_assoc]
  simp [Dd.wrow]
theorem wfil_len (d : Dd) {b s c : Nat} (hc : c ≤ 256) : (wfil d b s c).length = 256 := by
  unfold wfil
  rw [List.length_append, List.length_take, wrow_len, List.length_replicate]; omega
/-- What the loop over the states that have a row keeps. -/
structure WpI (w0 w3 wr : World) (B wb xb n c1 c2 : Nat) (a1 a2 : Option Addr) (vS vN vL v1 v2 : Value) (vs : List Value) (W : Wd) (d : Dd) (b : Nat) : Prop where
  wd : Wdm wr B wb vS vN vL vs W
  e1 : wr.ownsRow B 3 1 v1 n ((enE d b n).map iv)
  e2 : wr.ownsRow B 3 1 v2 d.kept.length (d.kept.map nv)
  d1 : Dj vL v1
  d2 : Dj vL v2
  ext : Ext w0 wr
  bx : Blk wr xb #[.slice a1 n c1, .slice a2 n c2] 62
  sz : w3.heap.size ≤ wr.heap.size
theorem WpI.into {w0 w3 wr w' : World} {B wb xb n c1 c2 : Nat} {a1 a2 : Option Addr} {vS vN vL v1 v2 : Value} {vs : List Value} {W : Wd} {d : Dd} {b : Nat} (h : WpI w0 w3 wr B wb xb n c1 c2 a1 a2 vS vN vL v1 v2 vs W d b) (hx : Ext wr w') : WpI w0 w3 w' B wb xb n c1 c2 a1 a2 vS vN vL v1 v2 vs W d b :=
  ⟨h.wd.ext hx, own_ex h.e1 hx, own_ex h.e2 hx, h.d1, h.d2, bel_call h.ext hx, h.bx.ext hx, Nat.le_trans h.sz hx.size⟩
/-- A state more: its row and its label. -/
theorem Wdm.more {wo wr w8 : World} {B wb g9 g5 g6 k5 k6 i j kN kL : Nat} {aN aL : Option Addr} {vS : Value} {vs : List Value} {W : Wd} {L : List Int} {y : Int}
    (h0 : Wdm wo B wb vS (.slice aN i kN) (.slice aL j kL) vs W) (hx : Ext wo wr) (hg : wo.heap.size = g9) (hB : wb < B) (hBg : B ≤ g9)
    (hu : wr.ownsRow g9 3 1 (.slice (some ⟨g9, 0, none⟩) 256 256) 256 (L.map iv)) (hL : L.length = 256)
    (hk : LkF (kf2 (Value.slice aN i kN).ownBlock (vs ++ [.slice (some ⟨g9, 0, none⟩) 256 256]) (Value.slice aL j kL).ownBlock (W.lb.map iv ++ [iv y])) wr w8)
    (ho5 : w8.ownsRow B 26 1 (.slice (some ⟨g5, 0, none⟩) (i + 1) k5) (i + 1) (vs ++ [.slice (some ⟨g9, 0, none⟩) 256 256]))
    (ho6 : w8.ownsRow B 3 1 (.slice (some ⟨g6, 0, none⟩) (j + 1) k6) (j + 1) (W.lb.map iv ++ [iv y]))
    (hl6 : (Value.slice aL j kL).ownBlock = some g6 ∨ wr.heap.size ≤ g6) (hi : W.nx.length = i) (hj : W.lb.length = j) :
    Wdm ((w8.setCell ⟨wb, 1, none⟩ (.slice (some ⟨g5, 0, none⟩) (i + 1) k5)).setCell ⟨wb, 2, none⟩ (.slice (some ⟨g6, 0, none⟩) (j + 1) k6)) B wb vS (.slice (some ⟨g5, 0, none⟩) (i + 1) k5) (.slice (some ⟨g6, 0, none⟩) (j + 1) k6) (vs ++ [.slice (some ⟨g9, 0, none⟩) 256 256]) ⟨W.st, W.nx ++ [L], W.lb ++ [y]⟩ := by
  have h := h0.ext hx
  have hvl : vs.length = i := by have := h0.nx.rn.1; rw [hi] at this; omega
  have hsz : g9 ≤ wr.heap.size := by have := hx.size; omega
  have two : ∀ {B' n e : Nat} {v u1 u2 : Value} {xs : List Value}, w8.ownsRow B' e 1 v n xs → v.ownBlock ≠ some wb → ((w8.setCell ⟨wb, 1, none⟩ u1).setCell ⟨wb, 2, none⟩ u2).ownsRow B' e 1 v n xs := fun ho hne => own_set (own_set ho hne) hne
  have low : ∀ {v : Value} {B' n e : Nat} {xs : List Value}, B ≤ B' → w8.ownsRow B' e 1 v n xs → v.ownBlock ≠ some wb := fun hb ho q => by have := (ho.lt wb q).1; omega
  have keep : ∀ {v : Value} {B' n e : Nat} {xs : List Value}, wr.ownsRow B' e 1 v n xs → (∀ g, v.ownBlock = some g → (Value.slice aN i kN).ownBlock ≠ some g ∧ (Value.slice aL j kL).ownBlock ≠ some g) → w8.ownsRow B' e 1 v n xs := fun ho hne =>
    own_lkf ho hk (fun g N T hg hK k hk => by
      rw [kf2_none (hne g hg).1 (hne g hg).2] at hK; cases hK)
  have NX : ∀ {v : Value} {B' n : Nat} {xs : List Value}, wr.ownsRow B' 3 1 v n xs → ∀ g, v.ownBlock = some g → (Value.slice aN i kN).ownBlock ≠ some g := fun ho g hg q => own_ne_own h.nx.rn ho (by decide) g hg q
  have old : ∀ {v : Value} {B' n : Nat} {xs : List Value}, wo.ownsRow B' 3 1 v n xs → ∀ g, v.ownBlock = some g → g < g9 := fun ho g hg => by have := (ho.lt g hg).2; omega
  have hst := two (u1 := Value.slice (some ⟨g5, 0, none⟩) (i + 1) k5) (u2 := Value.slice (some ⟨g6, 0, none⟩) (j + 1) k6) (keep h.st (fun g hg => ⟨NX h.st g hg, fun q => h.sl g hg q⟩)) (fun q => by have := (h.st.lt wb q).1; omega)
  have hen : ∀ k, k < i → w8.ownsRow B 3 1 (vs.getD k nilS) (W.nx.getD k []).length ((W.nx.getD k []).map iv) := fun k hk => keep (h.nx.en k (by omega)) (fun g hg => ⟨NX (h.nx.en k (by omega)) g hg, fun q => h.rl k (by omega) g q hg⟩)
  have hue := keep hu (fun g hg => ⟨NX hu g hg, fun q => by
    have hg : g9 = g := Option.some.inj hg
    have := old h0.lb g q
    omega⟩)
  have hw : Blk w8 wb #[vS, .slice aN i kN, .slice aL j kL] 81 := hk.blk h.blk (kf2_none (fun q => by have := (h.nx.rn.lt wb q).1; omega) (fun q => by have := (h.lb.lt wb q).1; omega))
  have rowD : ∀ {v : Value}, (∀ g, v.ownBlock = some g → g < g9) → (∀ k, k < i → Dj v (vs.getD k nilS)) → ∀ k, k < i + 1 → Dj v ((vs ++ [Value.slice (some ⟨g9, 0, none⟩) 256 256]).getD k nilS) := fun hv hd k hk => by
    by_cases e : k < i
    · rw [getD_app_l (by omega)]; exact hd k e
    · rw [getD_app_r (by omega)]
      intro g hg q
      have q : g9 = g := Option.some.inj q
      have := hv g hg; omega
  refine ⟨?_, hst, ⟨?_, fun k hk => ?_, fun k k2 hk hk2 hne => ?_⟩, ?_, fun g hg q => ?_, fun k hk => ?_, fun k hk => ?_⟩
  · have := (hw.set 1 (.slice (some ⟨g5, 0, none⟩) (i + 1) k5)).set 2 (.slice (some ⟨g6, 0, none⟩) (j + 1) k6)
    simpa using this
  · show World.ownsRow _ B 26 1 _ (W.nx ++ [L]).length _
    rw [List.length_append, hi]
    exact two ho5 (low (Nat.le_refl _) ho5)
  · have hk : k < i + 1 := by simpa [hi] using hk
    by_cases e : k < i
    · show World.ownsRow _ B 3 1 ((vs ++ [_]).getD k nilS) ((W.nx ++ [L]).getD k []).length (((W.nx ++ [L]).getD k []).map iv)
      rw [getD_app_l (by omega), getD_app_l (by omega)]
      exact two (hen k e) (low (Nat.le_refl _) (hen k e))
    · have e : k = i := by omega
      show World.ownsRow _ B 3 1 ((vs ++ [_]).getD k nilS) ((W.nx ++ [L]).getD k []).length (((W.nx ++ [L]).getD k []).map iv)
      rw [getD_app_r (by omega), getD_app_r (by omega), hL]
      exact (two hue (fun q => by have q : g9 = wb := Option.some.inj q; omega)).mono hBg
  · have hk : k < i + 1 := by simpa [hi] using hk
    have hk2 : k2 < i + 1 := by simpa [hi] using hk2
    intro g hg q
    by_cases e : k < i
    · rw [getD_app_l (by omega)] at hg
      by_cases e2 : k2 < i
      · rw [getD_app_l (by omega)] at q
        exact h.nx.dd k k2 (by omega) (by omega) hne g hg q
      · rw [getD_app_r (by omega)] at q
        have q : g9 = g := Option.some.inj q
        have := old (h0.nx.en k (by omega)) g hg; omega
    · rw [getD_app_r (by omega)] at hg
      have hg : g9 = g := Option.some.inj hg
      rw [getD_app_l (by omega)] at q
      have := old (h0.nx.en k2 (by omega)) g q; omega
  · show World.ownsRow _ B 3 1 _ (W.lb ++ [y]).length ((W.lb ++ [y]).map iv)
    rw [List.length_append, hj, List.map_append]
    exact two ho6 (low (Nat.le_refl _) ho6)
  · have q : g6 = g := Option.some.inj q
    subst q
    rcases hl6 with h6 | h6
    · exact h.sl g6 hg h6
    · have := (h.st.lt g6 hg).2; omega
  · have hk : k < i + 1 := by simpa [hi] using hk
    exact rowD (fun g hg => old h0.st g hg) (fun k3 hk3 => h.rs k3 (by omega)) k hk
  · have hk : k < i + 1 := by simpa [hi] using hk
    intro g hg q
    have hg : g6 = g := Option.some.inj hg
    subst hg
    by_cases e : k < i
    · rw [getD_app_l (by omega)] at q
      rcases hl6 with h6 | h6
      · exact h.rl k (by omega) g6 h6 q
      · have := ((h.nx.en k (by omega)).lt g6 q).2; omega
    · rw [getD_app_r (by omega)] at q
      have q : g9 = g6 := Option.some.inj q
      rcases hl6 with h6 | h6
      · have := old h0.lb g6 h6; omega
      · have := (hu.lt g9 rfl).2; omega
def RLv (B n : Nat) (d : Dd) (v : Value) (w : World) : Prop := ∃ gi, v = .slice (some ⟨gi, 0, none⟩) n n ∧ w.ownsRow B 4 1 (.slice (some ⟨gi, 0, none⟩) n n) n (((List.range n).map d.lv).map bvl)
theorem RLv_mono (B n : Nat) (d : Dd) : G.Mono Ext (RLv B n d) := fun _ _ _ hx ⟨g, h1, h2⟩ => ⟨g, h1, own_ex h2 hx⟩
set_option maxHeartbeats 8000000 in
set_option maxRecDepth 20000 in
theorem wput_any (d : Dd) (vd : Value) (w0 w : World) {B wb : Nat} {vS vN vL : Value} {vs : List Value} {W : Wd} (hd : d.Ok) (hD : Dns w0 vd d) (hx : Ext w0 w) (h : Wdm w B wb vS vN vL vs W) (hw0 : w0.heap.size ≤ wb) (hB : wb < B) (hBw : B ≤ w.heap.size)
    (hlen : W.nx.length + d.nx.length ≤ 600) (hlb : W.lb.length = W.nx.length) (hst : W.st.length ≤ 100) :
    Calls Tryd.prog 49 #[.pointer (some ⟨wb, 0, none⟩), vd] w fun e w' => e = .returned (.tuple #[]) ∧ ∃ vS' vN' vL' vs', Wdm w' B wb vS' vN' vL' vs' (W.put d) ∧ Ext w0 w' ∧ w.heap.size ≤ w'.heap.size := by
  obtain ⟨i0, hi, hz0, hz1, hz2⟩ := info_parts info_int
  obtain ⟨j0, hj, hy0, hy1, hy2⟩ := info_parts info_sli
  obtain ⟨va, vb, rfl, h1, h2⟩ := hD
  have hD0 : Dns w0 (.agg #[va, vb]) d := ⟨va, vb, rfl, h1, h2⟩
  have HSL := Lib.hid (fun g hg => (h.st.lt g hg).2)
  have HLL := Lib.hid (fun g hg => (h.lb.lt g hg).2)
  obtain ⟨a1, c1, rfl, _⟩ := h1.shape
  obtain ⟨a2, c2, rfl, _⟩ := h2.shape
  have hE0 := ext_box w #[.slice a1 d.nx.length c1, .slice a2 d.lb.length c2] 62
  have HB0 := Lib.hid (Blk.new w #[.slice a1 d.nx.length c1, .slice a2 d.lb.length c2] 62)
  have HW := Lib.hid (h.ext hE0)
  have HX := Lib.hid (bel_call hx hE0)
  have HE0 := Lib.hid hE0
  have HLV := Lib.hid (fun w1 (hx1 : Ext w0 w1) => living_any d _ w1 hd (hD0.ext hx1))
  have H1 := Lib.hid h1
  have H2 := Lib.hid h2
  have HD := Lib.hid hd
  have h6 := hd.le
  obtain ⟨aN, cN, hvN⟩ := own_shp h.nx.rn
  obtain ⟨n, hn⟩ : ∃ n, d.nx.length = n := ⟨_, rfl⟩
  obtain ⟨b, hb⟩ : ∃ b, W.nx.length = b := ⟨_, rfl⟩
  have HBB := Lib.hid hb
  have hlbn : d.lb.length = n := by rw [← hn]; exact hd.lbl
  rw [hb] at hvN hlen
  rw [hn] at h6 hlen
  rw [hn, hlbn] at HB0 HX HE0 HW HLV
  rw [hn] at H1
  rw [hlbn] at H2
  rw [hn, hlbn]
  have HN := Lib.hid hn
  have HLN := Lib.hid hlbn
  subst hvN
  have HLB := Lib.hid (hlb.trans hb)
  clear h h1 h2 hD0 hE0 hx hd hn hb hlbn hlb
  go_enter Tryd.func49, Tryd.ntmps49
  go_upto_region 1 with fail
  generalize hw1 : w.alloc (.cells #[.slice a1 n c1, .slice a2 n c2] 62) = w1 at *
  have hs1 : w1.heap.size = w.heap.size + 1 := by rw [← hw1]; simp
  clear hw1
  refine G.wp_region_stab (G := Ext) (RsF [(6, RLv w.heap.size n d)]) (by kernel_rfl) (by kernel_rfl) (RsF_mono (by simp only [List.forall_mem_cons, List.not_mem_nil, false_implies, implies_true, and_true]; exact RLv_mono _ _ _)) (fun hex => ?_)
  iterate 6
    (refine G.wpS_one (A := ?_) hex rfl rfl (by simp) ?_ ?_ ?_
     rotate_left 2
     · intro w' hC K hK
       have y0 := (HW.out.blk.ext hC.1).cell 1; have x0 := (HB0.out.ext hC.1).cell 0; have x1 := (HB0.out.ext hC.1).cell 1
       go_wp2_with (fail)
       refine hK _ ?_
       first | exact Below.refl _ _ | assumption | ((repeat' (first | (with_reducible exact Below.refl _ _) | (with_reducible assumption) | (with_reducible refine below_drewN ?_ _) | (with_reducible refine Below.alloc ?_ ?_ _) | (with_reducible refine Below.drew ?_) | (with_reducible refine Below.setCell ?_ ?_ _) | (with_reducible refine Below.trans ?_ (Below.mono (by with_reducible assumption) ?_)) | go_size)))
     rotate_left 1
     · rfl
     clear hex; intro hex)
  refine G.wpS_rel (RLv w.heap.size n d) rfl rfl (by simp) (by first | rfl | (simp [Region.wanted, yielded]; done)) ?_ ?_
  · intro w' hC K hK
    simp only [Act.put, List.setIfInBounds_toArray, List.set_cons_succ, List.set_cons_zero] at hK
    skip
    go_wp2_with (refine (HLV.out w' (bel_call HX.out hC.1)).mono ?_; rintro e w9 ⟨g9, rfl, o9, x9⟩)
    refine hK _ _ ?_ ?_
    · first | exact Below.refl _ _ | assumption | ((repeat' (first | (with_reducible exact Below.refl _ _) | (with_reducible assumption) | (with_reducible refine below_drewN ?_ _) | (with_reducible refine Below.alloc ?_ ?_ _) | (with_reducible refine Below.drew ?_) | (with_reducible refine Below.setCell ?_ ?_ _) | (with_reducible refine Below.trans ?_ (Below.mono (by with_reducible assumption) ?_)) | go_size)))
    · exact ⟨g9, rfl, o9.mono (by have := hC.1.size; omega)⟩
  clear hex
  intro v6 w' hex hv6
  replace hex := Exists.intro w' hex
  simp only [Act.put, List.setIfInBounds_toArray, List.set_cons_succ, List.set_cons_zero]
  obtain ⟨g6, rfl, -⟩ := hv6
  iterate 2
    (refine G.wpS_one (A := ?_) hex rfl rfl (by simp) ?_ ?_ ?_
     rotate_left 2
     · intro w' hC K hK
       go_wp2_with (fail)
       refine hK _ ?_
       first | exact Below.refl _ _ | assumption | ((repeat' (first | (with_reducible exact Below.refl _ _) | (with_reducible assumption) | (with_reducible refine below_drewN ?_ _) | (with_reducible refine Below.alloc ?_ ?_ _) | (with_reducible refine Below.drew ?_) | (with_reducible refine Below.setCell ?_ ?_ _) | (with_reducible refine Below.trans ?_ (Below.mono (by with_reducible assumption) ?_)) | go_size)))
     rotate_left 1
     · rfl
     clear hex; intro hex)
  refine G.wpS_nil fun w2 hAll => ?_
  have hE := hAll.1
  obtain ⟨g6', e6, ol⟩ := (hAll.2 6).1 rfl
  cases e6
  have HEN := entf_any d b g6 w2 (by omega) (by rw [HN.out]; exact h6) (B0 := w.heap.size) (by rw [HN.out]; exact ol)
  rw [HN.out] at HEN
  have HEN := Lib.hid HEN
  have W2 := Lib.hid (HW.out.ext hE)
  have X2 := Lib.hid (bel_call HX.out hE)
  have B2 := Lib.hid (HB0.out.ext hE)
  have hs2 := hE.size
  clear hAll hex hE ol HW HX HB0 HLV HE0
  go_wp2_with fail
  refine HEN.out.mono ?_
  rintro e w3 ⟨v1, v2, rfl, o1, o2, x3⟩
  have W3 := W2.out.ext x3
  have X3 := bel_call X2.out x3
  have B3 := B2.out.ext x3
  have hs3 := x3.size
  obtain ⟨a5, c5, e5⟩ := own_shp o1
  obtain ⟨a8, c8, e8⟩ := own_shp o2
  obtain ⟨aS, cS, eS⟩ := own_shp W3.st
  obtain ⟨aL, cL, eL⟩ := own_shp W3.lb
  subst e5 e8 eS eL
  obtain ⟨m5, hm5⟩ : ∃ m5, W.st.length = m5 := ⟨_, rfl⟩
  obtain ⟨K, hK⟩ : ∃ K, d.kept.length = K := ⟨_, rfl⟩
  have HS := W3.st
  rw [hm5] at hst HS HSL
  rw [HLB.out] at HLL
  have HS := Lib.hid HS
  have W3' := W3
  rw [hm5] at W3'
  rw [hK] at o2
  have z0 := W3'.blk.cell 0
  rw [HLB.out] at W3'
  have HM5 := Lib.hid hm5
  have HK := Lib.hid hK
  have O1 := Lib.hid o1
  have O2 := Lib.hid o2
  have W3 := Lib.hid W3'
  have X3 := Lib.hid X3
  have B3 := Lib.hid B3
  rw [hK]
  clear o1 o2 W3' x3 hm5 hK HEN W2 X2 B2
  go_wp2_with (at_builtin; refine wpList_append_own_at _ rfl (.tmp 30) (.tmp 32) 26 rfl B 3 i0 (.int .i64 0) 1 8 Tryd.underlying26 hi hz0 hz1 hz2 rfl (by decide) _ _ _ rfl (HS.out.alloc _) ⟨_, 0, none⟩ 1 1 [nv b] rfl rfl (cell_nwb _ [nv b] _ _ (by simp)) (iv_one _) (by unfold maxLen; omega) (by omega) (by simp; omega) ?_; intro v6 w6 hown6 hgrow6 hnil6 hloc6; obtain ⟨a6, c6, rfl⟩ := own_shp hown6; have F6 := Lib.hid (show Fr (fun g => (Value.slice aS m5 cS).ownBlock = some g) w3 w6 from ap_fr hgrow6); have B6 := F6.out.blk W3.out.blk (fun q => by have := (HS.out.lt wb q).1; omega); have x0 := B6.cell 0; have x1 := B6.free 0; clear B6)
  have hloc : ∀ g, (Value.slice a6 (m5 + 1) c6).ownBlock = some g → (Value.slice aS m5 cS).ownBlock = some g ∨ w3.heap.size ≤ g := by
    intro g hg
    rcases hloc6 with h | h
    · rw [h] at hg; exact .inl hg
    · rw [h] at hg; have hg := Option.some.inj hg; simp at hg; exact .inr (by omega)
  have hsz6 := F6.out.2.2.2.1
  have HI := Lib.hid (show WpI w0 w3 (w6.setCell ⟨wb, 0, none⟩ (.slice a6 (m5 + 1) c6)) B wb w.heap.size n c1 c2 a1 a2 (.slice a6 (m5 + 1) c6) (.slice aN b cN) (.slice aL b cL) (.slice a5 n c5) (.slice a8 K c8) vs (W.upto d 0) d b from
    ⟨by
      have S6 := Wdm.start (x := b) W3.out hB F6.out (by rw [HM5.out]; exact hown6) hloc
      have e : W.upto d 0 = ⟨W.st ++ [(b : Int)], W.nx, W.lb⟩ := by unfold Wd.upto; rw [HBB.out]; simp
      rw [e]; exact S6,
     own_set (F6.out.own (O1.out.mono (by omega)) (fun g hg q => by have := (O1.out.lt g hg).1; have := HSL.out g q; omega)) (fun q => by have := (O1.out.lt wb q).1; omega),
     by rw [HK.out]; exact own_set (F6.out.own (O2.out.mono (by omega)) (fun g hg q => by have := (O2.out.lt g hg).1; have := HSL.out g q; omega)) (fun q => by have := (O2.out.lt wb q).1; omega),
     fun g hg q => by have := (O1.out.lt g q).1; have := HLL.out g hg; omega,
     fun g hg q => by have := (O2.out.lt g q).1; have := HLL.out g hg; omega,
     (ap_ext X3.out (by omega) HS.out F6.out).setCell (p := ⟨wb, 0, none⟩) hw0 _,
     (F6.out.blk B3.out (fun q => by have := HSL.out _ q; omega)).set_other (a := ⟨wb, 0, none⟩) (by show wb ≠ w.heap.size; omega) _,
     by simp; omega⟩)
  have hBw3 : B ≤ w3.heap.size := by omega
  have HWI := Lib.hid (show ∃ w7, w6.setCell ⟨wb, 0, none⟩ (.slice a6 (m5 + 1) c6) = w7 from ⟨_, rfl⟩)
  clear hown6 hgrow6 hnil6 hloc6 hloc x0 x1 z0 HWI F6
  generalize w6.setCell ⟨wb, 0, none⟩ (.slice a6 (m5 + 1) c6) = w7 at *
  go_loopw [38] (fun s38 wr => ∃ k : Nat, k ≤ K ∧ s38 = .int .i64 k ∧ ∃ vS vN vL vs, Hid (WpI w0 w3 wr B wb w.heap.size n c1 c2 a1 a2 vS vN vL (.slice a5 n c5) (.slice a8 K c8) vs (W.upto d k) d b)) (fun s38 _ => K - (intOf s38).toNat)
  case atStart => exact ⟨0, Nat.zero_le _, rfl, _, _, _, _, HI⟩
  case round =>
    clear HI
    obtain ⟨k, hk, rfl, vS, vN, vL, vs, hI⟩ := hrel
    by_cases hkl : k < K
    · have hkk : k < d.kept.length := by rw [HK.out]; exact hkl
      obtain ⟨hs1, hs2, hs3⟩ := Dd.rk_kept hkk
      obtain ⟨s, hs⟩ : ∃ s, d.kept[k] = s := ⟨_, rfl⟩
      have o2 := hI.out.e2
      rw [HK.out] at o2
      obtain ⟨g8, k8, e8, -, hg8, hg8l, -⟩ := own_some o2 (by omega)
      cases e8
      have y0 : wr.cell? ⟨g8, k, none⟩ = some (.int .i64 (s : Int)) := by
        rw [o2.cellAt k (by omega), List.getElem?_map, List.getElem?_eq_getElem hkk, hs]; rfl
      rw [hs, HN.out] at hs1
      have HS9 := Lib.hid hs
      have x0 := hI.out.bx.cell 0
      clear o2 hs2 hs3 hs
      go_upto_region 8 with (at_make; refine wpList_make_full _ rfl _ _ 26 rfl wr.heap.size 3 i0 (.int .i64 0) 1 Tryd.underlying26 hi hz0 hz1 .i64 .i64 _ _ 256 rfl rfl rfl rfl (by rw [hz2]; omega) (by unfold maxLen; omega) (by omega) ?_; intro wm hown hgm)
      have z3 := toList_madeCells_one (.int .i64 0) 256
      have hown2 : wm.ownsRow wr.heap.size 3 1 (.slice (some ⟨wr.heap.size, 0, none⟩) 256 256) 256 ((wfil d b s 0).map iv) := by
        rw [wfil_zero, List.map_replicate, show iv 0 = Value.int .i64 0 from rfl, ← z3]; simpa [Value.cells] using hown
      have EM := Lib.hid (show Ext wr wm from ⟨hgm.os, hgm.tape, hgm.output, hgm.size, fun k hk => hgm.block k hk (by simp)⟩)
      obtain ⟨g9, hg9⟩ : ∃ g9, wr.heap.size = g9 := ⟨_, rfl⟩
      rw [hg9] at hown2
      simp only [hg9]
      have HG9 := Lib.hid hg9
      have HR := Lib.hid hown2
      have hg9m : g9 < wm.heap.size := (hown2.lt g9 rfl).2
      have hsn : s < d.nx.length := by rw [HN.out]; exact hs1
      obtain ⟨bR, oR, aR, cR, rfl, hbR, hcR, hIR, _⟩ := H1.out.cell hsn
      have hrl : d.nx[s].length = 256 := by have := HD.out.row s hsn; rwa [getD_get hsn] at this
      rw [hrl] at hcR
      have HIR := Lib.hid hIR
      have HRL := Lib.hid hrl
      have XM := Lib.hid (bel_call hI.out.ext EM.out)
      have kR : wm.cell? ⟨bR, oR + s, none⟩ = _ := (XM.out.cell (p := ⟨bR, oR + s, none⟩) hbR).trans hcR
      have x1 := (hI.out.bx.ext EM.out).cell 0
      have hw0g : w0.heap.size ≤ g9 := by have := hI.out.ext.size; omega
      clear hown hown2 hgm z3 hIR hrl hcR x0 y0 hg9
      go_wp2_with fail
      clear kR x1
      obtain ⟨wo, rfl⟩ : ∃ wo : World, wo = wr := ⟨_, rfl⟩
      go_loopw [49] (fun s49 wr => ∃ c : Nat, c ≤ 256 ∧ s49 = .int .i64 c ∧ Hid (wr.ownsRow g9 3 1 (.slice (some ⟨g9, 0, none⟩) 256 256) 256 ((wfil d b s c).map iv)) ∧ Hid (Fr (fun g => g = g9) wm wr)) (fun s49 _ => 256 - (intOf s49).toNat)
      case atStart => exact ⟨0, Nat.zero_le _, rfl, HR, Lib.hid (Fr.refl _ _)⟩
      case round =>
        clear HR
        obtain ⟨c, hc, rfl, hO, hF⟩ := hrel
        by_cases hcl : c < 256
        · obtain ⟨bE, oE, rfl, hbE, hcE, -, -⟩ := HIR.out.cell (show c < d.nx[s].length by rw [HRL.out]; omega)
          have hent := HD.out.ent s c hsn hcl
          have hee : d.nx[s][c]'(by rw [HRL.out]; omega) = ((d.to s c : Nat) : Int) := by
            have : d.ent s c = d.nx[s][c]'(by rw [HRL.out]; omega) := by unfold Dd.ent; rw [getD_get hsn, getD_get]
            unfold Dd.to
            rw [this] at hent ⊢
            omega
          have htt := HD.out.to hsn hcl
          rw [HN.out] at htt
          rw [hee] at hcE
          have kE : wr.cell? ⟨bE, oE + c, none⟩ = _ := hF.out.cell ((XM.out.cell (p := ⟨bE, oE + c, none⟩) hbE).trans hcE) (fun q => by have q : bE = g9 := q; omega)
          have e1 := own_ex hI.out.e1 EM.out
          obtain ⟨g5, k5, e5, -, hg5, hg5l, -⟩ := own_some hI.out.e1 (by omega)
          cases e5
          have z2 : wm.cell? ⟨g5, d.to s c, none⟩ = some (.int .i64 (d.num b (d.to s c))) := by
            rw [e1.cellAt _ (by omega)]
            simp [enE, htt]
          have k2 := hF.out.cell z2 (fun q => by have q : g5 = g9 := q; have := HG9.out; omega)
          have HSET := Lib.hid (wfil_set (d := d) (b := b) (s := s) hcl)
          obtain ⟨tt, htq⟩ : ∃ tt, d.to s c = tt := ⟨_, rfl⟩
          obtain ⟨y, hy⟩ : ∃ y, d.num b (d.to s c) = y := ⟨_, rfl⟩
          rw [hy] at k2 HSET
          rw [htq] at k2 kE htt
          obtain ⟨y0, y1⟩ : ∃ u, wr.cell? ⟨g9, c, none⟩ = some u := ⟨_, by rw [hO.out.cellAt c (by omega)]; exact List.getElem?_eq_getElem (by rw [hO.out.1]; omega)⟩
          have y2 := hO.out.frozenAt c
          have O9 := (hO.out.stored c (iv y)).1
          rw [← List.map_set, HSET.out] at O9
          have O9 := Lib.hid O9
          have F9 := Lib.hid (hF.out.set (b := g9) (i := c) (.inl rfl) (iv y))
          clear hent hee hcE e1 z2 htq hy HSET
          go_wp2_with fail
          go_roundw
          case rel => exact ⟨c + 1, by omega, by go_num, O9, F9⟩
          case measure => simp [intOf]; omega
        · have ec : c = 256 := by omega
          subst ec
          have HO := hO.out
          rw [wfil_all] at HO
          have HO := Lib.hid HO
          have XR := Lib.hid (show Ext wo wr from Below.trans EM.out (hF.out.below (by have := HG9.out; omega) (fun g hg q => by have := HG9.out; omega)))
          have WR := hI.out.into XR.out
          obtain ⟨aV, kV, eV⟩ := own_shp WR.wd.nx.rn
          obtain ⟨aW, kW, eW⟩ := own_shp WR.wd.lb
          subst eV eW
          have hilen : (W.upto d k).nx.length = b + k := by
            unfold Wd.upto
            simp only [List.length_append, List.length_map, List.length_take, HBB.out]
            omega
          have hjlen : (W.upto d k).lb.length = b + k := by
            unfold Wd.upto
            simp only [List.length_append, List.length_map, List.length_take, HLB.out]
            omega
          have hKn : K ≤ n := by rw [← HK.out, ← HN.out, Dd.kept_len]; exact Dd.rk_le d _
          have hi6 : b + k ≤ 600 := by omega
          have ON := WR.wd.nx.rn
          have OL := WR.wd.lb
          have hbk : ∃ i, b + k = i := ⟨_, rfl⟩
          obtain ⟨i, hbki⟩ := hbk
          rw [hbki] at hilen hjlen hi6
          have HI := Lib.hid hilen
          have HJ := Lib.hid hjlen
          rw [hilen] at ON
          rw [hjlen] at OL
          rw [hilen, hjlen] at WR
          obtain ⟨ls, hls⟩ : ∃ ls, (W.upto d k).lb = ls := ⟨_, rfl⟩
          have HLS := Lib.hid hls
          obtain ⟨bL, oL, rfl, hbL, hcL, -, -⟩ := H2.out.cell (k := s) (by rw [HLN.out]; exact hs1)
          obtain ⟨y, hy⟩ : ∃ y, d.lab s = y := ⟨_, rfl⟩
          have hyy : d.lb[s]'(by rw [HLN.out]; exact hs1) = y := by rw [← hy]; unfold Dd.lab; rw [getD_get (by rw [HLN.out]; exact hs1)]
          rw [hyy] at hcL
          have k0 : wr.cell? ⟨wb, 1, none⟩ = some (.slice aV i kV) := WR.wd.blk.cell 1
          have k1 : wr.cell? ⟨wb, 2, none⟩ = some (.slice aW i kW) := WR.wd.blk.cell 2
          have k2 : wr.cell? ⟨w.heap.size, 1, none⟩ = some (.slice (some ⟨bL, oL, none⟩) n c2) := WR.bx.cell 1
          have k4 : wr.cell? ⟨bL, oL + s, none⟩ = _ := (WR.ext.cell (p := ⟨bL, oL + s, none⟩) hbL).trans hcL
          have hne : ∀ g, (Value.slice aV i kV).ownBlock = some g → (Value.slice aW i kW).ownBlock ≠ some g := fun g p q => own_ne_own ON OL (by decide) g q p
          have HX1 := Lib.hid (fun g (hg : (Value.slice aV i kV).ownBlock = some g) => (ON.lt g hg))
          have HX2 := Lib.hid (fun g (hg : (Value.slice aW i kW).ownBlock = some g) => (OL.lt g hg))
          have HNE := Lib.hid hne
          have HKN := Lib.hid (fun g (h1 : (Value.slice aV i kV).ownBlock ≠ some g) (h2 : (Value.slice aW i kW).ownBlock ≠ some g) => kf2_none (ys1 := vs ++ [.slice (some ⟨g9, 0, none⟩) 256 256]) (ys2 := ls.map iv ++ [iv y]) h1 h2)
          have HKH := Lib.hid (fun g (hg : wr.heap.size ≤ g) => HKN.out g (fun q => by have := HX1.out g q; omega) (fun q => by have := HX2.out g q; omega))
          have HKB := Lib.hid (fun g (hg : g < B) => HKN.out g (fun q => by have := HX1.out g q; omega) (fun q => by have := HX2.out g q; omega))
          have nW := Lib.hid (HKB.out wb hB)
          have nX := Lib.hid (HKN.out w.heap.size (own_ne_blk ON WR.bx (by decide)) (own_ne_blk OL WR.bx (by decide)))
          have nL := Lib.hid (HKB.out bL (by omega))
          rw [hls] at OL
          have hbase : B ≤ wr.heap.size := by have := XR.out.size; omega
          have hvl : vs.length = i := by have := ON.1; omega
          have ON := Lib.hid ON
          have OL := Lib.hid OL
          have WR := Lib.hid WR
          have HYY := Lib.hid hy
          have K0 := Lib.hid k0
          have K1 := Lib.hid k1
          have K2 := Lib.hid k2
          have K4 := Lib.hid k4
          have HBK := Lib.hid hbki
          clear k0 k1 k2 k4 hne hy hyy hcL hls hilen hjlen hbki hO
          go_upto_region 13 with fail
          refine wp_region_any (by kernel_rfl) ?_
          refine wpAny_take (i := 0) (v := .pointer (some ⟨wb, 0, none⟩)) rfl (by kernel_rfl) (by kernel_rfl) (by kernel_rfl) (fun _ _ _ h => h) (Or.inl ⟨by rfl, fun _ => rfl⟩) ?_
          refine wpAny_take (i := 1) (v := .pointer (some ⟨wb, 0, none⟩)) rfl (by kernel_rfl) (by kernel_rfl) (by kernel_rfl) (fun _ _ _ h => h) (Or.inl ⟨by rfl, fun _ => rfl⟩) ?_
          simp only [Act.put, List.setIfInBounds_toArray]
          refine G.wpAny_tailM (G := LkF (kf2 (Value.slice aV i kV).ownBlock (vs ++ [.slice (some ⟨g9, 0, none⟩) 256 256]) (Value.slice aW i kW).ownBlock (ls.map iv ++ [iv y]))) (V := wr) (RsL 7 8 18 19 (OneV wr.heap.size 26 [.slice (some ⟨g9, 0, none⟩) 256 256]) (AppR wr.heap.size B 26 1 (i + 1) (Value.slice aV i kV).ownBlock (vs ++ [.slice (some ⟨g9, 0, none⟩) 256 256])) (OneV wr.heap.size 3 [iv y]) (AppR wr.heap.size B 3 1 (i + 1) (Value.slice aW i kW).ownBlock (ls.map iv ++ [iv y]))) (G.GOK.draw _) 22 2 _ (by kernel_rfl) (RsL_mono (OneV_lkf _ HKH.out _ _) (AppR_lkf _ _ _ _ _ _ _ (kf2_app1 (fun g hg => (HX1.out g hg).2) (fun g hg => (HX2.out g hg).2))) (OneV_lkf _ HKH.out _ _) (AppR_lkf _ _ _ _ _ _ _ (kf2_app2 HNE.out (fun g hg => (HX1.out g hg).2) (fun g hg => (HX2.out g hg).2)))) (fun hex => ?_)
          simp only [List.take_succ_cons, List.take_zero, List.drop_succ_cons, List.drop_zero]
          iterate 5
            (refine G.wpS_one (A := ?_) hex rfl rfl (by simp) ?_ ?_ ?_
             rotate_left 2
             · intro w' hC K hK
               have z1 := lkf_cell hC.1 nW.out K0.out
               go_wp2_with (fail)
               refine hK _ ?_
               first | exact LkF.refl _ | exact LkF.of_ext (by assumption)
             rotate_left 1
             · rfl
             clear hex; intro hex)
          refine G.wpS_rel (OneV (wr.heap.size) (26) ([.slice (some ⟨g9, 0, none⟩) 256 256])) rfl rfl (by simp) (by first | rfl | (simp [Region.wanted, yielded]; done)) ?_ ?_
          · intro w' hC K hK
            simp only [Act.put, List.setIfInBounds_toArray, List.set_cons_succ, List.set_cons_zero] at hK
            go_wp2_with fail
            exact hK _ _ (LkF.of_ext ((Below.refl _ _).alloc (Nat.le_refl _) _)) ⟨_, rfl, Blk.new _ _ _, hC.1.1.2.2.2⟩
          clear hex
          intro v w' hex hv
          replace hex := Exists.intro w' hex
          simp only [Act.put, List.setIfInBounds_toArray, List.set_cons_succ, List.set_cons_zero]
          obtain ⟨b1, rfl, hv, hb1⟩ := hv
          clear hv
          refine G.wpS_rel (AppR wr.heap.size B 26 1 (i + 1) (Value.slice aV i kV).ownBlock (vs ++ [.slice (some ⟨g9, 0, none⟩) 256 256])) rfl rfl (by simp) (by first | rfl | (simp [Region.wanted, yielded]; done)) ?_ ?_
          · intro w' hC K hK
            simp only [Act.put, List.setIfInBounds_toArray, List.set_cons_succ, List.set_cons_zero] at hK
            obtain ⟨b9, e9, hB9, _⟩ := (hC.2 7 (by simp [Region.binds])).1 rfl
            cases e9
            have hown' := own_lkf ON.out hC.1 (fun g N T hg hK j hj => by rw [kf2_one g hg] at hK; cases hK; exact ⟨by rw [List.length_append]; omega, by simp [List.getElem?_append_left hj]⟩)
            refine wpList_append_lko _ rfl (.tmp 67) (.tmp 69) 27 rfl B 26 j0 _ 1 24 Tryd.underlying27 hj hy0 hy1 hy2 rfl (by decide) _ i vs rfl hown' ⟨b1, 0, none⟩ 1 1 [.slice (some ⟨g9, 0, none⟩) 256 256] rfl rfl (World.news_of_block hB9) (fun u hu => by rw [List.mem_singleton.1 hu]; rfl) (by decide) (by unfold maxLen; omega) (by omega) (Nat.le_trans hbase hC.1.1.2.2.2) ?_
            intro g8 cap8 w8 hown8 hv8 hg8 hlk8
            simp only [wpList]
            refine hK _ _ (LkF.of_lko hlk8 (kf2_one)) ⟨g8, cap8, rfl, hown8, ?_, hg8⟩
            rcases hv8 with h | h
            · exact .inl h
            · exact .inr (by have := hC.1.1.2.2.2; omega)
          clear hex
          intro v w' hex hv
          replace hex := Exists.intro w' hex
          simp only [Act.put, List.setIfInBounds_toArray, List.set_cons_succ, List.set_cons_zero]
          obtain ⟨g5, cap5, rfl, hv, hloc5, hv2⟩ := hv
          clear hv hv2
          iterate 9
            (refine G.wpS_one (A := ?_) hex rfl rfl (by simp) ?_ ?_ ?_
             rotate_left 2
             · intro w' hC K hK
               have z1 := lkf_cell hC.1 nW.out K1.out; have z2 := lkf_cell hC.1 nX.out K2.out; have z4 := lkf_cell hC.1 nL.out K4.out
               go_wp2_with (fail)
               refine hK _ ?_
               first | exact LkF.refl _ | exact LkF.of_ext (by assumption)
             rotate_left 1
             · rfl
             clear hex; intro hex)
          refine G.wpS_rel (OneV (wr.heap.size) (3) ([iv y])) rfl rfl (by simp) (by first | rfl | (simp [Region.wanted, yielded]; done)) ?_ ?_
          · intro w' hC K hK
            simp only [Act.put, List.setIfInBounds_toArray, List.set_cons_succ, List.set_cons_zero] at hK
            go_wp2_with fail
            exact hK _ _ (LkF.of_ext ((Below.refl _ _).alloc (Nat.le_refl _) _)) ⟨_, rfl, Blk.new _ _ _, hC.1.1.2.2.2⟩
          clear hex
          intro v w' hex hv
          replace hex := Exists.intro w' hex
          simp only [Act.put, List.setIfInBounds_toArray, List.set_cons_succ, List.set_cons_zero]
          obtain ⟨b2, rfl, hv, hb2⟩ := hv
          clear hv
          refine G.wpS_rel (AppR wr.heap.size B 3 1 (i + 1) (Value.slice aW i kW).ownBlock (ls.map iv ++ [iv y])) rfl rfl (by simp) (by first | rfl | (simp [Region.wanted, yielded]; done)) ?_ ?_
          · intro w' hC K hK
            simp only [Act.put, List.setIfInBounds_toArray, List.set_cons_succ, List.set_cons_zero] at hK
            obtain ⟨b9, e9, hB9, _⟩ := (hC.2 18 (by simp [Region.binds])).1 rfl
            cases e9
            have hown' := own_lkf OL.out hC.1 (fun g N T hg hK j hj => by rw [kf2_two HNE.out g hg] at hK; cases hK; exact ⟨by rw [List.length_append]; omega, by simp [List.getElem?_append_left hj]⟩)
            refine wpList_append_lko _ rfl (.tmp 74) (.tmp 80) 26 rfl B 3 i0 _ 1 8 Tryd.underlying26 hi hz0 hz1 hz2 rfl (by decide) _ i (ls.map iv) rfl hown' ⟨b2, 0, none⟩ 1 1 [iv y] rfl rfl (World.news_of_block hB9) (iv_one _) (by decide) (by unfold maxLen; omega) (by omega) (Nat.le_trans hbase hC.1.1.2.2.2) ?_
            intro g8 cap8 w8 hown8 hv8 hg8 hlk8
            simp only [wpList]
            refine hK _ _ (LkF.of_lko hlk8 (kf2_two HNE.out)) ⟨g8, cap8, rfl, hown8, ?_, hg8⟩
            rcases hv8 with h | h
            · exact .inl h
            · exact .inr (by have := hC.1.1.2.2.2; omega)
          clear hex
          intro v w' hex hv
          replace hex := Exists.intro w' hex
          simp only [Act.put, List.setIfInBounds_toArray, List.set_cons_succ, List.set_cons_zero]
          obtain ⟨g6, cap6, rfl, hv, hloc6, hv2⟩ := hv
          clear hv hv2
          iterate 2
            (refine G.wpS_one (A := ?_) hex rfl rfl (by simp) ?_ ?_ ?_
             rotate_left 2
             · intro w' hC K hK
               go_wp2_with (fail)
               refine hK _ ?_
               first | exact LkF.refl _ | exact LkF.of_ext (by assumption)
             rotate_left 1
             · rfl
             clear hex; intro hex)
          refine G.wpS_nil fun w8 hAll => ?_
          obtain ⟨g6', cap6', e6, o6, _, _⟩ := (hAll.2 19).1 rfl
          cases e6
          obtain ⟨g5', cap5', e5, o5, _, _⟩ := (hAll.2 8).2.2.1 rfl
          cases e5
          have B8 := hAll.1.blk WR.out.wd.blk nW.out
          have x1 := B8.cell 1
          have f1 := B8.free 1
          have x2 := (B8.set 1 (.slice (some ⟨g5, 0, none⟩) (i + 1) cap5)).cell 2
          have f2 := (B8.set 1 (.slice (some ⟨g5, 0, none⟩) (i + 1) cap5)).free 2
          have hgen : ∀ {v : Value} {B' n : Nat} {xs : List Value}, wr.ownsRow B' 3 1 v n xs → Dj (.slice aW i kW) v → w8.ownsRow B' 3 1 v n xs := fun ho hd =>
            own_lkf ho hAll.1 (fun g N T hg hK j hj => by
              have hz := kf2_none (ys1 := vs ++ [.slice (some ⟨g9, 0, none⟩) 256 256]) (ys2 := ls.map iv ++ [iv y]) (own_ne_own ON.out ho (by decide) g hg) (fun q => hd g q hg)
              rw [hz] at hK; cases hK)
          have hdj : ∀ {v : Value} {B' n : Nat} {xs : List Value}, wr.ownsRow B' 3 1 v n xs → Dj (.slice aW i kW) v → Dj (.slice (some ⟨g6, 0, none⟩) (i + 1) cap6) v := fun ho hd g hg q => by
            have hg : g6 = g := Option.some.inj hg
            subst hg
            rcases hloc6 with h | h
            · exact hd g6 h q
            · have := (ho.lt g6 q).2; omega
          have WN := Lib.hid (show WpI w0 w3 ((w8.setCell ⟨wb, 1, none⟩ (.slice (some ⟨g5, 0, none⟩) (i + 1) cap5)).setCell ⟨wb, 2, none⟩ (.slice (some ⟨g6, 0, none⟩) (i + 1) cap6)) B wb w.heap.size n c1 c2 (some ⟨bR, oR, none⟩) (some ⟨bL, oL, none⟩) vS (.slice (some ⟨g5, 0, none⟩) (i + 1) cap5) (.slice (some ⟨g6, 0, none⟩) (i + 1) cap6) (.slice a5 n c5) (.slice (some ⟨g8, 0, none⟩) K c8) (vs ++ [.slice (some ⟨g9, 0, none⟩) 256 256]) (W.upto d (k + 1)) d b from by
            have W0 := hI.out.wd
            rw [HI.out, HJ.out] at W0
            refine ⟨?_, own_set (own_set (hgen WR.out.e1 WR.out.d1) (fun q => by have := (WR.out.e1.lt wb q).1; omega)) (fun q => by have := (WR.out.e1.lt wb q).1; omega), own_set (own_set (hgen WR.out.e2 WR.out.d2) (fun q => by have := (WR.out.e2.lt wb q).1; omega)) (fun q => by have := (WR.out.e2.lt wb q).1; omega), hdj WR.out.e1 WR.out.d1, hdj WR.out.e2 WR.out.d2, ?_, ?_, ?_⟩
            · rw [Wd.upto_succ W hkk, HBB.out, HS9.out, HYY.out]
              exact Wdm.more W0 XR.out HG9.out hB (by have := hI.out.sz; have := HG9.out; omega) HO.out (wrow_len _ _ _) (by rw [HLS.out]; exact hAll.1) o5 (by rw [HLS.out]; exact o6) hloc6 HI.out HJ.out
            · exact ((Below.trans WR.out.ext (hAll.1.below WR.out.ext.size (fun k hk => HKB.out k (by omega)))).setCell (p := ⟨wb, 1, none⟩) hw0 _).setCell (p := ⟨wb, 2, none⟩) hw0 _
            · exact ((hAll.1.blk WR.out.bx nX.out).set_other (a := ⟨wb, 1, none⟩) (by show wb ≠ w.heap.size; omega) _).set_other (a := ⟨wb, 2, none⟩) (by show wb ≠ w.heap.size; omega) _
            · have h1 := WR.out.sz
              have h2 := hAll.1.1.2.2.2
              simp; omega)
          clear hAll hex o5 o6 hloc5 hloc6 hgen hdj B8 K0 K1 K2 K4 nW nX nL ON OL WR
          go_wp2_with fail
          go_roundw
          case rel => exact ⟨k + 1, by omega, by go_num, _, _, _, _, WN⟩
          case measure => simp [intOf]; omega
    · have ek : k = K := by omega
      subst ek
      have HF := hI.out.wd
      rw [← HK.out, Wd.upto_all] at HF
      have HF := Lib.hid HF
      have HX9 := Lib.hid hI.out.ext
      have hsz9 : w.heap.size ≤ wr.heap.size := by have := hI.out.sz; omega
      go_wp2_with fail
      first | go_end0 | refine bodyPost_ret (results_none rfl _ _ _) rfl ?_
      exact ⟨rfl, _, _, _, _, HF.out, HX9.out, hsz9⟩
end Go.Proofs.YtgcjclglhijchaaDoor
