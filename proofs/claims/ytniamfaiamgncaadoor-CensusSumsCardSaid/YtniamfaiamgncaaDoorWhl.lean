/- minimise.whole: all states in one class. -/
import Derived.Test.YtniamfaiamgncaaDoorLkf
import Derived.Test.YtniamfaiamgncaaDoorRen
import Derived.RegionTactic
import Derived.Deep.CutBlock
import Derived.Deep.CutRange
namespace Go.Proofs.YtniamfaiamgncaaDoor
open Go Go.RowKit
abbrev nv (x : Nat) : Value := .int .i64 (x : Int)
def sp3 (x : Nat × Nat × Nat) : List Value := [nv x.1, nv x.2.1, nv x.2.2]
theorem info_spn : (Tryd.prog.info? 242).map (fun i => (i.zero, i.size, i.bytes)) = some (some (.agg #[.int .i64 0, .int .i64 0, .int .i64 0]), 3, 24) := by kernel_rfl
theorem own_set {w : World} {base e sz n b i : Nat} {v u : Value} {xs : List Value} (h : w.ownsRow base e sz v n xs) (hne : v.ownBlock ≠ some b) : (w.setCell ⟨b, i, none⟩ u).ownsRow base e sz v n xs :=
  h.kept (row := some b) ⟨rfl, rfl, rfl, by simp [World.setCell], fun k _ hk => Below.heap_setCell _ _ _ _ (fun e => hk (by rw [e]))⟩ (.inr hne)
theorem own_set4 {w : World} {base e sz n b : Nat} {v : Value} {xs : List Value} (h : w.ownsRow base e sz v n xs) (hne : v.ownBlock ≠ some b) (u0 u1 u2 u3 : Value) : ((((w.setCell ⟨b, 0, none⟩ u0).setCell ⟨b, 1, none⟩ u1).setCell ⟨b, 2, none⟩ u2).setCell ⟨b, 3, none⟩ u3).ownsRow base e sz v n xs :=
  own_set (own_set (own_set (own_set h hne) hne) hne) hne
def Dj (v v' : Value) : Prop := ∀ g, v.ownBlock = some g → v'.ownBlock ≠ some g
/-- A parting, as it lies in four lists. -/
structure PtW (w : World) (B : Nat) (v1 v2 v3 v4 : Value) (p : Pt) : Prop where
  o1 : w.ownsRow B 3 1 v1 p.st.length (p.st.map nv)
  o2 : w.ownsRow B 3 1 v2 p.ar.length (p.ar.map nv)
  o3 : w.ownsRow B 3 1 v3 p.cl.length (p.cl.map nv)
  o4 : w.ownsRow B 242 3 v4 p.sp.length (p.sp.flatMap sp3)
  d12 : Dj v1 v2
  d13 : Dj v1 v3
  d23 : Dj v2 v3
theorem own_ne_blk {w : World} {base e sz n b t : Nat} {v : Value} {xs : List Value} {vs : Array Value} (h : w.ownsRow base e sz v n xs) (hb : Blk w b vs t) (hne : e ≠ t) : v.ownBlock ≠ some b := by
  intro q
  rcases h.2 with ⟨rfl, _⟩ | ⟨g, cap, cur, rfl, _, hg, _⟩
  · cases q
  · simp [Value.ownBlock] at q
    subst q
    unfold Blk at hb
    rw [hb] at hg
    simp only [Option.some.injEq, Obj.cells.injEq] at hg
    exact hne hg.2.1.symm
theorem own_ne_own {w : World} {base base' e e' sz sz' n n' : Nat} {v v' : Value} {xs xs' : List Value} (h : w.ownsRow base e sz v n xs) (h' : w.ownsRow base' e' sz' v' n' xs') (hne : e ≠ e') : ∀ g, v'.ownBlock = some g → v.ownBlock ≠ some g := by
  intro g hg q
  rcases h.2 with ⟨rfl, _⟩ | ⟨g1, cap, cur, rfl, _, hg1, _⟩
  · cases q
  · rcases h'.2 with ⟨rfl, _⟩ | ⟨g2, cap2, cur2, rfl, _, hg2, _⟩
    · cases hg
    · simp [Value.ownBlock] at q hg
      subst q
      subst hg
      rw [hg2] at hg1
      simp only [Option.some.injEq, Obj.cells.injEq] at hg1
      exact hne hg1.2.1.symm
set_option maxHeartbeats 4000000 in
set_option maxRecDepth 20000 in
theorem whole_any (n : Nat) (w : World) (hn : n ≤ 600) :
    Calls Tryd.prog 102 #[.int .i64 (n : Int)] w fun e w' => ∃ v1 v2 v3 v4, e = .returned (.agg #[v1, v2, v3, v4]) ∧ PtW w' w.heap.size v1 v2 v3 v4 (Pt.whole n) ∧ Ext w w' := by
  obtain ⟨i0, hi, hz0, hz1, hz2⟩ := info_parts info_int
  go_enter Tryd.func102, Tryd.ntmps102
  go_wp2_with (at_make; refine wpList_make_full _ rfl _ _ 23 rfl w.heap.size 3 i0 (.int .i64 0) 1 Tryd.underlying23 hi hz0 hz1 .i64 .i64 _ _ n rfl rfl rfl rfl (by rw [hz2]; omega) (by unfold maxLen; omega) (by simp) ?_; intro wm hown hgm)
  have hz3 := toList_madeCells_one (.int .i64 0) n
  have HO3 := Lib.hid (show wm.ownsRow w.heap.size 3 1 (.slice (some ⟨w.heap.size + 1, 0, none⟩) n n) n ((List.replicate n 0).map nv) by
    rw [List.map_replicate, show nv 0 = Value.int .i64 0 from rfl]; simpa [hz3, Value.cells] using hown)
  have hsm := hgm.size
  simp at hsm
  have HEm := Lib.hid (show Ext w wm from ⟨hgm.os, hgm.tape, hgm.output, by omega, fun j hj => (hgm.block j (by simp; omega) (by simp)).trans (Below.heap_alloc w _ j hj)⟩)
  have HR0 := Lib.hid (show Blk wm w.heap.size #[.slice none 0 0, .slice none 0 0, .slice none 0 0, .slice none 0 0] 164 from (Blk.new w _ _).grown hgm (by simp))
  clear hown hgm hz3
  obtain ⟨sb, hsb⟩ : ∃ sb, wm.heap.size = sb := ⟨_, rfl⟩
  have HS4 := Lib.hid (World.ownsRow_lit (base := w.heap.size) (e := 242) (size := 3) wm #[nv 0, nv 0, nv n] 1 (by omega) (by unfold maxLen; omega) rfl)
  rw [hsb] at HS4 hsm ⊢
  have HSB := Lib.hid hsb
  clear hsb
  obtain ⟨R0, hR0⟩ : ∃ R0, w.heap.size = R0 := ⟨_, rfl⟩
  rw [hR0] at HO3 HS4 HR0 hsm
  simp only [hR0]
  have HB := Lib.hid hR0
  go_loopw [12] (fun i wr => ∃ k : Nat, k ≤ n ∧ i = .int .i64 k ∧ ∃ v1 v2, Hid (Blk wr (sb + 1) #[v1, v2, .slice (some ⟨R0 + 1, 0, none⟩) n n, .slice (some ⟨sb, 0, none⟩) 1 1] 164) ∧ Hid (Blk wr R0 #[.slice none 0 0, .slice none 0 0, .slice none 0 0, .slice none 0 0] 164) ∧
    Hid (wr.ownsRow R0 3 1 v1 k ((List.range k).map nv)) ∧ Hid (wr.ownsRow R0 3 1 v2 k ((List.range k).map nv)) ∧ Hid (Dj v1 v2 ∧ v1.ownBlock ≠ some (R0 + 1) ∧ v2.ownBlock ≠ some (R0 + 1)) ∧
    Hid (wr.ownsRow R0 3 1 (.slice (some ⟨R0 + 1, 0, none⟩) n n) n ((List.replicate n 0).map nv)) ∧ Hid (wr.ownsRow R0 242 3 (.slice (some ⟨sb, 0, none⟩) 1 1) 1 [nv 0, nv 0, nv n]) ∧ Hid (Ext w wr)) (fun i _ => n - (intOf i).toNat)
  case atStart =>
    have hbp := Blk.new (wm.alloc (.cells #[nv 0, nv 0, nv n] 242)) #[.slice none 0 0, .slice none 0 0, .slice (some ⟨R0 + 1, 0, none⟩) n n, .slice (some ⟨sb, 0, none⟩) 1 1] 164
    rw [show (wm.alloc (.cells #[nv 0, nv 0, nv n] 242)).heap.size = sb + 1 by simp [HSB.out]] at hbp
    exact ⟨0, Nat.zero_le _, rfl, .slice none 0 0, .slice none 0 0, Lib.hid hbp, Lib.hid ((HR0.out.alloc _).alloc _), Lib.hid (own_nil _ _ _ _), Lib.hid (own_nil _ _ _ _), Lib.hid ⟨(fun _ hg => nomatch hg), (by simp [Value.ownBlock]), (by simp [Value.ownBlock])⟩,
      Lib.hid ((HO3.out.alloc _).alloc _), Lib.hid (HS4.out.alloc _), Lib.hid (((HEm.out.alloc (by have := HEm.out.size; omega) _)).alloc (by have := HEm.out.size; simp; omega) _)⟩
  case round =>
    obtain ⟨k, hk, rfl, v1, v2, hp, hr0, h1, h2, hd, h3, h4, hE⟩ := hrel
    by_cases hkl : k < n
    · have HT : Hid ((List.range (k + 1)).map nv = (List.range k).map nv ++ [nv k]) := Lib.hid (by rw [List.range_succ, List.map_append]; rfl)
      have hL1 : ∀ g, v1.ownBlock = some g → g < wr.heap.size := fun g hg => (h1.out.lt g hg).2
      have hL2 : ∀ g, v2.ownBlock = some g → g < wr.heap.size := fun g hg => (h2.out.lt g hg).2
      have hP1 : v1.ownBlock ≠ some (sb + 1) := own_ne_blk h1.out hp.out (by decide)
      have hP2 : v2.ownBlock ≠ some (sb + 1) := own_ne_blk h2.out hp.out (by decide)
      obtain ⟨a1, c1, rfl⟩ := own_shp h1.out
      obtain ⟨a2, c2, rfl⟩ := own_shp h2.out
      have HL1 := Lib.hid hL1
      have HL2 := Lib.hid hL2
      have HP1 := Lib.hid hP1
      have HP2 := Lib.hid hP2
      have hbR : R0 ≤ wr.heap.size := by have := hr0.out.lt; omega
      clear hL1 hL2 hP1 hP2
      go_upto_region 5 with fail
      refine Y.wp_region_tail (G := LkF (kf2 (Value.slice a1 k c1).ownBlock ((List.range k).map nv ++ [nv k]) (Value.slice a2 k c2).ownBlock ((List.range k).map nv ++ [nv k]))) (RsY 3 8 4 9 (OneV wr.heap.size 3 [nv k]) (OneV wr.heap.size 3 [nv k]) (AppR wr.heap.size R0 3 1 (k + 1) (Value.slice a1 k c1).ownBlock ((List.range k).map nv ++ [nv k])) (some (.tmp 19)) (AppN wr.heap.size R0 3 1 (k + 1) (Value.slice a2 k c2).ownBlock ((List.range k).map nv ++ [nv k]))) 11 (by kernel_rfl) (by kernel_rfl) (RsY_mono (OneV_lkf _ (fun g hg => kf2_none (fun q => by have := HL1.out g q; omega) (fun q => by have := HL2.out g q; omega)) _ _) (OneV_lkf _ (fun g hg => kf2_none (fun q => by have := HL1.out g q; omega) (fun q => by have := HL2.out g q; omega)) _ _) (AppR_lkf _ _ _ _ _ _ _ (kf2_app1 HL1.out HL2.out)) (AppN_lkf _ _ _ _ _ _ _ (kf2_app2 hd.out.1 HL1.out HL2.out))) (fun hex => ?_)
      simp only [List.take_succ_cons, List.take_zero, List.drop_succ_cons, List.drop_zero]
      have HKP := Lib.hid (kf2_none (ys1 := (List.range k).map nv ++ [nv k]) (ys2 := (List.range k).map nv ++ [nv k]) HP1.out HP2.out)
      iterate 3
        (refine Y.wpS_one (A := ?_) hex rfl rfl (by simp) ?_ ?_ ?_
         rotate_left 2
         · intro w' hC K hK
           have z0 := (hC.1.blk hp.out HKP.out).cell 0
           go_wp2_with (fail)
           refine hK _ ?_
           first | exact LkF.refl _ | exact LkF.of_ext (by assumption)
         rotate_left 1
         · rfl
         clear hex; intro hex)
      refine Y.wpS_rel none (fun _ => OneV (wr.heap.size) (3) ([nv k])) rfl (fun _ h => nomatch h) rfl (by simp) (by first | rfl | (simp [Region.wanted, yielded]; done)) ?_ ?_
      · intro w' hC K hK
        simp only [Act.put, List.setIfInBounds_toArray, List.set_cons_succ, List.set_cons_zero] at hK
        go_wp2_with fail
        exact hK _ _ (LkF.of_ext ((Below.refl _ _).alloc (Nat.le_refl _) _)) ⟨_, rfl, Blk.new _ _ _, hC.1.1.2.2.2⟩
      clear hex
      intro v w' hex hv
      replace hex := Exists.intro w' hex
      simp only [Act.put, List.setIfInBounds_toArray, List.set_cons_succ, List.set_cons_zero]
      obtain ⟨b1, rfl, hv, hb1⟩ := hv
      clear hv
      refine Y.wpS_rel (none) (fun _ => AppR wr.heap.size R0 3 1 (k + 1) (Value.slice a1 k c1).ownBlock ((List.range k).map nv ++ [nv k])) rfl (fun _ h => nomatch h) rfl (by simp) (by first | rfl | (simp [Region.wanted, yielded]; done)) ?_ ?_
      · intro w' hC K hK
        simp only [Act.put, List.setIfInBounds_toArray, List.set_cons_succ, List.set_cons_zero] at hK
        obtain ⟨b9, e9, hB9, _⟩ := (hC.2 3 (by simp [Region.binds])).1 rfl
        cases e9
        have hown' := own_lkf h1.out hC.1 (fun g N T hg hK i hi => by rw [kf2_one g hg] at hK; cases hK; exact ⟨by rw [List.length_append]; omega, by simp [List.getElem?_append_left hi]⟩)
        refine wpList_append_lko _ rfl (.tmp 16) (.tmp 18) 23 rfl R0 3 i0 _ 1 8 Tryd.underlying23 hi hz0 hz1 hz2 rfl (by decide) _ k ((List.range k).map nv) rfl hown' ⟨b1, 0, none⟩ 1 1 [nv k] rfl rfl (World.news_of_block hB9) (iv_one _) (by decide) (by unfold maxLen; omega) (by omega) (Nat.le_trans hbR hC.1.1.2.2.2) ?_
        intro g8 cap8 w8 hown8 hv8 hg8 hlk8
        simp only [wpList]
        have hloc8 : _ ∨ wr.heap.size ≤ g8 := hv8.imp id (fun h => by have := hC.1.1.2.2.2; omega)
        exact hK _ _ (LkF.of_lko hlk8 (kf2_one)) ⟨g8, cap8, rfl, hown8, hloc8, hg8⟩
      clear hex
      intro v w' hex hv
      replace hex := Exists.intro w' hex
      simp only [Act.put, List.setIfInBounds_toArray, List.set_cons_succ, List.set_cons_zero]
      obtain ⟨g1, cap1, rfl, hv, hloc1, hv2⟩ := hv
      clear hv hv2
      iterate 3
        (refine Y.wpS_one (A := ?_) hex rfl rfl (by simp) ?_ ?_ ?_
         rotate_left 2
         · intro w' hC K hK
           have z0 := (hC.1.blk hp.out HKP.out).cell 1
           go_wp2_with (fail)
           refine hK _ ?_
           first | exact LkF.refl _ | exact LkF.of_ext (by assumption)
         rotate_left 1
         · rfl
         clear hex; intro hex)
      refine Y.wpS_rel none (fun _ => OneV (wr.heap.size) (3) ([nv k])) rfl (fun _ h => nomatch h) rfl (by simp) (by first | rfl | (simp [Region.wanted, yielded]; done)) ?_ ?_
      · intro w' hC K hK
        simp only [Act.put, List.setIfInBounds_toArray, List.set_cons_succ, List.set_cons_zero] at hK
        go_wp2_with fail
        exact hK _ _ (LkF.of_ext ((Below.refl _ _).alloc (Nat.le_refl _) _)) ⟨_, rfl, Blk.new _ _ _, hC.1.1.2.2.2⟩
      clear hex
      intro v w' hex hv
      replace hex := Exists.intro w' hex
      simp only [Act.put, List.setIfInBounds_toArray, List.set_cons_succ, List.set_cons_zero]
      obtain ⟨b2, rfl, hv, hb2⟩ := hv
      clear hv
      refine Y.wpS_rel (some (.tmp 19)) (AppN wr.heap.size R0 3 1 (k + 1) (Value.slice a2 k c2).ownBlock ((List.range k).map nv ++ [nv k])) rfl (fun y h => by cases h; exact .inr (wtd_of (by kernel_rfl))) rfl (by simp) (by first | rfl | (simp [Region.wanted, yielded]; done)) ?_ ?_
      · intro w' hC K hK
        simp only [Act.put, List.setIfInBounds_toArray, List.set_cons_succ, List.set_cons_zero] at hK
        obtain ⟨b9, e9, hB9, _⟩ := (hC.2 8 (by simp [Region.binds])).1 rfl
        cases e9
        have hown' := own_lkf h2.out hC.1 (fun g N T hg hK i hi => by rw [kf2_two hd.out.1 g hg] at hK; cases hK; exact ⟨by rw [List.length_append]; omega, by simp [List.getElem?_append_left hi]⟩)
        obtain ⟨g4, cap4, e4, _, _, hlt4⟩ := (hC.2 4 (by simp [Region.binds])).2.1 rfl
        cases e4
        have hne8 : ∀ g8, ((Value.slice a2 k c2).ownBlock = some g8 ∨ g8 = w'.heap.size) → (Value.slice (some ⟨g1, 0, none⟩) (k + 1) cap1).ownBlock ≠ some g8 := fun g8 hv8 q => by
          have q : g1 = g8 := Option.some.inj q
          subst q
          rcases hv8 with h | h
          · rcases hloc1 with l | l
            · exact hd.out.1 _ l h
            · have := HL2.out _ h; omega
          · omega
        refine wpList_append_lko _ rfl (.tmp 21) (.tmp 23) 23 rfl R0 3 i0 _ 1 8 Tryd.underlying23 hi hz0 hz1 hz2 rfl (by decide) _ k ((List.range k).map nv) rfl hown' ⟨b2, 0, none⟩ 1 1 [nv k] rfl rfl (World.news_of_block hB9) (iv_one _) (by decide) (by unfold maxLen; omega) (by omega) (Nat.le_trans hbR hC.1.1.2.2.2) ?_
        intro g8 cap8 w8 hown8 hv8 hg8 hlk8
        simp only [wpList]
        have hloc8 : _ ∨ wr.heap.size ≤ g8 := hv8.imp id (fun h => by have := hC.1.1.2.2.2; omega)
        exact hK _ _ (LkF.of_lko hlk8 (kf2_two hd.out.1)) ⟨g8, cap8, rfl, hown8, hloc8, hg8, hne8 g8 hv8⟩
      clear hex
      intro v w' hex hv
      replace hex := Exists.intro w' hex
      simp only [Act.put, List.setIfInBounds_toArray, List.set_cons_succ, List.set_cons_zero]
      obtain ⟨g2, cap2, rfl, hv, hloc2, hv2⟩ := hv
      clear hv hv2
      refine Y.wpS_one (A := ?_) hex rfl rfl (by simp) ?_ ?_ ?_
      rotate_left 2
      · intro w' hC K hK
        go_wp2_with (fail)
        refine hK _ ?_
        first | exact LkF.refl _ | exact LkF.of_ext (by assumption)
      rotate_left 1
      · rfl
      clear hex; intro hex
      refine Y.wpS_nil fun w8 hAll => ?_
      obtain ⟨g1', cap1', e1, ho1, _, hlt1⟩ := (hAll.2 4).2.2.1 rfl
      cases e1
      obtain ⟨g2', cap2', e2, ho2, _, hlt2, hg12⟩ := (hAll.2 9).1 rfl
      cases e2
      have HP8 := Lib.hid (hAll.1.blk hp.out HKP.out)
      have HR8 := Lib.hid (hAll.1.blk hr0.out (kf2_none (own_ne_blk h1.out hr0.out (by decide)) (own_ne_blk h2.out hr0.out (by decide))))
      have H38 := Lib.hid (own_lkf h3.out hAll.1 (fun g N T hg hK i hi => by
        have e : R0 + 1 = g := Option.some.inj hg
        subst e
        rw [kf2_none hd.out.2.1 hd.out.2.2] at hK; cases hK))
      have H48 := Lib.hid (own_lkf h4.out hAll.1 (fun g N T hg hK i hi => by
        have e : sb = g := Option.some.inj hg
        subst e
        have q := (h4.out).2
        rw [kf2_none (own_ne_own h1.out h4.out (by decide) sb rfl) (own_ne_own h2.out h4.out (by decide) sb rfl)] at hK; cases hK))
      have HE8 := Lib.hid (show Ext w w8 from Below.trans hE.out (hAll.1.below (by have := hE.out.size; omega) (fun g hg => kf2_none (fun q => by have := (h1.out.lt g q).1; omega) (fun q => by have := (h2.out.lt g q).1; omega))))
      have h3lt := (h3.out.lt (R0 + 1) rfl).2
      have N1 : Hid (g1 ≠ sb + 1 ∧ g1 ≠ R0 + 1) := Lib.hid ⟨fun q => own_ne_blk ho1 HP8.out (by decide) (by rw [q]; rfl), fun q => by
        rcases hloc1 with l | l
        · rw [q] at l; exact hd.out.2.1 l
        · omega⟩
      have N2 : Hid (g2 ≠ sb + 1 ∧ g2 ≠ R0 + 1) := Lib.hid ⟨fun q => own_ne_blk ho2 HP8.out (by decide) (by rw [q]; rfl), fun q => by
        rcases hloc2 with l | l
        · rw [q] at l; exact hd.out.2.2 l
        · omega⟩
      have N3 : Hid (g1 ≠ g2) := Lib.hid (fun q => hg12 (by rw [q]; rfl))
      have HO1 := Lib.hid ho1
      have HO2 := Lib.hid ho2
      clear ho1 ho2 hAll hex
      have z0 := HP8.out.cell 0
      have z1 := HP8.out.cell 1
      have y0 := HP8.out.free 0
      have y1 := HP8.out.free 1
      have hlt8 := HP8.out.lt
      go_wp2_with fail
      go_roundw
      case rel => exact ⟨k + 1, by omega, by go_num, _, _, Lib.hid ((HP8.out.set 0 _).set 1 _), Lib.hid ((HR8.out.set_other (a := ⟨sb + 1, 0, none⟩) (by show sb + 1 ≠ R0; omega) _).set_other (a := ⟨sb + 1, 1, none⟩) (by show sb + 1 ≠ R0; omega) _),
        Lib.hid (by rw [HT.out]; exact own_set (own_set HO1.out (fun q => N1.out.1 (Option.some.inj q))) (fun q => N1.out.1 (Option.some.inj q))), Lib.hid (by rw [HT.out]; exact own_set (own_set HO2.out (fun q => N2.out.1 (Option.some.inj q))) (fun q => N2.out.1 (Option.some.inj q))),
        Lib.hid ⟨fun g q1 q2 => N3.out ((Option.some.inj q1).trans (Option.some.inj q2).symm), fun q => N1.out.2 (Option.some.inj q), fun q => N2.out.2 (Option.some.inj q)⟩,
        Lib.hid (own_set (own_set H38.out (fun q => by have q : R0 + 1 = sb + 1 := Option.some.inj q; omega)) (fun q => by have q : R0 + 1 = sb + 1 := Option.some.inj q; omega)), Lib.hid (own_set (own_set H48.out (fun q => by have q : sb = sb + 1 := Option.some.inj q; omega)) (fun q => by have q : sb = sb + 1 := Option.some.inj q; omega)),
        Lib.hid ((HE8.out.setCell (p := ⟨sb + 1, 0, none⟩) (by show w.heap.size ≤ sb + 1; omega) _).setCell (p := ⟨sb + 1, 1, none⟩) (by show w.heap.size ≤ sb + 1; omega) _)⟩
      case measure => simp [intOf]; omega
    · have e : k = n := by omega
      subst e
      obtain ⟨a1, c1, rfl⟩ := own_shp h1.out
      obtain ⟨a2, c2, rfl⟩ := own_shp h2.out
      have q0 := hp.out.cell 0
      have q1 := hp.out.cell 1
      have q2 := hp.out.cell 2
      have q3 := hp.out.cell 3
      have r0 := hr0.out.cell 0
      have r1 := hr0.out.cell 1
      have r2 := hr0.out.cell 2
      have r3 := hr0.out.cell 3
      have f0 := hr0.out.free 0
      have f1 := hr0.out.free 1
      have f2 := hr0.out.free 2
      have f3 := hr0.out.free 3
      go_wp2_with fail
      refine bodyPost_ret (v := .agg #[.slice a1 k c1, .slice a2 k c2, .slice (some ⟨R0 + 1, 0, none⟩) k k, .slice (some ⟨sb, 0, none⟩) 1 1]) (by simp [results, Tryd.results102, go_sem, r0, r1, r2, r3]) rfl ⟨_, _, _, _, rfl, ⟨?_, ?_, ?_, ?_, hd.out.1, fun g q1 q2 => hd.out.2.1 (by rw [q1]; exact q2.symm), fun g q1 q2 => hd.out.2.2 (by rw [q1]; exact q2.symm)⟩, ?_⟩
      · have := own_set4 h1.out (own_ne_blk h1.out hr0.out (by decide)) (.slice a1 k c1) (.slice a2 k c2) (.slice (some ⟨R0 + 1, 0, none⟩) k k) (.slice (some ⟨sb, 0, none⟩) 1 1)
        simpa [Pt.whole] using this
      · have := own_set4 h2.out (own_ne_blk h2.out hr0.out (by decide)) (.slice a1 k c1) (.slice a2 k c2) (.slice (some ⟨R0 + 1, 0, none⟩) k k) (.slice (some ⟨sb, 0, none⟩) 1 1)
        simpa [Pt.whole] using this
      · have := own_set4 h3.out (own_ne_blk h3.out hr0.out (by decide)) (.slice a1 k c1) (.slice a2 k c2) (.slice (some ⟨R0 + 1, 0, none⟩) k k) (.slice (some ⟨sb, 0, none⟩) 1 1)
        simpa [Pt.whole] using this
      · exact own_set4 h4.out (own_ne_blk h4.out hr0.out (by decide)) (.slice a1 k c1) (.slice a2 k c2) (.slice (some ⟨R0 + 1, 0, none⟩) k k) (.slice (some ⟨sb, 0, none⟩) 1 1)
      · exact (((hE.out.setCell (p := ⟨R0, 0, none⟩) (by show w.heap.size ≤ R0; omega) _).setCell (p := ⟨R0, 1, none⟩) (by show w.heap.size ≤ R0; omega) _).setCell (p := ⟨R0, 2, none⟩) (by show w.heap.size ≤ R0; omega) _).setCell (p := ⟨R0, 3, none⟩) (by show w.heap.size ≤ R0; omega) _
end Go.Proofs.YtniamfaiamgncaaDoor
