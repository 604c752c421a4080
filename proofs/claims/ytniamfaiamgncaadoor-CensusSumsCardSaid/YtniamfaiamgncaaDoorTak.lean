/- minimise's worklist: take. -/
import Derived.Test.YtniamfaiamgncaaDoorMrk
import Derived.Test.YtniamfaiamgncaaDoorMpw
namespace Go.Proofs.YtniamfaiamgncaaDoor
open Go Go.RowKit Go.Maps
abbrev spv (x : Spl) : Value := .agg #[nv x.1, nv x.2]
def spc (x : Spl) : List Value := [nv x.1, nv x.2]
theorem info_spl : (Tryd.prog.info? 176).map (fun i => (i.zero, i.size, i.bytes)) = some (some (.agg #[.int .i64 0, .int .i64 0]), 2, 16) := by kernel_rfl
theorem laid_wk : laidOutB Tryd.prog = true := by kernel_rfl
theorem law_spl : Keyed Tryd.prog 176 := Keyed.of_law (deep_law_laid laid_wk (m := 2) (by omega) (of_decide_eq_true (by kernel_rfl)) (by kernel_rfl) (by kernel_rfl))
theorem zero_unit (w : World) : (zeroValue 282).run Tryd.prog w = .ok (.agg #[]) w := by kernel_rfl
theorem lits_int {d : Nat} {a : Int} (h : (Lit.int .i64 a).wf = true) : Tryd.prog.keyLits (d + 1) 3 [.int .i64 a] = some [.int .i64 a] := by
  unfold Program.keyLits
  simp only [Tryd.underlying3, h, and_self, if_true]
theorem lits_spl {d : Nat} {a c : Int} (h1 : (Lit.int .i64 a).wf = true) (h2 : (Lit.int .i64 c).wf = true) : Tryd.prog.keyLits (d + 2) 176 [.int .i64 a, .int .i64 c] = some [.int .i64 a, .int .i64 c] := by
  have hc : Tryd.prog.cellsOf 176 = 2 := by kernel_rfl
  have hc3 : Tryd.prog.cellsOf 3 = 1 := by kernel_rfl
  have e1 := lits_int (d := d) h1
  have e2 := lits_int (d := d) h2
  unfold Program.keyLits
  simp [Tryd.underlying176, hc, hc3, e1, e2]
theorem key_spl {x : Spl} (h1 : x.1 ≤ 100000) (h2 : x.2 ≤ 100000) : ∃ kl, keyOf Tryd.prog 176 (spv x) = some kl := by
  have w1 : (Lit.int .i64 (x.1 : Int)).wf = true := WalkArith.wf_i64 (by omega)
  have w2 : (Lit.int .i64 (x.2 : Int)).wf = true := WalkArith.wf_i64 (by omega)
  have hk : Tryd.prog.keyType 176 = true := by kernel_rfl
  have hf : (spv x).formed Tryd.prog 176 = true := by kernel_rfl
  have hs : ∃ d, Tryd.prog.types.size + 1 = d + 2 := ⟨Tryd.prog.types.size - 1, by have : 1 ≤ Tryd.prog.types.size := of_decide_eq_true (by kernel_rfl); omega⟩
  obtain ⟨d, hd⟩ := hs
  refine ⟨.string (keyBytes [.int .i64 (x.1 : Int), .int .i64 (x.2 : Int)]), ?_⟩
  have hl := lits_spl (d := d) w1 w2
  unfold keyOf
  rw [Tryd.underlying176]
  simp only [hk, hf, hd, Bool.and_self, if_true]
  rw [show (spv x).cells.toList = [.int .i64 (x.1 : Int), .int .i64 (x.2 : Int)] from rfl, hl]
  rfl
def wtf (W : List Spl) : Value → Option Value
  | .agg a => match a.toList with
    | [.int .i64 x, .int .i64 y] => if (x, y) ∈ W.map (fun p => ((p.1 : Int), (p.2 : Int))) then some (.agg #[]) else none
    | _ => none
  | _ => none
theorem wt_mem {W : List Spl} {x : Spl} : ((x.1 : Int), (x.2 : Int)) ∈ W.map (fun p => ((p.1 : Int), (p.2 : Int))) ↔ x ∈ W := by
  constructor
  · intro h
    obtain ⟨y, hy, e⟩ := List.mem_map.1 h
    simp only [Prod.mk.injEq] at e
    have : y = x := Prod.ext (by omega) (by omega)
    exact this ▸ hy
  · intro h
    exact List.mem_map.2 ⟨x, h, rfl⟩
theorem wtf_in {W : List Spl} {x : Spl} (h : x ∈ W) : wtf W (spv x) = some (.agg #[]) := if_pos (wt_mem.2 h)
theorem wtf_out {W : List Spl} {x : Spl} (h : x ∉ W) : wtf W (spv x) = none := if_neg (fun q => h (wt_mem.1 q))
theorem wtf_add {W : List Spl} {x : Spl} : ∀ v, v ≠ spv x → wtf (W ++ [x]) v = wtf W v := by
  intro v hv
  unfold wtf
  split
  · rename_i a
    split
    · rename_i a1 a2 ha
      have hne : (a1, a2) ≠ ((x.1 : Int), (x.2 : Int)) := fun e => hv (by
        simp only [Prod.mk.injEq] at e
        have : a = #[.int .i64 a1, .int .i64 a2] := by rw [← Array.toList_inj, ha]
        rw [this, e.1, e.2])
      simp only [List.map_append, List.mem_append, List.map_cons, List.map_nil, List.mem_singleton, hne, or_false]
    · rfl
  · rfl
/-- The worklist: its list, its map. -/
structure WkW (w : World) (B : Nat) (vl : Value) (mb : Nat) (W : List Spl) : Prop where
  own : w.ownsRow B 176 2 vl W.length (W.flatMap spc)
  map : ∃ m, MapAt Tryd.prog 176 w mb m (wtf W)
  lo : B ≤ mb
theorem WkW.fr {w w' : World} {B mb : Nat} {vl : Value} {W : List Spl} {S : Nat → Prop} (h : WkW w B vl mb W) (hx : Fr S w w') (h1 : ∀ k, vl.ownBlock = some k → ¬ S k) (h2 : ¬ S mb) : WkW w' B vl mb W := by
  obtain ⟨m, hm⟩ := h.map
  exact ⟨hx.own h.own h1, ⟨m, hm.blk (hx.2.2.2.2 mb hm.lt h2)⟩, h.lo⟩
theorem WkW.ext {w w' : World} {B mb : Nat} {vl : Value} {W : List Spl} (h : WkW w B vl mb W) (hx : Ext w w') : WkW w' B vl mb W := h.fr (Fr.of_ext (S := fun _ => False) hx) (fun _ _ q => q) (fun q => q)
theorem WkW.lt {w : World} {B mb : Nat} {vl : Value} {W : List Spl} (h : WkW w B vl mb W) : mb < w.heap.size := by obtain ⟨m, hm⟩ := h.map; exact hm.lt
def Sw (vl : Value) (mb b k : Nat) : Prop := vl.ownBlock = some k ∨ k = mb ∨ k = b
theorem map_ne_blk {P : Program} {k : TypeId} {w : World} {m mb b t : Nat} {f : Value → Option Value} {vs : Array Value} (h : MapAt P k w mb m f) (hb : Blk w b vs t) : mb ≠ b := by
  intro q
  subst q
  obtain ⟨es, clock, h1, _⟩ := h
  unfold Blk at hb
  rw [h1] at hb
  cases hb
theorem spc_one (x : Spl) : ∀ u ∈ spc x, u.oneCell' = true := by
  intro u hu
  simp [spc] at hu
  rcases hu with rfl | rfl <;> rfl
set_option maxHeartbeats 4000000 in
set_option maxRecDepth 20000 in
theorem put_any {b B mb : Nat} {v1 v2 v3 v4 vl : Value} {F : List Value} {W : List Spl} {x : Spl} {w : World} (hb : Blk w b (rfb v1 v2 v3 v4 vl (.map (some mb)) F) 173) (h : WkW w B vl mb W) (hx : x ∉ W) (hx1 : x.1 ≤ 100000) (hx2 : x.2 ≤ 100000) (hW : W.length ≤ 1000000) (hB : B ≤ w.heap.size) :
    Calls Tryd.prog 167 #[.pointer (some ⟨b, 4, none⟩), spv x] w fun e w' => e = .returned (.tuple #[]) ∧ ∃ vl', Blk w' b (rfb v1 v2 v3 v4 vl' (.map (some mb)) F) 173 ∧ WkW w' B vl' mb (W ++ [x]) ∧ Fr (Sw vl mb b) w w' ∧ ∀ g, vl'.ownBlock = some g → vl.ownBlock = some g ∨ w.heap.size ≤ g := by
  obtain ⟨i0, hi, hz0, hz1, hz2⟩ := info_parts info_spl
  obtain ⟨a, c, rfl⟩ := own_shp h.own
  obtain ⟨kl, hkl⟩ := key_spl hx1 hx2
  obtain ⟨mm, hm⟩ := h.map
  have HM := Lib.hid hm
  have HK := Lib.hid hkl
  have HB := Lib.hid hb
  have H := Lib.hid h
  have HI := Lib.hid (wtf_out hx)
  have HN := Lib.hid (wtf_in (show x ∈ W ++ [x] by simp))
  have HO := Lib.hid (wtf_add (W := W) (x := x))
  have hmb := map_ne_blk hm hb
  have hmo := own_ne_map h.own hm
  have HMO := Lib.hid hmo
  have hvb := own_ne_blk h.own hb (by decide)
  have HVB := Lib.hid hvb
  have hbl := hb.lt
  clear hx hkl hm hb h hmo hvb
  go_enter Tryd.func167, Tryd.ntmps167
  go_wp2_with fail
  have HS := Lib.hid (Blk.new w #[.int .i64 (x.1 : Int), .int .i64 (x.2 : Int)] 176)
  have E1 := Lib.hid (show Ext w (w.alloc (.cells #[.int .i64 (x.1 : Int), .int .i64 (x.2 : Int)] 176)) by go_grown)
  refine G.wp_region_tail (G := Ext) (fun _ => none) 6 (by kernel_rfl) (by kernel_rfl) (fun _ _ h => by cases h) (fun hex => ?_)
  simp only [List.take_succ_cons, List.take_zero, List.drop_succ_cons, List.drop_zero]
  iterate 6
    (refine G.wpS_one (A := ?_) hex rfl rfl (by simp) ?_ ?_ ?_
     rotate_left 2
     · intro w' hC K hK
       obtain ⟨q0, q1, q2, q3, q4, q5⟩ := rfb_cells (HB.out.ext (bel_call E1.out hC.1)); have z0 := (HS.out.ext hC.1).cell 0; have z1 := (HS.out.ext hC.1).cell 1
       go_wp2_with (fail)
       refine hK _ ?_
       first | exact Below.refl _ _ | assumption | ((repeat' (first | (with_reducible exact Below.refl _ _) | (with_reducible assumption) | (with_reducible refine below_drewN ?_ _) | (with_reducible refine Below.alloc ?_ ?_ _) | (with_reducible refine Below.drew ?_) | (with_reducible refine Below.setCell ?_ ?_ _) | (with_reducible refine Below.trans ?_ (Below.mono (by with_reducible assumption) ?_)) | go_size)))
     rotate_left 1
     · rfl
     clear hex; intro hex)
  refine G.wpS_nil fun w5 hAll => ?_
  have E5 := Lib.hid (bel_call E1.out hAll.1)
  have HS5 := Lib.hid (HS.out.ext hAll.1)
  clear hAll hex HS
  go_wp2_with (at_mapUpdate; refine wpList_put_at _ rfl _ _ _ (.inl rfl) law_spl Tryd.underlying166 rfl (HM.out.ext E5.out) (spv x) (.agg #[]) _ rfl rfl HK.out HI.out (wtf (W ++ [x])) HN.out HO.out ?_; intro w6 m6 g6 s6)
  simp only [Act.put]
  have FM : Fr (fun g => g = mb) w w6 := (Fr.of_ext (S := fun g => g = mb) E5.out).trans (Fr.of_grown (S := fun g => g = mb) g6 (fun g hg => (Option.some.inj hg).symm)) (fun _ _ q => q)
  have HB6 := Lib.hid (FM.blk HB.out (fun q => hmb q.symm))
  have HS6 := Lib.hid (HS5.out.grown g6 (fun q => map_ne_blk (HM.out.ext E5.out) HS5.out (Option.some.inj q)))
  have HO6 := Lib.hid (FM.own H.out.own (fun g hg q => HMO.out (by rw [hg, q])))
  have HM6 := Lib.hid m6
  have F6 := Lib.hid FM
  have W6 := Lib.hid HS6.out.lt
  clear FM m6 g6 s6 HS5 E5 E1
  have hbW : B ≤ w6.heap.size := by have := W6.out; omega
  have HX := Lib.hid (fun g (hg : (Value.slice a W.length c).ownBlock = some g) => (HO6.out.lt g hg).2)
  have HXn := Lib.hid (fun g (hg : (none : Option Nat) = some g) => show g < w6.heap.size from nomatch hg)
  have HKN := Lib.hid (fun g (hg : w6.heap.size ≤ g) => kf2_none (X1 := (Value.slice a W.length c).ownBlock) (X2 := none) (ys1 := W.flatMap spc ++ [nv x.1, nv x.2]) (ys2 := []) (g := g) (fun q => by have := HX.out g q; omega) (fun q => nomatch q))
  have KB := Lib.hid (kf2_none (X1 := (Value.slice a W.length c).ownBlock) (X2 := none) (ys1 := W.flatMap spc ++ [nv x.1, nv x.2]) (ys2 := []) (g := b) HVB.out (fun q => nomatch q))
  have KS := Lib.hid (kf2_none (X1 := (Value.slice a W.length c).ownBlock) (X2 := none) (ys1 := W.flatMap spc ++ [nv x.1, nv x.2]) (ys2 := []) (g := w.heap.size) (fun q => by have := (H.out.own.lt _ q).2; omega) (fun q => nomatch q))
  have KM := Lib.hid (kf2_none (X1 := (Value.slice a W.length c).ownBlock) (X2 := none) (ys1 := W.flatMap spc ++ [nv x.1, nv x.2]) (ys2 := []) (g := mb) HMO.out (fun q => nomatch q))
  refine G.wp_region_tail (G := LkF (kf2 (Value.slice a W.length c).ownBlock (W.flatMap spc ++ [nv x.1, nv x.2]) none [])) (RsL 6 7 98 99 (OneV w6.heap.size 176 [nv x.1, nv x.2]) (AppR w6.heap.size B 176 2 (W.length + 1) (Value.slice a W.length c).ownBlock (W.flatMap spc ++ [nv x.1, nv x.2])) (fun _ _ => True) (fun _ _ => True)) 10 (by kernel_rfl) (by kernel_rfl) (RsL_mono (OneV_lkf _ HKN.out _ _) (AppR_lkf _ _ _ _ _ _ _ (kf2_app1 HX.out HXn.out)) (fun _ _ _ _ h => h) (fun _ _ _ _ h => h)) (fun hex => ?_)
  simp only [List.take_succ_cons, List.take_zero, List.drop_succ_cons, List.drop_zero]
  iterate 6
    (refine G.wpS_one (A := ?_) hex rfl rfl (by simp) ?_ ?_ ?_
     rotate_left 2
     · intro w' hC K hK
       obtain ⟨q0, q1, q2, q3, q4, q5⟩ := rfb_cells (hC.1.blk HB6.out KB.out); have z0 := (hC.1.blk HS6.out KS.out).cell 0; have z1 := (hC.1.blk HS6.out KS.out).cell 1
       go_wp2_with (fail)
       refine hK _ ?_
       first | exact LkF.refl _ | exact LkF.of_ext (by assumption)
     rotate_left 1
     · rfl
     clear hex; intro hex)
  refine G.wpS_rel (OneV (w6.heap.size) (176) ([nv x.1, nv x.2])) rfl rfl (by simp) (by first | rfl | (simp [Region.wanted, yielded]; done)) ?_ ?_
  · intro w' hC K hK
    simp only [Act.put, List.setIfInBounds_toArray, List.set_cons_succ, List.set_cons_zero] at hK
    go_wp2_with fail
    exact hK _ _ (LkF.of_ext ((Below.refl _ _).alloc (Nat.le_refl _) _)) ⟨_, rfl, Blk.new _ _ _, hC.1.1.2.2.2⟩
  clear hex
  intro v w' hex hv
  replace hex := Exists.intro w' hex
  simp only [Act.put, List.setIfInBounds_toArray, List.set_cons_succ, List.set_cons_zero]
  obtain ⟨b1, rfl, hv, hb1⟩ := hv
  clear hv
  refine G.wpS_rel (AppR w6.heap.size B 176 2 (W.length + 1) (Value.slice a W.length c).ownBlock (W.flatMap spc ++ [nv x.1, nv x.2])) rfl rfl (by simp) (by first | rfl | (simp [Region.wanted, yielded]; done)) ?_ ?_
  · intro w' hC K hK
    simp only [Act.put, List.setIfInBounds_toArray, List.set_cons_succ, List.set_cons_zero] at hK
    obtain ⟨b9, e9, hB9, _⟩ := (hC.2 6 (by simp [Region.binds])).1 rfl
    cases e9
    have hown' := own_lkf HO6.out hC.1 (fun g N T hg hK i hi => by rw [kf2_one g hg] at hK; cases hK; exact ⟨by rw [List.length_append]; omega, by simp [List.getElem?_append_left hi]⟩)
    refine wpList_append_lko _ rfl (.tmp 14) (.tmp 16) 167 rfl B 176 i0 _ 2 16 Tryd.underlying167 hi hz0 hz1 hz2 rfl (by decide) _ W.length (W.flatMap spc) rfl hown' ⟨b1, 0, none⟩ 1 1 [nv x.1, nv x.2] rfl rfl (World.news_of_block hB9) (spc_one x) (by decide) (by unfold maxLen; omega) (by omega) (Nat.le_trans hbW hC.1.1.2.2.2) ?_
    intro g8 cap8 w8 hown8 hv8 hg8 hlk8
    simp only [wpList]
    refine hK _ _ (LkF.of_lko hlk8 (kf2_one)) ⟨g8, cap8, rfl, hown8, ?_, hg8⟩
    rcases hv8 with h | h
    · exact .inl h
    · exact .inr (by have := hC.1.1.2.2.2; omega)
  clear hex
  intro v w' hex hv
  replace hex := Exists.intro w' hex
  simp only [Act.put, List.setIfInBounds_toArray, List.set_cons_succ, List.set_cons_zero]
  obtain ⟨g5, cap5, rfl, hv, hloc5, hv2⟩ := hv
  clear hv hv2
  iterate 2
    (refine G.wpS_one (A := ?_) hex rfl rfl (by simp) ?_ ?_ ?_
     rotate_left 2
     · intro w' hC K hK
       go_wp2_with (fail)
       refine hK _ ?_
       first | exact LkF.refl _ | exact LkF.of_ext (by assumption)
     rotate_left 1
     · rfl
     clear hex; intro hex)
  refine G.wpS_nil fun w8 hAll => ?_
  obtain ⟨g5', cap5', e5, ho5, _, hlt5⟩ := (hAll.2 7).1 rfl
  cases e5
  have BK8 := Lib.hid (hAll.1.blk HB6.out KB.out)
  have O58 := Lib.hid ho5
  have M58 := Lib.hid (HM6.out.blk (hAll.1.2.1 mb HM6.out.lt KM.out))
  have F8 := Lib.hid (show Fr (Sw (.slice a W.length c) mb b) w w8 from (F6.out.mono (S' := Sw (.slice a W.length c) mb b) (fun _ _ q => .inr (.inl q))).trans (S' := fun g => (Value.slice a W.length c).ownBlock = some g) ⟨hAll.1.1.1, hAll.1.1.2.1, hAll.1.1.2.2.1, hAll.1.1.2.2.2, fun g hg hn => hAll.1.2.1 g hg (kf2_none hn (fun q => nomatch q))⟩ (fun _ _ q => .inl q))
  have hg5 : g5 ≠ b ∧ g5 ≠ mb := ⟨fun q => own_ne_blk ho5 BK8.out (by decide) (by rw [q]; rfl), fun q => own_ne_map ho5 M58.out (by rw [q]; rfl)⟩
  have HG5 := Lib.hid hg5
  have L58 : Hid ((Value.slice a W.length c).ownBlock = some g5 ∨ w.heap.size ≤ g5) := Lib.hid (hloc5.imp id (fun h => by have := W6.out; omega))
  clear ho5 hAll hex hlt5 hloc5 hg5 HS6 HO6 F6 HB6 W6 HX HXn KB KS KM
  obtain ⟨q0, q1, q2, q3, q4, q5⟩ := rfb_cells BK8.out
  have y3 := BK8.out.free 4
  go_wp2_with fail
  first | go_end0 | refine bodyPost_ret (results_none rfl _ _ _) rfl ?_
  refine ⟨rfl, .slice (some ⟨g5, 0, none⟩) (W.length + 1) cap5, ?_, ⟨?_, ⟨mm + 1, ?_⟩, H.out.lo⟩, F8.out.set (.inl (.inr (.inr rfl))) _, fun g hg => ?_⟩
  · have := BK8.out.set 4 (.slice (some ⟨g5, 0, none⟩) (W.length + 1) cap5)
    rw [rfb_set4] at this; exact this
  · rw [List.length_append, List.flatMap_append]
    exact own_set O58.out (fun q => HG5.out.1 (Option.some.inj q))
  · exact M58.out.setCell (a := ⟨b, 4, none⟩) hmb _
  · have hg : g5 = g := Option.some.inj hg
    rw [← hg]; exact L58.out
end Go.Proofs.YtniamfaiamgncaaDoor
namespace Go.Proofs.YtniamfaiamgncaaDoor
open Go Go.RowKit Go.Maps
theorem wpList_del_at {P : Program} (w : World) {ops : Array Oper} {rest : List Oper} {o : Oper} {a : Act} {Q : Exit → Act → World → Prop} {t k e : TypeId} {b n : Nat} {f : Value → Option Value} (hg : o.guard = none) (m x : Operand)
    (hop : o.op = Op.call { callee := Callee.builtin Builtin.delete, args := #[m, x], argTypes := #[t, k] }) (K : Keyed P k) (ht : P.underlying t = some (.map k e)) (hm : a.eval m = .map (some b)) (h : MapAt P k w b n f) (key : Value) (kl : Lit) (hx : a.eval x = key) (hkey : keyOf P k key = some kl)
    (g : Value → Option Value) (g1 : g key = none) (g2 : ∀ x, x ≠ key → g x = f x)
    (hK : ∀ w' n', MapAt P k w' b n' g → w.grownBy w' (some b) → w'.heap.size = w.heap.size → wpList P ops Q rest (a.put o.dst (.tuple #[])) w') : wpList P ops Q (o :: rest) a w := by
  refine wpList_plain hg fun K' hK' => ?_
  obtain ⟨w', n', hrun, h1, _, h2, h3⟩ := h.drop (ty := o.type) K ht hkey g1 g2
  unfold Oper.wp
  simp [execOp, hop, resolve, invoke, builtin, hm, hx, hrun, Result.andThen]
  exact hK' _ _ (hK w' n' h1 h2 h3)
theorem own_short {w : World} {B e sz n cap g : Nat} {xs ys : List Value} (h : w.ownsRow B e sz (.slice (some ⟨g, 0, none⟩) (n + 1) cap) (n + 1) (xs ++ ys)) (hx : xs.length = n * sz) : w.ownsRow B e sz (.slice (some ⟨g, 0, none⟩) n cap) n xs := by
  obtain ⟨hl, ⟨h1, _⟩ | ⟨g', cap', cur, hv, hb, hh, h3, h4, h5, h6⟩⟩ := h
  · cases h1
  · cases hv
    refine ⟨hx, .inr ⟨g, cap, cur, rfl, hb, hh, by omega, h4, h5, ?_⟩⟩
    have e1 : n * sz ≤ (n + 1) * sz := Nat.mul_le_mul_right _ (by omega)
    rw [show cur.toList.take (n * sz) = (cur.toList.take ((n + 1) * sz)).take (n * sz) by rw [List.take_take, Nat.min_eq_left e1], h6, List.take_append_of_le_length (by omega), List.take_of_length_le (by omega)]
theorem spc_len (W : List Spl) : (W.flatMap spc).length = W.length * 2 := by
  induction W with
  | nil => rfl
  | cons x l ih => rw [List.flatMap_cons, List.length_append, ih]; simp [spc]; omega
def TakR (w : World) (b B mb : Nat) (v1 v2 v3 v4 vl : Value) (F : List Value) (W : List Spl) (e : Ending) (w' : World) : Prop :=
  (W = [] ∧ e = .returned (.tuple #[.agg #[.int .i64 0, .int .i64 0], .bool false]) ∧ Ext w w') ∨
  (∃ W' x, W = W' ++ [x] ∧ e = .returned (.tuple #[spv x, .bool true]) ∧ ∃ vl', Blk w' b (rfb v1 v2 v3 v4 vl' (.map (some mb)) F) 173 ∧ WkW w' B vl' mb W' ∧ Fr (Sw vl mb b) w w' ∧ vl'.ownBlock = vl.ownBlock)
set_option maxHeartbeats 4000000 in
set_option maxRecDepth 20000 in
theorem take_any {b B mb : Nat} {v1 v2 v3 v4 vl : Value} {F : List Value} {W : List Spl} {w : World} (hb : Blk w b (rfb v1 v2 v3 v4 vl (.map (some mb)) F) 173) (h : WkW w B vl mb W) (hd : W.Nodup) (hx : ∀ x ∈ W, x.1 ≤ 100000 ∧ x.2 ≤ 100000) (hW : W.length ≤ 1000000) :
    Calls Tryd.prog 106 #[.pointer (some ⟨b, 4, none⟩)] w (TakR w b B mb v1 v2 v3 v4 vl F W) := by
  obtain ⟨a, c, rfl⟩ := own_shp h.own
  rcases List.eq_nil_or_concat W with rfl | ⟨W', x, rfl⟩
  · obtain ⟨q0, q1, q2, q3, q4, q5⟩ := rfb_cells hb
    have hbl := hb.lt
    clear h hd hx hW hb
    go_enter Tryd.func106, Tryd.ntmps106
    go_wp2_with fail
    refine bodyPost_ret (v := .tuple #[.agg #[.int .i64 0, .int .i64 0], .bool false]) (by simp [results, Tryd.results106, go_sem]) rfl (.inl ⟨rfl, rfl, by go_grown⟩)
  · rw [List.concat_eq_append] at *
    obtain ⟨hx1, hx2⟩ := hx x (by simp)
    obtain ⟨kl, hkl⟩ := key_spl hx1 hx2
    obtain ⟨mm, hm⟩ := h.map
    have hl : (W' ++ [x]).length = W'.length + 1 := by simp
    have ho := h.own
    rw [hl] at ho hW ⊢
    rw [List.flatMap_append] at ho
    obtain ⟨g, cap, e1, hcap, _, hgl, hmx⟩ := own_some ho (by omega)
    cases e1
    have cx : ∀ j, j < 2 → w.cell? ⟨g, W'.length * 2 + j, none⟩ = (spc x)[j]? := fun j hj => by
      rw [ho.cellAt _ (by omega), List.getElem?_append_right (by rw [spc_len]; omega), spc_len, show W'.length * 2 + j - W'.length * 2 = j by omega]
      simp
    have x0 : w.cell? ⟨g, W'.length * 2, none⟩ = some (.int .i64 (x.1 : Int)) := cx 0 (by omega)
    have x1 : w.cell? ⟨g, W'.length * 2 + 1, none⟩ = some (.int .i64 (x.2 : Int)) := cx 1 (by omega)
    obtain ⟨q0, q1, q2, q3, q4, q5⟩ := rfb_cells hb
    rw [hl] at q4 hb
    have f4 := hb.free 4
    have hbl := hb.lt
    have hmb := map_ne_blk hm hb
    have hmo := own_ne_map ho hm
    have hvb := own_ne_blk ho hb (by decide)
    have HM := Lib.hid hm
    have HKY := Lib.hid hkl
    have HB := Lib.hid hb
    have HOW := Lib.hid (own_short ho (by rw [spc_len]))
    have HLO := Lib.hid h.lo
    have HMO := Lib.hid hmo
    have HI := Lib.hid (wtf_out (W := W') (x := x) (fun q => by
      rw [List.nodup_append] at hd
      exact hd.2.2 x q x (by simp) rfl))
    have HN := Lib.hid (wtf_add (W := W') (x := x))
    have l0 : ((W'.length + 1 : Nat) : Int) = (W'.length : Int) + 1 := by omega
    have hgb : g ≠ b := fun q => hvb (by rw [q]; rfl)
    obtain ⟨n, hn⟩ : ∃ n, W'.length = n := ⟨_, rfl⟩
    have HNN := Lib.hid hn
    simp only [hn] at x0 x1 q4 HOW hW hcap l0 HB HMO ⊢
    have t1 : (((n + 1 : Nat) : Int) == 0) = false := by simp; omega
    have t2 : (n + 1 == 0) = false := by simp
    unfold maxLen at hmx
    clear h hd hx hb hm ho hkl hl cx hmo hvb hn
    go_enter Tryd.func106, Tryd.ntmps106
    go_wp2_with fail
    have BK1 := Lib.hid (show Blk (((w.setCell ⟨b, 4, none⟩ (.slice (some ⟨g, 0, none⟩) n c)).alloc (.cells #[.int .i64 0, .int .i64 0] 176)).alloc (.cells #[.int .i64 (x.1 : Int), .int .i64 (x.2 : Int)] 176)) b (rfb v1 v2 v3 v4 (.slice (some ⟨g, 0, none⟩) n c) (.map (some mb)) F) _ from by
      have := HB.out.set 4 (.slice (some ⟨g, 0, none⟩) n c)
      rw [rfb_set4] at this; exact (this.alloc _).alloc _)
    have HM1 := Lib.hid (((HM.out.setCell (a := ⟨b, 4, none⟩) hmb (.slice (some ⟨g, 0, none⟩) n c)).ext (ext_box _ #[.int .i64 0, .int .i64 0] 176)).ext (ext_box _ #[.int .i64 (x.1 : Int), .int .i64 (x.2 : Int)] 176))
    have OW1 := Lib.hid (((own_set (b := b) (i := 4) (u := .slice (some ⟨g, 0, none⟩) n c) HOW.out (fun q => hgb (Option.some.inj q))).alloc (.cells #[.int .i64 0, .int .i64 0] 176)).alloc (.cells #[.int .i64 (x.1 : Int), .int .i64 (x.2 : Int)] 176))
    have hsz : (w.setCell ⟨b, 4, none⟩ (.slice (some ⟨g, 0, none⟩) n c)).heap.size = w.heap.size := by simp [World.setCell]
    have HR1 := Lib.hid (show Blk (((w.setCell ⟨b, 4, none⟩ (.slice (some ⟨g, 0, none⟩) n c)).alloc (.cells #[.int .i64 0, .int .i64 0] 176)).alloc (.cells #[.int .i64 (x.1 : Int), .int .i64 (x.2 : Int)] 176)) w.heap.size #[.int .i64 0, .int .i64 0] _ from by
      have := Blk.new (w.setCell ⟨b, 4, none⟩ (.slice (some ⟨g, 0, none⟩) n c)) #[.int .i64 0, .int .i64 0] 176
      rw [hsz] at this; exact this.alloc _)
    have HS1 := Lib.hid (show Blk (((w.setCell ⟨b, 4, none⟩ (.slice (some ⟨g, 0, none⟩) n c)).alloc (.cells #[.int .i64 0, .int .i64 0] 176)).alloc (.cells #[.int .i64 (x.1 : Int), .int .i64 (x.2 : Int)] 176)) (w.heap.size + 1) #[.int .i64 (x.1 : Int), .int .i64 (x.2 : Int)] _ from by
      have := Blk.new ((w.setCell ⟨b, 4, none⟩ (.slice (some ⟨g, 0, none⟩) n c)).alloc (.cells #[.int .i64 0, .int .i64 0] 176)) #[.int .i64 (x.1 : Int), .int .i64 (x.2 : Int)] 176
      rw [show ((w.setCell ⟨b, 4, none⟩ (.slice (some ⟨g, 0, none⟩) n c)).alloc (.cells #[.int .i64 0, .int .i64 0] 176)).heap.size = w.heap.size + 1 by simp [World.setCell]] at this; exact this)
    have F1 := Lib.hid (show Fr (Sw (.slice (some ⟨g, 0, none⟩) (n + 1) c) mb b) w (((w.setCell ⟨b, 4, none⟩ (.slice (some ⟨g, 0, none⟩) n c)).alloc (.cells #[.int .i64 0, .int .i64 0] 176)).alloc (.cells #[.int .i64 (x.1 : Int), .int .i64 (x.2 : Int)] 176)) from
      (((Fr.refl _ w).set (S := Sw (.slice (some ⟨g, 0, none⟩) (n + 1) c) mb b) (.inl (.inr (.inr rfl))) _).trans (Fr.of_ext (S := fun _ => False) (ext_box _ _ _)) (fun _ _ q => q.elim)).trans (Fr.of_ext (S := fun _ => False) (ext_box _ _ _)) (fun _ _ q => q.elim))
    generalize ((w.setCell ⟨b, 4, none⟩ (.slice (some ⟨g, 0, none⟩) n c)).alloc (.cells #[.int .i64 0, .int .i64 0] 176)).alloc (.cells #[.int .i64 (x.1 : Int), .int .i64 (x.2 : Int)] 176) = w1 at *
    clear q0 q1 q2 q3 q4 q5 f4 x0 x1 HB HM HOW hsz
    refine G.wp_region_tail (G := Ext) (fun _ => none) 5 (by kernel_rfl) (by kernel_rfl) (fun _ _ h => by cases h) (fun hex => ?_)
    simp only [List.take_succ_cons, List.take_zero, List.drop_succ_cons, List.drop_zero]
    iterate 5
      (refine G.wpS_one (A := ?_) hex rfl rfl (by simp) ?_ ?_ ?_
       rotate_left 2
       · intro w' hC K hK
         obtain ⟨q0, q1, q2, q3, q4, q5⟩ := rfb_cells (BK1.out.ext hC.1); have z0 := (HS1.out.ext hC.1).cell 0; have z1 := (HS1.out.ext hC.1).cell 1
         go_wp2_with (fail)
         refine hK _ ?_
         first | exact Below.refl _ _ | assumption | ((repeat' (first | (with_reducible exact Below.refl _ _) | (with_reducible assumption) | (with_reducible refine below_drewN ?_ _) | (with_reducible refine Below.alloc ?_ ?_ _) | (with_reducible refine Below.drew ?_) | (with_reducible refine Below.setCell ?_ ?_ _) | (with_reducible refine Below.trans ?_ (Below.mono (by with_reducible assumption) ?_)) | go_size)))
       rotate_left 1
       · rfl
       clear hex; intro hex)
    refine G.wpS_nil fun w5 hAll => ?_
    have E5 := Lib.hid hAll.1
    clear hAll hex
    go_upto_region 7 with (refine wpList_del_at _ rfl _ _ rfl law_spl Tryd.underlying166 rfl (HM1.out.ext E5.out) (spv x) _ rfl HKY.out (wtf W') HI.out (fun v hv => (HN.out v hv).symm) ?_; intro w6 m6 hm6 g6 s6)
    try simp only [Act.put]
    have FM : Fr (fun k => k = mb) w1 w6 := (Fr.of_ext (S := fun k => k = mb) E5.out).trans (Fr.of_grown (S := fun k => k = mb) g6 (fun k hk => (Option.some.inj hk).symm)) (fun _ _ q => q)
    have BK6 := Lib.hid (FM.blk BK1.out (fun q => hmb q.symm))
    have HR6 := Lib.hid (FM.blk HR1.out (fun q => map_ne_blk HM1.out HR1.out q.symm))
    have HS6 := Lib.hid (FM.blk HS1.out (fun q => map_ne_blk HM1.out HS1.out q.symm))
    have OW6 := Lib.hid (FM.own OW1.out (fun k hk q => HMO.out (by have hk : g = k := Option.some.inj hk; rw [← q, ← hk]; rfl)))
    have HM6 := Lib.hid hm6
    have F6 := Lib.hid (F1.out.trans FM (fun _ _ q => .inr (.inl q)))
    clear FM hm6 g6 s6 BK1 HR1 HS1 OW1 HM1 F1 E5
    have z0 := HS6.out.cell 0
    have z1 := HS6.out.cell 1
    have r0 := HR6.out.cell 0
    have r1 := HR6.out.cell 1
    have y0 := HR6.out.free 0
    have y1 := HR6.out.free 1
    go_wp2_with fail
    refine bodyPost_ret (v := .tuple #[spv x, .bool true]) (by simp [results, Tryd.results106, go_sem, r0, r1]) rfl (.inr ⟨W', x, rfl, rfl, .slice (some ⟨g, 0, none⟩) n c, ?_, ⟨?_, ⟨m6, ?_⟩, HLO.out⟩, ?_, rfl⟩)
    · exact (BK6.out.set_other (a := ⟨w.heap.size, 0, none⟩) (by show w.heap.size ≠ b; omega) _).set_other (a := ⟨w.heap.size, 1, none⟩) (by show w.heap.size ≠ b; omega) _
    · rw [HNN.out]
      exact own_set (own_set OW6.out (fun q => by have q : g = w.heap.size := Option.some.inj q; omega)) (fun q => by have q : g = w.heap.size := Option.some.inj q; omega)
    · exact (HM6.out.setCell (a := ⟨w.heap.size, 0, none⟩) (map_ne_blk HM6.out HR6.out) _).setCell (a := ⟨w.heap.size, 1, none⟩) (map_ne_blk HM6.out HR6.out) _
    · have := (F6.out.set (b := w.heap.size) (i := 0) (.inr (Nat.le_refl _)) (.int .i64 (x.1 : Int))).set (b := w.heap.size) (i := 1) (.inr (Nat.le_refl _)) (.int .i64 (x.2 : Int))
      exact this
end Go.Proofs.YtniamfaiamgncaaDoor
