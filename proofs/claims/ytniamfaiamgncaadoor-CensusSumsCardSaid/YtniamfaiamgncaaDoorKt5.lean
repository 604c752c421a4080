/- Package census: a table is made. -/
import Derived.Test.YtniamfaiamgncaaDoorKt4
namespace Go.Proofs.YtniamfaiamgncaaDoor
open Go Go.RowKit
def zc130 : List Value := (List.range 130).map fun j => if j % 2 = 0 then .int .u64 0 else .bool false
theorem info_cnt : (Tryd.prog.info? 196).map (fun i => (i.zero.map (·.cells), i.size, i.bytes)) = some (some zc130.toArray, 130, 1040) := by kernel_rfl
theorem made_tcells (n : Nat) : (madeCells zc130.toArray (n * 130)).toList = tcells n (fun _ _ => none) := by
  apply List.ext_getElem?
  intro j
  by_cases hj : j < n * 130
  · rw [tcells_get hj]
    unfold madeCells
    have h1 : zc130.toArray.size = 130 := by simp [zc130]
    simp only [h1]
    have h2 : j % 130 < 130 := Nat.mod_lt _ (by decide)
    simp [hj, zc130, h2, tcell, oN, oB]
  · rw [List.getElem?_eq_none (by simp [madeCells]; omega), List.getElem?_eq_none (by rw [tcells_len]; omega)]
theorem cnt_parts : ∃ i z, Tryd.prog.info? 196 = some i ∧ i.zero = some z ∧ i.size = 130 ∧ i.bytes = 1040 ∧ z.cells = zc130.toArray := by
  have h := info_cnt
  cases e : Tryd.prog.info? 196 with
  | none => rw [e] at h; cases h
  | some i =>
    rw [e] at h
    simp only [Option.map_some, Option.some.injEq, Prod.mk.injEq] at h
    obtain ⟨h1, h2, h3⟩ := h
    cases e2 : i.zero with
    | none => rw [e2] at h1; cases h1
    | some z =>
      rw [e2] at h1
      exact ⟨i, z, rfl, e2, h2, h3, Option.some.inj h1⟩
def RsF4 (l : List (Nat × (Value → World → Prop))) : Nat → Option (Value → World → Prop) := fun j => (l.find? fun p => p.1 == j).map fun p => p.2
theorem RsF4_mono {Z : World → World → Prop} {l : List (Nat × (Value → World → Prop))} (h : ∀ p ∈ l, G.Mono Z p.2) : G.RsMono Z (RsF4 l) := by
  intro j R hR
  unfold RsF4 at hR
  cases q : l.find? fun p => p.1 == j with
  | none => rw [q] at hR; cases hR
  | some p =>
    rw [q] at hR
    cases hR
    exact h p (List.mem_of_find?_eq_some q)
/-- Of which states the counts of no byte are known. -/
def T0 (lab : Nat → Int) (x : Int) (k : Nat) : Nat → Nat → Option Nat := fun s l => if s < k ∧ l = 0 then some (if lab s = x then 1 else 0) else none
theorem T0_step {lab : Nat → Int} {x : Int} {k y : Nat} (h : y = if lab k = x then 1 else 0) : ∀ s l, upT (T0 lab x k) k 0 y s l = T0 lab x (k + 1) s l := by
  intro s l
  unfold upT T0
  by_cases e : s = k ∧ l = 0
  · obtain ⟨rfl, rfl⟩ := e
    have h1 : s < s + 1 ∧ 0 = 0 := ⟨by omega, rfl⟩
    rw [if_pos ⟨rfl, rfl⟩, if_pos h1, h]
  · rw [if_neg e]
    by_cases q : s < k ∧ l = 0
    · have h1 : s < k + 1 ∧ l = 0 := ⟨by omega, q.2⟩
      rw [if_pos q, if_pos h1]
    · have h1 : ¬ (s < k + 1 ∧ l = 0) := by omega
      rw [if_neg q, if_neg h1]
theorem upT_two {T : Nat → Nat → Option Nat} {s l x y : Nat} : upT (upT T s l x) s l y = upT T s l y := by
  funext s' l'
  unfold upT
  by_cases e : s' = s ∧ l' = l
  · rw [if_pos e, if_pos e]
  · rw [if_neg e, if_neg e, if_neg e]
theorem exactly_zero (w : World) : Calls Tryd.prog 117 #[.int .u64 0] w fun e w' => e = .returned (.agg #[.int .u64 0, .bool true]) ∧ Ext w w' := by
  have := exactly_any 0 w (by decide)
  unfold cv at this
  rw [sN_of (show 0 < T64 by decide), sB_of (show 0 < T64 by decide)] at this
  exact this
theorem exactly_one (w : World) : Calls Tryd.prog 117 #[.int .u64 1] w fun e w' => e = .returned (.agg #[.int .u64 1, .bool true]) ∧ Ext w w' := by
  have := exactly_any 1 w (by decide)
  unfold cv at this
  rw [sN_of (show 1 < T64 by decide), sB_of (show 1 < T64 by decide)] at this
  exact this
/-- What tableOf holds while it is filled. -/
structure Tb5 (w0 w : World) (tb gf n : Nat) (vN : Value) (T : Nat → Nat → Option Nat) : Prop where
  ex : Ext w0 w
  bk : Blk w tb #[vN, .slice (some ⟨gf, 0, none⟩) n n, .int .i64 0] 194
  fm : FromW w w0.heap.size gf n T
  lo : w0.heap.size ≤ tb
theorem Tb5.ext {w0 w w' : World} {tb gf n : Nat} {vN : Value} {T : Nat → Nat → Option Nat} (h : Tb5 w0 w tb gf n vN T) (hx : Ext w w') : Tb5 w0 w' tb gf n vN T := ⟨bel_call h.ex hx, h.bk.ext hx, h.fm.ext hx, h.lo⟩
theorem Tb5.put {w0 w : World} {tb gf n s x : Nat} {vN : Value} {T : Nat → Nat → Option Nat} (h : Tb5 w0 w tb gf n vN T) :
    Tb5 w0 ((w.setCell ⟨gf, s * 130, none⟩ (.int .u64 (sN x : Nat))).setCell ⟨gf, s * 130 + 1, none⟩ (.bool (sB x))) tb gf n vN (upT T s 0 x) := by
  have hne : gf ≠ tb := h.fm.ne_blk h.bk (by decide)
  exact ⟨(h.ex.setCell (p := ⟨gf, s * 130, none⟩) h.fm.lo.1 _).setCell (p := ⟨gf, s * 130 + 1, none⟩) h.fm.lo.1 _, (h.bk.set_other (a := ⟨gf, s * 130, none⟩) hne _).set_other (a := ⟨gf, s * 130 + 1, none⟩) hne _, h.fm.putz, h.lo⟩
theorem Tb5.put0 {w0 w : World} {tb gf n s : Nat} {vN : Value} {T : Nat → Nat → Option Nat} (h : Tb5 w0 w tb gf n vN T) : Tb5 w0 ((w.setCell ⟨gf, s * 130, none⟩ (.int .u64 0)).setCell ⟨gf, s * 130 + 1, none⟩ (.bool true)) tb gf n vN (upT T s 0 0) := by
  have := h.put (s := s) (x := 0)
  rw [sN_of (show 0 < T64 by decide), sB_of (show 0 < T64 by decide)] at this
  exact this
theorem Tb5.put1 {w0 w : World} {tb gf n s : Nat} {vN : Value} {T : Nat → Nat → Option Nat} (h : Tb5 w0 w tb gf n vN T) : Tb5 w0 ((w.setCell ⟨gf, s * 130, none⟩ (.int .u64 1)).setCell ⟨gf, s * 130 + 1, none⟩ (.bool true)) tb gf n vN (upT T s 0 1) := by
  have := h.put (s := s) (x := 1)
  rw [sN_of (show 1 < T64 by decide), sB_of (show 1 < T64 by decide)] at this
  exact this
def RFm (B n : Nat) (v : Value) (w : World) : Prop := ∃ gf, v = .slice (some ⟨gf, 0, none⟩) n n ∧ FromW w B gf n (fun _ _ => none)
theorem RFm_ext (B n : Nat) : G.Mono Ext (RFm B n) := fun _ _ _ hx ⟨g, e, h⟩ => ⟨g, e, h.ext hx⟩
def RFb (B n : Nat) (vN : Value) (v : Value) (w : World) : Prop := ∃ gf, v = .agg #[vN, .slice (some ⟨gf, 0, none⟩) n n, .int .i64 0] ∧ FromW w B gf n (fun _ _ => none)
theorem RFb_ext (B n : Nat) (vN : Value) : G.Mono Ext (RFb B n vN) := fun _ _ _ hx ⟨g, e, h⟩ => ⟨g, e, h.ext hx⟩
def RTb (B : Nat) (v : Value) (w : World) : Prop := ∃ tb, v = .pointer (some ⟨tb, 0, none⟩) ∧ Blk w tb #[.slice none 0 0, .slice none 0 0, .int .i64 0] 194 ∧ B ≤ tb
theorem RTb_ext (B : Nat) : G.Mono Ext (RTb B) := fun _ _ _ hx ⟨g, e, h, h2⟩ => ⟨g, e, h.ext hx, h2⟩
set_option maxHeartbeats 2000000 in
set_option maxRecDepth 20000 in
theorem tableof_any (d : Dd) (v : Value) (x : Int) (w : World) (hd : d.Ok) (h : Dns w v d) (hx1 : -9223372036854775808 ≤ x) (hx2 : x ≤ 9223372036854775807) :
    Calls Tryd.prog 74 #[v, .int .i64 x] w fun e w' => ∃ tb gf vN, e = .returned (.pointer (some ⟨tb, 0, none⟩)) ∧ Tbl w w' tb gf d.nx.length 0 vN d (TT d.to d.lab x 0) := by
  obtain ⟨a, b, rfl, h1, h2⟩ := h
  obtain ⟨p, cap, rfl, _⟩ := h1.shape
  obtain ⟨p2, cap2, rfl, _⟩ := h2.shape
  obtain ⟨n, hn⟩ : ∃ n, d.nx.length = n := ⟨_, rfl⟩
  have hl : d.lb.length = n := by rw [hd.lbl, hn]
  have h6 := hd.le
  rw [hn] at h6 ⊢
  have H1 := Lib.hid h1
  rw [hn] at h1
  rw [hl] at h2
  rw [hl]
  have HE := Lib.hid (ext_box w #[.slice p n cap, .slice p2 n cap2] 25)
  have HBX := Lib.hid (Blk.new w #[.slice p n cap, .slice p2 n cap2] 25)
  have H2 := Lib.hid (h2.ext HE.out)
  have HL := Lib.hid hl
  have HN := Lib.hid hn
  obtain ⟨i0, z0, hi0, hz0, hz1, hz2, hz3⟩ := cnt_parts
  clear h1 h2 hl hn
  go_enter Tryd.func74, Tryd.ntmps74
  go_upto_region 1 with fail
  generalize w.alloc (.cells #[.slice p n cap, .slice p2 n cap2] 25) = w1 at HE HBX H2 ⊢
  refine G.wp_region_tail (G := Ext) (RsF4 [(5, RFm w1.heap.size n), (6, RFb w1.heap.size n (.slice p n cap)), (7, RTb w1.heap.size)]) 8 (by kernel_rfl) (by kernel_rfl) (RsF4_mono (by simp only [List.forall_mem_cons, List.not_mem_nil, false_implies, implies_true, and_true]; exact ⟨RFm_ext _ _, RFb_ext _ _ _, RTb_ext _⟩)) (fun hex => ?_)
  simp only [List.take_succ_cons, List.take_zero, List.drop_succ_cons, List.drop_zero]
  iterate 5
    (refine G.wpS_one (A := ?_) hex rfl rfl (by simp) ?_ ?_ ?_
     rotate_left 2
     · intro w' hC K hK
       have z0 := (HBX.out.ext hC.1).cell 0
       go_wp2_with (fail)
       refine hK _ ?_
       first | exact Below.refl _ _ | assumption | ((repeat' (first | (with_reducible exact Below.refl _ _) | (with_reducible assumption) | (with_reducible refine below_drewN ?_ _) | (with_reducible refine Below.alloc ?_ ?_ _) | (with_reducible refine Below.drew ?_) | (with_reducible refine Below.setCell ?_ ?_ _) | (with_reducible refine Below.trans ?_ (Below.mono (by with_reducible assumption) ?_)) | go_size)))
     rotate_left 1
     · rfl
     clear hex; intro hex)
  refine G.wpS_rel (RFm w1.heap.size n) rfl rfl (by simp) (by first | rfl | (simp [Region.wanted, yielded]; done)) ?_ ?_
  · intro w' hC K hK
    simp only [Act.put, List.setIfInBounds_toArray, List.set_cons_succ, List.set_cons_zero] at hK
    have hsC := hC.1.size
    go_wp2_with (at_make; refine wpList_make_full _ rfl _ _ 192 rfl w1.heap.size 196 i0 z0 130 Tryd.underlying192 hi0 hz0 hz1 .i64 .i64 _ _ n rfl rfl rfl rfl (by rw [hz2]; omega) (by unfold maxLen; omega) hsC ?_; intro wm hown hgm; have hxm : Ext w' wm := ⟨hgm.os, hgm.tape, hgm.output, hgm.size, fun k hk => hgm.block k hk (by simp)⟩)
    refine hK _ _ ?_ ?_
    · first | exact Below.refl _ _ | assumption | ((repeat' (first | (with_reducible exact Below.refl _ _) | (with_reducible assumption) | (with_reducible refine below_drewN ?_ _) | (with_reducible refine Below.alloc ?_ ?_ _) | (with_reducible refine Below.drew ?_) | (with_reducible refine Below.setCell ?_ ?_ _) | (with_reducible refine Below.trans ?_ (Below.mono (by with_reducible assumption) ?_)) | go_size)))
    · exact ⟨_, rfl, by rw [hz3, made_tcells] at hown; exact hown⟩
  clear hex
  intro v5 w' hex hv5
  replace hex := Exists.intro w' hex
  simp only [Act.put, List.setIfInBounds_toArray, List.set_cons_succ, List.set_cons_zero]
  obtain ⟨gF, rfl, -⟩ := hv5
  refine G.wpS_rel (RFb w1.heap.size n (.slice p n cap)) rfl rfl (by simp) (by first | rfl | (simp [Region.wanted, yielded]; done)) ?_ ?_
  · intro w' hC K hK
    simp only [Act.put, List.setIfInBounds_toArray, List.set_cons_succ, List.set_cons_zero] at hK
    obtain ⟨g', e', hf'⟩ := (hC.2 5 (by simp [Region.binds])).1 rfl; cases e'
    go_wp2_with (fail)
    refine hK _ _ ?_ ?_
    · first | exact Below.refl _ _ | assumption | ((repeat' (first | (with_reducible exact Below.refl _ _) | (with_reducible assumption) | (with_reducible refine below_drewN ?_ _) | (with_reducible refine Below.alloc ?_ ?_ _) | (with_reducible refine Below.drew ?_) | (with_reducible refine Below.setCell ?_ ?_ _) | (with_reducible refine Below.trans ?_ (Below.mono (by with_reducible assumption) ?_)) | go_size)))
    · exact ⟨_, rfl, hf'⟩
  clear hex
  intro v6 w' hex hv6
  replace hex := Exists.intro w' hex
  simp only [Act.put, List.setIfInBounds_toArray, List.set_cons_succ, List.set_cons_zero]
  obtain ⟨gG, rfl, -⟩ := hv6
  refine G.wpS_rel (RTb w1.heap.size) rfl rfl (by simp) (by first | rfl | (simp [Region.wanted, yielded]; done)) ?_ ?_
  · intro w' hC K hK
    simp only [Act.put, List.setIfInBounds_toArray, List.set_cons_succ, List.set_cons_zero] at hK
    skip
    go_wp2_with (fail)
    refine hK _ _ ?_ ?_
    · first | exact Below.refl _ _ | assumption | ((repeat' (first | (with_reducible exact Below.refl _ _) | (with_reducible assumption) | (with_reducible refine below_drewN ?_ _) | (with_reducible refine Below.alloc ?_ ?_ _) | (with_reducible refine Below.drew ?_) | (with_reducible refine Below.setCell ?_ ?_ _) | (with_reducible refine Below.trans ?_ (Below.mono (by with_reducible assumption) ?_)) | go_size)))
    · exact ⟨_, rfl, Blk.new _ _ _, hC.1.size⟩
  clear hex
  intro v7 w' hex hv7
  replace hex := Exists.intro w' hex
  simp only [Act.put, List.setIfInBounds_toArray, List.set_cons_succ, List.set_cons_zero]
  obtain ⟨tb, rfl, -⟩ := hv7
  refine G.wpS_nil fun w8 hAll => ?_
  obtain ⟨tb', e1, hbk, htb⟩ := (hAll.2 7).1 rfl
  cases e1
  obtain ⟨gG', e2, hfm⟩ := (hAll.2 6).2.1 rfl
  cases e2
  have f0 := hbk.free 0
  have f1 := hbk.free 1
  have f2 := hbk.free 2
  have p0 := hbk.cell 0
  have p1 := hbk.cell 1
  have p2 := hbk.cell 2
  have hb3 := ((hbk.set 0 (.slice p n cap)).set 1 (.slice (some ⟨gG, 0, none⟩) n n)).set 2 (.int .i64 0)
  have hne : gG ≠ tb := hfm.ne_blk hbk (by decide)
  have L0 := Lib.hid (show Tb5 w1 (((w8.setCell ⟨tb, 0, none⟩ (.slice p n cap)).setCell ⟨tb, 1, none⟩ (.slice (some ⟨gG, 0, none⟩) n n)).setCell ⟨tb, 2, none⟩ (.int .i64 0)) tb gG n (.slice p n cap) (T0 d.lab x 0) from by
    have hlt : w1.heap.size ≤ tb := htb
    refine ⟨(((hAll.1).setCell (p := ⟨tb, 0, none⟩) hlt _).setCell (p := ⟨tb, 1, none⟩) hlt _).setCell (p := ⟨tb, 2, none⟩) hlt _, hb3, ?_, hlt⟩
    have hm : FromW w8 w1.heap.size gG n (fun _ _ => none) := hfm
    have hn1 : (Value.slice (some ⟨gG, 0, none⟩) n n).ownBlock ≠ some tb := fun q => hne (Option.some.inj q)
    exact FromW.same (own_set (own_set (own_set hm hn1) hn1) hn1) (fun s l _ _ => by unfold T0; rw [if_neg (by omega)]))
  clear hAll hex hbk htb hfm hb3 hne
  go_upto_region 2 with fail
  generalize ((w8.setCell ⟨tb, 0, none⟩ (.slice p n cap)).setCell ⟨tb, 1, none⟩ (.slice (some ⟨gG, 0, none⟩) n n)).setCell ⟨tb, 2, none⟩ (.int .i64 0) = w9 at *
  clear f0 f1 f2 p0 p1 p2
  have z1 := L0.out.bk.cell 1
  go_wp2_with fail
  clear z1
  go_loopw [17] (fun s17 wr => ∃ k : Nat, k ≤ n ∧ s17 = .int .i64 k ∧ Hid (Tb5 w1 wr tb gG n (.slice p n cap) (T0 d.lab x k))) (fun s17 _ => n - (intOf s17).toNat)
  case atStart => exact ⟨0, Nat.zero_le _, rfl, L0⟩
  case round =>
    clear L0
    obtain ⟨k, hk, rfl, hL⟩ := hrel
    by_cases hkn : k < n
    · go_upto_region 5 with fail
      refine G.wp_region_tail (G := Ext) (fun _ => none) 6 (by kernel_rfl) (by kernel_rfl) (fun _ _ h => by cases h) (fun hex => ?_)
      simp only [List.take_succ_cons, List.take_zero, List.drop_succ_cons, List.drop_zero]
      iterate 3
        (refine G.wpS_one (A := ?_) hex rfl rfl (by simp) ?_ ?_ ?_
         rotate_left 2
         · intro w' hC K hK
           have z1 := (hL.out.bk.ext hC.1).cell 1
           go_wp2_with (fail)
           refine hK _ ?_
           first | exact Below.refl _ _ | assumption | ((repeat' (first | (with_reducible exact Below.refl _ _) | (with_reducible assumption) | (with_reducible refine below_drewN ?_ _) | (with_reducible refine Below.alloc ?_ ?_ _) | (with_reducible refine Below.drew ?_) | (with_reducible refine Below.setCell ?_ ?_ _) | (with_reducible refine Below.trans ?_ (Below.mono (by with_reducible assumption) ?_)) | go_size)))
         rotate_left 1
         · rfl
         clear hex; intro hex)
      refine G.wpS_one (A := ?_) hex rfl rfl (by simp) ?_ ?_ ?_
      rotate_left 2
      · intro w' hC K hK
        go_wp2_with (go_at_call 117; with_reducible refine (exactly_zero w').mono ?_; rintro e w9 ⟨rfl, hb9⟩)
        refine hK _ ?_
        first | exact Below.refl _ _ | assumption | ((repeat' (first | (with_reducible exact Below.refl _ _) | (with_reducible assumption) | (with_reducible refine below_drewN ?_ _) | (with_reducible refine Below.alloc ?_ ?_ _) | (with_reducible refine Below.drew ?_) | (with_reducible refine Below.setCell ?_ ?_ _) | (with_reducible refine Below.trans ?_ (Below.mono (by with_reducible assumption) ?_)) | go_size)))
      rotate_left 1
      · rfl
      clear hex; intro hex
      iterate 2
        (refine G.wpS_one (A := ?_) hex rfl rfl (by simp) ?_ ?_ ?_
         rotate_left 2
         · intro w' hC K hK
           go_wp2_with (fail)
           refine hK _ ?_
           first | exact Below.refl _ _ | assumption | ((repeat' (first | (with_reducible exact Below.refl _ _) | (with_reducible assumption) | (with_reducible refine below_drewN ?_ _) | (with_reducible refine Below.alloc ?_ ?_ _) | (with_reducible refine Below.drew ?_) | (with_reducible refine Below.setCell ?_ ?_ _) | (with_reducible refine Below.trans ?_ (Below.mono (by with_reducible assumption) ?_)) | go_size)))
         rotate_left 1
         · rfl
         clear hex; intro hex)
      refine G.wpS_nil fun w6 hAll => ?_
      have L6 := Lib.hid (hL.out.ext hAll.1)
      have c0 := L6.out.fm.cellz0 hkn
      have c1 := L6.out.fm.cellz1 hkn
      have f0 := L6.out.fm.free (k * 130)
      have f1 := L6.out.fm.free (k * 130 + 1)
      clear hL hAll hex
      have L7 := Lib.hid (Tb5.put0 (s := k) L6.out)
      go_upto_region 6 with fail
      clear L6 c0 c1 f0 f1
      generalize (w6.setCell ⟨gG, k * 130, none⟩ (.int .u64 0)).setCell ⟨gG, k * 130 + 1, none⟩ (.bool true) = w7 at *
      have hw1 : Ext w1 w7 := L7.out.ex
      have z1 := (HBX.out.ext hw1).cell 1
      obtain ⟨bL, oL, rfl, hbL, hcL, hL1, hL2⟩ := (H2.out.ext hw1).cell (k := k) (by rw [HL.out]; exact hkn)
      obtain ⟨y, hy⟩ : ∃ y, d.lb[k]'(by rw [HL.out]; exact hkn) = y := ⟨_, rfl⟩
      rw [hy] at hcL hL1 hL2
      have hyl : d.lab k = y := by rw [← hy]; unfold Dd.lab; rw [getD_get (by rw [HL.out]; exact hkn)]
      have HY := Lib.hid hyl
      clear hy hyl hw1
      by_cases q : y = x
      · subst q
        go_upto_region 7 with fail
        clear z1 hcL
        go_upto_region 7 with fail
        refine G.wp_region_tail (G := Ext) (fun _ => none) 6 (by kernel_rfl) (by kernel_rfl) (fun _ _ h => by cases h) (fun hex => ?_)
        simp only [List.take_succ_cons, List.take_zero, List.drop_succ_cons, List.drop_zero]
        iterate 3
          (refine G.wpS_one (A := ?_) hex rfl rfl (by simp) ?_ ?_ ?_
           rotate_left 2
           · intro w' hC K hK
             have z1 := (L7.out.bk.ext hC.1).cell 1
             go_wp2_with (fail)
             refine hK _ ?_
             first | exact Below.refl _ _ | assumption | ((repeat' (first | (with_reducible exact Below.refl _ _) | (with_reducible assumption) | (with_reducible refine below_drewN ?_ _) | (with_reducible refine Below.alloc ?_ ?_ _) | (with_reducible refine Below.drew ?_) | (with_reducible refine Below.setCell ?_ ?_ _) | (with_reducible refine Below.trans ?_ (Below.mono (by with_reducible assumption) ?_)) | go_size)))
           rotate_left 1
           · rfl
           clear hex; intro hex)
        refine G.wpS_one (A := ?_) hex rfl rfl (by simp) ?_ ?_ ?_
        rotate_left 2
        · intro w' hC K hK
          go_wp2_with (go_at_call 117; with_reducible refine (exactly_one w').mono ?_; rintro e w9 ⟨rfl, hb9⟩)
          refine hK _ ?_
          first | exact Below.refl _ _ | assumption | ((repeat' (first | (with_reducible exact Below.refl _ _) | (with_reducible assumption) | (with_reducible refine below_drewN ?_ _) | (with_reducible refine Below.alloc ?_ ?_ _) | (with_reducible refine Below.drew ?_) | (with_reducible refine Below.setCell ?_ ?_ _) | (with_reducible refine Below.trans ?_ (Below.mono (by with_reducible assumption) ?_)) | go_size)))
        rotate_left 1
        · rfl
        clear hex; intro hex
        iterate 2
          (refine G.wpS_one (A := ?_) hex rfl rfl (by simp) ?_ ?_ ?_
           rotate_left 2
           · intro w' hC K hK
             go_wp2_with (fail)
             refine hK _ ?_
             first | exact Below.refl _ _ | assumption | ((repeat' (first | (with_reducible exact Below.refl _ _) | (with_reducible assumption) | (with_reducible refine below_drewN ?_ _) | (with_reducible refine Below.alloc ?_ ?_ _) | (with_reducible refine Below.drew ?_) | (with_reducible refine Below.setCell ?_ ?_ _) | (with_reducible refine Below.trans ?_ (Below.mono (by with_reducible assumption) ?_)) | go_size)))
           rotate_left 1
           · rfl
           clear hex; intro hex)
        refine G.wpS_nil fun w8 hAll => ?_
        have L8 := Lib.hid (L7.out.ext hAll.1)
        have c0 := L8.out.fm.cellz0 hkn
        have c1 := L8.out.fm.cellz1 hkn
        have f0 := L8.out.fm.free (k * 130)
        have f1 := L8.out.fm.free (k * 130 + 1)
        clear L7 hAll hex
        have L9 := Lib.hid (Tb5.put1 (s := k) L8.out)
        rw [upT_two] at L9
        go_upto_region 8 with fail
        clear L8 c0 c1 f0 f1
        generalize (w8.setCell ⟨gG, k * 130, none⟩ (.int .u64 1)).setCell ⟨gG, k * 130 + 1, none⟩ (.bool true) = w9 at *
        have L10 := Lib.hid (show Tb5 w1 w9 tb gG n (.slice p n cap) (T0 d.lab y (k + 1)) from ⟨L9.out.ex, L9.out.bk, L9.out.fm.same (fun s l _ _ => T0_step (by rw [HY.out, if_pos rfl]) s l), L9.out.lo⟩)
        go_wp2_with fail
        go_roundw
        case rel => exact ⟨k + 1, by omega, by go_num, L10⟩
        case measure => simp [intOf]; omega
      · have t1 : (y == x) = false := by simpa using q
        go_upto_region 8 with fail
        have L10 := Lib.hid (show Tb5 w1 w7 tb gG n (.slice p n cap) (T0 d.lab x (k + 1)) from ⟨L7.out.ex, L7.out.bk, L7.out.fm.same (fun s l _ _ => T0_step (by rw [HY.out, if_neg q]) s l), L7.out.lo⟩)
        go_wp2_with fail
        go_roundw
        case rel => exact ⟨k + 1, by omega, by go_num, L10⟩
        case measure => simp [intOf]; omega
    · obtain rfl : n = k := by omega
      go_wp2_with fail
      go_ret
      have hT : ∀ s l, s < n → l < 65 → T0 d.lab x n s l = TT d.to d.lab x 0 s l := fun s l hs _ => by
        unfold T0 TT
        by_cases e : l = 0
        · subst e
          rw [if_pos ⟨hs, rfl⟩, if_pos (Nat.le_refl _)]; rfl
        · have h1 : ¬ (s < n ∧ l = 0) := by omega
          rw [if_neg h1, if_neg (by omega)]
      have hw1 : w.heap.size ≤ w1.heap.size := HE.out.size
      exact ⟨tb, gG, .slice p n cap, rfl, bel_call HE.out hL.out.ex, by rw [← HN.out]; exact H1.out, hL.out.bk, World.ownsRow.mono (hL.out.fm.same hT) hw1, Nat.le_trans hw1 hL.out.lo⟩
end Go.Proofs.YtniamfaiamgncaaDoor
