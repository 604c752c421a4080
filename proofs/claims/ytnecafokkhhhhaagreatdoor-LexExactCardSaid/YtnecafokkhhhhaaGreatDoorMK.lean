/- bolterref3's reader: class. -/
import Derived.Test.YtnecafokkhhhhaaGreatDoorMA
import Derived.Test.YtnecafokkhhhhaaGreatDoorKls
import Derived.Test.YtnecafokkhhhhaaGreatDoorMJ
import Derived.Deep.CutBlock
import Derived.Deep.CutRange
namespace Go.Proofs.YtnecafokkhhhhaaGreatDoor
open Go Go.RowKit
/-- Blocks below B stay; a block above may turn from z to t. -/
def Tn (B : Nat) (z t : Obj) (w w' : World) : Prop := Below B w w' ∧ ∀ k, k < w.heap.size → w'.heap[k]? = w.heap[k]? ∨ (w.heap[k]? = some z ∧ w'.heap[k]? = some t)
instance (B : Nat) (z t : Obj) : G.GOK (Tn B z t) where
  refl w := ⟨Below.refl _ _, fun _ _ => .inl rfl⟩
  trans := fun h k => ⟨h.1.trans k.1, fun i hi => by
    have hi2 := Nat.lt_of_lt_of_le hi h.1.size
    rcases h.2 i hi with e | ⟨e1, e2⟩ <;> rcases k.2 i hi2 with f | ⟨f1, f2⟩
    · exact .inl (f.trans e)
    · exact .inr ⟨e.symm.trans f1, f2⟩
    · exact .inr ⟨e1, f.trans e2⟩
    · exact .inr ⟨e1, f2⟩⟩
  draw w := ⟨⟨rfl, rfl, rfl, Nat.le_refl _, fun _ _ => rfl⟩, fun _ _ => .inl rfl⟩
theorem Tn.of_ext {B : Nat} {z t : Obj} {w w' : World} (h : Ext w w') (hB : B ≤ w.heap.size) : Tn B z t w w' := ⟨h.mono hB, fun k hk => .inl (h.block k hk)⟩
/-- The block has the one content or the other; it has the other. -/
def Bz (z t : Obj) (w : World) (b : Nat) : Prop := w.heap[b]? = some z ∨ w.heap[b]? = some t
def Bt (t : Obj) (w : World) (b : Nat) : Prop := w.heap[b]? = some t
theorem blk_lt {w : World} {b : Nat} {o : Obj} (h : w.heap[b]? = some o) : b < w.heap.size := (Array.getElem?_eq_some_iff.1 h).1
theorem Bz.lt {z t : Obj} {w : World} {b : Nat} (h : Bz z t w b) : b < w.heap.size := h.elim blk_lt blk_lt
theorem Bt.tn {B : Nat} {z t : Obj} {w w' : World} {b : Nat} (h : Bt t w b) (hx : Tn B z t w w') : Bt t w' b := by
  rcases hx.2 b (blk_lt h) with e | ⟨_, e⟩
  · exact e.trans h
  · exact e
theorem Bz.tn {B : Nat} {z t : Obj} {w w' : World} {b : Nat} (h : Bz z t w b) (hx : Tn B z t w w') : Bz z t w' b := by
  rcases hx.2 b h.lt with e | ⟨_, e⟩
  · exact h.elim (fun h => .inl (e.trans h)) (fun h => .inr (e.trans h))
  · exact .inr e
def RMade (B : Nat) (z t : Obj) : Value → Value → World → Prop := fun _ v w => ∃ b, v = .pointer (some ⟨b, 0, none⟩) ∧ B ≤ b ∧ Bz z t w b
def RSet (B : Nat) (t : Obj) : Value → Value → World → Prop := fun u _ w => ∃ b, u = .pointer (some ⟨b, 0, none⟩) ∧ B ≤ b ∧ Bt t w b
/-- Operation ja makes the block, operation js stores into it through slot s. -/
def RsT1 (ja js s B : Nat) (z t : Obj) : H.RsT := fun j => if j = ja then some (none, RMade B z t) else if j = js then some (some (.tmp s), RSet B t) else none
theorem RsT1_mono (ja js s B : Nat) (z t : Obj) : H.RsMono (Tn B z t) (RsT1 ja js s B z t) := by
  intro j x R h u v w w' hx hR
  unfold RsT1 at h
  split at h
  · cases h
    obtain ⟨b, hv, hb, hB⟩ := hR
    exact ⟨b, hv, hb, hB.tn hx⟩
  · split at h
    · cases h
      obtain ⟨b, hv, hb, hB⟩ := hR
      exact ⟨b, hv, hb, hB.tn hx⟩
    · cases h
theorem Tn.store4 {B b : Nat} {w : World} {z0 z1 z2 z3 y0 y1 y2 y3 : Value} {ty : TypeId} (hb : B ≤ b) (h : Bz (.cells #[z0, z1, z2, z3] ty) (.cells #[y0, y1, y2, y3] ty) w b) :
    Tn B (.cells #[z0, z1, z2, z3] ty) (.cells #[y0, y1, y2, y3] ty) w ((((w.setCell ⟨b, 0, none⟩ y0).setCell ⟨b, 1, none⟩ y1).setCell ⟨b, 2, none⟩ y2).setCell ⟨b, 3, none⟩ y3)
      ∧ Bt (.cells #[y0, y1, y2, y3] ty) ((((w.setCell ⟨b, 0, none⟩ y0).setCell ⟨b, 1, none⟩ y1).setCell ⟨b, 2, none⟩ y2).setCell ⟨b, 3, none⟩ y3) b := by
  have hg := grown_set4 w b y0 y1 y2 y3
  have hs : Blk ((((w.setCell ⟨b, 0, none⟩ y0).setCell ⟨b, 1, none⟩ y1).setCell ⟨b, 2, none⟩ y2).setCell ⟨b, 3, none⟩ y3) b #[y0, y1, y2, y3] ty := by
    rcases h with h | h
    · exact Blk.store4 (show Blk w b #[z0, z1, z2, z3] ty from h) y0 y1 y2 y3
    · exact Blk.store4 (show Blk w b #[y0, y1, y2, y3] ty from h) y0 y1 y2 y3
  refine ⟨⟨⟨hg.os, hg.tape, hg.output, hg.size, fun k hk => hg.block k (by have := h.lt; omega) (by simp; omega)⟩, fun k hk => ?_⟩, hs⟩
  by_cases e : k = b
  · subst e
    rcases h with h | h
    · exact .inr ⟨h, hs⟩
    · exact .inl (Eq.trans hs h.symm)
  · exact .inl (hg.block k hk (by simpa using e))
theorem Bz.cells4 {w : World} {b : Nat} {z0 z1 z2 z3 y0 y1 y2 y3 : Value} {ty : TypeId} (h : Bz (.cells #[z0, z1, z2, z3] ty) (.cells #[y0, y1, y2, y3] ty) w b) :
    ∃ x0 x1 x2 x3, Blk w b #[x0, x1, x2, x3] ty ∧ w.cell? ⟨b, 0, none⟩ = some x0 ∧ w.cell? ⟨b, 1, none⟩ = some x1 ∧ w.cell? ⟨b, 2, none⟩ = some x2 ∧ w.cell? ⟨b, 3, none⟩ = some x3 := by
  rcases h with h | h
  · have hb : Blk w b #[z0, z1, z2, z3] ty := h
    exact ⟨z0, z1, z2, z3, hb, hb.cells4⟩
  · have hb : Blk w b #[y0, y1, y2, y3] ty := h
    exact ⟨y0, y1, y2, y3, hb, hb.cells4⟩
end Go.Proofs.YtnecafokkhhhhaaGreatDoor
namespace Go.Proofs.YtnecafokkhhhhaaGreatDoor
open Go Go.RowKit
theorem itm_sum (l : List UInt8) : itm unq l = if Lib.hasPrefix l [91, 58] = true then nmq l else spq unq l := rfl
theorem ofl_one (b : Nat) (hb : b < 256) : 0#256 ||| 1#256 <<< b = ofl [UInt8.ofNat b] := by
  have : (UInt8.ofNat b).toNat = b := by simp [Nat.mod_eq_of_lt hb]
  simp only [ofl, List.foldl_cons, List.foldl_nil, this]
theorem rhasp_at (s p : ByteArray) (i : Nat) (z : Int) (hz : z = i) (hi : i ≤ s.size) (hs : s.size ≤ 4294967000) (hp : p.size ≤ 100) (q : Bool) (hq : Lib.hasPrefix (rest s i) p.data.toList = q) (w : World) :
    Calls Tryz.prog 64 #[.string s, .int .i64 z, .string p] w fun e w' => e = .returned (.bool q) ∧ Ext w w' := by subst hz; exact rhasp_any s p i hi hs hp q hq w
/-- What 'item' answers. -/
def RiEnd (w w' : World) (r : Nat) (s : ByteArray) (i o : Nat) (e : Ending) : Sum Nat (BitVec 256 × Nat) → Prop
  | .inl d => ∃ (T : BitVec 256) (j : Nat), j ≤ s.size ∧ e = .returned (sv T) ∧ w.grownBy w' (some r) ∧ RR w' r s j o 3 ((i + d : Nat) : Int)
  | .inr (T, m) => e = .returned (sv T) ∧ w.grownBy w' (some r) ∧ RR w' r s (i + m) o 0 0
theorem RR.own {w : World} {r : Nat} {s : ByteArray} {i o : Nat} {c q : Int} (h : RR w r s i o c q) {b : Nat} (hb : b ≠ r) (y0 y1 y2 y3 : Value) : RR ((((w.setCell ⟨b, 0, none⟩ y0).setCell ⟨b, 1, none⟩ y1).setCell ⟨b, 2, none⟩ y2).setCell ⟨b, 3, none⟩ y3) r s i o c q :=
  ⟨h.blk.other4 hb y0 y1 y2 y3, h.sz⟩
set_option maxHeartbeats 4000000 in
set_option maxRecDepth 20000 in
theorem ritem_named (r : Nat) (s : ByteArray) (i o : Nat) (w : World) (h : RR w r s i o 0 0) (hi : i ≤ s.size) (hq : Lib.hasPrefix (rest s i) [91, 58] = true) (x : Sum Nat (BitVec 256 × Nat)) (hx : nmq (rest s i) = x) :
    Calls Tryz.prog 67 #[.pointer (some ⟨r, 0, none⟩)] w fun e w' => RiEnd w w' r s i o e x := by
  have hsz := h.sz
  have hrw := h.blk.lt
  have hl2 := pre_two_len hq
  have hrl := rest_len hi
  have HH := Lib.hid (h.ext (show Ext w (w.alloc (.cells zer 36)) from by go_grown))
  have HX := Lib.hid hx
  have HB := Lib.hid (Blk.new w zer 36)
  have HE := Lib.hid (show Ext w (w.alloc (.cells zer 36)) from by go_grown)
  have HQ := Lib.hid (fun w => rhasp_at s ⟨#[91, 58]⟩ i (i : Int) rfl hi hsz (by decide) true hq w)
  clear h hx hq
  go_enter Tryz.func67, Tryz.ntmps67
  go_wp2_with fail
  generalize w.alloc (.cells zer 36) = w1 at HH HB HE ⊢
  refine G.wp_region_stab (G := Ext) (fun _ => none) (by kernel_rfl) (by kernel_rfl) (fun _ _ h => by cases h) (fun hex => ?_)
  iterate 9
    (refine G.wpS_one (A := ?_) hex rfl rfl (by simp) ?_ ?_ ?_
     rotate_left 2
     · intro w' hC K hK
       have d0 := (HH.out.blk.ext hC.1).cell 0; have d1 := (HH.out.blk.ext hC.1).cell 1
       go_wp2_with (refine (HQ.out _).mono ?_; rintro e wq ⟨rfl, hEq⟩)
       refine hK _ ?_
       first | exact Below.refl _ _ | assumption | ((repeat' (first | (with_reducible exact Below.refl _ _) | (with_reducible assumption) | (with_reducible refine below_drewN ?_ _) | (with_reducible refine Below.alloc ?_ ?_ _) | (with_reducible refine Below.drew ?_) | (with_reducible refine Below.setCell ?_ ?_ _) | (with_reducible refine Below.trans ?_ (Below.mono (by with_reducible assumption) ?_)) | go_size)))
     rotate_left 1
     · rfl
     clear hex; intro hex)
  refine G.wpS_nil fun w2 hAll => ?_
  have hE := hAll.1
  have H2 := Lib.hid (HH.out.ext hE)
  have B2 := Lib.hid (HB.out.ext hE)
  have E2 := Lib.hid (bel_call HE.out hE)
  clear hE hex hAll HH HB HE HQ
  go_wp2_with fail
  go_loopw [3] (fun z wr => ∃ k : Nat, 1 ≤ k ∧ k ≤ 8 ∧ z = .int .i64 k ∧ Hid (∀ n, 1 ≤ n → n < k → Lib.hasPrefix (((rest s i).drop 2).drop n) [58, 93] = true → nmd (((rest s i).drop 2).take n) = none) ∧ Hid (Ext w wr) ∧ Hid (RR wr r s i o 0 0) ∧ Hid (Blk wr w.heap.size zer 36)) (fun z _ => 8 - (intOf z).toNat)
  case atStart => exact ⟨1, by omega, by omega, rfl, Lib.hid (fun n h1 h2 => by omega), E2, H2, B2⟩
  case round =>
    clear E2 H2 B2
    obtain ⟨k, hk1, hk8, rfl, hN, hEr, hR, hB⟩ := hrel
    by_cases hk : k < 8
    · have d1 : decide ((k : Int) < 8) = true := by simp; omega
      by_cases hle : i + 2 + k ≤ s.size
      · have d2 : decide ((i : Int) + 2 + (k : Int) ≤ (s.size : Int)) = true := by simp; omega
        have hdd : rest s (i + 2 + k) = ((rest s i).drop 2).drop k := by rw [rest_drop, rest_drop]
        cases hq : Lib.hasPrefix (rest s (i + 2 + k)) [58, 93] with
        | false =>
          have HQ := Lib.hid (fun w => rhasp_at s ⟨#[58, 93]⟩ (i + 2 + k) ((i : Int) + 2 + (k : Int)) (by omega) hle hsz (by decide) false hq w)
          have HN2 := Lib.hid (show ∀ n, 1 ≤ n → n < k + 1 → Lib.hasPrefix (((rest s i).drop 2).drop n) [58, 93] = true → nmd (((rest s i).drop 2).take n) = none from fun n h1 h2 h3 => by
            by_cases e : n = k
            · subst e; rw [← hdd, hq] at h3; cases h3
            · exact hN.out n h1 (by omega) h3)
          clear hq hdd hN
          go_wp2_with fail
          refine G.wp_region_stab (G := Ext) (fun _ => none) (by kernel_rfl) (by kernel_rfl) (fun _ _ h => by cases h) (fun hex => ?_)
          iterate 27
            (refine G.wpS_one (A := ?_) hex rfl rfl (by simp) ?_ ?_ ?_
             rotate_left 2
             · intro w' hC K hK
               have d0 := (hR.out.blk.ext hC.1).cell 0; have d1 := (hR.out.blk.ext hC.1).cell 1
               go_wp2_with (refine (HQ.out _).mono ?_; rintro e wq ⟨rfl, hEq⟩)
               refine hK _ ?_
               first | exact Below.refl _ _ | assumption | ((repeat' (first | (with_reducible exact Below.refl _ _) | (with_reducible assumption) | (with_reducible refine below_drewN ?_ _) | (with_reducible refine Below.alloc ?_ ?_ _) | (with_reducible refine Below.drew ?_) | (with_reducible refine Below.setCell ?_ ?_ _) | (with_reducible refine Below.trans ?_ (Below.mono (by with_reducible assumption) ?_)) | go_size)))
             rotate_left 1
             · rfl
             clear hex; intro hex)
          refine G.wpS_nil fun w3 hAll => ?_
          have hE := hAll.1
          have E3 := Lib.hid (bel_call hEr.out hAll.1)
          have R3 := Lib.hid (hR.out.ext hAll.1)
          have B3 := Lib.hid (hB.out.ext hAll.1)
          clear hE hEr hex hAll hR hB HQ
          go_wp2_with fail
          go_roundw
          case rel => first | exact ⟨k + 1, by omega, by omega, by go_num, HN2, E3, R3, B3⟩ | ((repeat apply Exists.intro); exact ⟨⟨k + 1, by omega, by omega, by go_num, HN2, E3, R3, B3⟩, rfl⟩)
          case measure => simp [intOf]; omega
        | true =>
          have HQ := Lib.hid (fun w => rhasp_at s ⟨#[58, 93]⟩ (i + 2 + k) ((i : Int) + 2 + (k : Int)) (by omega) hle hsz (by decide) true hq w)
          obtain ⟨u, hu⟩ : ∃ u, nmd (((rest s i).drop 2).take k) = u := ⟨_, rfl⟩
          have hnm := fun w => rnamed_any (s.extract (i + 2) (i + 2 + k)) w u (by rw [ext_list, rest_drop, hu])
          have hmiss : u = none → ∀ n, 1 ≤ n → n < k + 1 → Lib.hasPrefix (((rest s i).drop 2).drop n) [58, 93] = true → nmd (((rest s i).drop 2).take n) = none := fun hun n h1 h2 h3 => by
            by_cases e : n = k
            · subst e; rw [hu, hun]
            · exact hN.out n h1 (by omega) h3
          have hhit : ∀ S, u = some S → x = .inr (S, k + 4) := fun S hS => by
            rw [← HX.out]; exact nmq_hit _ k S (by rw [← hdd]; exact hq) (by rw [hu, hS])
          have HM := Lib.hid (And.intro hmiss hhit)
          obtain ⟨T, hT⟩ : ∃ T, u.getD 0#256 = T := ⟨_, rfl⟩
          obtain ⟨bb, hbb⟩ : ∃ bb, u.isSome = bb := ⟨_, rfl⟩
          rw [hT, hbb] at hnm
          have HNM := Lib.hid hnm
          have HT := Lib.hid (And.intro hT hbb)
          have hsl1 : (i : Int) + 2 ≤ (i : Int) + 2 + (k : Int) := by omega
          have hsl2 : (i : Int) + 2 + (k : Int) ≤ (s.size : Int) := by omega
          have hsl0 : (0 : Int) ≤ (i : Int) + 2 := by omega
          have hslt1 : ((i : Int) + 2).toNat = i + 2 := by omega
          have hslt2 : ((i : Int) + 2 + (k : Int)).toNat = i + 2 + k := by omega
          clear hq hdd hN hnm hmiss hhit hu hT hbb
          go_wp2_with fail
          refine G.wp_region_stab (G := Ext) (fun _ => none) (by kernel_rfl) (by kernel_rfl) (fun _ _ h => by cases h) (fun hex => ?_)
          iterate 27
            (refine G.wpS_one (A := ?_) hex rfl rfl (by simp) ?_ ?_ ?_
             rotate_left 2
             · intro w' hC K hK
               have d0 := (hR.out.blk.ext hC.1).cell 0; have d1 := (hR.out.blk.ext hC.1).cell 1
               go_wp2_with (refine (HQ.out _).mono ?_; rintro e wq ⟨rfl, hEq⟩)
               refine hK _ ?_
               first | exact Below.refl _ _ | assumption | ((repeat' (first | (with_reducible exact Below.refl _ _) | (with_reducible assumption) | (with_reducible refine below_drewN ?_ _) | (with_reducible refine Below.alloc ?_ ?_ _) | (with_reducible refine Below.drew ?_) | (with_reducible refine Below.setCell ?_ ?_ _) | (with_reducible refine Below.trans ?_ (Below.mono (by with_reducible assumption) ?_)) | go_size)))
             rotate_left 1
             · rfl
             clear hex; intro hex)
          refine G.wpS_nil fun w3 hAll => ?_
          have hE := hAll.1
          have E3 := Lib.hid (bel_call hEr.out hAll.1)
          have R3 := Lib.hid (hR.out.ext hAll.1)
          have B3 := Lib.hid (hB.out.ext hAll.1)
          clear hE hEr hex hAll hR hB HQ
          go_wp2_with fail
          refine H.wp_region_stab (G := Tn w3.heap.size (.cells zer 36) (.cells (svs T) 36)) (RsT1 21 22 4 w3.heap.size (.cells zer 36) (.cells (svs T) 36)) (by kernel_rfl) (by kernel_rfl) (RsT1_mono _ _ _ _ _ _) (fun hex => ?_)
          iterate 21
            (refine H.wpS_one (A := ?_) hex rfl rfl (by simp) ?_ ?_ ?_
             rotate_left 2
             · intro w' hC K hK
               have d0 := (R3.out.blk.ext hC.1.1).cell 0; have d1 := (R3.out.blk.ext hC.1.1).cell 1
               go_wp2_with (refine (HNM.out _).mono ?_; rintro e wq ⟨rfl, hEq⟩)
               refine hK _ ?_
               first | exact G.GOK.refl _ | exact Tn.of_ext (by assumption) hC.1.1.size | exact Tn2.of_ext (by assumption) hC.1.1.size | (refine Tn.of_ext ?_ hC.1.1.size; (repeat' (first | (with_reducible exact Below.refl _ _) | (with_reducible assumption) | (with_reducible refine below_drewN ?_ _) | (with_reducible refine Below.alloc ?_ ?_ _) | (with_reducible refine Below.drew ?_) | (with_reducible refine Below.setCell ?_ ?_ _) | (with_reducible refine Below.trans ?_ (Below.mono (by with_reducible assumption) ?_)) | go_size))) | (refine Tn2.of_ext ?_ hC.1.1.size; (repeat' (first | (with_reducible exact Below.refl _ _) | (with_reducible assumption) | (with_reducible refine below_drewN ?_ _) | (with_reducible refine Below.alloc ?_ ?_ _) | (with_reducible refine Below.drew ?_) | (with_reducible refine Below.setCell ?_ ?_ _) | (with_reducible refine Below.trans ?_ (Below.mono (by with_reducible assumption) ?_)) | go_size)))
             rotate_left 1
             · rfl
             clear hex; intro hex)
          refine H.wpS_rel none (RMade (w3.heap.size) (.cells zer 36) (.cells (svs T) 36)) rfl (fun _ h => by cases h) rfl (by simp) (by first | rfl | (simp [Region.wanted, yielded]; done)) ?_ ?_
          · intro w' hC K hK
            simp only [Act.put, List.setIfInBounds_toArray, List.set_cons_succ, List.set_cons_zero] at hK
            go_wp2_with fail
            refine hK _ _ ?_ ⟨_, rfl, hC.1.1.size, .inl (Blk.new _ _ _)⟩
            first | exact G.GOK.refl _ | exact Tn.of_ext (by assumption) hC.1.1.size | exact Tn2.of_ext (by assumption) hC.1.1.size | (refine Tn.of_ext ?_ hC.1.1.size; (repeat' (first | (with_reducible exact Below.refl _ _) | (with_reducible assumption) | (with_reducible refine below_drewN ?_ _) | (with_reducible refine Below.alloc ?_ ?_ _) | (with_reducible refine Below.drew ?_) | (with_reducible refine Below.setCell ?_ ?_ _) | (with_reducible refine Below.trans ?_ (Below.mono (by with_reducible assumption) ?_)) | go_size))) | (refine Tn2.of_ext ?_ hC.1.1.size; (repeat' (first | (with_reducible exact Below.refl _ _) | (with_reducible assumption) | (with_reducible refine below_drewN ?_ _) | (with_reducible refine Below.alloc ?_ ?_ _) | (with_reducible refine Below.drew ?_) | (with_reducible refine Below.setCell ?_ ?_ _) | (with_reducible refine Below.trans ?_ (Below.mono (by with_reducible assumption) ?_)) | go_size)))
          clear hex
          intro v w' hex hv
          obtain ⟨bq, rfl, hbq, hBz⟩ := hv
          clear hBz
          replace hex := Exists.intro w' hex
          simp only [Act.put, List.setIfInBounds_toArray, List.set_cons_succ, List.set_cons_zero]
          refine H.wpS_said (some (.tmp 4)) (RSet (w3.heap.size) (.cells (svs T) 36)) rfl (by intro y h; cases h; simp [Op.operands]) rfl (by first | rfl | (simp [Region.wanted, yielded]; done)) (fun _ _ _ _ h => h) ?_ ?_
          · intro w' hC K hK
            obtain ⟨b', e', hb', hBz⟩ := (hC.2 21 (by simp [Region.binds])).1 rfl
            cases e'
            obtain ⟨x0, x1, x2, x3, hbk, z0, z1, z2, z3⟩ := hBz.cells4
            have f0 := hbk.free 0
            have f1 := hbk.free 1
            have f2 := hbk.free 2
            have f3 := hbk.free 3
            have hlt := hbk.lt
            have HST := Lib.hid (And.intro hb' hBz)
            clear hbk hBz
            go_wp2_with fail
            exact hK _ (Tn.store4 HST.out.1 HST.out.2).1 ⟨bq, rfl, HST.out.1, (Tn.store4 HST.out.1 HST.out.2).2⟩
          clear hex
          intro hex
          refine H.wpS_one (A := ?_) hex rfl rfl (by simp) ?_ ?_ ?_
          rotate_left 2
          · intro w' hC K hK
            go_wp2_with (fail)
            refine hK _ ?_
            first | exact G.GOK.refl _ | exact Tn.of_ext (by assumption) hC.1.1.size | exact Tn2.of_ext (by assumption) hC.1.1.size | (refine Tn.of_ext ?_ hC.1.1.size; (repeat' (first | (with_reducible exact Below.refl _ _) | (with_reducible assumption) | (with_reducible refine below_drewN ?_ _) | (with_reducible refine Below.alloc ?_ ?_ _) | (with_reducible refine Below.drew ?_) | (with_reducible refine Below.setCell ?_ ?_ _) | (with_reducible refine Below.trans ?_ (Below.mono (by with_reducible assumption) ?_)) | go_size))) | (refine Tn2.of_ext ?_ hC.1.1.size; (repeat' (first | (with_reducible exact Below.refl _ _) | (with_reducible assumption) | (with_reducible refine below_drewN ?_ _) | (with_reducible refine Below.alloc ?_ ?_ _) | (with_reducible refine Below.drew ?_) | (with_reducible refine Below.setCell ?_ ?_ _) | (with_reducible refine Below.trans ?_ (Below.mono (by with_reducible assumption) ?_)) | go_size)))
          rotate_left 1
          · rfl
          clear hex; intro hex
          refine H.wpS_nil fun w4 hAll => ?_
          obtain ⟨bq', eq', _, hBt⟩ := (hAll.2 22).1 rfl
          cases eq'
          have R4 := Lib.hid (R3.out.ext hAll.1.1)
          have E4 := Lib.hid (bel_call E3.out hAll.1.1)
          have B4 := Lib.hid (B3.out.ext hAll.1.1)
          have BQ := Lib.hid (show Blk w4 bq (svs T) 36 from hBt)
          have hbw : w.heap.size < w3.heap.size := B3.out.lt
          clear hAll hBt hex HNM E3 B3 hsl1 hsl2 hsl0 hslt1 hslt2 d2
          cases bb with
          | false =>
            have hun : u = none := by cases u with
              | none => rfl
              | some S => have := HT.out.2; cases this
            have HN2 := Lib.hid (HM.out.1 hun)
            clear R3 HM HT hun
            go_wp2_with fail
            go_roundw
            case rel => first | exact ⟨k + 1, by omega, by omega, by go_num, HN2, E4, R4, B4⟩ | ((repeat apply Exists.intro); exact ⟨⟨k + 1, by omega, by omega, by go_num, HN2, E4, R4, B4⟩, rfl⟩)
            case measure => simp [intOf]; omega
          | true =>
            have hxx : x = .inr (T, k + 4) := by
              cases u with
              | none => have := HT.out.2; cases this
              | some S =>
                have h1 := HT.out.1
                have h2 : S = T := h1
                rw [← h2]; exact HM.out.2 S rfl
            have HXX := Lib.hid hxx
            have k1 := R4.out.blk.cell 1
            have f1 := R4.out.blk.free 1
            have hltr := R4.out.blk.lt
            have R5 := Lib.hid (R4.out.at (i + (k + 4)) ((i : Int) + (k : Int) + 4) (by omega))
            have B5 := Lib.hid (B4.out.set_other (a := ⟨r, 1, none⟩) (by simp; omega) (.int .i64 ((i : Int) + (k : Int) + 4)))
            have BQ5 := Lib.hid (BQ.out.set_other (a := ⟨r, 1, none⟩) (by simp; omega) (.int .i64 ((i : Int) + (k : Int) + 4)))
            have G5 := Lib.hid (grown_trans (grown_of_ext (row := some r) E4.out) (grown_set w4 r 1 (.int .i64 ((i : Int) + (k : Int) + 4))))
            clear R3 HM HT hxx E4 BQ
            obtain ⟨q0, q1, q2, q3⟩ := BQ5.out.cells4
            have kb := B5.out
            obtain ⟨z0, z1, z2, z3⟩ := kb.cells4
            have f0 := kb.free 0
            have f1 := kb.free 1
            have f2 := kb.free 2
            have f3 := kb.free 3
            have hltb := kb.lt
            obtain ⟨y0, y1, y2, y3⟩ := (kb.store4 (.int .u64 (wd (T) 0)) (.int .u64 (wd (T) 1)) (.int .u64 (wd (T) 2)) (.int .u64 (wd (T) 3))).cells4
            clear kb
            go_wp2_with fail
            refine bodyPost_ret (v := sv (T)) ?_ rfl ?_
            · simp [results, Tryz.results67, go_sem, y0, y1, y2, y3]
            · rw [HXX.out]
              exact ⟨rfl, grown_store (grown_store (grown_store (grown_store G5.out _ _ _ (Nat.le_refl _)) _ _ _ (Nat.le_refl _)) _ _ _ (Nat.le_refl _)) _ _ _ (Nat.le_refl _), R5.out.own (by omega) _ _ _ _⟩
      · have d2 : decide ((i : Int) + 2 + (k : Int) ≤ (s.size : Int)) = false := by simp; omega
        have HN2 := Lib.hid (show ∀ n, 1 ≤ n → n < k + 1 → Lib.hasPrefix (((rest s i).drop 2).drop n) [58, 93] = true → nmd (((rest s i).drop 2).take n) = none from fun n h1 h2 h3 => by
          by_cases e : n = k
          · subst e
            have := pre_two_len h3
            rw [List.length_drop, List.length_drop] at this
            omega
          · exact hN.out n h1 (by omega) h3)
        clear hN
        go_wp2_with fail
        refine G.wp_region_stab (G := Ext) (fun _ => none) (by kernel_rfl) (by kernel_rfl) (fun _ _ h => by cases h) (fun hex => ?_)
        iterate 27
          (refine G.wpS_one (A := ?_) hex rfl rfl (by simp) ?_ ?_ ?_
           rotate_left 2
           · intro w' hC K hK
             have d0 := (hR.out.blk.ext hC.1).cell 0; have d1 := (hR.out.blk.ext hC.1).cell 1
             go_wp2_with (fail)
             refine hK _ ?_
             first | exact Below.refl _ _ | assumption | ((repeat' (first | (with_reducible exact Below.refl _ _) | (with_reducible assumption) | (with_reducible refine below_drewN ?_ _) | (with_reducible refine Below.alloc ?_ ?_ _) | (with_reducible refine Below.drew ?_) | (with_reducible refine Below.setCell ?_ ?_ _) | (with_reducible refine Below.trans ?_ (Below.mono (by with_reducible assumption) ?_)) | go_size)))
           rotate_left 1
           · rfl
           clear hex; intro hex)
        refine G.wpS_nil fun w3 hAll => ?_
        have hE := hAll.1
        have E3 := Lib.hid (bel_call hEr.out hAll.1)
        have R3 := Lib.hid (hR.out.ext hAll.1)
        have B3 := Lib.hid (hB.out.ext hAll.1)
        clear hE hEr hex hAll hR hB
        go_wp2_with fail
        go_roundw
        case rel => first | exact ⟨k + 1, by omega, by omega, by go_num, HN2, E3, R3, B3⟩ | ((repeat apply Exists.intro); exact ⟨⟨k + 1, by omega, by omega, by go_num, HN2, E3, R3, B3⟩, rfl⟩)
        case measure => simp [intOf]; omega
    · obtain rfl : k = 8 := by omega
      have hxx : x = .inl 0 := by rw [← HX.out]; exact nmq_miss _ (fun n h1 h2 h3 => hN.out n h1 h2 h3)
      have HXX := Lib.hid hxx
      have k1 := hR.out.blk.cell 1
      have GE := Lib.hid (grown_of_ext (row := some r) hEr.out)
      clear hxx hN hEr
      go_wp2_with fail
      refine (rrefuse_any r s _ o 3 (i : Int) _ hR.out).mono ?_
      rintro e w9 ⟨rfl, hG9, hR9⟩
      have HG9 := Lib.hid (grown_trans GE.out hG9)
      have HR9 := Lib.hid hR9
      have HB9 := Lib.hid (hB.out.grown hG9 (by simp; omega))
      clear hG9 hR9 k1
      have kb := HB9.out
      obtain ⟨z0, z1, z2, z3⟩ := kb.cells4
      have f0 := kb.free 0
      have f1 := kb.free 1
      have f2 := kb.free 2
      have f3 := kb.free 3
      have hltb := kb.lt
      obtain ⟨y0, y1, y2, y3⟩ := (kb.store4 (.int .u64 (0)) (.int .u64 (0)) (.int .u64 (0)) (.int .u64 (0))).cells4
      clear kb
      go_wp2_with fail
      refine bodyPost_ret (v := sv0) ?_ rfl ?_
      · simp [results, Tryz.results67, go_sem, y0, y1, y2, y3]
      · rw [HXX.out]
        refine ⟨0#256, i, hi, by rw [sv_zero], grown_store (grown_store (grown_store (grown_store HG9.out _ _ _ (Nat.le_refl _)) _ _ _ (Nat.le_refl _)) _ _ _ (Nat.le_refl _)) _ _ _ (Nat.le_refl _), HR9.out.own (by omega) _ _ _ _⟩
end Go.Proofs.YtnecafokkhhhhaaGreatDoor
namespace Go.Proofs.YtnecafokkhhhhaaGreatDoor
open Go Go.RowKit
set_option maxHeartbeats 4000000 in
set_option maxRecDepth 20000 in
theorem ritem_span (r : Nat) (s : ByteArray) (i o : Nat) (w : World) (h : RR w r s i o 0 0) (hi : i ≤ s.size) (hq : Lib.hasPrefix (rest s i) [91, 58] = false) (x : Sum Nat (BitVec 256 × Nat)) (hx : spq unq (rest s i) = x) :
    Calls Tryz.prog 67 #[.pointer (some ⟨r, 0, none⟩)] w fun e w' => RiEnd w w' r s i o e x := by
  have hsz := h.sz
  have hrw := h.blk.lt
  have hrl := rest_len hi
  have HH := Lib.hid (h.ext (show Ext w (w.alloc (.cells zer 36)) from by go_grown))
  have HB := Lib.hid (Blk.new w zer 36)
  have HE := Lib.hid (show Ext w (w.alloc (.cells zer 36)) from by go_grown)
  have HQ := Lib.hid (fun w => rhasp_at s ⟨#[91, 58]⟩ i (i : Int) rfl hi hsz (by decide) false hq w)
  obtain ⟨x1, hx1⟩ : ∃ x1, chr unq marks.data.toList (rest s i) = x1 := ⟨_, rfl⟩
  have HCH := Lib.hid (fun w h => rchar_any r s i o w h hi x1 hx1)
  unfold spq at hx
  rw [hx1] at hx
  have hbd : ∀ b n, x1 = some (b, n) → b < 256 ∧ 0 < n ∧ i + n ≤ s.size := fun b n e => by
    rw [e] at hx1
    have := chr_lt unq_len unq_byte hx1
    omega
  have HX := Lib.hid hx
  clear h hx hq hx1
  go_enter Tryz.func67, Tryz.ntmps67
  go_wp2_with fail
  generalize w.alloc (.cells zer 36) = w1 at HH HB HE ⊢
  refine G.wp_region_stab (G := Ext) (fun _ => none) (by kernel_rfl) (by kernel_rfl) (fun _ _ h => by cases h) (fun hex => ?_)
  iterate 9
    (refine G.wpS_one (A := ?_) hex rfl rfl (by simp) ?_ ?_ ?_
     rotate_left 2
     · intro w' hC K hK
       have d0 := (HH.out.blk.ext hC.1).cell 0; have d1 := (HH.out.blk.ext hC.1).cell 1
       go_wp2_with (refine (HQ.out _).mono ?_; rintro e wq ⟨rfl, hEq⟩)
       refine hK _ ?_
       first | exact Below.refl _ _ | assumption | ((repeat' (first | (with_reducible exact Below.refl _ _) | (with_reducible assumption) | (with_reducible refine below_drewN ?_ _) | (with_reducible refine Below.alloc ?_ ?_ _) | (with_reducible refine Below.drew ?_) | (with_reducible refine Below.setCell ?_ ?_ _) | (with_reducible refine Below.trans ?_ (Below.mono (by with_reducible assumption) ?_)) | go_size)))
     rotate_left 1
     · rfl
     clear hex; intro hex)
  refine G.wpS_nil fun w2 hAll => ?_
  have hE := hAll.1
  have H2 := Lib.hid (HH.out.ext hE)
  have B2 := Lib.hid (HB.out.ext hE)
  have E2 := Lib.hid (grown_of_ext (row := some r) (bel_call HE.out hE))
  clear hE hex hAll HH HB HE HQ
  go_wp2_with fail
  refine (HCH.out _ H2.out).mono ?_
  rintro e w3 hce
  cases x1 with
  | none =>
    obtain ⟨b, hb, rfl, hG3, hR3⟩ := hce
    have HXX := Lib.hid (show Sum.inl 0 = x from HX.out)
    have G3 := Lib.hid (grown_trans E2.out hG3)
    have R3 := Lib.hid hR3
    have B3 := Lib.hid (B2.out.grown hG3 (by simp; omega))
    clear hG3 hR3 E2 H2 B2 hbd HX HCH
    have hok := rok_any r s i o 3 (i : Int) w3 R3.out false (by decide)
    go_wp2_with fail
    refine hok.mono ?_
    rintro e w4 ⟨rfl, hE4⟩
    have G4 := Lib.hid (grown_ext G3.out hE4)
    have R4 := Lib.hid (R3.out.ext hE4)
    have B4 := Lib.hid (B3.out.ext hE4)
    clear hE4 hok G3 R3 B3
    have kb := B4.out
    obtain ⟨z0, z1, z2, z3⟩ := kb.cells4
    have f0 := kb.free 0
    have f1 := kb.free 1
    have f2 := kb.free 2
    have f3 := kb.free 3
    have hltb := kb.lt
    obtain ⟨y0, y1, y2, y3⟩ := (kb.store4 (.int .u64 (0)) (.int .u64 (0)) (.int .u64 (0)) (.int .u64 (0))).cells4
    clear kb
    go_wp2_with fail
    refine bodyPost_ret (v := sv0) ?_ rfl ?_
    · simp [results, Tryz.results67, go_sem, y0, y1, y2, y3]
    · rw [← HXX.out]
      exact ⟨0#256, i, hi, by rw [sv_zero], grown_store (grown_store (grown_store (grown_store G4.out _ _ _ (Nat.le_refl _)) _ _ _ (Nat.le_refl _)) _ _ _ (Nat.le_refl _)) _ _ _ (Nat.le_refl _), R4.out.own (by omega) _ _ _ _⟩
  | some bn =>
    obtain ⟨b, n⟩ := bn
    obtain ⟨rfl, hG3, hR3⟩ := hce
    obtain ⟨hb, hn0, hin⟩ := hbd b n rfl
    obtain ⟨j, hj⟩ : ∃ j, i + n = j := ⟨_, rfl⟩
    have hx2 := HX.out
    have hdn : (rest s i).drop n = rest s j := by rw [← hj]; exact (rest_drop s i n).symm
    have hdn1 : (rest s i).drop (n + 1) = rest s (j + 1) := by rw [← rest_drop, ← hj, Nat.add_assoc]
    dsimp only at hx2
    rw [hdn, hdn1] at hx2
    rw [hj] at hin hR3
    have G3 := Lib.hid (grown_trans E2.out hG3)
    have R3 := Lib.hid hR3
    have B3 := Lib.hid (B2.out.grown hG3 (by simp; omega))
    have HJ := Lib.hid hj
    clear hG3 hR3 E2 H2 B2 hbd HX HCH hdn hdn1 hj
    have hok := rok_any r s j o 0 0 w3 R3.out true (by decide)
    go_wp2_with fail
    refine hok.mono ?_
    rintro e w4 ⟨rfl, hE4⟩
    have G4 := Lib.hid (grown_ext G3.out hE4)
    have R4 := Lib.hid (R3.out.ext hE4)
    have B4 := Lib.hid (B3.out.ext hE4)
    clear hE4 hok G3 R3 B3
    cases hp1 : Lib.hasPrefix (rest s j) [45] with
    | false =>
      rw [hp1, if_pos (.inr rfl)] at hx2
      have HX := Lib.hid hx2
      have HQ := Lib.hid (fun w => rhasp_at s ⟨#[45]⟩ j (j : Int) rfl hin hsz (by decide) false hp1 w)
      clear hx2 hp1
      go_wp2_with fail
      refine G.wp_region_stab (G := Ext) (fun _ => none) (by kernel_rfl) (by kernel_rfl) (fun _ _ h => by cases h) (fun hex => ?_)
      iterate 21
        (refine G.wpS_one (A := ?_) hex rfl rfl (by simp) ?_ ?_ ?_
         rotate_left 2
         · intro w' hC K hK
           have d0 := (R4.out.blk.ext hC.1).cell 0; have d1 := (R4.out.blk.ext hC.1).cell 1
           go_wp2_with (refine (HQ.out _).mono ?_; rintro e wq ⟨rfl, hEq⟩)
           refine hK _ ?_
           first | exact Below.refl _ _ | assumption | ((repeat' (first | (with_reducible exact Below.refl _ _) | (with_reducible assumption) | (with_reducible refine below_drewN ?_ _) | (with_reducible refine Below.alloc ?_ ?_ _) | (with_reducible refine Below.drew ?_) | (with_reducible refine Below.setCell ?_ ?_ _) | (with_reducible refine Below.trans ?_ (Below.mono (by with_reducible assumption) ?_)) | go_size)))
         rotate_left 1
         · rfl
         clear hex; intro hex)
      refine G.wpS_nil fun w5 hAll => ?_
      have hE := hAll.1
      have R5 := Lib.hid (R4.out.ext hE)
      have B5 := Lib.hid (B4.out.ext hE)
      have G5 := Lib.hid (grown_ext G4.out hE)
      clear hE hex hAll R4 B4 G4 HQ
      obtain ⟨T, hT⟩ : ∃ T, ofl [UInt8.ofNat b] = T := ⟨_, rfl⟩
      rw [hT] at HX
      have HW := Lib.hid (fun w => rwith_eq 0#256 b T w hb (by rw [← hT]; exact ofl_one b hb))
      rw [sv_zero] at HW
      clear hT
      go_wp2_with fail
      refine (HW.out _).mono ?_
      rintro e w6 ⟨rfl, hE6⟩
      have G6 := Lib.hid (grown_ext G5.out hE6)
      have R6 := Lib.hid (R5.out.ext hE6)
      have B6 := Lib.hid (B5.out.ext hE6)
      clear hE6 G5 R5 B5
      have kb := B6.out
      obtain ⟨z0, z1, z2, z3⟩ := kb.cells4
      have f0 := kb.free 0
      have f1 := kb.free 1
      have f2 := kb.free 2
      have f3 := kb.free 3
      have hltb := kb.lt
      obtain ⟨y0, y1, y2, y3⟩ := (kb.store4 (.int .u64 (wd (T) 0)) (.int .u64 (wd (T) 1)) (.int .u64 (wd (T) 2)) (.int .u64 (wd (T) 3))).cells4
      clear kb
      go_wp2_with fail
      refine bodyPost_ret (v := sv (T)) ?_ rfl ?_
      · simp [results, Tryz.results67, go_sem, y0, y1, y2, y3]
      · rw [← HX.out]
        exact ⟨rfl, grown_store (grown_store (grown_store (grown_store G6.out _ _ _ (Nat.le_refl _)) _ _ _ (Nat.le_refl _)) _ _ _ (Nat.le_refl _)) _ _ _ (Nat.le_refl _), by rw [HJ.out]; exact R6.out.own (b := w.heap.size) (by omega) _ _ _ _⟩
    | true =>
      cases hp2 : Lib.hasPrefix (rest s j) [45, 45] with
      | true =>
        rw [hp2, if_pos (.inl rfl)] at hx2
        have HX := Lib.hid hx2
        have HQ := Lib.hid (fun w => rhasp_at s ⟨#[45]⟩ j (j : Int) rfl hin hsz (by decide) true hp1 w)
        have HQ2 := Lib.hid (fun w => rhasp_at s ⟨#[45, 45]⟩ j (j : Int) rfl hin hsz (by decide) true hp2 w)
        clear hx2 hp1 hp2
        go_wp2_with fail
        refine G.wp_region_stab (G := Ext) (fun _ => none) (by kernel_rfl) (by kernel_rfl) (fun _ _ h => by cases h) (fun hex => ?_)
        iterate 21
          (refine G.wpS_one (A := ?_) hex rfl rfl (by simp) ?_ ?_ ?_
           rotate_left 2
           · intro w' hC K hK
             have d0 := (R4.out.blk.ext hC.1).cell 0; have d1 := (R4.out.blk.ext hC.1).cell 1
             go_wp2_with (((first | with_reducible refine (HQ.out _).mono ?_ | with_reducible refine (HQ2.out _).mono ?_); rintro e wq ⟨rfl, hEq⟩))
             refine hK _ ?_
             first | exact Below.refl _ _ | assumption | ((repeat' (first | (with_reducible exact Below.refl _ _) | (with_reducible assumption) | (with_reducible refine below_drewN ?_ _) | (with_reducible refine Below.alloc ?_ ?_ _) | (with_reducible refine Below.drew ?_) | (with_reducible refine Below.setCell ?_ ?_ _) | (with_reducible refine Below.trans ?_ (Below.mono (by with_reducible assumption) ?_)) | go_size)))
           rotate_left 1
           · rfl
           clear hex; intro hex)
        refine G.wpS_nil fun w5 hAll => ?_
        have hE := hAll.1
        have R5 := Lib.hid (R4.out.ext hE)
        have B5 := Lib.hid (B4.out.ext hE)
        have G5 := Lib.hid (grown_ext G4.out hE)
        clear hE hex hAll R4 B4 G4 HQ HQ2
        obtain ⟨T, hT⟩ : ∃ T, ofl [UInt8.ofNat b] = T := ⟨_, rfl⟩
        rw [hT] at HX
        have HW := Lib.hid (fun w => rwith_eq 0#256 b T w hb (by rw [← hT]; exact ofl_one b hb))
        rw [sv_zero] at HW
        clear hT
        go_wp2_with fail
        refine (HW.out _).mono ?_
        rintro e w6 ⟨rfl, hE6⟩
        have G6 := Lib.hid (grown_ext G5.out hE6)
        have R6 := Lib.hid (R5.out.ext hE6)
        have B6 := Lib.hid (B5.out.ext hE6)
        clear hE6 G5 R5 B5
        have kb := B6.out
        obtain ⟨z0, z1, z2, z3⟩ := kb.cells4
        have f0 := kb.free 0
        have f1 := kb.free 1
        have f2 := kb.free 2
        have f3 := kb.free 3
        have hltb := kb.lt
        obtain ⟨y0, y1, y2, y3⟩ := (kb.store4 (.int .u64 (wd (T) 0)) (.int .u64 (wd (T) 1)) (.int .u64 (wd (T) 2)) (.int .u64 (wd (T) 3))).cells4
        clear kb
        go_wp2_with fail
        refine bodyPost_ret (v := sv (T)) ?_ rfl ?_
        · simp [results, Tryz.results67, go_sem, y0, y1, y2, y3]
        · rw [← HX.out]
          exact ⟨rfl, grown_store (grown_store (grown_store (grown_store G6.out _ _ _ (Nat.le_refl _)) _ _ _ (Nat.le_refl _)) _ _ _ (Nat.le_refl _)) _ _ _ (Nat.le_refl _), by rw [HJ.out]; exact R6.out.own (b := w.heap.size) (by omega) _ _ _ _⟩
      | false =>
        rw [hp1, hp2, if_neg (by simp)] at hx2
        have hle1 : j + 1 ≤ s.size := by
          have h1 := pre_len hp1
          have h2 := rest_len hin
          omega
        obtain ⟨j1, hj1⟩ : ∃ j1, j + 1 = j1 := ⟨_, rfl⟩
        rw [hj1] at hle1 hx2
        have HJ1 := Lib.hid hj1
        obtain ⟨x2, hx22⟩ : ∃ x2, chr unq marks.data.toList (rest s j1) = x2 := ⟨_, rfl⟩
        have HCH := Lib.hid (fun w h => rchar_any r s j1 o w h hle1 x2 hx22)
        rw [hx22] at hx2
        have hrl2 := rest_len hle1
        have hbd : ∀ c k, x2 = some (c, k) → c < 256 ∧ 0 < k ∧ j1 + k ≤ s.size := fun c k e => by
          rw [e] at hx22
          have := chr_lt unq_len unq_byte hx22
          omega
        have HBD := Lib.hid hbd
        have HX := Lib.hid hx2
        have HQ := Lib.hid (fun w => rhasp_at s ⟨#[45]⟩ j (j : Int) rfl hin hsz (by decide) true hp1 w)
        have HQ2 := Lib.hid (fun w => rhasp_at s ⟨#[45, 45]⟩ j (j : Int) rfl hin hsz (by decide) false hp2 w)
        have hjz : (j : Int) + 1 = j1 := by omega
        have HJZ := Lib.hid hjz
        clear hx2 hp1 hp2 hx22 hbd hj1 hjz
        go_wp2_with fail
        refine G.wp_region_stab (G := Ext) (fun _ => none) (by kernel_rfl) (by kernel_rfl) (fun _ _ h => by cases h) (fun hex => ?_)
        iterate 21
          (refine G.wpS_one (A := ?_) hex rfl rfl (by simp) ?_ ?_ ?_
           rotate_left 2
           · intro w' hC K hK
             have d0 := (R4.out.blk.ext hC.1).cell 0; have d1 := (R4.out.blk.ext hC.1).cell 1
             go_wp2_with (((first | with_reducible refine (HQ.out _).mono ?_ | with_reducible refine (HQ2.out _).mono ?_); rintro e wq ⟨rfl, hEq⟩))
             refine hK _ ?_
             first | exact Below.refl _ _ | assumption | ((repeat' (first | (with_reducible exact Below.refl _ _) | (with_reducible assumption) | (with_reducible refine below_drewN ?_ _) | (with_reducible refine Below.alloc ?_ ?_ _) | (with_reducible refine Below.drew ?_) | (with_reducible refine Below.setCell ?_ ?_ _) | (with_reducible refine Below.trans ?_ (Below.mono (by with_reducible assumption) ?_)) | go_size)))
           rotate_left 1
           · rfl
           clear hex; intro hex)
        refine G.wpS_nil fun w5 hAll => ?_
        have hE := hAll.1
        have h5 := R4.out.ext hE
        have k1 := h5.blk.cell 1
        have f1 := h5.blk.free 1
        have hltr := h5.blk.lt
        have R5 := Lib.hid (h5.at j1 ((j : Int) + 1) HJZ.out)
        have B5 := Lib.hid ((B4.out.ext hE).set_other (a := ⟨r, 1, none⟩) (by simp; omega) (.int .i64 ((j : Int) + 1)))
        have G5 := Lib.hid (grown_trans (grown_ext G4.out hE) (grown_set w5 r 1 (.int .i64 ((j : Int) + 1))))
        clear hE hex hAll R4 B4 G4 HQ HQ2 h5
        go_wp2_with fail
        clear k1 f1 hltr
        generalize w5.setCell ⟨r, 1, none⟩ (.int .i64 ((j : Int) + 1)) = w6 at R5 B5 G5 ⊢
        have k1 := R5.out.blk.cell 1
        go_wp2_with fail
        refine (HCH.out _ R5.out).mono ?_
        rintro e w7 hce
        clear k1
        cases x2 with
        | none =>
          obtain ⟨c, hc, rfl, hG7, hR7⟩ := hce
          have HXX := Lib.hid (show Sum.inl (n + 1) = x from HX.out)
          have G7 := Lib.hid (grown_trans G5.out hG7)
          have R7 := Lib.hid hR7
          have B7 := Lib.hid (B5.out.grown hG7 (by simp; omega))
          clear hG7 hR7 G5 R5 B5 HBD HX HCH
          have hok := rok_any r s j1 o 3 (j1 : Int) w7 R7.out false (by decide)
          obtain ⟨T, hT⟩ : ∃ T, rng (b : Int) (c : Int) = T := ⟨_, rfl⟩
          have HRG := Lib.hid (fun w => rrange_eq b c T w (by omega) (by omega) hT)
          clear hT
          go_wp2_with fail
          refine hok.mono ?_
          rintro e w8 ⟨rfl, hE8⟩
          have G8 := Lib.hid (grown_ext G7.out hE8)
          have R8 := Lib.hid (R7.out.ext hE8)
          have B8 := Lib.hid (B7.out.ext hE8)
          clear hE8 hok G7 R7 B7
          go_wp2_with fail
          refine (HRG.out _).mono ?_
          rintro e wz ⟨rfl, hEz⟩
          have GZ := Lib.hid (grown_ext G8.out hEz)
          have RZ := Lib.hid (R8.out.ext hEz)
          have BZ := Lib.hid (B8.out.ext hEz)
          clear hEz G8 R8 B8
          have kb := BZ.out
          obtain ⟨z0, z1, z2, z3⟩ := kb.cells4
          have f0 := kb.free 0
          have f1 := kb.free 1
          have f2 := kb.free 2
          have f3 := kb.free 3
          have hltb := kb.lt
          obtain ⟨y0, y1, y2, y3⟩ := (kb.store4 (.int .u64 (wd (T) 0)) (.int .u64 (wd (T) 1)) (.int .u64 (wd (T) 2)) (.int .u64 (wd (T) 3))).cells4
          clear kb
          go_wp2_with fail
          refine bodyPost_ret (v := sv (T)) ?_ rfl ?_
          · simp [results, Tryz.results67, go_sem, y0, y1, y2, y3]
          · rw [← HXX.out]
            exact ⟨T, j1, hle1, rfl, grown_store (grown_store (grown_store (grown_store GZ.out _ _ _ (Nat.le_refl _)) _ _ _ (Nat.le_refl _)) _ _ _ (Nat.le_refl _)) _ _ _ (Nat.le_refl _), by rw [show i + (n + 1) = j1 by have := HJ.out; have := HJ1.out; omega]; exact RZ.out.own (by omega) _ _ _ _⟩
        | some ck =>
          obtain ⟨c, k⟩ := ck
          obtain ⟨rfl, hG7, hR7⟩ := hce
          obtain ⟨hc, hk0, hck⟩ := HBD.out c k rfl
          have G7 := Lib.hid (grown_trans G5.out hG7)
          have R7 := Lib.hid hR7
          have B7 := Lib.hid (B5.out.grown hG7 (by simp; omega))
          have hok := rok_any r s (j1 + k) o 0 0 w7 hR7 true (by decide)
          obtain ⟨T, hT⟩ : ∃ T, rng (b : Int) (c : Int) = T := ⟨_, rfl⟩
          have HRG := Lib.hid (fun w => rrange_eq b c T w (by omega) (by omega) hT)
          have hx3 := HX.out
          clear hG7 hR7 G5 R5 B5 HBD HX HCH
          simp only [hT] at hx3
          clear hT
          by_cases hcb : c < b
          · have d1 : decide ((c : Int) < (b : Int)) = true := by simp; omega
            have d1n : decide (c < b) = true := by simp; omega
            rw [if_pos hcb] at hx3
            have HXX := Lib.hid hx3
            clear hx3
            go_wp2_with fail
            refine hok.mono ?_
            rintro e w8 ⟨rfl, hE8⟩
            have G8 := Lib.hid (grown_ext G7.out hE8)
            have R8 := Lib.hid (R7.out.ext hE8)
            have B8 := Lib.hid (B7.out.ext hE8)
            clear hE8 hok G7 R7 B7
            go_wp2_with fail
            refine (rrefuse_any r s _ o 3 ((j : Int) + 1) _ R8.out).mono ?_
            rintro e w9 ⟨rfl, hG9, hR9⟩
            have G9 := Lib.hid (grown_trans G8.out hG9)
            have R9 := Lib.hid hR9
            have B9 := Lib.hid (B8.out.grown hG9 (by simp; omega))
            clear hG9 hR9 G8 R8 B8
            go_wp2_with fail
            refine (HRG.out _).mono ?_
            rintro e wz ⟨rfl, hEz⟩
            have GZ := Lib.hid (grown_ext G9.out hEz)
            have RZ := Lib.hid (R9.out.ext hEz)
            have BZ := Lib.hid (B9.out.ext hEz)
            clear hEz G9 R9 B9
            have kb := BZ.out
            obtain ⟨z0, z1, z2, z3⟩ := kb.cells4
            have f0 := kb.free 0
            have f1 := kb.free 1
            have f2 := kb.free 2
            have f3 := kb.free 3
            have hltb := kb.lt
            obtain ⟨y0, y1, y2, y3⟩ := (kb.store4 (.int .u64 (wd (T) 0)) (.int .u64 (wd (T) 1)) (.int .u64 (wd (T) 2)) (.int .u64 (wd (T) 3))).cells4
            clear kb
            go_wp2_with fail
            refine bodyPost_ret (v := sv (T)) ?_ rfl ?_
            · simp [results, Tryz.results67, go_sem, y0, y1, y2, y3]
            · rw [← HXX.out]
              exact ⟨T, j1 + k, hck, rfl, grown_store (grown_store (grown_store (grown_store GZ.out _ _ _ (Nat.le_refl _)) _ _ _ (Nat.le_refl _)) _ _ _ (Nat.le_refl _)) _ _ _ (Nat.le_refl _), by rw [show ((i + (n + 1) : Nat) : Int) = (j : Int) + 1 by have := HJ.out; omega]; exact RZ.out.own (by omega) _ _ _ _⟩
          · have d1 : decide ((c : Int) < (b : Int)) = false := by simp; omega
            have d1n : decide (c < b) = false := by simp; omega
            rw [if_neg hcb] at hx3
            have HXX := Lib.hid hx3
            clear hx3
            go_wp2_with fail
            refine hok.mono ?_
            rintro e w8 ⟨rfl, hE8⟩
            have G8 := Lib.hid (grown_ext G7.out hE8)
            have R8 := Lib.hid (R7.out.ext hE8)
            have B8 := Lib.hid (B7.out.ext hE8)
            clear hE8 hok G7 R7 B7
            go_wp2_with fail
            refine (HRG.out _).mono ?_
            rintro e wz ⟨rfl, hEz⟩
            have GZ := Lib.hid (grown_ext G8.out hEz)
            have RZ := Lib.hid (R8.out.ext hEz)
            have BZ := Lib.hid (B8.out.ext hEz)
            clear hEz G8 R8 B8
            have kb := BZ.out
            obtain ⟨z0, z1, z2, z3⟩ := kb.cells4
            have f0 := kb.free 0
            have f1 := kb.free 1
            have f2 := kb.free 2
            have f3 := kb.free 3
            have hltb := kb.lt
            obtain ⟨y0, y1, y2, y3⟩ := (kb.store4 (.int .u64 (wd (T) 0)) (.int .u64 (wd (T) 1)) (.int .u64 (wd (T) 2)) (.int .u64 (wd (T) 3))).cells4
            clear kb
            go_wp2_with fail
            refine bodyPost_ret (v := sv (T)) ?_ rfl ?_
            · simp [results, Tryz.results67, go_sem, y0, y1, y2, y3]
            · rw [← HXX.out]
              refine ⟨rfl, grown_store (grown_store (grown_store (grown_store GZ.out _ _ _ (Nat.le_refl _)) _ _ _ (Nat.le_refl _)) _ _ _ (Nat.le_refl _)) _ _ _ (Nat.le_refl _), ?_⟩
              rw [show i + (n + 1 + k) = j1 + k by have := HJ.out; have := HJ1.out; omega]
              exact RZ.out.own (by omega) _ _ _ _
theorem ritem_any (r : Nat) (s : ByteArray) (i o : Nat) (w : World) (h : RR w r s i o 0 0) (hi : i ≤ s.size) (x : Sum Nat (BitVec 256 × Nat)) (hx : itm unq (rest s i) = x) :
    Calls Tryz.prog 67 #[.pointer (some ⟨r, 0, none⟩)] w fun e w' => RiEnd w w' r s i o e x := by
  rw [itm_sum] at hx
  cases hq : Lib.hasPrefix (rest s i) [91, 58] with
  | true => rw [if_pos hq] at hx; exact ritem_named r s i o w h hi hq x hx
  | false => rw [if_neg (by rw [hq]; simp)] at hx; exact ritem_span r s i o w h hi hq x hx
end Go.Proofs.YtnecafokkhhhhaaGreatDoor
namespace Go.Proofs.YtnecafokkhhhhaaGreatDoor
open Go Go.RowKit
/-- What 'class' answers. -/
def RkEnd (w w' : World) (r : Nat) (s : ByteArray) (o : Nat) (e : Ending) : Sum (Bool × Nat) (BitVec 256 × Nat) → Prop
  | .inl (b, q) => ∃ (T : BitVec 256) (j : Nat), j + o ≤ s.size + 41 ∧ e = .returned (sv T) ∧ w.grownBy w' (some r) ∧ RR w' r s j o (if b = true then 4 else 3) (q : Int)
  | .inr (T, m) => e = .returned (sv T) ∧ m ≤ s.size ∧ w.grownBy w' (some r) ∧ RR w' r s m o 0 0
def RkOk (g : Nat) : Prop := ∀ (r : Nat) (s : ByteArray) (i : Nat) (w : World) (o : Nat) (x : Sum (Bool × Nat) (BitVec 256 × Nat)), RR w r s i o 0 0 → i ≤ s.size → o ≤ 40 → (rest s i).length < g → cls unq g o (rest s i) i = x →
  Calls Tryz.prog 41 #[.pointer (some ⟨r, 0, none⟩)] w fun e w' => RkEnd w w' r s o e x
set_option maxHeartbeats 4000000 in
set_option maxRecDepth 20000 in
theorem rclass_no (r : Nat) (s : ByteArray) (i : Nat) (w : World) (o : Nat) (h : RR w r s i o 0 0) (hi : i ≤ s.size) (ho : o ≤ 40) (hq : Lib.hasPrefix (rest s i) [91] = false) :
    Calls Tryz.prog 41 #[.pointer (some ⟨r, 0, none⟩)] w fun e w' => RkEnd w w' r s o e (.inl (false, i)) := by
  have hsz := h.sz
  have hrw := h.blk.lt
  have hx0 : Ext w ((w.alloc (.cells zer 36)).alloc (.cells zer 36)) := by (repeat' (first | (with_reducible exact Below.refl _ _) | (with_reducible assumption) | (with_reducible refine below_drewN ?_ _) | (with_reducible refine Below.alloc ?_ ?_ _) | (with_reducible refine Below.drew ?_) | (with_reducible refine Below.setCell ?_ ?_ _) | (with_reducible refine Below.trans ?_ (Below.mono (by with_reducible assumption) ?_)) | go_size))
  have HH := Lib.hid (h.ext hx0)
  have HB := Lib.hid ((Blk.new w zer 36).alloc (.cells zer 36))
  have HS := Lib.hid (show Blk ((w.alloc (.cells zer 36)).alloc (.cells zer 36)) (w.heap.size + 1) (svs 0#256) 36 from by
    have := Blk.new (w.alloc (.cells zer 36)) zer 36
    simp only [World.size_alloc] at this
    rw [← zer_svs]; exact this)
  have HE := Lib.hid hx0
  have HQ := Lib.hid (fun w => rhasp_at s ⟨#[91]⟩ i (i : Int) rfl hi hsz (by decide) false hq w)
  have dsz : decide ((s.size : Int) < (i : Int)) = false := by simp; omega
  clear h hq hx0
  go_enter Tryz.func41, Tryz.ntmps41
  go_wp2_with fail
  generalize (w.alloc (.cells zer 36)).alloc (.cells zer 36) = w1 at HH HB HS HE ⊢
  refine G.wp_region_stab (G := Ext) (fun _ => none) (by kernel_rfl) (by kernel_rfl) (fun _ _ h => by cases h) (fun hex => ?_)
  iterate 10
    (refine G.wpS_one (A := ?_) hex rfl rfl (by simp) ?_ ?_ ?_
     rotate_left 2
     · intro w' hC K hK
       have d0 := (HH.out.blk.ext hC.1).cell 0; have d1 := (HH.out.blk.ext hC.1).cell 1
       go_wp2_with (refine (HQ.out _).mono ?_; rintro e wq ⟨rfl, hEq⟩)
       refine hK _ ?_
       first | exact Below.refl _ _ | assumption | ((repeat' (first | (with_reducible exact Below.refl _ _) | (with_reducible assumption) | (with_reducible refine below_drewN ?_ _) | (with_reducible refine Below.alloc ?_ ?_ _) | (with_reducible refine Below.drew ?_) | (with_reducible refine Below.setCell ?_ ?_ _) | (with_reducible refine Below.trans ?_ (Below.mono (by with_reducible assumption) ?_)) | go_size)))
     rotate_left 1
     · rfl
     clear hex; intro hex)
  refine G.wpS_nil fun w2 hAll => ?_
  have hE := hAll.1
  have H2 := Lib.hid (HH.out.ext hE)
  have B2 := Lib.hid (HB.out.ext hE)
  have S2 := Lib.hid (HS.out.ext hE)
  have E2 := Lib.hid (grown_of_ext (row := some r) (bel_call HE.out hE))
  have k0 := H2.out.blk.cell 0
  have k1 := H2.out.blk.cell 1
  clear hE hex hAll HH HB HE HQ HS
  go_wp2_with fail
  refine (rrefuse_any r s _ o 3 (i : Int) _ H2.out).mono ?_
  rintro e w9 ⟨rfl, hG9, hR9⟩
  have G9 := Lib.hid (grown_trans E2.out hG9)
  have R9 := Lib.hid hR9
  have B9 := Lib.hid (B2.out.grown hG9 (by simp; omega))
  have S9 := Lib.hid (S2.out.grown hG9 (by simp; omega))
  clear hG9 hR9 k0 k1 E2 H2 B2 S2
  obtain ⟨q0, q1, q2, q3⟩ := S9.out.cells4
  have kb := B9.out
  obtain ⟨z0, z1, z2, z3⟩ := kb.cells4
  have g0 := kb.free 0
  have g1 := kb.free 1
  have g2 := kb.free 2
  have g3 := kb.free 3
  have hltb := kb.lt
  obtain ⟨y0, y1, y2, y3⟩ := (kb.store4 (.int .u64 (wd 0#256 0)) (.int .u64 (wd 0#256 1)) (.int .u64 (wd 0#256 2)) (.int .u64 (wd 0#256 3))).cells4
  clear kb
  go_wp2_with fail
  refine bodyPost_ret (v := sv 0#256) ?_ rfl ?_
  · simp [results, Tryz.results41, go_sem, y0, y1, y2, y3]
  · exact ⟨0#256, i, by omega, rfl, grown_store (grown_store (grown_store (grown_store G9.out _ _ _ (Nat.le_refl _)) _ _ _ (Nat.le_refl _)) _ _ _ (Nat.le_refl _)) _ _ _ (Nat.le_refl _), R9.out.own (by omega) _ _ _ _⟩
set_option maxHeartbeats 4000000 in
set_option maxRecDepth 20000 in
theorem rclass_deep (r : Nat) (s : ByteArray) (i : Nat) (w : World) (h : RR w r s i 40 0 0) (hi : i ≤ s.size) (hq : Lib.hasPrefix (rest s i) [91] = true) :
    Calls Tryz.prog 41 #[.pointer (some ⟨r, 0, none⟩)] w fun e w' => RkEnd w w' r s 40 e (.inl (true, i)) := by
  have hsz := h.sz
  have hrw := h.blk.lt
  have hx0 : Ext w ((w.alloc (.cells zer 36)).alloc (.cells zer 36)) := by (repeat' (first | (with_reducible exact Below.refl _ _) | (with_reducible assumption) | (with_reducible refine below_drewN ?_ _) | (with_reducible refine Below.alloc ?_ ?_ _) | (with_reducible refine Below.drew ?_) | (with_reducible refine Below.setCell ?_ ?_ _) | (with_reducible refine Below.trans ?_ (Below.mono (by with_reducible assumption) ?_)) | go_size))
  have HH := Lib.hid (h.ext hx0)
  have HB := Lib.hid ((Blk.new w zer 36).alloc (.cells zer 36))
  have HS := Lib.hid (show Blk ((w.alloc (.cells zer 36)).alloc (.cells zer 36)) (w.heap.size + 1) (svs 0#256) 36 from by
    have := Blk.new (w.alloc (.cells zer 36)) zer 36
    simp only [World.size_alloc] at this
    rw [← zer_svs]; exact this)
  have HE := Lib.hid hx0
  have HQ := Lib.hid (fun w => rhasp_at s ⟨#[91]⟩ i (i : Int) rfl hi hsz (by decide) true hq w)
  clear h hq hx0
  go_enter Tryz.func41, Tryz.ntmps41
  go_wp2_with fail
  generalize (w.alloc (.cells zer 36)).alloc (.cells zer 36) = w1 at HH HB HS HE ⊢
  refine G.wp_region_stab (G := Ext) (fun _ => none) (by kernel_rfl) (by kernel_rfl) (fun _ _ h => by cases h) (fun hex => ?_)
  iterate 10
    (refine G.wpS_one (A := ?_) hex rfl rfl (by simp) ?_ ?_ ?_
     rotate_left 2
     · intro w' hC K hK
       have d0 := (HH.out.blk.ext hC.1).cell 0; have d1 := (HH.out.blk.ext hC.1).cell 1
       go_wp2_with (refine (HQ.out _).mono ?_; rintro e wq ⟨rfl, hEq⟩)
       refine hK _ ?_
       first | exact Below.refl _ _ | assumption | ((repeat' (first | (with_reducible exact Below.refl _ _) | (with_reducible assumption) | (with_reducible refine below_drewN ?_ _) | (with_reducible refine Below.alloc ?_ ?_ _) | (with_reducible refine Below.drew ?_) | (with_reducible refine Below.setCell ?_ ?_ _) | (with_reducible refine Below.trans ?_ (Below.mono (by with_reducible assumption) ?_)) | go_size)))
     rotate_left 1
     · rfl
     clear hex; intro hex)
  refine G.wpS_nil fun w2 hAll => ?_
  have hE := hAll.1
  have H2 := Lib.hid (HH.out.ext hE)
  have B2 := Lib.hid (HB.out.ext hE)
  have S2 := Lib.hid (HS.out.ext hE)
  have E2 := Lib.hid (grown_of_ext (row := some r) (bel_call HE.out hE))
  have k1 := H2.out.blk.cell 1
  have k2 : w2.cell? ⟨r, 2, none⟩ = some (.int .i64 40) := H2.out.blk.cell 2
  clear hE hex hAll HH HB HE HQ HS
  go_wp2_with fail
  refine (rrefuse_any r s _ 40 4 (i : Int) _ H2.out).mono ?_
  rintro e w9 ⟨rfl, hG9, hR9⟩
  have G9 := Lib.hid (grown_trans E2.out hG9)
  have R9 := Lib.hid hR9
  have B9 := Lib.hid (B2.out.grown hG9 (by simp; omega))
  have S9 := Lib.hid (S2.out.grown hG9 (by simp; omega))
  clear hG9 hR9 k1 k2 E2 H2 B2 S2
  obtain ⟨q0, q1, q2, q3⟩ := S9.out.cells4
  have kb := B9.out
  obtain ⟨z0, z1, z2, z3⟩ := kb.cells4
  have g0 := kb.free 0
  have g1 := kb.free 1
  have g2 := kb.free 2
  have g3 := kb.free 3
  have hltb := kb.lt
  obtain ⟨y0, y1, y2, y3⟩ := (kb.store4 (.int .u64 (wd 0#256 0)) (.int .u64 (wd 0#256 1)) (.int .u64 (wd 0#256 2)) (.int .u64 (wd 0#256 3))).cells4
  clear kb
  go_wp2_with fail
  refine bodyPost_ret (v := sv 0#256) ?_ rfl ?_
  · simp [results, Tryz.results41, go_sem, y0, y1, y2, y3]
  · exact ⟨0#256, i, by omega, rfl, grown_store (grown_store (grown_store (grown_store G9.out _ _ _ (Nat.le_refl _)) _ _ _ (Nat.le_refl _)) _ _ _ (Nat.le_refl _)) _ _ _ (Nat.le_refl _), R9.out.own (by omega) _ _ _ _⟩
end Go.Proofs.YtnecafokkhhhhaaGreatDoor
