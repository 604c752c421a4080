/- A char of a class or of a quoted text: escape, char. -/
import Derived.Test.YtnecafokkhhhhaaGreatDoorErv
import Derived.BigQuiet
import Derived.IntWalk
import Derived.Lib.IndexLaws
namespace Go.Proofs.YtnecafokkhhhhaaGreatDoor
open Go Go.RowKit
set_option maxHeartbeats 1000000 in
theorem escape_any (f : List UInt8 → Nat × Nat) (r : Nat) (s : ByteArray) (i : Nat) (es ed : Addr) (w : World) (h : Rdr w r s i) (hE : Errs w r es ed) (hi : i + 1 ≤ s.size) (hf : Unesc f) (hv : ErrV w) (b n : Nat) (hb : f (rest s (i + 1)) = (b, n)) (hn : i + 1 + n ≤ s.size) :
    Calls Tryz.prog 90 #[.pointer (some ⟨r, 0, none⟩)] w fun e w' =>
      if n = 0 then ∃ v, e = .returned (.tuple #[.int .u8 0, v]) ∧ Placed w' v es i ∧ Ext w w' else e = .returned (.tuple #[.int .u8 b, .nilIface]) ∧ Moved w w' r s (i + 1 + n) := by
  have h0 := h
  have hsz := h.size
  have hle := h.le
  have hse : (s.extract (i + 1) s.size).size ≤ 4294967000 := by
    have := ByteArray.size_extract (a := s) (b := i + 1) (e := s.size)
    omega
  have hun := fun (w' : World) (hx : Ext w w') => hf (s.extract (i + 1) s.size) w' (hv.ext hx) hse
  rw [ext_rest, hb] at hun
  have HU := Lib.hid hun
  clear hun hf hb
  go_enter Tryz.func90, Tryz.ntmps90
  go_wp2_with fail
  refine G.wp_region_stab (G := Ext) (fun _ => none) (by kernel_rfl) (by kernel_rfl) (fun _ _ h => by cases h) (fun hex => ?_)
  iterate 10
    (refine G.wpS_one (A := ?_) hex rfl rfl (by simp) ?_ ?_ ?_
     rotate_left 2
     · intro w' hC K hK
       have c0 := (h.ext hC.1).blk.cell 0; have c1 := (h.ext hC.1).blk.cell 1
       go_wp2_with (fail)
       refine hK _ ?_
       first | exact Below.refl _ _ | assumption | ((repeat' (first | (with_reducible exact Below.refl _ _) | (with_reducible assumption) | (with_reducible refine below_drewN ?_ _) | (with_reducible refine Below.alloc ?_ ?_ _) | (with_reducible refine Below.drew ?_) | (with_reducible refine Below.setCell ?_ ?_ _) | (with_reducible refine Below.trans ?_ (Below.mono (by with_reducible assumption) ?_)) | go_size)))
     rotate_left 1
     · rfl
     clear hex; intro hex)
  refine G.wpS_one (A := ?_) hex rfl rfl (by simp) ?_ ?_ ?_
  rotate_left 2
  · intro w' hC K hK
    go_wp2_with (refine (HU.out _ hC.1).mono ?_; rintro e w2 ⟨rfl, hE1⟩)
    refine hK _ ?_
    first | exact Below.refl _ _ | assumption | ((repeat' (first | (with_reducible exact Below.refl _ _) | (with_reducible assumption) | (with_reducible refine below_drewN ?_ _) | (with_reducible refine Below.alloc ?_ ?_ _) | (with_reducible refine Below.drew ?_) | (with_reducible refine Below.setCell ?_ ?_ _) | (with_reducible refine Below.trans ?_ (Below.mono (by with_reducible assumption) ?_)) | go_size)))
  rotate_left 1
  · rfl
  clear hex; intro hex
  iterate 5
    (refine G.wpS_one (A := ?_) hex rfl rfl (by simp) ?_ ?_ ?_
     rotate_left 2
     · intro w' hC K hK
       go_wp2_with (fail)
       refine hK _ ?_
       first | exact Below.refl _ _ | assumption | ((repeat' (first | (with_reducible exact Below.refl _ _) | (with_reducible assumption) | (with_reducible refine below_drewN ?_ _) | (with_reducible refine Below.alloc ?_ ?_ _) | (with_reducible refine Below.drew ?_) | (with_reducible refine Below.setCell ?_ ?_ _) | (with_reducible refine Below.trans ?_ (Below.mono (by with_reducible assumption) ?_)) | go_size)))
     rotate_left 1
     · rfl
     clear hex; intro hex)
  refine G.wpS_nil fun w2 hAll => ?_
  have hx := hAll.1
  clear hAll hex
  have h2 := h.ext hx
  have hE2 := hE.ext hx
  by_cases hn0 : n = 0
  · subst hn0
    have hre := refuse_any r s i es ed w2 h2 hE2
    go_wp2_with fail
    refine hre.mono ?_
    rintro e w3 ⟨v, rfl, hp, hE3⟩
    go_wp2
    go_ret2
    exact ⟨_, rfl, hp, bel_call hx hE3⟩
  · have hnz : ¬ ((n : Int) = 0) := by omega
    have c1 := h2.blk.cell 1
    have f1 := h2.blk.free 1
    go_wp2
    go_ret2
    refine ⟨rfl, ?_⟩
    rw [show (i : Int) + (1 + (n : Int)) = ((i + 1 + n : Nat) : Int) by omega]
    exact (Moved.ext (Moved.same h0) hx).set _ hn
set_option maxHeartbeats 1000000 in
theorem char_esc (f : List UInt8 → Nat × Nat) (r : Nat) (s m : ByteArray) (i : Nat) (es ed : Addr) (w : World) (h : Rdr w r s i) (hE : Errs w r es ed) (hi : i + 1 ≤ s.size) (hf : Unesc f) (hv : ErrV w) (hq : Lib.hasPrefix (rest s i) [92] = true) (b n : Nat) (hb : f (rest s (i + 1)) = (b, n)) (hn : i + 1 + n ≤ s.size) :
    Calls Tryz.prog 74 #[.pointer (some ⟨r, 0, none⟩), .string m] w fun e w' =>
      if n = 0 then ∃ v, e = .returned (.tuple #[.int .u8 0, v]) ∧ Placed w' v es i ∧ Ext w w' else e = .returned (.tuple #[.int .u8 b, .nilIface]) ∧ Moved w w' r s (i + 1 + n) := by
  have hs := stands_any r s ⟨#[92]⟩ i w h true hq
  go_enter Tryz.func74, Tryz.ntmps74
  go_wp2_with fail
  refine hs.mono ?_
  rintro e w1 ⟨rfl, k, rfl⟩
  have hes := escape_any f r s i es ed (w.drewN k) (h.drewN k) (hE.moved (grown_drew _ _ _)) hi hf (hv.ext (drew_ext _ _)) b n hb hn
  by_cases hn0 : n = 0
  · subst hn0
    simp only [if_pos] at hes ⊢
    go_wp2_with fail
    refine hes.mono ?_
    rintro e w3 ⟨v, rfl, hp, hE3⟩
    go_wp2
    go_ret2
    exact ⟨_, rfl, hp, bel_call (drew_ext _ _) hE3⟩
  · simp only [if_neg hn0] at hes ⊢
    go_wp2_with fail
    refine hes.mono ?_
    rintro e w3 ⟨rfl, hM⟩
    go_wp2
    go_ret2
    exact ⟨rfl, grown_trans (grown_drew _ _ _) hM.1, hM.2⟩
set_option maxHeartbeats 1000000 in
theorem char_no (r : Nat) (s m : ByteArray) (i : Nat) (es ed : Addr) (w : World) (h : Rdr w r s i) (hE : Errs w r es ed) (hq : Lib.hasPrefix (rest s i) [92] = false) (hm : i = s.size ∨ ∃ c l, rest s i = c :: l ∧ c ∈ m.data.toList) :
    Calls Tryz.prog 74 #[.pointer (some ⟨r, 0, none⟩), .string m] w fun e w' => ∃ v, e = .returned (.tuple #[.int .u8 0, v]) ∧ Placed w' v es i ∧ Ext w w' := by
  have hs := stands_any r s ⟨#[92]⟩ i w h false hq
  have hsz := h.size
  go_enter Tryz.func74, Tryz.ntmps74
  go_wp2_with fail
  refine hs.mono ?_
  rintro e w1 ⟨rfl, hk⟩
  have hx : Ext w w1 := by obtain ⟨k, rfl⟩ := hk; exact drew_ext _ _
  clear hk
  have h1 := h.ext hx
  have c0 := h1.blk.cell 0
  have c1 := h1.blk.cell 1
  have hre := fun (w' : World) (hx' : Ext w1 w') => refuse_any r s i es ed w' (h1.ext hx') ((hE.ext hx).ext hx')
  rcases hm with rfl | ⟨c, l, hr, hc⟩
  · have hd : decide ((s.size : Int) = (s.size : Int)) = true := by simp
    have HR := Lib.hid hre
    clear h h1 hE hs hre
    go_wp2_with fail
    go_quiet (fail)
    go_wp2_with fail
    refine (HR.out _ (drew_ext _ _)).mono ?_
    rintro e w3 ⟨v, rfl, hp, hE3⟩
    go_wp2
    go_ret2
    exact ⟨_, rfl, hp, bel_call hx (bel_call (drew_ext _ _) hE3)⟩
  · have hlt : i < s.size := by
      have h5 := congrArg List.length hr
      unfold rest at h5
      rw [List.length_drop, Array.length_toList] at h5
      simp at h5
      have : s.data.size = s.size := rfl
      omega
    have hget : s[i] = c := by
      unfold rest at hr
      rw [List.drop_eq_getElem_cons (by simpa using hlt)] at hr
      have h6 := (List.cons.inj hr).1
      rw [Array.getElem_toList] at h6
      exact h6
    obtain ⟨v, hv, hib⟩ : ∃ v : Int, 0 ≤ v ∧ Lib.indexByte m.data.toList ((s[i].toNat : Int).toNat.toUInt8) = v := by
      refine ⟨_, ?_, rfl⟩
      have h7 : ((s[i].toNat : Int).toNat.toUInt8) = c := by rw [hget]; simp
      rw [h7]
      have h8 := Lib.indexByte_ge m.data.toList c
      by_cases h9 : Lib.indexByte m.data.toList c = -1
      · obtain ⟨k, hk⟩ := List.getElem?_of_mem hc
        exact absurd hk (Lib.indexByte_none h9 k)
      · omega
    clear hget
    have hd : ((i : Int) == (s.size : Int)) = false := by simp; omega
    have hb1 : (0 : Int) ≤ (i : Int) := by omega
    have hb2 : (i : Int) < (s.size : Int) := by omega
    have HR := Lib.hid hre
    clear h h1 hE hs hre hr
    go_wp2_with fail
    go_quiet ((go_at_call 91; refine (Tryz.strings_IndexByte _ _ _).mono ?_; rintro e w2 ⟨rfl, rfl⟩; exact ⟨congrArg (fun n : Int => Ending.returned (.int .i64 n)) hib, _, rfl⟩))
    go_wp2_with fail
    refine (HR.out _ (drew_ext _ _)).mono ?_
    rintro e w3 ⟨v, rfl, hp, hE3⟩
    go_wp2
    go_ret2
    exact ⟨_, rfl, hp, bel_call hx (bel_call (drew_ext _ _) hE3)⟩
set_option maxHeartbeats 1000000 in
theorem char_yes (r : Nat) (s m : ByteArray) (i : Nat) (w : World) (h : Rdr w r s i) (hq : Lib.hasPrefix (rest s i) [92] = false) (c : UInt8) (l : List UInt8) (hr : rest s i = c :: l) (hc : c ∉ m.data.toList) :
    Calls Tryz.prog 74 #[.pointer (some ⟨r, 0, none⟩), .string m] w fun e w' => e = .returned (.tuple #[.int .u8 c.toNat, .nilIface]) ∧ Moved w w' r s (i + 1) := by
  have hs := stands_any r s ⟨#[92]⟩ i w h false hq
  have hsz := h.size
  go_enter Tryz.func74, Tryz.ntmps74
  go_wp2_with fail
  refine hs.mono ?_
  rintro e w1 ⟨rfl, hk⟩
  have hx : Ext w w1 := by obtain ⟨k, rfl⟩ := hk; exact drew_ext _ _
  clear hk
  have h1 := h.ext hx
  have c0 := h1.blk.cell 0
  have c1 := h1.blk.cell 1
  have hlt : i < s.size := by
    have h5 := congrArg List.length hr
    unfold rest at h5
    rw [List.length_drop, Array.length_toList] at h5
    simp at h5
    have : s.data.size = s.size := rfl
    omega
  have hget : s[i] = c := by
    unfold rest at hr
    rw [List.drop_eq_getElem_cons (by simpa using hlt)] at hr
    have h6 := (List.cons.inj hr).1
    rw [Array.getElem_toList] at h6
    exact h6
  have hib : Lib.indexByte m.data.toList ((s[i].toNat : Int).toNat.toUInt8) = -1 := by
    have h7 : ((s[i].toNat : Int).toNat.toUInt8) = c := by rw [hget]; simp
    rw [h7]
    have h8 := Lib.indexByte_ge m.data.toList c
    apply Classical.byContradiction
    intro h9
    have h10 : Lib.indexByte m.data.toList c = ((Lib.indexByte m.data.toList c).toNat : Int) := by omega
    exact hc (List.mem_of_getElem? (Lib.indexByte_some h10).1)
  have hd : ((i : Int) == (s.size : Int)) = false := by simp; omega
  have hb1 : (0 : Int) ≤ (i : Int) := by omega
  have hb2 : (i : Int) < (s.size : Int) := by omega
  have HM := Lib.hid (Moved.ext (Moved.same h) hx)
  have HG := Lib.hid hget
  clear h h1 hs hr hget
  go_wp2_with fail
  go_quiet ((go_at_call 91; refine (Tryz.strings_IndexByte _ _ _).mono ?_; rintro e w2 ⟨rfl, rfl⟩; exact ⟨congrArg (fun n : Int => Ending.returned (.int .i64 n)) hib, _, rfl⟩))
  have h2 := HM.out.drewN nq
  have h3 := h2.set (i + 1) hlt
  rw [show ((i + 1 : Nat) : Int) = (i : Int) + 1 by omega] at h3
  clear c0 c1
  have c1 := h2.2.blk.cell 1
  have f1 := h2.2.blk.free 1
  have H3 := Lib.hid h3
  clear h2 h3 hd hib
  go_wp2_with fail
  clear c1 f1
  generalize (w1.drewN nq).setCell ⟨r, 1, none⟩ (.int .i64 ((i : Int) + 1)) = w5 at H3 ⊢
  have h5 := H3.out.2
  have c0 := h5.blk.cell 0
  have c1 := h5.blk.cell 1
  rw [show ((i + 1 : Nat) : Int) = (i : Int) + 1 by omega] at c1
  have hw1 : IntKind.i64.wrap ((i : Int) + 1 - 1) = (i : Int) := by rw [IntWalk.i64_in _ (by omega)]; omega
  clear h5
  go_quiet (fail)
  have h6 := H3.out.drewN nq
  go_wp2
  go_ret2
  refine ⟨?_, h6⟩
  rw [HG.out]
  rfl
theorem rest_nil {s : ByteArray} {i : Nat} (h : rest s i = []) (hi : i ≤ s.size) : i = s.size := by
  have h5 := congrArg List.length h
  unfold rest at h5
  rw [List.length_drop, Array.length_toList] at h5
  simp at h5
  have : s.data.size = s.size := rfl
  omega
theorem rest_cons {s : ByteArray} {i : Nat} {c : UInt8} {l : List UInt8} (h : rest s i = c :: l) : i + 1 ≤ s.size ∧ rest s (i + 1) = l ∧ i + 1 + l.length = s.size := by
  have h5 := congrArg List.length h
  have h6 : rest s (i + 1) = l := by
    have h7 := congrArg List.tail h
    unfold rest at h7 ⊢
    rw [List.tail_drop] at h7
    exact h7
  unfold rest at h5
  rw [List.length_drop, Array.length_toList] at h5
  simp at h5
  have : s.data.size = s.size := rfl
  exact ⟨by omega, h6, by omega⟩
theorem char_any (f : List UInt8 → Nat × Nat) (hfn : ∀ l, (f l).2 ≤ l.length) (r : Nat) (s m : ByteArray) (i : Nat) (es ed : Addr) (w : World) (h : Rdr w r s i) (hE : Errs w r es ed) (hf : Unesc f) (hv : ErrV w) (o : Option (Nat × Nat)) (ho : chr f m.data.toList (rest s i) = o) :
    Calls Tryz.prog 74 #[.pointer (some ⟨r, 0, none⟩), .string m] w fun e w' => ChrEnd w w' r s i es e o := by
  cases hr : rest s i with
  | nil =>
    rw [hr] at ho
    subst ho
    exact char_no r s m i es ed w h hE (by rw [hr]; rfl) (.inl (rest_nil hr h.le))
  | cons c l =>
    obtain ⟨h1, h2, h3⟩ := rest_cons hr
    rw [hr] at ho
    have hch : ∀ m : List UInt8, chr f m (c :: l) = if c = 92 then (if (f l).2 = 0 then none else some ((f l).1, (f l).2 + 1)) else if c ∈ m then none else some (c.toNat, 1) := fun _ => rfl
    rw [hch] at ho
    by_cases hc : c = 92
    · rw [if_pos hc] at ho
      have hn := hfn l
      refine (char_esc f r s m i es ed w h hE h1 hf hv (by rw [hr, hc]; rfl) (f l).1 (f l).2 (by rw [h2]) (by omega)).mono ?_
      intro e w' hh
      by_cases h0 : (f l).2 = 0
      · rw [if_pos h0] at ho hh
        subst ho
        exact hh
      · rw [if_neg h0] at ho hh
        subst ho
        refine ⟨hh.1, ?_⟩
        rw [show i + ((f l).2 + 1) = i + 1 + (f l).2 by omega]
        exact hh.2
    · rw [if_neg hc] at ho
      have hq : Lib.hasPrefix (rest s i) [92] = false := by
        rw [hr]
        show ((92 : UInt8) == c && List.isPrefixOf [] l) = false
        rw [Bool.and_eq_false_iff]
        exact .inl (by simp; exact fun e => hc e.symm)
      by_cases hm : c ∈ m.data.toList
      · rw [if_pos hm] at ho
        subst ho
        exact char_no r s m i es ed w h hE hq (.inr ⟨c, l, hr, hm⟩)
      · rw [if_neg hm] at ho
        subst ho
        exact char_yes r s m i w h hq c l hr hm
end Go.Proofs.YtnecafokkhhhhaaGreatDoor
