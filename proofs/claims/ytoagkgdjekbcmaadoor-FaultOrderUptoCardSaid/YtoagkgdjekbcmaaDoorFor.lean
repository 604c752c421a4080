/- FaultOrder: the walk. -/
import Derived.Test.YtoagkgdjekbcmaaDoorMad
import Derived.Test.YtoagkgdjekbcmaaDoorSht
import Derived.Test.YtoagkgdjekbcmaaDoorStabG
namespace Go.Proofs.YtoagkgdjekbcmaaDoor
open Go Go.RowKit
instance : G.GOK Ext := ⟨fun w => Below.refl _ w, fun h k => bel_call h k, fun _ => ⟨rfl, rfl, rfl, Nat.le_refl _, fun _ _ => rfl⟩⟩
/-! ### What the wrappers tell -/
theorem same_apart (A B : WD) (K : List Wr) (h : A.1 ≠ B.1) : tStage (wr1 B (wr1 A K)) = tStage (wr1 A (wr1 B K)) ∧ tRule (wr1 B (wr1 A K)) = tRule (wr1 A (wr1 B K)) ∧ tAt (wr1 B (wr1 A K)) = tAt (wr1 A (wr1 B K)) ∧ tNames (wr1 B (wr1 A K)) = tNames (wr1 A (wr1 B K)) := by
  obtain ⟨a, an, al⟩ := A
  obtain ⟨b, bn, bl⟩ := B
  simp only at h
  unfold wr1
  by_cases a1 : a = 1 <;> by_cases a2 : a = 2 <;> by_cases a3 : a = 3 <;> by_cases a4 : a = 4 <;> by_cases b1 : b = 1 <;> by_cases b2 : b = 2 <;> by_cases b3 : b = 3 <;> by_cases b4 : b = 4 <;> first | omega | simp [a1, a2, a3, a4, b1, b2, b3, b4, tStage, tRule, tAt, tNames]
theorem same_kind (k : Int) (an bn : Int) (al bl : List ByteArray) (K : List Wr) : tStage (wr1 (k, bn, bl) (wr1 (k, an, al) K)) = tStage (wr1 (k, bn, bl) K) ∧ tRule (wr1 (k, bn, bl) (wr1 (k, an, al) K)) = tRule (wr1 (k, bn, bl) K) ∧ tAt (wr1 (k, bn, bl) (wr1 (k, an, al) K)) = tAt (wr1 (k, bn, bl) K) ∧ tNames (wr1 (k, bn, bl) (wr1 (k, an, al) K)) = tNames (wr1 (k, bn, bl) K) := by
  unfold wr1
  by_cases a1 : k = 1 <;> by_cases a2 : k = 2 <;> by_cases a3 : k = 3 <;> by_cases a4 : k = 4 <;> first | omega | simp [a1, a2, a3, a4, tStage, tRule, tAt, tNames]
/-! ### The regions -/
def RsW (K1 K2 : List Wr) (a : Addr) : Nat → Option (Value → World → Prop) := fun k => if k = 3 then some (fun v w => ErrOf w K1 v a) else if k = 6 then some (fun v w => ErrOf w K2 v a) else none
theorem RsW_mono (K1 K2 : List Wr) (a : Addr) : G.RsMono Ext (RsW K1 K2 a) := by
  intro j R h
  unfold RsW at h
  split at h
  · cases h; exact fun v w w' hx hR => ErrOf.ext hR hx
  · split at h
    · cases h; exact fun v w w' hx hR => ErrOf.ext hR hx
    · cases h
def RsT (c s r t s' r' t' : Int) (l l' : List ByteArray) (K : List Wr) (a : Addr) : Nat → Option (Value → World → Prop) := fun k => if k = 9 then some (fun v w => Fault w v c s r t l) else if k = 13 then some (fun v w => ErrOf w K v a) else if k = 14 then some (fun v w => Fault w v c s' r' t' l') else none
theorem RsT_mono (c s r t s' r' t' : Int) (l l' : List ByteArray) (K : List Wr) (a : Addr) : G.RsMono Ext (RsT c s r t s' r' t' l l' K a) := by
  intro j R h
  unfold RsT at h
  split at h
  · cases h; exact fun v w w' hx hR => Fault.ext hR hx
  · split at h
    · cases h; exact fun v w w' hx hR => ErrOf.ext hR hx
    · split at h
      · cases h; exact fun v w w' hx hR => Fault.ext hR hx
      · cases h
abbrev twoCells (c : Int) (s : ByteArray) (x : Value) (ka na : Int) (xa : Value) (kb nb : Int) (xb : Value) : Array Value := #[.int .i64 c, .string s, x, .int .i64 ka, .int .i64 na, xa, .int .i64 kb, .int .i64 nb, xb]
theorem cells9 {w : World} {b : Nat} {t : TypeId} {x0 x1 x2 x3 x4 x5 x6 x7 x8 : Value} (h : Blk w b #[x0, x1, x2, x3, x4, x5, x6, x7, x8] t) : w.cell? ⟨b, 0, none⟩ = some x0 ∧ w.cell? ⟨b, 1, none⟩ = some x1 ∧ w.cell? ⟨b, 2, none⟩ = some x2 ∧ w.cell? ⟨b, 3, none⟩ = some x3 ∧ w.cell? ⟨b, 4, none⟩ = some x4 ∧ w.cell? ⟨b, 5, none⟩ = some x5 ∧ w.cell? ⟨b, 6, none⟩ = some x6 ∧ w.cell? ⟨b, 7, none⟩ = some x7 ∧ w.cell? ⟨b, 8, none⟩ = some x8 :=
  ⟨h.cell 0, h.cell 1, h.cell 2, h.cell 3, h.cell 4, h.cell 5, h.cell 6, h.cell 7, h.cell 8⟩
set_option maxHeartbeats 4000000 in
set_option maxRecDepth 20000 in
theorem faultorder_any (ea : Nat → Addr) (c : Int) (s : ByteArray) (x : Value) (l : List WD) (ka na : Int) (xa : Value) (la : List ByteArray) (kb nb : Int) (xb : Value) (lb : List ByteArray) (w : World) (hK : Known w ea) (hx : Wrs w x l) (hxa : Texts w xa la) (hxb : Texts w xb lb) (hcr : -9223372036854775808 ≤ c ∧ c ≤ 9223372036854775807) :
    Calls Tryd.prog 4 #[.agg (twoCells c s x ka na xa kb nb xb)] w fun e w' => e = .returned (.bool true) ∧ Below w.heap.size w w' := by
  obtain ⟨ax, cx, rfl⟩ := hx.slice
  obtain ⟨aa, ca, rfl⟩ := hxa.slice
  obtain ⟨ab, cb, rfl⟩ := hxb.slice
  have hb : Ext w (w.alloc (.cells (twoCells c s (.slice ax l.length cx) ka na (.slice aa la.length ca) kb nb (.slice ab lb.length cb)) 36)) := by go_grown
  have kP := Blk.new w (twoCells c s (.slice ax l.length cx) ka na (.slice aa la.length ca) kb nb (.slice ab lb.length cb)) 36
  obtain ⟨q, hq⟩ : ∃ q, shortB s l = q := ⟨_, rfl⟩
  have hsh := fun w' (hx' : Wrs w' (.slice ax l.length cx) l) => short_any c s _ l w' hx' q hq
  have HSH := Lib.hid hsh
  clear hsh hq
  go_enter Tryd.func4, Tryd.ntmps4
  go_wp2_with fail
  refine (HSH.out _ (hx.ext hb)).mono ?_
  rintro e w1 ⟨rfl, hE⟩
  replace hb := bel_call hb hE
  replace kP := kP.below hE kP.lt
  clear hE
  obtain ⟨p0, p1, p2, p3, p4, p5, p6, p7, p8⟩ := cells9 kP
  cases q with
  | false =>
    go_wp2_with fail
    refine (HSH.out _ (hx.ext hb)).mono ?_
    rintro e w2 ⟨rfl, hE⟩
    replace hb := bel_call hb hE
    clear hE
    have hwk := wakes_any ea _ (hK.ext hb)
    go_wp2_with fail
    refine hwk.mono ?_
    rintro e w9 ⟨rfl, hE⟩
    go_wp2
    go_ret
    exact ⟨rfl, bel_call hb hE⟩
  | true =>
    replace hxa := hxa.ext hb
    replace hxb := hxb.ext hb
    have hn := wrapped_nil ka na _ la w1 hxa
    go_wp2_with fail
    refine hn.mono ?_
    rintro e w2 ⟨rfl, hE⟩
    replace hb := bel_call hb hE
    replace kP := kP.ext hE
    replace hxa := hxa.ext hE
    replace hxb := hxb.ext hE
    clear hE hn p0 p1 p2 p3 p4 p5 p6 p7 p8
    obtain ⟨p0, p1, p2, p3, p4, p5, p6, p7, p8⟩ := cells9 kP
    have hn := wrapped_nil kb nb _ lb w2 hxb
    go_wp2_with fail
    refine hn.mono ?_
    rintro e w3 ⟨rfl, hE⟩
    replace hb := bel_call hb hE
    replace kP := kP.ext hE
    replace hxa := hxa.ext hE
    replace hxb := hxb.ext hE
    clear hE hn p0 p1 p2 p3 p4 p5 p6 p7 p8
    obtain ⟨p0, p1, p2, p3, p4, p5, p6, p7, p8⟩ := cells9 kP
    have hmade : Calls Tryd.prog 7 #[.agg #[.int .i64 c, .string s, .slice ax l.length cx]] w3 fun e w' => (e = .returned .nilIface ∨ ∃ T y a, e = .returned (.iface T y) ∧ ErrOf w' (wrs l) (.iface T y) a) ∧ Below w3.heap.size w3 w' := by
      by_cases hc1 : c = 1
      · subst hc1
        refine (made_own ea s _ l w3 (hK.ext hb) (hx.ext hb)).mono ?_
        rintro e w' ⟨v, a, rfl, h1, _, h2⟩
        obtain ⟨T, y, rfl⟩ := h1.iface
        exact ⟨.inr ⟨T, y, a, rfl, h1⟩, h2⟩
      · by_cases hc2 : 2 ≤ c ∧ c ≤ 17
        · obtain ⟨j, hj, rfl⟩ : ∃ j : Nat, j < 16 ∧ c = (j : Int) + 2 := ⟨(c - 2).toNat, by omega, by omega⟩
          refine (made_some ea j s _ l w3 (hK.ext hb) (hx.ext hb) hj).mono ?_
          rintro e w' ⟨v, rfl, h1, h2⟩
          obtain ⟨T, y, rfl⟩ := h1.iface
          exact ⟨.inr ⟨T, y, _, rfl, h1⟩, h2⟩
        · refine (made_nil ea c s _ l w3 (hK.ext hb) (hx.ext hb) (by unfold MadeNil; omega) hcr).mono ?_
          rintro e w' ⟨rfl, h2⟩
          exact ⟨.inl rfl, h2⟩
    go_wp2_with fail
    refine hmade.mono ?_
    rintro e w4 ⟨rfl | ⟨T, y, a, rfl, herr⟩, hE⟩
    · replace hb := bel_call hb hE
      clear hE hmade
      have hwk := wakes_any ea _ (hK.ext hb)
      go_wp2_with fail
      refine hwk.mono ?_
      rintro e w9 ⟨rfl, hE⟩
      go_wp2
      go_ret
      exact ⟨rfl, bel_call hb hE⟩
    · replace hb := bel_call hb hE
      replace kP := kP.ext hE
      replace hxa := hxa.ext hE
      replace hxb := hxb.ext hE
      clear hE hmade p0 p1 p2 p3 p4 p5 p6 p7 p8 HSH hx hcr
      obtain ⟨K, hKl⟩ : ∃ K, wrs l = K := ⟨_, rfl⟩
      rw [hKl] at herr
      clear hKl
      go_wp2_with fail
      refine G.wp_region_stab (G := Ext) (RsW (wr1 (ka, na, la) K) (wr1 (kb, nb, lb) (wr1 (ka, na, la) K)) a) (by kernel_rfl) (by kernel_rfl) (RsW_mono _ _ _) (fun hex => ?_)
      iterate 3
        (refine G.wpS_one (A := ?_) hex rfl rfl (by simp) ?_ ?_ ?_
         rotate_left 2
         · intro w' hC K hK
           obtain ⟨p0, p1, p2, p3, p4, p5, p6, p7, p8⟩ := cells9 (kP.ext hC.1)
           go_wp2_with (fail)
           refine hK _ ?_
           first | exact Below.refl _ _ | assumption | ((repeat' (first | (with_reducible exact Below.refl _ _) | (with_reducible assumption) | (with_reducible refine below_drewN ?_ _) | (with_reducible refine Below.alloc ?_ ?_ _) | (with_reducible refine Below.drew ?_) | (with_reducible refine Below.setCell ?_ ?_ _) | (with_reducible refine Below.trans ?_ (Below.mono (by with_reducible assumption) ?_)) | go_size)))
         rotate_left 1
         · rfl
         clear hex; intro hex)
      refine G.wpS_rel (fun v w => ErrOf w (wr1 (ka, na, la) K) v a) rfl rfl (by simp) (by first | rfl | (simp [Region.wanted, yielded]; done)) ?_ ?_
      · intro w' hC K hK
        simp only [Act.put, List.setIfInBounds_toArray, List.set_cons_succ, List.set_cons_zero] at hK
        go_wp2_with (refine (wrapped_err _ _ a _ _ _ _ _ (herr.ext hC.1) (hxa.ext hC.1)).mono ?_; rintro e w2 ⟨v', rfl, h1, hE1⟩)
        refine hK _ _ ?_ ?_
        · first | exact Below.refl _ _ | assumption | ((repeat' (first | (with_reducible exact Below.refl _ _) | (with_reducible assumption) | (with_reducible refine below_drewN ?_ _) | (with_reducible refine Below.alloc ?_ ?_ _) | (with_reducible refine Below.drew ?_) | (with_reducible refine Below.setCell ?_ ?_ _) | (with_reducible refine Below.trans ?_ (Below.mono (by with_reducible assumption) ?_)) | go_size)))
        · exact h1
      clear hex
      intro v1 w' hex hv1
      replace hex := Exists.intro w' hex
      simp only [Act.put, List.setIfInBounds_toArray, List.set_cons_succ, List.set_cons_zero]
      iterate 2
        (refine G.wpS_one (A := ?_) hex rfl rfl (by simp) ?_ ?_ ?_
         rotate_left 2
         · intro w' hC K hK
           obtain ⟨p0, p1, p2, p3, p4, p5, p6, p7, p8⟩ := cells9 (kP.ext hC.1)
           go_wp2_with (fail)
           refine hK _ ?_
           first | exact Below.refl _ _ | assumption | ((repeat' (first | (with_reducible exact Below.refl _ _) | (with_reducible assumption) | (with_reducible refine below_drewN ?_ _) | (with_reducible refine Below.alloc ?_ ?_ _) | (with_reducible refine Below.drew ?_) | (with_reducible refine Below.setCell ?_ ?_ _) | (with_reducible refine Below.trans ?_ (Below.mono (by with_reducible assumption) ?_)) | go_size)))
         rotate_left 1
         · rfl
         clear hex; intro hex)
      refine G.wpS_rel (fun v w => ErrOf w (wr1 (kb, nb, lb) (wr1 (ka, na, la) K)) v a) rfl rfl (by simp) (by first | rfl | (simp [Region.wanted, yielded]; done)) ?_ ?_
      · intro w' hC K hK
        simp only [Act.put, List.setIfInBounds_toArray, List.set_cons_succ, List.set_cons_zero] at hK
        go_wp2_with (refine (wrapped_err _ _ a _ _ _ _ _ ((hC.2 3 (by simp [Region.binds])).1 rfl) (hxb.ext hC.1)).mono ?_; rintro e w2 ⟨v', rfl, h1, hE1⟩)
        refine hK _ _ ?_ ?_
        · first | exact Below.refl _ _ | assumption | ((repeat' (first | (with_reducible exact Below.refl _ _) | (with_reducible assumption) | (with_reducible refine below_drewN ?_ _) | (with_reducible refine Below.alloc ?_ ?_ _) | (with_reducible refine Below.drew ?_) | (with_reducible refine Below.setCell ?_ ?_ _) | (with_reducible refine Below.trans ?_ (Below.mono (by with_reducible assumption) ?_)) | go_size)))
        · exact h1
      clear hex
      intro va w' hex hv2
      replace hex := Exists.intro w' hex
      simp only [Act.put, List.setIfInBounds_toArray, List.set_cons_succ, List.set_cons_zero]
      refine G.wpS_one (A := ?_) hex rfl rfl (by simp) ?_ ?_ ?_
      rotate_left 2
      · intro w' hC K hK
        go_wp2_with (fail)
        refine hK _ ?_
        first | exact Below.refl _ _ | assumption | ((repeat' (first | (with_reducible exact Below.refl _ _) | (with_reducible assumption) | (with_reducible refine below_drewN ?_ _) | (with_reducible refine Below.alloc ?_ ?_ _) | (with_reducible refine Below.drew ?_) | (with_reducible refine Below.setCell ?_ ?_ _) | (with_reducible refine Below.trans ?_ (Below.mono (by with_reducible assumption) ?_)) | go_size)))
      rotate_left 1
      · rfl
      clear hex; intro hex
      refine G.wpS_nil fun w5 hAll => ?_
      have hE := hAll.1
      have hva := (hAll.2 6).1 rfl
      replace hb := bel_call hb hE
      replace kP := kP.ext hE
      replace herr := herr.ext hE
      replace hxa := hxa.ext hE
      replace hxb := hxb.ext hE
      skip
      clear hE hAll hex
      go_wp2_with fail
      refine G.wp_region_stab (G := Ext) (RsW (wr1 (kb, nb, lb) K) (wr1 (ka, na, la) (wr1 (kb, nb, lb) K)) a) (by kernel_rfl) (by kernel_rfl) (RsW_mono _ _ _) (fun hex => ?_)
      iterate 3
        (refine G.wpS_one (A := ?_) hex rfl rfl (by simp) ?_ ?_ ?_
         rotate_left 2
         · intro w' hC K hK
           obtain ⟨p0, p1, p2, p3, p4, p5, p6, p7, p8⟩ := cells9 (kP.ext hC.1)
           go_wp2_with (fail)
           refine hK _ ?_
           first | exact Below.refl _ _ | assumption | ((repeat' (first | (with_reducible exact Below.refl _ _) | (with_reducible assumption) | (with_reducible refine below_drewN ?_ _) | (with_reducible refine Below.alloc ?_ ?_ _) | (with_reducible refine Below.drew ?_) | (with_reducible refine Below.setCell ?_ ?_ _) | (with_reducible refine Below.trans ?_ (Below.mono (by with_reducible assumption) ?_)) | go_size)))
         rotate_left 1
         · rfl
         clear hex; intro hex)
      refine G.wpS_rel (fun v w => ErrOf w (wr1 (kb, nb, lb) K) v a) rfl rfl (by simp) (by first | rfl | (simp [Region.wanted, yielded]; done)) ?_ ?_
      · intro w' hC K hK
        simp only [Act.put, List.setIfInBounds_toArray, List.set_cons_succ, List.set_cons_zero] at hK
        go_wp2_with (refine (wrapped_err _ _ a _ _ _ _ _ (herr.ext hC.1) (hxb.ext hC.1)).mono ?_; rintro e w2 ⟨v', rfl, h1, hE1⟩)
        refine hK _ _ ?_ ?_
        · first | exact Below.refl _ _ | assumption | ((repeat' (first | (with_reducible exact Below.refl _ _) | (with_reducible assumption) | (with_reducible refine below_drewN ?_ _) | (with_reducible refine Below.alloc ?_ ?_ _) | (with_reducible refine Below.drew ?_) | (with_reducible refine Below.setCell ?_ ?_ _) | (with_reducible refine Below.trans ?_ (Below.mono (by with_reducible assumption) ?_)) | go_size)))
        · exact h1
      clear hex
      intro v1 w' hex hv1
      replace hex := Exists.intro w' hex
      simp only [Act.put, List.setIfInBounds_toArray, List.set_cons_succ, List.set_cons_zero]
      iterate 2
        (refine G.wpS_one (A := ?_) hex rfl rfl (by simp) ?_ ?_ ?_
         rotate_left 2
         · intro w' hC K hK
           obtain ⟨p0, p1, p2, p3, p4, p5, p6, p7, p8⟩ := cells9 (kP.ext hC.1)
           go_wp2_with (fail)
           refine hK _ ?_
           first | exact Below.refl _ _ | assumption | ((repeat' (first | (with_reducible exact Below.refl _ _) | (with_reducible assumption) | (with_reducible refine below_drewN ?_ _) | (with_reducible refine Below.alloc ?_ ?_ _) | (with_reducible refine Below.drew ?_) | (with_reducible refine Below.setCell ?_ ?_ _) | (with_reducible refine Below.trans ?_ (Below.mono (by with_reducible assumption) ?_)) | go_size)))
         rotate_left 1
         · rfl
         clear hex; intro hex)
      refine G.wpS_rel (fun v w => ErrOf w (wr1 (ka, na, la) (wr1 (kb, nb, lb) K)) v a) rfl rfl (by simp) (by first | rfl | (simp [Region.wanted, yielded]; done)) ?_ ?_
      · intro w' hC K hK
        simp only [Act.put, List.setIfInBounds_toArray, List.set_cons_succ, List.set_cons_zero] at hK
        go_wp2_with (refine (wrapped_err _ _ a _ _ _ _ _ ((hC.2 3 (by simp [Region.binds])).1 rfl) (hxa.ext hC.1)).mono ?_; rintro e w2 ⟨v', rfl, h1, hE1⟩)
        refine hK _ _ ?_ ?_
        · first | exact Below.refl _ _ | assumption | ((repeat' (first | (with_reducible exact Below.refl _ _) | (with_reducible assumption) | (with_reducible refine below_drewN ?_ _) | (with_reducible refine Below.alloc ?_ ?_ _) | (with_reducible refine Below.drew ?_) | (with_reducible refine Below.setCell ?_ ?_ _) | (with_reducible refine Below.trans ?_ (Below.mono (by with_reducible assumption) ?_)) | go_size)))
        · exact h1
      clear hex
      intro vb w' hex hv2
      replace hex := Exists.intro w' hex
      simp only [Act.put, List.setIfInBounds_toArray, List.set_cons_succ, List.set_cons_zero]
      refine G.wpS_one (A := ?_) hex rfl rfl (by simp) ?_ ?_ ?_
      rotate_left 2
      · intro w' hC K hK
        go_wp2_with (fail)
        refine hK _ ?_
        first | exact Below.refl _ _ | assumption | ((repeat' (first | (with_reducible exact Below.refl _ _) | (with_reducible assumption) | (with_reducible refine below_drewN ?_ _) | (with_reducible refine Below.alloc ?_ ?_ _) | (with_reducible refine Below.drew ?_) | (with_reducible refine Below.setCell ?_ ?_ _) | (with_reducible refine Below.trans ?_ (Below.mono (by with_reducible assumption) ?_)) | go_size)))
      rotate_left 1
      · rfl
      clear hex; intro hex
      refine G.wpS_nil fun w6 hAll => ?_
      have hE := hAll.1
      have hvb := (hAll.2 6).1 rfl
      replace hb := bel_call hb hE
      replace kP := kP.ext hE
      replace herr := herr.ext hE
      replace hxa := hxa.ext hE
      replace hxb := hxb.ext hE
      replace hva := hva.ext hE
      clear hE hAll hex
      obtain ⟨C, hCa⟩ : ∃ C, codeAt ea a 16 0 = C := ⟨_, rfl⟩
      have hcd := code_err ea a K _ _ (hK.ext hb).sent herr
      rw [hCa] at hcd
      go_wp2_with fail
      refine hcd.mono ?_
      rintro e w7 ⟨rfl, hE⟩
      replace hb := bel_call hb hE
      replace kP := kP.ext hE
      replace herr := herr.ext hE
      replace hxb := hxb.ext hE
      replace hva := hva.ext hE
      replace hvb := hvb.ext hE
      clear hE hcd
      have hcd := code_err ea a _ _ _ (hK.ext hb).sent hva
      rw [hCa] at hcd
      go_wp2_with fail
      refine hcd.mono ?_
      rintro e w8 ⟨rfl, hE⟩
      replace hb := bel_call hb hE
      replace kP := kP.ext hE
      replace herr := herr.ext hE
      replace hxb := hxb.ext hE
      replace hva := hva.ext hE
      replace hvb := hvb.ext hE
      clear hE hcd
      have hcd := code_err ea a _ _ _ (hK.ext hb).sent hvb
      rw [hCa] at hcd
      go_wp2_with fail
      refine hcd.mono ?_
      rintro e w9 ⟨rfl, hE⟩
      replace hb := bel_call hb hE
      replace kP := kP.ext hE
      replace herr := herr.ext hE
      replace hxb := hxb.ext hE
      replace hva := hva.ext hE
      replace hvb := hvb.ext hE
      clear hE hcd
      obtain ⟨p0, p1, p2, p3, p4, p5, p6, p7, p8⟩ := cells9 kP
      by_cases hkk : ka = kb
      · subst hkk
        have hd3 : (ka != ka) = false := by simp
        obtain ⟨g1, g2, g3, g4⟩ := same_kind ka na nb la lb K
        have hG := Lib.hid (And.intro g1 (And.intro g2 (And.intro g3 g4)))
        have hTL : ∀ (K' : List Wr) (v : Value) (w' : World), Known w' ea → ErrOf w' K' v a → Calls Tryd.prog 13 #[v] w' fun e w2 => ∃ f, e = .returned f ∧ Fault w2 f C (tStage K') (tRule K') (tAt K') (tNames K') ∧ Below w'.heap.size w' w2 := by
          intro K' v w' h1 h2
          have := tell_err ea a K' v w' h1.sent h1.errT h2
          rw [hCa] at this
          exact this
        have HTL := Lib.hid (And.intro hTL (hK.ext hb))
        obtain ⟨Ka, hKa⟩ : ∃ Ka, wr1 (ka, nb, lb) (wr1 (ka, na, la) K) = Ka := ⟨_, rfl⟩
        obtain ⟨Kc, hKc⟩ : ∃ Kc, wr1 (ka, nb, lb) K = Kc := ⟨_, rfl⟩
        have hGa := hG.out
        rw [hKa, hKc] at hGa
        rw [hKa] at hva
        have HG := Lib.hid (And.intro hGa hKc)
        have hWE : ∀ (w' : World), ErrOf w' K (.iface T y) a → Texts w' (.slice ab lb.length cb) lb → Calls Tryd.prog 10 #[.iface T y, .agg #[.int .i64 ka, .int .i64 nb, .slice ab lb.length cb]] w' fun e w2 => ∃ v', e = .returned v' ∧ ErrOf w2 Kc v' a ∧ Below w'.heap.size w' w2 := by
          intro w' h1 h2
          rw [← hKc]
          exact wrapped_err K _ a ka nb _ lb w' h1 h2
        have HWE := Lib.hid hWE
        clear hWE
        clear g1 g2 g3 g4 hTL hG hKa hKc hGa
        go_wp2_with fail
        refine G.wp_region_stab (G := Ext) (RsT C (tStage Ka) (tRule Ka) (tAt Ka) (tStage Kc) (tRule Kc) (tAt Kc) (tNames Ka) (tNames Kc) Kc a) (by kernel_rfl) (by kernel_rfl) (RsT_mono _ _ _ _ _ _ _ _ _ _ _) (fun hex => ?_)
        iterate 9
          (refine G.wpS_one (A := ?_) hex rfl rfl (by simp) ?_ ?_ ?_
           rotate_left 2
           · intro w' hC K hK
             obtain ⟨p0, p1, p2, p3, p4, p5, p6, p7, p8⟩ := cells9 (kP.ext hC.1)
             go_wp2_with (fail)
             refine hK _ ?_
             first | exact Below.refl _ _ | assumption | ((repeat' (first | (with_reducible exact Below.refl _ _) | (with_reducible assumption) | (with_reducible refine below_drewN ?_ _) | (with_reducible refine Below.alloc ?_ ?_ _) | (with_reducible refine Below.drew ?_) | (with_reducible refine Below.setCell ?_ ?_ _) | (with_reducible refine Below.trans ?_ (Below.mono (by with_reducible assumption) ?_)) | go_size)))
           rotate_left 1
           · rfl
           clear hex; intro hex)
        refine G.wpS_rel (fun v w => Fault w v C (tStage Ka) (tRule Ka) (tAt Ka) (tNames Ka)) rfl rfl (by simp) (by first | rfl | (simp [Region.wanted, yielded]; done)) ?_ ?_
        · intro w' hC K hK
          simp only [Act.put, List.setIfInBounds_toArray, List.set_cons_succ, List.set_cons_zero] at hK
          go_wp2_with (refine (HTL.out.1 Ka _ _ (HTL.out.2.ext hC.1) (hva.ext hC.1)).mono ?_; rintro e w2 ⟨f', rfl, h1, hE1⟩)
          refine hK _ _ ?_ ?_
          · first | exact Below.refl _ _ | assumption | ((repeat' (first | (with_reducible exact Below.refl _ _) | (with_reducible assumption) | (with_reducible refine below_drewN ?_ _) | (with_reducible refine Below.alloc ?_ ?_ _) | (with_reducible refine Below.drew ?_) | (with_reducible refine Below.setCell ?_ ?_ _) | (with_reducible refine Below.trans ?_ (Below.mono (by with_reducible assumption) ?_)) | go_size)))
          · exact h1
        clear hex
        intro f9 w' hex hf9
        replace hex := Exists.intro w' hex
        simp only [Act.put, List.setIfInBounds_toArray, List.set_cons_succ, List.set_cons_zero]
        iterate 3
          (refine G.wpS_one (A := ?_) hex rfl rfl (by simp) ?_ ?_ ?_
           rotate_left 2
           · intro w' hC K hK
             obtain ⟨p0, p1, p2, p3, p4, p5, p6, p7, p8⟩ := cells9 (kP.ext hC.1)
             go_wp2_with (fail)
             refine hK _ ?_
             first | exact Below.refl _ _ | assumption | ((repeat' (first | (with_reducible exact Below.refl _ _) | (with_reducible assumption) | (with_reducible refine below_drewN ?_ _) | (with_reducible refine Below.alloc ?_ ?_ _) | (with_reducible refine Below.drew ?_) | (with_reducible refine Below.setCell ?_ ?_ _) | (with_reducible refine Below.trans ?_ (Below.mono (by with_reducible assumption) ?_)) | go_size)))
           rotate_left 1
           · rfl
           clear hex; intro hex)
        refine G.wpS_rel (fun v w => ErrOf w Kc v a) rfl rfl (by simp) (by first | rfl | (simp [Region.wanted, yielded]; done)) ?_ ?_
        · intro w' hC K hK
          simp only [Act.put, List.setIfInBounds_toArray, List.set_cons_succ, List.set_cons_zero] at hK
          go_wp2_with (refine (HWE.out _ (herr.ext hC.1) (hxb.ext hC.1)).mono ?_; rintro e w2 ⟨v', rfl, h1, hE1⟩)
          refine hK _ _ ?_ ?_
          · first | exact Below.refl _ _ | assumption | ((repeat' (first | (with_reducible exact Below.refl _ _) | (with_reducible assumption) | (with_reducible refine below_drewN ?_ _) | (with_reducible refine Below.alloc ?_ ?_ _) | (with_reducible refine Below.drew ?_) | (with_reducible refine Below.setCell ?_ ?_ _) | (with_reducible refine Below.trans ?_ (Below.mono (by with_reducible assumption) ?_)) | go_size)))
          · exact h1
        clear hex
        intro v13 w' hex hv13
        replace hex := Exists.intro w' hex
        simp only [Act.put, List.setIfInBounds_toArray, List.set_cons_succ, List.set_cons_zero]
        refine G.wpS_rel (fun v w => Fault w v C (tStage Kc) (tRule Kc) (tAt Kc) (tNames Kc)) rfl rfl (by simp) (by first | rfl | (simp [Region.wanted, yielded]; done)) ?_ ?_
        · intro w' hC K hK
          simp only [Act.put, List.setIfInBounds_toArray, List.set_cons_succ, List.set_cons_zero] at hK
          go_wp2_with (refine (HTL.out.1 Kc _ _ (HTL.out.2.ext hC.1) ((hC.2 13 (by simp [Region.binds])).1 rfl)).mono ?_; rintro e w2 ⟨f', rfl, h1, hE1⟩)
          refine hK _ _ ?_ ?_
          · first | exact Below.refl _ _ | assumption | ((repeat' (first | (with_reducible exact Below.refl _ _) | (with_reducible assumption) | (with_reducible refine below_drewN ?_ _) | (with_reducible refine Below.alloc ?_ ?_ _) | (with_reducible refine Below.drew ?_) | (with_reducible refine Below.setCell ?_ ?_ _) | (with_reducible refine Below.trans ?_ (Below.mono (by with_reducible assumption) ?_)) | go_size)))
          · exact h1
        clear hex
        intro f14 w' hex hf14
        replace hex := Exists.intro w' hex
        simp only [Act.put, List.setIfInBounds_toArray, List.set_cons_succ, List.set_cons_zero]
        refine G.wpS_one (A := ?_) hex rfl rfl (by simp) ?_ ?_ ?_
        rotate_left 2
        · intro w' hC K hK
          go_wp2_with (refine (eqfault_any _ _ _ _ _ _ _ _ _ _ _ _ _ ((hC.2 9 (by simp [Region.binds])).2.2.1 rfl) ((hC.2 14 (by simp [Region.binds])).1 rfl) true (by simp [HG.out.1])).mono ?_; rintro e w2 ⟨rfl, hE1⟩)
          refine hK _ ?_
          first | exact Below.refl _ _ | assumption | ((repeat' (first | (with_reducible exact Below.refl _ _) | (with_reducible assumption) | (with_reducible refine below_drewN ?_ _) | (with_reducible refine Below.alloc ?_ ?_ _) | (with_reducible refine Below.drew ?_) | (with_reducible refine Below.setCell ?_ ?_ _) | (with_reducible refine Below.trans ?_ (Below.mono (by with_reducible assumption) ?_)) | go_size)))
        rotate_left 1
        · rfl
        clear hex; intro hex
        iterate 2
          (refine G.wpS_one (A := ?_) hex rfl rfl (by simp) ?_ ?_ ?_
           rotate_left 2
           · intro w' hC K hK
             go_wp2_with (fail)
             refine hK _ ?_
             first | exact Below.refl _ _ | assumption | ((repeat' (first | (with_reducible exact Below.refl _ _) | (with_reducible assumption) | (with_reducible refine below_drewN ?_ _) | (with_reducible refine Below.alloc ?_ ?_ _) | (with_reducible refine Below.drew ?_) | (with_reducible refine Below.setCell ?_ ?_ _) | (with_reducible refine Below.trans ?_ (Below.mono (by with_reducible assumption) ?_)) | go_size)))
           rotate_left 1
           · rfl
           clear hex; intro hex)
        refine G.wpS_nil fun w13 hAll => ?_
        have hE := hAll.1
        replace hb := bel_call hb hE
        clear hE hAll hex
        have hwk := wakes_any ea _ (hK.ext hb)
        go_wp2_with fail
        refine hwk.mono ?_
        rintro e w9 ⟨rfl, hE⟩
        go_wp2
        go_ret
        exact ⟨rfl, bel_call hb hE⟩
      · have hd1 : (ka == kb) = false := by simpa using hkk
        have hd2 : decide (ka = kb) = false := by simpa using hkk
        have hd3 : (ka != kb) = true := by simpa using hkk
        obtain ⟨g1, g2, g3, g4⟩ := same_apart (ka, na, la) (kb, nb, lb) K hkk
        have hG := Lib.hid (And.intro g1 (And.intro g2 (And.intro g3 g4)))
        clear hkk g1 g2 g3 g4
        have htl := tell_err ea a _ _ _ (hK.ext hb).sent (hK.ext hb).errT hva
        rw [hCa] at htl
        go_wp2_with fail
        refine htl.mono ?_
        rintro e w10 ⟨f10, rfl, hf10, hE⟩
        replace hb := bel_call hb hE
        replace kP := kP.ext hE
        replace hvb := hvb.ext hE
        skip
        clear hE htl p0 p1 p2 p3 p4 p5 p6 p7 p8
        obtain ⟨p0, p1, p2, p3, p4, p5, p6, p7, p8⟩ := cells9 kP
        have htl := tell_err ea a _ _ _ (hK.ext hb).sent (hK.ext hb).errT hvb
        rw [hCa] at htl
        go_wp2_with fail
        refine htl.mono ?_
        rintro e w11 ⟨f11, rfl, hf11, hE⟩
        replace hb := bel_call hb hE
        replace kP := kP.ext hE
        replace hvb := hvb.ext hE
        replace hf10 := hf10.ext hE
        clear hE htl p0 p1 p2 p3 p4 p5 p6 p7 p8
        obtain ⟨p0, p1, p2, p3, p4, p5, p6, p7, p8⟩ := cells9 kP
        rw [hG.out.1, hG.out.2.1, hG.out.2.2.1, hG.out.2.2.2] at hf10
        have hqf := eqfault_any f10 f11 _ _ _ _ _ _ _ _ _ _ w11 hf10 hf11 true (by simp)
        go_wp2_with fail
        refine hqf.mono ?_
        rintro e w12 ⟨rfl, hE⟩
        replace hb := bel_call hb hE
        replace kP := kP.ext hE
        clear hE hqf hf10 hf11 p0 p1 p2 p3 p4 p5 p6 p7 p8
        go_wp2_with fail
        refine G.wp_region_stab (G := Ext) (fun _ => none) (by kernel_rfl) (by kernel_rfl) (fun _ _ h => by cases h) (fun hex => ?_)
        iterate 18
          (refine G.wpS_one (A := ?_) hex rfl rfl (by simp) ?_ ?_ ?_
           rotate_left 2
           · intro w' hC K hK
             obtain ⟨p0, p1, p2, p3, p4, p5, p6, p7, p8⟩ := cells9 (kP.ext hC.1)
             go_wp2_with (fail)
             refine hK _ ?_
             first | exact Below.refl _ _ | assumption | ((repeat' (first | (with_reducible exact Below.refl _ _) | (with_reducible assumption) | (with_reducible refine below_drewN ?_ _) | (with_reducible refine Below.alloc ?_ ?_ _) | (with_reducible refine Below.drew ?_) | (with_reducible refine Below.setCell ?_ ?_ _) | (with_reducible refine Below.trans ?_ (Below.mono (by with_reducible assumption) ?_)) | go_size)))
           rotate_left 1
           · rfl
           clear hex; intro hex)
        refine G.wpS_nil fun w13 hAll => ?_
        have hE := hAll.1
        replace hb := bel_call hb hE
        clear hE hAll hex
        have hwk := wakes_any ea _ (hK.ext hb)
        go_wp2_with fail
        refine hwk.mono ?_
        rintro e w9 ⟨rfl, hE⟩
        go_wp2
        go_ret
        exact ⟨rfl, bel_call hb hE⟩
end Go.Proofs.YtoagkgdjekbcmaaDoor
