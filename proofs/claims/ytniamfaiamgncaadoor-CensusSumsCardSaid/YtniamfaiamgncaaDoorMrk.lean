/- minimise's parting: cut. -/
import Derived.Test.YtniamfaiamgncaaDoorPtr
import Derived.BigQuiet
import Derived.Deep.QuietTactic
import Derived.BigRegion
import Derived.Test.YtniamfaiamgncaaDoorChm
import Derived.Deep.Upon
namespace Go.Proofs.YtniamfaiamgncaaDoor
open Go Go.RowKit
theorem st_len {n : Nat} {p : Pt} (h : p.Ok n) {s : Nat} (hs : s < n) : 0 < p.st.length ∧ p.st.length = n := ⟨by have := h.ls; omega, h.ls⟩
theorem sp_pos {k : Nat} {p : Pt} (hk : k < p.sp.length) : 0 < p.sp.length := by omega
set_option maxHeartbeats 1000000 in
set_option maxRecDepth 20000 in
theorem members0_any {b B n k : Nat} {v1 v2 v3 v4 vl vm : Value} {F : List Value} {p : Pt} {w : World} (hb : Blk w b (rfb v1 v2 v3 v4 vl vm F) 173) (hp : PtW w B v1 v2 v3 v4 p) (hls : p.st.length = n) (hn6 : n ≤ 600) (hk : k < p.sp.length) (hBE : p.B k < p.E k) (hEn : p.E k ≤ n) :
    Calls Tryd.prog 143 #[.pointer (some ⟨b, 0, none⟩), .int .i64 (k : Int)] w fun e w' => ∃ g1 c1, v1 = .slice (some ⟨g1, 0, none⟩) n c1 ∧ e = .returned (.slice (some ⟨g1, p.B k, none⟩) (p.E k - p.B k) (c1 - p.B k)) ∧ n ≤ c1 ∧ c1 ≤ maxLen ∧ Ext w w' := by
  have hn0 : 0 < n := by omega
  obtain ⟨g1, c1, e1, hc1, hg1, hg1', hm1⟩ := own_some (show w.ownsRow B 3 1 v1 n _ from by have := hp.o1; rw [hls] at this; exact this) hn0
  obtain ⟨g4, c4, e4, hc4, hg4, hg4', hm4⟩ := own_some hp.o4 (sp_pos hk)
  subst e1 e4
  obtain ⟨q0, _, _, q3, _, _⟩ := rfb_cells hb
  have hcl : ∀ j, j < p.sp.length * 3 → w.cell? ⟨g4, j, none⟩ = (p.sp.flatMap sp3)[j]? := fun j hj => hp.o4.cellAt j hj
  obtain ⟨s0, s1, s2⟩ := sp_get p.sp k hk
  have t0 : w.cell? ⟨g4, k * 3, none⟩ = some (.int .i64 (p.B k : Int)) := (hcl _ (by omega)).trans s0
  have t1 : w.cell? ⟨g4, k * 3 + 1, none⟩ = some (.int .i64 (p.M k : Int)) := (hcl _ (by omega)).trans s1
  have t2 : w.cell? ⟨g4, k * 3 + 2, none⟩ = some (.int .i64 (p.E k : Int)) := (hcl _ (by omega)).trans s2
  have hbl := hb.lt
  have HM1 := Lib.hid hm1
  unfold maxLen at hm1
  obtain ⟨x, hx⟩ : ∃ x, p.B k = x := ⟨_, rfl⟩
  obtain ⟨y, hy⟩ : ∃ y, p.M k = y := ⟨_, rfl⟩
  obtain ⟨z, hz⟩ : ∃ z, p.E k = z := ⟨_, rfl⟩
  obtain ⟨m, hm⟩ : ∃ m, p.sp.length = m := ⟨_, rfl⟩
  simp only [hx, hy, hz, hm] at t0 t1 t2 hBE hEn hk ⊢
  rw [hm] at q3
  clear hx hy hz hm hb hp hls hcl s0 s1 s2
  go_enter Tryd.func143, Tryd.ntmps143
  go_wp2_with fail
  go_quiet (fail)
  go_wp2_with fail
  go_ret
  exact ⟨g1, c1, rfl, rfl, hc1, HM1.out, bel_call (by go_grown) (drn_ext _ _)⟩
theorem ret_nat {a b : Nat} (h : a = b) : Ending.returned (.int .i64 (a : Int)) = .returned (.int .i64 (b : Int)) := by rw [h]
theorem members_any {b B n k : Nat} {v1 v2 v3 v4 vl vm : Value} {F : List Value} {p : Pt} {w : World} (h : PtR w b B n v1 v2 v3 v4 vl vm F p) (hk : k < p.sp.length) :
    Calls Tryd.prog 143 #[.pointer (some ⟨b, 0, none⟩), .int .i64 (k : Int)] w fun e w' => ∃ g1 c1, v1 = .slice (some ⟨g1, 0, none⟩) n c1 ∧ e = .returned (.slice (some ⟨g1, p.B k, none⟩) (p.E k - p.B k) (c1 - p.B k)) ∧ n ≤ c1 ∧ c1 ≤ maxLen ∧ Ext w w' :=
  members0_any h.blk h.pt h.ok.ls h.few hk (h.ok.kc k hk).1 (h.ok.kc k hk).2.1
/-- The smaller one. -/
theorem sml_eq {n : Nat} {p : Pt} (h : p.Ok n) {k made : Nat} (hk : k < p.sp.length) (hm : made < p.sp.length) : p.sml k made = if p.E made - p.B made < p.E k - p.B k then made else k := by
  unfold Pt.sml
  rw [Pt.mem_length h hk, Pt.mem_length h hm]
set_option maxHeartbeats 1000000 in
set_option maxRecDepth 20000 in
theorem smaller_any {b B n k made : Nat} {v1 v2 v3 v4 vl vm : Value} {F : List Value} {p : Pt} {w : World} (h : PtR w b B n v1 v2 v3 v4 vl vm F p) (hk : k < p.sp.length) (hm : made < p.sp.length) :
    Calls Tryd.prog 142 #[.pointer (some ⟨b, 0, none⟩), .int .i64 (k : Int), .int .i64 (made : Int)] w fun e w' => e = .returned (.int .i64 ((p.sml k made : Nat) : Int)) ∧ Ext w w' := by
  have H := Lib.hid h
  have HK := Lib.hid hk
  have HM := Lib.hid hm
  have HS := Lib.hid (sml_eq h.ok hk hm)
  have a1 := h.ok.kc k hk
  have a2 := h.ok.kc made hm
  have n6 := h.few
  have l1 : p.E k - p.B k ≤ 600 := by omega
  have l2 : p.E made - p.B made ≤ 600 := by omega
  clear h hk hm a1 a2 n6
  go_enter Tryd.func142, Tryd.ntmps142
  go_wp2_with fail
  refine (members_any H.out HM.out).mono ?_
  rintro e w1 ⟨g1, c1, rfl, rfl, hc1, hm1, x1⟩
  have X1 := Lib.hid x1
  have C1 := Lib.hid hc1
  have D1 := Lib.hid hm1
  clear hc1 hm1 x1
  go_wp2_with fail
  refine (members_any (H.out.ext X1.out) HK.out).mono ?_
  rintro e w2 ⟨g2, c2, e2, rfl, hc2, hm2, x2⟩
  have X2 := Lib.hid x2
  clear hc2 hm2 x2 e2
  by_cases q : p.E made - p.B made < p.E k - p.B k
  · have t1 : decide (p.E made - p.B made < p.E k - p.B k) = true := by simpa using q
    have HS2 := Lib.hid (HS.out.trans (if_pos q))
    clear q
    go_wp2_with fail
    go_ret
    exact ⟨ret_nat HS2.out.symm, bel_call X1.out X2.out⟩
  · have t1 : decide (p.E made - p.B made < p.E k - p.B k) = false := by simpa using q
    have HS2 := Lib.hid (HS.out.trans (if_neg q))
    clear q
    go_wp2_with fail
    go_ret
    exact ⟨ret_nat HS2.out.symm, bel_call X1.out X2.out⟩
end Go.Proofs.YtniamfaiamgncaaDoor
namespace Go.Proofs.YtniamfaiamgncaaDoor
open Go Go.RowKit
theorem nat_cell {w : World} {B g n c : Nat} {L : List Nat} (h : w.ownsRow B 3 1 (.slice (some ⟨g, 0, none⟩) n c) n (L.map nv)) {i : Nat} (hi : i < n) (hl : L.length = n) : w.cell? ⟨g, i, none⟩ = some (.int .i64 ((L.getD i 0 : Nat) : Int)) := by
  rw [h.cellAt i (by omega), List.getElem?_map, List.getElem?_eq_getElem (by omega), getD_get (by omega)]
  rfl
theorem nat_store {w : World} {B g n c : Nat} {L : List Nat} (h : w.ownsRow B 3 1 (.slice (some ⟨g, 0, none⟩) n c) n (L.map nv)) (i x : Nat) : (w.setCell ⟨g, i, none⟩ (.int .i64 (x : Int))).ownsRow B 3 1 (.slice (some ⟨g, 0, none⟩) n c) n ((L.set i x).map nv) := by
  have := (h.stored i (.int .i64 (x : Int))).1
  rw [List.map_set]; exact this
theorem cell_set_some {w : World} {p q : Addr} {x v : Value} (h : w.cell? q = some v) : ∃ v', (w.setCell p x).cell? q = some v' := by
  by_cases e : p = q
  · subst e; exact ⟨x, World.cell?_setCell_same w p x h⟩
  · exact ⟨v, (World.cell?_setCell_other w p q x e).trans h⟩
set_option maxHeartbeats 2000000 in
set_option maxRecDepth 20000 in
theorem swap_any {b B n i j : Nat} {v1 v2 v3 v4 vl vm : Value} {F : List Value} {p : Pt} {w : World} (h : PtR w b B n v1 v2 v3 v4 vl vm F p) (hi : i < n) (hj : j < n) :
    Calls Tryd.prog 166 #[.pointer (some ⟨b, 0, none⟩), .int .i64 (i : Int), .int .i64 (j : Int)] w fun e w' => e = .returned (.tuple #[]) ∧ PtW w' B v1 v2 v3 v4 (p.swap i j) ∧ Fr (fun k => v1.ownBlock = some k ∨ v2.ownBlock = some k) w w' := by
  have hn0 : 0 < n := by omega
  have o1 : w.ownsRow B 3 1 v1 n (p.st.map nv) := by have := h.pt.o1; rw [h.ok.ls] at this; exact this
  have o2 : w.ownsRow B 3 1 v2 n (p.ar.map nv) := by have := h.pt.o2; rw [h.ok.la] at this; exact this
  obtain ⟨g1, c1, rfl, hc1, hg1, hg1', hm1⟩ := own_some o1 hn0
  obtain ⟨g2, c2, rfl, hc2, hg2, hg2', hm2⟩ := own_some o2 hn0
  have H := Lib.hid h
  have O1 := Lib.hid o1
  have O2 := Lib.hid o2
  obtain ⟨q0, q1, _, _, _, _⟩ := rfb_cells h.blk
  have b1 : g1 ≠ b := fun e => own_ne_blk o1 h.blk (by decide) (by rw [e]; rfl)
  have b2 : g2 ≠ b := fun e => own_ne_blk o2 h.blk (by decide) (by rw [e]; rfl)
  have b12 : g1 ≠ g2 := fun e => h.pt.d12 g1 rfl (by rw [e]; rfl)
  have s1 := nat_cell o1 hi h.ok.ls
  have s2 := nat_cell o1 hj h.ok.ls
  have f1 := o1.frozenAt i
  have f2 := o1.frozenAt j
  have a1 := (h.ok.as_ i hi).1
  have a2 := (h.ok.as_ j hj).1
  have hn6 := h.few
  obtain ⟨x, hx⟩ : ∃ x, p.S i = x := ⟨_, rfl⟩
  obtain ⟨y, hy⟩ : ∃ y, p.S j = y := ⟨_, rfl⟩
  rw [show p.st.getD i 0 = x from hx] at s1
  rw [show p.st.getD j 0 = y from hy] at s2
  rw [hx] at a1
  rw [hy] at a2
  have f3 := o2.frozenAt x
  have f4 := o2.frozenAt y
  have HX := Lib.hid hx
  have HY := Lib.hid hy
  have t3 := nat_cell o2 a1 h.ok.la
  have t4 := nat_cell o2 a2 h.ok.la
  have hbl := h.blk.lt
  clear hx hy h o1 o2 hm1 hm2
  go_enter Tryd.func166, Tryd.ntmps166
  go_wp2_with fail
  go_quiet (fail)
  have E2 := Lib.hid (drn_ext w nq)
  generalize w.drewN nq = w2 at *
  have H2 := Lib.hid (H.out.ext E2.out)
  have P1 := Lib.hid (own_xt O1.out E2.out)
  have P2 := Lib.hid (own_xt O2.out E2.out)
  clear q0 q1 s1 s2 f1 f2 f3 f4 t3 t4 hbl
  obtain ⟨q0, q1, _, _, _, _⟩ := rfb_cells H2.out.blk
  have s1 := nat_cell P1.out hi H.out.ok.ls
  have s2 := nat_cell P1.out hj H.out.ok.ls
  have f1 := P1.out.frozenAt i
  have f2 := P1.out.frozenAt j
  obtain ⟨v', s3⟩ := cell_set_some (w := w2) (p := ⟨g1, i, none⟩) (x := .int .i64 (y : Int)) s2
  go_wp2_with fail
  go_region
  have P3 := Lib.hid (show ((w2.setCell ⟨g1, i, none⟩ (.int .i64 (y : Int))).setCell ⟨g1, j, none⟩ (.int .i64 (x : Int))).drew.ownsRow B 3 1 _ n _ from nat_store (nat_store P1.out i y) j x)
  have P4 := Lib.hid (show ((w2.setCell ⟨g1, i, none⟩ (.int .i64 (y : Int))).setCell ⟨g1, j, none⟩ (.int .i64 (x : Int))).drew.ownsRow B 3 1 _ n _ from own_set (own_set P2.out (fun q => b12 (Option.some.inj q).symm)) (fun q => b12 (Option.some.inj q).symm))
  have BK := Lib.hid (show Blk ((w2.setCell ⟨g1, i, none⟩ (.int .i64 (y : Int))).setCell ⟨g1, j, none⟩ (.int .i64 (x : Int))).drew b _ _ from (H2.out.blk.set_other (a := ⟨g1, i, none⟩) b1 _).set_other (a := ⟨g1, j, none⟩) b1 _)
  have X3 := Lib.hid (show Fr (fun k => k = g1 ∨ k = g2) w ((w2.setCell ⟨g1, i, none⟩ (.int .i64 (y : Int))).setCell ⟨g1, j, none⟩ (.int .i64 (x : Int))).drew from ((Fr.of_ext E2.out).set (.inl (.inl rfl)) _).set (.inl (.inl rfl)) _)
  go_wp2_with fail
  generalize ((w2.setCell ⟨g1, i, none⟩ (.int .i64 (y : Int))).setCell ⟨g1, j, none⟩ (.int .i64 (x : Int))).drew = w3 at *
  clear s1 s2 s3 f1 f2 q0 q1 H2 P1 P2 E2
  obtain ⟨_, q1, _, _, _, _⟩ := rfb_cells BK.out
  have t3 := nat_cell P4.out a1 H.out.ok.la
  have t4 := nat_cell P4.out a2 H.out.ok.la
  have f3 := P4.out.frozenAt x
  have f4 := P4.out.frozenAt y
  obtain ⟨v', s3⟩ := cell_set_some (w := w3) (p := ⟨g2, x, none⟩) (x := .int .i64 (j : Int)) t4
  go_region
  go_wp2_with fail
  go_end0
  have R1 := (X3.out.set (b := g2) (i := x) (.inl (.inr rfl)) (.int .i64 (j : Int))).set (b := g2) (i := y) (.inl (.inr rfl)) (.int .i64 (i : Int))
  have hs : ∀ {v : Value}, v.ownBlock ≠ some g1 → v.ownBlock ≠ some g2 → ∀ k, v.ownBlock = some k → ¬ (k = g1 ∨ k = g2) := fun n1 n2 k hk q => by
    rcases q with q | q
    · exact n1 (hk.trans (by rw [q]))
    · exact n2 (hk.trans (by rw [q]))
  refine ⟨rfl, ⟨?_, ?_, ?_, ?_, H.out.pt.d12, H.out.pt.d13, H.out.pt.d23⟩, ?_⟩
  · have := own_set (i := y) (u := .int .i64 (i : Int)) (own_set (i := x) (u := .int .i64 (j : Int)) P3.out (fun q => b12 (Option.some.inj q))) (fun q => b12 (Option.some.inj q))
    simp [Pt.swap, H.out.ok.ls, HX.out, HY.out] at this ⊢
    exact this
  · have := nat_store (nat_store P4.out x j) y i
    simp [Pt.swap, H.out.ok.la, HX.out, HY.out] at this ⊢
    exact this
  · exact R1.own H.out.pt.o3 (hs (fun q => H.out.pt.d13 g1 rfl q) (fun q => H.out.pt.d23 g2 rfl q))
  · exact R1.own H.out.pt.o4 (hs (own_ne_own H.out.pt.o4 H.out.pt.o1 (by decide) g1 rfl) (own_ne_own H.out.pt.o4 H.out.pt.o2 (by decide) g2 rfl))
  · exact R1.mono fun k _ q => by
      rcases q with rfl | rfl
      · exact .inl rfl
      · exact .inr rfl
end Go.Proofs.YtniamfaiamgncaaDoor
namespace Go.Proofs.YtniamfaiamgncaaDoor
open Go Go.RowKit
theorem own_len3 {w : World} {b B n : Nat} {v1 v2 v3 v4 vl vm : Value} {F : List Value} {p : Pt} (h : PtR w b B n v1 v2 v3 v4 vl vm F p) : w.ownsRow B 3 1 v3 n (p.cl.map nv) := by have := h.pt.o3; rw [h.ok.lc] at this; exact this
theorem own_len2 {w : World} {b B n : Nat} {v1 v2 v3 v4 vl vm : Value} {F : List Value} {p : Pt} (h : PtR w b B n v1 v2 v3 v4 vl vm F p) : w.ownsRow B 3 1 v2 n (p.ar.map nv) := by have := h.pt.o2; rw [h.ok.la] at this; exact this
theorem marks_snoc (s : Nat) : ∀ (l : List Nat) (p : Pt), p.marks (l ++ [s]) = ((p.marks l).1.mark1 s, (p.marks l).2 ++ (p.marks l).1.tch s)
  | [], p => by simp [Pt.marks]
  | x :: l, p => by
    rw [List.cons_append, Pt.marks, marks_snoc s l, Pt.marks]
    simp
theorem marks_take {X : List Nat} {k : Nat} (h : k < X.length) (p : Pt) : p.marks (X.take (k + 1)) = ((p.marks (X.take k)).1.mark1 X[k], (p.marks (X.take k)).2 ++ (p.marks (X.take k)).1.tch X[k]) := by
  rw [List.take_succ_eq_append_getElem h, marks_snoc]
/-- The span of a class, where it lies. -/
theorem sp_cells {w : World} {B g m c : Nat} {sp : List (Nat × Nat × Nat)} (h : w.ownsRow B 242 3 (.slice (some ⟨g, 0, none⟩) m c) m (sp.flatMap sp3)) (hm : m = sp.length) {k : Nat} (hk : k < sp.length) :
    w.cell? ⟨g, k * 3, none⟩ = some (.int .i64 ((sp.getD k (0, 0, 0)).1 : Nat)) ∧ w.cell? ⟨g, k * 3 + 1, none⟩ = some (.int .i64 ((sp.getD k (0, 0, 0)).2.1 : Nat)) ∧ w.cell? ⟨g, k * 3 + 2, none⟩ = some (.int .i64 ((sp.getD k (0, 0, 0)).2.2 : Nat)) := by
  obtain ⟨s0, s1, s2⟩ := sp_get sp k hk
  exact ⟨(h.cellAt _ (by omega)).trans s0, (h.cellAt _ (by omega)).trans s1, (h.cellAt _ (by omega)).trans s2⟩
/-- What may be said of the marks so far. -/
theorem marks_so {n : Nat} {p : Pt} {X : List Nat} (h : p.Ok n) (hc : p.Clean) (hl : ∀ s ∈ X, s < n) (hn : X.Nodup) {k : Nat} (hk : k < X.length) :
    (p.marks (X.take k)).1.Ok n ∧ (p.marks (X.take (k + 1))).1.Ok n ∧ X[k] < n ∧ (p.marks (X.take k)).1.C X[k] < (p.marks (X.take k)).1.sp.length ∧ (p.marks (X.take k)).1.M ((p.marks (X.take k)).1.C X[k]) < n ∧ (p.marks (X.take k)).1.A X[k] < n ∧ (p.marks (X.take (k + 1))).2.length ≤ n := by
  have hM0 : p.Mk n (fun _ => False) := fun s hs => ⟨fun q => q.elim, fun q => by
    have := h.ck s hs
    have := hc _ this.1
    omega⟩
  have hsub : ∀ m, ∀ s ∈ X.take m, s < n ∧ ¬ False := fun m s hs => ⟨hl s (List.mem_of_mem_take hs), fun q => q⟩
  have m1 := Pt.marks_ok (X.take k) p (fun _ => False) h hM0 (hsub k) (hn.sublist (List.take_sublist _ _))
  have m2 := Pt.marks_ok (X.take (k + 1)) p (fun _ => False) h hM0 (hsub (k + 1)) (hn.sublist (List.take_sublist _ _))
  have hs := hl X[k] (List.getElem_mem hk)
  have c1 := m1.1.ck _ hs
  have k1 := m1.1.kc _ c1.1
  have hnot : X[k] ∉ X.take k := by
    intro q
    obtain ⟨j, hj, e⟩ := List.getElem_of_mem q
    simp only [List.length_take] at hj
    rw [List.getElem_take] at e
    exact List.pairwise_iff_getElem.1 hn j k (by omega) hk (by omega) e
  have hM : (p.marks (X.take k)).1.M ((p.marks (X.take k)).1.C X[k]) ≤ (p.marks (X.take k)).1.A X[k] := by
    have := m1.2.1 _ hs
    rcases Nat.lt_or_ge ((p.marks (X.take k)).1.A X[k]) ((p.marks (X.take k)).1.M ((p.marks (X.take k)).1.C X[k])) with q | q
    · exact absurd (this.2 q) (by simp [hnot])
    · exact q
  refine ⟨m1.1, m2.1, hs, c1.1, by omega, (m1.1.sa _ hs).1, ?_⟩
  refine Nat.le_trans (nodup_lt p.sp.length _ m2.2.2.2.1 (fun x hx => ((m2.2.2.2.2 x).1 hx).1)) (Pt.few h)
set_option maxHeartbeats 8000000 in
set_option maxRecDepth 20000 in
theorem mark_any {b B n : Nat} {v1 v2 v3 v4 vl vm v : Value} {F : List Value} {p : Pt} {w : World} {X : List Nat} {Q : Nat → Prop} (h : PtR w b B n v1 v2 v3 v4 vl vm F p) (hc : p.Clean) (hX : Nats Q w v X) (hQ : ∀ k, k < w.heap.size → Q k → ¬ Sp v1 v2 v3 v4 b k) (hl : ∀ s ∈ X, s < n) (hn : X.Nodup) (h0 : 0 < n) (hs0 : 0 < p.sp.length) :
    Calls Tryd.prog 139 #[.pointer (some ⟨b, 0, none⟩), v] w fun e w' => ∃ v', e = .returned v' ∧ w'.ownsRow w.heap.size 3 1 v' (p.marks X).2.length ((p.marks X).2.map nv) ∧ PtR w' b B n v1 v2 v3 v4 vl vm F (p.marks X).1 ∧ Fr (Sp v1 v2 v3 v4 b) w w' := by
  obtain ⟨i0, hi, hz0, hz1, hz2⟩ := info_parts info_int
  obtain ⟨a, cap, rfl⟩ := hX.shape
  have hXn : X.length ≤ n := nodup_lt n X hn hl
  have hn6 := h.few
  have HX := Lib.hid hX
  have HQ := Lib.hid hQ
  have HL := Lib.hid hl
  have HN := Lib.hid hn
  have H := Lib.hid h
  have HC := Lib.hid hc
  have o1 : w.ownsRow B 3 1 v1 n (p.st.map nv) := by have := h.pt.o1; rw [h.ok.ls] at this; exact this
  have o2 : w.ownsRow B 3 1 v2 n (p.ar.map nv) := by have := h.pt.o2; rw [h.ok.la] at this; exact this
  have o3 : w.ownsRow B 3 1 v3 n (p.cl.map nv) := by have := h.pt.o3; rw [h.ok.lc] at this; exact this
  obtain ⟨g1, c1, rfl, hc1, hg1, hg1', hm1⟩ := own_some o1 h0
  obtain ⟨g2, c2, rfl, hc2, hg2, hg2', hm2⟩ := own_some o2 h0
  obtain ⟨g3, c3, rfl, hc3, hg3, hg3', hm3⟩ := own_some o3 h0
  obtain ⟨g4, c4, rfl, hc4, hg4, hg4', hm4⟩ := own_some h.pt.o4 hs0
  have HD := Lib.hid (And.intro (own_ne_blk h.pt.o4 h.blk (by decide)) (And.intro (own_ne_own h.pt.o1 h.pt.o4 (by decide) g4 rfl) (And.intro (own_ne_own h.pt.o2 h.pt.o4 (by decide) g4 rfl) (own_ne_own h.pt.o3 h.pt.o4 (by decide) g4 rfl))))
  have hbl := h.blk.lt
  obtain ⟨m0, hm0⟩ : ∃ m0, p.sp.length = m0 := ⟨_, rfl⟩
  have HM0 := Lib.hid hm0
  rw [hm0] at H HD HQ hc4 hs0
  simp only [hm0]
  clear hm0
  clear hX hQ hl hn h hc o1 o2 o3 hm1 hm2 hm3 hm4
  go_enter Tryd.func139, Tryd.ntmps139
  go_wp2_with fail
  go_loopw [5, 11] (fun t i wr => ∃ k : Nat, k ≤ X.length ∧ i = .int .i64 k ∧ Hid (wr.ownsRow w.heap.size 3 1 t (p.marks (X.take k)).2.length ((p.marks (X.take k)).2.map nv)) ∧
    Hid (PtR wr b B n (.slice (some ⟨g1, 0, none⟩) n c1) (.slice (some ⟨g2, 0, none⟩) n c2) (.slice (some ⟨g3, 0, none⟩) n c3) (.slice (some ⟨g4, 0, none⟩) m0 c4) vl vm F (p.marks (X.take k)).1) ∧
    Hid (Fr (Sp (.slice (some ⟨g1, 0, none⟩) n c1) (.slice (some ⟨g2, 0, none⟩) n c2) (.slice (some ⟨g3, 0, none⟩) n c3) (.slice (some ⟨g4, 0, none⟩) m0 c4) b) w wr)) (fun _ i _ => X.length - (intOf i).toNat)
  case atStart => exact ⟨0, Nat.zero_le _, rfl, Lib.hid (own_nil _ _ _ _), H, Lib.hid (Fr.refl _ _)⟩
  case round =>
    obtain ⟨k, hk, rfl, hT, hP, hF⟩ := hrel
    by_cases hkl : k < X.length
    · obtain ⟨m1, m2, m3, m4, m5, m6, m7⟩ := marks_so H.out.ok HC.out HL.out HN.out hkl
      obtain ⟨x0, o, rfl, hQx, hxlt, hxc⟩ := Nats.cell (HX.out.fr hF.out HQ.out) hkl
      have MT := Lib.hid (marks_take hkl p)
      have ML := Lib.hid (Pt.marks_len (X.take k) p)
      obtain ⟨s, hs⟩ : ∃ s, X[k] = s := ⟨_, rfl⟩
      obtain ⟨q, hq⟩ : ∃ q, (p.marks (X.take k)).1 = q := ⟨_, rfl⟩
      obtain ⟨T, hTq⟩ : ∃ T, (p.marks (X.take k)).2 = T := ⟨_, rfl⟩
      rw [hs] at m3 m4 m5 m6 hxc MT
      rw [hq] at m1 m4 m5 m6 hP MT ML
      rw [hTq] at hT MT
      rw [MT.out] at m2 m7
      obtain ⟨kc, hkc⟩ : ∃ kc, q.C s = kc := ⟨_, rfl⟩
      rw [hkc] at m4 m5
      have hT600 : (T ++ q.tch s).length ≤ 600 := by have m7' : (T ++ q.tch s).length ≤ n := m7; omega
      have hTl : T.length ≤ 600 := by rw [List.length_append] at hT600; omega
      have OK2 := Lib.hid m2
      have KC := Lib.hid hkc
      have M1 := Lib.hid m1
      clear hs hq hTq m1 m2 m7 hT600 hkc
      have SL : Hid (q.sp.length = m0) := Lib.hid (ML.out.trans HM0.out)
      have m4' : kc < m0 := by rw [← SL.out]; exact m4
      obtain ⟨aa, haa⟩ : ∃ x, q.A s = x := ⟨_, rfl⟩
      obtain ⟨bb, hbb⟩ : ∃ x, q.B kc = x := ⟨_, rfl⟩
      obtain ⟨mm, hmm⟩ : ∃ x, q.M kc = x := ⟨_, rfl⟩
      have AA := Lib.hid haa
      have BB := Lib.hid hbb
      have MM := Lib.hid hmm
      rw [haa] at m6
      rw [hmm] at m5
      have b600 : bb ≤ 600 := by have := M1.out.kc kc m4; rw [hbb] at this; omega
      have k600 : m0 ≤ 600 := by have := Pt.few M1.out; rw [SL.out] at this; omega
      clear haa hbb hmm
      obtain ⟨q0, q1, q2, q3, _, _⟩ := rfb_cells (hP).out.blk
      have tc := nat_cell (own_len3 (hP).out) m3 M1.out.lc
      have ta := nat_cell (own_len2 (hP).out) m3 M1.out.la
      have o4 := (hP).out.pt.o4
      rw [SL.out] at o4
      obtain ⟨e0, e1, e2⟩ := sp_cells o4 SL.out.symm m4
      rw [show q.cl.getD s 0 = kc from KC.out] at tc
      rw [show q.ar.getD s 0 = aa from AA.out] at ta
      rw [show (q.sp.getD kc (0, 0, 0)).1 = bb from BB.out] at e0
      rw [show (q.sp.getD kc (0, 0, 0)).2.1 = mm from MM.out] at e1
      have y1 := o4.frozenAt (kc * 3 + 1)
      clear o4
      go_wp2_with fail
      go_quiet (fail)
      have E2 := Lib.hid (drn_ext wr nq)
      generalize wr.drewN nq = w2 at *
      have HP2 := Lib.hid (hP.out.ext E2.out)
      clear q0 q1 q2 q3 tc ta e0 e1 e2 y1
      obtain ⟨q0, q1, q2, q3, _, _⟩ := rfb_cells (HP2).out.blk
      have tc := nat_cell (own_len3 (HP2).out) m3 M1.out.lc
      have ta := nat_cell (own_len2 (HP2).out) m3 M1.out.la
      have o4 := (HP2).out.pt.o4
      rw [SL.out] at o4
      obtain ⟨e0, e1, e2⟩ := sp_cells o4 SL.out.symm m4
      rw [show q.cl.getD s 0 = kc from KC.out] at tc
      rw [show q.ar.getD s 0 = aa from AA.out] at ta
      rw [show (q.sp.getD kc (0, 0, 0)).1 = bb from BB.out] at e0
      rw [show (q.sp.getD kc (0, 0, 0)).2.1 = mm from MM.out] at e1
      have y1 := o4.frozenAt (kc * 3 + 1)
      clear o4
      go_wp2_with fail
      go_quiet (fail)
      have E3 := Lib.hid (bel_call E2.out (drn_ext w2 nq))
      generalize w2.drewN nq = w3 at *
      have HP3 := Lib.hid (hP.out.ext E3.out)
      clear q0 q1 q2 q3 tc ta e0 e1 e2 y1 E2 HP2
      obtain ⟨q0, q1, q2, q3, _, _⟩ := rfb_cells (HP3).out.blk
      have tc := nat_cell (own_len3 (HP3).out) m3 M1.out.lc
      have ta := nat_cell (own_len2 (HP3).out) m3 M1.out.la
      have o4 := (HP3).out.pt.o4
      rw [SL.out] at o4
      obtain ⟨e0, e1, e2⟩ := sp_cells o4 SL.out.symm m4
      rw [show q.cl.getD s 0 = kc from KC.out] at tc
      rw [show q.ar.getD s 0 = aa from AA.out] at ta
      rw [show (q.sp.getD kc (0, 0, 0)).1 = bb from BB.out] at e0
      rw [show (q.sp.getD kc (0, 0, 0)).2.1 = mm from MM.out] at e1
      have y1 := o4.frozenAt (kc * 3 + 1)
      clear o4
      have HT3 := Lib.hid (own_xt hT.out E3.out)
      have HF3 := Lib.hid (hF.out.trans (Fr.of_ext (S := fun _ => False) E3.out) (fun _ _ q => q.elim))
      clear hxc hT hF
      by_cases hmb : mm = bb
      · have tt : q.tch s = [kc] := by unfold Pt.tch; rw [KC.out, MM.out, BB.out, if_pos hmb]
        have TT := Lib.hid tt
        have d1 : (mm == bb) = true := by simpa using hmb
        have d2 : ((mm : Int) == (bb : Int)) = true := by rw [hmb]; simp
        clear hmb tt
        go_wp2_with (at_builtin; refine wpList_append_own _ rfl _ _ 23 rfl w.heap.size 3 i0 (.int .i64 0) 1 8 Tryd.underlying23 hi hz0 hz1 hz2 rfl (by decide) _ _ _ rfl (HT3.out.alloc _) ⟨_, 0, none⟩ 1 1 [nv kc] rfl rfl (cell_nwb _ [nv kc] _ _ (by simp)) (iv_one _) (by unfold maxLen; omega) (by omega) (by have := HF3.out.2.2.2.1; simp; omega) ?_; intro t4 w4 hown4 hgrow4 hnil4)
        have HT4 := Lib.hid (show w4.ownsRow w.heap.size 3 1 t4 (T ++ q.tch s).length ((T ++ q.tch s).map nv) by rw [TT.out, List.length_append, List.map_append]; exact hown4)
        have FB : Fr (fun k => w.heap.size ≤ k) w3 w4 := (Fr.of_ext (S := fun k => w.heap.size ≤ k) (show Ext w3 (w3.alloc _) by go_grown)).trans (Fr.of_grown hgrow4 (fun g hg => (HT3.out.lt g hg).1)) (fun _ _ q => q)
        have HP4 := Lib.hid (HP3.out.fr FB (fun g hg q => by have := H.out.lt g hg; omega))
        have HF4 := Lib.hid (HF3.out.trans FB (fun g hg q => absurd hg (by omega)))
        clear hown4 hgrow4 hnil4 FB q0 q1 q2 q3 tc ta e0 e1 e2 y1 d1 d2 HT3 HP3 HF3 TT E3
        refine G.wp_region_tail (G := Ext) (fun _ => none) 12 (by kernel_rfl) (by kernel_rfl) (fun _ _ h => by cases h) (fun hex => ?_)
        simp only [List.take_succ_cons, List.take_zero, List.drop_succ_cons, List.drop_zero]
        iterate 12
          (refine G.wpS_one (A := ?_) hex rfl rfl (by simp) ?_ ?_ ?_
           rotate_left 2
           · intro w' hC K hK
             obtain ⟨q0, q1, q2, q3, _, _⟩ := rfb_cells (HP4.out.ext hC.1).blk; have ta := nat_cell (own_len2 (HP4.out.ext hC.1)) m3 M1.out.la; rw [show q.ar.getD s 0 = aa from AA.out] at ta; have o4 := (HP4.out.ext hC.1).pt.o4; rw [SL.out] at o4; obtain ⟨e0, e1, e2⟩ := sp_cells o4 SL.out.symm m4; rw [show (q.sp.getD kc (0, 0, 0)).2.1 = mm from MM.out] at e1; clear o4 e0 e2
             go_wp2_with (fail)
             refine hK _ ?_
             first | exact Below.refl _ _ | assumption | ((repeat' (first | (with_reducible exact Below.refl _ _) | (with_reducible assumption) | (with_reducible refine below_drewN ?_ _) | (with_reducible refine Below.alloc ?_ ?_ _) | (with_reducible refine Below.drew ?_) | (with_reducible refine Below.setCell ?_ ?_ _) | (with_reducible refine Below.trans ?_ (Below.mono (by with_reducible assumption) ?_)) | go_size)))
           rotate_left 1
           · rfl
           clear hex; intro hex)
        refine G.wpS_nil fun w5 hAll => ?_
        have E5 := Lib.hid hAll.1
        clear hAll hex
        go_wp2_with fail
        refine (swap_any (HP4.out.ext E5.out) m6 m5).mono ?_
        rintro e w6 ⟨rfl, pw6, f6⟩
        have PW6 := Lib.hid pw6
        have F6 := Lib.hid f6
        clear pw6 f6
        have o4 := PW6.out.o4
        rw [show (q.swap aa mm).sp = q.sp from rfl, SL.out] at o4
        obtain ⟨e0, e1, e2⟩ := sp_cells o4 SL.out.symm m4
        rw [show (q.sp.getD kc (0, 0, 0)).2.1 = mm from MM.out] at e1
        have y1 := o4.frozenAt (kc * 3 + 1)
        have O4 := Lib.hid o4
        have mm9 : mm ≤ 600 := by omega
        clear o4 e0 e2
        go_wp2_with fail
        go_roundw
        case rel =>
          have hgs : ∀ v : Value, v.ownBlock ≠ some g4 → ∀ i u B e z m (xs : List Value), w6.ownsRow B e z v m xs → (w6.setCell ⟨g4, i, none⟩ u).ownsRow B e z v m xs := fun v hv i u B e z m xs h => own_set h hv
          have st := (O4.out.stored (kc * 3 + 1) (nv (mm + 1))).1
          rw [sp_set1 q.sp kc (mm + 1) m4] at st
          have hbk : Blk (w6.setCell ⟨g4, kc * 3 + 1, none⟩ (nv (mm + 1))) b _ _ := (F6.out.blk (HP4.out.ext E5.out).blk (fun q => by
            rcases q with q | q
            · exact (own_ne_blk (HP4.out.pt.o1) HP4.out.blk (by decide)) q
            · exact (own_ne_blk (HP4.out.pt.o2) HP4.out.blk (by decide)) q)).set_other (a := ⟨g4, kc * 3 + 1, none⟩) (fun q => HD.out.1 (by rw [← q]; rfl)) _
          have tot : Fr (Sp (.slice (some ⟨g1, 0, none⟩) n c1) (.slice (some ⟨g2, 0, none⟩) n c2) (.slice (some ⟨g3, 0, none⟩) n c3) (.slice (some ⟨g4, 0, none⟩) m0 c4) b) w (w6.setCell ⟨g4, kc * 3 + 1, none⟩ (nv (mm + 1))) :=
            ((HF4.out.trans (Fr.of_ext (S := fun _ => False) E5.out) (fun _ _ q => q.elim)).trans F6.out (fun g _ q => by
              rcases q with q | q
              · exact .inl q
              · exact .inr (.inl q))).set (.inl (.inr (.inr (.inr (.inl rfl))))) _
          refine ⟨k + 1, by omega, by go_num, Lib.hid ?_, Lib.hid ?_, Lib.hid tot⟩
          · rw [MT.out]
            refine own_set (F6.out.own (own_xt HT4.out E5.out) (fun g hg q => ?_)) (fun hg => by have := (HT4.out.lt g4 hg).1; omega)
            have := (HT4.out.lt g hg).1
            rcases q with q | q
            · have q : g1 = g := Option.some.inj q; omega
            · have q : g2 = g := Option.some.inj q; omega
          · rw [MT.out]
            refine ⟨hbk, ⟨?_, ?_, ?_, ?_, HP4.out.pt.d12, HP4.out.pt.d13, HP4.out.pt.d23⟩, OK2.out, hn6, H.out.lo⟩
            · have := hgs _ (fun q => HD.out.2.1 q) (kc * 3 + 1) (nv (mm + 1)) _ _ _ _ _ PW6.out.o1
              rw [show (q.mark1 s).st = (q.swap aa mm).st by unfold Pt.mark1 Pt.bump; rw [KC.out, AA.out, MM.out]]
              exact this
            · have := hgs _ (fun q => HD.out.2.2.1 q) (kc * 3 + 1) (nv (mm + 1)) _ _ _ _ _ PW6.out.o2
              rw [show (q.mark1 s).ar = (q.swap aa mm).ar by unfold Pt.mark1 Pt.bump; rw [KC.out, AA.out, MM.out]]
              exact this
            · exact hgs _ (fun q => HD.out.2.2.2 q) (kc * 3 + 1) (nv (mm + 1)) _ _ _ _ _ PW6.out.o3
            · rw [show (q.mark1 s).sp = q.sp.set kc ((q.sp.getD kc (0, 0, 0)).1, mm + 1, (q.sp.getD kc (0, 0, 0)).2.2) by unfold Pt.mark1 Pt.bump; rw [KC.out]; show q.sp.set kc (q.B kc, q.M kc + 1, q.E kc) = _; rw [MM.out]; rfl, List.length_set, SL.out]
              exact st
        case measure => simp [intOf]; omega
      · have tt : q.tch s = [] := by unfold Pt.tch; rw [KC.out, MM.out, BB.out, if_neg hmb]
        have TT := Lib.hid tt
        have d1 : (mm == bb) = false := by simpa using hmb
        have d2 : ((mm : Int) == (bb : Int)) = false := by simp; omega
        clear hmb tt
        go_wp2_with fail
        have HT4 := Lib.hid (show w3.ownsRow w.heap.size 3 1 _ (T ++ q.tch s).length ((T ++ q.tch s).map nv) by rw [TT.out, List.append_nil]; exact HT3.out)
        have HP4 := HP3
        have HF4 := HF3
        clear q0 q1 q2 q3 tc ta e0 e1 e2 y1 d1 d2 HT3 HP3 HF3 TT E3
        generalize w3 = w4 at *
        refine G.wp_region_tail (G := Ext) (fun _ => none) 12 (by kernel_rfl) (by kernel_rfl) (fun _ _ h => by cases h) (fun hex => ?_)
        simp only [List.take_succ_cons, List.take_zero, List.drop_succ_cons, List.drop_zero]
        iterate 12
          (refine G.wpS_one (A := ?_) hex rfl rfl (by simp) ?_ ?_ ?_
           rotate_left 2
           · intro w' hC K hK
             obtain ⟨q0, q1, q2, q3, _, _⟩ := rfb_cells (HP4.out.ext hC.1).blk; have ta := nat_cell (own_len2 (HP4.out.ext hC.1)) m3 M1.out.la; rw [show q.ar.getD s 0 = aa from AA.out] at ta; have o4 := (HP4.out.ext hC.1).pt.o4; rw [SL.out] at o4; obtain ⟨e0, e1, e2⟩ := sp_cells o4 SL.out.symm m4; rw [show (q.sp.getD kc (0, 0, 0)).2.1 = mm from MM.out] at e1; clear o4 e0 e2
             go_wp2_with (fail)
             refine hK _ ?_
             first | exact Below.refl _ _ | assumption | ((repeat' (first | (with_reducible exact Below.refl _ _) | (with_reducible assumption) | (with_reducible refine below_drewN ?_ _) | (with_reducible refine Below.alloc ?_ ?_ _) | (with_reducible refine Below.drew ?_) | (with_reducible refine Below.setCell ?_ ?_ _) | (with_reducible refine Below.trans ?_ (Below.mono (by with_reducible assumption) ?_)) | go_size)))
           rotate_left 1
           · rfl
           clear hex; intro hex)
        refine G.wpS_nil fun w5 hAll => ?_
        have E5 := Lib.hid hAll.1
        clear hAll hex
        go_wp2_with fail
        refine (swap_any (HP4.out.ext E5.out) m6 m5).mono ?_
        rintro e w6 ⟨rfl, pw6, f6⟩
        have PW6 := Lib.hid pw6
        have F6 := Lib.hid f6
        clear pw6 f6
        have o4 := PW6.out.o4
        rw [show (q.swap aa mm).sp = q.sp from rfl, SL.out] at o4
        obtain ⟨e0, e1, e2⟩ := sp_cells o4 SL.out.symm m4
        rw [show (q.sp.getD kc (0, 0, 0)).2.1 = mm from MM.out] at e1
        have y1 := o4.frozenAt (kc * 3 + 1)
        have O4 := Lib.hid o4
        have mm9 : mm ≤ 600 := by omega
        clear o4 e0 e2
        go_wp2_with fail
        go_roundw
        case rel =>
          have hgs : ∀ v : Value, v.ownBlock ≠ some g4 → ∀ i u B e z m (xs : List Value), w6.ownsRow B e z v m xs → (w6.setCell ⟨g4, i, none⟩ u).ownsRow B e z v m xs := fun v hv i u B e z m xs h => own_set h hv
          have st := (O4.out.stored (kc * 3 + 1) (nv (mm + 1))).1
          rw [sp_set1 q.sp kc (mm + 1) m4] at st
          have hbk : Blk (w6.setCell ⟨g4, kc * 3 + 1, none⟩ (nv (mm + 1))) b _ _ := (F6.out.blk (HP4.out.ext E5.out).blk (fun q => by
            rcases q with q | q
            · exact (own_ne_blk (HP4.out.pt.o1) HP4.out.blk (by decide)) q
            · exact (own_ne_blk (HP4.out.pt.o2) HP4.out.blk (by decide)) q)).set_other (a := ⟨g4, kc * 3 + 1, none⟩) (fun q => HD.out.1 (by rw [← q]; rfl)) _
          have tot : Fr (Sp (.slice (some ⟨g1, 0, none⟩) n c1) (.slice (some ⟨g2, 0, none⟩) n c2) (.slice (some ⟨g3, 0, none⟩) n c3) (.slice (some ⟨g4, 0, none⟩) m0 c4) b) w (w6.setCell ⟨g4, kc * 3 + 1, none⟩ (nv (mm + 1))) :=
            ((HF4.out.trans (Fr.of_ext (S := fun _ => False) E5.out) (fun _ _ q => q.elim)).trans F6.out (fun g _ q => by
              rcases q with q | q
              · exact .inl q
              · exact .inr (.inl q))).set (.inl (.inr (.inr (.inr (.inl rfl))))) _
          refine ⟨k + 1, by omega, by go_num, Lib.hid ?_, Lib.hid ?_, Lib.hid tot⟩
          · rw [MT.out]
            refine own_set (F6.out.own (own_xt HT4.out E5.out) (fun g hg q => ?_)) (fun hg => by have := (HT4.out.lt g4 hg).1; omega)
            have := (HT4.out.lt g hg).1
            rcases q with q | q
            · have q : g1 = g := Option.some.inj q; omega
            · have q : g2 = g := Option.some.inj q; omega
          · rw [MT.out]
            refine ⟨hbk, ⟨?_, ?_, ?_, ?_, HP4.out.pt.d12, HP4.out.pt.d13, HP4.out.pt.d23⟩, OK2.out, hn6, H.out.lo⟩
            · have := hgs _ (fun q => HD.out.2.1 q) (kc * 3 + 1) (nv (mm + 1)) _ _ _ _ _ PW6.out.o1
              rw [show (q.mark1 s).st = (q.swap aa mm).st by unfold Pt.mark1 Pt.bump; rw [KC.out, AA.out, MM.out]]
              exact this
            · have := hgs _ (fun q => HD.out.2.2.1 q) (kc * 3 + 1) (nv (mm + 1)) _ _ _ _ _ PW6.out.o2
              rw [show (q.mark1 s).ar = (q.swap aa mm).ar by unfold Pt.mark1 Pt.bump; rw [KC.out, AA.out, MM.out]]
              exact this
            · exact hgs _ (fun q => HD.out.2.2.2 q) (kc * 3 + 1) (nv (mm + 1)) _ _ _ _ _ PW6.out.o3
            · rw [show (q.mark1 s).sp = q.sp.set kc ((q.sp.getD kc (0, 0, 0)).1, mm + 1, (q.sp.getD kc (0, 0, 0)).2.2) by unfold Pt.mark1 Pt.bump; rw [KC.out]; show q.sp.set kc (q.B kc, q.M kc + 1, q.E kc) = _; rw [MM.out]; rfl, List.length_set, SL.out]
              exact st
        case measure => simp [intOf]; omega
    · have e : k = X.length := by omega
      go_wp2_with fail
      go_ret
      rw [e, List.take_length] at hT hP
      exact ⟨_, rfl, hT.out, hP.out, hF.out⟩
end Go.Proofs.YtniamfaiamgncaaDoor
namespace Go.Proofs.YtniamfaiamgncaaDoor
open Go Go.RowKit
def CutR (w : World) (b B n k : Nat) (v1 v2 v3 v4 vl vm : Value) (F : List Value) (p : Pt) (e : Ending) (w' : World) : Prop :=
  (p.M k = p.E k ∧ e = .returned (.tuple #[.int .i64 0, .bool false]) ∧ PtR w' b B n v1 v2 v3 v4 vl vm F (p.cut0 k) ∧ Fr (Sp v1 v2 v3 v4 b) w w') ∨
  (p.M k ≠ p.E k ∧ e = .returned (.tuple #[.int .i64 (p.sp.length : Nat), .bool true]) ∧ ∃ v4', PtR w' b B n v1 v2 v3 v4' vl vm F (p.cut1 k) ∧ Fr (Sp v1 v2 v3 v4 b) w w' ∧ ∀ g, v4'.ownBlock = some g → v4.ownBlock = some g ∨ w.heap.size ≤ g)
theorem own_len {w : World} {B e sz n m c g : Nat} {xs : List Value} (h : w.ownsRow B e sz (.slice (some ⟨g, 0, none⟩) n c) m xs) : n = m := by
  rcases h.2 with ⟨h, _⟩ | ⟨_, _, _, h, _⟩
  · cases h
  · cases h; rfl
theorem paint_take {q : Pt} {l : List Nat} {j m : Nat} (hj : j < l.length) : q.paint (l.take (j + 1)) m = { q with cl := (q.paint (l.take j) m).cl.set l[j] m } := by
  unfold Pt.paint
  simp only [List.take_succ_eq_append_getElem hj, List.foldl_append, List.foldl_cons, List.foldl_nil]
theorem paint_all {q : Pt} {l : List Nat} {m : Nat} : q.paint (l.take l.length) m = q.paint l m := by rw [List.take_length]
theorem cutS_BE {p : Pt} {k : Nat} (hk : k < p.sp.length) : (p.cutS k).B p.sp.length = p.B k ∧ (p.cutS k).E p.sp.length = p.M k := by
  have e := Pt.cutS_get p k p.sp.length hk
  rw [if_pos rfl] at e
  exact ⟨by show ((p.cutS k).sp.getD p.sp.length (0, 0, 0)).1 = p.B k; rw [e], by show ((p.cutS k).sp.getD p.sp.length (0, 0, 0)).2.2 = p.M k; rw [e]⟩
set_option maxHeartbeats 8000000 in
set_option maxRecDepth 20000 in
theorem cut_any {b B n k : Nat} {v1 v2 v3 v4 vl vm : Value} {F : List Value} {p : Pt} {w : World} (h : PtR w b B n v1 v2 v3 v4 vl vm F p) (hk : k < p.sp.length) (hbm : p.B k < p.M k) :
    Calls Tryd.prog 140 #[.pointer (some ⟨b, 0, none⟩), .int .i64 (k : Int)] w (CutR w b B n k v1 v2 v3 v4 vl vm F p) := by
  obtain ⟨i0, hi, hz0, hz1, hz2⟩ := info_parts info_spn
  have hkc := h.ok.kc k hk
  have h0 : 0 < n := by omega
  have hn6 := h.few
  have hf := Pt.few h.ok
  have H := Lib.hid h
  have HK := Lib.hid hk
  have o1 : w.ownsRow B 3 1 v1 n (p.st.map nv) := by have := h.pt.o1; rw [h.ok.ls] at this; exact this
  obtain ⟨g1, c1, rfl, hc1, hg1, hg1', hm1⟩ := own_some o1 h0
  obtain ⟨g3, c3, rfl, hc3, hg3, hg3', hm3⟩ := own_some (own_len3 h) h0
  obtain ⟨g4, c4, rfl, hc4, hg4, hg4', hm4⟩ := own_some h.pt.o4 (by omega)
  obtain ⟨m0, hm0⟩ : ∃ m0, p.sp.length = m0 := ⟨_, rfl⟩
  have SL := Lib.hid hm0
  have o4 := h.pt.o4
  rw [hm0] at H o4 hc4 hk hf ⊢
  have O4 := Lib.hid o4
  obtain ⟨bb, hbb⟩ : ∃ x, p.B k = x := ⟨_, rfl⟩
  obtain ⟨mm, hmm⟩ : ∃ x, p.M k = x := ⟨_, rfl⟩
  obtain ⟨ee, hee⟩ : ∃ x, p.E k = x := ⟨_, rfl⟩
  have BB := Lib.hid hbb
  have MM := Lib.hid hmm
  have EE := Lib.hid hee
  have hme := hkc.2.2.2.1
  have hen := hkc.2.1
  rw [hbb, hmm] at hbm
  rw [hmm, hee] at hme
  rw [hee] at hen
  have hbl := h.blk.lt
  have h4b : g4 ≠ b := fun q => own_ne_blk h.pt.o4 h.blk (by decide) (by rw [q]; rfl)
  clear hm0 o4 hbb hmm hee hkc hm1 hm3 hm4 o1 h
  have E1 := Lib.hid (ext_box w #[.int .i64 (bb : Int), .int .i64 (mm : Int), .int .i64 (ee : Int)] 242)
  by_cases hq : mm = ee
  · have d1 : ((mm : Int) == (ee : Int)) = true := by rw [hq]; simp
    have d2 : (mm == ee) = true := by simpa using hq
    have HQ := Lib.hid hq
    clear hq
    obtain ⟨q0, q1, q2, q3, _, _⟩ := rfb_cells (H.out.ext (Below.refl _ _)).blk
    obtain ⟨e0, e1, e2⟩ := sp_cells (own_xt O4.out (Below.refl _ _)) SL.out.symm HK.out
    rw [show (p.sp.getD k (0, 0, 0)).1 = bb from BB.out] at e0
    rw [show (p.sp.getD k (0, 0, 0)).2.1 = mm from MM.out] at e1
    rw [show (p.sp.getD k (0, 0, 0)).2.2 = ee from EE.out] at e2
    go_enter Tryd.func140, Tryd.ntmps140
    go_wp2_with fail
    have HS := Lib.hid (Blk.new w #[.int .i64 (bb : Int), .int .i64 (mm : Int), .int .i64 (ee : Int)] 242)
    clear q0 q1 q2 q3 e0 e1 e2
    refine G.wp_region_tail (G := Ext) (fun _ => none) 9 (by kernel_rfl) (by kernel_rfl) (fun _ _ h => by cases h) (fun hex => ?_)
    simp only [List.take_succ_cons, List.take_zero, List.drop_succ_cons, List.drop_zero]
    iterate 9
      (refine G.wpS_one (A := ?_) hex rfl rfl (by simp) ?_ ?_ ?_
       rotate_left 2
       · intro w' hC K hK
         obtain ⟨q0, q1, q2, q3, _, _⟩ := rfb_cells (H.out.ext (bel_call E1.out hC.1)).blk; have z0 := (HS.out.ext hC.1).cell 0
         go_wp2_with (fail)
         refine hK _ ?_
         first | exact Below.refl _ _ | assumption | ((repeat' (first | (with_reducible exact Below.refl _ _) | (with_reducible assumption) | (with_reducible refine below_drewN ?_ _) | (with_reducible refine Below.alloc ?_ ?_ _) | (with_reducible refine Below.drew ?_) | (with_reducible refine Below.setCell ?_ ?_ _) | (with_reducible refine Below.trans ?_ (Below.mono (by with_reducible assumption) ?_)) | go_size)))
       rotate_left 1
       · rfl
       clear hex; intro hex)
    refine G.wpS_nil fun w5 hAll => ?_
    have E5 := Lib.hid (bel_call E1.out hAll.1)
    have HS5 := Lib.hid (HS.out.ext hAll.1)
    clear hAll hex HS
    have O5 := Lib.hid (own_xt O4.out E5.out)
    obtain ⟨q0, q1, q2, q3, _, _⟩ := rfb_cells (H.out.ext (E5.out)).blk
    obtain ⟨e0, e1, e2⟩ := sp_cells (own_xt O4.out (E5.out)) SL.out.symm HK.out
    rw [show (p.sp.getD k (0, 0, 0)).1 = bb from BB.out] at e0
    rw [show (p.sp.getD k (0, 0, 0)).2.1 = mm from MM.out] at e1
    rw [show (p.sp.getD k (0, 0, 0)).2.2 = ee from EE.out] at e2
    have y1 := O5.out.frozenAt (k * 3 + 1)
    go_wp2_with fail
    go_ret2
    have st := (O5.out.stored (k * 3 + 1) (nv bb)).1
    rw [sp_set1 p.sp k bb HK.out] at st
    have tot : Fr (Sp (.slice (some ⟨g1, 0, none⟩) n c1) v2 (.slice (some ⟨g3, 0, none⟩) n c3) (.slice (some ⟨g4, 0, none⟩) m0 c4) b) w (w5.setCell ⟨g4, k * 3 + 1, none⟩ (nv bb)) := (Fr.of_ext E5.out).set (.inl (.inr (.inr (.inr (.inl rfl))))) _
    have H5 := H.out.ext E5.out
    refine .inl ⟨by rw [MM.out, EE.out]; exact HQ.out, rfl, ⟨H5.blk.set_other (a := ⟨g4, k * 3 + 1, none⟩) h4b _, ⟨?_, ?_, ?_, ?_, H5.pt.d12, H5.pt.d13, H5.pt.d23⟩, Pt.cut0_ok H.out.ok HK.out, hn6, H.out.lo⟩, tot⟩
    · exact own_set H5.pt.o1 (own_ne_own H5.pt.o1 H5.pt.o4 (by decide) g4 rfl)
    · exact own_set H5.pt.o2 (own_ne_own H5.pt.o2 H5.pt.o4 (by decide) g4 rfl)
    · exact own_set H5.pt.o3 (own_ne_own H5.pt.o3 H5.pt.o4 (by decide) g4 rfl)
    · rw [show (p.cut0 k).sp = p.sp.set k ((p.sp.getD k (0, 0, 0)).1, bb, (p.sp.getD k (0, 0, 0)).2.2) by show p.sp.set k (p.B k, p.B k, p.E k) = _; rw [BB.out, show (p.sp.getD k (0, 0, 0)).1 = bb from BB.out]; rfl, List.length_set, SL.out]
      exact st
  · have d1 : ((mm : Int) == (ee : Int)) = false := by simp; omega
    have d2 : (mm == ee) = false := by simpa using hq
    have HQ := Lib.hid hq
    have hlt : mm < ee := by omega
    clear hq
    obtain ⟨q0, q1, q2, q3, _, _⟩ := rfb_cells (H.out.ext (Below.refl _ _)).blk
    obtain ⟨e0, e1, e2⟩ := sp_cells (own_xt O4.out (Below.refl _ _)) SL.out.symm HK.out
    rw [show (p.sp.getD k (0, 0, 0)).1 = bb from BB.out] at e0
    rw [show (p.sp.getD k (0, 0, 0)).2.1 = mm from MM.out] at e1
    rw [show (p.sp.getD k (0, 0, 0)).2.2 = ee from EE.out] at e2
    go_enter Tryd.func140, Tryd.ntmps140
    go_wp2_with fail
    have HS := Lib.hid (Blk.new w #[.int .i64 (bb : Int), .int .i64 (mm : Int), .int .i64 (ee : Int)] 242)
    clear q0 q1 q2 q3 e0 e1 e2
    refine G.wp_region_tail (G := Ext) (fun _ => none) 13 (by kernel_rfl) (by kernel_rfl) (fun _ _ h => by cases h) (fun hex => ?_)
    simp only [List.take_succ_cons, List.take_zero, List.drop_succ_cons, List.drop_zero]
    iterate 13
      (refine G.wpS_one (A := ?_) hex rfl rfl (by simp) ?_ ?_ ?_
       rotate_left 2
       · intro w' hC K hK
         obtain ⟨q0, q1, q2, q3, _, _⟩ := rfb_cells (H.out.ext (bel_call E1.out hC.1)).blk; have z1 := (HS.out.ext hC.1).cell 1; have z2 := (HS.out.ext hC.1).cell 2
         go_wp2_with (fail)
         refine hK _ ?_
         first | exact Below.refl _ _ | assumption | ((repeat' (first | (with_reducible exact Below.refl _ _) | (with_reducible assumption) | (with_reducible refine below_drewN ?_ _) | (with_reducible refine Below.alloc ?_ ?_ _) | (with_reducible refine Below.drew ?_) | (with_reducible refine Below.setCell ?_ ?_ _) | (with_reducible refine Below.trans ?_ (Below.mono (by with_reducible assumption) ?_)) | go_size)))
       rotate_left 1
       · rfl
       clear hex; intro hex)
    refine G.wpS_nil fun w5 hAll => ?_
    have E5 := Lib.hid (bel_call E1.out hAll.1)
    have HS5 := Lib.hid (HS.out.ext hAll.1)
    clear hAll hex HS
    have O5 := Lib.hid (own_xt O4.out E5.out)
    obtain ⟨q0, q1, q2, q3, _, _⟩ := rfb_cells (H.out.ext (E5.out)).blk
    obtain ⟨e0, e1, e2⟩ := sp_cells (own_xt O4.out (E5.out)) SL.out.symm HK.out
    rw [show (p.sp.getD k (0, 0, 0)).1 = bb from BB.out] at e0
    rw [show (p.sp.getD k (0, 0, 0)).2.1 = mm from MM.out] at e1
    rw [show (p.sp.getD k (0, 0, 0)).2.2 = ee from EE.out] at e2
    have y0 := O5.out.frozenAt (k * 3)
    have y1 := O5.out.frozenAt (k * 3 + 1)
    have y2 := O5.out.frozenAt (k * 3 + 2)
    go_upto_region 7 with fail
    have O6 := Lib.hid (((((O5.out.stored (k * 3) (nv mm)).1.stored (k * 3 + 1) (nv mm)).1.stored (k * 3 + 2) (nv ee)).1))
    have SS := sp_set p.sp k (mm, mm, ee) HK.out
    simp only at SS
    rw [SS] at O6
    have HS6 := Lib.hid (((HS5.out.set_other (a := ⟨g4, k * 3, none⟩) (by show g4 ≠ w.heap.size; omega) (nv mm)).set_other (a := ⟨g4, k * 3 + 1, none⟩) (by show g4 ≠ w.heap.size; omega) (nv mm)).set_other (a := ⟨g4, k * 3 + 2, none⟩) (by show g4 ≠ w.heap.size; omega) (nv ee))
    have F6 := Lib.hid (show Fr (fun g => g = g4) w (((w5.setCell ⟨g4, k * 3, none⟩ (nv mm)).setCell ⟨g4, k * 3 + 1, none⟩ (nv mm)).setCell ⟨g4, k * 3 + 2, none⟩ (nv ee)) from (((Fr.of_ext (S := fun g => g = g4) E5.out).set (b := g4) (.inl rfl) _).set (b := g4) (.inl rfl) _).set (b := g4) (.inl rfl) _)
    have BK6 := Lib.hid (show Blk (((w5.setCell ⟨g4, k * 3, none⟩ (nv mm)).setCell ⟨g4, k * 3 + 1, none⟩ (nv mm)).setCell ⟨g4, k * 3 + 2, none⟩ (nv ee)) b _ _ from F6.out.blk H.out.blk (fun q => h4b q.symm))
    have W6 := Lib.hid (show w.heap.size < (((w5.setCell ⟨g4, k * 3, none⟩ (nv mm)).setCell ⟨g4, k * 3 + 1, none⟩ (nv mm)).setCell ⟨g4, k * 3 + 2, none⟩ (nv ee)).heap.size from HS6.out.lt)
    clear q0 q1 q2 q3 e0 e1 e2 y0 y1 y2 HS5 O5 E5 SS
    generalize ((w5.setCell ⟨g4, k * 3, none⟩ (nv mm)).setCell ⟨g4, k * 3 + 1, none⟩ (nv mm)).setCell ⟨g4, k * 3 + 2, none⟩ (nv ee) = w6 at *
    have hX : ∀ g, (Value.slice (some ⟨g4, 0, none⟩) m0 c4).ownBlock = some g → g < w6.heap.size := fun g hg => by have q : g4 = g := Option.some.inj hg; have := W6.out; omega
    have HX := Lib.hid hX
    have hN : ∀ g, (none : Option Nat) = some g → g < w6.heap.size := fun g hg => nomatch hg
    have HN := Lib.hid hN
    have hbW : B ≤ w6.heap.size := by have := W6.out; omega
    clear hX hN
    obtain ⟨sp6, hsp6⟩ : ∃ x, p.sp.set k (mm, mm, ee) = x := ⟨_, rfl⟩
    have SP6 := Lib.hid hsp6
    rw [hsp6] at O6
    clear hsp6
    have HKN := Lib.hid (fun g (hg : w6.heap.size ≤ g) => kf2_none (X1 := (Value.slice (some ⟨g4, 0, none⟩) m0 c4).ownBlock) (X2 := none) (ys1 := sp6.flatMap sp3 ++ [nv bb, nv bb, nv mm]) (ys2 := []) (g := g) (fun q => by have := HX.out g q; omega) (fun q => nomatch q))
    refine G.wp_region_tail (G := LkF (kf2 (Value.slice (some ⟨g4, 0, none⟩) m0 c4).ownBlock (sp6.flatMap sp3 ++ [nv bb, nv bb, nv mm]) none [])) (RsL 12 13 98 99 (OneV w6.heap.size 242 [nv bb, nv bb, nv mm]) (AppR w6.heap.size B 242 3 (m0 + 1) (Value.slice (some ⟨g4, 0, none⟩) m0 c4).ownBlock (sp6.flatMap sp3 ++ [nv bb, nv bb, nv mm])) (fun _ _ => True) (fun _ _ => True)) 16 (by kernel_rfl) (by kernel_rfl) (RsL_mono (OneV_lkf _ HKN.out _ _) (AppR_lkf _ _ _ _ _ _ _ (kf2_app1 HX.out HN.out)) (fun _ _ _ _ h => h) (fun _ _ _ _ h => h)) (fun hex => ?_)
    simp only [List.take_succ_cons, List.take_zero, List.drop_succ_cons, List.drop_zero]
    have KB := Lib.hid (kf2_none (X1 := (Value.slice (some ⟨g4, 0, none⟩) m0 c4).ownBlock) (X2 := none) (ys1 := sp6.flatMap sp3 ++ [nv bb, nv bb, nv mm]) (ys2 := []) (g := b) (fun q => h4b (Option.some.inj q)) (fun q => nomatch q))
    have KS := Lib.hid (kf2_none (X1 := (Value.slice (some ⟨g4, 0, none⟩) m0 c4).ownBlock) (X2 := none) (ys1 := sp6.flatMap sp3 ++ [nv bb, nv bb, nv mm]) (ys2 := []) (g := w.heap.size) (fun q => by have q : g4 = w.heap.size := Option.some.inj q; omega) (fun q => nomatch q))
    iterate 12
      (refine G.wpS_one (A := ?_) hex rfl rfl (by simp) ?_ ?_ ?_
       rotate_left 2
       · intro w' hC K hK
         obtain ⟨q0, q1, q2, q3, _, _⟩ := rfb_cells (hC.1.blk BK6.out KB.out); have z0 := (hC.1.blk HS6.out KS.out).cell 0; have z1 := (hC.1.blk HS6.out KS.out).cell 1; have z2 := (hC.1.blk HS6.out KS.out).cell 2
         go_wp2_with (fail)
         refine hK _ ?_
         first | exact LkF.refl _ | exact LkF.of_ext (by assumption)
       rotate_left 1
       · rfl
       clear hex; intro hex)
    refine G.wpS_rel (OneV (w6.heap.size) (242) ([nv bb, nv bb, nv mm])) rfl rfl (by simp) (by first | rfl | (simp [Region.wanted, yielded]; done)) ?_ ?_
    · intro w' hC K hK
      simp only [Act.put, List.setIfInBounds_toArray, List.set_cons_succ, List.set_cons_zero] at hK
      go_wp2_with fail
      exact hK _ _ (LkF.of_ext ((Below.refl _ _).alloc (Nat.le_refl _) _)) ⟨_, rfl, Blk.new _ _ _, hC.1.1.2.2.2⟩
    clear hex
    intro v w' hex hv
    replace hex := Exists.intro w' hex
    simp only [Act.put, List.setIfInBounds_toArray, List.set_cons_succ, List.set_cons_zero]
    obtain ⟨b1, rfl, hv, hb1⟩ := hv
    clear hv
    refine G.wpS_rel (AppR w6.heap.size B 242 3 (m0 + 1) (Value.slice (some ⟨g4, 0, none⟩) m0 c4).ownBlock (sp6.flatMap sp3 ++ [nv bb, nv bb, nv mm])) rfl rfl (by simp) (by first | rfl | (simp [Region.wanted, yielded]; done)) ?_ ?_
    · intro w' hC K hK
      simp only [Act.put, List.setIfInBounds_toArray, List.set_cons_succ, List.set_cons_zero] at hK
      obtain ⟨b9, e9, hB9, _⟩ := (hC.2 12 (by simp [Region.binds])).1 rfl
      cases e9
      have hown' := own_lkf O6.out hC.1 (fun g N T hg hK i hi => by rw [kf2_one g hg] at hK; cases hK; exact ⟨by rw [List.length_append]; omega, by simp [List.getElem?_append_left hi]⟩)
      refine wpList_append_lko _ rfl (.tmp 53) (.tmp 61) 162 rfl B 242 i0 _ 3 24 Tryd.underlying162 hi hz0 hz1 hz2 rfl (by decide) _ m0 (sp6.flatMap sp3) rfl hown' ⟨b1, 0, none⟩ 1 1 [nv bb, nv bb, nv mm] rfl rfl (World.news_of_block hB9) (by intro y hy; simp at hy; rcases hy with rfl | rfl <;> rfl) (by decide) (by unfold maxLen; omega) (by omega) (Nat.le_trans hbW hC.1.1.2.2.2) ?_
      intro g8 cap8 w8 hown8 hv8 hg8 hlk8
      simp only [wpList]
      refine hK _ _ (LkF.of_lko hlk8 (kf2_one)) ⟨g8, cap8, rfl, hown8, ?_, hg8⟩
      rcases hv8 with h | h
      · exact .inl h
      · exact .inr (by have := hC.1.1.2.2.2; omega)
    clear hex
    intro v w' hex hv
    replace hex := Exists.intro w' hex
    simp only [Act.put, List.setIfInBounds_toArray, List.set_cons_succ, List.set_cons_zero]
    obtain ⟨g5, cap5, rfl, hv, hloc5, hv2⟩ := hv
    clear hv hv2
    iterate 2
      (refine G.wpS_one (A := ?_) hex rfl rfl (by simp) ?_ ?_ ?_
       rotate_left 2
       · intro w' hC K hK
         go_wp2_with (fail)
         refine hK _ ?_
         first | exact LkF.refl _ | exact LkF.of_ext (by assumption)
       rotate_left 1
       · rfl
       clear hex; intro hex)
    refine G.wpS_nil fun w8 hAll => ?_
    obtain ⟨g5', cap5', e5, ho5, _, hlt5⟩ := (hAll.2 13).1 rfl
    cases e5
    have BK8 := Lib.hid (hAll.1.blk BK6.out KB.out)
    have O58 := Lib.hid ho5
    have F8 := Lib.hid (show Fr (fun g => g = g4) w w8 from F6.out.trans (S' := fun g => g = g4) ⟨hAll.1.1.1, hAll.1.1.2.1, hAll.1.1.2.2.1, hAll.1.1.2.2.2, fun g hg hn => hAll.1.2.1 g hg (kf2_none (fun q => hn (Option.some.inj q).symm) (fun q => nomatch q))⟩ (fun _ _ q => q))
    have L58 : Hid (g5 = g4 ∨ w.heap.size ≤ g5) := Lib.hid (by
      rcases hloc5 with h | h
      · exact .inl (Option.some.inj h).symm
      · have := W6.out; exact .inr (by omega))
    clear ho5 hAll hex hlt5 hloc5 HS6 O6 F6 BK6 W6 HX HN KB KS
    obtain ⟨q0, q1, q2, q3, _, _⟩ := rfb_cells BK8.out
    have y3 := BK8.out.free 3
    go_upto_region 8 with fail
    have h5b : g5 ≠ b := fun q => own_ne_blk O58.out BK8.out (by decide) (by rw [q]; rfl)
    have BK9 := Lib.hid (show Blk (w8.setCell ⟨b, 3, none⟩ (.slice (some ⟨g5, 0, none⟩) (m0 + 1) cap5)) b (rfb (.slice (some ⟨g1, 0, none⟩) n c1) v2 (.slice (some ⟨g3, 0, none⟩) n c3) (.slice (some ⟨g5, 0, none⟩) (m0 + 1) cap5) vl vm F) _ from by
      have := BK8.out.set 3 (.slice (some ⟨g5, 0, none⟩) (m0 + 1) cap5)
      rw [rfb_set3] at this; exact this)
    have F9 := Lib.hid (show Fr (fun g => g = g4 ∨ g = b) w (w8.setCell ⟨b, 3, none⟩ (.slice (some ⟨g5, 0, none⟩) (m0 + 1) cap5)) from (F8.out.mono (fun _ _ q => .inl q)).set (b := b) (.inl (.inr rfl)) _)
    have hs9 : ∀ {v : Value} {e sz z : Nat} {xs : List Value}, w.ownsRow B e sz v z xs → e ≠ 242 → e ≠ 173 → ∀ g, v.ownBlock = some g → ¬ (g = g4 ∨ g = b) := fun ho n1 n2 g hg q => by
      rcases q with q | q
      · exact own_ne_own ho H.out.pt.o4 n1 g4 rfl (by rw [hg, q])
      · exact own_ne_blk ho H.out.blk n2 (by rw [hg, q])
    have ES : (p.cutS k).sp = sp6 ++ [(bb, bb, mm)] := by
      show p.sp.set k (p.M k, p.M k, p.E k) ++ [(p.B k, p.B k, p.M k)] = _
      rw [BB.out, MM.out, EE.out, SP6.out]
    have EL : (p.cutS k).sp.length = m0 + 1 := by
      show (p.sp.set k (p.M k, p.M k, p.E k) ++ [(p.B k, p.B k, p.M k)]).length = _
      rw [List.length_append, List.length_set, SL.out]; rfl
    have PT9 := Lib.hid (show PtW (w8.setCell ⟨b, 3, none⟩ (.slice (some ⟨g5, 0, none⟩) (m0 + 1) cap5)) B (.slice (some ⟨g1, 0, none⟩) n c1) v2 (.slice (some ⟨g3, 0, none⟩) n c3) (.slice (some ⟨g5, 0, none⟩) (m0 + 1) cap5) (p.cutS k) from
      ⟨F9.out.own H.out.pt.o1 (hs9 H.out.pt.o1 (by decide) (by decide)), F9.out.own H.out.pt.o2 (hs9 H.out.pt.o2 (by decide) (by decide)), F9.out.own H.out.pt.o3 (hs9 H.out.pt.o3 (by decide) (by decide)),
        by rw [ES, ← ES, EL, ES, List.flatMap_append]; exact own_set O58.out (fun q => h5b (Option.some.inj q)), H.out.pt.d12, H.out.pt.d13, H.out.pt.d23⟩)
    have LW9 : Hid (w.heap.size < (w8.setCell ⟨b, 3, none⟩ (.slice (some ⟨g5, 0, none⟩) (m0 + 1) cap5)).heap.size ∨ True) := Lib.hid (.inr trivial)
    obtain ⟨w9, hw9⟩ : ∃ x, w8.setCell ⟨b, 3, none⟩ (.slice (some ⟨g5, 0, none⟩) (m0 + 1) cap5) = x := ⟨_, rfl⟩
    simp only [hw9] at BK9 F9 PT9 ⊢
    clear hw9 LW9 q0 q1 q2 q3 y3 F8 BK8 O58 SP6 hs9
    have ELH := Lib.hid EL
    obtain ⟨cb1, cb2⟩ := cutS_BE HK.out
    rw [SL.out, BB.out] at cb1
    rw [SL.out, MM.out] at cb2
    have CB1 := Lib.hid cb1
    have CB2 := Lib.hid cb2
    clear ES EL cb1 cb2
    have HMM := Lib.hid (members0_any (k := m0) BK9.out PT9.out H.out.ok.ls hn6 (by rw [ELH.out]; omega) (by rw [CB1.out, CB2.out]; exact hbm) (by rw [CB2.out]; omega))
    go_wp2_with fail
    refine HMM.out.mono ?_
    rintro e w10 ⟨g1', c1', e1, rfl, hc1', hm1', x10⟩
    cases e1
    rw [CB1.out, CB2.out]
    have BK10 := Lib.hid (BK9.out.ext x10)
    have PT10 := Lib.hid (PT9.out.ext x10)
    have F10 := Lib.hid (F9.out.trans (Fr.of_ext (S := fun _ => False) x10) (fun _ _ q => q.elim))
    clear BK9 PT9 F9 x10 hm1' HMM
    obtain ⟨ml, hml⟩ : ∃ x, (p.cutS k).mem m0 = x := ⟨_, rfl⟩
    have MLd : ml = (p.st.drop bb).take (mm - bb) := by rw [← hml, ← SL.out, Pt.cutS_mem p k HK.out, BB.out, MM.out]
    have mll : ml.length = mm - bb := by rw [MLd, List.length_take, List.length_drop, H.out.ok.ls]; omega
    have mlg : ∀ j (hj : j < ml.length), ml[j] = p.S (bb + j) := fun j hj => by
      subst MLd
      unfold Pt.S
      rw [getD_get (by rw [List.length_take, List.length_drop] at hj; omega)]
      simp
    have HML := Lib.hid hml
    have HLL := Lib.hid mll
    have HLG := Lib.hid mlg
    clear hml MLd mll mlg
    go_wp2_with fail
    have l600 : mm - bb ≤ 600 := by omega
    have F10' := Lib.hid (F10.out.mono (S' := fun g => g = g4 ∨ g = b ∨ g = g3) (fun _ _ q => q.elim .inl (fun q => .inr (.inl q))))
    have PT10' := Lib.hid (show PtW w10 B (.slice (some ⟨g1, 0, none⟩) n c1) v2 (.slice (some ⟨g3, 0, none⟩) n c3) (.slice (some ⟨g5, 0, none⟩) (m0 + 1) cap5) ((p.cutS k).paint (ml.take 0) m0) from PT10.out)
    clear F10 PT10
    go_loopw [69] (fun i wr => ∃ j : Nat, j ≤ mm - bb ∧ i = .int .i64 j ∧ Hid (PtW wr B (.slice (some ⟨g1, 0, none⟩) n c1) v2 (.slice (some ⟨g3, 0, none⟩) n c3) (.slice (some ⟨g5, 0, none⟩) (m0 + 1) cap5) ((p.cutS k).paint (ml.take j) m0)) ∧
      Hid (Blk wr b (rfb (.slice (some ⟨g1, 0, none⟩) n c1) v2 (.slice (some ⟨g3, 0, none⟩) n c3) (.slice (some ⟨g5, 0, none⟩) (m0 + 1) cap5) vl vm F) 173) ∧ Hid (Fr (fun g => g = g4 ∨ g = b ∨ g = g3) w wr)) (fun i _ => mm - bb - (intOf i).toNat)
    case atStart => exact ⟨0, Nat.zero_le _, rfl, PT10', BK10, F10'⟩
    case round =>
      obtain ⟨j, hj, rfl, hPT, hBK, hFR⟩ := hrel
      by_cases hjl : j < mm - bb
      · have hjm : j < ml.length := by rw [HLL.out]; exact hjl
        have hx1 := HLG.out j hjm
        have hx2 := (H.out.ok.as_ (bb + j) (by omega)).1
        have t0 := nat_cell (show wr.ownsRow B 3 1 (.slice (some ⟨g1, 0, none⟩) n c1) n (p.st.map nv) from by have := hPT.out.o1; rw [show ((p.cutS k).paint (ml.take j) m0).st = p.st from rfl, H.out.ok.ls] at this; exact this) (show bb + j < n by omega) H.out.ok.ls
        rw [show p.st.getD (bb + j) 0 = p.S (bb + j) from rfl] at t0
        have PK := Lib.hid (paint_take (q := p.cutS k) (m := m0) hjm)
        obtain ⟨x, hx⟩ : ∃ x, ml[j] = x := ⟨_, rfl⟩
        rw [hx] at hx1 PK
        rw [← hx1] at t0 hx2
        have lc := own_len hPT.out.o3
        have o3 : wr.ownsRow B 3 1 (.slice (some ⟨g3, 0, none⟩) n c3) n (((p.cutS k).paint (ml.take j) m0).cl.map nv) := by have := hPT.out.o3; rw [← lc] at this; exact this
        have t1 := nat_cell o3 hx2 lc.symm
        have y1 := o3.frozenAt x
        obtain ⟨q0, q1, q2, q3, _, _⟩ := rfb_cells hBK.out
        have O3 := Lib.hid o3
        have LC := Lib.hid lc
        clear hx hx1 o3 lc hjm
        go_wp2_with fail
        go_roundw
        case rel =>
          refine ⟨j + 1, by omega, by go_num, Lib.hid ?_, Lib.hid (hBK.out.set_other (a := ⟨g3, x, none⟩) (fun q => own_ne_blk hPT.out.o3 hBK.out (by decide) (by rw [← q]; rfl)) _), Lib.hid (hFR.out.set (b := g3) (.inl (.inr (.inr rfl))) _)⟩
          rw [PK.out]
          refine ⟨own_set hPT.out.o1 (fun q => hPT.out.d13 _ q rfl), own_set hPT.out.o2 (fun q => hPT.out.d23 _ q rfl), ?_, own_set hPT.out.o4 (own_ne_own hPT.out.o4 hPT.out.o3 (by decide) g3 rfl), hPT.out.d12, hPT.out.d13, hPT.out.d23⟩
          have := nat_store O3.out x m0
          simp only [List.length_set]
          rw [← LC.out]
          exact this
        case measure => simp [intOf]; omega
      · have e : j = ml.length := by rw [HLL.out]; omega
        have PA := Lib.hid (show ((p.cutS k).paint (ml.take j) m0) = p.cut1 k by rw [e, List.take_length]; unfold Pt.cut1; rw [SL.out, HML.out])
        clear e
        go_wp2_with fail
        go_ret2
        rw [PA.out] at hPT
        refine .inr ⟨by rw [MM.out, EE.out]; omega, by rw [SL.out]; rfl, _, ⟨hBK.out, hPT.out, Pt.cut1_ok H.out.ok HK.out (by rw [BB.out, MM.out]; exact hbm) (by rw [MM.out, EE.out]; exact hlt), hn6, H.out.lo⟩, hFR.out.mono (fun g _ q => ?_), fun g hg => ?_⟩
        · rcases q with rfl | rfl | rfl
          · exact .inr (.inr (.inr (.inl rfl)))
          · exact .inr (.inr (.inr (.inr rfl)))
          · exact .inr (.inr (.inl rfl))
        · have hg : g5 = g := Option.some.inj hg
          rcases L58.out with h | h
          · left; rw [← hg, h]; rfl
          · right; omega
end Go.Proofs.YtniamfaiamgncaaDoor
