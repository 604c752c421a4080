/- The order of all sets: the statement's walk. -/
import Derived.Test.YtkhmkcaocacfhaaDoorCmp
import Derived.Test.YtkhmkcaocacfhaaDoorRow
namespace Go.Proofs.YtkhmkcaocacfhaaDoor
open Go Go.RowKit
theorem cmp_eq (s t : BitVec 256) (r : Int) (h : cmp s t = r) (w : World) (hT : Tab w) :
    Calls Tryd.prog 35 #[sv s, sv t] w fun e w' => e = .returned (.int .i64 r) ∧ Below w.heap.size w w' := by subst h; exact cmp_any s t w hT
theorem cmp_eq0 (s : BitVec 256) (r : Int) (h : cmp s 0#256 = r) (w : World) (hT : Tab w) :
    Calls Tryd.prog 35 #[sv s, sv0] w fun e w' => e = .returned (.int .i64 r) ∧ Below w.heap.size w w' := by subst h; rw [← sv_zero]; exact cmp_any s _ w hT
theorem all_eq' (r : BitVec 256) (h : full = r) (w : World) :
    Calls Tryd.prog 21 #[] w fun e w' => e = .returned (sv r) ∧ Below w.heap.size w w' := by subst h; exact all_any w
theorem cells12 {w : World} {b : Nat} {t : TypeId} {x0 x1 x2 x3 x4 x5 x6 x7 x8 x9 x10 x11 : Value} (h : Blk w b #[x0, x1, x2, x3, x4, x5, x6, x7, x8, x9, x10, x11] t) : w.cell? ⟨b, 0, none⟩ = some x0 ∧ w.cell? ⟨b, 1, none⟩ = some x1 ∧ w.cell? ⟨b, 2, none⟩ = some x2 ∧ w.cell? ⟨b, 3, none⟩ = some x3 ∧ w.cell? ⟨b, 4, none⟩ = some x4 ∧ w.cell? ⟨b, 5, none⟩ = some x5 ∧ w.cell? ⟨b, 6, none⟩ = some x6 ∧ w.cell? ⟨b, 7, none⟩ = some x7 ∧ w.cell? ⟨b, 8, none⟩ = some x8 ∧ w.cell? ⟨b, 9, none⟩ = some x9 ∧ w.cell? ⟨b, 10, none⟩ = some x10 ∧ w.cell? ⟨b, 11, none⟩ = some x11 :=
  ⟨h.cell 0, h.cell 1, h.cell 2, h.cell 3, h.cell 4, h.cell 5, h.cell 6, h.cell 7, h.cell 8, h.cell 9, h.cell 10, h.cell 11⟩
def OrdCase (ab bc ac : Int) : Prop := (¬ ab ≤ 0) ∨ (ab ≤ 0 ∧ ¬ bc ≤ 0) ∨ (ab ≤ 0 ∧ bc ≤ 0 ∧ ¬ 0 < ac ∧ (ac == 0) = false) ∨ (ab = 0 ∧ bc = 0 ∧ ac = 0)
structure OrdFacts (a b c f u : BitVec 256) (ab bc ac ba fa az ua : Int) (q0 qu : Bool) : Prop where
  p_ab : cmp a b = ab
  p_bc : cmp b c = bc
  p_ac : cmp a c = ac
  p_ba : cmp b a = ba
  p_f : full = f
  p_fa : cmp f a = fa
  p_az : cmp a 0#256 = az
  p_u : a ||| b = u
  p_ua : cmp u a = ua
  p_q0 : decide (a = b) = q0
  p_qu : decide (u = a) = qu
  p_cas : OrdCase ab bc ac
  p_neg : ba = -ab
  p_e0 : (ab == 0) = q0
  p_un : decide (ua < 0) = !qu
theorem ord_facts (a b c : BitVec 256) : ∃ f u ab bc ac ba fa az ua q0 qu, OrdFacts a b c f u ab bc ac ba fa az ua q0 qu ∧ (-1 ≤ ab ∧ ab ≤ 1) ∧ (-1 ≤ bc ∧ bc ≤ 1) ∧ fa ≤ 0 ∧ az ≤ 0 := by
  refine ⟨_, _, _, _, _, _, _, _, _, _, _, ⟨rfl, rfl, rfl, rfl, rfl, rfl, rfl, rfl, rfl, rfl, rfl, ?_, cmp_neg a b, (cmp_range a b).2.2, cmp_union a b⟩, ⟨(cmp_range a b).1, (cmp_range a b).2.1⟩, ⟨(cmp_range b c).1, (cmp_range b c).2.1⟩, cmp_full a, cmp_zero a⟩
  unfold OrdCase
  by_cases h1 : cmp a b ≤ 0
  · by_cases h2 : cmp b c ≤ 0
    · obtain ⟨h3, h4⟩ := cmp_trans a b c h1 h2
      by_cases h5 : cmp a c = 0
      · exact .inr (.inr (.inr ⟨(h4 h5).1, (h4 h5).2, h5⟩))
      · exact .inr (.inr (.inl ⟨h1, h2, by omega, by simpa using h5⟩))
    · exact .inr (.inl ⟨h1, h2⟩)
  · exact .inl h1
set_option maxHeartbeats 4000000 in
set_option maxRecDepth 100000 in
theorem order_any (a b c : BitVec 256) (w : World) (hT : Tab w) :
    Calls Tryd.prog 8 #[.agg (three a b c)] w fun e w' => e = .returned (.bool true) ∧ Below w.heap.size w w' := by
  obtain ⟨f, u, ab, bc, ac, ba, fa, az, ua, q0, qu, hl, ⟨k1, k2⟩, ⟨k3, k4⟩, k5, k6⟩ := ord_facts a b c
  have heq : ∀ w, (Op.equalIn 10000 25 (sv a) (sv b)).run Tryd.prog w = .ok q0 w := fun w => by rw [set_eq, hl.p_q0]
  have heu : ∀ w, (Op.equalIn 10000 25 (sv u) (sv a)).run Tryd.prog w = .ok qu w := fun w => by rw [set_eq, hl.p_qu]
  have hcas := hl.p_cas
  have hneg := hl.p_neg
  have he0 := hl.p_e0
  have HU := Lib.hid (And.intro heu hl.p_un)
  have HL := Lib.hid hl
  have HT := Lib.hid hT
  clear hl hT heu
  subst hneg
  unfold OrdCase at hcas
  have kP := Blk.new w (three a b c) 49
  have hw0 : Below w.heap.size w (w.alloc (.cells (three a b c) 49)) := by (repeat' (first | (with_reducible exact Below.refl _ _) | (with_reducible assumption) | (with_reducible refine below_drewN ?_ _) | (with_reducible refine Below.alloc ?_ ?_ _) | (with_reducible refine Below.drew ?_) | (with_reducible refine Below.setCell ?_ ?_ _) | (with_reducible refine Below.trans ?_ (Below.mono (by with_reducible assumption) ?_)) | go_size))
  have HT0 := Lib.hid (HT.out.ext hw0)
  rcases hcas with hc | ⟨hc1, hc2⟩ | ⟨hc1, hc2, hc3, hc4⟩ | ⟨rfl, rfl, rfl⟩
  all_goals
    try (have hq : true = q0 := he0; subst hq)
    go_enter Tryd.func8, Tryd.ntmps8
    go_wp2_with fail
    refine (cmp_eq a b _ HL.out.p_ab _ HT0.out).mono ?_
    rintro e w1 ⟨rfl, hE⟩
    have HT1 := Lib.hid (HT0.out.ext hE)
    replace kP := kP.ext hE
    have hw1 : Below w.heap.size w w1 := hw0.trans (hE.mono hw0.size)
    clear hE
    obtain ⟨p0, p1, p2, p3, p4, p5, p6, p7, p8, p9, p10, p11⟩ := cells12 kP
    go_wp2_with fail
    refine (cmp_eq b c _ HL.out.p_bc _ HT1.out).mono ?_
    rintro e w2 ⟨rfl, hE⟩
    have HT2 := Lib.hid (HT1.out.ext hE)
    replace kP := kP.ext hE
    have hw2 : Below w.heap.size w w2 := hw1.trans (hE.mono hw1.size)
    clear hE p0 p1 p2 p3 p4 p5 p6 p7 p8 p9 p10 p11
    obtain ⟨p0, p1, p2, p3, p4, p5, p6, p7, p8, p9, p10, p11⟩ := cells12 kP
    go_wp2_with fail
    refine (cmp_eq a c _ HL.out.p_ac _ HT2.out).mono ?_
    rintro e w3 ⟨rfl, hE⟩
    have HT3 := Lib.hid (HT2.out.ext hE)
    replace kP := kP.ext hE
    have hw3 : Below w.heap.size w w3 := hw2.trans (hE.mono hw2.size)
    clear hE p0 p1 p2 p3 p4 p5 p6 p7 p8 p9 p10 p11
    obtain ⟨p0, p1, p2, p3, p4, p5, p6, p7, p8, p9, p10, p11⟩ := cells12 kP
    go_wp2_with fail
    refine (cmp_eq b a _ HL.out.p_ba _ HT3.out).mono ?_
    rintro e w4 ⟨rfl, hE⟩
    have HT4 := Lib.hid (HT3.out.ext hE)
    replace kP := kP.ext hE
    have hw4 : Below w.heap.size w w4 := hw3.trans (hE.mono hw3.size)
    clear hE p0 p1 p2 p3 p4 p5 p6 p7 p8 p9 p10 p11
    obtain ⟨p0, p1, p2, p3, p4, p5, p6, p7, p8, p9, p10, p11⟩ := cells12 kP
    go_wp2_with fail
    clear p0 p1 p2 p3 p4 p5 p6 p7 p8 p9 p10 p11
    have d5 : decide (0 < fa) = false := decide_eq_false (by omega)
    have d6 : decide (0 < az) = false := decide_eq_false (by omega)
    try have d1 : decide (ab ≤ 0) = false := decide_eq_false (by omega)
    try have d1 : decide (ab ≤ 0) = true := decide_eq_true (by omega)
    try have d2 : decide (bc ≤ 0) = false := decide_eq_false (by omega)
    try have d2 : decide (bc ≤ 0) = true := decide_eq_true (by omega)
    try have d3 : decide (0 < ac) = false := decide_eq_false (by omega)
    refine wp_region_stab (fun _ => none) (by kernel_rfl) (by kernel_rfl) (fun _ _ h => by cases h) (fun hex => ?_)
    iterate 34
      (refine wpS_one (A := ?_) hex rfl rfl (by simp) ?_ ?_ ?_
       rotate_left 2
       · intro w' hC K hK
         obtain ⟨hcell, hfrz⟩ := bcell hC.1.ext
         obtain ⟨p0, p1, p2, p3, p4, p5, p6, p7, p8, p9, p10, p11⟩ := cells12 (kP.ext hC.1.ext); have hTw := Lib.hid (HT4.out.ext hC.1.ext); clear hcell hfrz
         go_wp2_with (first | (go_at_call 21; refine (all_eq' f HL.out.p_f _).mono ?_; rintro e w2 ⟨rfl, hb2⟩) | (go_at_call 35; ((first | with_reducible refine (cmp_eq f a _ HL.out.p_fa _ hTw.out).mono ?_ | with_reducible refine (cmp_eq0 a _ HL.out.p_az _ hTw.out).mono ?_); rintro e w2 ⟨rfl, hb2⟩)))
         refine hK _ ?_
         first | exact Gr.refl _ _ | exact Gr.of_ext (by assumption) hC.1.1.size
       rotate_left 1
       · rfl
       clear hex; intro hex)
    refine wpS_nil fun w5 hE => ?_
    replace hE := hE.1.ext
    obtain ⟨hcell_w5, hfrz_w5⟩ := bcell hE
    clear hcell_w5 hfrz_w5 hex d5 d6
    have HT5 := Lib.hid (HT4.out.ext hE)
    replace kP := kP.ext hE
    have hw5 : Below w.heap.size w w5 := hw4.trans (hE.mono hw4.size)
    clear hE
    obtain ⟨p0, p1, p2, p3, p4, p5, p6, p7, p8, p9, p10, p11⟩ := cells12 kP
    go_wp2_with fail
    refine (union_eq a b u HL.out.p_u _).mono ?_
    rintro e w6 ⟨rfl, hE⟩
    have HT6 := Lib.hid ((HT5.out.ext hE).ext (Below.alloc (Below.refl _ _) (Nat.le_refl _) (.cells (svs u) 25)))
    replace kP := kP.ext hE
    have hw6 : Below w.heap.size w w6 := hw5.trans (hE.mono hw5.size)
    clear hE p0 p1 p2 p3 p4 p5 p6 p7 p8 p9 p10 p11
    have heu := HU.out.1
    have hun := HU.out.2
    cases qu
    all_goals
      go_wp2_with fail
      refine wp_region_stab (fun _ => none) (by kernel_rfl) (by kernel_rfl) (fun _ _ h => by cases h) (fun hex => ?_)
      iterate 14
        (refine wpS_one (A := ?_) hex rfl rfl (by simp) ?_ ?_ ?_
         rotate_left 2
         · intro w' hC K hK
           obtain ⟨hcell, hfrz⟩ := bcell hC.1.ext
           obtain ⟨p0, p1, p2, p3, p4, p5, p6, p7, p8, p9, p10, p11⟩ := cells12 ((kP.alloc _).ext hC.1.ext); obtain ⟨u0, u1, u2, u3⟩ := ((Blk.new w6 (svs u) _).ext hC.1.ext).cells4; have hTw := Lib.hid (HT6.out.ext hC.1.ext); clear hcell hfrz
           go_wp2_with (first | (go_at_call 35; refine (cmp_eq u a _ HL.out.p_ua _ hTw.out).mono ?_; rintro e w2 ⟨rfl, hb2⟩) | (go_at_call 38; refine (wakes_any _ hTw.out).mono ?_; rintro e w2 ⟨rfl, hb2⟩))
           refine hK _ ?_
           first | exact Gr.refl _ _ | exact Gr.of_ext (by assumption) hC.1.1.size
         rotate_left 1
         · rfl
         clear hex; intro hex)
      refine wpS_nil fun w7 hE => ?_
      replace hE := hE.1.ext
      obtain ⟨hcell_w7, hfrz_w7⟩ := bcell hE
      clear hcell_w7 hfrz_w7 hex
      have hw7 : Below w.heap.size w w7 := (hw6.alloc hw6.size _).trans (hE.mono (by have := hw6.size; simp; omega))
      clear hE
      go_wp2
      go_ret
      exact ⟨rfl, hw7⟩
end Go.Proofs.YtkhmkcaocacfhaaDoor
