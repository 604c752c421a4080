/- The laws of union, cut, difference, complement: the statement's walk. -/
import Derived.Test.YtkhmkcaocacfhaaDoorWakes
import Derived.Test.YtkhmkcaocacfhaaDoorCnt
import Derived.Test.YtkhmkcaocacfhaaDoorRow
namespace Go.Proofs.YtkhmkcaocacfhaaDoor
open Go Go.RowKit
theorem union_eq (s t r : BitVec 256) (h : s ||| t = r) (w : World) :
    Calls Tryd.prog 25 #[sv s, sv t] w fun e w' => e = .returned (sv r) ∧ Below w.heap.size w w' := by subst h; exact union_any s t w
theorem inter_eq (s t r : BitVec 256) (h : s &&& t = r) (w : World) :
    Calls Tryd.prog 27 #[sv s, sv t] w fun e w' => e = .returned (sv r) ∧ Below w.heap.size w w' := by subst h; exact inter_any s t w
theorem minus_eq (s t r : BitVec 256) (h : s &&& ~~~t = r) (w : World) :
    Calls Tryd.prog 29 #[sv s, sv t] w fun e w' => e = .returned (sv r) ∧ Below w.heap.size w w' := by subst h; exact minus_any s t w
theorem within_eq (s t : BitVec 256) (q : Bool) (h : decide (s &&& ~~~t = 0#256) = q) (w : World) :
    Calls Tryd.prog 33 #[sv s, sv t] w fun e w' => e = .returned (.bool q) ∧ Below w.heap.size w w' := by subst h; exact within_any s t w
theorem all_eq (r : BitVec 256) (h : full = r) (w : World) :
    Calls Tryd.prog 21 #[] w fun e w' => e = .returned (sv r) ∧ Below w.heap.size w w' := by subst h; exact all_any w
/-- What is known of three sets. -/
structure LawFacts (a b c u n bc bd ac au r1 r2 r3 r4 r5 na nb m f z : BitVec 256) (q : Bool) (ca cb cu cn cna : Nat) : Prop where
  p_u : a ||| b = u
  p_u' : b ||| a = u
  p_n : a &&& b = n
  p_n' : b &&& a = n
  p_bc : b ||| c = bc
  p_bd : b &&& c = bd
  p_ac : a &&& c = ac
  p_au : a ||| c = au
  p_r1 : u ||| c = r1
  p_r1' : a ||| bc = r1
  p_r2 : n &&& c = r2
  p_r2' : a &&& bd = r2
  p_r3 : a &&& bc = r3
  p_r3' : n ||| ac = r3
  p_r4 : a ||| bd = r4
  p_r4' : u &&& au = r4
  p_na : ~~~a = na
  p_nb : ~~~b = nb
  p_a' : ~~~na = a
  p_r5 : ~~~u = r5
  p_r5' : na &&& nb = r5
  p_f : a ||| na = f
  p_f' : full = f
  p_z : a &&& na = z
  p_z' : z = 0#256
  p_m : a &&& ~~~b = m
  p_m' : a &&& nb = m
  p_w1 : decide (n &&& ~~~a = 0#256) = true
  p_w2 : decide (a &&& ~~~u = 0#256) = true
  p_w3 : decide (a &&& ~~~b = 0#256) = q
  p_q : decide (u = b) = q
  p_ca : cnt a = ca
  p_cb : cnt b = cb
  p_cu : cnt u = cu
  p_cn : cnt n = cn
  p_cna : cnt na = cna
theorem beq_int {a b c d : Nat} (h : a + b = c + d) : ((a : Int) + (b : Int) == (c : Int) + (d : Int)) = true := by simp only [beq_iff_eq]; omega
theorem beq_int' {a b : Nat} (h : a + b = 256) : ((a : Int) + (b : Int) == 256) = true := by simp only [beq_iff_eq]; omega
set_option maxHeartbeats 400000 in
theorem law_facts (a b c : BitVec 256) : ∃ u n bc bd ac au r1 r2 r3 r4 r5 na nb m f z q ca cb cu cn cna, LawFacts a b c u n bc bd ac au r1 r2 r3 r4 r5 na nb m f z q ca cb cu cn cna ∧
    (ca ≤ 256 ∧ cb ≤ 256 ∧ cu ≤ 256 ∧ cn ≤ 256 ∧ cna ≤ 256) ∧ ((cu : Int) + (cn : Int) == (ca : Int) + (cb : Int)) = true ∧ ((ca : Int) + (cna : Int) == 256) = true := by
  refine ⟨_, _, _, _, _, _, _, _, _, _, _, _, _, _, _, _, _, _, _, _, _, _, ⟨rfl, BitVec.or_comm _ _, rfl, BitVec.and_comm _ _, rfl, rfl, rfl, rfl, rfl, (BitVec.or_assoc _ _ _).symm, rfl, (BitVec.and_assoc _ _ _).symm, rfl, ?_, rfl, ?_, rfl, rfl, by simp, rfl, ?_, rfl, (or_compl a).symm, rfl, and_compl a, rfl, rfl, ?_, ?_, rfl, ?_, rfl, rfl, rfl, rfl, rfl⟩, ⟨cnt_le _, cnt_le _, cnt_le _, cnt_le _, cnt_le _⟩, ?_, ?_⟩
  · ext i hi; simp [Bool.and_or_distrib_left]
  · ext i hi; simp [Bool.or_and_distrib_left]
  · ext i hi; simp
  · exact decide_eq_true (within_inter a b)
  · exact decide_eq_true (within_or a b)
  · rw [decide_eq_decide]; exact (within_union a b).symm
  · exact beq_int (cnt_or_and a b)
  · exact beq_int' (cnt_compl a)
theorem Blk.cells12 {w : World} {b : Nat} {t : TypeId} {x0 x1 x2 x3 x4 x5 x6 x7 x8 x9 x10 x11 : Value} (h : Blk w b #[x0, x1, x2, x3, x4, x5, x6, x7, x8, x9, x10, x11] t) : w.cell? ⟨b, 0, none⟩ = some x0 ∧ w.cell? ⟨b, 1, none⟩ = some x1 ∧ w.cell? ⟨b, 2, none⟩ = some x2 ∧ w.cell? ⟨b, 3, none⟩ = some x3 ∧ w.cell? ⟨b, 4, none⟩ = some x4 ∧ w.cell? ⟨b, 5, none⟩ = some x5 ∧ w.cell? ⟨b, 6, none⟩ = some x6 ∧ w.cell? ⟨b, 7, none⟩ = some x7 ∧ w.cell? ⟨b, 8, none⟩ = some x8 ∧ w.cell? ⟨b, 9, none⟩ = some x9 ∧ w.cell? ⟨b, 10, none⟩ = some x10 ∧ w.cell? ⟨b, 11, none⟩ = some x11 :=
  ⟨h.cell 0, h.cell 1, h.cell 2, h.cell 3, h.cell 4, h.cell 5, h.cell 6, h.cell 7, h.cell 8, h.cell 9, h.cell 10, h.cell 11⟩
set_option maxHeartbeats 4000000 in
set_option maxRecDepth 100000 in
theorem laws_any (a b c : BitVec 256) (w : World) (hT : Tab w) :
    Calls Tryd.prog 6 #[.agg (three a b c)] w fun e w' => e = .returned (.bool true) ∧ Below w.heap.size w w' := by
  obtain ⟨u, n, bc, bd, ac, au, r1, r2, r3, r4, r5, na, nb, m, f, z, q, ca, cb, cu, cn, cna, hl, ⟨k1, k2, k3, k4, k5⟩, hq1, hq2⟩ := law_facts a b c
  have hss := set_same
  have hz0 : ∀ w, (Op.equalIn 10000 25 (sv z) sv0).run Tryd.prog w = .ok true w := fun w => by rw [hl.p_z', ← sv_zero]; exact set_same _ w
  have hub : ∀ w, (Op.equalIn 10000 25 (sv u) (sv b)).run Tryd.prog w = .ok q w := fun w => by rw [set_eq, hl.p_q]
  have HL := Lib.hid hl
  have HT := Lib.hid hT
  clear hl hT
  have HZ := Lib.hid (And.intro hub hz0)
  clear hub hz0
  go_enter Tryd.func6, Tryd.ntmps6
  go_wp2_with fail
  refine (union_eq a b u HL.out.p_u _).mono ?_
  rintro e w1 ⟨rfl, hb1⟩
  have hw1 : Below w.heap.size w w1 := by
    refine Below.trans ?_ (hb1.mono (by simp; omega))
    (repeat' (first | (with_reducible exact Below.refl _ _) | (with_reducible assumption) | (with_reducible refine below_drewN ?_ _) | (with_reducible refine Below.alloc ?_ ?_ _) | (with_reducible refine Below.drew ?_) | (with_reducible refine Below.setCell ?_ ?_ _) | (with_reducible refine Below.trans ?_ (Below.mono (by with_reducible assumption) ?_)) | go_size))
  have kA : Blk w1 (w.heap.size + 1) (svs a) 25 := by simpa using (((Blk.new (w.alloc _) (svs a) _).alloc _).alloc _).ext hb1
  have kB : Blk w1 (w.heap.size + 1 + 1) (svs b) 25 := by simpa using ((Blk.new ((w.alloc _).alloc _) (svs b) _).alloc _).ext hb1
  have kC : Blk w1 (w.heap.size + 1 + 1 + 1) (svs c) 25 := by simpa using (Blk.new (((w.alloc _).alloc _).alloc _) (svs c) _).ext hb1
  clear hb1
  obtain ⟨a0, a1, a2, a3⟩ := kA.cells4
  obtain ⟨b0, b1, b2, b3⟩ := kB.cells4
  have zA := kA.lt
  have zB := kB.lt
  go_wp2_with fail
  refine (inter_eq a b n HL.out.p_n _).mono ?_
  rintro e w2 ⟨rfl, hb2⟩
  clear a0 a1 a2 a3 b0 b1 b2 b3 zA zB
  have kU := (Blk.new w1 (svs u) _).ext hb2
  replace kA := (kA.alloc _).ext hb2
  replace kB := (kB.alloc _).ext hb2
  replace kC := (kC.alloc _).ext hb2
  have hw2 : Below w.heap.size w w2 := (hw1.alloc hw1.size _).trans (hb2.mono (by have := hw1.size; simp; omega))
  clear hb2
  go_wp2_with fail
  refine wp_region_stab (fun _ => none) (by kernel_rfl) (by kernel_rfl) (fun _ _ h => by cases h) (fun hex => ?_)
  iterate 34
    (refine wpS_one (A := ?_) hex rfl rfl (by simp) ?_ ?_ ?_
     rotate_left 2
     · intro w' hC K hK
       obtain ⟨hcell, hfrz⟩ := bcell hC.1.ext
       obtain ⟨a0, a1, a2, a3⟩ := ((kA.alloc _).ext hC.1.ext).cells4; obtain ⟨b0, b1, b2, b3⟩ := ((kB.alloc _).ext hC.1.ext).cells4; obtain ⟨c0, c1, c2, c3⟩ := ((kC.alloc _).ext hC.1.ext).cells4; obtain ⟨u0, u1, u2, u3⟩ := ((kU.alloc _).ext hC.1.ext).cells4; obtain ⟨n0, n1, n2, n3⟩ := ((Blk.new w2 (svs n) _).ext hC.1.ext).cells4; clear hcell hfrz
       go_wp2_with (first | (go_at_call 25; ((first | with_reducible refine (union_eq a b u HL.out.p_u _).mono ?_ | with_reducible refine (union_eq b a u HL.out.p_u' _).mono ?_ | with_reducible refine (union_eq u c r1 HL.out.p_r1 _).mono ?_ | with_reducible refine (union_eq b c bc HL.out.p_bc _).mono ?_ | with_reducible refine (union_eq a bc r1 HL.out.p_r1' _).mono ?_ | with_reducible refine (union_eq n ac r3 HL.out.p_r3' _).mono ?_ | with_reducible refine (union_eq a bd r4 HL.out.p_r4 _).mono ?_ | with_reducible refine (union_eq a c au HL.out.p_au _).mono ?_ | with_reducible refine (union_eq a na f HL.out.p_f _).mono ?_); rintro e w2 ⟨rfl, hb2⟩)) | (go_at_call 27; ((first | with_reducible refine (inter_eq a b n HL.out.p_n _).mono ?_ | with_reducible refine (inter_eq b a n HL.out.p_n' _).mono ?_ | with_reducible refine (inter_eq n c r2 HL.out.p_r2 _).mono ?_ | with_reducible refine (inter_eq b c bd HL.out.p_bd _).mono ?_ | with_reducible refine (inter_eq a bd r2 HL.out.p_r2' _).mono ?_ | with_reducible refine (inter_eq a bc r3 HL.out.p_r3 _).mono ?_ | with_reducible refine (inter_eq a c ac HL.out.p_ac _).mono ?_ | with_reducible refine (inter_eq u au r4 HL.out.p_r4' _).mono ?_ | with_reducible refine (inter_eq na nb r5 HL.out.p_r5' _).mono ?_ | with_reducible refine (inter_eq a na z HL.out.p_z _).mono ?_ | with_reducible refine (inter_eq a nb m HL.out.p_m' _).mono ?_); rintro e w2 ⟨rfl, hb2⟩)) | (go_at_call 31; ((first | with_reducible refine (compl_eq a na HL.out.p_na _).mono ?_ | with_reducible refine (compl_eq b nb HL.out.p_nb _).mono ?_ | with_reducible refine (compl_eq na a HL.out.p_a' _).mono ?_ | with_reducible refine (compl_eq u r5 HL.out.p_r5 _).mono ?_); rintro e w2 ⟨rfl, hb2⟩)) | (go_at_call 29; with_reducible refine (minus_eq a b m HL.out.p_m _).mono ?_; rintro e w2 ⟨rfl, hb2⟩) | (go_at_call 21; with_reducible refine (all_eq f HL.out.p_f' _).mono ?_; rintro e w2 ⟨rfl, hb2⟩) | (go_at_call 33; ((first | with_reducible refine (within_eq n a true HL.out.p_w1 _).mono ?_ | with_reducible refine (within_eq a u true HL.out.p_w2 _).mono ?_ | with_reducible refine (within_eq a b q HL.out.p_w3 _).mono ?_); rintro e w2 ⟨rfl, hb2⟩)) | (go_at_call 40; ((first | with_reducible refine (count_eq a ca HL.out.p_ca _).mono ?_ | with_reducible refine (count_eq b cb HL.out.p_cb _).mono ?_ | with_reducible refine (count_eq u cu HL.out.p_cu _).mono ?_ | with_reducible refine (count_eq n cn HL.out.p_cn _).mono ?_ | with_reducible refine (count_eq na cna HL.out.p_cna _).mono ?_); rintro e w2 ⟨rfl, hb2⟩)))
       refine hK _ ?_
       first | exact Gr.refl _ _ | exact Gr.of_ext (by assumption) hC.1.1.size
     rotate_left 1
     · rfl
     clear hex; intro hex)
  refine wpS_nil fun w3 hE => ?_
  replace hE := hE.1.ext
  obtain ⟨hcell_w3, hfrz_w3⟩ := bcell hE
  clear hcell_w3 hfrz_w3 hex
  have kN := (Blk.new w2 (svs n) _).ext hE
  replace kA := (kA.alloc _).ext hE
  replace kB := (kB.alloc _).ext hE
  replace kC := (kC.alloc _).ext hE
  replace kU := (kU.alloc _).ext hE
  have hw3 : Below w.heap.size w w3 := (hw2.alloc hw2.size _).trans (hE.mono (by have := hw2.size; simp; omega))
  clear hE
  go_wp2_with fail
  refine wp_region_stab (fun _ => none) (by kernel_rfl) (by kernel_rfl) (fun _ _ h => by cases h) (fun hex => ?_)
  iterate 24
    (refine wpS_one (A := ?_) hex rfl rfl (by simp) ?_ ?_ ?_
     rotate_left 2
     · intro w' hC K hK
       obtain ⟨hcell, hfrz⟩ := bcell hC.1.ext
       obtain ⟨a0, a1, a2, a3⟩ := (kA.ext hC.1.ext).cells4; obtain ⟨b0, b1, b2, b3⟩ := (kB.ext hC.1.ext).cells4; obtain ⟨c0, c1, c2, c3⟩ := (kC.ext hC.1.ext).cells4; obtain ⟨u0, u1, u2, u3⟩ := (kU.ext hC.1.ext).cells4; obtain ⟨n0, n1, n2, n3⟩ := (kN.ext hC.1.ext).cells4; clear hcell hfrz
       go_wp2_with (first | (go_at_call 25; ((first | with_reducible refine (union_eq a b u HL.out.p_u _).mono ?_ | with_reducible refine (union_eq b a u HL.out.p_u' _).mono ?_ | with_reducible refine (union_eq u c r1 HL.out.p_r1 _).mono ?_ | with_reducible refine (union_eq b c bc HL.out.p_bc _).mono ?_ | with_reducible refine (union_eq a bc r1 HL.out.p_r1' _).mono ?_ | with_reducible refine (union_eq n ac r3 HL.out.p_r3' _).mono ?_ | with_reducible refine (union_eq a bd r4 HL.out.p_r4 _).mono ?_ | with_reducible refine (union_eq a c au HL.out.p_au _).mono ?_ | with_reducible refine (union_eq a na f HL.out.p_f _).mono ?_); rintro e w2 ⟨rfl, hb2⟩)) | (go_at_call 27; ((first | with_reducible refine (inter_eq a b n HL.out.p_n _).mono ?_ | with_reducible refine (inter_eq b a n HL.out.p_n' _).mono ?_ | with_reducible refine (inter_eq n c r2 HL.out.p_r2 _).mono ?_ | with_reducible refine (inter_eq b c bd HL.out.p_bd _).mono ?_ | with_reducible refine (inter_eq a bd r2 HL.out.p_r2' _).mono ?_ | with_reducible refine (inter_eq a bc r3 HL.out.p_r3 _).mono ?_ | with_reducible refine (inter_eq a c ac HL.out.p_ac _).mono ?_ | with_reducible refine (inter_eq u au r4 HL.out.p_r4' _).mono ?_ | with_reducible refine (inter_eq na nb r5 HL.out.p_r5' _).mono ?_ | with_reducible refine (inter_eq a na z HL.out.p_z _).mono ?_ | with_reducible refine (inter_eq a nb m HL.out.p_m' _).mono ?_); rintro e w2 ⟨rfl, hb2⟩)) | (go_at_call 31; ((first | with_reducible refine (compl_eq a na HL.out.p_na _).mono ?_ | with_reducible refine (compl_eq b nb HL.out.p_nb _).mono ?_ | with_reducible refine (compl_eq na a HL.out.p_a' _).mono ?_ | with_reducible refine (compl_eq u r5 HL.out.p_r5 _).mono ?_); rintro e w2 ⟨rfl, hb2⟩)) | (go_at_call 29; with_reducible refine (minus_eq a b m HL.out.p_m _).mono ?_; rintro e w2 ⟨rfl, hb2⟩) | (go_at_call 21; with_reducible refine (all_eq f HL.out.p_f' _).mono ?_; rintro e w2 ⟨rfl, hb2⟩) | (go_at_call 33; ((first | with_reducible refine (within_eq n a true HL.out.p_w1 _).mono ?_ | with_reducible refine (within_eq a u true HL.out.p_w2 _).mono ?_ | with_reducible refine (within_eq a b q HL.out.p_w3 _).mono ?_); rintro e w2 ⟨rfl, hb2⟩)) | (go_at_call 40; ((first | with_reducible refine (count_eq a ca HL.out.p_ca _).mono ?_ | with_reducible refine (count_eq b cb HL.out.p_cb _).mono ?_ | with_reducible refine (count_eq u cu HL.out.p_cu _).mono ?_ | with_reducible refine (count_eq n cn HL.out.p_cn _).mono ?_ | with_reducible refine (count_eq na cna HL.out.p_cna _).mono ?_); rintro e w2 ⟨rfl, hb2⟩)))
       refine hK _ ?_
       first | exact Gr.refl _ _ | exact Gr.of_ext (by assumption) hC.1.1.size
     rotate_left 1
     · rfl
     clear hex; intro hex)
  refine wpS_nil fun w4 hE => ?_
  replace hE := hE.1.ext
  obtain ⟨hcell_w4, hfrz_w4⟩ := bcell hE
  clear hcell_w4 hfrz_w4 hex
  replace kA := kA.ext hE
  replace kB := kB.ext hE
  replace kC := kC.ext hE
  replace kU := kU.ext hE
  replace kN := kN.ext hE
  have hw4 : Below w.heap.size w w4 := hw3.trans (hE.mono hw3.size)
  clear hE
  obtain ⟨a0, a1, a2, a3⟩ := kA.cells4
  go_wp2_with fail
  refine (compl_eq a na HL.out.p_na _).mono ?_
  rintro e w5 ⟨rfl, hE⟩
  clear a0 a1 a2 a3
  replace kA := kA.ext hE
  replace kB := kB.ext hE
  replace kC := kC.ext hE
  replace kU := kU.ext hE
  replace kN := kN.ext hE
  have hw5 : Below w.heap.size w w5 := hw4.trans (hE.mono hw4.size)
  clear hE
  go_wp2_with fail
  have hz0 := HZ.out.2
  refine wp_region_stab (fun _ => none) (by kernel_rfl) (by kernel_rfl) (fun _ _ h => by cases h) (fun hex => ?_)
  iterate 27
    (refine wpS_one (A := ?_) hex rfl rfl (by simp) ?_ ?_ ?_
     rotate_left 2
     · intro w' hC K hK
       obtain ⟨hcell, hfrz⟩ := bcell hC.1.ext
       obtain ⟨a0, a1, a2, a3⟩ := ((kA.alloc _).ext hC.1.ext).cells4; obtain ⟨b0, b1, b2, b3⟩ := ((kB.alloc _).ext hC.1.ext).cells4; obtain ⟨c0, c1, c2, c3⟩ := ((kC.alloc _).ext hC.1.ext).cells4; obtain ⟨u0, u1, u2, u3⟩ := ((kU.alloc _).ext hC.1.ext).cells4; obtain ⟨n0, n1, n2, n3⟩ := ((kN.alloc _).ext hC.1.ext).cells4; obtain ⟨d0, d1, d2, d3⟩ := ((Blk.new w5 (svs na) _).ext hC.1.ext).cells4; clear hcell hfrz
       go_wp2_with (first | (go_at_call 25; ((first | with_reducible refine (union_eq a b u HL.out.p_u _).mono ?_ | with_reducible refine (union_eq b a u HL.out.p_u' _).mono ?_ | with_reducible refine (union_eq u c r1 HL.out.p_r1 _).mono ?_ | with_reducible refine (union_eq b c bc HL.out.p_bc _).mono ?_ | with_reducible refine (union_eq a bc r1 HL.out.p_r1' _).mono ?_ | with_reducible refine (union_eq n ac r3 HL.out.p_r3' _).mono ?_ | with_reducible refine (union_eq a bd r4 HL.out.p_r4 _).mono ?_ | with_reducible refine (union_eq a c au HL.out.p_au _).mono ?_ | with_reducible refine (union_eq a na f HL.out.p_f _).mono ?_); rintro e w2 ⟨rfl, hb2⟩)) | (go_at_call 27; ((first | with_reducible refine (inter_eq a b n HL.out.p_n _).mono ?_ | with_reducible refine (inter_eq b a n HL.out.p_n' _).mono ?_ | with_reducible refine (inter_eq n c r2 HL.out.p_r2 _).mono ?_ | with_reducible refine (inter_eq b c bd HL.out.p_bd _).mono ?_ | with_reducible refine (inter_eq a bd r2 HL.out.p_r2' _).mono ?_ | with_reducible refine (inter_eq a bc r3 HL.out.p_r3 _).mono ?_ | with_reducible refine (inter_eq a c ac HL.out.p_ac _).mono ?_ | with_reducible refine (inter_eq u au r4 HL.out.p_r4' _).mono ?_ | with_reducible refine (inter_eq na nb r5 HL.out.p_r5' _).mono ?_ | with_reducible refine (inter_eq a na z HL.out.p_z _).mono ?_ | with_reducible refine (inter_eq a nb m HL.out.p_m' _).mono ?_); rintro e w2 ⟨rfl, hb2⟩)) | (go_at_call 31; ((first | with_reducible refine (compl_eq a na HL.out.p_na _).mono ?_ | with_reducible refine (compl_eq b nb HL.out.p_nb _).mono ?_ | with_reducible refine (compl_eq na a HL.out.p_a' _).mono ?_ | with_reducible refine (compl_eq u r5 HL.out.p_r5 _).mono ?_); rintro e w2 ⟨rfl, hb2⟩)) | (go_at_call 29; with_reducible refine (minus_eq a b m HL.out.p_m _).mono ?_; rintro e w2 ⟨rfl, hb2⟩) | (go_at_call 21; with_reducible refine (all_eq f HL.out.p_f' _).mono ?_; rintro e w2 ⟨rfl, hb2⟩) | (go_at_call 33; ((first | with_reducible refine (within_eq n a true HL.out.p_w1 _).mono ?_ | with_reducible refine (within_eq a u true HL.out.p_w2 _).mono ?_ | with_reducible refine (within_eq a b q HL.out.p_w3 _).mono ?_); rintro e w2 ⟨rfl, hb2⟩)) | (go_at_call 40; ((first | with_reducible refine (count_eq a ca HL.out.p_ca _).mono ?_ | with_reducible refine (count_eq b cb HL.out.p_cb _).mono ?_ | with_reducible refine (count_eq u cu HL.out.p_cu _).mono ?_ | with_reducible refine (count_eq n cn HL.out.p_cn _).mono ?_ | with_reducible refine (count_eq na cna HL.out.p_cna _).mono ?_); rintro e w2 ⟨rfl, hb2⟩)))
       refine hK _ ?_
       first | exact Gr.refl _ _ | exact Gr.of_ext (by assumption) hC.1.1.size
     rotate_left 1
     · rfl
     clear hex; intro hex)
  refine wpS_nil fun w6 hE => ?_
  replace hE := hE.1.ext
  obtain ⟨hcell_w6, hfrz_w6⟩ := bcell hE
  clear hcell_w6 hfrz_w6 hex hz0
  have kD := (Blk.new w5 (svs na) _).ext hE
  replace kA := kA.alloc _ |>.ext hE
  replace kB := kB.alloc _ |>.ext hE
  replace kC := kC.alloc _ |>.ext hE
  replace kU := kU.alloc _ |>.ext hE
  replace kN := kN.alloc _ |>.ext hE
  have hw6 : Below w.heap.size w w6 := (hw5.alloc hw5.size _).trans (hE.mono (by have := hw5.size; simp; omega))
  clear hE
  go_wp2_with fail
  have hub := HZ.out.1
  refine wp_region_stab (fun _ => none) (by kernel_rfl) (by kernel_rfl) (fun _ _ h => by cases h) (fun hex => ?_)
  iterate 29
    (refine wpS_one (A := ?_) hex rfl rfl (by simp) ?_ ?_ ?_
     rotate_left 2
     · intro w' hC K hK
       obtain ⟨hcell, hfrz⟩ := bcell hC.1.ext
       obtain ⟨a0, a1, a2, a3⟩ := (kA.ext hC.1.ext).cells4; obtain ⟨b0, b1, b2, b3⟩ := (kB.ext hC.1.ext).cells4; obtain ⟨c0, c1, c2, c3⟩ := (kC.ext hC.1.ext).cells4; obtain ⟨u0, u1, u2, u3⟩ := (kU.ext hC.1.ext).cells4; obtain ⟨n0, n1, n2, n3⟩ := (kN.ext hC.1.ext).cells4; clear hcell hfrz
       go_wp2_with (first | (go_at_call 25; ((first | with_reducible refine (union_eq a b u HL.out.p_u _).mono ?_ | with_reducible refine (union_eq b a u HL.out.p_u' _).mono ?_ | with_reducible refine (union_eq u c r1 HL.out.p_r1 _).mono ?_ | with_reducible refine (union_eq b c bc HL.out.p_bc _).mono ?_ | with_reducible refine (union_eq a bc r1 HL.out.p_r1' _).mono ?_ | with_reducible refine (union_eq n ac r3 HL.out.p_r3' _).mono ?_ | with_reducible refine (union_eq a bd r4 HL.out.p_r4 _).mono ?_ | with_reducible refine (union_eq a c au HL.out.p_au _).mono ?_ | with_reducible refine (union_eq a na f HL.out.p_f _).mono ?_); rintro e w2 ⟨rfl, hb2⟩)) | (go_at_call 27; ((first | with_reducible refine (inter_eq a b n HL.out.p_n _).mono ?_ | with_reducible refine (inter_eq b a n HL.out.p_n' _).mono ?_ | with_reducible refine (inter_eq n c r2 HL.out.p_r2 _).mono ?_ | with_reducible refine (inter_eq b c bd HL.out.p_bd _).mono ?_ | with_reducible refine (inter_eq a bd r2 HL.out.p_r2' _).mono ?_ | with_reducible refine (inter_eq a bc r3 HL.out.p_r3 _).mono ?_ | with_reducible refine (inter_eq a c ac HL.out.p_ac _).mono ?_ | with_reducible refine (inter_eq u au r4 HL.out.p_r4' _).mono ?_ | with_reducible refine (inter_eq na nb r5 HL.out.p_r5' _).mono ?_ | with_reducible refine (inter_eq a na z HL.out.p_z _).mono ?_ | with_reducible refine (inter_eq a nb m HL.out.p_m' _).mono ?_); rintro e w2 ⟨rfl, hb2⟩)) | (go_at_call 31; ((first | with_reducible refine (compl_eq a na HL.out.p_na _).mono ?_ | with_reducible refine (compl_eq b nb HL.out.p_nb _).mono ?_ | with_reducible refine (compl_eq na a HL.out.p_a' _).mono ?_ | with_reducible refine (compl_eq u r5 HL.out.p_r5 _).mono ?_); rintro e w2 ⟨rfl, hb2⟩)) | (go_at_call 29; with_reducible refine (minus_eq a b m HL.out.p_m _).mono ?_; rintro e w2 ⟨rfl, hb2⟩) | (go_at_call 21; with_reducible refine (all_eq f HL.out.p_f' _).mono ?_; rintro e w2 ⟨rfl, hb2⟩) | (go_at_call 33; ((first | with_reducible refine (within_eq n a true HL.out.p_w1 _).mono ?_ | with_reducible refine (within_eq a u true HL.out.p_w2 _).mono ?_ | with_reducible refine (within_eq a b q HL.out.p_w3 _).mono ?_); rintro e w2 ⟨rfl, hb2⟩)) | (go_at_call 40; ((first | with_reducible refine (count_eq a ca HL.out.p_ca _).mono ?_ | with_reducible refine (count_eq b cb HL.out.p_cb _).mono ?_ | with_reducible refine (count_eq u cu HL.out.p_cu _).mono ?_ | with_reducible refine (count_eq n cn HL.out.p_cn _).mono ?_ | with_reducible refine (count_eq na cna HL.out.p_cna _).mono ?_); rintro e w2 ⟨rfl, hb2⟩)))
       refine hK _ ?_
       first | exact Gr.refl _ _ | exact Gr.of_ext (by assumption) hC.1.1.size
     rotate_left 1
     · rfl
     clear hex; intro hex)
  refine wpS_nil fun w7 hE => ?_
  replace hE := hE.1.ext
  obtain ⟨hcell_w7, hfrz_w7⟩ := bcell hE
  clear hcell_w7 hfrz_w7 hex hub
  replace kA := kA.ext hE
  replace kB := kB.ext hE
  replace kC := kC.ext hE
  replace kU := kU.ext hE
  replace kN := kN.ext hE
  replace kD := kD.ext hE
  have hw7 : Below w.heap.size w w7 := hw6.trans (hE.mono hw6.size)
  clear hE
  go_wp2_with fail
  refine wp_region_stab (fun _ => none) (by kernel_rfl) (by kernel_rfl) (fun _ _ h => by cases h) (fun hex => ?_)
  iterate 23
    (refine wpS_one (A := ?_) hex rfl rfl (by simp) ?_ ?_ ?_
     rotate_left 2
     · intro w' hC K hK
       obtain ⟨hcell, hfrz⟩ := bcell hC.1.ext
       obtain ⟨a0, a1, a2, a3⟩ := (kA.ext hC.1.ext).cells4; obtain ⟨b0, b1, b2, b3⟩ := (kB.ext hC.1.ext).cells4; obtain ⟨c0, c1, c2, c3⟩ := (kC.ext hC.1.ext).cells4; obtain ⟨u0, u1, u2, u3⟩ := (kU.ext hC.1.ext).cells4; obtain ⟨n0, n1, n2, n3⟩ := (kN.ext hC.1.ext).cells4; obtain ⟨d0, d1, d2, d3⟩ := (kD.ext hC.1.ext).cells4; have hTw := Lib.hid ((HT.out.ext hw7).ext hC.1.ext); clear hcell hfrz
       go_wp2_with (first | (go_at_call 38; refine (wakes_any _ hTw.out).mono ?_; rintro e w2 ⟨rfl, hb2⟩) | (first | (go_at_call 25; ((first | with_reducible refine (union_eq a b u HL.out.p_u _).mono ?_ | with_reducible refine (union_eq b a u HL.out.p_u' _).mono ?_ | with_reducible refine (union_eq u c r1 HL.out.p_r1 _).mono ?_ | with_reducible refine (union_eq b c bc HL.out.p_bc _).mono ?_ | with_reducible refine (union_eq a bc r1 HL.out.p_r1' _).mono ?_ | with_reducible refine (union_eq n ac r3 HL.out.p_r3' _).mono ?_ | with_reducible refine (union_eq a bd r4 HL.out.p_r4 _).mono ?_ | with_reducible refine (union_eq a c au HL.out.p_au _).mono ?_ | with_reducible refine (union_eq a na f HL.out.p_f _).mono ?_); rintro e w2 ⟨rfl, hb2⟩)) | (go_at_call 27; ((first | with_reducible refine (inter_eq a b n HL.out.p_n _).mono ?_ | with_reducible refine (inter_eq b a n HL.out.p_n' _).mono ?_ | with_reducible refine (inter_eq n c r2 HL.out.p_r2 _).mono ?_ | with_reducible refine (inter_eq b c bd HL.out.p_bd _).mono ?_ | with_reducible refine (inter_eq a bd r2 HL.out.p_r2' _).mono ?_ | with_reducible refine (inter_eq a bc r3 HL.out.p_r3 _).mono ?_ | with_reducible refine (inter_eq a c ac HL.out.p_ac _).mono ?_ | with_reducible refine (inter_eq u au r4 HL.out.p_r4' _).mono ?_ | with_reducible refine (inter_eq na nb r5 HL.out.p_r5' _).mono ?_ | with_reducible refine (inter_eq a na z HL.out.p_z _).mono ?_ | with_reducible refine (inter_eq a nb m HL.out.p_m' _).mono ?_); rintro e w2 ⟨rfl, hb2⟩)) | (go_at_call 31; ((first | with_reducible refine (compl_eq a na HL.out.p_na _).mono ?_ | with_reducible refine (compl_eq b nb HL.out.p_nb _).mono ?_ | with_reducible refine (compl_eq na a HL.out.p_a' _).mono ?_ | with_reducible refine (compl_eq u r5 HL.out.p_r5 _).mono ?_); rintro e w2 ⟨rfl, hb2⟩)) | (go_at_call 29; with_reducible refine (minus_eq a b m HL.out.p_m _).mono ?_; rintro e w2 ⟨rfl, hb2⟩) | (go_at_call 21; with_reducible refine (all_eq f HL.out.p_f' _).mono ?_; rintro e w2 ⟨rfl, hb2⟩) | (go_at_call 33; ((first | with_reducible refine (within_eq n a true HL.out.p_w1 _).mono ?_ | with_reducible refine (within_eq a u true HL.out.p_w2 _).mono ?_ | with_reducible refine (within_eq a b q HL.out.p_w3 _).mono ?_); rintro e w2 ⟨rfl, hb2⟩)) | (go_at_call 40; ((first | with_reducible refine (count_eq a ca HL.out.p_ca _).mono ?_ | with_reducible refine (count_eq b cb HL.out.p_cb _).mono ?_ | with_reducible refine (count_eq u cu HL.out.p_cu _).mono ?_ | with_reducible refine (count_eq n cn HL.out.p_cn _).mono ?_ | with_reducible refine (count_eq na cna HL.out.p_cna _).mono ?_); rintro e w2 ⟨rfl, hb2⟩))))
       refine hK _ ?_
       first | exact Gr.refl _ _ | exact Gr.of_ext (by assumption) hC.1.1.size
     rotate_left 1
     · rfl
     clear hex; intro hex)
  refine wpS_nil fun w8 hE => ?_
  replace hE := hE.1.ext
  obtain ⟨hcell_w8, hfrz_w8⟩ := bcell hE
  clear hcell_w8 hfrz_w8 hex
  have hw8 : Below w.heap.size w w8 := hw7.trans (hE.mono hw7.size)
  clear hE
  go_wp2
  go_ret
  exact ⟨rfl, hw8⟩
end Go.Proofs.YtkhmkcaocacfhaaDoor
