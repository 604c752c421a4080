/- LexLong, which takes nothing, returns true and leaves what it read as it was: on the conditions that the errors, the tables and the type that errors.As asks for, which the card ties to the program's text, stand in their variables when the call begins. -/
import Derived.Test.YtecjodcaeldidaaGreatDoorLexA
import Derived.Test.YtecjodcaeldidaaGreatDoorBse
import Derived.Deep.CutBlock
import Derived.Deep.CutRange
namespace Go.Proofs.YtecjodcaeldidaaGreatDoor
open Go Go.RowKit
/-- What a refusal of Lex tells. -/
def dr (r : Option (Bool × Nat)) : Option (Nat × Int) := r.map fun x => (if x.1 = true then 2 else 1, (x.2 : Int))
theorem lex_er (ea : Nat → Addr) (s : ByteArray) (hs : s.size ≤ 65536) (w : World) (hK : Kg w ea) (L : List Lxm) (r : Option (Bool × Nat)) (hx : lxs s.size (rest s 0) 0 = (L, r)) :
    Calls Tryz.prog 13 #[.string s] w fun e w' => ∃ v u, e = .returned (.tuple #[v, u]) ∧ w'.ownsRow w.heap.size 47 9 v L.length (L.flatMap lcl) ∧ Er w' ea u (dr r) ∧ Ext w w' := by
  refine (lex_any s hs (ea 1) (ea 2) w hK.kn L r hx).mono ?_
  rintro e w' ⟨v, u, rfl, ho, hu, hE⟩
  refine ⟨v, u, rfl, ho, ?_, hE⟩
  cases r with
  | none => exact hu
  | some x =>
    obtain ⟨b, q⟩ := x
    cases b with
    | true => exact er_placed (hK.sent.ext hE) (show 2 < 16 by decide) hu
    | false => exact er_placed (hK.sent.ext hE) (show 1 < 16 by decide) hu
theorem dr_shr (r : Option (Bool × Nat)) (d : Nat) : erC (dr (shr d r)) = erC (dr r) ∧ (erC (dr r) = 0 ∨ ((erC (dr r) != 0) = true ∧ erA (dr (shr d r)) = erA (dr r) + d)) := by
  cases r with
  | none => exact ⟨rfl, .inl rfl⟩
  | some x =>
    obtain ⟨b, q⟩ := x
    refine ⟨rfl, .inr ⟨by cases b <;> rfl, ?_⟩⟩
    show ((q + d : Nat) : Int) = (q : Int) + d
    omega
theorem rest_app (A s : ByteArray) : rest (A ++ s) 0 = A.data.toList ++ rest s 0 := by
  unfold rest
  simp
abbrev ahB : ByteArray := ⟨#[32, 9, 35, 32, 120]⟩ ++ ⟨#[10]⟩
set_option maxHeartbeats 4000000 in
set_option maxRecDepth 20000 in
theorem lsame_any (s : ByteArray) (ea : Nat → Addr) (w : World) (hK : Kg w ea) :
    Calls Tryz.prog 5 #[.string s] w fun e w' => e = .returned (.bool true) ∧ Ext w w' := by
  have HK := Lib.hid hK
  clear hK
  by_cases h6 : 6000 < s.size
  · have d1 : decide ((6000 : Int) < (s.size : Int)) = true := by simp; omega
    have d1n : decide (6000 < s.size) = true := by simp; omega
    clear h6
    go_enter Tryz.func5, Tryz.ntmps5
    go_wp2_with fail
    refine (lwakes_any (ea 1) (ea 2) _ HK.out.kn).mono ?_
    rintro e w1 ⟨rfl, hx⟩
    have HX := Lib.hid hx
    clear hx
    go_wp2_with fail
    go_ret
    exact ⟨rfl, HX.out⟩
  · have d1 : decide ((6000 : Int) < (s.size : Int)) = false := by simp; omega
    have d1n : decide (6000 < s.size) = false := by simp; omega
    obtain ⟨⟨L, r⟩, hx⟩ : ∃ x, lxs s.size (rest s 0) 0 = x := ⟨_, rfl⟩
    have hlen : (rest s 0).length = s.size := by have := rest_len (show 0 ≤ s.size by omega); omega
    obtain ⟨T, hT⟩ : ∃ T, ahB ++ s = T := ⟨_, rfl⟩
    have hTs : T.size = s.size + 6 := by
      rw [← hT, ByteArray.size_append]
      have : ahB.size = 6 := by decide
      omega
    have hTr : rest T 0 = aheadL ++ rest s 0 := by rw [← hT, rest_app]; rfl
    have hx2 : lxs T.size (rest T 0) 0 = (⟨6, 5, 6, [], 0, 0#256⟩ :: L.map (mvl 6), shr 6 r) := by
      rw [hTr, hTs, ← hlen, lex_ahead, hlen, hx]
    have hbn := lxs_bnd s.size (rest s 0) 0
    rw [hx, hlen] at hbn
    have hbn1 : ∀ y ∈ L, y.a ≤ 6000 ∧ y.e ≤ 6000 := fun y hy => by have := hbn.1 y hy; omega
    have hbn2 : 0 ≤ erA (dr r) ∧ erA (dr r) ≤ 6000 := by
      cases hr : r with
      | none => simp [dr, erA]
      | some x =>
        obtain ⟨b, q⟩ := x
        have := hbn.2 b q hr
        show (0 : Int) ≤ (q : Int) ∧ (q : Int) ≤ 6000
        omega
    have HBN := Lib.hid hbn1
    clear hbn hbn1
    have HL1 := Lib.hid (fun w hK => lex_er ea s (by omega) w hK L r hx)
    have HL2 := Lib.hid (fun w hK => lex_er ea T (by omega) w hK _ _ hx2)
    obtain ⟨hc, hco⟩ := dr_shr r 6
    obtain ⟨d, hd⟩ : ∃ d, dr r = d := ⟨_, rfl⟩
    obtain ⟨d2, hd2⟩ : ∃ d2, dr (shr 6 r) = d2 := ⟨_, rfl⟩
    rw [hd] at HL1 hc hco hbn2
    rw [hd2] at HL2 hc hco
    obtain ⟨C, hC⟩ : ∃ C, erC d = C := ⟨_, rfl⟩
    obtain ⟨Q, hQ⟩ : ∃ Q, erA d = Q := ⟨_, rfl⟩
    obtain ⟨Q2, hQ2⟩ : ∃ Q2, erA d2 = Q2 := ⟨_, rfl⟩
    rw [hC] at hc hco
    rw [hQ, hQ2] at hco
    rw [hQ] at hbn2
    have HT1 := Lib.hid (fun u w hK h => tell_er ea u d w hK h)
    have HT2 := Lib.hid (fun u w hK h => tell_er ea u d2 w hK h)
    rw [hC, hQ] at HT1
    rw [hc, hQ2] at HT2
    have hTcat : (⟨#[32, 9, 35, 32, 120]⟩ : ByteArray) ++ ⟨#[10]⟩ ++ s = T := hT
    have HTC := Lib.hid hTcat
    have hcat : ((⟨#[32, 9, 35, 32, 120]⟩ : ByteArray) ++ ⟨#[10]⟩ ++ s).size ≤ 70000 := by rw [hTcat]; omega
    clear hTcat
    have hs6 : s.size ≤ 6000 := by omega
    have hah : ((⟨#[32, 9, 35, 32, 120]⟩ : ByteArray) ++ ⟨#[10]⟩).size = 6 := by decide
    have hT3 : T.size ≤ 65536 := by omega
    have HM := Lib.hid (show (⟨6, 5, 6, [], 0, 0#256⟩ :: L.map (mvl 6)).length = L.length + 1 by simp)
    clear hx hx2 hd hd2 hC hQ hQ2 hT hTr hlen hTs hc h6
    have hse0 : ∀ w, (Op.equalIn 10000 47 (.agg #[.int .i64 6, .int .i64 5, .int .i64 6, .string ⟨#[]⟩, .int .i64 0, .int .u64 0, .int .u64 0, .int .u64 0, .int .u64 0]) (.agg #[.int .i64 6, .int .i64 5, .int .i64 6, .string ⟨#[]⟩, .int .i64 0, .int .u64 0, .int .u64 0, .int .u64 0, .int .u64 0])).run Tryz.prog w = .ok true w := fun w => by
      have := lx_same 6 5 6 ⟨#[]⟩ 0 0#256 w
      simp only [wd_zero] at this
      exact this
    have HSE0 := Lib.hid hse0
    clear hse0
    go_enter Tryz.func5, Tryz.ntmps5
    go_wp2_with fail
    refine (HL1.out _ HK.out).mono ?_
    rintro e w1 ⟨v, u, rfl, hown1, hEr1, hx1⟩
    obtain ⟨⟨a, cap, rfl⟩, hopen1⟩ := lms_of_own hown1
    have HO1 := Lib.hid hopen1
    have HE1 := Lib.hid hx1
    have HR1 := Lib.hid hEr1
    clear hown1 hEr1 hx1 hopen1 HL1
    go_wp2_with fail
    rw [HTC.out]
    refine (HL2.out _ (HK.out.ext HE1.out)).mono ?_
    rintro e w2 ⟨v2, u2, rfl, hown2, hEr2, hx2⟩
    obtain ⟨g2, cap2, rfl, hm1, hm2, hm3, hm4⟩ := (lms_of_own hown2).2 (by rw [HM.out]; omega)
    rw [HM.out] at hm1 ⊢
    have hL63 : L.length + 1 ≤ 9223372036854775807 := by unfold maxLen at hm2; omega
    clear hm1 hm2
    have HM2 := Lib.hid hm4
    have HE2 := Lib.hid (bel_call HE1.out hx2)
    have HX2 := Lib.hid hx2
    have HR1' := Lib.hid (HR1.out.ext hx2)
    have HR2 := Lib.hid hEr2
    clear hown2 hEr2 hx2 hm4 HL2 HR1 hm3
    go_wp2_with fail
    refine (HT1.out u _ (HK.out.ext HE2.out) HR1'.out).mono ?_
    rintro e w3 ⟨f, rfl, ⟨ns, rfl, hns⟩, hE⟩
    obtain ⟨na, nc, rfl⟩ := hns.slice
    have hxa : Ext w2 (w3.alloc (.cells #[.int .i64 C, .int .i64 0, .int .i64 0, .int .i64 Q, .slice na 0 nc] 34)) := bel_alloc hE (Below.refl _ _) _
    have HB1 := Lib.hid (Blk.new w3 #[.int .i64 C, .int .i64 0, .int .i64 0, .int .i64 Q, .slice na 0 nc] 34)
    have HE3 := Lib.hid (bel_call HE2.out hxa)
    have HX3 := Lib.hid (bel_call HX2.out hxa)
    have HM3 := Lib.hid (HM2.out.ext hxa)
    have HR2' := Lib.hid (HR2.out.ext hxa)
    clear hxa hE hns HT1 HR1' HR2 HM2 HX2 HE2
    go_wp2_with fail
    generalize hp1 : w3.heap.size = p1 at HB1 ⊢
    clear hp1
    generalize w3.alloc (.cells #[.int .i64 C, .int .i64 0, .int .i64 0, .int .i64 Q, .slice na 0 nc] 34) = w4 at HE3 HB1 HX3 HM3 HR2' ⊢
    refine (HT2.out u2 _ (HK.out.ext HE3.out) HR2'.out).mono ?_
    rintro e w5 ⟨f, rfl, ⟨ms, rfl, hms⟩, hE⟩
    obtain ⟨ma, mc, rfl⟩ := hms.slice
    have hxa : Ext w4 (w5.alloc (.cells #[.int .i64 C, .int .i64 0, .int .i64 0, .int .i64 Q2, .slice ma 0 mc] 34)) := bel_alloc hE (Below.refl _ _) _
    have HB2 := Lib.hid (Blk.new w5 #[.int .i64 C, .int .i64 0, .int .i64 0, .int .i64 Q2, .slice ma 0 mc] 34)
    have HE5 := Lib.hid (bel_call HE3.out hxa)
    have HX5 := Lib.hid (bel_call HX3.out hxa)
    have HM5 := Lib.hid (HM3.out.ext hxa)
    have HB1' := Lib.hid (HB1.out.ext hxa)
    clear hxa hE hms HT2 HR2' HM3 HX3 HE3 HB1
    go_upto_region 9 with fail
    obtain ⟨x0, x1, x2, x3, x4⟩ := HB1'.out.cells5
    obtain ⟨y0, y1, y2, y3, y4⟩ := HB2.out.cells5
    have z0 : _ = some (Value.int .i64 6) := HM5.out.2 0 (by simp) 0 (by decide)
    have z1 : _ = some (Value.int .i64 5) := HM5.out.2 0 (by simp) 1 (by decide)
    have z2 : _ = some (Value.int .i64 6) := HM5.out.2 0 (by simp) 2 (by decide)
    have z3 : _ = some (Value.string ⟨#[]⟩) := HM5.out.2 0 (by simp) 3 (by decide)
    have z4 : _ = some (Value.int .i64 0) := HM5.out.2 0 (by simp) 4 (by decide)
    have z5 : _ = some (Value.int .u64 (wd 0#256 0)) := HM5.out.2 0 (by simp) 5 (by decide)
    have z6 : _ = some (Value.int .u64 (wd 0#256 1)) := HM5.out.2 0 (by simp) 6 (by decide)
    have z7 : _ = some (Value.int .u64 (wd 0#256 2)) := HM5.out.2 0 (by simp) 7 (by decide)
    have z8 : _ = some (Value.int .u64 (wd 0#256 3)) := HM5.out.2 0 (by simp) 8 (by decide)
    simp only [wd_zero, Nat.zero_mul, Nat.zero_add] at z0 z1 z2 z3 z4 z5 z6 z7 z8
    have hse0 := HSE0.out
    clear hcat hah d1 d1n HSE0
    generalize hp2 : w5.heap.size = p2 at HB2 y0 y1 y2 y3 y4 ⊢
    clear hp2
    generalize w5.alloc (.cells #[.int .i64 C, .int .i64 0, .int .i64 0, .int .i64 Q2, .slice ma 0 mc] 34) = w6 at *
    have HCC := Lib.hid (And.intro HE5 (And.intro HX5 HM5))
    rcases hco with rfl | ⟨hc0, rfl⟩
    · go_wp2_with fail
      clear z0 z1 z2 z3 z4 z5 z6 z7 z8 x0 x1 x2 x3 x4 y0 y1 y2 y3 y4 hse0
      go_loopw [11] (fun i wr => ∃ k : Nat, k ≤ L.length ∧ i = .int .i64 k ∧ Hid (Ext w6 wr)) (fun i _ => L.length - (intOf i).toNat)
      case atStart => exact ⟨0, Nat.zero_le _, rfl, Lib.hid (Below.refl _ _)⟩
      case round =>
        obtain ⟨k, hk, rfl, hEr⟩ := hrel
        by_cases hkl : k < L.length
        · have d1 : decide ((k : Int) < (L.length : Int)) = true := by simp; omega
          obtain ⟨g, cap', e1, _, _, _, hL1⟩ := HO1.out (by omega)
          obtain rfl : a = some ⟨g, 0, none⟩ := by cases e1; rfl
          have hLr := hL1.ext (bel_call HX5.out hEr.out)
          have hMr := HM5.out.ext hEr.out
          obtain ⟨y, hy⟩ : ∃ y, L[k] = y := ⟨_, rfl⟩
          have hLc := fun f hf => hLr.2 k hkl f hf
          have hMc := fun f hf => hMr.2 (k + 1) (by simp; omega) f hf
          simp only [List.getElem_cons_succ, List.getElem_map] at hMc
          rw [hy] at hLc hMc
          have HMC := Lib.hid (show ∀ w', Ext wr w' → ∀ f, f < 9 → w'.cell? ⟨g2, (k + 1) * 9 + f, none⟩ = (lcl (mvl 6 y))[f]? from fun w' hx f hf => by rw [hx.cell (p := ⟨g2, (k + 1) * 9 + f, none⟩) hMr.1]; exact hMc f hf)
          have c0 : wr.cell? ⟨g, k * 9, none⟩ = some (.int .i64 (y.kind : Int)) := hLc 0 (by decide)
          have c1 : wr.cell? ⟨g, k * 9 + 1, none⟩ = some (.int .i64 (y.a : Int)) := hLc 1 (by decide)
          have c2 : wr.cell? ⟨g, k * 9 + 2, none⟩ = some (.int .i64 (y.e : Int)) := hLc 2 (by decide)
          have c3 : wr.cell? ⟨g, k * 9 + 3, none⟩ = some (.string ⟨y.t.toArray⟩) := hLc 3 (by decide)
          have c4 : wr.cell? ⟨g, k * 9 + 4, none⟩ = some (.int .i64 (y.n : Int)) := hLc 4 (by decide)
          have c5 : wr.cell? ⟨g, k * 9 + 5, none⟩ = some (.int .u64 (wd y.S 0)) := hLc 5 (by decide)
          have c6 : wr.cell? ⟨g, k * 9 + 6, none⟩ = some (.int .u64 (wd y.S 1)) := hLc 6 (by decide)
          have c7 : wr.cell? ⟨g, k * 9 + 7, none⟩ = some (.int .u64 (wd y.S 2)) := hLc 7 (by decide)
          have c8 : wr.cell? ⟨g, k * 9 + 8, none⟩ = some (.int .u64 (wd y.S 3)) := hLc 8 (by decide)
          have HSE := Lib.hid (fun w => lx_same (y.kind : Int) ((y.a : Int) + 6) ((y.e : Int) + 6) ⟨y.t.toArray⟩ (y.n : Int) y.S w)
          have hyb := HBN.out y (by rw [← hy]; exact List.getElem_mem hkl)
          have hx7 : Ext wr (wr.alloc (.cells (lcs (y.kind : Int) ((y.a : Int) + 6) ((y.e : Int) + 6) ⟨y.t.toArray⟩ (y.n : Int) (wd y.S 0) (wd y.S 1) (wd y.S 2) (wd y.S 3)) 47)) := by (repeat' (first | (with_reducible exact Below.refl _ _) | (with_reducible assumption) | (with_reducible refine below_drewN ?_ _) | (with_reducible refine Below.alloc ?_ ?_ _) | (with_reducible refine Below.drew ?_) | (with_reducible refine Below.setCell ?_ ?_ _) | (with_reducible refine Below.trans ?_ (Below.mono (by with_reducible assumption) ?_)) | go_size))
          have HX7 := Lib.hid hx7
          have HB7 := Lib.hid (Blk.new wr (lcs (y.kind : Int) ((y.a : Int) + 6) ((y.e : Int) + 6) ⟨y.t.toArray⟩ (y.n : Int) (wd y.S 0) (wd y.S 1) (wd y.S 2) (wd y.S 3)) 47)
          clear hLc hMc hLr hMr hL1 hy hx7
          go_upto_region 17 with fail
          generalize hp7 : wr.heap.size = p7 at HB7 ⊢
          clear hp7
          generalize wr.alloc (.cells (lcs (y.kind : Int) ((y.a : Int) + 6) ((y.e : Int) + 6) ⟨y.t.toArray⟩ (y.n : Int) (wd y.S 0) (wd y.S 1) (wd y.S 2) (wd y.S 3)) 47) = w7 at HX7 HB7 ⊢
          clear c0 c1 c2 c3 c4 c5 c6 c7 c8
          refine G.wp_region_stab (G := Ext) (fun _ => none) (by kernel_rfl) (by kernel_rfl) (fun _ _ h => by cases h) (fun hex => ?_)
          iterate 7
            (refine G.wpS_one (A := ?_) hex rfl rfl (by simp) ?_ ?_ ?_
             rotate_left 2
             · intro w' hC K hK
               have hse := HSE.out; have hM := HMC.out w' (bel_call HX7.out hC.1); have m0 : w'.cell? ⟨g2, (k + 1) * 9, none⟩ = some (.int .i64 (y.kind : Int)) := hM 0 (by decide); have m1 : w'.cell? ⟨g2, (k + 1) * 9 + 1, none⟩ = some (.int .i64 ((y.a : Int) + 6)) := hM 1 (by decide); have m2 : w'.cell? ⟨g2, (k + 1) * 9 + 2, none⟩ = some (.int .i64 ((y.e : Int) + 6)) := hM 2 (by decide); have m3 : w'.cell? ⟨g2, (k + 1) * 9 + 3, none⟩ = some (.string ⟨y.t.toArray⟩) := hM 3 (by decide); have m4 : w'.cell? ⟨g2, (k + 1) * 9 + 4, none⟩ = some (.int .i64 (y.n : Int)) := hM 4 (by decide); have m5 : w'.cell? ⟨g2, (k + 1) * 9 + 5, none⟩ = some (.int .u64 (wd y.S 0)) := hM 5 (by decide); have m6 : w'.cell? ⟨g2, (k + 1) * 9 + 6, none⟩ = some (.int .u64 (wd y.S 1)) := hM 6 (by decide); have m7 : w'.cell? ⟨g2, (k + 1) * 9 + 7, none⟩ = some (.int .u64 (wd y.S 2)) := hM 7 (by decide); have m8 : w'.cell? ⟨g2, (k + 1) * 9 + 8, none⟩ = some (.int .u64 (wd y.S 3)) := hM 8 (by decide); have hb7 := HB7.out.ext hC.1; have b0 := hb7.cell 0; have b1 := hb7.cell 1; have b2 := hb7.cell 2; have b3 := hb7.cell 3; have b4 := hb7.cell 4; have b5 := hb7.cell 5; have b6 := hb7.cell 6; have b7 := hb7.cell 7; have b8 := hb7.cell 8; clear hM hb7
               go_wp2_with (fail)
               refine hK _ ?_
               first | exact Below.refl _ _ | assumption | ((repeat' (first | (with_reducible exact Below.refl _ _) | (with_reducible assumption) | (with_reducible refine below_drewN ?_ _) | (with_reducible refine Below.alloc ?_ ?_ _) | (with_reducible refine Below.drew ?_) | (with_reducible refine Below.setCell ?_ ?_ _) | (with_reducible refine Below.trans ?_ (Below.mono (by with_reducible assumption) ?_)) | go_size)))
             rotate_left 1
             · rfl
             clear hex; intro hex)
          refine G.wpS_nil fun w8 hAll => ?_
          have hE := hAll.1
          have HE8 := Lib.hid (bel_call (bel_call hEr.out HX7.out) hE)
          clear hE hAll hex HX7 HB7 HMC HSE
          go_wp2_with fail
          go_roundw
          case rel => exact ⟨k + 1, by omega, by go_num, HE8⟩
          case measure => simp [intOf]; omega
        · have d1 : decide ((k : Int) < (L.length : Int)) = false := by simp; omega
          have HW := Lib.hid (lwakes_any (ea 1) (ea 2) wr (HK.out.ext (bel_call HE5.out hEr.out)).kn)
          go_wp2_with fail
          refine HW.out.mono ?_
          rintro e w7 ⟨rfl, hx⟩
          have HX := Lib.hid (bel_call (bel_call HE5.out hEr.out) hx)
          clear hx HW
          go_wp2_with fail
          go_ret
          exact ⟨rfl, HX.out⟩
    · go_wp2_with fail
      clear z0 z1 z2 z3 z4 z5 z6 z7 z8 x0 x1 x2 x3 x4 y0 y1 y2 y3 y4 hse0
      go_loopw [11] (fun i wr => ∃ k : Nat, k ≤ L.length ∧ i = .int .i64 k ∧ Hid (Ext w6 wr)) (fun i _ => L.length - (intOf i).toNat)
      case atStart => exact ⟨0, Nat.zero_le _, rfl, Lib.hid (Below.refl _ _)⟩
      case round =>
        obtain ⟨k, hk, rfl, hEr⟩ := hrel
        by_cases hkl : k < L.length
        · have d1 : decide ((k : Int) < (L.length : Int)) = true := by simp; omega
          obtain ⟨g, cap', e1, _, _, _, hL1⟩ := HO1.out (by omega)
          obtain rfl : a = some ⟨g, 0, none⟩ := by cases e1; rfl
          have hLr := hL1.ext (bel_call HX5.out hEr.out)
          have hMr := HM5.out.ext hEr.out
          obtain ⟨y, hy⟩ : ∃ y, L[k] = y := ⟨_, rfl⟩
          have hLc := fun f hf => hLr.2 k hkl f hf
          have hMc := fun f hf => hMr.2 (k + 1) (by simp; omega) f hf
          simp only [List.getElem_cons_succ, List.getElem_map] at hMc
          rw [hy] at hLc hMc
          have HMC := Lib.hid (show ∀ w', Ext wr w' → ∀ f, f < 9 → w'.cell? ⟨g2, (k + 1) * 9 + f, none⟩ = (lcl (mvl 6 y))[f]? from fun w' hx f hf => by rw [hx.cell (p := ⟨g2, (k + 1) * 9 + f, none⟩) hMr.1]; exact hMc f hf)
          have c0 : wr.cell? ⟨g, k * 9, none⟩ = some (.int .i64 (y.kind : Int)) := hLc 0 (by decide)
          have c1 : wr.cell? ⟨g, k * 9 + 1, none⟩ = some (.int .i64 (y.a : Int)) := hLc 1 (by decide)
          have c2 : wr.cell? ⟨g, k * 9 + 2, none⟩ = some (.int .i64 (y.e : Int)) := hLc 2 (by decide)
          have c3 : wr.cell? ⟨g, k * 9 + 3, none⟩ = some (.string ⟨y.t.toArray⟩) := hLc 3 (by decide)
          have c4 : wr.cell? ⟨g, k * 9 + 4, none⟩ = some (.int .i64 (y.n : Int)) := hLc 4 (by decide)
          have c5 : wr.cell? ⟨g, k * 9 + 5, none⟩ = some (.int .u64 (wd y.S 0)) := hLc 5 (by decide)
          have c6 : wr.cell? ⟨g, k * 9 + 6, none⟩ = some (.int .u64 (wd y.S 1)) := hLc 6 (by decide)
          have c7 : wr.cell? ⟨g, k * 9 + 7, none⟩ = some (.int .u64 (wd y.S 2)) := hLc 7 (by decide)
          have c8 : wr.cell? ⟨g, k * 9 + 8, none⟩ = some (.int .u64 (wd y.S 3)) := hLc 8 (by decide)
          have HSE := Lib.hid (fun w => lx_same (y.kind : Int) ((y.a : Int) + 6) ((y.e : Int) + 6) ⟨y.t.toArray⟩ (y.n : Int) y.S w)
          have hyb := HBN.out y (by rw [← hy]; exact List.getElem_mem hkl)
          have hx7 : Ext wr (wr.alloc (.cells (lcs (y.kind : Int) ((y.a : Int) + 6) ((y.e : Int) + 6) ⟨y.t.toArray⟩ (y.n : Int) (wd y.S 0) (wd y.S 1) (wd y.S 2) (wd y.S 3)) 47)) := by (repeat' (first | (with_reducible exact Below.refl _ _) | (with_reducible assumption) | (with_reducible refine below_drewN ?_ _) | (with_reducible refine Below.alloc ?_ ?_ _) | (with_reducible refine Below.drew ?_) | (with_reducible refine Below.setCell ?_ ?_ _) | (with_reducible refine Below.trans ?_ (Below.mono (by with_reducible assumption) ?_)) | go_size))
          have HX7 := Lib.hid hx7
          have HB7 := Lib.hid (Blk.new wr (lcs (y.kind : Int) ((y.a : Int) + 6) ((y.e : Int) + 6) ⟨y.t.toArray⟩ (y.n : Int) (wd y.S 0) (wd y.S 1) (wd y.S 2) (wd y.S 3)) 47)
          clear hLc hMc hLr hMr hL1 hy hx7
          go_upto_region 17 with fail
          generalize hp7 : wr.heap.size = p7 at HB7 ⊢
          clear hp7
          generalize wr.alloc (.cells (lcs (y.kind : Int) ((y.a : Int) + 6) ((y.e : Int) + 6) ⟨y.t.toArray⟩ (y.n : Int) (wd y.S 0) (wd y.S 1) (wd y.S 2) (wd y.S 3)) 47) = w7 at HX7 HB7 ⊢
          clear c0 c1 c2 c3 c4 c5 c6 c7 c8
          refine G.wp_region_stab (G := Ext) (fun _ => none) (by kernel_rfl) (by kernel_rfl) (fun _ _ h => by cases h) (fun hex => ?_)
          iterate 7
            (refine G.wpS_one (A := ?_) hex rfl rfl (by simp) ?_ ?_ ?_
             rotate_left 2
             · intro w' hC K hK
               have hse := HSE.out; have hM := HMC.out w' (bel_call HX7.out hC.1); have m0 : w'.cell? ⟨g2, (k + 1) * 9, none⟩ = some (.int .i64 (y.kind : Int)) := hM 0 (by decide); have m1 : w'.cell? ⟨g2, (k + 1) * 9 + 1, none⟩ = some (.int .i64 ((y.a : Int) + 6)) := hM 1 (by decide); have m2 : w'.cell? ⟨g2, (k + 1) * 9 + 2, none⟩ = some (.int .i64 ((y.e : Int) + 6)) := hM 2 (by decide); have m3 : w'.cell? ⟨g2, (k + 1) * 9 + 3, none⟩ = some (.string ⟨y.t.toArray⟩) := hM 3 (by decide); have m4 : w'.cell? ⟨g2, (k + 1) * 9 + 4, none⟩ = some (.int .i64 (y.n : Int)) := hM 4 (by decide); have m5 : w'.cell? ⟨g2, (k + 1) * 9 + 5, none⟩ = some (.int .u64 (wd y.S 0)) := hM 5 (by decide); have m6 : w'.cell? ⟨g2, (k + 1) * 9 + 6, none⟩ = some (.int .u64 (wd y.S 1)) := hM 6 (by decide); have m7 : w'.cell? ⟨g2, (k + 1) * 9 + 7, none⟩ = some (.int .u64 (wd y.S 2)) := hM 7 (by decide); have m8 : w'.cell? ⟨g2, (k + 1) * 9 + 8, none⟩ = some (.int .u64 (wd y.S 3)) := hM 8 (by decide); have hb7 := HB7.out.ext hC.1; have b0 := hb7.cell 0; have b1 := hb7.cell 1; have b2 := hb7.cell 2; have b3 := hb7.cell 3; have b4 := hb7.cell 4; have b5 := hb7.cell 5; have b6 := hb7.cell 6; have b7 := hb7.cell 7; have b8 := hb7.cell 8; clear hM hb7
               go_wp2_with (fail)
               refine hK _ ?_
               first | exact Below.refl _ _ | assumption | ((repeat' (first | (with_reducible exact Below.refl _ _) | (with_reducible assumption) | (with_reducible refine below_drewN ?_ _) | (with_reducible refine Below.alloc ?_ ?_ _) | (with_reducible refine Below.drew ?_) | (with_reducible refine Below.setCell ?_ ?_ _) | (with_reducible refine Below.trans ?_ (Below.mono (by with_reducible assumption) ?_)) | go_size)))
             rotate_left 1
             · rfl
             clear hex; intro hex)
          refine G.wpS_nil fun w8 hAll => ?_
          have hE := hAll.1
          have HE8 := Lib.hid (bel_call (bel_call hEr.out HX7.out) hE)
          clear hE hAll hex HX7 HB7 HMC HSE
          go_wp2_with fail
          go_roundw
          case rel => exact ⟨k + 1, by omega, by go_num, HE8⟩
          case measure => simp [intOf]; omega
        · have d1 : decide ((k : Int) < (L.length : Int)) = false := by simp; omega
          have HW := Lib.hid (lwakes_any (ea 1) (ea 2) wr (HK.out.ext (bel_call HE5.out hEr.out)).kn)
          go_wp2_with fail
          refine HW.out.mono ?_
          rintro e w7 ⟨rfl, hx⟩
          have HX := Lib.hid (bel_call (bel_call HE5.out hEr.out) hx)
          clear hx HW
          go_wp2_with fail
          go_ret
          exact ⟨rfl, HX.out⟩
end Go.Proofs.YtecjodcaeldidaaGreatDoor
namespace Go.Proofs.YtecjodcaeldidaaGreatDoor
open Go Go.RowKit
theorem lexlong_any (s : ByteArray) (hs : 65536 < s.size) (a0 : Addr) (w : World) (hL : w.cell? ⟨0, 0, none⟩ = some (strAt a0)) :
    Calls Tryz.prog 13 #[.string s] w fun e w' => e = .returned (.tuple #[.slice none 0 0, strAt a0]) ∧ Ext w w' := by
  have d0 : decide ((65536 : Int) < (s.size : Int)) = true := by simp; omega
  have d0n : decide (65536 < s.size) = true := by simp; omega
  have hg : 0 < w.heap.size := World.block_lt_of_cell? w (⟨_, 0, none⟩ : Addr) hL
  have HL := Lib.hid (fun (w' : World) (hx : Ext w w') => (hx.cell (p := ⟨0, 0, none⟩) hg).trans hL)
  clear hL hg
  go_enter Tryz.func13, Tryz.ntmps13
  go_wp2_with fail
  refine G.wp_region_stab (G := Ext) (fun _ => none) (by kernel_rfl) (by kernel_rfl) (fun _ _ h => by cases h) (fun hex => ?_)
  iterate 3
    (refine G.wpS_one (A := ?_) hex rfl rfl (by simp) ?_ ?_ ?_
     rotate_left 2
     · intro w' hC K hK
       have cl := HL.out _ hC.1
       go_wp2_with (fail)
       refine hK _ ?_
       first | exact Below.refl _ _ | assumption | ((repeat' (first | (with_reducible exact Below.refl _ _) | (with_reducible assumption) | (with_reducible refine below_drewN ?_ _) | (with_reducible refine Below.alloc ?_ ?_ _) | (with_reducible refine Below.drew ?_) | (with_reducible refine Below.setCell ?_ ?_ _) | (with_reducible refine Below.trans ?_ (Below.mono (by with_reducible assumption) ?_)) | go_size)))
     rotate_left 1
     · rfl
     clear hex; intro hex)
  refine G.wpS_nil fun w1 hAll => ?_
  have hE := hAll.1
  have HE := Lib.hid hE
  clear hE hAll hex
  go_wp2_with fail
  go_ret2
  exact ⟨rfl, HE.out⟩
def pls : Nat → Nat → List Lxm
  | 0, _ => []
  | n + 1, k => ⟨5, k, k + 1, [43], 0, 0#256⟩ :: pls n (k + 1)
theorem pls_len : ∀ n k, (pls n k).length = n
  | 0, _ => rfl
  | n + 1, k => by simp [pls, pls_len n]
theorem pls_get : ∀ n k i (h : i < (pls n k).length), (pls n k)[i].a = k + i
  | 0, k, i, h => by simp [pls] at h
  | n + 1, k, 0, h => rfl
  | n + 1, k, i + 1, h => by
    show ((pls n (k + 1))[i]'(by simpa [pls] using h)).a = _
    rw [pls_get n (k + 1) i]
    omega
theorem lxs_pls : ∀ n k, lxs n (List.replicate n 43) k = (pls n k, none)
  | 0, _ => rfl
  | n + 1, k => by
    have ho : one (List.replicate (n + 1) 43) k = .inr ⟨5, k, k + 1, [43], 0, 0#256⟩ := by
      rw [List.replicate_succ]
      rfl
    rw [lxs_step n _ k (by simp [List.replicate_succ]), ho]
    unfold lxN
    simp only
    rw [if_neg (by decide), show k + 1 - k = 1 by omega, List.replicate_succ, List.drop_succ_cons, List.drop_zero, lxs_pls n (k + 1)]
    rfl
set_option maxHeartbeats 1000000 in
set_option maxRecDepth 20000 in
/-- An error says what it tells. -/
theorem same_told (T : TypeId) (y f : Value) (c t : Int) (w : World) (hT : ∀ w', Ext w w' → Calls Tryz.prog 16 #[.iface T y] w' fun e w'' => ∃ f, e = .returned f ∧ Fault w'' f c 0 0 t [] ∧ Below w'.heap.size w' w'') (hf : Fault w f c 0 0 t []) (hc0 : (c != 0) = true) :
    Calls Tryz.prog 10 #[.iface T y, f] w fun e w' => e = .returned (.bool true) ∧ Below w.heap.size w w' := by
  have HF := Lib.hid hf
  obtain ⟨ns, rfl, hns⟩ := hf
  obtain ⟨na, nc, rfl⟩ := hns.slice
  have HX0 := Lib.hid (show Ext w (w.alloc (.cells #[.int .i64 c, .int .i64 0, .int .i64 0, .int .i64 t, .slice na ([] : List ByteArray).length nc] 34)) from by go_grown)
  have HB0 := Lib.hid (Blk.new w #[.int .i64 c, .int .i64 0, .int .i64 0, .int .i64 t, .slice na ([] : List ByteArray).length nc] 34)
  have HTl := Lib.hid hT
  clear hns hT
  go_enter Tryz.func10, Tryz.ntmps10
  go_wp2_with fail
  generalize hp : w.heap.size = p at HB0 ⊢
  replace hp := Lib.hid hp
  generalize w.alloc (.cells #[.int .i64 c, .int .i64 0, .int .i64 0, .int .i64 t, .slice na ([] : List ByteArray).length nc] 34) = w1 at HX0 HB0 ⊢
  refine G.wp_region_stab (G := Ext) (RsF 5 c t) (by kernel_rfl) (by kernel_rfl) (RsF_mono _ _ _) (fun hex => ?_)
  iterate 5
    (refine G.wpS_one (A := ?_) hex rfl rfl (by simp) ?_ ?_ ?_
     rotate_left 2
     · intro w' hC K hK
       obtain ⟨p0, p1, p2, p3, p4⟩ := (HB0.out.ext hC.1).cells5
       go_wp2_with (fail)
       refine hK _ ?_
       first | exact Below.refl _ _ | assumption | ((repeat' (first | (with_reducible exact Below.refl _ _) | (with_reducible assumption) | (with_reducible refine below_drewN ?_ _) | (with_reducible refine Below.alloc ?_ ?_ _) | (with_reducible refine Below.drew ?_) | (with_reducible refine Below.setCell ?_ ?_ _) | (with_reducible refine Below.trans ?_ (Below.mono (by with_reducible assumption) ?_)) | go_size)))
     rotate_left 1
     · rfl
     clear hex; intro hex)
  refine G.wpS_rel (fun v w => Fault w v c 0 0 t []) rfl rfl (by simp) (by first | rfl | (simp [Region.wanted, yielded]; done)) ?_ ?_
  · intro w' hC K hK
    simp only [Act.put, List.setIfInBounds_toArray, List.set_cons_succ, List.set_cons_zero] at hK
    go_wp2_with (refine (HTl.out _ (bel_call HX0.out hC.1)).mono ?_; rintro e w2 ⟨v', rfl, h2, hE1⟩)
    refine hK _ _ ?_ ?_
    · first | exact Below.refl _ _ | assumption | ((repeat' (first | (with_reducible exact Below.refl _ _) | (with_reducible assumption) | (with_reducible refine below_drewN ?_ _) | (with_reducible refine Below.alloc ?_ ?_ _) | (with_reducible refine Below.drew ?_) | (with_reducible refine Below.setCell ?_ ?_ _) | (with_reducible refine Below.trans ?_ (Below.mono (by with_reducible assumption) ?_)) | go_size)))
    · exact h2
  clear hex
  intro v1 w' hex hv1
  replace hex := Exists.intro w' hex
  simp only [Act.put, List.setIfInBounds_toArray, List.set_cons_succ, List.set_cons_zero]
  refine G.wpS_one (A := ?_) hex rfl rfl (by simp) ?_ ?_ ?_
  rotate_left 2
  · intro w' hC K hK
    obtain ⟨p0, p1, p2, p3, p4⟩ := (HB0.out.ext hC.1).cells5
    go_wp2_with (fail)
    refine hK _ ?_
    first | exact Below.refl _ _ | assumption | ((repeat' (first | (with_reducible exact Below.refl _ _) | (with_reducible assumption) | (with_reducible refine below_drewN ?_ _) | (with_reducible refine Below.alloc ?_ ?_ _) | (with_reducible refine Below.drew ?_) | (with_reducible refine Below.setCell ?_ ?_ _) | (with_reducible refine Below.trans ?_ (Below.mono (by with_reducible assumption) ?_)) | go_size)))
  rotate_left 1
  · rfl
  clear hex; intro hex
  refine G.wpS_one (A := ?_) hex rfl rfl (by simp) ?_ ?_ ?_
  rotate_left 2
  · intro w' hC K hK
    have hF1 := (hC.2 5 (by simp [Region.binds])).1 rfl
    go_wp2_with (refine (eqfault_any v1 _ c 0 0 t c 0 0 t [] [] _ hF1 (HF.out.ext (bel_call HX0.out hC.1)) true (by simp)).mono ?_; rintro e w2 ⟨rfl, hE1⟩)
    refine hK _ ?_
    first | exact Below.refl _ _ | assumption | ((repeat' (first | (with_reducible exact Below.refl _ _) | (with_reducible assumption) | (with_reducible refine below_drewN ?_ _) | (with_reducible refine Below.alloc ?_ ?_ _) | (with_reducible refine Below.drew ?_) | (with_reducible refine Below.setCell ?_ ?_ _) | (with_reducible refine Below.trans ?_ (Below.mono (by with_reducible assumption) ?_)) | go_size)))
  rotate_left 1
  · rfl
  clear hex; intro hex
  iterate 2
    (refine G.wpS_one (A := ?_) hex rfl rfl (by simp) ?_ ?_ ?_
     rotate_left 2
     · intro w' hC K hK
       go_wp2_with (fail)
       refine hK _ ?_
       first | exact Below.refl _ _ | assumption | ((repeat' (first | (with_reducible exact Below.refl _ _) | (with_reducible assumption) | (with_reducible refine below_drewN ?_ _) | (with_reducible refine Below.alloc ?_ ?_ _) | (with_reducible refine Below.drew ?_) | (with_reducible refine Below.setCell ?_ ?_ _) | (with_reducible refine Below.trans ?_ (Below.mono (by with_reducible assumption) ?_)) | go_size)))
     rotate_left 1
     · rfl
     clear hex; intro hex)
  refine G.wpS_nil fun w4 hAll => ?_
  have HG := Lib.hid (bel_call HX0.out hAll.1)
  clear hAll hex
  go_wp2_with fail
  go_ret
  exact ⟨rfl, HG.out⟩
theorem tell_long (ea : Nat → Addr) (w : World) (hK : Kg w ea) :
    Calls Tryz.prog 16 #[strAt (ea 0)] w fun e w' => ∃ f, e = .returned f ∧ Fault w' f 2 0 0 0 [] ∧ Below w.heap.size w w' := by
  have ht := tell_err ea (ea 0) [] (strAt (ea 0)) w hK.sent hK.errT (ErrOf.base (hK.sent.row 0 (by decide)))
  rw [code_sent hK.sent 16 0 0 rfl (by decide) (Nat.zero_le _)] at ht
  exact ht
end Go.Proofs.YtecjodcaeldidaaGreatDoor
namespace Go.Proofs.YtecjodcaeldidaaGreatDoor
open Go Go.RowKit
/-- A row of bytes whose first k are '+'. -/
def Plus (w : World) (g M k : Nat) : Prop := ∃ cs : Array Value, Blk w g cs 5 ∧ cs.size = M ∧ ∀ j, j < k → cs[j]? = some (ub 43)
theorem Plus.set {w : World} {g M k : Nat} (h : Plus w g M k) (hk : k < M) : Plus (w.setCell ⟨g, k, none⟩ (ub 43)) g M (k + 1) := by
  obtain ⟨cs, hb, hs, hc⟩ := h
  refine ⟨_, hb.set k (ub 43), by simp [hs], fun j hj => ?_⟩
  by_cases e : j = k
  · subst e
    rw [Array.getElem?_setIfInBounds_self_of_lt (by omega)]
  · rw [Array.getElem?_setIfInBounds_ne (by omega)]
    exact hc j (by omega)
theorem Plus.own {w : World} {g M n base cap : Nat} (h : Plus w g M n) (hn : n ≤ cap) (hc : cap ≤ maxLen) (hM : M = cap) (hb : base ≤ g) (A : List UInt8) (hA : List.replicate n 43 = A) :
    w.ownsRow base 5 1 (.slice (some ⟨g, 0, none⟩) A.length cap) A.length (A.map ub) := by
  obtain ⟨cs, hbk, hs, hcs⟩ := h
  have hl : A.length = n := by rw [← hA]; simp
  rw [hl]
  refine ⟨by rw [List.length_map, hl, Nat.mul_one], .inr ⟨g, cap, cs, rfl, hb, hbk, hn, hc, by rw [hs, hM, Nat.mul_one], ?_⟩⟩
  apply List.ext_getElem?
  intro i
  rw [Nat.mul_one]
  by_cases hi : i < n
  · rw [List.getElem?_take_of_lt hi, ← hA, List.getElem?_map, List.getElem?_replicate_of_lt hi]
    have := hcs i hi
    simpa using this
  · rw [List.getElem?_eq_none (by rw [List.length_take]; omega), List.getElem?_eq_none (by rw [List.length_map, hl]; omega)]
set_option maxHeartbeats 4000000 in
set_option maxRecDepth 20000 in
theorem llong_any (ea : Nat → Addr) (w : World) (hK : Kg w ea) :
    Calls Tryz.prog 7 #[] w fun e w' => e = .returned (.bool true) ∧ Ext w w' := by
  obtain ⟨i0, hi, hz0, hz1, hz2⟩ := info_parts info_u8
  obtain ⟨n, hn⟩ : ∃ n : Nat, n = 65535 := ⟨_, rfl⟩
  have HN := Lib.hid hn
  have HK := Lib.hid hK
  obtain ⟨A, hA⟩ : ∃ A : List UInt8, List.replicate (n + 1) 43 = A := ⟨_, rfl⟩
  have hAl : A.length = n + 1 := by rw [← hA]; simp
  have hlx : lxs (n + 1) A 0 = (pls (n + 1) 0, none) := by rw [← hA]; exact lxs_pls _ _
  obtain ⟨S, hS⟩ : ∃ S : ByteArray, ⟨A.toArray⟩ = S := ⟨_, rfl⟩
  have hSs : S.size = n + 1 := by rw [← hS]; show A.toArray.size = _; simp [hAl]
  have hSr : rest S 0 = A := by rw [← hS]; unfold rest; simp
  have HL1 := Lib.hid (fun w hK => lex_er ea S (by omega) w hK (pls (n + 1) 0) none (by rw [hSs, hSr]; exact hlx))
  have HL2 := Lib.hid (fun w h => lexlong_any (S ++ ⟨#[32]⟩) (by rw [ByteArray.size_append]; have : (⟨#[32]⟩ : ByteArray).size = 1 := rfl; omega) (ea 0) w h)
  have HA := Lib.hid (And.intro hA (And.intro hAl hS))
  have HSS := Lib.hid hSs
  have hn1 : n ≤ 65535 := by omega
  clear hA hAl hlx hS hSs hSr hn hK
  go_enter Tryz.func7, Tryz.ntmps7
  go_wp2_with (at_make; refine wpList_make_full _ rfl _ _ 56 rfl w.heap.size 5 i0 (.int .u8 0) 1 Tryz.underlying56 hi hz0 hz1 .i64 .i64 _ _ (n + 1) rfl rfl (by have := HN.out; omega) (by have := HN.out; omega) (by rw [hz2]; omega) (by unfold maxLen; omega) (Nat.le_refl _) ?_; intro wm hown hgm)
  have hEm : Ext w wm := (Below.refl _ _).grown hgm (Nat.le_refl _) (by simp)
  obtain ⟨_, ⟨hv0, _⟩ | ⟨g, cap, cur, hv, hgb, hgh, h1, h2, h3, h4⟩⟩ := hown
  · cases hv0
  cases hv
  have HP0 := Lib.hid (show Plus wm w.heap.size (n + 1) 0 from ⟨cur, hgh, by rw [h3, Nat.mul_one], fun j hj => by omega⟩)
  have HE0 := Lib.hid hEm
  clear hgm hEm hgb hgh h1 h2 h3 h4
  go_loopw [2] (fun i wr => ∃ k : Nat, k ≤ n + 1 ∧ i = .int .i64 k ∧ Hid (Ext w wr) ∧ Hid (Plus wr w.heap.size (n + 1) k)) (fun i _ => n + 1 - (intOf i).toNat)
  case atStart => exact ⟨0, by omega, rfl, HE0, HP0⟩
  case round =>
    clear HE0 HP0
    obtain ⟨k, hk, rfl, hE, hP⟩ := hrel
    by_cases hkn : k < n + 1
    · have d1 : decide ((k : Int) < ((n + 1 : Nat) : Int)) = true := by simp; omega
      have d2 : decide ((k : Int) < (n : Int) + 1) = true := by simp; omega
      have HP2 := Lib.hid (hP.out.set hkn)
      have HE2 := Lib.hid (hE.out.setCell (p := ⟨w.heap.size, k, none⟩) (Nat.le_refl _) (ub 43))
      obtain ⟨cs, hb, hs, _⟩ := hP.out
      obtain ⟨u, hu⟩ : ∃ u, cs[k]? = some u := ⟨cs[k]'(by omega), by rw [Array.getElem?_eq_getElem]⟩
      have ck := (hb.cell k).trans hu
      have fk := hb.free k
      have hlt := hb.lt
      clear hb hs hu hP hE
      go_wp2_with fail
      go_roundw
      case rel => exact ⟨k + 1, by omega, by go_num, HE2, HP2⟩
      case measure => simp [intOf]; omega
    · obtain rfl : k = n + 1 := by omega
      have d1 : decide (((n + 1 : Nat) : Int) < ((n + 1 : Nat) : Int)) = false := by simp
      have hown := hP.out.own (Nat.le_refl _) (by unfold maxLen; omega) rfl (Nat.le_refl w.heap.size) A HA.out.1
      have hcv := own_str hown
      have hcv2 := fun (w' : World) (hx : Ext wr w') => own_str (own_blw hown hx (Nat.le_refl _))
      rw [HA.out.2.1, HA.out.2.2] at hcv
      have HCV2 := Lib.hid hcv2
      clear hcv2 hown
      go_wp2_with fail
      refine (HL1.out _ (HK.out.ext hE.out)).mono ?_
      rintro e w1 ⟨v, u, rfl, hown1, hEr, hx1⟩
      obtain rfl : u = .nilIface := hEr
      obtain ⟨g2, cap2, rfl, _, _, _, hm⟩ := (lms_of_own hown1).2 (by rw [pls_len]; omega)
      have hca : ∀ w', Ext w1 w' → w'.cell? ⟨g2, n * 9 + 1, none⟩ = some (.int .i64 (n : Int)) := fun w' hx => by
        have h1 := (hm.ext hx).2 n (by rw [pls_len]; omega) 1 (by decide)
        rw [h1]
        show some (Value.int .i64 (((pls (n + 1) 0)[n]'(by rw [pls_len]; omega)).a : Int)) = _
        rw [pls_get, Nat.zero_add]
      have HCA := Lib.hid hca
      have hcv1 := HCV2.out w1 hx1
      rw [HA.out.2.1, HA.out.2.2] at hcv1
      have HE1 := Lib.hid (bel_call hE.out hx1)
      have hcat : S.size ≤ 65536 := by rw [HSS.out]; omega
      rw [pls_len]
      clear hown1 hx1 hm hca hcv HL1 hE hP HCV2
      go_wp2_with fail
      have HS1 := Lib.hid ((HK.out.ext HE1.out).sent.held 0 (by decide))
      refine (HL2.out _ HS1.out).mono ?_
      rintro e w2 ⟨rfl, hx2⟩
      have HE2 := Lib.hid (bel_call HE1.out hx2)
      have ca := HCA.out w2 hx2
      have t1 : (((n : Int) + 1) == 65536) = true := by have := HN.out; simp; omega
      have t2 : ((n : Int) == 65535) = true := by have := HN.out; simp; omega
      have HTL := Lib.hid (fun w' (hx : Ext w2 w') => tell_long ea w' (HK.out.ext (bel_call HE2.out hx)))
      clear hx2 hcv1 hcat HL2 HS1 HCA HE1 d1
      go_wp2_with fail
      refine (same_told 210 _ _ 2 0 w2 HTL.out ⟨_, rfl, Texts.nil _⟩ (by decide)).mono ?_
      rintro e w3 ⟨rfl, hx3⟩
      have HE3 := Lib.hid (bel_call HE2.out hx3)
      clear hx3 HTL HE2 ca t1 t2
      go_wp2_with fail
      refine (lwakes_any (ea 1) (ea 2) _ (HK.out.ext HE3.out).kn).mono ?_
      rintro e w4 ⟨rfl, hx4⟩
      have HE4 := Lib.hid (bel_call HE3.out hx4)
      clear hx4 HE3
      go_wp2_with fail
      go_ret
      exact ⟨rfl, HE4.out⟩
end Go.Proofs.YtecjodcaeldidaaGreatDoor
namespace Go.Proofs.YtecjodcaeldidaaGreatDoor
open Go Go.ChangeShapes Go.WideShapes Go.ChangeAt Go.RowKit
theorem lexLong_met (os : Os) (args : Array Value) : laidMetH Tryz.prog Rows.lexLongRow.laid ((World.doorLaid Tryz.prog 400 os).forCall (fun _ _ => 0) ⟨#[], args, []⟩).memory :=
  laidMetH_of_parts (laidMet_of_run' 8 (by kernel_rfl) (by kernel_rfl)) (by kernel_rfl)
set_option maxRecDepth 100000 in
theorem lexLong_lifted (os : Os) (started : os.Started) (H : Type) (enc : TypeId × Value → H) (F : Stop.Interp) :
    ReturnsInHanded {} Tryz.checked os 7 .any ((OpenSpec.ofChange Rows.lexLongSpec).preRow enc Tryz.prog Tryz.f7 Rows.lexLongRow.domain false Rows.lexLongRow.laid) (((OpenSpec.ofChange Rows.lexLongSpec).at F).post enc Tryz.prog Tryz.f7 false true false false) := by
  have hx : DataW.whole enc Tryz.prog ((World.doorLaid Tryz.prog 400 os).forCall (fun _ _ => 0) ⟨#[], #[], []⟩).memory Tryz.f7.params.toList (OpenSpec.ofChange Rows.lexLongSpec).vars false (#[] : Array Value).toList 8 = some ([], [], []) := by kernel_rfl
  refine returnsInHanded_of_row (C := Tryz.checked) (s := OpenSpec.ofChange Rows.lexLongSpec) own started (by kernel_rfl) Tryz.func7
    (witness_row_atRef (enc := enc) (C := Tryz.checked) false (World.doorLaid Tryz.prog 400 os) #[] rfl (by kernel_rfl) (by kernel_rfl) (by kernel_rfl)
      (OpenSpec.preRow_of_cond 8 hx (by kernel_rfl) (fun k hk => by cases hk) (by kernel_rfl) (lexLong_met os _))) ?_
  intro W base args ds gs before hval0 hW _ _ _hsz0 hL hsh _
  have hW' := hW
  obtain ⟨p, q, hA0, hV, rfl, hfz, hnd⟩ := hW
  have hA : DataW.TrodAll enc Tryz.prog W 0 (fun _ => true) true Tryz.f7.params.toList args.toList ds p := hA0
  rw [Tryz.params7] at hA
  obtain ⟨ha, rfl, rfl⟩ := trodAll_nil hA
  obtain rfl : args = #[] := by cases args; simp_all
  obtain ⟨rfl, rfl⟩ := trodVars_none hV
  obtain ⟨ea, hK⟩ := known_lexLong hL hsh
  refine (llong_any ea W hK).mono fun e W' ⟨he, hB⟩ => ?_
  subst he
  have e1 : ((OpenSpec.ofChange Rows.lexLongSpec).at F).fn H ([] ++ []) = { results := [.lit (.bool true)], args := [] } := rfl
  refine ⟨_, rfl, _, _, _, [], [], [], hW', ?_, ?_, ?_, hB.frame _, fun h => by cases h⟩
  · rw [e1]; exact trodAll_mk1 (shut_bool Tryz.underlying4 true)
  · rw [e1]; exact hA0
  · rw [e1]; rfl
theorem lexLong_row : Rows.LexLongSaid :=
  OpenClaim.holds_of_cond 7 Tryz.f7 rfl rfl rfl rfl rfl rfl rfl ⟨rfl, rfl, rfl, rfl, rfl⟩ rfl rfl rfl rfl rfl (by kernel_rfl) Tryz.func7 (by kernel_rfl)
    (of_decide_eq_true (by kernel_rfl)) (by unfold Func.isWrapper; rw [if_neg (of_decide_eq_false (by kernel_rfl))]; exact ⟨rfl, rfl⟩)
    (fun os started H enc _ F => by rw [OpenClaim.pre_eq_preRow]; exact lexLong_lifted os started H enc F)
theorem lexLong_holds : Rows.LexLongCardSaid :=
  Claim7.holds_tied_plain_at .later [] _ _ Rows.lexLongCard.stood.harness Rows.lexLongCard.stood.looks
    lexLong_row (fun _ h => by cases h) (by kernel_rfl) (fun _ h => by cases h) lexLong_row_tie rfl ⟨rfl, rfl⟩ (by kernel_rfl) rfl
    (fun f fn hf hfn => by
      obtain rfl : f = 7 := Option.some.inj ((show Tryz.prog.funcNamed Rows.lexLongRow.func = some 7 by kernel_rfl).symm.trans hf) |>.symm
      obtain rfl : fn = Tryz.f7 := (Option.some.inj (Tryz.func7.symm.trans hfn)).symm
      exact ⟨by kernel_rfl, fun j t ht => by
        rw [Tryz.params7] at ht
        simp at ht⟩)
    (by kernel_rfl)
#print axioms lexLong_holds
end Go.Proofs.YtecjodcaeldidaaGreatDoor
