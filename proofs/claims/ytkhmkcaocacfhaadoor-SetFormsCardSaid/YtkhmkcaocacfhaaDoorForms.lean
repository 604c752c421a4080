/- A set's bytes and spans make it again: the statement's walk. -/
import Derived.Test.YtkhmkcaocacfhaaDoorSpn0
import Derived.Test.YtkhmkcaocacfhaaDoorEqs
namespace Go.Proofs.YtkhmkcaocacfhaaDoor
open Go Go.RowKit
theorem cells12 {w : World} {b : Nat} {t : TypeId} {x0 x1 x2 x3 x4 x5 x6 x7 x8 x9 x10 x11 : Value} (h : Blk w b #[x0, x1, x2, x3, x4, x5, x6, x7, x8, x9, x10, x11] t) : w.cell? ⟨b, 0, none⟩ = some x0 ∧ w.cell? ⟨b, 1, none⟩ = some x1 ∧ w.cell? ⟨b, 2, none⟩ = some x2 ∧ w.cell? ⟨b, 3, none⟩ = some x3 ∧ w.cell? ⟨b, 4, none⟩ = some x4 ∧ w.cell? ⟨b, 5, none⟩ = some x5 ∧ w.cell? ⟨b, 6, none⟩ = some x6 ∧ w.cell? ⟨b, 7, none⟩ = some x7 ∧ w.cell? ⟨b, 8, none⟩ = some x8 ∧ w.cell? ⟨b, 9, none⟩ = some x9 ∧ w.cell? ⟨b, 10, none⟩ = some x10 ∧ w.cell? ⟨b, 11, none⟩ = some x11 :=
  ⟨h.cell 0, h.cell 1, h.cell 2, h.cell 3, h.cell 4, h.cell 5, h.cell 6, h.cell 7, h.cell 8, h.cell 9, h.cell 10, h.cell 11⟩
/-- How many bytes the first k spans have. -/
def tot (S : List (Nat × Nat)) (k : Nat) : Nat := ((S.take k).map fun p => p.2 + 1 - p.1).sum
theorem tot_succ (S : List (Nat × Nat)) (k : Nat) (h : k < S.length) : tot S (k + 1) = tot S k + (S[k].2 + 1 - S[k].1) := by
  unfold tot
  rw [List.take_succ_eq_append_getElem h, List.map_append, List.sum_append]; simp
theorem tot_le (S : List (Nat × Nat)) (k : Nat) : tot S k ≤ (S.map fun p => p.2 + 1 - p.1).sum := by
  unfold tot
  conv => rhs; rw [← List.take_append_drop k S, List.map_append, List.sum_append]
  omega
theorem pw_get {α : Type} {R : α → α → Prop} {l : List α} (h : l.Pairwise R) (j : Nat) (hj : j + 1 < l.length) : R l[j] l[j + 1] :=
  (List.pairwise_iff_getElem.1 h) j (j + 1) (by omega) hj (by omega)
def RsForms (B m : Nat) (X : List Value) : Nat → Option (Value → World → Prop) := fun k => if k = 15 then some (fun v w => w.ownsRow B 39 2 v m X) else none
theorem RsForms_mono (g B m : Nat) (X : List Value) : G.RsMono (LkS g X.length (fun j => X[j]?)) (RsForms B m X) := by
  intro j R h
  unfold RsForms at h
  split at h
  · cases h; exact fun v w w' hx ho => own_lks ho hx fun i hi => ⟨hi, rfl⟩
  · cases h
theorem lst_bytes {w : World} {b e : Nat} {v : Value} (a : BitVec 256) (L : List Nat) (hL : lstN a 4 = L) (hn : L.length ≤ 256) (h : w.ownsRow b e 1 v L.length (L.map nb)) : Bytes w v (lst a) := by
  subst hL
  exact Bytes.of_own h (by omega) (fun x hx => by have := lstN_lt a 4 x hx; omega)
theorem spc_one (S : List (Nat × Nat)) : ∀ u ∈ spc S, u.oneCell' = true := by
  intro u hu
  obtain ⟨p, _, hp⟩ := List.mem_flatMap.1 hu
  simp at hp
  rcases hp with rfl | rfl <;> rfl
theorem spans_two {w : World} {b e : Nat} {v : Value} (S : List (Nat × Nat)) (hS : S.length ≤ 1000) (hs : ∀ p ∈ S, p.1 < 256 ∧ p.2 < 256) (h : w.ownsRow b e 2 v (S.length + S.length) (spc S ++ spc S)) : Spans w v (sp8 (S ++ S)) :=
  Spans.of_own (S := S ++ S) (by rw [List.length_append, spc_append]; exact h) (by rw [List.length_append]; omega) (fun p hp => hs p (by simpa using hp))
theorem ofspans_eq (v : Value) (l : List (UInt8 × UInt8)) (r : BitVec 256) (w : World) (hv : Spans w v l) (h : ofs l = r) :
    Calls Tryd.prog 18 #[v] w fun e w' => e = .returned (sv r) ∧ Below w.heap.size w w' := by subst h; exact ofspans_any v l w hv
set_option maxHeartbeats 4000000 in
set_option maxRecDepth 100000 in
theorem forms_some (a b c : BitVec 256) (w : World) (hT : Tab w) (ha : lstN a 4 ≠ []) :
    Calls Tryd.prog 7 #[.agg (three a b c)] w fun e w' => e = .returned (.bool true) ∧ Below w.heap.size w w' := by
  obtain ⟨L, hL⟩ : ∃ L, lstN a 4 = L := ⟨_, rfl⟩
  obtain ⟨S, hS⟩ : ∃ S, spn a = S := ⟨_, rfl⟩
  have hn : L.length ≤ 256 := by have := lstN_len a 4; rw [hL] at this; exact this
  have hinv := spn_inv a
  have hrise := lstN_rise a 4
  have hm : S.length ≤ L.length := by have := spansN_len (lstN a 4); rw [hL] at this; rw [← hS]; unfold spn; rw [hL]; exact this
  rw [hS, hL] at hinv
  rw [hL] at ha hrise
  have hn0 : 0 < L.length := List.length_pos_iff.2 ha
  have hm0 : 0 < S.length := List.length_pos_iff.2 fun h => ha (hinv.emp.1 h)
  have hlt : ∀ x ∈ L, x < 256 ∧ a.getLsbD x = true := fun x hx => by rw [← hL] at hx; exact (mem_lst a x).1 hx
  have hslt : ∀ p ∈ S, p.1 < 256 ∧ p.2 < 256 := by rw [← hS]; exact spn_lt a
  have hcnt : cnt a = L.length := by rw [cnt_len, hL]
  have hlea : lea a = L[0] := by unfold lea; rw [hL]; cases L with | nil => exact absurd rfl ha | cons x l => rfl
  have hone := ofs_one a
  have htwo := ofs_two a
  have hofl := ofl_lst a
  have hne : decide (a ≠ 0#256) = true := by
    apply decide_eq_true
    rintro rfl
    rw [lst_empty] at hL
    exact ha hL.symm
  rw [hS] at hone htwo
  have HF := Lib.hid (And.intro hL (And.intro hS (And.intro hinv (And.intro hrise (And.intro hlt (And.intro hslt (And.intro hcnt (And.intro hlea (And.intro hone (And.intro htwo (And.intro hofl hne)))))))))))
  have HT := Lib.hid hT
  clear hL hS hinv hrise ha hlt hslt hcnt hlea hone htwo hofl hT hne
  have kP := Blk.new w (three a b c) 49
  have hw0 : Below w.heap.size w (w.alloc (.cells (three a b c) 49)) := by (repeat' (first | (with_reducible exact Below.refl _ _) | (with_reducible assumption) | (with_reducible refine below_drewN ?_ _) | (with_reducible refine Below.alloc ?_ ?_ _) | (with_reducible refine Below.drew ?_) | (with_reducible refine Below.setCell ?_ ?_ _) | (with_reducible refine Below.trans ?_ (Below.mono (by with_reducible assumption) ?_)) | go_size))
  go_enter Tryd.func7, Tryd.ntmps7
  go_wp2_with fail
  refine (list_own a _ (HT.out.ext hw0)).mono ?_
  rintro e w1 ⟨v, rfl, hown, hE⟩
  rw [HF.out.1] at hown
  obtain ⟨gl, cl, rfl, hgl, hgl2, hcl1, hcl2⟩ := own_some hown hn0
  replace kP := kP.ext hE
  have hw1 := bel_call hw0 hE
  have HO1 := Lib.hid hown
  clear hE hown hw0
  obtain ⟨p0, p1, p2, p3, p4, p5, p6, p7, p8, p9, p10, p11⟩ := cells12 kP
  go_wp2_with fail
  refine (spans_own a _ (HT.out.ext hw1)).mono ?_
  rintro e w2 ⟨v, rfl, hown, hE⟩
  rw [HF.out.2.1] at hown
  obtain ⟨gs, cs, rfl, hgs, hgs2, hcs1, hcs2⟩ := own_some hown hm0
  replace kP := kP.ext hE
  have hw2 := bel_call hw1 hE
  have HO2 := Lib.hid hown
  replace HO1 := Lib.hid (own_below HO1.out hE (Nat.le_refl _))
  have hz2 := hE.size
  clear hE hown hw1 p0 p1 p2 p3 p4 p5 p6 p7 p8 p9 p10 p11
  go_wp2_with fail
  go_loopw [6] (fun i wr => ∃ k : Nat, k ≤ L.length ∧ i = .int .i64 k ∧ Ext w2 wr) (fun i _ => L.length - (intOf i).toNat)
  case atStart => exact ⟨0, Nat.zero_le _, rfl, Below.refl _ _⟩
  case round =>
    obtain ⟨k, hk, rfl, hx⟩ := hrel
    have kP' := kP.ext hx
    by_cases hlt : k < L.length
    · obtain ⟨x, hxe⟩ : ∃ x, L[k] = x := ⟨_, rfl⟩
      have hx1 := HF.out.2.2.2.2.1 L[k] (List.getElem_mem hlt)
      rw [hxe] at hx1
      obtain ⟨hx255, hxa⟩ := hx1
      have hcx : wr.cell? ⟨gl, k, none⟩ = some (nb x) := by
        rw [hx.cell (p := ⟨gl, k, none⟩) (by simpa using Nat.lt_of_lt_of_le hgl2 hz2), HO1.out.cellAt k (by omega), List.getElem?_map, List.getElem?_eq_getElem hlt, hxe]; rfl
      have hgx : gl < wr.heap.size := by have := hx.size; omega
      have HA := Lib.hid hxa
      clear hxa
      rcases k with _ | j
      · clear hxe
        go_wp2_with fail
        refine wp_region_stab (fun _ => none) (by kernel_rfl) (by kernel_rfl) (fun _ _ h => by cases h) (fun hex => ?_)
        iterate 24
          (refine wpS_one (A := ?_) hex rfl rfl (by simp) ?_ ?_ ?_
           rotate_left 2
           · intro w' hC K hK
             obtain ⟨hcell, hfrz⟩ := bcell hC.1.ext
             obtain ⟨p0, p1, p2, p3, p4, p5, p6, p7, p8, p9, p10, p11⟩ := cells12 (kP'.ext hC.1.ext); have hcx' := (hC.1.ext.cell (p := ⟨gl, 0, none⟩) hgx).trans hcx; clear hcell hfrz
             go_wp2_with (go_at_call 39; refine (has_eq a x true _ (by omega) (by omega) HA.out).mono ?_; rintro e w2 ⟨rfl, hb2⟩)
             refine hK _ ?_
             first | exact Gr.refl _ _ | exact Gr.of_ext (by assumption) hC.1.1.size
           rotate_left 1
           · rfl
           clear hex; intro hex)
        refine wpS_nil fun w3 hE => ?_
        replace hE := hE.1.ext
        obtain ⟨hcell_w3, hfrz_w3⟩ := bcell hE
        clear hcell_w3 hfrz_w3 hex
        go_wp2_with fail
        go_roundw
        case rel => exact ⟨1, by omega, rfl, bel_call hx hE⟩
        case measure => simp [intOf]; omega
      · have hyx := pw_get HF.out.2.2.2.1 j hlt
        rw [hxe] at hyx
        obtain ⟨y, hye⟩ : ∃ y, L[j] = y := ⟨_, rfl⟩
        rw [hye] at hyx
        have hcy : wr.cell? ⟨gl, j, none⟩ = some (nb y) := by
          rw [hx.cell (p := ⟨gl, j, none⟩) (by simpa using Nat.lt_of_lt_of_le hgl2 hz2), HO1.out.cellAt j (by omega), List.getElem?_map, List.getElem?_eq_getElem (by omega), hye]; rfl
        have hxy : decide ((x : Int) ≤ (y : Int)) = false := by apply decide_eq_false; omega
        clear hxe hye
        go_wp2_with fail
        refine wp_region_stab (fun _ => none) (by kernel_rfl) (by kernel_rfl) (fun _ _ h => by cases h) (fun hex => ?_)
        iterate 24
          (refine wpS_one (A := ?_) hex rfl rfl (by simp) ?_ ?_ ?_
           rotate_left 2
           · intro w' hC K hK
             obtain ⟨hcell, hfrz⟩ := bcell hC.1.ext
             obtain ⟨p0, p1, p2, p3, p4, p5, p6, p7, p8, p9, p10, p11⟩ := cells12 (kP'.ext hC.1.ext); have hcx' := (hC.1.ext.cell (p := ⟨gl, j + 1, none⟩) hgx).trans hcx; have hcy' := (hC.1.ext.cell (p := ⟨gl, j, none⟩) hgx).trans hcy; clear hcell hfrz
             go_wp2_with (go_at_call 39; refine (has_eq a x true _ (by omega) (by omega) HA.out).mono ?_; rintro e w2 ⟨rfl, hb2⟩)
             refine hK _ ?_
             first | exact Gr.refl _ _ | exact Gr.of_ext (by assumption) hC.1.1.size
           rotate_left 1
           · rfl
           clear hex; intro hex)
        refine wpS_nil fun w3 hE => ?_
        replace hE := hE.1.ext
        obtain ⟨hcell_w3, hfrz_w3⟩ := bcell hE
        clear hcell_w3 hfrz_w3 hex
        go_wp2_with fail
        go_roundw
        case rel => exact ⟨j + 1 + 1, by omega, by go_num, bel_call hx hE⟩
        case measure => simp [intOf]; omega
    · obtain rfl : k = L.length := by omega
      clear kP'
      obtain ⟨wo, rfl⟩ : ∃ wo : World, wo = wr := ⟨_, rfl⟩
      go_wp2_with fail
      go_loopw [5, 7] (fun nn i wr => ∃ k : Nat, k ≤ S.length ∧ i = .int .i64 k ∧ nn = .int .i64 (tot S k : Nat) ∧ Ext wo wr) (fun _ i _ => S.length - (intOf i).toNat)
      case atStart => exact ⟨0, Nat.zero_le _, rfl, rfl, Below.refl _ _⟩
      case round =>
        obtain ⟨k, hk, rfl, rfl, hy⟩ := hrel
        have hxy := bel_call hx hy
        have kP' := kP.ext hxy
        have htot : tot S k ≤ 256 := by have h1 := tot_le S k; have h2 := HF.out.2.2.1.tot; omega
        by_cases hlt : k < S.length
        · obtain ⟨p, hpe⟩ : ∃ p, S[k] = p := ⟨_, rfl⟩
          have hp1 := HF.out.2.2.2.2.2.1 S[k] (List.getElem_mem hlt)
          have hp2 := HF.out.2.2.1.ok S[k] (List.getElem_mem hlt)
          have hts := tot_succ S k hlt
          have htl := tot_le S (k + 1)
          have hcs := spc_at S k hlt
          rw [List.getD_eq_getElem?_getD, List.getElem?_eq_getElem hlt, Option.getD_some, hpe] at hcs
          rw [hpe] at hp1 hp2 hts
          obtain ⟨lo, hi⟩ := p
          obtain ⟨hlo255, hhi255⟩ := hp1
          simp only at hp2 hts hlo255 hhi255 hcs
          have hct := HF.out.2.2.1.tot
          have hgx : gs < wr.heap.size := by have := hxy.size; omega
          have hc1 : wr.cell? ⟨gs, k * 2, none⟩ = some (nb lo) := by
            rw [hxy.cell (p := ⟨gs, k * 2, none⟩) hgs2, HO2.out.cellAt _ (by omega)]; exact hcs.1
          have hc2 : wr.cell? ⟨gs, k * 2 + 1, none⟩ = some (nb hi) := by
            rw [hxy.cell (p := ⟨gs, k * 2 + 1, none⟩) hgs2, HO2.out.cellAt _ (by omega)]; exact hcs.2
          have hlh : decide (hi < lo) = false := by apply decide_eq_false; omega
          have hN := Lib.hid (And.intro hts (And.intro htl hct))
          have hnew : (tot S k : Int) + (hi : Int) - (lo : Int) + 1 = (tot S (k + 1) : Nat) := by omega
          have hT1 : tot S (k + 1) ≤ 256 := by omega
          have HN := Lib.hid hnew
          clear hts htl hct hcs hnew
          rcases k with _ | j
          · clear hpe
            go_wp2_with fail
            refine wp_region_stab (fun _ => none) (by kernel_rfl) (by kernel_rfl) (fun _ _ h => by cases h) (fun hex => ?_)
            iterate 32
              (refine wpS_one (A := ?_) hex rfl rfl (by simp) ?_ ?_ ?_
               rotate_left 2
               · intro w' hC K hK
                 obtain ⟨hcell, hfrz⟩ := bcell hC.1.ext
                 have hc1' := (hC.1.ext.cell (p := ⟨gs, 0 * 2, none⟩) hgx).trans hc1; have hc2' := (hC.1.ext.cell (p := ⟨gs, 0 * 2 + 1, none⟩) hgx).trans hc2; simp only [Nat.zero_mul, Nat.zero_add] at hc1' hc2'; clear hcell hfrz
                 go_wp2_with (fail)
                 refine hK _ ?_
                 first | exact Gr.refl _ _ | exact Gr.of_ext (by assumption) hC.1.1.size
               rotate_left 1
               · rfl
               clear hex; intro hex)
            refine wpS_nil fun w3 hE => ?_
            replace hE := hE.1.ext
            obtain ⟨hcell_w3, hfrz_w3⟩ := bcell hE
            clear hcell_w3 hfrz_w3 hex
            have hE3 := hE
            clear hE
            have hgx3 : gs < w3.heap.size := by have := hE3.size; omega
            replace hc1 := (hE3.cell (p := ⟨gs, 0 * 2, none⟩) hgx).trans hc1
            replace hc2 := (hE3.cell (p := ⟨gs, 0 * 2 + 1, none⟩) hgx).trans hc2
            go_wp2_with fail
            refine wp_region_stab (fun _ => none) (by kernel_rfl) (by kernel_rfl) (fun _ _ h => by cases h) (fun hex => ?_)
            iterate 17
              (refine wpS_one (A := ?_) hex rfl rfl (by simp) ?_ ?_ ?_
               rotate_left 2
               · intro w' hC K hK
                 obtain ⟨hcell, hfrz⟩ := bcell hC.1.ext
                 have hc1' := (hC.1.ext.cell (p := ⟨gs, 0 * 2, none⟩) hgx3).trans hc1; have hc2' := (hC.1.ext.cell (p := ⟨gs, 0 * 2 + 1, none⟩) hgx3).trans hc2; simp only [Nat.zero_mul, Nat.zero_add] at hc1' hc2'; clear hcell hfrz
                 go_wp2_with (fail)
                 refine hK _ ?_
                 first | exact Gr.refl _ _ | exact Gr.of_ext (by assumption) hC.1.1.size
               rotate_left 1
               · rfl
               clear hex; intro hex)
            refine wpS_nil fun w4 hE => ?_
            replace hE := hE.1.ext
            obtain ⟨hcell_w4, hfrz_w4⟩ := bcell hE
            clear hcell_w4 hfrz_w4 hex
            go_wp2_with fail
            go_roundw
            case rel => exact ⟨0 + 1, by omega, by go_num, by rw [← HN.out], bel_call (bel_call hy hE3) hE⟩
            case measure => simp [intOf]; omega
          · have hgap := pw_get HF.out.2.2.1.gap j hlt
            rw [hpe] at hgap
            obtain ⟨q, hqe⟩ : ∃ q, S[j] = q := ⟨_, rfl⟩
            have hq1 := HF.out.2.2.2.2.2.1 S[j] (List.getElem_mem (by omega))
            have hcq := (spc_at S j (by omega)).2
            rw [List.getD_eq_getElem?_getD, List.getElem?_eq_getElem (show j < S.length by omega), Option.getD_some, hqe] at hcq
            rw [hqe] at hgap hq1
            obtain ⟨lo', hi'⟩ := q
            obtain ⟨_, hq255⟩ := hq1
            simp only at hgap hq255 hcq
            have hc3 : wr.cell? ⟨gs, j * 2 + 1, none⟩ = some (nb hi') := by
              rw [hxy.cell (p := ⟨gs, j * 2 + 1, none⟩) hgs2, HO2.out.cellAt _ (by omega)]; exact hcq
            have hgt : decide ((lo : Int) < (hi' : Int) + 2) = false := by apply decide_eq_false; omega
            clear hpe hqe hcq
            go_wp2_with fail
            refine wp_region_stab (fun _ => none) (by kernel_rfl) (by kernel_rfl) (fun _ _ h => by cases h) (fun hex => ?_)
            iterate 32
              (refine wpS_one (A := ?_) hex rfl rfl (by simp) ?_ ?_ ?_
               rotate_left 2
               · intro w' hC K hK
                 obtain ⟨hcell, hfrz⟩ := bcell hC.1.ext
                 have hc1' := (hC.1.ext.cell (p := ⟨gs, (j + 1) * 2, none⟩) hgx).trans hc1; have hc2' := (hC.1.ext.cell (p := ⟨gs, (j + 1) * 2 + 1, none⟩) hgx).trans hc2; have hc3' := (hC.1.ext.cell (p := ⟨gs, j * 2 + 1, none⟩) hgx).trans hc3; clear hcell hfrz
                 go_wp2_with (fail)
                 refine hK _ ?_
                 first | exact Gr.refl _ _ | exact Gr.of_ext (by assumption) hC.1.1.size
               rotate_left 1
               · rfl
               clear hex; intro hex)
            refine wpS_nil fun w3 hE => ?_
            replace hE := hE.1.ext
            obtain ⟨hcell_w3, hfrz_w3⟩ := bcell hE
            clear hcell_w3 hfrz_w3 hex
            have hE3 := hE
            clear hE
            have hgx3 : gs < w3.heap.size := by have := hE3.size; omega
            replace hc1 := (hE3.cell (p := ⟨gs, (j + 1) * 2, none⟩) hgx).trans hc1
            replace hc2 := (hE3.cell (p := ⟨gs, (j + 1) * 2 + 1, none⟩) hgx).trans hc2
            go_wp2_with fail
            refine wp_region_stab (fun _ => none) (by kernel_rfl) (by kernel_rfl) (fun _ _ h => by cases h) (fun hex => ?_)
            iterate 17
              (refine wpS_one (A := ?_) hex rfl rfl (by simp) ?_ ?_ ?_
               rotate_left 2
               · intro w' hC K hK
                 obtain ⟨hcell, hfrz⟩ := bcell hC.1.ext
                 have hc1' := (hC.1.ext.cell (p := ⟨gs, (j + 1) * 2, none⟩) hgx3).trans hc1; have hc2' := (hC.1.ext.cell (p := ⟨gs, (j + 1) * 2 + 1, none⟩) hgx3).trans hc2;  clear hcell hfrz
                 go_wp2_with (fail)
                 refine hK _ ?_
                 first | exact Gr.refl _ _ | exact Gr.of_ext (by assumption) hC.1.1.size
               rotate_left 1
               · rfl
               clear hex; intro hex)
            refine wpS_nil fun w4 hE => ?_
            replace hE := hE.1.ext
            obtain ⟨hcell_w4, hfrz_w4⟩ := bcell hE
            clear hcell_w4 hfrz_w4 hex
            go_wp2_with fail
            go_roundw
            case rel => exact ⟨(j + 1) + 1, by omega, by go_num, by rw [← HN.out], bel_call (bel_call hy hE3) hE⟩
            case measure => simp [intOf]; omega
        · obtain rfl : k = S.length := by omega
          obtain ⟨p0, p1, p2, p3, p4, p5, p6, p7, p8, p9, p10, p11⟩ := cells12 kP'
          obtain ⟨d, hde⟩ : ∃ d, L[0] = d := ⟨_, rfl⟩
          have hd1 := (HF.out.2.2.2.2.1 L[0] (List.getElem_mem hn0)).1
          have hlead := HF.out.2.2.2.2.2.2.2.1
          rw [hde] at hd1 hlead
          have hcd : wr.cell? ⟨gl, 0, none⟩ = some (nb d) := by
            rw [hxy.cell (p := ⟨gl, 0, none⟩) (by simpa using Nat.lt_of_lt_of_le hgl2 hz2), HO1.out.cellAt 0 (by omega), List.getElem?_map, List.getElem?_eq_getElem hn0, hde]; rfl
          have hgx : gl < wr.heap.size := by have := hxy.size; omega
          have hts : tot S S.length = L.length := by have h2 := HF.out.2.2.1.tot; unfold tot; rw [List.take_length]; exact h2
          have HTr := Lib.hid (HT.out.ext (bel_call hw2 hxy))
          have HL := Lib.hid hlead
          have hwr := bel_call hw2 hxy
          rw [hts]
          clear hde hlead hts hx hy
          go_wp2_with fail
          refine (least_eq a d true HL.out HF.out.2.2.2.2.2.2.2.2.2.2.2 _ HTr.out).mono ?_
          rintro e w3 ⟨rfl, hE⟩
          replace kP' := kP'.ext hE
          have hcd' := (hE.cell (p := ⟨gl, 0, none⟩) hgx).trans hcd
          have hxy3 := bel_call hxy hE
          have hw3 := bel_call hwr hE
          clear hE hcd p0 p1 p2 p3 p4 p5 p6 p7 p8 p9 p10 p11
          obtain ⟨p0, p1, p2, p3, p4, p5, p6, p7, p8, p9, p10, p11⟩ := cells12 kP'
          go_wp2_with (go_at_call 40; refine (count_eq a L.length HF.out.2.2.2.2.2.2.1 _).mono ?_; rintro e w4 ⟨rfl, hE⟩)
          have hxy4 := bel_call hxy3 hE
          have hw4 := bel_call hw3 hE
          replace kP' := kP'.ext hE
          have HO1' := Lib.hid (own_below HO1.out hxy4 (Nat.le_refl _))
          have HO2' := Lib.hid (own_below HO2.out hxy4 (Nat.le_refl _))
          have hgl4 : ¬ gl = gs := by omega
          have hP4 : ¬ w.heap.size = gs := by have := hw4.size; have h3 := hw2.size; simp only [World.size_alloc] at hgl; omega
          have hB4 : w.heap.size ≤ gs := by simp only [World.size_alloc] at hgl; omega
          have hb1 : w1.heap.size ≤ w4.heap.size := by have := hxy4.size; omega
          clear hE p0 p1 p2 p3 p4 p5 p6 p7 p8 p9 p10 p11 hcd' hxy hxy3 hw3 hwr kP hd1
          have hss := set_same
          refine G.wp_region_stab (G := LkS gs (spc S ++ spc S).length (fun j => (spc S ++ spc S)[j]?)) (RsForms w1.heap.size (S.length + S.length) (spc S ++ spc S)) (by kernel_rfl) (by kernel_rfl) (RsForms_mono gs w1.heap.size (S.length + S.length) (spc S ++ spc S)) (fun hex => ?_)
          iterate 15
            (refine G.wpS_one (A := ?_) hex rfl rfl (by simp) ?_ ?_ ?_
             rotate_left 2
             · intro w' hC K hK
               obtain ⟨p0, p1, p2, p3, p4, p5, p6, p7, p8, p9, p10, p11⟩ := cells12 (hC.1.blk kP' hP4); have f1 := Lib.hid (lst_bytes a L HF.out.1 hn (own_lks' HO1'.out hC.1 hgl4)); have f2 := Lib.hid (Spans.of_own (own_lks HO2'.out hC.1 (fun j hj => ⟨by rw [List.length_append]; omega, by rw [List.getElem?_append_left hj]⟩)) (by omega) HF.out.2.2.2.2.2.1)
               go_wp2_with (first | (go_at_call 15; refine (of_eq _ (lst a) a _ f1.out HF.out.2.2.2.2.2.2.2.2.2.2.1).mono ?_; rintro e w2 ⟨rfl, hb2⟩) | (go_at_call 18; refine (ofspans_eq _ (sp8 S) a _ f2.out HF.out.2.2.2.2.2.2.2.2.1).mono ?_; rintro e w2 ⟨rfl, hb2⟩))
               refine hK _ ?_
               first | exact LkS.refl _ | exact LkS.of_ext (by assumption)
             rotate_left 1
             · rfl
             clear hex; intro hex)
          refine G.wpS_rel (fun v w => w.ownsRow w1.heap.size 39 2 v (S.length + S.length) (spc S ++ spc S)) rfl rfl (by simp) (by first | rfl | (simp [Region.wanted, yielded]; done)) ?_ ?_
          · intro w' hC K hK
            have HOw := Lib.hid (own_lks HO2'.out hC.1 (fun j hj => ⟨by rw [List.length_append]; omega, by rw [List.getElem?_append_left hj]⟩))
            obtain ⟨i0, hi0, hz0, hz1, hz2'⟩ := info_parts info_span
            refine wpList_append_two (by first | rfl | (simp [Region.wanted, yielded]; done)) (.tmp 155) (.tmp 156) w1.heap.size 27 39 i0 (.agg #[.int .u8 0, .int .u8 0]) 2 2 rfl Tryd.underlying27 hi0 hz0 hz1 hz2' rfl (by decide) gs cs S.length (spc S) HOw.out rfl ⟨gs, 0, none⟩ S.length cs (spc S) rfl (spc_len S) (HOw.out.cells rfl) (spc_one S) (by unfold maxLen; omega) (by omega) (by have := hC.1.1.2.2.2; omega) ?_
            intro v' w'' ho hx
            exact hK v' w'' hx ho
          clear hex
          intro v1 w' hex hv1
          replace hex := Exists.intro w' hex
          simp only [Act.put, List.setIfInBounds_toArray, List.set_cons_succ, List.set_cons_zero]
          refine G.wpS_one (A := ?_) hex rfl rfl (by simp) ?_ ?_ ?_
          rotate_left 2
          · intro w' hC K hK
            have f15 := Lib.hid (spans_two S (by omega) HF.out.2.2.2.2.2.1 ((hC.2 15 (by simp [Region.binds])).1 rfl))
            go_wp2_with (go_at_call 18; refine (ofspans_eq _ (sp8 (S ++ S)) a _ f15.out HF.out.2.2.2.2.2.2.2.2.2.1).mono ?_; rintro e w2 ⟨rfl, hb2⟩)
            refine hK _ ?_
            first | exact LkS.refl _ | exact LkS.of_ext (by assumption)
          rotate_left 1
          · rfl
          clear hex; intro hex
          iterate 8
            (refine G.wpS_one (A := ?_) hex rfl rfl (by simp) ?_ ?_ ?_
             rotate_left 2
             · intro w' hC K hK
               obtain ⟨p0, p1, p2, p3, p4, p5, p6, p7, p8, p9, p10, p11⟩ := cells12 (hC.1.blk kP' hP4); have hTw := Lib.hid (HT.out.ext (hw4.trans (hC.1.below hw4.size hB4)))
               go_wp2_with (go_at_call 38; refine (wakes_any _ hTw.out).mono ?_; rintro e w2 ⟨rfl, hb2⟩)
               refine hK _ ?_
               first | exact LkS.refl _ | exact LkS.of_ext (by assumption)
             rotate_left 1
             · rfl
             clear hex; intro hex)
          refine G.wpS_nil fun w5 hE => ?_
          have hw5 := hw4.trans (hE.1.below hw4.size hB4)
          clear hE hex
          go_wp2
          go_ret
          exact ⟨rfl, hw5⟩
theorem lst_none (s : BitVec 256) (h : lstN s 4 = []) : s = 0#256 := by
  apply BitVec.eq_of_getLsbD_eq
  intro i hi
  cases hb : s.getLsbD i with
  | false => simp
  | true =>
    have := (mem_lst s i).2 ⟨hi, hb⟩
    rw [h] at this; cases this
theorem spans_none (s : BitVec 256) (h : lstN s 4 = []) (w : World) (hT : Tab w) :
    Calls Tryd.prog 42 #[sv s] w fun e w' => e = .returned (.slice none 0 0) ∧ Below w.heap.size w w' := by
  obtain rfl := lst_none s h
  exact spans_zero w hT
set_option maxHeartbeats 4000000 in
set_option maxRecDepth 100000 in
theorem forms_none (a b c : BitVec 256) (w : World) (hT : Tab w) (ha : lstN a 4 = []) :
    Calls Tryd.prog 7 #[.agg (three a b c)] w fun e w' => e = .returned (.bool true) ∧ Below w.heap.size w w' := by
  have hz := lst_none a ha
  have hcnt : cnt a = 0 := by rw [cnt_len, ha]; rfl
  have hlea : lea a = 0 := by unfold lea; rw [ha]; rfl
  have hofl : ofl [] = a := by rw [hz]; rfl
  have hofs : ofs [] = a := by rw [hz]; rfl
  have hne : decide (a ≠ 0#256) = false := by apply decide_eq_false; simp [hz]
  have HF := Lib.hid (And.intro ha (And.intro hcnt (And.intro hlea (And.intro hofl (And.intro hofs hne)))))
  have HT := Lib.hid hT
  clear ha hcnt hlea hofl hofs hne hT hz
  have kP := Blk.new w (three a b c) 49
  have hw0 : Below w.heap.size w (w.alloc (.cells (three a b c) 49)) := by (repeat' (first | (with_reducible exact Below.refl _ _) | (with_reducible assumption) | (with_reducible refine below_drewN ?_ _) | (with_reducible refine Below.alloc ?_ ?_ _) | (with_reducible refine Below.drew ?_) | (with_reducible refine Below.setCell ?_ ?_ _) | (with_reducible refine Below.trans ?_ (Below.mono (by with_reducible assumption) ?_)) | go_size))
  go_enter Tryd.func7, Tryd.ntmps7
  go_wp2_with fail
  refine (list_own a _ (HT.out.ext hw0)).mono ?_
  rintro e w1 ⟨v, rfl, hown, hE⟩
  rw [HF.out.1] at hown
  have hv : ∃ ao cap, v = .slice ao 0 cap := by
    obtain ⟨_, ⟨h, _⟩ | ⟨g, cap, cur, h, _⟩⟩ := hown
    · exact ⟨none, 0, h⟩
    · exact ⟨_, cap, h⟩
  obtain ⟨ao, cap, rfl⟩ := hv
  replace kP := kP.ext hE
  have hw1 := bel_call hw0 hE
  have HO1 := Lib.hid hown
  clear hE hown hw0
  obtain ⟨p0, p1, p2, p3, p4, p5, p6, p7, p8, p9, p10, p11⟩ := cells12 kP
  go_wp2_with fail
  refine (spans_none a HF.out.1 _ (HT.out.ext hw1)).mono ?_
  rintro e w2 ⟨rfl, hE⟩
  replace kP := kP.ext hE
  have hw2 := bel_call hw1 hE
  replace HO1 := Lib.hid (own_below HO1.out hE (Nat.le_refl _))
  have HT2 := Lib.hid (HT.out.ext hw2)
  clear hE hw1 p0 p1 p2 p3 p4 p5 p6 p7 p8 p9 p10 p11
  go_wp2_with fail
  refine wp_loop_rounds 1 ?_
  rw [rounds_succ]
  go_wp2_with fail
  refine wp_loop_rounds 1 ?_
  rw [rounds_succ]
  obtain ⟨p0, p1, p2, p3, p4, p5, p6, p7, p8, p9, p10, p11⟩ := cells12 kP
  go_wp2_with fail
  refine (least_eq a 0 false HF.out.2.2.1 HF.out.2.2.2.2.2 _ HT2.out).mono ?_
  rintro e w3 ⟨rfl, hE⟩
  replace kP := kP.ext hE
  have hw3 := bel_call hw2 hE
  replace HO1 := Lib.hid (own_below HO1.out hE (Nat.le_refl _))
  clear hE hw2 p0 p1 p2 p3 p4 p5 p6 p7 p8 p9 p10 p11
  obtain ⟨p0, p1, p2, p3, p4, p5, p6, p7, p8, p9, p10, p11⟩ := cells12 kP
  go_wp2_with (go_at_call 40; refine (count_eq a 0 HF.out.2.1 _).mono ?_; rintro e w4 ⟨rfl, hE⟩)
  replace kP := kP.ext hE
  have hw4 := bel_call hw3 hE
  replace HO1 := Lib.hid (own_below HO1.out hE (Nat.le_refl _))
  have HT4 := Lib.hid (HT.out.ext hw4)
  have hss := set_same
  clear hE hw3 p0 p1 p2 p3 p4 p5 p6 p7 p8 p9 p10 p11
  refine wp_region_stab (fun _ => none) (by kernel_rfl) (by kernel_rfl) (fun _ _ h => by cases h) (fun hex => ?_)
  iterate 25
    (refine wpS_one (A := ?_) hex rfl rfl (by simp) ?_ ?_ ?_
     rotate_left 2
     · intro w' hC K hK
       obtain ⟨hcell, hfrz⟩ := bcell hC.1.ext
       obtain ⟨p0, p1, p2, p3, p4, p5, p6, p7, p8, p9, p10, p11⟩ := cells12 (kP.ext hC.1.ext); have hTw := Lib.hid (HT4.out.ext hC.1.ext); have f1 := Lib.hid (Bytes.of_own (L := []) (own_below HO1.out hC.1.ext (Nat.le_refl _)) (by simp) (fun x hx => by cases hx)); clear hcell hfrz
       go_wp2_with (first | (go_at_call 15; refine (of_eq _ [] a _ f1.out HF.out.2.2.2.1).mono ?_; rintro e w2 ⟨rfl, hb2⟩) | (go_at_call 18; refine (ofspans_eq _ [] a _ (Slc.nil _) HF.out.2.2.2.2.1).mono ?_; rintro e w2 ⟨rfl, hb2⟩) | (go_at_call 38; refine (wakes_any _ hTw.out).mono ?_; rintro e w2 ⟨rfl, hb2⟩))
       refine hK _ ?_
       first | exact Gr.refl _ _ | exact Gr.of_ext (by assumption) hC.1.1.size
     rotate_left 1
     · rfl
     clear hex; intro hex)
  refine wpS_nil fun w5 hE => ?_
  replace hE := hE.1.ext
  obtain ⟨hcell_w5, hfrz_w5⟩ := bcell hE
  have hw5 := bel_call hw4 hE
  clear hcell_w5 hfrz_w5 hex hE
  go_wp2
  go_ret
  exact ⟨rfl, hw5⟩
theorem forms_any (a b c : BitVec 256) (w : World) (hT : Tab w) :
    Calls Tryd.prog 7 #[.agg (three a b c)] w fun e w' => e = .returned (.bool true) ∧ Below w.heap.size w w' := by
  by_cases ha : lstN a 4 = []
  · exact forms_none a b c w hT ha
  · exact forms_some a b c w hT ha
end Go.Proofs.YtkhmkcaocacfhaaDoor
