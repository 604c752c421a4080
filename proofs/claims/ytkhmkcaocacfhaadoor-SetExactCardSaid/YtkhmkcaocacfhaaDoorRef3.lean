/- What each call of package bolterref1 does: sets of lists, complements, and what is told of a set. -/
import Derived.Test.YtkhmkcaocacfhaaDoorRef2
namespace Go.Proofs.YtkhmkcaocacfhaaDoor
open Go Go.RowKit
theorem rinter_eq (s t r : BitVec 256) (h : s &&& t = r) (w : World) :
    Calls Tryd.prog 28 #[sv s, sv t] w fun e w' => e = .returned (sv r) ∧ Below w.heap.size w w' := by subst h; exact rinter_any s t w
theorem runion_eq (s t r : BitVec 256) (h : s ||| t = r) (w : World) :
    Calls Tryd.prog 26 #[sv s, sv t] w fun e w' => e = .returned (sv r) ∧ Below w.heap.size w w' := by subst h; exact runion_any s t w
theorem rminus_eq (s t r : BitVec 256) (h : s &&& ~~~t = r) (w : World) :
    Calls Tryd.prog 30 #[sv s, sv t] w fun e w' => e = .returned (sv r) ∧ Below w.heap.size w w' := by subst h; exact rminus_any s t w
theorem rall_eq (r : BitVec 256) (h : full = r) (w : World) :
    Calls Tryd.prog 22 #[] w fun e w' => e = .returned (sv r) ∧ Below w.heap.size w w' := by subst h; exact rall_any w
set_option maxHeartbeats 1000000 in
set_option maxRecDepth 20000 in
theorem rcompl_any (a : BitVec 256) (w : World) :
    Calls Tryd.prog 32 #[sv a] w fun e w' => e = .returned (sv (~~~a)) ∧ Below w.heap.size w w' := by
  obtain ⟨f, hf⟩ : ∃ f, full = f := ⟨_, rfl⟩
  obtain ⟨c, hc⟩ : ∃ c, ~~~a = c := ⟨_, rfl⟩
  have hfc : f &&& ~~~a = c := by
    rw [← hf, ← hc]
    apply BitVec.eq_of_getLsbD_eq
    intro i hi
    have hfb : full.getLsbD i = true := by unfold full; rw [BitVec.getLsbD_not]; simp [hi]
    rw [BitVec.getLsbD_and, hfb]; simp
  have HH := Lib.hid (And.intro hf hfc)
  rw [hc]
  clear hf hc hfc
  have k1 := (Blk.new w (svs a) 25).alloc (.cells zer 25)
  have k2 := Blk.new (w.alloc (.cells (svs a) 25)) zer 25
  simp only [World.size_alloc] at k2
  have hbel : Below w.heap.size w ((w.alloc (.cells (svs a) 25)).alloc (.cells zer 25)) := by (repeat' (first | (with_reducible exact Below.refl _ _) | (with_reducible assumption) | (with_reducible refine below_drewN ?_ _) | (with_reducible refine Below.alloc ?_ ?_ _) | (with_reducible refine Below.drew ?_) | (with_reducible refine Below.setCell ?_ ?_ _) | (with_reducible refine Below.trans ?_ (Below.mono (by with_reducible assumption) ?_)) | go_size))
  go_enter Tryd.func32, Tryd.ntmps32
  go_wp2_with fail
  refine wp_region_tail (fun _ => none) 3 (by kernel_rfl) (by kernel_rfl) (fun _ _ h => by cases h) (fun hex => ?_)
  simp only [List.take_succ_cons, List.take_zero, List.drop_succ_cons, List.drop_zero]
  iterate 3
    (refine wpS_one (A := ?_) hex rfl rfl (by simp) ?_ ?_ ?_
     rotate_left 2
     · intro w' hC K hK
       obtain ⟨hcell, hfrz⟩ := bcell hC.1.ext
       obtain ⟨p0, p1, p2, p3⟩ := (k1.ext hC.1.ext).cells4; clear hcell hfrz
       go_wp2_with (first | (go_at_call 22; refine (rall_eq f HH.out.1 _).mono ?_; rintro e w2 ⟨rfl, hb2⟩) | (go_at_call 30; refine (rminus_eq f a c HH.out.2 _).mono ?_; rintro e w2 ⟨rfl, hb2⟩))
       refine hK _ ?_
       first | exact Gr.refl _ _ | exact Gr.of_ext (by assumption) hC.1.1.size
     rotate_left 1
     · rfl
     clear hex; intro hex)
  refine wpS_nil fun w3 hE => ?_
  replace hE := hE.1.ext
  obtain ⟨hcell_w3, hfrz_w3⟩ := bcell hE
  clear hcell_w3 hfrz_w3 hex
  replace k2 := k2.ext hE
  replace hbel := bel_call hbel hE
  clear hE
  obtain ⟨p0, p1, p2, p3⟩ := k2.cells4
  have hfr := k2.free
  go_wp2
  refine bodyPost_ret (v := sv c) ?_ rfl ⟨rfl, by (repeat' (first | (with_reducible exact Below.refl _ _) | (with_reducible assumption) | (with_reducible refine below_drewN ?_ _) | (with_reducible refine Below.alloc ?_ ?_ _) | (with_reducible refine Below.drew ?_) | (with_reducible refine Below.setCell ?_ ?_ _) | (with_reducible refine Below.trans ?_ (Below.mono (by with_reducible assumption) ?_)) | go_size))⟩
  simp [results, Tryd.results32, go_sem, *]
set_option maxHeartbeats 1000000 in
set_option maxRecDepth 20000 in
theorem rwithin_any (a b : BitVec 256) (w : World) :
    Calls Tryd.prog 34 #[sv a, sv b] w fun e w' => e = .returned (.bool (decide (a &&& ~~~b = 0#256))) ∧ Below w.heap.size w w' := by
  obtain ⟨c, hc⟩ : ∃ c, a &&& ~~~b = c := ⟨_, rfl⟩
  obtain ⟨q, hq⟩ : ∃ q, decide (c = 0#256) = q := ⟨_, rfl⟩
  have heq : ∀ w, (Op.equalIn 10000 25 (sv c) sv0).run Tryd.prog w = .ok q w := fun w => by rw [set_eq0, hq]
  have HH := Lib.hid (And.intro hc hq)
  rw [hc, hq]
  clear hc hq
  have k1 := (Blk.new w (svs a) 25).alloc (.cells (svs b) 25)
  have k2 := Blk.new (w.alloc (.cells (svs a) 25)) (svs b) 25
  simp only [World.size_alloc] at k2
  have hbel : Below w.heap.size w ((w.alloc (.cells (svs a) 25)).alloc (.cells (svs b) 25)) := by (repeat' (first | (with_reducible exact Below.refl _ _) | (with_reducible assumption) | (with_reducible refine below_drewN ?_ _) | (with_reducible refine Below.alloc ?_ ?_ _) | (with_reducible refine Below.drew ?_) | (with_reducible refine Below.setCell ?_ ?_ _) | (with_reducible refine Below.trans ?_ (Below.mono (by with_reducible assumption) ?_)) | go_size))
  go_enter Tryd.func34, Tryd.ntmps34
  go_wp2_with fail
  refine (rminus_eq a b c HH.out.1 _).mono ?_
  rintro e w9 ⟨rfl, hE⟩
  replace hbel := bel_call hbel hE
  clear hE
  go_wp2
  go_ret
  exact ⟨rfl, hbel⟩
set_option maxHeartbeats 1000000 in
set_option maxRecDepth 20000 in
theorem rof_any (v : Value) (l : List UInt8) (w : World) (hv : Bytes w v l) :
    Calls Tryd.prog 16 #[v] w fun e w' => e = .returned (sv (ofl l)) ∧ Below w.heap.size w w' := by
  obtain ⟨hlen, ⟨rfl, a, cap, rfl⟩ | ⟨b, o, cap, rfl, hcap, hcap2, hpos, hb, hcells⟩⟩ := hv.open
  · go_enter Tryd.func16, Tryd.ntmps16
    go_wp2
    refine wp_loop_rounds 1 ?_
    rw [rounds_succ]
    go_wp2
    refine bodyPost_ret (v := sv (ofl [])) ?_ rfl ⟨rfl, by (repeat' (first | (with_reducible exact Below.refl _ _) | (with_reducible assumption) | (with_reducible refine below_drewN ?_ _) | (with_reducible refine Below.alloc ?_ ?_ _) | (with_reducible refine Below.drew ?_) | (with_reducible refine Below.setCell ?_ ?_ _) | (with_reducible refine Below.trans ?_ (Below.mono (by with_reducible assumption) ?_)) | go_size))⟩
    simp [results, Tryd.results16, go_sem, ofl, wd_zero]
  · have HC := Lib.hid hcells
    clear hcells
    go_enter Tryd.func16, Tryd.ntmps16
    go_wp2
    go_loopw [4] (fun i wr => ∃ k : Nat, k ≤ l.length ∧ i = .int .i64 k ∧ Blk wr w.heap.size zer 25 ∧ Blk wr (w.heap.size + 1) (svs (ofl (l.take k))) 25 ∧ Below w.heap.size w wr) (fun i _ => l.length - (intOf i).toNat)
    case atStart => exact ⟨0, Nat.zero_le _, rfl, (Blk.new w _ _).alloc _, by simpa [svs, ofl, wd_zero] using Blk.new (w.alloc _) _ _, by (repeat' (first | (with_reducible exact Below.refl _ _) | (with_reducible assumption) | (with_reducible refine below_drewN ?_ _) | (with_reducible refine Below.alloc ?_ ?_ _) | (with_reducible refine Below.drew ?_) | (with_reducible refine Below.setCell ?_ ?_ _) | (with_reducible refine Below.trans ?_ (Below.mono (by with_reducible assumption) ?_)) | go_size))⟩
    case round =>
      obtain ⟨k, hk, rfl, hB0, hB1, hbel⟩ := hrel
      obtain ⟨A, hA⟩ : ∃ A, ofl (l.take k) = A := ⟨_, rfl⟩
      rw [hA] at hB1
      obtain ⟨c0, c1, c2, c3⟩ := hB1.cells4
      by_cases hlt : k < l.length
      · have hsrc : wr.cell? ⟨b, o + k, none⟩ = some (ub (nth l k)) := by rw [hbel.cell (p := ⟨b, o + k, none⟩) hb]; exact HC.out k hlt
        have ht := ofl_take l k hlt
        rw [hA, Int.toNat_natCast] at ht
        have hx := (nth l k).toNat_lt
        generalize nth l k = x at *
        have HT := Lib.hid ht
        have hz := hB1.lt
        clear ht hA
        go_wp2_with fail
        refine wp_region_tail (fun _ => none) 7 (by kernel_rfl) (by kernel_rfl) (fun _ _ h => by cases h) (fun hex => ?_)
        simp only [List.take_succ_cons, List.take_zero, List.drop_succ_cons, List.drop_zero]
        iterate 7
          (refine wpS_one (A := ?_) hex rfl rfl (by simp) ?_ ?_ ?_
           rotate_left 2
           · intro w' hC K hK
             obtain ⟨hcell, hfrz⟩ := bcell hC.1.ext
             obtain ⟨p0, p1, p2, p3⟩ := (hB1.ext hC.1.ext).cells4; have hsrc' := (hC.1.ext.cell (p := ⟨b, o + k, none⟩) (by have := hbel.size; simp; omega)).trans hsrc; clear hcell hfrz
             go_wp2_with (go_at_call 59; refine (rwith_eq A x.toNat _ _ hx rfl).mono ?_; rintro e w2 ⟨rfl, hb2⟩)
             refine hK _ ?_
             first | exact Gr.refl _ _ | exact Gr.of_ext (by assumption) hC.1.1.size
           rotate_left 1
           · rfl
           clear hex; intro hex)
        refine wpS_nil fun w2 hE => ?_
        replace hE := hE.1.ext
        obtain ⟨hcell_w2, hfrz_w2⟩ := bcell hE
        have hB0' := hB0.ext hE
        have hB1' := hB1.ext hE
        have hbel2 : Below w.heap.size w w2 := bel_call hbel hE
        clear c0 c1 c2 c3 hsrc hB0 hB1 hcell_w2 hfrz_w2 hex hE
        obtain ⟨c0, c1, c2, c3⟩ := hB1'.cells4
        have hfr := hB1'.free
        go_wp2
        go_roundw
        case rel => exact ⟨k + 1, by omega, by go_num, hB0'.other4 (by omega) _ _ _ _, by rw [HT.out]; exact hB1'.store4 _ _ _ _, bel_set4 hbel2 (by omega) _ _ _ _⟩
        case measure => simp [intOf]; omega
      · obtain rfl : k = l.length := by omega
        rw [List.take_length] at hA
        obtain ⟨d0, d1, d2, d3⟩ := hB0.cells4
        have hfr := hB0.free
        have HA := Lib.hid hA
        clear hA
        go_wp2
        refine bodyPost_ret (v := sv (ofl l)) ?_ rfl ⟨rfl, by (repeat' (first | (with_reducible exact Below.refl _ _) | (with_reducible assumption) | (with_reducible refine below_drewN ?_ _) | (with_reducible refine Below.alloc ?_ ?_ _) | (with_reducible refine Below.drew ?_) | (with_reducible refine Below.setCell ?_ ?_ _) | (with_reducible refine Below.trans ?_ (Below.mono (by with_reducible assumption) ?_)) | go_size))⟩
        rw [HA.out]
        simp [results, Tryd.results16, go_sem, *]
set_option maxHeartbeats 1000000 in
set_option maxRecDepth 20000 in
theorem rofspans_any (v : Value) (l : List (UInt8 × UInt8)) (w : World) (hv : Spans w v l) :
    Calls Tryd.prog 19 #[v] w fun e w' => e = .returned (sv (ofs l)) ∧ Below w.heap.size w w' := by
  obtain ⟨hlen, ⟨rfl, a, cap, rfl⟩ | ⟨b, o, cap, rfl, hcap, hcap2, hpos, hb, hcells⟩⟩ := hv.open
  · go_enter Tryd.func19, Tryd.ntmps19
    go_wp2
    refine wp_loop_rounds 1 ?_
    rw [rounds_succ]
    go_wp2
    refine bodyPost_ret (v := sv (ofs [])) ?_ rfl ⟨rfl, by (repeat' (first | (with_reducible exact Below.refl _ _) | (with_reducible assumption) | (with_reducible refine below_drewN ?_ _) | (with_reducible refine Below.alloc ?_ ?_ _) | (with_reducible refine Below.drew ?_) | (with_reducible refine Below.setCell ?_ ?_ _) | (with_reducible refine Below.trans ?_ (Below.mono (by with_reducible assumption) ?_)) | go_size))⟩
    simp [results, Tryd.results19, go_sem, ofs, wd_zero]
  · have HC := Lib.hid hcells
    clear hcells
    go_enter Tryd.func19, Tryd.ntmps19
    go_wp2
    go_loopw [4] (fun i wr => ∃ k : Nat, k ≤ l.length ∧ i = .int .i64 k ∧ Blk wr w.heap.size zer 25 ∧ Blk wr (w.heap.size + 1) (svs (ofs (l.take k))) 25 ∧ Below w.heap.size w wr) (fun i _ => l.length - (intOf i).toNat)
    case atStart => exact ⟨0, Nat.zero_le _, rfl, (Blk.new w _ _).alloc _, by simpa [svs, ofs, wd_zero] using Blk.new (w.alloc _) _ _, by (repeat' (first | (with_reducible exact Below.refl _ _) | (with_reducible assumption) | (with_reducible refine below_drewN ?_ _) | (with_reducible refine Below.alloc ?_ ?_ _) | (with_reducible refine Below.drew ?_) | (with_reducible refine Below.setCell ?_ ?_ _) | (with_reducible refine Below.trans ?_ (Below.mono (by with_reducible assumption) ?_)) | go_size))⟩
    case round =>
      obtain ⟨k, hk, rfl, hB0, hB1, hbel⟩ := hrel
      obtain ⟨A, hA⟩ : ∃ A, ofs (l.take k) = A := ⟨_, rfl⟩
      rw [hA] at hB1
      obtain ⟨c0, c1, c2, c3⟩ := hB1.cells4
      by_cases hlt : k < l.length
      · obtain ⟨hs1, hs2⟩ := HC.out k hlt
        have hsrc : wr.cell? ⟨b, o + k * 2, none⟩ = some (ub (slo l k)) := by rw [hbel.cell (p := ⟨b, o + k * 2, none⟩) hb]; exact hs1
        have hsrc2 : wr.cell? ⟨b, o + k * 2 + 1, none⟩ = some (ub (shi l k)) := by rw [hbel.cell (p := ⟨b, o + k * 2 + 1, none⟩) hb]; exact hs2
        have ht := ofs_take l k hlt
        rw [hA] at ht
        have hx1 := (slo l k).toNat_lt
        have hx2 := (shi l k).toNat_lt
        generalize slo l k = lo at *
        generalize shi l k = hi at *
        obtain ⟨R, hR⟩ : ∃ R, rng (lo.toNat : Int) (hi.toNat : Int) = R := ⟨_, rfl⟩
        rw [hR] at ht
        have HT := Lib.hid (And.intro ht hR)
        have hz := hB1.lt
        clear ht hA hs1 hs2 hR
        go_wp2_with fail
        refine wp_region_tail (fun _ => none) 15 (by kernel_rfl) (by kernel_rfl) (fun _ _ h => by cases h) (fun hex => ?_)
        simp only [List.take_succ_cons, List.take_zero, List.drop_succ_cons, List.drop_zero]
        iterate 15
          (refine wpS_one (A := ?_) hex rfl rfl (by simp) ?_ ?_ ?_
           rotate_left 2
           · intro w' hC K hK
             obtain ⟨hcell, hfrz⟩ := bcell hC.1.ext
             obtain ⟨p0, p1, p2, p3⟩ := (hB1.ext hC.1.ext).cells4; have hsrc' := (hC.1.ext.cell (p := ⟨b, o + k * 2, none⟩) (by have := hbel.size; simp; omega)).trans hsrc; have hsrc2' := (hC.1.ext.cell (p := ⟨b, o + k * 2 + 1, none⟩) (by have := hbel.size; simp; omega)).trans hsrc2; clear hcell hfrz
             go_wp2_with (first | (go_at_call 24; refine (rrange_eq lo.toNat hi.toNat R _ (by omega) (by omega) HT.out.2).mono ?_; rintro e w2 ⟨rfl, hb2⟩) | (go_at_call 26; refine (runion_eq A R _ rfl _).mono ?_; rintro e w2 ⟨rfl, hb2⟩))
             refine hK _ ?_
             first | exact Gr.refl _ _ | exact Gr.of_ext (by assumption) hC.1.1.size
           rotate_left 1
           · rfl
           clear hex; intro hex)
        refine wpS_nil fun w2 hE => ?_
        replace hE := hE.1.ext
        obtain ⟨hcell_w2, hfrz_w2⟩ := bcell hE
        have hB0' := hB0.ext hE
        have hB1' := hB1.ext hE
        have hbel2 : Below w.heap.size w w2 := bel_call hbel hE
        clear c0 c1 c2 c3 hsrc hsrc2 hB0 hB1 hcell_w2 hfrz_w2 hex hE
        obtain ⟨c0, c1, c2, c3⟩ := hB1'.cells4
        have hfr := hB1'.free
        go_wp2
        go_roundw
        case rel => exact ⟨k + 1, by omega, by go_num, hB0'.other4 (by omega) _ _ _ _, by rw [HT.out.1]; exact hB1'.store4 _ _ _ _, bel_set4 hbel2 (by omega) _ _ _ _⟩
        case measure => simp [intOf]; omega
      · obtain rfl : k = l.length := by omega
        rw [List.take_length] at hA
        obtain ⟨d0, d1, d2, d3⟩ := hB0.cells4
        have hfr := hB0.free
        have HA := Lib.hid hA
        clear hA
        go_wp2
        refine bodyPost_ret (v := sv (ofs l)) ?_ rfl ⟨rfl, by (repeat' (first | (with_reducible exact Below.refl _ _) | (with_reducible assumption) | (with_reducible refine below_drewN ?_ _) | (with_reducible refine Below.alloc ?_ ?_ _) | (with_reducible refine Below.drew ?_) | (with_reducible refine Below.setCell ?_ ?_ _) | (with_reducible refine Below.trans ?_ (Below.mono (by with_reducible assumption) ?_)) | go_size))⟩
        rw [HA.out]
        simp [results, Tryd.results19, go_sem, *]
end Go.Proofs.YtkhmkcaocacfhaaDoor
