/- A byte of a union, a cut, a difference, a complement: the statement's walk. -/
import Derived.Test.YtkhmkcaocacfhaaDoorEqs
namespace Go.Proofs.YtkhmkcaocacfhaaDoor
open Go Go.RowKit
theorem cells12 {w : World} {b : Nat} {t : TypeId} {x0 x1 x2 x3 x4 x5 x6 x7 x8 x9 x10 x11 : Value} (h : Blk w b #[x0, x1, x2, x3, x4, x5, x6, x7, x8, x9, x10, x11] t) : w.cell? ⟨b, 0, none⟩ = some x0 ∧ w.cell? ⟨b, 1, none⟩ = some x1 ∧ w.cell? ⟨b, 2, none⟩ = some x2 ∧ w.cell? ⟨b, 3, none⟩ = some x3 ∧ w.cell? ⟨b, 4, none⟩ = some x4 ∧ w.cell? ⟨b, 5, none⟩ = some x5 ∧ w.cell? ⟨b, 6, none⟩ = some x6 ∧ w.cell? ⟨b, 7, none⟩ = some x7 ∧ w.cell? ⟨b, 8, none⟩ = some x8 ∧ w.cell? ⟨b, 9, none⟩ = some x9 ∧ w.cell? ⟨b, 10, none⟩ = some x10 ∧ w.cell? ⟨b, 11, none⟩ = some x11 :=
  ⟨h.cell 0, h.cell 1, h.cell 2, h.cell 3, h.cell 4, h.cell 5, h.cell 6, h.cell 7, h.cell 8, h.cell 9, h.cell 10, h.cell 11⟩
/-- What is known of byte k. -/
structure ByFacts (a b c u n m d o lo hi f : BitVec 256) (k : Nat) (x y z : Bool) : Prop where
  p_a : a.getLsbD ((k : Int)).toNat = x
  p_b : b.getLsbD ((k : Int)).toNat = y
  p_u : u.getLsbD ((k : Int)).toNat = (x || y)
  p_n : n.getLsbD ((k : Int)).toNat = (x && y)
  p_m : m.getLsbD ((k : Int)).toNat = (x && !y)
  p_d : d.getLsbD ((k : Int)).toNat = !z
  p_c : c.getLsbD ((k : Int)).toNat = z
  p_o : ofl [UInt8.ofNat k] = o
  p_w : decide (o &&& ~~~a = 0#256) = x
  p_lo : rng 0 (k : Int) = lo
  p_hi : rng (k : Int) 255 = hi
  p_f : lo ||| hi = f
  p_f' : full = f
  p_cnt : cnt lo = k + 1
theorem by_facts (a b c : BitVec 256) (k : Nat) (hk : k < 256) : ∃ o lo hi f x y z, ByFacts a b c (a ||| b) (a &&& b) (a &&& ~~~b) (~~~c) o lo hi f k x y z := by
  have hn : ((k : Int)).toNat = k := by omega
  refine ⟨_, _, _, _, _, _, _, ⟨rfl, rfl, ?_, ?_, ?_, ?_, rfl, rfl, ?_, rfl, rfl, rng_split ⟨k, hk⟩, rfl, cnt_low ⟨k, hk⟩⟩⟩
  · rw [hn]; simp
  · rw [hn]; simp
  · rw [hn]; simp [hk]
  · rw [hn]; simp [hk]
  · rw [hn]
    have e : ofl [UInt8.ofNat k] = 1#256 <<< k := by
      unfold ofl
      simp only [List.foldl_cons, List.foldl_nil, BitVec.zero_or]
      rw [UInt8.toNat_ofNat_of_lt' (by omega)]
    rw [e]; exact bit_within a k hk
theorem one_byte (w : World) (k : Nat) (t : TypeId) (hk : k < 256) : Bytes (w.alloc (.cells #[.int .u8 (k : Int)] t)) (.slice (some ⟨w.heap.size, 0, none⟩) 1 1) [UInt8.ofNat k] := by
  have e : ([UInt8.ofNat k].map ub).toArray = #[.int .u8 (k : Int)] := by
    simp only [List.map_cons, List.map_nil, ub]
    rw [UInt8.toNat_ofNat_of_lt' (by omega)]
  exact Bytes.of_blk [UInt8.ofNat k] (by rw [e]; exact Blk.new _ _ _) (by simp)
def RsBy (l : List UInt8) : Nat → Option (Value → World → Prop) := fun k => if k = 2 then some (fun v w => Bytes w v l) else none
theorem RsBy_mono (l : List UInt8) : RsMono (RsBy l) := by
  intro j R h
  unfold RsBy at h
  split at h
  · cases h; exact fun _ _ _ hx hb => Bytes.lk hb hx
  · cases h
set_option maxHeartbeats 10000000 in
set_option maxRecDepth 100000 in
theorem bytes_any (a b c : BitVec 256) (w : World) (hT : Tab w) :
    Calls Tryd.prog 4 #[.agg (three a b c)] w fun e w' => e = .returned (.bool true) ∧ Below w.heap.size w w' := by
  have hss := set_same
  obtain ⟨u, hu⟩ : ∃ u, a ||| b = u := ⟨_, rfl⟩
  obtain ⟨n, hn⟩ : ∃ u, a &&& b = u := ⟨_, rfl⟩
  obtain ⟨m, hm⟩ : ∃ u, a &&& ~~~b = u := ⟨_, rfl⟩
  obtain ⟨d, hd⟩ : ∃ u, ~~~c = u := ⟨_, rfl⟩
  have hF := by_facts a b c
  rw [hu, hn, hm, hd] at hF
  have HF := Lib.hid hF
  have HU := Lib.hid (And.intro hu (And.intro hn (And.intro hm hd)))
  have HT := Lib.hid hT
  clear hF hu hn hm hd hT
  have kP := Blk.new w (three a b c) 49
  have hw0 : Below w.heap.size w (w.alloc (.cells (three a b c) 49)) := by (repeat' (first | (with_reducible exact Below.refl _ _) | (with_reducible assumption) | (with_reducible refine below_drewN ?_ _) | (with_reducible refine Below.alloc ?_ ?_ _) | (with_reducible refine Below.drew ?_) | (with_reducible refine Below.setCell ?_ ?_ _) | (with_reducible refine Below.trans ?_ (Below.mono (by with_reducible assumption) ?_)) | go_size))
  go_enter Tryd.func4, Tryd.ntmps4
  go_wp2_with fail
  refine (union_eq a b u HU.out.1 _).mono ?_
  rintro e w1 ⟨rfl, hE⟩
  replace kP := (kP.ext hE).alloc (.cells (svs u) 25)
  have kU := Blk.new w1 (svs u) 25
  have hw1 := bel_alloc hw0 hE (.cells (svs u) 25)
  clear hE hw0
  obtain ⟨p0, p1, p2, p3, p4, p5, p6, p7, p8, p9, p10, p11⟩ := cells12 kP
  go_wp2_with fail
  refine (inter_eq a b n HU.out.2.1 _).mono ?_
  rintro e w2 ⟨rfl, hE⟩
  clear p0 p1 p2 p3 p4 p5 p6 p7 p8 p9 p10 p11
  replace kP := (kP.ext hE).alloc (.cells (svs n) 25)
  replace kU := (kU.ext hE).alloc (.cells (svs n) 25)
  have kN := Blk.new w2 (svs n) 25
  have hw2 := bel_alloc hw1 hE (.cells (svs n) 25)
  clear hE hw1
  obtain ⟨p0, p1, p2, p3, p4, p5, p6, p7, p8, p9, p10, p11⟩ := cells12 kP
  go_wp2_with fail
  refine (minus_eq a b m HU.out.2.2.1 _).mono ?_
  rintro e w3 ⟨rfl, hE⟩
  clear p0 p1 p2 p3 p4 p5 p6 p7 p8 p9 p10 p11
  replace kP := (kP.ext hE).alloc (.cells (svs m) 25)
  replace kU := (kU.ext hE).alloc (.cells (svs m) 25)
  replace kN := (kN.ext hE).alloc (.cells (svs m) 25)
  have kM := Blk.new w3 (svs m) 25
  have hw3 := bel_alloc hw2 hE (.cells (svs m) 25)
  clear hE hw2
  obtain ⟨p0, p1, p2, p3, p4, p5, p6, p7, p8, p9, p10, p11⟩ := cells12 kP
  go_wp2_with fail
  refine (compl_eq c d HU.out.2.2.2 _).mono ?_
  rintro e w4 ⟨rfl, hE⟩
  clear p0 p1 p2 p3 p4 p5 p6 p7 p8 p9 p10 p11
  replace kP := (kP.ext hE).alloc (.cells (svs d) 25)
  replace kU := (kU.ext hE).alloc (.cells (svs d) 25)
  replace kN := (kN.ext hE).alloc (.cells (svs d) 25)
  replace kM := (kM.ext hE).alloc (.cells (svs d) 25)
  have kD := Blk.new w4 (svs d) 25
  have hw4 := bel_alloc hw3 hE (.cells (svs d) 25)
  clear hE hw3
  go_wp2_with fail
  go_loopw [7] (fun i wr => ∃ k : Nat, k ≤ 256 ∧ i = .int .i64 k ∧ Ext (w4.alloc (.cells (svs d) 25)) wr) (fun i _ => 256 - (intOf i).toNat)
  case atStart => exact ⟨0, Nat.zero_le _, rfl, Below.refl _ _⟩
  case round =>
    obtain ⟨k, hk, rfl, hx⟩ := hrel
    have kP' := kP.ext hx
    have kU' := kU.ext hx
    have kN' := kN.ext hx
    have kM' := kM.ext hx
    have kD' := kD.ext hx
    have hwr : Below w.heap.size w wr := hw4.trans (hx.mono hw4.size)
    have HTr := Lib.hid (HT.out.ext hwr)
    clear kP kU kN kM kD hw4
    by_cases hlt : k < 256
    · obtain ⟨o, lo, hi, f, x, y, z, hf⟩ := HF.out k hlt
      have HB := Lib.hid hf
      clear hf
      obtain ⟨p0, p1, p2, p3, p4, p5, p6, p7, p8, p9, p10, p11⟩ := cells12 kP'
      go_wp2_with fail
      refine (has_eq a k x _ (by omega) (by omega) HB.out.p_a).mono ?_
      rintro e w5 ⟨rfl, hE⟩
      replace kP' := kP'.ext hE
      replace kU' := kU'.ext hE
      replace kN' := kN'.ext hE
      replace kM' := kM'.ext hE
      replace kD' := kD'.ext hE
      have hx5 := bel_call hx hE
      have hw5 := bel_call hwr hE
      clear hE p0 p1 p2 p3 p4 p5 p6 p7 p8 p9 p10 p11
      obtain ⟨p0, p1, p2, p3, p4, p5, p6, p7, p8, p9, p10, p11⟩ := cells12 kP'
      go_wp2_with fail
      refine (has_eq b k y _ (by omega) (by omega) HB.out.p_b).mono ?_
      rintro e w6 ⟨rfl, hE⟩
      replace kP' := kP'.ext hE
      replace kU' := kU'.ext hE
      replace kN' := kN'.ext hE
      replace kM' := kM'.ext hE
      replace kD' := kD'.ext hE
      have hx6 := bel_call hx5 hE
      have hw6 := bel_call hw5 hE
      clear hE p0 p1 p2 p3 p4 p5 p6 p7 p8 p9 p10 p11
      cases x <;> cases y <;> cases z
      all_goals
        have fu := HB.out.p_u
        have fn := HB.out.p_n
        have fm := HB.out.p_m
        have fd := HB.out.p_d
        have fc := HB.out.p_c
        simp only [Bool.or_false, Bool.or_true, Bool.and_true, Bool.and_false, Bool.not_true, Bool.not_false] at fu fn fm fd
        have HF4 := Lib.hid (And.intro fu (And.intro fn (And.intro fm (And.intro fd fc))))
        clear fu fn fm fd fc
        go_wp2_with fail
        refine wp_region_stab (fun _ => none) (by kernel_rfl) (by kernel_rfl) (fun _ _ h => by cases h) (fun hex => ?_)
        iterate 39
          (refine wpS_one (A := ?_) hex rfl rfl (by simp) ?_ ?_ ?_
           rotate_left 2
           · intro w' hC K hK
             obtain ⟨hcell, hfrz⟩ := bcell hC.1.ext
             obtain ⟨p0, p1, p2, p3, p4, p5, p6, p7, p8, p9, p10, p11⟩ := cells12 (kP'.ext hC.1.ext); obtain ⟨q0, q1, q2, q3⟩ := (kU'.ext hC.1.ext).cells4; obtain ⟨r0, r1, r2, r3⟩ := (kN'.ext hC.1.ext).cells4; obtain ⟨s0, s1, s2, s3⟩ := (kM'.ext hC.1.ext).cells4; obtain ⟨t0, t1, t2, t3⟩ := (kD'.ext hC.1.ext).cells4; clear hcell hfrz
             go_wp2_with (go_at_call 39; ((first | with_reducible refine (has_eq u k _ _ (by omega) (by omega) HF4.out.1).mono ?_ | with_reducible refine (has_eq n k _ _ (by omega) (by omega) HF4.out.2.1).mono ?_ | with_reducible refine (has_eq m k _ _ (by omega) (by omega) HF4.out.2.2.1).mono ?_ | with_reducible refine (has_eq d k _ _ (by omega) (by omega) HF4.out.2.2.2.1).mono ?_ | with_reducible refine (has_eq c k _ _ (by omega) (by omega) HF4.out.2.2.2.2).mono ?_); rintro e w2 ⟨rfl, hb2⟩))
             refine hK _ ?_
             first | exact Gr.refl _ _ | exact Gr.of_ext (by assumption) hC.1.1.size
           rotate_left 1
           · rfl
           clear hex; intro hex)
        refine wpS_nil fun w7 hE => ?_
        replace hE := hE.1.ext
        obtain ⟨hcell_w7, hfrz_w7⟩ := bcell hE
        clear hcell_w7 hfrz_w7 hex
        replace kP' := kP'.ext hE
        have hx7 := bel_call hx6 hE
        have hw7 := bel_call hw6 hE
        clear hE kU' kN' kM' kD'
        go_wp2_with fail
        refine wp_region_stab (RsBy [UInt8.ofNat k]) (by kernel_rfl) (by kernel_rfl) (RsBy_mono _) (fun hex => ?_)
        iterate 2
          (refine wpS_one (A := ?_) hex rfl rfl (by simp) ?_ ?_ ?_
           rotate_left 2
           · intro w' hC K hK
             obtain ⟨hcell, hfrz⟩ := bcell hC.1.ext
             go_wp2_with (fail)
             refine hK _ ?_
             first | exact Gr.refl _ _ | exact Gr.of_ext (by assumption) hC.1.1.size
           rotate_left 1
           · rfl
           clear hex; intro hex)
        refine wpS_rel (fun v w => Bytes w v [UInt8.ofNat k]) rfl rfl (by simp) (by first | rfl | (simp [Region.wanted, yielded]; done)) ?_ ?_
        · intro w' hC K hK
          simp only [Act.put, List.setIfInBounds_toArray, List.set_cons_succ, List.set_cons_zero] at hK
          obtain ⟨hcell, hfrz⟩ := bcell hC.1.ext
          go_wp2_with (fail)
          refine hK _ _ ?_ ?_
          · first | exact Gr.refl _ _ | exact Gr.of_ext (by assumption) hC.1.1.size | (refine Gr.of_ext ?_ hC.1.1.size; (repeat' (first | (with_reducible exact Below.refl _ _) | (with_reducible assumption) | (with_reducible refine below_drewN ?_ _) | (with_reducible refine Below.alloc ?_ ?_ _) | (with_reducible refine Below.drew ?_) | (with_reducible refine Below.setCell ?_ ?_ _) | (with_reducible refine Below.trans ?_ (Below.mono (by with_reducible assumption) ?_)) | go_size)))
          · exact one_byte _ _ _ hlt
        clear hex
        intro v1 w' hex hv1
        replace hex := Exists.intro w' hex
        simp only [Act.put, List.setIfInBounds_toArray, List.set_cons_succ, List.set_cons_zero]
        refine wpS_one (A := ?_) hex rfl rfl (by simp) ?_ ?_ ?_
        rotate_left 2
        · intro w' hC K hK
          obtain ⟨hcell, hfrz⟩ := bcell hC.1.ext
          have f2 := Lib.hid ((hC.2 2 (by simp [Region.binds])).1 rfl)
          go_wp2_with (go_at_call 15; refine (of_eq _ _ o _ f2.out HB.out.p_o).mono ?_; rintro e w2 ⟨rfl, hb2⟩)
          refine hK _ ?_
          first | exact Gr.refl _ _ | exact Gr.of_ext (by assumption) hC.1.1.size
        rotate_left 1
        · rfl
        clear hex; intro hex
        iterate 21
          (refine wpS_one (A := ?_) hex rfl rfl (by simp) ?_ ?_ ?_
           rotate_left 2
           · intro w' hC K hK
             obtain ⟨hcell, hfrz⟩ := bcell hC.1.ext
             obtain ⟨p0, p1, p2, p3, p4, p5, p6, p7, p8, p9, p10, p11⟩ := cells12 (kP'.ext hC.1.ext); clear hcell hfrz
             go_wp2_with (first | (go_at_call 33; refine (within_eq o a _ HB.out.p_w _).mono ?_; rintro e w2 ⟨rfl, hb2⟩) | (go_at_call_of 23 (Value.int .u8 255); refine (range_eq k 255 hi (by omega) (by omega) (by omega) (by omega) HB.out.p_hi _).mono ?_; rintro e w2 ⟨rfl, hb2⟩) | (go_at_call 23; refine (range_eq 0 k lo (by omega) (by omega) (by omega) (by omega) HB.out.p_lo _).mono ?_; rintro e w2 ⟨rfl, hb2⟩) | (go_at_call 40; refine (count_eq lo (k + 1) HB.out.p_cnt _).mono ?_; rintro e w2 ⟨rfl, hb2⟩) | (go_at_call 25; refine (union_eq lo hi f HB.out.p_f _).mono ?_; rintro e w2 ⟨rfl, hb2⟩) | (go_at_call 21; refine (all_eq f HB.out.p_f' _).mono ?_; rintro e w2 ⟨rfl, hb2⟩))
             refine hK _ ?_
             first | exact Gr.refl _ _ | exact Gr.of_ext (by assumption) hC.1.1.size
           rotate_left 1
           · rfl
           clear hex; intro hex)
        refine wpS_nil fun w8 hE => ?_
        replace hE := hE.1.ext
        obtain ⟨hcell_w8, hfrz_w8⟩ := bcell hE
        clear hcell_w8 hfrz_w8 hex
        have hx8 := bel_call hx7 hE
        have hw8 := bel_call hw7 hE
        clear hE kP'
        go_wp2_with fail
        go_roundw
        case rel => exact ⟨k + 1, by omega, by go_num, hx8⟩
        case measure => simp [intOf]; omega
    · obtain rfl : k = 256 := by omega
      go_wp2_with fail
      refine (wakes_any _ HTr.out).mono ?_
      rintro e w5 ⟨rfl, hE⟩
      go_wp2
      go_ret
      exact ⟨rfl, hwr.trans (hE.mono hwr.size)⟩
end Go.Proofs.YtkhmkcaocacfhaaDoor
