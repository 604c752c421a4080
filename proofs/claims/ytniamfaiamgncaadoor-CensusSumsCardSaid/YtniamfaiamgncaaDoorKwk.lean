/- What wakes layer 14. -/
import Derived.Test.YtniamfaiamgncaaDoorKtc
import Derived.Test.YtniamfaiamgncaaDoorKpp
import Derived.Test.YtniamfaiamgncaaDoorKeq
import Derived.Test.YtniamfaiamgncaaDoorLit
namespace Go.Proofs.YtniamfaiamgncaaDoor
open Go Go.RowKit
theorem ints_bk {w : World} {b : Nat} {L : List Int} {t : TypeId} (h : Blk w b (L.map iv).toArray t) (hl : L.length ≤ 140737488355328) (hr : ∀ x ∈ L, -9223372036854775808 ≤ x ∧ x ≤ 9223372036854775807) : Ints w (.slice (some ⟨b, 0, none⟩) L.length L.length) L :=
  ⟨⟨_, _, rfl, Nat.le_refl _, ⟨hl, by unfold maxLen; omega⟩, .inr ⟨b, 0, rfl, h.lt, fun i hi => by
    have := h.cell i
    rw [Nat.zero_add, this]; simp⟩⟩, hr⟩
theorem rws_bk {w : World} {b : Nat} {vs : List Value} {R : List (List Int)} {t : TypeId} (h : Blk w b vs.toArray t) (hv : vs.length = R.length) (hl : R.length ≤ 140737488355328) (hr : ∀ (i : Nat) (h : i < R.length), ∃ u, vs[i]? = some u ∧ Ints w u R[i]) : Rws w (.slice (some ⟨b, 0, none⟩) R.length R.length) R :=
  ⟨vs, hv, ⟨_, _, rfl, Nat.le_refl _, ⟨hl, by unfold maxLen; omega⟩, .inr ⟨b, 0, rfl, h.lt, fun i hi => by
    have := h.cell i
    rw [Nat.zero_add, this]; simp⟩⟩, hr⟩
theorem rep_st {n i : Nat} {y : Int} (h : i < n) : ((List.replicate i y ++ List.replicate (n - i) (0 : Int)).set i y) = List.replicate (i + 1) y ++ List.replicate (n - (i + 1)) 0 := by
  rw [List.set_append_right _ _ (by simp), List.length_replicate, Nat.sub_self, show n - i = (n - (i + 1)) + 1 by omega, List.replicate_succ, List.set_cons_zero, List.replicate_succ', List.append_assoc]
  rfl
set_option maxHeartbeats 1000000 in
set_option maxRecDepth 20000 in
theorem row14_any (y m : Int) (w : World) (hy : -9223372036854775808 ≤ y ∧ y ≤ 9223372036854775807) (hm : -9223372036854775808 ≤ m ∧ m ≤ 9223372036854775807) :
    Calls Tryd.prog 79 #[.int .i64 y, .int .i64 m] w fun e w' => ∃ g, e = .returned (.slice (some ⟨g, 0, none⟩) 256 256) ∧ w.heap.size ≤ g ∧ Ints w' (.slice (some ⟨g, 0, none⟩) 256 256) (row2 y m) ∧ Ext w w' := by
  obtain ⟨i0, hi, hz0, hz1, hz2⟩ := info_parts info_int
  have HR := Lib.hid (And.intro hy hm)
  go_enter Tryd.func79, Tryd.ntmps79
  go_wp2_with (at_make; refine wpList_make_full _ rfl _ _ 23 rfl w.heap.size 3 i0 (.int .i64 0) 1 Tryd.underlying23 hi hz0 hz1 .i64 .i64 _ _ 256 rfl rfl rfl rfl (by rw [hz2]; omega) (by unfold maxLen; omega) (by omega) ?_; intro wm hown hgm)
  have z3 := toList_madeCells_one (.int .i64 0) 256
  have hown2 : wm.ownsRow w.heap.size 3 1 (.slice (some ⟨w.heap.size, 0, none⟩) 256 256) 256 ((List.replicate 0 y ++ List.replicate (256 - 0) 0).map iv) := by
    rw [List.replicate_zero, List.nil_append, Nat.sub_zero, List.map_replicate, show iv 0 = Value.int .i64 0 from rfl, ← z3]; simpa [Value.cells] using hown
  have HO := Lib.hid hown2
  have HE := Lib.hid (show Ext w wm from ⟨hgm.os, hgm.tape, hgm.output, hgm.size, fun k hk => hgm.block k hk (by simp)⟩)
  obtain ⟨g, hg⟩ : ∃ g, w.heap.size = g := ⟨_, rfl⟩
  have HG := Lib.hid hg
  simp only [hg] at HO ⊢
  clear hown hown2 hgm z3 hg hy hm
  go_loopw [6] (fun i wr => ∃ k : Nat, k ≤ 256 ∧ i = .int .i64 k ∧ Hid (wr.ownsRow g 3 1 (.slice (some ⟨g, 0, none⟩) 256 256) 256 ((List.replicate k y ++ List.replicate (256 - k) 0).map iv)) ∧ Hid (Ext w wr)) (fun i _ => 256 - (intOf i).toNat)
  case atStart => exact ⟨0, Nat.zero_le _, rfl, HO, HE⟩
  case round =>
    clear HO HE
    obtain ⟨k, hk, rfl, hO, hE⟩ := hrel
    by_cases hkl : k < 256
    · obtain ⟨y0, y1⟩ : ∃ u, wr.cell? ⟨g, k, none⟩ = some u := ⟨_, by rw [hO.out.cellAt k (by omega)]; exact List.getElem?_eq_getElem (by rw [hO.out.1]; omega)⟩
      have y2 := hO.out.frozenAt k
      have O9 := (hO.out.stored k (iv y)).1
      rw [← List.map_set, rep_st hkl] at O9
      have O9 := Lib.hid O9
      have E9 := Lib.hid (hE.out.setCell (p := ⟨g, k, none⟩) (by show w.heap.size ≤ g; have := HG.out; omega) (iv y))
      go_wp2_with fail
      go_roundw
      case rel => exact ⟨k + 1, by omega, by go_num, O9, E9⟩
      case measure => simp [intOf]; omega
    · obtain rfl : k = 256 := by omega
      have O9 := hO.out
      rw [Nat.sub_self, List.replicate_zero, List.append_nil] at O9
      obtain ⟨u7, u8⟩ : ∃ u, wr.cell? ⟨g, 97, none⟩ = some u := ⟨_, by rw [O9.cellAt 97 (by omega)]; exact List.getElem?_eq_getElem (by rw [O9.1]; omega)⟩
      have f7 := O9.frozenAt 97
      have P9 := (O9.stored 97 (iv m)).1
      obtain ⟨v7, v8⟩ : ∃ u, (wr.setCell ⟨g, 97, none⟩ (iv m)).cell? ⟨g, 98, none⟩ = some u := ⟨_, by rw [P9.cellAt 98 (by omega)]; exact List.getElem?_eq_getElem (by rw [P9.1]; omega)⟩
      have f8 := P9.frozenAt 98
      have Q9 := (P9.stored 98 (iv m)).1
      rw [← List.map_set, ← List.map_set] at Q9
      have Q9 := Lib.hid (show Ints ((wr.setCell ⟨g, 97, none⟩ (iv m)).setCell ⟨g, 98, none⟩ (iv m)) (.slice (some ⟨g, 0, none⟩) 256 256) (row2 y m) from by
        refine ⟨by rw [show (row2 y m).length = 256 by simp [row2]]; exact Slc.of_own Q9 (by omega), fun z hz => ?_⟩
        have hz : z ∈ ((List.replicate 256 y).set 97 m).set 98 m := hz
        rcases List.mem_or_eq_of_mem_set hz with hz | rfl
        · rcases List.mem_or_eq_of_mem_set hz with hz | rfl
          · rw [List.eq_of_mem_replicate hz]; exact HR.out.1
          · exact HR.out.2
        · exact HR.out.2)
      have E9 := Lib.hid ((hE.out.setCell (p := ⟨g, 97, none⟩) (by show w.heap.size ≤ g; have := HG.out; omega) (iv m)).setCell (p := ⟨g, 98, none⟩) (by show w.heap.size ≤ g; have := HG.out; omega) (iv m))
      clear hO hE O9 P9
      go_wp2_with fail
      go_ret
      exact ⟨g, rfl, Nat.le_of_eq HG.out, Q9.out, E9.out⟩
abbrev r256 (g : Nat) : Value := .slice (some ⟨g, 0, none⟩) 256 256
theorem Ints.put {w : World} {g n c b i : Nat} {L : List Int} (h : Ints w (.slice (some ⟨g, 0, none⟩) n c) L) (hne : g ≠ b) (u : Value) : Ints (w.setCell ⟨b, i, none⟩ u) (.slice (some ⟨g, 0, none⟩) n c) L := by
  obtain ⟨⟨a, cap, e, h1, h2, h3⟩, hr⟩ := h
  refine ⟨⟨a, cap, e, h1, h2, ?_⟩, hr⟩
  rcases h3 with h3 | ⟨b', o, ea, hb, hc⟩
  · exact .inl h3
  · refine .inr ⟨b', o, ea, by simpa [World.setCell] using hb, fun k hk => ?_⟩
    subst ea
    cases e
    rw [World.cell?_of_block (w := w) (Below.heap_setCell _ _ _ _ (show g ≠ (⟨b, i, none⟩ : Addr).block from hne))]
    exact hc k hk
theorem lay_pd {w : World} {p q g1 g2 g3 : Nat} (b1 : Blk w p #[r256 g1, r256 g2, r256 g3] 23) (b2 : Blk w q #[.int .i64 (-1), .int .i64 (-1), .int .i64 0] 3) (i1 : Ints w (r256 g1) (row2 1 2)) (i2 : Ints w (r256 g2) (row2 1 1)) (i3 : Ints w (r256 g3) (row2 1 2)) :
    Dns w (.agg #[.slice (some ⟨p, 0, none⟩) 3 3, .slice (some ⟨q, 0, none⟩) 3 3]) pD := by
  refine ⟨_, _, rfl, ?_, ?_⟩
  · refine rws_bk (R := pD.nx) (vs := [r256 g1, r256 g2, r256 g3]) b1 rfl (by decide) (fun i hi => ?_)
    have hi : i < 3 := hi
    match i, hi with
    | 0, _ => exact ⟨_, rfl, i1⟩
    | 1, _ => exact ⟨_, rfl, i2⟩
    | 2, _ => exact ⟨_, rfl, i3⟩
  · exact ints_bk (L := pD.lb) b2 (by decide) (by decide)
set_option maxHeartbeats 2000000 in
set_option maxRecDepth 20000 in
theorem pairs_any (w : World) : Calls Tryd.prog 41 #[] w fun e w' => ∃ a b n m, e = .returned (.agg #[.slice a 3 n, .slice b 3 m]) ∧ Dns w' (.agg #[.slice a 3 n, .slice b 3 m]) pD ∧ Ext w w' := by
  have x0 := ext_box w #[.slice none 0 0, .slice none 0 0] 25
  have HB := Lib.hid (Blk.new w #[.slice none 0 0, .slice none 0 0] 25)
  have HE := Lib.hid x0
  clear x0
  go_enter Tryd.func41, Tryd.ntmps41
  go_wp2_with fail
  generalize w.alloc (.cells #[.slice none 0 0, .slice none 0 0] 25) = w0 at *
  have hs0 : w.heap.size < w0.heap.size := HB.out.lt
  refine (row14_any 1 2 _ (by omega) (by omega)).mono ?_
  rintro e w1 ⟨g1, rfl, q1, i1, e1⟩
  have I1 := Lib.hid i1
  have E1 := Lib.hid e1
  have N1 := Lib.hid (show g1 ≠ w.heap.size by omega)
  have s1 := e1.size
  clear i1 e1
  go_wp2_with fail
  refine (row14_any 1 1 _ (by omega) (by omega)).mono ?_
  rintro e w2 ⟨g2, rfl, q2, i2, e2⟩
  have I1 := Lib.hid (I1.out.ext e2)
  have I2 := Lib.hid i2
  have E2 := Lib.hid (bel_call E1.out e2)
  have N2 := Lib.hid (show g2 ≠ w.heap.size by omega)
  have s2 := e2.size
  clear i2 e2 E1
  go_wp2_with fail
  refine (row14_any 1 2 _ (by omega) (by omega)).mono ?_
  rintro e w3 ⟨g3, rfl, q3, i3, e3⟩
  have N3 := Lib.hid (show g3 ≠ w.heap.size by omega)
  have S3 := Lib.hid (show w.heap.size < w3.heap.size by have := e3.size; omega)
  have E3 := bel_call E2.out e3
  have x4 := ext_box w3 #[r256 g1, r256 g2, r256 g3] 23
  have x5 := ext_box (w3.alloc (.cells #[r256 g1, r256 g2, r256 g3] 23)) #[.int .i64 (-1), .int .i64 (-1), .int .i64 0] 3
  have hs : (w3.alloc (.cells #[r256 g1, r256 g2, r256 g3] 23)).heap.size = w3.heap.size + 1 := Array.size_push _
  have b1 := (Blk.new w3 #[r256 g1, r256 g2, r256 g3] 23).ext x5
  have b2 := Blk.new (w3.alloc (.cells #[r256 g1, r256 g2, r256 g3] 23)) #[.int .i64 (-1), .int .i64 (-1), .int .i64 0] 3
  rw [hs] at b2
  have I1 := Lib.hid ((I1.out.ext e3).ext (bel_call x4 x5))
  have I2 := Lib.hid ((I2.out.ext e3).ext (bel_call x4 x5))
  have I3 := Lib.hid (i3.ext (bel_call x4 x5))
  have E5 := Lib.hid (bel_call E3 (bel_call x4 x5))
  have B1 := Lib.hid b1
  have B2 := Lib.hid b2
  have HB5 := Lib.hid (HB.out.ext E5.out)
  have f0 := HB5.out.free 0
  have f1 := HB5.out.free 1
  have p0 := HB5.out.cell 0
  have p1 := HB5.out.cell 1
  clear E3 x4 x5 b1 b2 hs i3 e3 E2 q1 q2 q3 s1 s2 hs0
  go_wp2_with fail
  show bodyPost _ _ _ _ _ ((((w3.alloc (.cells #[r256 g1, r256 g2, r256 g3] 23)).alloc (.cells #[.int .i64 (-1), .int .i64 (-1), .int .i64 0] 3)).setCell ⟨w.heap.size, 0, none⟩ (.slice (some ⟨w3.heap.size, 0, none⟩) 3 3)).setCell ⟨w.heap.size, 1, none⟩ (.slice (some ⟨w3.heap.size + 1, 0, none⟩) 3 3))
  clear f0 f1 p0 p1
  have s3 := S3.out
  generalize (w3.alloc (.cells #[r256 g1, r256 g2, r256 g3] 23)).alloc (.cells #[.int .i64 (-1), .int .i64 (-1), .int .i64 0] 3) = w5 at *
  generalize w3.heap.size = s at *
  have HB6 := (HB5.out.set 0 (.slice (some ⟨s, 0, none⟩) 3 3)).set 1 (.slice (some ⟨s + 1, 0, none⟩) 3 3)
  have r0 := HB6.cell 0
  have r1 := HB6.cell 1
  have hD := lay_pd ((B1.out.set_other (a := ⟨w.heap.size, 0, none⟩) (show w.heap.size ≠ s by omega) (.slice (some ⟨s, 0, none⟩) 3 3)).set_other (a := ⟨w.heap.size, 1, none⟩) (show w.heap.size ≠ s by omega) (.slice (some ⟨s + 1, 0, none⟩) 3 3))
    ((B2.out.set_other (a := ⟨w.heap.size, 0, none⟩) (show w.heap.size ≠ s + 1 by omega) (.slice (some ⟨s, 0, none⟩) 3 3)).set_other (a := ⟨w.heap.size, 1, none⟩) (show w.heap.size ≠ s + 1 by omega) (.slice (some ⟨s + 1, 0, none⟩) 3 3))
    ((I1.out.put N1.out _).put N1.out _) ((I2.out.put N2.out _).put N2.out _) ((I3.out.put N3.out _).put N3.out _)
  have hE := ((bel_call HE.out E5.out).setCell (p := ⟨w.heap.size, 0, none⟩) (Nat.le_refl _) (.slice (some ⟨s, 0, none⟩) 3 3)).setCell (p := ⟨w.heap.size, 1, none⟩) (Nat.le_refl _) (.slice (some ⟨s + 1, 0, none⟩) 3 3)
  refine bodyPost_ret (v := .agg #[.slice (some ⟨s, 0, none⟩) 3 3, .slice (some ⟨s + 1, 0, none⟩) 3 3]) (by simp [results, Tryd.results41, go_sem, r0, r1]) rfl ⟨_, _, _, _, rfl, hD, hE⟩
theorem ub_bv {c : Nat} (h : c < 256) : ub (UInt8.ofNat c) = bv c := by
  show Value.int .u8 ((UInt8.ofNat c).toNat : Int) = _
  rw [UInt8.toNat_ofNat_of_lt' h]
theorem txw_of {l : List Nat} (h : ∀ c ∈ l, c < 256) : txw (l.map UInt8.ofNat) = l := by
  unfold txw
  rw [List.map_map]
  conv => rhs; rw [← List.map_id l]
  exact List.map_congr_left fun c hc => UInt8.toNat_ofNat_of_lt' (h c hc)
theorem own_bytes {w : World} {B : Nat} {v : Value} {l : List Nat} (h : w.ownsRow B 5 1 v l.length (l.map bv)) (hl : l.length ≤ 1000) (hc : ∀ c ∈ l, c < 256) : Bytes w v (l.map UInt8.ofNat) := by
  have e : (l.map UInt8.ofNat).map ub = l.map bv := by
    rw [List.map_map]
    exact List.map_congr_left fun c hc' => ub_bv (hc c hc')
  unfold Bytes
  rw [List.length_map, e]
  exact Slc.of_own h (by omega)
theorem blk_bytes {w : World} {b : Nat} {l : List UInt8} {t : TypeId} (h : Blk w b (l.map ub).toArray t) (hl : l.length ≤ 1000) : Bytes w (.slice (some ⟨b, 0, none⟩) l.length l.length) l :=
  ⟨_, _, rfl, Nat.le_refl _, ⟨by omega, by unfold maxLen; omega⟩, .inr ⟨b, 0, rfl, h.lt, fun i hi => by
    have := h.cell i
    rw [Nat.zero_add, this]; simp⟩⟩
theorem lit_w (w : World) (l : List UInt8) (hl : l.length ≤ 1000) : ∃ w6, (convert 32 32 (.slice (some ⟨w.heap.size, 0, none⟩) l.length l.length)).run Tryd.prog (w.alloc (.cells (l.map ub).toArray 5)) = .ok (.slice (some ⟨w.heap.size, 0, none⟩) l.length l.length) w6 ∧
    Ext w w6 ∧ Bytes w6 (.slice (some ⟨w.heap.size, 0, none⟩) l.length l.length) l := by
  have hb := Blk.new w (l.map ub).toArray 5
  have h1 := run_conv_lit (P := Tryd.prog) (w.alloc (.cells (l.map ub).toArray 5)) 32 5 (l.map ub).toArray (0, 0) w.heap.size l.length l.length Tryd.underlying32 Tryd.underlying5 hb
  obtain ⟨f', hf⟩ := freeze_at (w.alloc (.cells (l.map ub).toArray 5)) w.heap.size (l.map ub).toArray.size hb
  refine ⟨_, h1, ?_, ?_⟩
  · have hx := ext_box w (l.map ub).toArray 5
    exact ⟨by simp [World.freeze, hx.os], by simp [World.freeze], by simp [World.freeze, hx.output], by
      have : ((w.alloc (.cells (l.map ub).toArray 5)).freeze ⟨w.heap.size, (l.map ub).toArray.size, none⟩ 1).heap.size = (w.alloc (.cells (l.map ub).toArray 5)).heap.size := by simp [World.freeze]
      rw [this]; exact hx.size, fun k hk => by rw [freeze_other _ _ _ _ (by omega)]; exact hx.block k hk⟩
  · refine ⟨_, _, rfl, Nat.le_refl _, ⟨by omega, by unfold maxLen; omega⟩, .inr ⟨w.heap.size, 0, rfl, (Array.getElem?_eq_some_iff.1 hf).1, fun i _ => ?_⟩⟩
    generalize (w.alloc (.cells (l.map ub).toArray 5)).freeze ⟨w.heap.size, (l.map ub).toArray.size, none⟩ 1 = w6 at hf ⊢
    simp [World.cell?, hf]
set_option maxHeartbeats 4000000 in
set_option maxRecDepth 20000 in
theorem wakes14_any (w : World) : Calls Tryd.prog 31 #[] w fun e w' => e = .returned (.bool true) ∧ Ext w w' := by
  have hc : cnt pD.to pD.lab 0 3 0 = 8 := (pD_zero 2).2.2
  go_enter Tryd.func31, Tryd.ntmps31
  go_wp2_with fail
  refine (pairs_any _).mono ?_
  rintro e w1 ⟨a1, b1, n1, m1, rfl, d1, e1⟩
  have D1 := Lib.hid d1
  have E1 := Lib.hid e1
  clear d1 e1
  go_wp2_with fail
  have HC := count_ok pD _ 0 3 w1 pD_ok D1.out (by omega) (by omega) (by omega)
  rw [hc, sN_of (show 8 < T64 by decide), sB_of (show 8 < T64 by decide)] at HC
  refine HC.mono ?_
  rintro e w2 ⟨rfl, e2⟩
  have E2 := Lib.hid (bel_call E1.out e2)
  clear HC e2 D1 E1 hc
  go_wp2_with fail
  refine (pairs_any _).mono ?_
  rintro e w3 ⟨a3, b3, n3, m3, rfl, d3, e3⟩
  have D3 := Lib.hid d3
  have E3 := Lib.hid (bel_call E2.out e3)
  clear d3 e3 E2
  go_wp2_with fail
  have HC := nthc_ok pD _ 0 5 w3 pD_ok D3.out (by omega) (by omega) (by decide)
  rw [pD_nth] at HC
  refine HC.mono ?_
  rintro e w4 ⟨u, b, rfl, ⟨rfl, ho⟩, e4⟩
  have HU := Lib.hid (own_bytes ho (by decide) (by decide))
  obtain ⟨ua, uc, rfl⟩ := own_shp ho
  have E4 := Lib.hid (bel_call E3.out e4)
  clear HC ho e4 D3 E3
  go_wp2_with fail
  refine (pairs_any _).mono ?_
  rintro e w5 ⟨a5, b5, n5, m5, rfl, d5, e5⟩
  have HU := Lib.hid (HU.out.ext e5)
  obtain ⟨w6, hcv, x6, b6⟩ := lit_w w5 [98, 97] (by decide)
  have hcv : (convert 32 32 (.slice (some ⟨w5.heap.size, 0, none⟩) 2 2)).run Tryd.prog (w5.alloc (.cells #[.int .u8 98, .int .u8 97] 5)) = .ok (.slice (some ⟨w5.heap.size, 0, none⟩) 2 2) w6 := hcv
  have D5 := Lib.hid (d5.ext x6)
  have E6 := Lib.hid (bel_call (bel_call E4.out e5) x6)
  have HU := Lib.hid (HU.out.ext x6)
  have HB := Lib.hid b6
  clear d5 e5 E4 x6 b6
  go_wp2_with fail
  have HC := rankc_ok pD _ _ 0 [98, 97] w6 pD_ok D5.out (by omega) (by omega) HB.out (by decide)
  have hr : rkv (rankW pD.to pD.lab 0 (txw [98, 97])) (decide (pD.lab (runA pD.to 0 (txw [98, 97])) = 0)) = .tuple #[.int .u64 4, .bool true, .nilIface] := by
    rw [show txw [98, 97] = [98, 97] from rfl, pD_ba, show decide (pD.lab (runA pD.to 0 [98, 97]) = 0) = true by decide +kernel]
    exact if_pos ⟨rfl, by decide⟩
  rw [hr] at HC
  refine HC.mono ?_
  rintro e w7 ⟨rfl, e7⟩
  have HU := Lib.hid (HU.out.ext e7)
  have E7 := Lib.hid (bel_call E6.out e7)
  obtain ⟨w8, hcv8, x8, b8⟩ := lit_w w7 [98, 98] (by decide)
  have hcv8 : (convert 32 32 (.slice (some ⟨w7.heap.size, 0, none⟩) 2 2)).run Tryd.prog (w7.alloc (.cells #[.int .u8 98, .int .u8 98] 5)) = .ok (.slice (some ⟨w7.heap.size, 0, none⟩) 2 2) w8 := hcv8
  have HU := Lib.hid (HU.out.ext x8)
  have HB := Lib.hid b8
  have E8 := Lib.hid (bel_call E7.out x8)
  clear HC hr e7 x8 b8 E7 E6 D5 hcv
  go_wp2_with fail
  refine (eqby_any _ _ _ _ w8 HU.out HB.out).mono ?_
  rintro e w9 ⟨rfl, e9⟩
  have E9 := Lib.hid (bel_call E8.out e9)
  rw [show decide (List.map UInt8.ofNat [98, 98] = ([98, 98] : List UInt8)) = true by decide]
  clear e9 E8 hcv8
  go_wp2_with fail
  go_ret
  exact ⟨rfl, E9.out⟩
end Go.Proofs.YtniamfaiamgncaaDoor
