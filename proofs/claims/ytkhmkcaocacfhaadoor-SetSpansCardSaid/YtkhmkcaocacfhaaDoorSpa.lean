/- Spans in any order, split, and laid over one another, make the same set: the statement's walk. -/
import Derived.Test.YtkhmkcaocacfhaaDoorLks
import Derived.Test.YtkhmkcaocacfhaaDoorEqs
import Derived.Outline
namespace Go.Proofs.YtkhmkcaocacfhaaDoor
open Go Go.RowKit
/-- The middle of a span. -/
def mid (p : UInt8 × UInt8) : Nat := (p.1.toNat + p.2.toNat) / 2
theorem mid_lt (p : UInt8 × UInt8) : mid p < 256 := by
  have h1 := p.1.toNat_lt
  have h2 := p.2.toNat_lt
  unfold mid; omega
/-- A span, and its halves behind it. -/
def split3 (p : UInt8 × UInt8) : List (UInt8 × UInt8) := if p.1.toNat < p.2.toNat then [p, (p.1, UInt8.ofNat (mid p)), (UInt8.ofNat (mid p), p.2)] else [p]
def bks (l : List (UInt8 × UInt8)) (k : Nat) : List (UInt8 × UInt8) := (l.drop k).reverse.flatMap split3
theorem drop_rev (l : List (UInt8 × UInt8)) (j : Nat) (h : j < l.length) : (l.drop j).reverse = (l.drop (j + 1)).reverse ++ [(slo l j, shi l j)] := by
  rw [List.drop_eq_getElem_cons h, List.reverse_cons]
  congr 2
  simp [slo, shi, List.getD_eq_getElem?_getD, h]
theorem bks_succ (l : List (UInt8 × UInt8)) (j : Nat) (h : j < l.length) : bks l j = bks l (j + 1) ++ split3 (slo l j, shi l j) := by
  unfold bks
  rw [drop_rev l j h, List.flatMap_append]; simp
theorem ofs_snoc (l : List (UInt8 × UInt8)) (p : UInt8 × UInt8) : ofs (l ++ [p]) = ofs l ||| rng (p.1.toNat : Int) (p.2.toNat : Int) := by
  unfold ofs
  rw [List.foldl_append]; rfl
theorem bks_len (l : List (UInt8 × UInt8)) (k : Nat) : (bks l k).length ≤ 3 * l.length := by
  have key : ∀ l : List (UInt8 × UInt8), (l.flatMap split3).length ≤ 3 * l.length := by
    intro l
    induction l with
    | nil => simp
    | cons p l ih =>
      rw [List.flatMap_cons, List.length_append, List.length_cons]
      have : (split3 p).length ≤ 3 := by unfold split3; split <;> simp
      omega
  have := key (l.drop k).reverse
  rw [List.length_reverse, List.length_drop] at this
  unfold bks; omega
theorem split3_any (p : UInt8 × UInt8) (i : Nat) : ((split3 p).any fun q => decide (q.1.toNat ≤ i ∧ i ≤ q.2.toNat)) = decide (p.1.toNat ≤ i ∧ i ≤ p.2.toNat) := by
  unfold split3
  split
  · rename_i h
    have hm := u8n (mid p) (mid_lt p)
    rw [Bool.eq_iff_iff]
    simp only [List.any_cons, List.any_nil, Bool.or_false, Bool.or_eq_true, decide_eq_true_eq, hm]
    unfold mid
    omega
  · simp
theorem ofs_all (l : List (UInt8 × UInt8)) : ofs (l.drop 0).reverse = ofs l := by
  apply BitVec.eq_of_getLsbD_eq
  intro i _
  rw [ofs_bit, ofs_bit]; simp
theorem ofs_bks (l : List (UInt8 × UInt8)) : ofs (bks l 0) = ofs l := by
  apply BitVec.eq_of_getLsbD_eq
  intro i _
  rw [ofs_bit, ofs_bit]
  unfold bks
  rw [List.any_flatMap]
  simp only [split3_any, List.drop_zero, List.any_reverse]
theorem scells_append (A B : List (UInt8 × UInt8)) : scells (A ++ B) = scells A ++ scells B := by simp [scells]
theorem Spans.of_row {w : World} {base e n : Nat} {v : Value} {l : List (UInt8 × UInt8)} (h : w.ownsRow base e 2 v n (scells l)) (hn : n = l.length) (hl : l.length ≤ 140737488355328) : Spans w v l := by
  subst hn
  exact Slc.of_own h hl
theorem cells_four_new (w : World) (a b c d : Value) (t : TypeId) : ∀ (j : Nat) u, [a, b, c, d][j]? = some u → (w.alloc (.cells #[a, b, c, d] t)).cell? ((⟨w.heap.size, 0, none⟩ : Addr).add j) = some u := by
  intro j u hu
  have hadd : (⟨w.heap.size, 0, none⟩ : Addr).add j = ⟨w.heap.size, j, none⟩ := by unfold Addr.add; split <;> simp_all
  rw [hadd, (Blk.new w #[a, b, c, d] t).cell j]
  simpa using hu
/-- A new list of two spans, of these cells. -/
def RSp (cs : Array Value) : Value → World → Prop := fun v w => ∃ b, v = .slice (some ⟨b, 0, none⟩) 2 2 ∧ ∃ t f, w.heap[b]? = some (.cells cs t f)
theorem RSp.mono (cs : Array Value) : Mono (RSp cs) := by
  rintro v w w' hx ⟨b, hv, t, f, h⟩
  refine ⟨b, hv, ?_⟩
  rcases hx.2 b (Array.getElem?_eq_some_iff.1 h).1 with e | ⟨c, u, g, g', e1, e2⟩
  · exact ⟨t, f, by rw [e]; exact h⟩
  · rw [h] at e1
    cases e1
    exact ⟨t, g', e2⟩
def RsSp (cs : Array Value) : Nat → Option (Value → World → Prop) := fun k => if k = 15 then some (RSp cs) else none
theorem RsSp_mono (cs : Array Value) : RsMono (RsSp cs) := by
  intro j R h
  unfold RsSp at h
  split at h
  · cases h; exact RSp.mono cs
  · cases h
theorem cells_of_blk4 {w : World} {b : Nat} {t : TypeId} {f : Nat × Nat} {x0 x1 x2 x3 : Value} (h : w.heap[b]? = some (.cells #[x0, x1, x2, x3] t f)) : ∀ (j : Nat) u, [x0, x1, x2, x3][j]? = some u → w.cell? ((⟨b, 0, none⟩ : Addr).add j) = some u := by
  intro j u hu
  have hadd : (⟨b, 0, none⟩ : Addr).add j = ⟨b, j, none⟩ := by unfold Addr.add; split <;> simp_all
  rw [hadd]
  simp only [World.cell?, h]
  simpa using hu
theorem ofspans_is (v : Value) (l : List (UInt8 × UInt8)) (r : BitVec 256) (w : World) (hv : Spans w v l) (h : ofs l = r) :
    Calls Tryd.prog 18 #[v] w fun e w' => e = .returned (sv r) ∧ Below w.heap.size w w' := by subst h; exact ofspans_any v l w hv
theorem own_set4 {w : World} {base b e sz n : Nat} {v : Value} {xs : List Value} (h : w.ownsRow base e sz v n xs) (hb : b < base) (y0 y1 y2 y3 : Value) : ((((w.setCell ⟨b, 0, none⟩ y0).setCell ⟨b, 1, none⟩ y1).setCell ⟨b, 2, none⟩ y2).setCell ⟨b, 3, none⟩ y3).ownsRow base e sz v n xs :=
  ownsRow_setCell_below (ownsRow_setCell_below (ownsRow_setCell_below (ownsRow_setCell_below h hb _) hb _) hb _) hb _
theorem bel_set4 {w0 w : World} {B b : Nat} (h : Below B w0 w) (hb : B ≤ b) (y0 y1 y2 y3 : Value) : Below B w0 ((((w.setCell ⟨b, 0, none⟩ y0).setCell ⟨b, 1, none⟩ y1).setCell ⟨b, 2, none⟩ y2).setCell ⟨b, 3, none⟩ y3) :=
  (((h.setCell hb _).setCell hb _).setCell hb _).setCell hb _
set_option maxHeartbeats 1000000 in
theorem spa_big (a : Option Addr) (n cap : Nat) (w : World) (hT : Tab w) (h : 300 < n) (hm : n ≤ maxLen) :
    Calls Tryd.prog 5 #[.slice a n cap] w fun e w' => e = .returned (.bool true) ∧ Below w.heap.size w w' := by
  have HT := Lib.hid hT
  clear hT
  unfold maxLen at hm
  go_enter Tryd.func5, Tryd.ntmps5
  go_wp2_with (go_at_call 38; refine (wakes_any _ HT.out).mono ?_; rintro e w2 ⟨rfl, hb2⟩)
  go_ret
  exact ⟨rfl, hb2⟩
set_option maxHeartbeats 4000000 in
set_option maxRecDepth 100000 in
theorem spa_small (v : Value) (l : List (UInt8 × UInt8)) (w : World) (hT : Tab w) (hv : Spans w v l) (hl : l.length ≤ 300) :
    Calls Tryd.prog 5 #[v] w fun e w' => e = .returned (.bool true) ∧ Below w.heap.size w w' := by
  have hss := set_same
  obtain ⟨s, hs⟩ : ∃ s, ofs l = s := ⟨_, rfl⟩
  have h1 := ofs_bks l
  have h2 := ofs_all l
  rw [hs] at h1 h2
  have HF := Lib.hid (And.intro hs (And.intro h1 h2))
  have HT := Lib.hid hT
  have HV := Lib.hid hv
  clear hs h1 h2 hT
  obtain ⟨i0, hi0, hz0, hz1, hz2⟩ := info_parts info_span
  obtain ⟨hlen, ⟨rfl, a, cap, rfl⟩ | ⟨b, o, cap, rfl, hcap, hcap2, hpos, hb, hcells⟩⟩ := hv.open
  · clear hv
    go_enter Tryd.func5, Tryd.ntmps5
    go_wp2_with fail
    refine (ofspans_is _ [] s _ HV.out HF.out.1).mono ?_
    rintro e w1 ⟨rfl, hE⟩
    have hw1 : Below w.heap.size w ((w1.alloc (.cells (svs s) 25)).alloc (.cells #[.int .u64 0, .int .u64 0, .int .u64 0, .int .u64 0] 25)) := ((hE.alloc hE.size _).alloc (by have := hE.size; simp; omega) _)
    have kS := (Blk.new w1 (svs s) 25).alloc (.cells #[.int .u64 0, .int .u64 0, .int .u64 0, .int .u64 0] 25)
    have kA := Blk.new (w1.alloc (.cells (svs s) 25)) #[.int .u64 0, .int .u64 0, .int .u64 0, .int .u64 0] 25
    simp only [World.size_alloc] at kA
    have hz0s : ∀ w, (Op.equalIn 10000 25 sv0 (sv s)).run Tryd.prog w = .ok true w := fun w => by rw [← HF.out.1, ← sv_zero]; exact set_same _ w
    have HTr := Lib.hid (HT.out.ext hw1)
    clear hE
    go_wp2_with fail
    refine wp_loop_rounds 1 ?_
    rw [rounds_succ]
    go_wp2_with fail
    refine wp_region_stab (fun _ => none) (by kernel_rfl) (by kernel_rfl) (fun _ _ h => by cases h) (fun hex => ?_)
    iterate 13
      (refine wpS_one (A := ?_) hex rfl rfl (by simp) ?_ ?_ ?_
       rotate_left 2
       · intro w' hC K hK
         obtain ⟨hcell, hfrz⟩ := bcell hC.1.ext
         obtain ⟨q0, q1, q2, q3⟩ := (kS.ext hC.1.ext).cells4; obtain ⟨r0, r1, r2, r3⟩ := (kA.ext hC.1.ext).cells4; have hTw := Lib.hid (HTr.out.ext hC.1.ext); clear hcell hfrz
         go_wp2_with (first | (go_at_call 18; refine (ofspans_is _ [] _ _ (Slc.nil _) HF.out.1).mono ?_; rintro e w2 ⟨rfl, hb2⟩) | (go_at_call 38; refine (wakes_any _ hTw.out).mono ?_; rintro e w2 ⟨rfl, hb2⟩))
         refine hK _ ?_
         first | exact Gr.refl _ _ | exact Gr.of_ext (by assumption) hC.1.1.size
       rotate_left 1
       · rfl
       clear hex; intro hex)
    refine wpS_nil fun w5 hE => ?_
    replace hE := hE.1.ext
    obtain ⟨hcell_w5, hfrz_w5⟩ := bcell hE
    have hw5 := bel_call hw1 hE
    clear hcell_w5 hfrz_w5 hex hE
    go_wp2
    go_ret
    exact ⟨rfl, hw5⟩
  · have HC := Lib.hid hcells
    clear hcells hv
    go_enter Tryd.func5, Tryd.ntmps5
    go_wp2_with fail
    refine (ofspans_is _ l s _ HV.out HF.out.1).mono ?_
    rintro e w1 ⟨rfl, hE⟩
    have hw1 : Below w.heap.size w ((w1.alloc (.cells (svs s) 25)).alloc (.cells #[.int .u64 0, .int .u64 0, .int .u64 0, .int .u64 0] 25)) := ((hE.alloc hE.size _).alloc (by have := hE.size; simp; omega) _)
    have kS := (Blk.new w1 (svs s) 25).alloc (.cells #[.int .u64 0, .int .u64 0, .int .u64 0, .int .u64 0] 25)
    have kA := Blk.new (w1.alloc (.cells (svs s) 25)) #[.int .u64 0, .int .u64 0, .int .u64 0, .int .u64 0] 25
    simp only [World.size_alloc] at kA
    have hsz1 := hE.size
    clear hE
    go_wp2_with fail
    go_loopw [4, 6] (fun bk i wr => ∃ (k : Nat) (x : Int), x + 1 = k ∧ k ≤ l.length ∧ i = .int .i64 x ∧ Blk wr w1.heap.size (svs s) 25 ∧ Blk wr (w1.heap.size + 1) (svs (ofs (l.drop k).reverse)) 25 ∧ wr.ownsRow (w1.heap.size + 2) 39 2 bk (bks l k).length (scells (bks l k)) ∧ Below w.heap.size w wr) (fun _ i _ => (intOf i + 1).toNat)
    case atStart =>
      refine ⟨l.length, _, by omega, Nat.le_refl _, rfl, kS, by simpa [svs, ofs, wd_zero] using kA, ?_, hw1⟩
      have : bks l l.length = [] := by unfold bks; simp
      rw [this]; exact World.ownsRow_nil _ _ _ _
    case round =>
      clear kS kA hw1
      obtain ⟨k, x, hxk, hk, rfl, kS, kA, hown, hwr⟩ := hrel
      by_cases hx : 0 ≤ x
      · obtain ⟨j, rfl⟩ : ∃ j : Nat, x = (j : Int) := ⟨x.toNat, by omega⟩
        obtain rfl : k = j + 1 := by omega
        have hj : j < l.length := by omega
        have hbk := bks_succ l j hj
        have hdr := drop_rev l j hj
        have hbl := bks_len l (j + 1)
        obtain ⟨hc1, hc2⟩ := HC.out j hj
        have hr1 := slo_lo l j
        have hr2 := slo_hi l j
        have hr3 := shi_lo l j
        have hr4 := shi_hi l j
        generalize hlo : slo l j = lo at *
        generalize hhi : shi l j = hi at *
        obtain ⟨A, hA⟩ : ∃ A, ofs (l.drop (j + 1)).reverse = A := ⟨_, rfl⟩
        obtain ⟨R, hR⟩ : ∃ R, rng (lo.toNat : Int) (hi.toNat : Int) = R := ⟨_, rfl⟩
        obtain ⟨A', hA'⟩ : ∃ A', A ||| R = A' := ⟨_, rfl⟩
        have hAn : ofs (l.drop j).reverse = A' := by rw [hdr, ofs_snoc, hA, hR, hA']
        obtain ⟨BK, hBK⟩ : ∃ BK, bks l (j + 1) = BK := ⟨_, rfl⟩
        rw [hBK] at hown hbk hbl
        rw [hA] at kA
        have HH := Lib.hid (And.intro hbk (And.intro hAn (And.intro hR hA')))
        clear hbk hdr hA hR hA' hAn hBK hlo hhi hxk
        have HW := Lib.hid (And.intro kS (And.intro kA (And.intro hown hwr)))
        have hwz := hwr.size
        have hwz2 := kA.lt
        have g1 : wr.cell? ⟨b, o + j * 2, none⟩ = some (ub lo) := by rw [hwr.cell (p := ⟨b, o + j * 2, none⟩) hb]; exact hc1
        have g2 : wr.cell? ⟨b, o + j * 2 + 1, none⟩ = some (ub hi) := by rw [hwr.cell (p := ⟨b, o + j * 2 + 1, none⟩) hb]; exact hc2
        clear kS kA hown hwr
        go_wp2_with fail
        refine D.wp_region_stab (fun _ => none) (by kernel_rfl) (by kernel_rfl) (fun _ _ h => by cases h) (fun hex => ?_)
        iterate 16
          (refine D.wpS_one (A := ?_) hex rfl rfl (by simp) ?_ ?_ ?_
           rotate_left 2
           · intro w' hC K hK
             obtain ⟨nq, rfl⟩ := hC.1
             go_wp2_with (fail)
             refine hK _ ?_
             first | exact D.Gr.refl _ _ | exact ⟨_, rfl⟩
           rotate_left 1
           · rfl
           clear hex; intro hex)
        refine D.wpS_nil fun _ hE => ?_
        obtain ⟨nq, rfl⟩ := hE.1
        clear hE hex
        obtain ⟨kS, kA, hown, hwr⟩ := HW.out
        replace kS := kS.drewN nq
        replace kA := kA.drewN nq
        clear hown hwr
        go_wp2_with fail
        refine wp_region_tail (fun _ => none) 13 (by kernel_rfl) (by kernel_rfl) (fun _ _ h => by cases h) (fun hex => ?_)
        simp only [List.take_succ_cons, List.take_zero, List.drop_succ_cons, List.drop_zero]
        iterate 13
          (refine wpS_one (A := ?_) hex rfl rfl (by simp) ?_ ?_ ?_
           rotate_left 2
           · intro w' hC K hK
             obtain ⟨hcell, hfrz⟩ := bcell hC.1.ext
             obtain ⟨q0, q1, q2, q3⟩ := (kA.ext hC.1.ext).cells4; have g1' := (hC.1.ext.cell (p := ⟨b, o + j * 2, none⟩) (by simp; omega)).trans g1; have g2' := (hC.1.ext.cell (p := ⟨b, o + j * 2 + 1, none⟩) (by simp; omega)).trans g2; clear hcell hfrz
             go_wp2_with (first | (go_at_call 23; refine (range_eq _ _ R hr1 hr2 hr3 hr4 HH.out.2.2.1 _).mono ?_; rintro e w' ⟨rfl, hb'⟩) | (go_at_call 25; refine (union_eq A R A' HH.out.2.2.2 _).mono ?_; rintro e w' ⟨rfl, hb'⟩))
             refine hK _ ?_
             first | exact Gr.refl _ _ | exact Gr.of_ext (by assumption) hC.1.1.size
           rotate_left 1
           · rfl
           clear hex; intro hex)
        refine wpS_nil fun w2 hE => ?_
        replace hE := hE.1.ext
        obtain ⟨hcell_w2, hfrz_w2⟩ := bcell hE
        clear hcell_w2 hfrz_w2 hex
        have kS3 := (kS.ext hE).other4 (b := w1.heap.size + 1) (by omega) (.int .u64 (wd A' 0)) (.int .u64 (wd A' 1)) (.int .u64 (wd A' 2)) (.int .u64 (wd A' 3))
        have kA3 := (kA.ext hE).store4 (.int .u64 (wd A' 0)) (.int .u64 (wd A' 1)) (.int .u64 (wd A' 2)) (.int .u64 (wd A' 3))
        have hfr := (kA.ext hE).free
        have hq := (kA.ext hE).cells4
        have hown3 := own_set4 (base := w1.heap.size + 2) (b := w1.heap.size + 1) (own_below (w := wr.drewN nq) (HW.out.2.2.1) hE (Nat.le_refl _)) (by omega) (.int .u64 (wd A' 0)) (.int .u64 (wd A' 1)) (.int .u64 (wd A' 2)) (.int .u64 (wd A' 3))
        have hwr3 := bel_set4 (B := w.heap.size) (w0 := w) (b := w1.heap.size + 1) (bel_call (below_drewN HW.out.2.2.2 nq) hE) (by omega) (.int .u64 (wd A' 0)) (.int .u64 (wd A' 1)) (.int .u64 (wd A' 2)) (.int .u64 (wd A' 3))
        generalize hw3e : ((((w2.setCell ⟨w1.heap.size + 1, 0, none⟩ (.int .u64 (wd A' 0))).setCell ⟨w1.heap.size + 1, 1, none⟩ (.int .u64 (wd A' 1))).setCell ⟨w1.heap.size + 1, 2, none⟩ (.int .u64 (wd A' 2))).setCell ⟨w1.heap.size + 1, 3, none⟩ (.int .u64 (wd A' 3))) = w3 at kS3 kA3 hown3 hwr3
        have HE3 := Lib.hid hw3e
        have g1' : w3.cell? ⟨b, o + j * 2, none⟩ = some (ub lo) := by rw [hwr3.cell (p := ⟨b, o + j * 2, none⟩) hb]; exact hc1
        have g2' : w3.cell? ⟨b, o + j * 2 + 1, none⟩ = some (ub hi) := by rw [hwr3.cell (p := ⟨b, o + j * 2 + 1, none⟩) hb]; exact hc2
        have hz3 := kA3.lt
        clear hE kS kA g1 g2 hw3e
        obtain ⟨q0, q1, q2, q3⟩ := hq
        go_wp2_with (first
          | (rw [HE3.out])
          | (at_builtin; refine wpList_append_own _ rfl (.tmp 49) (.tmp 54) 27 rfl (w1.heap.size + 2) 39 i0 (.agg #[.int .u8 0, .int .u8 0]) 2 2 Tryd.underlying27 hi0 hz0 hz1 hz2 rfl (by decide) _ _ _ rfl (hown3.alloc _) ⟨w3.heap.size, 0, none⟩ 1 1 [_, _] rfl rfl (cells_two_new _ _ _ _) (by intro u hu; simp at hu; rcases hu with rfl | rfl <;> rfl) (by unfold maxLen; omega) (by omega) (by simp; omega) ?_; intro v1 w4 hown4 hgrow4 hnil4))
        have hwr4 : Below w.heap.size w w4 := (hwr3.alloc hwr3.size _).grown hgrow4 (by have := hwr3.size; simp; omega) (fun jj hjj => Nat.le_trans (by omega) (hown3.lt jj hjj).1)
        have kS4 := (kS3.alloc _).grown hgrow4 (fun e => by have := (hown3.lt _ e).1; omega)
        have kA4 := (kA3.alloc _).grown hgrow4 (fun e => by have := (hown3.lt _ e).1; omega)
        have g1 : w4.cell? ⟨b, o + j * 2, none⟩ = some (ub lo) := by rw [hwr4.cell (p := ⟨b, o + j * 2, none⟩) hb]; exact hc1
        have g2 : w4.cell? ⟨b, o + j * 2 + 1, none⟩ = some (ub hi) := by rw [hwr4.cell (p := ⟨b, o + j * 2 + 1, none⟩) hb]; exact hc2
        have hz4 := kA4.lt
        have HK := Lib.hid (And.intro kS4 (And.intro kA4 (And.intro hown4 hwr4)))
        clear hwr3 kS3 kA3 hown3 hgrow4 hnil4 g1' g2' q0 q1 q2 q3 hfr HE3 HW hown4 kS4 kA4 hwr4
        by_cases hlt : lo.toNat < hi.toNat
        · have hd : decide (lo.toNat < hi.toNat) = true := decide_eq_true hlt
          have hb' := HH.out.1
          have hsp : split3 (lo, hi) = [(lo, hi), (lo, UInt8.ofNat (mid (lo, hi))), (UInt8.ofNat (mid (lo, hi)), hi)] := if_pos hlt
          have hmid : ub (UInt8.ofNat (mid (lo, hi))) = .int .u8 (((lo.toNat : Int) + (hi.toNat : Int)) / 2) := by
            unfold ub
            rw [u8n _ (mid_lt _)]
            unfold mid
            simp
          rw [hsp] at hb'
          have HB := Lib.hid (And.intro hb' hmid)
          clear hb' hsp hmid hlt
          refine D.wp_region_stab (fun _ => none) (by kernel_rfl) (by kernel_rfl) (fun _ _ h => by cases h) (fun hex => ?_)
          iterate 11
            (refine D.wpS_one (A := ?_) hex rfl rfl (by simp) ?_ ?_ ?_
             rotate_left 2
             · intro w' hC K hK
               obtain ⟨nq, rfl⟩ := hC.1
               go_wp2_with (fail)
               refine hK _ ?_
               first | exact D.Gr.refl _ _ | exact ⟨_, rfl⟩
             rotate_left 1
             · rfl
             clear hex; intro hex)
          refine D.wpS_nil fun _ hE => ?_
          obtain ⟨nq, rfl⟩ := hE.1
          clear hE hex
          go_wp2_with fail
          generalize hw6 : w4.drewN nq = w6
          have g1' : w6.cell? ⟨b, o + j * 2, none⟩ = some (ub lo) := by rw [← hw6]; exact g1
          have g2' : w6.cell? ⟨b, o + j * 2 + 1, none⟩ = some (ub hi) := by rw [← hw6]; exact g2
          obtain ⟨kS4, kA4, hown4, hwr4⟩ := HK.out
          have kS6 := kS4.drewN nq
          rw [hw6] at kS6
          have kA6 := kA4.drewN nq
          rw [hw6] at kA6
          have hown6 : w6.ownsRow (w1.heap.size + 2) 39 2 v1 (BK.length + 1) (scells BK ++ [ub lo, ub hi]) := by rw [← hw6]; exact hown4
          have hwr6 : Below w.heap.size w w6 := by rw [← hw6]; exact below_drewN hwr4 nq
          have hz6 := kA6.lt
          have HK6 := Lib.hid (And.intro kS6 (And.intro kA6 (And.intro hown6 hwr6)))
          clear g1 g2 HK kS4 kA4 hown4 hwr4 kS6 kA6 hown6 hwr6 hw6 hz4
          refine wp_region_tail (RsSp #[ub lo, .int .u8 (((lo.toNat : Int) + (hi.toNat : Int)) / 2), .int .u8 (((lo.toNat : Int) + (hi.toNat : Int)) / 2), ub hi]) 16 (by kernel_rfl) (by kernel_rfl) (RsSp_mono _) (fun hex => ?_)
          simp only [List.take_succ_cons, List.take_zero, List.drop_succ_cons, List.drop_zero]
          iterate 15
            (refine wpS_one (A := ?_) hex rfl rfl (by simp) ?_ ?_ ?_
             rotate_left 2
             · intro w' hC K hK
               obtain ⟨hcell, hfrz⟩ := bcell hC.1.ext
               have g1'' := (hC.1.ext.cell (p := ⟨b, o + j * 2, none⟩) (by simp; omega)).trans g1'; have g2'' := (hC.1.ext.cell (p := ⟨b, o + j * 2 + 1, none⟩) (by simp; omega)).trans g2'; clear hcell hfrz
               go_wp2_with (fail)
               refine hK _ ?_
               first | exact Gr.refl _ _ | exact Gr.of_ext (by assumption) hC.1.1.size
             rotate_left 1
             · rfl
             clear hex; intro hex)
          refine wpS_rel (RSp #[ub lo, .int .u8 (((lo.toNat : Int) + (hi.toNat : Int)) / 2), .int .u8 (((lo.toNat : Int) + (hi.toNat : Int)) / 2), ub hi]) rfl rfl (by simp) (by first | rfl | (simp [Region.wanted, yielded]; done)) ?_ ?_
          · intro w' hC K hK
            simp only [Act.put, List.setIfInBounds_toArray, List.set_cons_succ, List.set_cons_zero] at hK
            obtain ⟨hcell, hfrz⟩ := bcell hC.1.ext
            go_wp2_with (fail)
            refine hK _ _ ?_ ?_
            · first | exact Gr.refl _ _ | exact Gr.of_ext (by assumption) hC.1.1.size | (refine Gr.of_ext ?_ hC.1.1.size; (repeat' (first | (with_reducible exact Below.refl _ _) | (with_reducible assumption) | (with_reducible refine below_drewN ?_ _) | (with_reducible refine Below.alloc ?_ ?_ _) | (with_reducible refine Below.drew ?_) | (with_reducible refine Below.setCell ?_ ?_ _) | (with_reducible refine Below.trans ?_ (Below.mono (by with_reducible assumption) ?_)) | go_size)))
            · exact ⟨_, rfl, _, _, Blk.new _ _ _⟩
          clear hex
          intro v3 w' hex hv3
          replace hex := Exists.intro w' hex
          simp only [Act.put, List.setIfInBounds_toArray, List.set_cons_succ, List.set_cons_zero]
          refine wpS_nil fun w7 hE => ?_
          obtain ⟨b', rfl, t', f', hblk⟩ := (hE.2 15).1 rfl
          have hx7 := hE.1.ext
          obtain ⟨kS6, kA6, hown6, hwr6⟩ := HK6.out
          have kS7 := kS6.ext hx7
          have kA7 := kA6.ext hx7
          have hown7 := own_below hown6 hx7 (Nat.le_refl _)
          have hwr7 := bel_call hwr6 hx7
          have hcs := cells_of_blk4 hblk
          have hz7 := kA7.lt
          clear hE hex hv3 kS6 kA6 hown6 hwr6 hx7 hblk
          go_wp2_with (at_builtin; refine wpList_append_own _ rfl (.tmp 67) (.tmp 82) 27 rfl (w1.heap.size + 2) 39 i0 (.agg #[.int .u8 0, .int .u8 0]) 2 2 Tryd.underlying27 hi0 hz0 hz1 hz2 rfl (by decide) _ _ _ rfl hown7 ⟨b', 0, none⟩ 2 2 _ rfl rfl hcs (by intro u hu; simp at hu; rcases hu with rfl | rfl | rfl | rfl <;> rfl) (by unfold maxLen; omega) (by omega) (by omega) ?_; intro v2 w5 hown5 hgrow5 hnil5)
          go_roundw
          case rel =>
            refine ⟨j, (j : Int) - 1, by omega, by omega, rfl, kS7.grown hgrow5 (fun e => by have := (hown7.lt _ e).1; omega), by rw [HH.out.2.1]; exact kA7.grown hgrow5 (fun e => by have := (hown7.lt _ e).1; omega), ?_, hwr7.grown hgrow5 hwr7.size (fun jj hjj => Nat.le_trans (by omega) (hown7.lt jj hjj).1)⟩
            rw [HB.out.1, scells_append, show (BK ++ [(lo, hi), (lo, UInt8.ofNat (mid (lo, hi))), (UInt8.ofNat (mid (lo, hi)), hi)]).length = BK.length + 1 + 2 by simp]
            have e : scells [(lo, hi), (lo, UInt8.ofNat (mid (lo, hi))), (UInt8.ofNat (mid (lo, hi)), hi)] = [ub lo, ub hi] ++ [ub lo, .int .u8 (((lo.toNat : Int) + (hi.toNat : Int)) / 2), .int .u8 (((lo.toNat : Int) + (hi.toNat : Int)) / 2), ub hi] := by
              rw [← HB.out.2]; rfl
            rw [e, ← List.append_assoc]
            exact hown5
          case measure => simp [intOf] <;> omega
        · have hd : decide (lo.toNat < hi.toNat) = false := decide_eq_false hlt
          have hb' := HH.out.1
          have hsp : split3 (lo, hi) = [(lo, hi)] := if_neg hlt
          rw [hsp] at hb'
          have HB := Lib.hid hb'
          clear hb' hsp hlt
          refine D.wp_region_stab (fun _ => none) (by kernel_rfl) (by kernel_rfl) (fun _ _ h => by cases h) (fun hex => ?_)
          iterate 11
            (refine D.wpS_one (A := ?_) hex rfl rfl (by simp) ?_ ?_ ?_
             rotate_left 2
             · intro w' hC K hK
               obtain ⟨nq, rfl⟩ := hC.1
               go_wp2_with (fail)
               refine hK _ ?_
               first | exact D.Gr.refl _ _ | exact ⟨_, rfl⟩
             rotate_left 1
             · rfl
             clear hex; intro hex)
          refine D.wpS_nil fun _ hE => ?_
          obtain ⟨nq, rfl⟩ := hE.1
          clear hE hex
          go_wp2_with fail
          obtain ⟨kS4, kA4, hown4, hwr4⟩ := HK.out
          go_roundw
          case rel =>
            refine ⟨j, (j : Int) - 1, by omega, by omega, rfl, kS4.drewN _, by rw [HH.out.2.1]; exact kA4.drewN _, ?_, below_drewN hwr4 _⟩
            rw [HB.out, scells_append, show (BK ++ [(lo, hi)]).length = BK.length + 1 by simp]
            exact hown4
          case measure => simp [intOf] <;> omega
      · obtain rfl : x = -1 := by omega
        obtain rfl : k = 0 := by omega
        rw [HF.out.2.2] at kA
        have hbl := bks_len l 0
        have HV := Lib.hid (Spans.of_row hown rfl (by omega))
        have HTr := Lib.hid (HT.out.ext hwr)
        clear hown
        go_wp2_with fail
        refine wp_region_stab (fun _ => none) (by kernel_rfl) (by kernel_rfl) (fun _ _ h => by cases h) (fun hex => ?_)
        iterate 13
          (refine wpS_one (A := ?_) hex rfl rfl (by simp) ?_ ?_ ?_
           rotate_left 2
           · intro w' hC K hK
             obtain ⟨hcell, hfrz⟩ := bcell hC.1.ext
             obtain ⟨q0, q1, q2, q3⟩ := (kS.ext hC.1.ext).cells4; obtain ⟨r0, r1, r2, r3⟩ := (kA.ext hC.1.ext).cells4; have f1 := Lib.hid (HV.out.ext hC.1.ext); have hTw := Lib.hid (HTr.out.ext hC.1.ext); clear hcell hfrz
             go_wp2_with (first | (go_at_call 18; refine (ofspans_is _ (bks l 0) s _ f1.out HF.out.2.1).mono ?_; rintro e w2 ⟨rfl, hb2⟩) | (go_at_call 38; refine (wakes_any _ hTw.out).mono ?_; rintro e w2 ⟨rfl, hb2⟩))
             refine hK _ ?_
             first | exact Gr.refl _ _ | exact Gr.of_ext (by assumption) hC.1.1.size
           rotate_left 1
           · rfl
           clear hex; intro hex)
        refine wpS_nil fun w5 hE => ?_
        replace hE := hE.1.ext
        obtain ⟨hcell_w5, hfrz_w5⟩ := bcell hE
        have hw5 := bel_call hwr hE
        clear hcell_w5 hfrz_w5 hex hE
        go_wp2
        go_ret
        exact ⟨rfl, hw5⟩
end Go.Proofs.YtkhmkcaocacfhaaDoor
