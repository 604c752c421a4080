/- FaultIs: the walk. -/
import Derived.Test.YtoagkgdjekbcmaaDoorMad
import Derived.Test.YtoagkgdjekbcmaaDoorSht
namespace Go.Proofs.YtoagkgdjekbcmaaDoor
open Go Go.RowKit
theorem is_err (K : List Wr) (v : Value) (a b : Addr) (q : Bool) (w : World) (h : ErrOf w K v a) (hb : ∃ c t, w.heap[b.block]? = some (.cells c t (0, 0))) (hq : decide (a = b) = q) :
    Calls Tryd.prog 8 #[v, errAt b] w fun e w' => e = .returned (.bool q) ∧ w' = w := by
  obtain ⟨L, hL, _, _, ha⟩ := h
  subst hq
  exact is_all L v a b w hL ha hb
set_option maxHeartbeats 1000000 in
set_option maxRecDepth 20000 in
theorem faultis_any (ea : Nat → Addr) (c : Int) (s : ByteArray) (x : Value) (l : List WD) (w : World) (hK : Known w ea) (hx : Wrs w x l) (hcr : -9223372036854775808 ≤ c ∧ c ≤ 9223372036854775807) :
    Calls Tryd.prog 3 #[.agg #[.int .i64 c, .string s, x]] w fun e w' => e = .returned (.bool true) ∧ Below w.heap.size w w' := by
  obtain ⟨xa, xc, rfl⟩ := hx.slice
  have hb : Ext w (w.alloc (.cells #[.int .i64 c, .string s, .slice xa l.length xc] 24)) := by go_grown
  have kB := Blk.new w #[.int .i64 c, .string s, .slice xa l.length xc] 24
  obtain ⟨q, hq⟩ : ∃ q, shortB s l = q := ⟨_, rfl⟩
  have hsh := short_any c s _ l _ (hx.ext hb) q hq
  go_enter Tryd.func3, Tryd.ntmps3
  go_wp2_with fail
  refine hsh.mono ?_
  rintro e w1 ⟨rfl, hE⟩
  replace hb := bel_call hb hE
  replace kB := kB.below hE kB.lt
  have hx1 := hx.ext hb
  have hK1 := hK.ext hb
  clear hsh hE hq
  cases q with
  | false =>
    have hwk := wakes_any ea w1 hK1
    clear hK1 hx1
    go_wp2_with fail
    refine hwk.mono ?_
    rintro e w9 ⟨rfl, hE⟩
    go_wp2
    go_ret
    exact ⟨rfl, bel_call hb hE⟩
  | true =>
    obtain ⟨q0, q1, q2⟩ := And.intro (kB.cell 0) (And.intro (kB.cell 1) (kB.cell 2))
    by_cases hc1 : c = 1
    · subst hc1
      have hmd := made_own ea s _ l w1 hK1 hx1
      clear hK1 hx1
      go_wp2_with fail
      refine hmd.mono ?_
      rintro e w2 ⟨v, a, rfl, herr, hab, hE⟩
      have hna : ∀ k, k < 16 → a ≠ ea k := fun k hk e => by
        obtain ⟨c0, t0, hr⟩ := hK.sent.row k hk
        have h1 := (Array.getElem?_eq_some_iff.1 hr).1
        have h2 := hb.size
        rw [← e] at h1
        omega
      replace hb := bel_call hb hE
      replace kB := kB.below hE kB.lt
      obtain ⟨c, hc⟩ : ∃ c : Int, c = 1 := ⟨_, rfl⟩
      rw [← hc] at kB
      clear hmd hE q0 q1 q2
      obtain ⟨q0, q1, q2⟩ := And.intro (kB.cell 0) (And.intro (kB.cell 1) (kB.cell 2))
      go_wp2_with fail
      go_loopw [4] (fun i wr => ∃ k : Nat, k ≤ 16 ∧ i = .int .i64 ((k : Int) + 2) ∧ Below w.heap.size w wr ∧ Blk wr w.heap.size #[.int .i64 c, .string s, .slice xa l.length xc] 24∧ ErrOf wr (wrs l) v a) (fun i _ => 18 - (intOf i).toNat)
      case atStart => exact ⟨0, by omega, rfl, hb, kB, herr⟩
      case' round =>
        clear hb kB q0 q1 q2
        obtain ⟨k, hk, rfl, hb, kB, herr⟩ := hrel
        have HK := Lib.hid (hK.ext hb)
        have hsplit : k < 16 ∨ k = 16 := by omega
        rcases hsplit with h16 | rfl
      rotate_left 1
      focus
        have hwk := wakes_any ea wr HK.out
        clear HK
        go_wp2_with fail
        refine hwk.mono ?_
        rintro e w9 ⟨rfl, hE⟩
        go_wp2
        go_ret
        exact ⟨rfl, bel_call hb hE⟩
      have h17 : (k : Int) + 2 ≤ 17 := by omega
      have hq2 : decide (a = ea k) = false := by simpa using hna k h16
      have hcq : ((k : Int) + 2 == c) = false := by simp; omega
      go_wp2_with fail
      refine wp_region_stab (fun _ => none) (by kernel_rfl) (by kernel_rfl) (fun _ _ h => by cases h) (fun hex => ?_)
      iterate 9
        (refine wpS_one (A := ?_) hex rfl rfl (by simp) ?_ ?_ ?_
         rotate_left 2
         · intro w' hC K hK
           obtain ⟨hcell, hfrz⟩ := bcell hC.1.ext
           have q0 := (kB.ext hC.1.ext).cell 0; clear hcell hfrz
           go_wp2_with (first | (go_at_call 9; refine (of_some k ea _ (HK.out.sent.ext hC.1.ext) h16).mono ?_; rintro e w2 ⟨rfl, hb2⟩) | (go_at_call 8; refine (is_err _ _ a (ea k) false _ (herr.ext hC.1.ext) ((HK.out.ext hC.1.ext).sent.row k h16) hq2).mono ?_; rintro e w2 ⟨rfl, rfl⟩))
           refine hK _ ?_
           first | exact Gr.refl _ _ | exact Gr.of_ext (by assumption) hC.1.1.size
         rotate_left 1
         · rfl
         clear hex; intro hex)
      refine wpS_nil fun w3 hE => ?_
      replace hE := hE.1.ext
      obtain ⟨hcell_w3, hfrz_w3⟩ := bcell hE
      replace hb := bel_call hb hE
      replace kB := kB.ext hE
      replace herr := herr.ext hE
      clear hE hcell_w3 hfrz_w3
      go_wp2_with fail
      go_roundw
      case rel => exact ⟨k + 1, by omega, by go_num, hb, kB, herr⟩
      case measure => simp only [intOf]; omega
    · by_cases hc2 : 2 ≤ c ∧ c ≤ 17
      · obtain ⟨j, hj, rfl⟩ : ∃ j : Nat, j < 16 ∧ c = (j : Int) + 2 := ⟨(c - 2).toNat, by omega, by omega⟩
        have hmd := made_some ea j s _ l w1 hK1 hx1 hj
        clear hK1 hx1
        go_wp2_with fail
        refine hmd.mono ?_
        rintro e w2 ⟨v, rfl, herr, hE⟩
        replace hb := bel_call hb hE
        replace kB := kB.below hE kB.lt
        obtain ⟨c, hc⟩ : ∃ c : Int, c = (j : Int) + 2 := ⟨_, rfl⟩
        rw [← hc] at kB
        have HC := Lib.hid hc
        clear hmd hE q0 q1 q2 hc
        obtain ⟨q0, q1, q2⟩ := And.intro (kB.cell 0) (And.intro (kB.cell 1) (kB.cell 2))
        go_wp2_with fail
        go_loopw [4] (fun i wr => ∃ k : Nat, k ≤ 16 ∧ i = .int .i64 ((k : Int) + 2) ∧ Below w.heap.size w wr ∧ Blk wr w.heap.size #[.int .i64 c, .string s, .slice xa l.length xc] 24∧ ErrOf wr (wrs l) v (ea j)) (fun i _ => 18 - (intOf i).toNat)
        case atStart => exact ⟨0, by omega, rfl, hb, kB, herr⟩
        case' round =>
          clear hb kB q0 q1 q2
          obtain ⟨k, hk, rfl, hb, kB, herr⟩ := hrel
          have HK := Lib.hid (hK.ext hb)
          have hsplit : k < 16 ∨ k = 16 := by omega
          rcases hsplit with h16 | rfl
        rotate_left 1
        focus
          have hwk := wakes_any ea wr HK.out
          clear HK
          go_wp2_with fail
          refine hwk.mono ?_
          rintro e w9 ⟨rfl, hE⟩
          go_wp2
          go_ret
          exact ⟨rfl, bel_call hb hE⟩
        have h17 : (k : Int) + 2 ≤ 17 := by omega
        by_cases hjk : k = j
        · have hq2 : decide (ea j = ea k) = true := by simp [hjk]
          have hcq : ((k : Int) + 2 == c) = true := by have := HC.out; simp; omega
          have HQ := Lib.hid hq2
          clear hq2 hjk
          go_wp2_with fail
          refine wp_region_stab (fun _ => none) (by kernel_rfl) (by kernel_rfl) (fun _ _ h => by cases h) (fun hex => ?_)
          iterate 9
            (refine wpS_one (A := ?_) hex rfl rfl (by simp) ?_ ?_ ?_
             rotate_left 2
             · intro w' hC K hK
               obtain ⟨hcell, hfrz⟩ := bcell hC.1.ext
               have q0 := (kB.ext hC.1.ext).cell 0; clear hcell hfrz
               go_wp2_with (first | (go_at_call 9; refine (of_some k ea _ (HK.out.sent.ext hC.1.ext) h16).mono ?_; rintro e w2 ⟨rfl, hb2⟩) | (go_at_call 8; refine (is_err _ _ (ea j) (ea k) true _ (herr.ext hC.1.ext) ((HK.out.ext hC.1.ext).sent.row k h16) HQ.out).mono ?_; rintro e w2 ⟨rfl, rfl⟩))
               refine hK _ ?_
               first | exact Gr.refl _ _ | exact Gr.of_ext (by assumption) hC.1.1.size
             rotate_left 1
             · rfl
             clear hex; intro hex)
          refine wpS_nil fun w3 hE => ?_
          replace hE := hE.1.ext
          obtain ⟨hcell_w3, hfrz_w3⟩ := bcell hE
          replace hb := bel_call hb hE
          replace kB := kB.ext hE
          replace herr := herr.ext hE
          clear hE hcell_w3 hfrz_w3
          go_wp2_with fail
          go_roundw
          case rel => exact ⟨k + 1, by omega, by go_num, hb, kB, herr⟩
          case measure => simp only [intOf]; omega
        · have hq2 : decide (ea j = ea k) = false := by simp only [decide_eq_false_iff_not]; exact fun e => hjk (hK.sent.inj k j h16 hj e.symm)
          have hcq : ((k : Int) + 2 == c) = false := by have := HC.out; simp; omega
          have HQ := Lib.hid hq2
          clear hq2 hjk
          go_wp2_with fail
          refine wp_region_stab (fun _ => none) (by kernel_rfl) (by kernel_rfl) (fun _ _ h => by cases h) (fun hex => ?_)
          iterate 9
            (refine wpS_one (A := ?_) hex rfl rfl (by simp) ?_ ?_ ?_
             rotate_left 2
             · intro w' hC K hK
               obtain ⟨hcell, hfrz⟩ := bcell hC.1.ext
               have q0 := (kB.ext hC.1.ext).cell 0; clear hcell hfrz
               go_wp2_with (first | (go_at_call 9; refine (of_some k ea _ (HK.out.sent.ext hC.1.ext) h16).mono ?_; rintro e w2 ⟨rfl, hb2⟩) | (go_at_call 8; refine (is_err _ _ (ea j) (ea k) false _ (herr.ext hC.1.ext) ((HK.out.ext hC.1.ext).sent.row k h16) HQ.out).mono ?_; rintro e w2 ⟨rfl, rfl⟩))
               refine hK _ ?_
               first | exact Gr.refl _ _ | exact Gr.of_ext (by assumption) hC.1.1.size
             rotate_left 1
             · rfl
             clear hex; intro hex)
          refine wpS_nil fun w3 hE => ?_
          replace hE := hE.1.ext
          obtain ⟨hcell_w3, hfrz_w3⟩ := bcell hE
          replace hb := bel_call hb hE
          replace kB := kB.ext hE
          replace herr := herr.ext hE
          clear hE hcell_w3 hfrz_w3
          go_wp2_with fail
          go_roundw
          case rel => exact ⟨k + 1, by omega, by go_num, hb, kB, herr⟩
          case measure => simp only [intOf]; omega
      · have hmd := made_nil ea c s _ l w1 hK1 hx1 (by unfold MadeNil; omega) hcr
        clear hK1 hx1
        go_wp2_with fail
        refine hmd.mono ?_
        rintro e w2 ⟨rfl, hE⟩
        replace hb := bel_call hb hE
        replace kB := kB.below hE kB.lt
        clear hmd hE q0 q1 q2
        obtain ⟨q0, q1, q2⟩ := And.intro (kB.cell 0) (And.intro (kB.cell 1) (kB.cell 2))
        go_wp2_with fail
        go_loopw [4] (fun i wr => ∃ k : Nat, k ≤ 16 ∧ i = .int .i64 ((k : Int) + 2) ∧ Below w.heap.size w wr ∧ Blk wr w.heap.size #[.int .i64 c, .string s, .slice xa l.length xc] 24) (fun i _ => 18 - (intOf i).toNat)
        case atStart => exact ⟨0, by omega, rfl, hb, kB⟩
        case' round =>
          clear hb kB q0 q1 q2
          obtain ⟨k, hk, rfl, hb, kB⟩ := hrel
          have HK := Lib.hid (hK.ext hb)
          have hsplit : k < 16 ∨ k = 16 := by omega
          rcases hsplit with h16 | rfl
        rotate_left 1
        focus
          have hwk := wakes_any ea wr HK.out
          clear HK
          go_wp2_with fail
          refine hwk.mono ?_
          rintro e w9 ⟨rfl, hE⟩
          go_wp2
          go_ret
          exact ⟨rfl, bel_call hb hE⟩
        have h17 : (k : Int) + 2 ≤ 17 := by omega
        have hcq : ((k : Int) + 2 == c) = false := by simp; omega
        go_wp2_with fail
        refine wp_region_stab (fun _ => none) (by kernel_rfl) (by kernel_rfl) (fun _ _ h => by cases h) (fun hex => ?_)
        iterate 9
          (refine wpS_one (A := ?_) hex rfl rfl (by simp) ?_ ?_ ?_
           rotate_left 2
           · intro w' hC K hK
             obtain ⟨hcell, hfrz⟩ := bcell hC.1.ext
             have q0 := (kB.ext hC.1.ext).cell 0; clear hcell hfrz
             go_wp2_with (first | (go_at_call 9; refine (of_some k ea _ (HK.out.sent.ext hC.1.ext) h16).mono ?_; rintro e w2 ⟨rfl, hb2⟩) | (go_at_call 8; refine (is_nothing (ea k) _).mono ?_; rintro e w2 ⟨rfl, rfl⟩))
             refine hK _ ?_
             first | exact Gr.refl _ _ | exact Gr.of_ext (by assumption) hC.1.1.size
           rotate_left 1
           · rfl
           clear hex; intro hex)
        refine wpS_nil fun w3 hE => ?_
        replace hE := hE.1.ext
        obtain ⟨hcell_w3, hfrz_w3⟩ := bcell hE
        replace hb := bel_call hb hE
        replace kB := kB.ext hE
        skip
        clear hE hcell_w3 hfrz_w3
        go_wp2_with fail
        go_roundw
        case rel => exact ⟨k + 1, by omega, by go_num, hb, kB⟩
        case measure => simp only [intOf]; omega
end Go.Proofs.YtoagkgdjekbcmaaDoor
