/- The least byte of a set; which of two sets stands first. -/
import Derived.Test.YtkhmkcaocacfhaaDoorWakes
namespace Go.Proofs.YtkhmkcaocacfhaaDoor
open Go Go.RowKit
/-- The least byte (0, if there is none). -/
def lea (s : BitVec 256) : Nat := (lstN s 4).headD 0
theorem lst_split (s : BitVec 256) (k : Nat) (hk : k < 4) : ∃ r, lstN s 4 = lstN s (k + 1) ++ r := by
  have : k = 0 ∨ k = 1 ∨ k = 2 ∨ k = 3 := by omega
  rcases this with rfl | rfl | rfl | rfl
  · exact ⟨_, by rw [lstN_succ s 3, lstN_succ s 2, lstN_succ s 1, List.append_assoc, List.append_assoc]⟩
  · exact ⟨_, by rw [lstN_succ s 3, lstN_succ s 2, List.append_assoc]⟩
  · exact ⟨_, lstN_succ s 3⟩
  · exact ⟨[], by simp⟩
theorem lea_word (s : BitVec 256) (k : Nat) (hk : k < 4) (h0 : word s k ≠ 0) (hz : lstN s k = []) : lea s = 64 * k + Lib.ctz 64 (word s k) ∧ Lib.ctz 64 (word s k) < 64 := by
  obtain ⟨hc, hs⟩ := bitsOf_step (word s k) h0 (word_lt s k)
  refine ⟨?_, hc⟩
  obtain ⟨r, hr⟩ := lst_split s k hk
  unfold lea
  rw [hr, lstN_succ, hz, hs]
  rfl
theorem lstN_none (s : BitVec 256) (k : Nat) (hz : lstN s k = []) (h0 : word s k = 0) : lstN s (k + 1) = [] := by
  rw [lstN_succ, hz, h0, bitsOf_zero]; rfl
theorem zero_words (s : BitVec 256) (h0 : word s 0 = 0) (h1 : word s 1 = 0) (h2 : word s 2 = 0) (h3 : word s 3 = 0) : s = 0#256 := by
  apply wd_ext <;> rw [wd_zero, wd_word] <;> simp [*]
theorem ne_words (s : BitVec 256) (k : Nat) (h : word s k ≠ 0) : s ≠ 0#256 := by
  rintro rfl
  apply h
  have := wd_zero k
  rw [wd_word] at this
  omega
/-- The least byte is in the set, none below it is. -/
theorem lea_spec (s : BitVec 256) (h : s ≠ 0#256) : s.getLsbD (lea s) = true ∧ ∀ i, i < lea s → s.getLsbD i = false := by
  have key : ∀ n, ∀ p : Nat → Bool, (∀ i, i < n → p i = false) ∨ ∃ d, d < n ∧ ((List.range n).filter p).headD 0 = d ∧ p d = true ∧ ∀ i, i < d → p i = false := by
    intro n
    induction n with
    | zero => intro p; exact .inl fun i hi => by omega
    | succ n ih =>
      intro p
      rcases ih p with hn | ⟨d, hd, he, hp, hl⟩
      · cases hb : p n with
        | false =>
          refine .inl fun i hi => ?_
          by_cases e : i = n
          · subst e; exact hb
          · exact hn i (by omega)
        | true =>
          refine .inr ⟨n, by omega, ?_, hb, hn⟩
          rw [List.range_succ, List.filter_append]
          have : (List.range n).filter p = [] := by
            rw [List.filter_eq_nil_iff]
            intro i hi
            rw [hn i (List.mem_range.1 hi)]; simp
          rw [this]; simp [hb]
      · refine .inr ⟨d, by omega, ?_, hp, hl⟩
        rw [List.range_succ, List.filter_append]
        have hne : (List.range n).filter p ≠ [] := by
          intro e
          have : d ∈ (List.range n).filter p := List.mem_filter.2 ⟨List.mem_range.2 hd, hp⟩
          rw [e] at this; cases this
        cases hl2 : (List.range n).filter p with
        | nil => exact absurd hl2 hne
        | cons x r => rw [hl2] at he; simpa using he
  rcases key 256 (fun i => s.getLsbD i) with hn | ⟨d, _, he, hp, hl⟩
  · exact absurd (BitVec.eq_of_getLsbD_eq fun i hi => by rw [hn i hi]; simp) h
  · have e : lea s = d := he
    rw [e]; exact ⟨hp, hl⟩
theorem lea_le (s : BitVec 256) : lea s ≤ 255 := by
  unfold lea
  cases h : lstN s 4 with
  | nil => simp
  | cons x r =>
    have := lstN_lt s 4 x (by rw [h]; simp)
    simp; omega
/-- Which of two sets stands first. -/
def cmp (a b : BitVec 256) : Int := if a = b then 0 else if a.getLsbD (lea ((a &&& ~~~b) ||| (b &&& ~~~a))) then -1 else 1
set_option maxHeartbeats 2000000 in
theorem least_any (s : BitVec 256) (w : World) (hT : Tab w) :
    Calls Tryd.prog 43 #[sv s] w fun e w' => e = .returned (.tuple #[.int .u8 (lea s : Nat), .bool (decide (s ≠ 0#256))]) ∧ Below w.heap.size w w' := by
  have HT := Lib.hid (hT.ext (Below.alloc (Below.refl _ _) (Nat.le_refl _) (.cells (svs s) 25)))
  clear hT
  by_cases h : word s 0 = 0
  · have z0 := h
    clear h
    by_cases h : word s 1 = 0
    · have z1 := h
      clear h
      by_cases h : word s 2 = 0
      · have z2 := h
        clear h
        by_cases h : word s 3 = 0
        · obtain rfl := zero_words s z0 z1 z2 h
          clear z0 z1 z2 h
          have hl : lea 0#256 = 0 := by decide +kernel
          rw [hl]
          rw [sv_zero]
          go_enter Tryd.func43, Tryd.ntmps43
          go_wp2
          refine wp_loop_rounds 5 ?_
          have i0 : ∀ w, (Instr.index 25 sv0 (.int .i64 0)).run Tryd.prog w = .ok (.int .u64 0) w := fun _ => by kernel_rfl
          have i1 : ∀ w, (Instr.index 25 sv0 (.int .i64 1)).run Tryd.prog w = .ok (.int .u64 0) w := fun _ => by kernel_rfl
          have i2 : ∀ w, (Instr.index 25 sv0 (.int .i64 2)).run Tryd.prog w = .ok (.int .u64 0) w := fun _ => by kernel_rfl
          have i3 : ∀ w, (Instr.index 25 sv0 (.int .i64 3)).run Tryd.prog w = .ok (.int .u64 0) w := fun _ => by kernel_rfl
          iterate 5 (rw [rounds_succ]; go_wp2)
          go_ret2
          exact ⟨ret_v (by simp), by (repeat' (first | (with_reducible exact Below.refl _ _) | (with_reducible assumption) | (with_reducible refine below_drewN ?_ _) | (with_reducible refine Below.alloc ?_ ?_ _) | (with_reducible refine Below.drew ?_) | (with_reducible refine Below.setCell ?_ ?_ _) | (with_reducible refine Below.trans ?_ (Below.mono (by with_reducible assumption) ?_)) | go_size))⟩
        · obtain ⟨hl, hc⟩ := lea_word s 3 (by omega) h (lstN_none s 2 (lstN_none s 1 (lstN_none s 0 rfl z0) z1) z2)
          have hd : decide (s ≠ 0#256) = true := decide_eq_true (ne_words s 3 h)
          rw [hl, hd]
          have b0 : ((wd s 0) != 0) = false := by rw [wd_word, z0]; rfl
          have b1 : ((wd s 1) != 0) = false := by rw [wd_word, z1]; rfl
          have b2 : ((wd s 2) != 0) = false := by rw [wd_word, z2]; rfl
          have b3 : ((wd s 3) != 0) = true := by rw [wd_word]; simp; omega
          generalize hz : Lib.ctz 64 (word s 3) = z at *
          have HZ := Lib.hid (And.intro hz (And.intro hl hd))
          clear hz hl hd
          clear z0 z1 z2
          go_enter Tryd.func43, Tryd.ntmps43
          go_wp2
          refine wp_loop_rounds 5 ?_
          have i0 : ∀ w, (Instr.index 25 (sv s) (.int .i64 0)).run Tryd.prog w = .ok (.int .u64 (wd s 0)) w := fun _ => by kernel_rfl
          have i1 : ∀ w, (Instr.index 25 (sv s) (.int .i64 1)).run Tryd.prog w = .ok (.int .u64 (wd s 1)) w := fun _ => by kernel_rfl
          have i2 : ∀ w, (Instr.index 25 (sv s) (.int .i64 2)).run Tryd.prog w = .ok (.int .u64 (wd s 2)) w := fun _ => by kernel_rfl
          have i3 : ∀ w, (Instr.index 25 (sv s) (.int .i64 3)).run Tryd.prog w = .ok (.int .u64 (wd s 3)) w := fun _ => by kernel_rfl
          rw [rounds_succ]
          go_wp2
          rw [rounds_succ]
          go_wp2
          rw [rounds_succ]
          go_wp2
          rw [rounds_succ]
          go_wp2_with (go_at_call 69; refine (tz_eq (word s 3) z (word_lt s 3) h HZ.out.1 _ HT.out).mono ?_; rintro e w' ⟨rfl, rfl⟩)
          go_ret2
          exact ⟨ret_v (by simp), by (repeat' (first | (with_reducible exact Below.refl _ _) | (with_reducible assumption) | (with_reducible refine below_drewN ?_ _) | (with_reducible refine Below.alloc ?_ ?_ _) | (with_reducible refine Below.drew ?_) | (with_reducible refine Below.setCell ?_ ?_ _) | (with_reducible refine Below.trans ?_ (Below.mono (by with_reducible assumption) ?_)) | go_size))⟩
      · obtain ⟨hl, hc⟩ := lea_word s 2 (by omega) h (lstN_none s 1 (lstN_none s 0 rfl z0) z1)
        have hd : decide (s ≠ 0#256) = true := decide_eq_true (ne_words s 2 h)
        rw [hl, hd]
        have b0 : ((wd s 0) != 0) = false := by rw [wd_word, z0]; rfl
        have b1 : ((wd s 1) != 0) = false := by rw [wd_word, z1]; rfl
        have b2 : ((wd s 2) != 0) = true := by rw [wd_word]; simp; omega
        generalize hz : Lib.ctz 64 (word s 2) = z at *
        have HZ := Lib.hid (And.intro hz (And.intro hl hd))
        clear hz hl hd
        clear z0 z1
        go_enter Tryd.func43, Tryd.ntmps43
        go_wp2
        refine wp_loop_rounds 5 ?_
        have i0 : ∀ w, (Instr.index 25 (sv s) (.int .i64 0)).run Tryd.prog w = .ok (.int .u64 (wd s 0)) w := fun _ => by kernel_rfl
        have i1 : ∀ w, (Instr.index 25 (sv s) (.int .i64 1)).run Tryd.prog w = .ok (.int .u64 (wd s 1)) w := fun _ => by kernel_rfl
        have i2 : ∀ w, (Instr.index 25 (sv s) (.int .i64 2)).run Tryd.prog w = .ok (.int .u64 (wd s 2)) w := fun _ => by kernel_rfl
        rw [rounds_succ]
        go_wp2
        rw [rounds_succ]
        go_wp2
        rw [rounds_succ]
        go_wp2_with (go_at_call 69; refine (tz_eq (word s 2) z (word_lt s 2) h HZ.out.1 _ HT.out).mono ?_; rintro e w' ⟨rfl, rfl⟩)
        go_ret2
        exact ⟨ret_v (by simp), by (repeat' (first | (with_reducible exact Below.refl _ _) | (with_reducible assumption) | (with_reducible refine below_drewN ?_ _) | (with_reducible refine Below.alloc ?_ ?_ _) | (with_reducible refine Below.drew ?_) | (with_reducible refine Below.setCell ?_ ?_ _) | (with_reducible refine Below.trans ?_ (Below.mono (by with_reducible assumption) ?_)) | go_size))⟩
    · obtain ⟨hl, hc⟩ := lea_word s 1 (by omega) h (lstN_none s 0 rfl z0)
      have hd : decide (s ≠ 0#256) = true := decide_eq_true (ne_words s 1 h)
      rw [hl, hd]
      have b0 : ((wd s 0) != 0) = false := by rw [wd_word, z0]; rfl
      have b1 : ((wd s 1) != 0) = true := by rw [wd_word]; simp; omega
      generalize hz : Lib.ctz 64 (word s 1) = z at *
      have HZ := Lib.hid (And.intro hz (And.intro hl hd))
      clear hz hl hd
      clear z0
      go_enter Tryd.func43, Tryd.ntmps43
      go_wp2
      refine wp_loop_rounds 5 ?_
      have i0 : ∀ w, (Instr.index 25 (sv s) (.int .i64 0)).run Tryd.prog w = .ok (.int .u64 (wd s 0)) w := fun _ => by kernel_rfl
      have i1 : ∀ w, (Instr.index 25 (sv s) (.int .i64 1)).run Tryd.prog w = .ok (.int .u64 (wd s 1)) w := fun _ => by kernel_rfl
      rw [rounds_succ]
      go_wp2
      rw [rounds_succ]
      go_wp2_with (go_at_call 69; refine (tz_eq (word s 1) z (word_lt s 1) h HZ.out.1 _ HT.out).mono ?_; rintro e w' ⟨rfl, rfl⟩)
      go_ret2
      exact ⟨ret_v (by simp), by (repeat' (first | (with_reducible exact Below.refl _ _) | (with_reducible assumption) | (with_reducible refine below_drewN ?_ _) | (with_reducible refine Below.alloc ?_ ?_ _) | (with_reducible refine Below.drew ?_) | (with_reducible refine Below.setCell ?_ ?_ _) | (with_reducible refine Below.trans ?_ (Below.mono (by with_reducible assumption) ?_)) | go_size))⟩
  · obtain ⟨hl, hc⟩ := lea_word s 0 (by omega) h rfl
    have hd : decide (s ≠ 0#256) = true := decide_eq_true (ne_words s 0 h)
    rw [hl, hd]
    have b0 : ((wd s 0) != 0) = true := by rw [wd_word]; simp; omega
    generalize hz : Lib.ctz 64 (word s 0) = z at *
    have HZ := Lib.hid (And.intro hz (And.intro hl hd))
    clear hz hl hd
    go_enter Tryd.func43, Tryd.ntmps43
    go_wp2
    refine wp_loop_rounds 5 ?_
    have i0 : ∀ w, (Instr.index 25 (sv s) (.int .i64 0)).run Tryd.prog w = .ok (.int .u64 (wd s 0)) w := fun _ => by kernel_rfl
    rw [rounds_succ]
    go_wp2_with (go_at_call 69; refine (tz_eq (word s 0) z (word_lt s 0) h HZ.out.1 _ HT.out).mono ?_; rintro e w' ⟨rfl, rfl⟩)
    go_ret2
    exact ⟨ret_v (by simp), by (repeat' (first | (with_reducible exact Below.refl _ _) | (with_reducible assumption) | (with_reducible refine below_drewN ?_ _) | (with_reducible refine Below.alloc ?_ ?_ _) | (with_reducible refine Below.drew ?_) | (with_reducible refine Below.setCell ?_ ?_ _) | (with_reducible refine Below.trans ?_ (Below.mono (by with_reducible assumption) ?_)) | go_size))⟩
theorem least_eq (s : BitVec 256) (d : Nat) (r : Bool) (hd : lea s = d) (hr : decide (s ≠ 0#256) = r) (w : World) (hT : Tab w) :
    Calls Tryd.prog 43 #[sv s] w fun e w' => e = .returned (.tuple #[.int .u8 (d : Nat), .bool r]) ∧ Below w.heap.size w w' := by
  subst hd; subst hr; exact least_any s w hT
theorem minus_eq (s t r : BitVec 256) (h : s &&& ~~~t = r) (w : World) :
    Calls Tryd.prog 29 #[sv s, sv t] w fun e w' => e = .returned (sv r) ∧ Below w.heap.size w w' := by subst h; exact minus_any s t w
theorem union_eq (s t r : BitVec 256) (h : s ||| t = r) (w : World) :
    Calls Tryd.prog 25 #[sv s, sv t] w fun e w' => e = .returned (sv r) ∧ Below w.heap.size w w' := by subst h; exact union_any s t w
set_option maxHeartbeats 2000000 in
theorem cmp_any (a b : BitVec 256) (w : World) (hT : Tab w) :
    Calls Tryd.prog 35 #[sv a, sv b] w fun e w' => e = .returned (.int .i64 (cmp a b)) ∧ Below w.heap.size w w' := by
  have HT := Lib.hid ((hT.ext (Below.alloc (Below.refl _ _) (Nat.le_refl _) (.cells (svs a) 25))).ext (Below.alloc (Below.refl _ _) (Nat.le_refl _) (.cells (svs b) 25)))
  clear hT
  have heq := set_eq a b
  by_cases h : a = b
  · have hd : decide (a = b) = true := decide_eq_true h
    have hc : cmp a b = 0 := by simp [cmp, h]
    rw [hc]
    rw [hd] at heq
    clear hd hc h
    go_enter Tryd.func35, Tryd.ntmps35
    go_wp2
    go_ret
    exact ⟨rfl, by (repeat' (first | (with_reducible exact Below.refl _ _) | (with_reducible assumption) | (with_reducible refine below_drewN ?_ _) | (with_reducible refine Below.alloc ?_ ?_ _) | (with_reducible refine Below.drew ?_) | (with_reducible refine Below.setCell ?_ ?_ _) | (with_reducible refine Below.trans ?_ (Below.mono (by with_reducible assumption) ?_)) | go_size))⟩
  · have hd : decide (a = b) = false := decide_eq_false h
    rw [hd] at heq
    obtain ⟨d, hdd⟩ : ∃ d, lea ((a &&& ~~~b) ||| (b &&& ~~~a)) = d := ⟨_, rfl⟩
    have hlt : d ≤ 255 := by rw [← hdd]; exact lea_le _
    obtain ⟨q, hq⟩ : ∃ q, a.getLsbD d = q := ⟨_, rfl⟩
    have hc : cmp a b = if q then -1 else 1 := by simp [cmp, h, hdd, hq]
    obtain ⟨x1, hx1⟩ : ∃ x, a &&& ~~~b = x := ⟨_, rfl⟩
    obtain ⟨x2, hx2⟩ : ∃ x, b &&& ~~~a = x := ⟨_, rfl⟩
    obtain ⟨x3, hx3⟩ : ∃ x, x1 ||| x2 = x := ⟨_, rfl⟩
    obtain ⟨r, hr⟩ : ∃ r, decide (x3 ≠ 0#256) = r := ⟨_, rfl⟩
    rw [hx1, hx2, hx3] at hdd
    have HD := Lib.hid (And.intro hdd (And.intro hq (And.intro hc (And.intro hx1 (And.intro hx2 (And.intro hx3 hr))))))
    clear hdd hq hc hd h hx1 hx2 hx3 hr
    have kA := (Blk.new w (svs a) 25).alloc (.cells (svs b) 25)
    have kB := Blk.new (w.alloc (.cells (svs a) 25)) (svs b) 25
    simp only [World.size_alloc] at kB
    cases q
    all_goals
      go_enter Tryd.func35, Tryd.ntmps35
      go_wp2_with fail
      refine wp_region_stab (fun _ => none) (by kernel_rfl) (by kernel_rfl) (fun _ _ h => by cases h) (fun hex => ?_)
      iterate 13
        (refine wpS_one (A := ?_) hex rfl rfl (by simp) ?_ ?_ ?_
         rotate_left 2
         · intro w' hC K hK
           obtain ⟨hcell, hfrz⟩ := bcell hC.1.ext
           obtain ⟨a0, a1, a2, a3⟩ := (kA.ext hC.1.ext).cells4; obtain ⟨b0, b1, b2, b3⟩ := (kB.ext hC.1.ext).cells4; have hTw := Lib.hid (HT.out.ext hC.1.ext); clear hcell hfrz
           go_wp2_with (first | (go_at_call 29; ((first | with_reducible refine (minus_eq a b x1 HD.out.2.2.2.1 _).mono ?_ | with_reducible refine (minus_eq b a x2 HD.out.2.2.2.2.1 _).mono ?_); rintro e w2 ⟨rfl, hb2⟩)) | (go_at_call 25; refine (union_eq x1 x2 x3 HD.out.2.2.2.2.2.1 _).mono ?_; rintro e w2 ⟨rfl, hb2⟩) | (go_at_call 43; refine (least_eq x3 d r HD.out.1 HD.out.2.2.2.2.2.2 _ hTw.out).mono ?_; rintro e w2 ⟨rfl, hb2⟩))
           refine hK _ ?_
           first | exact Gr.refl _ _ | exact Gr.of_ext (by assumption) hC.1.1.size
         rotate_left 1
         · rfl
         clear hex; intro hex)
      refine wpS_nil fun w1 hE => ?_
      replace hE := hE.1.ext
      obtain ⟨hcell_w1, hfrz_w1⟩ := bcell hE
      clear hcell_w1 hfrz_w1 hex
      replace kA := kA.ext hE
      obtain ⟨a0, a1, a2, a3⟩ := kA.cells4
      go_wp2_with (go_at_call 39; refine (has_eq a d _ _ (by omega) (by omega) HD.out.2.1).mono ?_; rintro e w2 ⟨rfl, hb2⟩)
      go_ret
      refine ⟨by rw [HD.out.2.2.1]; rfl, ?_⟩
      refine Below.trans ?_ (hb2.mono (by have := hE.size; simp at this; omega))
      refine Below.trans ?_ (hE.mono (by simp; omega))
      (repeat' (first | (with_reducible exact Below.refl _ _) | (with_reducible assumption) | (with_reducible refine below_drewN ?_ _) | (with_reducible refine Below.alloc ?_ ?_ _) | (with_reducible refine Below.drew ?_) | (with_reducible refine Below.setCell ?_ ?_ _) | (with_reducible refine Below.trans ?_ (Below.mono (by with_reducible assumption) ?_)) | go_size))
end Go.Proofs.YtkhmkcaocacfhaaDoor
