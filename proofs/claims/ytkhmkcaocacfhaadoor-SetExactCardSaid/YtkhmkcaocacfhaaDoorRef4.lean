/- What each call of package bolterref1 does: a set's bytes, spans, least byte; which of two sets stands first. -/
import Derived.Test.YtkhmkcaocacfhaaDoorRef3
import Derived.Test.YtkhmkcaocacfhaaDoorCmp
namespace Go.Proofs.YtkhmkcaocacfhaaDoor
open Go Go.RowKit
/-- A set's bytes below k, rising. -/
def lstK (s : BitVec 256) (k : Nat) : List Nat := (List.range k).filter fun i => s.getLsbD i
theorem lstK_succ (s : BitVec 256) (k : Nat) : lstK s (k + 1) = if s.getLsbD k then lstK s k ++ [k] else lstK s k := by
  unfold lstK
  rw [List.range_succ, List.filter_append]
  cases h : s.getLsbD k <;> simp [h]
theorem lstK_full (s : BitVec 256) : lstK s 256 = lstN s 4 := rfl
theorem lstK_len (s : BitVec 256) (k : Nat) : (lstK s k).length ≤ k := by
  have := List.length_filter_le (fun i => s.getLsbD i) (List.range k)
  rw [List.length_range] at this
  exact this
theorem lstK_mem (s : BitVec 256) (k i : Nat) : i ∈ lstK s k ↔ i < k ∧ s.getLsbD i = true := by
  unfold lstK
  rw [List.mem_filter, List.mem_range]
theorem lstK_rise (s : BitVec 256) (k : Nat) : (lstK s k).Pairwise (· < ·) := List.Pairwise.filter _ List.pairwise_lt_range
set_option maxHeartbeats 1000000 in
set_option maxRecDepth 20000 in
theorem rlist_own (s : BitVec 256) (w : World) :
    Calls Tryd.prog 64 #[sv s] w fun e w' => ∃ v, e = .returned v ∧ w'.ownsRow w.heap.size 5 1 v (lstN s 4).length ((lstN s 4).map nb) ∧ Below w.heap.size w w' := by
  obtain ⟨i0, hi, hz0, hz1, hz2⟩ := info_parts info_u8
  have k1 := Blk.new w (svs s) 25
  have hbel : Below w.heap.size w (w.alloc (.cells (svs s) 25)) := by (repeat' (first | (with_reducible exact Below.refl _ _) | (with_reducible assumption) | (with_reducible refine below_drewN ?_ _) | (with_reducible refine Below.alloc ?_ ?_ _) | (with_reducible refine Below.drew ?_) | (with_reducible refine Below.setCell ?_ ?_ _) | (with_reducible refine Below.trans ?_ (Below.mono (by with_reducible assumption) ?_)) | go_size))
  go_enter Tryd.func64, Tryd.ntmps64
  go_wp2_with fail
  go_loopw [3, 4] (fun l i wr => ∃ k : Nat, k ≤ 256 ∧ i = .int .i64 k ∧ Blk wr w.heap.size (svs s) 25 ∧ wr.ownsRow (w.heap.size + 1) 5 1 l (lstK s k).length ((lstK s k).map nb) ∧ Below w.heap.size w wr) (fun _ i _ => 256 - (intOf i).toNat)
  case atStart => exact ⟨0, Nat.zero_le _, rfl, k1, World.ownsRow_nil _ _ _ _, hbel⟩
  case round =>
    clear k1 hbel
    obtain ⟨k, hk, rfl, k1, hown, hbel⟩ := hrel
    obtain ⟨p0, p1, p2, p3⟩ := k1.cells4
    by_cases hlt : k < 256
    · have hs := lstK_succ s k
      have hln := lstK_len s k
      cases hb : s.getLsbD k with
      | true =>
        rw [hb, if_pos rfl] at hs
        generalize lstK s k = L at *
        have HH := Lib.hid (And.intro hs hb)
        clear hs hb
        go_wp2_with fail
        refine (rhas_eq s k true _ hlt HH.out.2).mono ?_
        rintro e w9 ⟨rfl, hE⟩
        have k1' := k1.ext hE
        have hown' := own_below hown hE (Nat.le_refl _)
        have hbel' := bel_call hbel hE
        have hsz := k1'.lt
        clear hE p0 p1 p2 p3 k1 hown hbel
        go_wp2_with (at_builtin; refine wpList_append_own _ rfl (.tmp 12) (.tmp 15) 26 rfl (w.heap.size + 1) 5 i0 (.int .u8 0) 1 1 Tryd.underlying26 hi hz0 hz1 hz2 rfl (by decide) _ _ _ rfl (hown'.alloc _) ⟨w9.heap.size, 0, none⟩ 1 1 [_] rfl rfl (cell_one_new _ _ _) (by intro u hu; simp at hu; subst hu; rfl) (by unfold maxLen; omega) (by omega) (by simp; omega) ?_; intro v1 w2 hown1 hgrow1 hnil1)
        go_roundw
        case rel =>
          refine ⟨k + 1, by omega, by go_num, (k1'.alloc _).grown hgrow1 (fun e => by have := (hown'.lt _ e).1; omega), ?_, (hbel'.alloc hbel'.size _).grown hgrow1 (by simp; omega) (fun j hj => Nat.le_of_succ_le (hown'.lt j hj).1)⟩
          rw [HH.out.1, List.length_append, List.map_append]
          exact hown1
        case measure => simp [intOf]; omega
      | false =>
        rw [hb, if_neg (by simp)] at hs
        have HH := Lib.hid (And.intro hs hb)
        clear hs hb
        go_wp2_with fail
        refine (rhas_eq s k false _ hlt HH.out.2).mono ?_
        rintro e w9 ⟨rfl, hE⟩
        have k1' := k1.ext hE
        have hown' := own_below hown hE (Nat.le_refl _)
        have hbel' := bel_call hbel hE
        clear hE p0 p1 p2 p3 k1 hown hbel
        go_wp2
        go_roundw
        case rel => exact ⟨k + 1, by omega, by go_num, k1', by rw [HH.out.1]; exact hown', hbel'⟩
        case measure => simp [intOf]; omega
    · obtain rfl : k = 256 := by omega
      go_wp2
      go_ret
      exact ⟨_, rfl, own_base hown (by omega), hbel⟩
set_option maxHeartbeats 1000000 in
set_option maxRecDepth 20000 in
theorem rleast_any (s : BitVec 256) (w : World) :
    Calls Tryd.prog 63 #[sv s] w fun e w' => e = .returned (.tuple #[.int .u8 (lea s : Nat), .bool (decide (s ≠ 0#256))]) ∧ Below w.heap.size w w' := by
  obtain ⟨d, hd⟩ : ∃ d, lea s = d := ⟨_, rfl⟩
  obtain ⟨q, hq⟩ : ∃ q, decide (s ≠ 0#256) = q := ⟨_, rfl⟩
  rw [hd, hq]
  obtain ⟨L, hL⟩ : ∃ L, lstN s 4 = L := ⟨_, rfl⟩
  have hd2 : L.headD 0 = d := by rw [← hL]; exact hd
  have hq2 : q = true ↔ L ≠ [] := by
    rw [← hq, decide_eq_true_eq, ← hL]
    constructor
    · intro h e
      apply h
      apply BitVec.eq_of_getLsbD_eq
      intro i hi
      cases hb : s.getLsbD i with
      | false => simp
      | true =>
        have := (mem_lst s i).2 ⟨hi, hb⟩
        rw [e] at this; cases this
    · intro h e
      subst e
      exact h (by decide +kernel)
  have hlen : L.length ≤ 256 := by have := lstN_len s 4; rw [hL] at this; exact this
  have HL := Lib.hid hL
  have hbel : Below w.heap.size w (w.alloc (.cells (svs s) 25)) := by (repeat' (first | (with_reducible exact Below.refl _ _) | (with_reducible assumption) | (with_reducible refine below_drewN ?_ _) | (with_reducible refine Below.alloc ?_ ?_ _) | (with_reducible refine Below.drew ?_) | (with_reducible refine Below.setCell ?_ ?_ _) | (with_reducible refine Below.trans ?_ (Below.mono (by with_reducible assumption) ?_)) | go_size))
  clear hL hd hq
  cases L with
  | nil =>
    obtain rfl : q = false := by cases q with | false => rfl | true => exact absurd rfl (hq2.1 rfl)
    obtain rfl : 0 = d := hd2
    clear hq2
    go_enter Tryd.func63, Tryd.ntmps63
    go_wp2_with fail
    refine (rlist_own s _).mono ?_
    rintro e w9 ⟨v, rfl, hown, hE⟩
    rw [HL.out] at hown
    replace hbel := bel_call hbel hE
    have hv : ∃ ao cap, v = .slice ao 0 cap := by
      obtain ⟨_, ⟨h, _⟩ | ⟨g, cap, cur, h, _⟩⟩ := hown
      · exact ⟨none, 0, h⟩
      · exact ⟨_, cap, h⟩
    obtain ⟨ao, cap, rfl⟩ := hv
    clear hown hE
    go_wp2
    go_ret2
    exact ⟨rfl, hbel⟩
  | cons x L =>
    obtain rfl : q = true := hq2.2 (by simp)
    obtain rfl : x = d := hd2
    clear hq2
    go_enter Tryd.func63, Tryd.ntmps63
    go_wp2_with fail
    refine (rlist_own s _).mono ?_
    rintro e w9 ⟨v, rfl, hown, hE⟩
    rw [HL.out] at hown
    replace hbel := bel_call hbel hE
    obtain ⟨g, cap, rfl, _, hg2, _, _⟩ := own_some hown (by simp)
    have hc : w9.cell? ⟨g, 0, none⟩ = some (nb x) := by rw [hown.cellAt 0 (by simp)]; rfl
    have h0 : 0 < L.length + 1 := by omega
    simp only [List.length_cons] at hlen
    rw [List.length_cons]
    clear hown hE
    go_wp2
    go_ret2
    exact ⟨rfl, hbel⟩
theorem sd_bit (a b : BitVec 256) (i : Nat) (hi : i < 256) : ((a &&& ~~~b) ||| (b &&& ~~~a)).getLsbD i = (a.getLsbD i != b.getLsbD i) := by
  rw [BitVec.getLsbD_or, BitVec.getLsbD_and, BitVec.getLsbD_and, BitVec.getLsbD_not, BitVec.getLsbD_not]
  cases a.getLsbD i <;> cases b.getLsbD i <;> simp [hi]
theorem lea_sd (a b : BitVec 256) (k : Nat) (hk : k < 256) (h : a.getLsbD k ≠ b.getLsbD k) (hag : ∀ i, i < k → a.getLsbD i = b.getLsbD i) : lea ((a &&& ~~~b) ||| (b &&& ~~~a)) = k := by
  have hkb := sd_bit a b k hk
  have ht : (a.getLsbD k != b.getLsbD k) = true := by simpa using h
  rw [ht] at hkb
  have hne : ((a &&& ~~~b) ||| (b &&& ~~~a)) ≠ 0#256 := by
    intro e
    rw [e] at hkb
    simp at hkb
  obtain ⟨h1, h2⟩ := lea_spec _ hne
  have hle := lea_le ((a &&& ~~~b) ||| (b &&& ~~~a))
  generalize lea ((a &&& ~~~b) ||| (b &&& ~~~a)) = d at *
  rcases Nat.lt_trichotomy d k with hlt | rfl | hlt
  · rw [sd_bit a b d (by omega), hag d hlt] at h1
    simp at h1
  · rfl
  · rw [h2 k hlt] at hkb
    cases hkb
theorem cmp_first (a b : BitVec 256) (k : Nat) (hk : k < 256) (ha : a.getLsbD k = true) (hb : b.getLsbD k = false) (hag : ∀ i, i < k → a.getLsbD i = b.getLsbD i) : cmp a b = -1 := by
  have hne : a ≠ b := by rintro rfl; rw [ha] at hb; cases hb
  unfold cmp
  rw [if_neg hne, lea_sd a b k hk (by rw [ha, hb]; simp) hag, if_pos ha]
theorem cmp_second (a b : BitVec 256) (k : Nat) (hk : k < 256) (ha : a.getLsbD k = false) (hb : b.getLsbD k = true) (hag : ∀ i, i < k → a.getLsbD i = b.getLsbD i) : cmp a b = 1 := by
  have hne : a ≠ b := by rintro rfl; rw [ha] at hb; cases hb
  unfold cmp
  rw [if_neg hne, lea_sd a b k hk (by rw [ha, hb]; simp) hag, if_neg (by rw [ha]; simp)]
def Agree (a b : BitVec 256) (k : Nat) : Prop := ∀ i, i < k → a.getLsbD i = b.getLsbD i
theorem Agree.succ {a b : BitVec 256} {k : Nat} {r : Bool} (h : Agree a b k) (ha : a.getLsbD k = r) (hb : b.getLsbD k = r) : Agree a b (k + 1) := by
  intro i hi
  by_cases e : i = k
  · subst e; rw [ha, hb]
  · exact h i (by omega)
set_option maxHeartbeats 2000000 in
set_option maxRecDepth 20000 in
theorem rcmp_any (a b : BitVec 256) (w : World) :
    Calls Tryd.prog 36 #[sv a, sv b] w fun e w' => e = .returned (.int .i64 (cmp a b)) ∧ Below w.heap.size w w' := by
  obtain ⟨r, hr⟩ : ∃ r, cmp a b = r := ⟨_, rfl⟩
  have HR := Lib.hid hr
  rw [hr]
  clear hr
  have k1 := (Blk.new w (svs a) 25).alloc (.cells (svs b) 25)
  have k2 := Blk.new (w.alloc (.cells (svs a) 25)) (svs b) 25
  simp only [World.size_alloc] at k2
  have hbel : Below w.heap.size w ((w.alloc (.cells (svs a) 25)).alloc (.cells (svs b) 25)) := by (repeat' (first | (with_reducible exact Below.refl _ _) | (with_reducible assumption) | (with_reducible refine below_drewN ?_ _) | (with_reducible refine Below.alloc ?_ ?_ _) | (with_reducible refine Below.drew ?_) | (with_reducible refine Below.setCell ?_ ?_ _) | (with_reducible refine Below.trans ?_ (Below.mono (by with_reducible assumption) ?_)) | go_size))
  go_enter Tryd.func36, Tryd.ntmps36
  go_wp2_with fail
  go_loopw [5] (fun i wr => ∃ k : Nat, k ≤ 256 ∧ i = .int .i64 k ∧ Blk wr w.heap.size (svs a) 25 ∧ Blk wr (w.heap.size + 1) (svs b) 25 ∧ Agree a b k ∧ Below w.heap.size w wr) (fun i _ => 256 - (intOf i).toNat)
  case atStart => exact ⟨0, Nat.zero_le _, rfl, k1, k2, fun i hi => absurd hi (by omega), hbel⟩
  case round =>
    clear k1 k2 hbel
    obtain ⟨k, hk, rfl, k1, k2, hag, hbel⟩ := hrel
    obtain ⟨p0, p1, p2, p3⟩ := k1.cells4
    obtain ⟨q0, q1, q2, q3⟩ := k2.cells4
    by_cases hlt : k < 256
    · cases ha : a.getLsbD k with
      | true =>
        cases hb : b.getLsbD k with
        | true =>
          have HH := Lib.hid (And.intro ha (And.intro hb (hag.succ ha hb)))
          clear ha hb hag
          go_wp2_with fail
          refine (rhas_eq a k true _ hlt HH.out.1).mono ?_
          rintro e w9 ⟨rfl, hE⟩
          replace k1 := k1.ext hE
          replace k2 := k2.ext hE
          replace hbel := bel_call hbel hE
          clear hE p0 p1 p2 p3 q0 q1 q2 q3
          obtain ⟨p0, p1, p2, p3⟩ := k1.cells4
          obtain ⟨q0, q1, q2, q3⟩ := k2.cells4
          go_wp2_with fail
          refine (rhas_eq b k true _ hlt HH.out.2.1).mono ?_
          rintro e w9 ⟨rfl, hE⟩
          replace k1 := k1.ext hE
          replace k2 := k2.ext hE
          replace hbel := bel_call hbel hE
          clear hE p0 p1 p2 p3 q0 q1 q2 q3
          obtain ⟨p0, p1, p2, p3⟩ := k1.cells4
          obtain ⟨q0, q1, q2, q3⟩ := k2.cells4
          go_wp2_with fail
          refine (rhas_eq b k true _ hlt HH.out.2.1).mono ?_
          rintro e w9 ⟨rfl, hE⟩
          replace k1 := k1.ext hE
          replace k2 := k2.ext hE
          replace hbel := bel_call hbel hE
          clear hE p0 p1 p2 p3 q0 q1 q2 q3
          obtain ⟨p0, p1, p2, p3⟩ := k1.cells4
          obtain ⟨q0, q1, q2, q3⟩ := k2.cells4
          go_wp2_with fail
          refine (rhas_eq a k true _ hlt HH.out.1).mono ?_
          rintro e w9 ⟨rfl, hE⟩
          replace k1 := k1.ext hE
          replace k2 := k2.ext hE
          replace hbel := bel_call hbel hE
          clear hE p0 p1 p2 p3 q0 q1 q2 q3
          obtain ⟨p0, p1, p2, p3⟩ := k1.cells4
          obtain ⟨q0, q1, q2, q3⟩ := k2.cells4
          go_wp2
          go_roundw
          case rel => exact ⟨k + 1, by omega, by go_num, k1, k2, HH.out.2.2, hbel⟩
          case measure => simp [intOf]; omega
        | false =>
          obtain rfl : -1 = r := by rw [← HR.out]; exact (cmp_first a b k hlt ha hb hag).symm
          have HH := Lib.hid (And.intro ha hb)
          clear ha hb hag
          go_wp2_with fail
          refine (rhas_eq a k true _ hlt HH.out.1).mono ?_
          rintro e w9 ⟨rfl, hE⟩
          replace k1 := k1.ext hE
          replace k2 := k2.ext hE
          replace hbel := bel_call hbel hE
          clear hE p0 p1 p2 p3 q0 q1 q2 q3
          obtain ⟨p0, p1, p2, p3⟩ := k1.cells4
          obtain ⟨q0, q1, q2, q3⟩ := k2.cells4
          go_wp2_with fail
          refine (rhas_eq b k false _ hlt HH.out.2).mono ?_
          rintro e w9 ⟨rfl, hE⟩
          replace k1 := k1.ext hE
          replace k2 := k2.ext hE
          replace hbel := bel_call hbel hE
          clear hE p0 p1 p2 p3 q0 q1 q2 q3
          obtain ⟨p0, p1, p2, p3⟩ := k1.cells4
          obtain ⟨q0, q1, q2, q3⟩ := k2.cells4
          go_wp2
          go_ret
          exact ⟨rfl, hbel⟩
      | false =>
        cases hb : b.getLsbD k with
        | true =>
          obtain rfl : 1 = r := by rw [← HR.out]; exact (cmp_second a b k hlt ha hb hag).symm
          have HH := Lib.hid (And.intro ha hb)
          clear ha hb hag
          go_wp2_with fail
          refine (rhas_eq a k false _ hlt HH.out.1).mono ?_
          rintro e w9 ⟨rfl, hE⟩
          replace k1 := k1.ext hE
          replace k2 := k2.ext hE
          replace hbel := bel_call hbel hE
          clear hE p0 p1 p2 p3 q0 q1 q2 q3
          obtain ⟨p0, p1, p2, p3⟩ := k1.cells4
          obtain ⟨q0, q1, q2, q3⟩ := k2.cells4
          go_wp2_with fail
          refine (rhas_eq b k true _ hlt HH.out.2).mono ?_
          rintro e w9 ⟨rfl, hE⟩
          replace k1 := k1.ext hE
          replace k2 := k2.ext hE
          replace hbel := bel_call hbel hE
          clear hE p0 p1 p2 p3 q0 q1 q2 q3
          obtain ⟨p0, p1, p2, p3⟩ := k1.cells4
          obtain ⟨q0, q1, q2, q3⟩ := k2.cells4
          go_wp2_with fail
          refine (rhas_eq a k false _ hlt HH.out.1).mono ?_
          rintro e w9 ⟨rfl, hE⟩
          replace k1 := k1.ext hE
          replace k2 := k2.ext hE
          replace hbel := bel_call hbel hE
          clear hE p0 p1 p2 p3 q0 q1 q2 q3
          obtain ⟨p0, p1, p2, p3⟩ := k1.cells4
          obtain ⟨q0, q1, q2, q3⟩ := k2.cells4
          go_wp2
          go_ret
          exact ⟨rfl, hbel⟩
        | false =>
          have HH := Lib.hid (And.intro ha (And.intro hb (hag.succ ha hb)))
          clear ha hb hag
          go_wp2_with fail
          refine (rhas_eq a k false _ hlt HH.out.1).mono ?_
          rintro e w9 ⟨rfl, hE⟩
          replace k1 := k1.ext hE
          replace k2 := k2.ext hE
          replace hbel := bel_call hbel hE
          clear hE p0 p1 p2 p3 q0 q1 q2 q3
          obtain ⟨p0, p1, p2, p3⟩ := k1.cells4
          obtain ⟨q0, q1, q2, q3⟩ := k2.cells4
          go_wp2_with fail
          refine (rhas_eq b k false _ hlt HH.out.2.1).mono ?_
          rintro e w9 ⟨rfl, hE⟩
          replace k1 := k1.ext hE
          replace k2 := k2.ext hE
          replace hbel := bel_call hbel hE
          clear hE p0 p1 p2 p3 q0 q1 q2 q3
          obtain ⟨p0, p1, p2, p3⟩ := k1.cells4
          obtain ⟨q0, q1, q2, q3⟩ := k2.cells4
          go_wp2
          go_roundw
          case rel => exact ⟨k + 1, by omega, by go_num, k1, k2, HH.out.2.2, hbel⟩
          case measure => simp [intOf]; omega
    · obtain rfl : k = 256 := by omega
      obtain rfl : 0 = r := by
        have hab : a = b := BitVec.eq_of_getLsbD_eq fun i hi => hag i hi
        rw [← HR.out]
        unfold cmp
        rw [if_pos hab]
      clear hag
      go_wp2
      go_ret
      exact ⟨rfl, hbel⟩
theorem last_bit (s : BitVec 256) (j : Nat) (A : List (Nat × Nat)) (lo hi : Nat) (h : spansN (lstK s (j + 1)) = A ++ [(lo, hi)]) : (hi + 1 = j + 1) ↔ s.getLsbD j = true := by
  have inv := spansN_inv _ (lstK s (j + 1)) rfl (lstK_rise s (j + 1))
  rw [h] at inv
  have hm := (inv.mem hi).2 ⟨(lo, hi), by simp, inv.ok (lo, hi) (by simp), Nat.le_refl _⟩
  have hm2 := (lstK_mem s (j + 1) hi).1 hm
  constructor
  · intro e
    obtain rfl : hi = j := by omega
    exact hm2.2
  · intro hb
    have hj := (lstK_mem s (j + 1) j).2 ⟨by omega, hb⟩
    obtain ⟨p, hp, h1, h2⟩ := (inv.mem j).1 hj
    have := inv.top (lo, hi) (by simp) p hp
    simp only at this
    omega
set_option maxHeartbeats 2000000 in
set_option maxRecDepth 20000 in
theorem rspans_own (s : BitVec 256) (w : World) :
    Calls Tryd.prog 65 #[sv s] w fun e w' => ∃ v, e = .returned v ∧ w'.ownsRow w.heap.size 39 2 v (spn s).length (spc (spn s)) ∧ Below w.heap.size w w' := by
  obtain ⟨i0, hi0, hz0, hz1, hz2⟩ := info_parts info_span
  have k1 := Blk.new w (svs s) 25
  have hbel : Below w.heap.size w (w.alloc (.cells (svs s) 25)) := by (repeat' (first | (with_reducible exact Below.refl _ _) | (with_reducible assumption) | (with_reducible refine below_drewN ?_ _) | (with_reducible refine Below.alloc ?_ ?_ _) | (with_reducible refine Below.drew ?_) | (with_reducible refine Below.setCell ?_ ?_ _) | (with_reducible refine Below.trans ?_ (Below.mono (by with_reducible assumption) ?_)) | go_size))
  go_enter Tryd.func65, Tryd.ntmps65
  go_wp2_with fail
  go_loopw [3, 4] (fun l i wr => ∃ k : Nat, k ≤ 256 ∧ i = .int .i64 k ∧ Blk wr w.heap.size (svs s) 25 ∧ wr.ownsRow (w.heap.size + 1) 39 2 l (spansN (lstK s k)).length (spc (spansN (lstK s k))) ∧ (spansN (lstK s k) = [] → l = .slice none 0 0) ∧ Below w.heap.size w wr) (fun _ i _ => 256 - (intOf i).toNat)
  case atStart => exact ⟨0, Nat.zero_le _, rfl, k1, World.ownsRow_nil _ _ _ _, fun _ => rfl, hbel⟩
  case round =>
    clear k1 hbel
    obtain ⟨k, hk, rfl, k1, hown, hnil, hbel⟩ := hrel
    obtain ⟨p0, p1, p2, p3⟩ := k1.cells4
    by_cases hlt : k < 256
    · have hs := lstK_succ s k
      have hln := lstK_len s k
      have hsl := spansN_len (lstK s k)
      cases hb : s.getLsbD k with
      | false =>
        rw [hb, if_neg (by simp)] at hs
        have HH := Lib.hid (And.intro hs (And.intro hb hnil))
        clear hs hb hnil
        go_wp2_with fail
        refine (rhas_eq s k false _ hlt HH.out.2.1).mono ?_
        rintro e w9 ⟨rfl, hE⟩
        have k1' := k1.ext hE
        have hown' := own_below hown hE (Nat.le_refl _)
        have hbel' := bel_call hbel hE
        clear hE p0 p1 p2 p3 k1 hown hbel
        go_wp2
        go_roundw
        case rel => exact ⟨k + 1, by omega, by go_num, k1', by rw [HH.out.1]; exact hown', by rw [HH.out.1]; exact HH.out.2.2, hbel'⟩
        case measure => simp [intOf]; omega
      | true =>
        rw [hb, if_pos rfl] at hs
        have hst : spansN (lstK s (k + 1)) = sstep (spansN (lstK s k)) k := by rw [hs, spansN_snoc]
        rcases k with _ | j
        · obtain rfl := hnil rfl
          have HH := Lib.hid (And.intro hst hb)
          clear hs hst hb hnil hln hsl
          go_wp2_with fail
          refine (rhas_eq s 0 true _ hlt HH.out.2).mono ?_
          rintro e w9 ⟨rfl, hE⟩
          have k1' := k1.ext hE
          have hown' := Lib.hid (World.ownsRow_nil w9 (w.heap.size + 1) 39 2)
          have hbel' := bel_call hbel hE
          have hsz := k1'.lt
          clear hE p0 p1 p2 p3 k1 hown hbel
          go_wp2_with (at_builtin; refine wpList_append_own _ rfl (.tmp 29) (.tmp 35) 27 rfl (w.heap.size + 1) 39 i0 (.agg #[.int .u8 0, .int .u8 0]) 2 2 Tryd.underlying27 hi0 hz0 hz1 hz2 rfl (by decide) _ _ _ rfl (hown'.out.alloc _) ⟨w9.heap.size, 0, none⟩ 1 1 [_, _] rfl rfl (cells_two_new _ _ _ _) (by intro u hu; simp at hu; rcases hu with rfl | rfl <;> rfl) (by unfold maxLen; omega) (by omega) (by simp; omega) ?_; intro v1 w2 hown1 hgrow1 hnil1)
          go_roundw
          case rel =>
            refine ⟨1, by omega, rfl, (k1'.alloc _).grown hgrow1 (fun e => by cases e), ?_, ?_, (hbel'.alloc hbel'.size _).grown hgrow1 (by simp; omega) (fun j hj => by cases hj)⟩
            · rw [HH.out.1, show spansN (lstK s 0) = [] from rfl, sstep_nil]
              exact hown1
            · rw [HH.out.1, show spansN (lstK s 0) = [] from rfl, sstep_nil]
              intro h; cases h
          case measure => simp [intOf]
        · have hlb := last_bit s j
          have hempty : spansN (lstK s (j + 1)) = [] → s.getLsbD j = false := by
            intro h
            have h2 := spansN_ne _ h
            cases hj : s.getLsbD j with
            | false => rfl
            | true =>
              have := (lstK_mem s (j + 1) j).2 ⟨by omega, hj⟩
              rw [h2] at this; cases this
          generalize hS : spansN (lstK s (j + 1)) = S at *
          rcases nil_or_snoc S with rfl | ⟨A, ⟨lo, hi⟩, rfl⟩
          · obtain rfl := hnil rfl
            have hj := hempty rfl
            have HH := Lib.hid (And.intro hst (And.intro hb hj))
            clear hs hst hb hnil hln hsl hlb hempty hj hS
            go_wp2_with fail
            refine (rhas_eq s (j + 1) true _ hlt HH.out.2.1).mono ?_
            rintro e w9 ⟨rfl, hE⟩
            have k1' := k1.ext hE
            have hbel' := bel_call hbel hE
            clear hE p0 p1 p2 p3 k1 hown hbel
            obtain ⟨p0, p1, p2, p3⟩ := k1'.cells4
            go_wp2_with fail
            refine (rhas_eq s j false _ (by omega) HH.out.2.2).mono ?_
            rintro e w8 ⟨rfl, hE⟩
            replace k1' := k1'.ext hE
            replace hbel' := bel_call hbel' hE
            have hown' := Lib.hid (World.ownsRow_nil w8 (w.heap.size + 1) 39 2)
            have hsz := k1'.lt
            clear hE p0 p1 p2 p3
            go_wp2_with (at_builtin; refine wpList_append_own _ rfl (.tmp 29) (.tmp 35) 27 rfl (w.heap.size + 1) 39 i0 (.agg #[.int .u8 0, .int .u8 0]) 2 2 Tryd.underlying27 hi0 hz0 hz1 hz2 rfl (by decide) _ _ _ rfl (hown'.out.alloc _) ⟨w8.heap.size, 0, none⟩ 1 1 [_, _] rfl rfl (cells_two_new _ _ _ _) (by intro u hu; simp at hu; rcases hu with rfl | rfl <;> rfl) (by unfold maxLen; omega) (by omega) (by simp; omega) ?_; intro v1 w2 hown1 hgrow1 hnil1)
            go_roundw
            case rel =>
              refine ⟨j + 1 + 1, by omega, by go_num, (k1'.alloc _).grown hgrow1 (fun e => by cases e), ?_, ?_, (hbel'.alloc hbel'.size _).grown hgrow1 (by simp; omega) (fun j hj => by cases hj)⟩
              · rw [HH.out.1, sstep_nil]
                exact hown1
              · rw [HH.out.1, sstep_nil]
                intro h; cases h
            case measure => simp [intOf]; omega
          · have hlb' := hlb A lo hi rfl
            have hlen : (A ++ [(lo, hi)]).length = A.length + 1 := by simp
            rw [hlen] at hown hsl
            obtain ⟨g, cap, rfl, hg1, hg2, hcap1, hcap2⟩ := own_some hown (by omega)
            by_cases e : hi + 1 = j + 1
            · have hj := hlb'.1 e
              rw [sstep_grow _ _ _ _ e] at hst
              have HH := Lib.hid (And.intro hst (And.intro hb hj))
              clear hs hst hb hnil hlb hlb' hempty hj hS e
              go_wp2_with fail
              refine (rhas_eq s (j + 1) true _ hlt HH.out.2.1).mono ?_
              rintro e w9 ⟨rfl, hE⟩
              have k1' := k1.ext hE
              have hbel' := bel_call hbel hE
              have hown' := Lib.hid (own_below hown hE (Nat.le_refl _))
              clear hE p0 p1 p2 p3 k1 hown hbel
              obtain ⟨p0, p1, p2, p3⟩ := k1'.cells4
              go_wp2_with fail
              refine (rhas_eq s j true _ (by omega) HH.out.2.2).mono ?_
              rintro e w8 ⟨rfl, hE⟩
              replace k1' := k1'.ext hE
              replace hbel' := bel_call hbel' hE
              replace hown' := Lib.hid (own_below hown'.out hE (Nat.le_refl _))
              have hc : w8.cell? ⟨g, A.length * 2 + 1, none⟩ = some (nb hi) := by rw [hown'.out.cellAt _ (by omega)]; exact (spc_last A lo hi).2
              have hfrz : w8.frozen? ⟨g, A.length * 2 + 1, none⟩ = false := hown'.out.frozenAt _
              clear hE p0 p1 p2 p3
              go_wp2
              go_roundw
              case rel =>
                obtain ⟨s1, s2⟩ := hown'.out.stored (A.length * 2 + 1) (.int .u8 ((j : Int) + 1))
                have e5 : nb (j + 1) = .int .u8 ((j : Int) + 1) := rfl
                refine ⟨j + 1 + 1, by omega, by go_num, k1'.set_other (by simp; omega) _, ?_, ?_, hbel'.setCell (by simp; omega) _⟩
                · rw [HH.out.1, ← spc_set A lo hi (j + 1), e5, show (A ++ [(lo, j + 1)]).length = A.length + 1 by simp]
                  exact s1
                · rw [HH.out.1]
                  intro h; simp at h
              case measure => simp [intOf]; omega
            · have hj : s.getLsbD j = false := by
                cases hj : s.getLsbD j with
                | false => rfl
                | true => exact absurd (hlb'.2 hj) e
              rw [sstep_new _ _ _ _ e] at hst
              have HH := Lib.hid (And.intro hst (And.intro hb hj))
              clear hs hst hb hnil hlb hlb' hempty hj hS e
              go_wp2_with fail
              refine (rhas_eq s (j + 1) true _ hlt HH.out.2.1).mono ?_
              rintro e w9 ⟨rfl, hE⟩
              have k1' := k1.ext hE
              have hbel' := bel_call hbel hE
              have hown' := Lib.hid (own_below hown hE (Nat.le_refl _))
              clear hE p0 p1 p2 p3 k1 hown hbel
              obtain ⟨p0, p1, p2, p3⟩ := k1'.cells4
              go_wp2_with fail
              refine (rhas_eq s j false _ (by omega) HH.out.2.2).mono ?_
              rintro e w8 ⟨rfl, hE⟩
              replace k1' := k1'.ext hE
              replace hbel' := bel_call hbel' hE
              replace hown' := Lib.hid (own_below hown'.out hE (Nat.le_refl _))
              have hsz := k1'.lt
              clear hE p0 p1 p2 p3
              go_wp2_with (at_builtin; refine wpList_append_own _ rfl (.tmp 29) (.tmp 35) 27 rfl (w.heap.size + 1) 39 i0 (.agg #[.int .u8 0, .int .u8 0]) 2 2 Tryd.underlying27 hi0 hz0 hz1 hz2 rfl (by decide) _ _ _ rfl (hown'.out.alloc _) ⟨w8.heap.size, 0, none⟩ 1 1 [_, _] rfl rfl (cells_two_new _ _ _ _) (by intro u hu; simp at hu; rcases hu with rfl | rfl <;> rfl) (by unfold maxLen; omega) (by omega) (by simp; omega) ?_; intro v1 w2 hown1 hgrow1 hnil1)
              go_roundw
              case rel =>
                refine ⟨j + 1 + 1, by omega, by go_num, (k1'.alloc _).grown hgrow1 (fun e => by have := (hown'.out.lt _ e).1; omega), ?_, ?_, (hbel'.alloc hbel'.size _).grown hgrow1 (by simp; omega) (fun j hj => Nat.le_of_succ_le (hown'.out.lt j hj).1)⟩
                · have e3 : (A ++ [(lo, hi)] ++ [(j + 1, j + 1)]).length = A.length + 1 + 1 := by simp
                  rw [HH.out.1, spc_append, e3]
                  exact hown1
                · rw [HH.out.1]
                  intro h; simp at h
              case measure => simp [intOf]; omega
    · obtain rfl : k = 256 := by omega
      go_wp2
      go_ret
      exact ⟨_, rfl, own_base hown (by omega), hbel⟩
end Go.Proofs.YtkhmkcaocacfhaaDoor
