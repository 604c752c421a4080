/- A set's spans, as package byteset lists them. -/
import Derived.Test.YtecjodcaeldidaaGreatDoorSpn
import Derived.Test.YtecjodcaeldidaaGreatDoorList
import Derived.Test.YtecjodcaeldidaaGreatDoorByteset3
namespace Go.Proofs.YtecjodcaeldidaaGreatDoor
open Go Go.RowKit
theorem info_span : (Tryz.prog.info? 110).map (fun i => (i.zero, i.size, i.bytes)) = some (some (.agg #[.int .u8 0, .int .u8 0]), 2, 2) := by kernel_rfl
theorem own_base {w : World} {b b' e sz n : Nat} {v : Value} {xs : List Value} (h : w.ownsRow b e sz v n xs) (hb : b' ≤ b) : w.ownsRow b' e sz v n xs := by
  obtain ⟨h1, h2 | ⟨g, cap, cur, hv, hg, rest⟩⟩ := h
  · exact ⟨h1, .inl h2⟩
  · exact ⟨h1, .inr ⟨g, cap, cur, hv, Nat.le_trans hb hg, rest⟩⟩
theorem own_below {w w' : World} {b e sz n B : Nat} {v : Value} {xs : List Value} (h : w.ownsRow b e sz v n xs) (hb : Below B w w') (hB : w.heap.size ≤ B) : w'.ownsRow b e sz v n xs := by
  obtain ⟨h1, h2 | ⟨g, cap, cur, hv, hg, hh, rest⟩⟩ := h
  · exact ⟨h1, .inl h2⟩
  · exact ⟨h1, .inr ⟨g, cap, cur, hv, hg, by rw [hb.block g (Nat.lt_of_lt_of_le (Array.getElem?_eq_some_iff.1 hh).1 hB)]; exact hh, rest⟩⟩
theorem own_nil {w : World} {b e sz : Nat} {v : Value} {xs : List Value} (h : w.ownsRow b e sz v 0 xs) : xs = [] := List.eq_nil_of_length_eq_zero (by have := h.1; omega)
theorem own_some {w : World} {b e sz n : Nat} {v : Value} {xs : List Value} (h : w.ownsRow b e sz v n xs) (hn : 0 < n) : ∃ g cap, v = .slice (some ⟨g, 0, none⟩) n cap ∧ b ≤ g ∧ g < w.heap.size ∧ n ≤ cap ∧ cap ≤ maxLen := by
  obtain ⟨_, ⟨_, h2⟩ | ⟨g, cap, cur, hv, hg, hh, h3, h4, _⟩⟩ := h
  · omega
  · exact ⟨g, cap, hv, hg, (Array.getElem?_eq_some_iff.1 hh).1, h3, h4⟩
theorem cells_two_new (w : World) (x y : Value) (t : TypeId) : ∀ (j : Nat) u, [x, y][j]? = some u → (w.alloc (.cells #[x, y] t)).cell? ((⟨w.heap.size, 0, none⟩ : Addr).add j) = some u := by
  intro j u hu
  have hadd : (⟨w.heap.size, 0, none⟩ : Addr).add j = ⟨w.heap.size, j, none⟩ := by unfold Addr.add; split <;> simp_all
  rw [hadd, (Blk.new w #[x, y] t).cell j]
  simpa using hu
theorem spansN_ne (L : List Nat) (h : spansN L = []) : L = [] := by
  rcases nil_or_snoc L with rfl | ⟨A, b, rfl⟩
  · rfl
  · exfalso
    rw [spansN_snoc] at h
    rcases nil_or_snoc (spansN A) with e | ⟨B, ⟨lo, hi⟩, e⟩ <;> rw [e] at h
    · simp [sstep_nil] at h
    · by_cases c : hi + 1 = b
      · rw [sstep_grow _ _ _ _ c] at h; simp at h
      · rw [sstep_new _ _ _ _ c] at h; simp at h
theorem spansN_all (P : Nat → Prop) : ∀ (n : Nat) (L : List Nat), L.length = n → (∀ x ∈ L, P x) → ∀ p ∈ spansN L, P p.1 ∧ P p.2
  | 0, L, hn, _, p, hp => by
    have := List.length_eq_zero_iff.1 hn
    subst this
    simp [spansN] at hp
  | n + 1, L, hn, h, p, hp => by
    rcases nil_or_snoc L with rfl | ⟨A, b, rfl⟩
    · simp at hn
    · have ih := spansN_all P n A (by simpa using hn) fun x hx => h x (by simp [hx])
      have hb := h b (by simp)
      rw [spansN_snoc] at hp
      rcases nil_or_snoc (spansN A) with e | ⟨B, ⟨lo, hi⟩, e⟩ <;> rw [e] at hp ih
      · rw [sstep_nil] at hp
        simp at hp; subst hp; exact ⟨hb, hb⟩
      · have hl := ih (lo, hi) (by simp)
        by_cases c : hi + 1 = b
        · rw [sstep_grow _ _ _ _ c] at hp
          rcases List.mem_append.1 hp with hp | hp
          · exact ih p (by simp [hp])
          · simp at hp; subst hp; exact ⟨hl.1, hb⟩
        · rw [sstep_new _ _ _ _ c] at hp
          rcases List.mem_append.1 hp with hp | hp
          · exact ih p hp
          · simp at hp; subst hp; exact ⟨hb, hb⟩
set_option maxHeartbeats 1000000 in
theorem spans_own (s : BitVec 256) (w : World) (hT : Tab w) :
    Calls Tryz.prog 53 #[sv s] w fun e w' => ∃ v, e = .returned v ∧ w'.ownsRow w.heap.size 110 2 v (spn s).length (spc (spn s)) ∧ Below w.heap.size w w' := by
  obtain ⟨i0, hi, hz0, hz1, hz2⟩ := info_parts info_span
  have hT1 := Lib.hid (hT.ext (Below.alloc (Below.refl _ _) (Nat.le_refl _) (.cells (svs s) 27)))
  clear hT
  obtain ⟨L, hL⟩ : ∃ L, lstN s 4 = L := ⟨_, rfl⟩
  have hLlt : ∀ x ∈ L, x < 256 := fun x hx => by have := lstN_lt s 4 x (by rw [hL]; exact hx); omega
  have hLlen : L.length ≤ 256 := by have := lstN_len s 4; rw [hL] at this; exact this
  have HL := Lib.hid (And.intro hL hLlt)
  clear hL hLlt
  go_enter Tryz.func53, Tryz.ntmps53
  go_wp2_with fail
  refine (list_own s _ hT1.out).mono ?_
  rintro e w1 ⟨v, rfl, hown, hb1⟩
  rw [HL.out.1] at hown
  have hB : Below w.heap.size w w1 := (Below.alloc (Below.refl _ _) (Nat.le_refl _) _).trans (hb1.mono (by simp))
  clear hb1
  by_cases h0 : L.length = 0
  · have hLn : L = [] := List.length_eq_zero_iff.1 h0
    have hv : ∃ ao cap, v = .slice ao 0 cap := by
      rw [hLn] at hown
      obtain ⟨_, ⟨h, _⟩ | ⟨g, cap, cur, h, _⟩⟩ := hown
      · exact ⟨none, 0, h⟩
      · exact ⟨_, cap, h⟩
    obtain ⟨ao, cap, rfl⟩ := hv
    have hsp : spn s = [] := by unfold spn; rw [HL.out.1, hLn]; rfl
    have HS := Lib.hid hsp
    clear hsp hown hLn h0
    go_wp2
    refine wp_loop_rounds 1 ?_
    rw [rounds_succ]
    go_wp2
    go_ret
    refine ⟨_, rfl, ?_, by (repeat' (first | (with_reducible exact Below.refl _ _) | (with_reducible assumption) | (with_reducible refine below_drewN ?_ _) | (with_reducible refine Below.alloc ?_ ?_ _) | (with_reducible refine Below.drew ?_) | (with_reducible refine Below.setCell ?_ ?_ _) | (with_reducible refine Below.trans ?_ (Below.mono (by with_reducible assumption) ?_)) | go_size))⟩
    rw [HS.out]
    exact World.ownsRow_nil _ _ _ _
  · obtain ⟨gl, cl, rfl, hgl, hgl2, hcl1, hcl2⟩ := own_some hown (by omega)
    have HO := Lib.hid hown
    have hw1 := hB.size
    clear hown
    go_wp2_with fail
    go_loopw [3, 10] (fun v3 i wr => ∃ k : Nat, k ≤ L.length ∧ i = .int .i64 k ∧ wr.ownsRow w1.heap.size 110 2 v3 (spansN (L.take k)).length (spc (spansN (L.take k))) ∧ (k = 0 → v3 = .slice none 0 0) ∧ Below w1.heap.size w1 wr) (fun _ i _ => L.length - (intOf i).toNat)
    case atStart => exact ⟨0, Nat.zero_le _, rfl, World.ownsRow_nil _ _ _ _, fun _ => rfl, Below.refl _ _⟩
    case round =>
      obtain ⟨k, hk, rfl, hown, hnil, hbel⟩ := hrel
      by_cases hlt : k < L.length
      · obtain ⟨x, hx⟩ : ∃ x, L[k] = x := ⟨_, rfl⟩
        have hx255 : x ≤ 255 := by have := HL.out.2 L[k] (List.getElem_mem hlt); omega
        have hsrc : wr.cell? ⟨gl, k, none⟩ = some (nb x) := by
          rw [hbel.cell (p := ⟨gl, k, none⟩) hgl2, HO.out.cellAt k (by omega), List.getElem?_map, List.getElem?_eq_getElem hlt, hx]; rfl
        have hst := spansN_take L k hlt
        have hcount := spansN_len (L.take k)
        have hcount2 : (L.take k).length ≤ 256 := by have := List.length_take_le k L; omega
        rw [hx] at hst
        have hne := spansN_ne (L.take k)
        generalize hS : spansN (L.take k) = S at *
        have hsz := hbel.size
        rcases nil_or_snoc S with rfl | ⟨A, ⟨lo, hi'⟩, rfl⟩
        · obtain rfl : k = 0 := by
            have h1 : (L.take k).length = 0 := by rw [hne rfl]; rfl
            rw [List.length_take] at h1; omega
          obtain rfl := hnil rfl
          have HT := Lib.hid hst
          have hown0 := Lib.hid hown
          clear hst hne hnil hS hx hown
          go_wp2_with (at_builtin; refine wpList_append_own _ rfl (.tmp 36) (.tmp 40) 107 rfl w1.heap.size 110 i0 (.agg #[.int .u8 0, .int .u8 0]) 2 2 Tryz.underlying107 hi hz0 hz1 hz2 rfl (by decide) _ _ _ rfl (hown0.out.alloc _) ⟨wr.heap.size, 0, none⟩ 1 1 [_, _] rfl rfl (cells_two_new _ _ _ _) (by intro u hu; simp at hu; rcases hu with rfl | rfl <;> rfl) (by simp [maxLen]) (by simp) (by simp; omega) ?_; intro v1 w2 hown1 hgrow1 hnil1)
          go_roundw
          case rel => 
            refine ⟨1, by omega, rfl, ?_, (fun h => absurd h (by omega)), (hbel.alloc hsz _).grown hgrow1 (by simp; omega) (fun j hj => by cases hj)⟩
            have e := HT.out
            rw [sstep_nil] at e
            rw [e]; exact hown1
          case measure => simp [intOf]; omega
        · have hlen : (A ++ [(lo, hi')]).length = A.length + 1 := by simp
          rw [hlen] at hown hcount
          obtain ⟨g, cap, rfl, hg1, hg2, hcap1, hcap2⟩ := own_some hown (by omega)
          have hhi : hi' ≤ 255 := by
            have := (spansN_all (· < 256) _ (L.take k) rfl (fun y hy => HL.out.2 y (List.mem_of_mem_take hy)) (lo, hi') (by rw [hS]; simp)).2
            omega
          have hlast : wr.cell? ⟨g, A.length * 2 + 1, none⟩ = some (nb hi') := by rw [hown.cellAt _ (by omega)]; exact (spc_last A lo hi').2
          have hfrz : wr.frozen? ⟨g, A.length * 2 + 1, none⟩ = false := hown.frozenAt _
          have HO2 := Lib.hid hown
          clear hown hne hnil hS hx
          by_cases e : hi' + 1 = x
          · have ht : ((hi' : Int) + 1 == (x : Int)) = true := by simp only [beq_iff_eq]; omega
            rw [sstep_grow _ _ _ _ e] at hst
            have HT := Lib.hid hst
            clear hst e
            go_wp2
            go_roundw
            case rel =>
              obtain ⟨s1, s2⟩ := HO2.out.stored (A.length * 2 + 1) (nb x)
              refine ⟨k + 1, by omega, by go_num, ?_, (fun h => absurd h (by omega)), hbel.setCell (by simpa using hg1) _⟩
              rw [HT.out, ← spc_set A lo hi' x]
              simpa using s1
            case measure => simp [intOf]; omega
          · have ht : ((hi' : Int) + 1 == (x : Int)) = false := by simp only [beq_eq_false_iff_ne, ne_eq]; omega
            rw [sstep_new _ _ _ _ e] at hst
            have HT := Lib.hid hst
            clear hst e
            go_wp2_with (at_builtin; refine wpList_append_own _ rfl (.tmp 36) (.tmp 40) 107 rfl w1.heap.size 110 i0 (.agg #[.int .u8 0, .int .u8 0]) 2 2 Tryz.underlying107 hi hz0 hz1 hz2 rfl (by decide) _ _ _ rfl (HO2.out.alloc _) ⟨wr.heap.size, 0, none⟩ 1 1 [_, _] rfl rfl (cells_two_new _ _ _ _) (by intro u hu; simp at hu; rcases hu with rfl | rfl <;> rfl) (by unfold maxLen; omega) (by omega) (by simp; omega) ?_; intro v1 w2 hown1 hgrow1 hnil1)
            go_roundw
            case rel =>
              refine ⟨k + 1, by omega, by go_num, ?_, (fun h => absurd h (by omega)), (hbel.alloc hsz _).grown hgrow1 (by simp; omega) (fun j hj => by cases hj; exact hg1)⟩
              have e3 : (A ++ [(lo, hi')] ++ [(x, x)]).length = A.length + 1 + 1 := by simp
              rw [HT.out, spc_append, e3]
              exact hown1
            case measure => simp [intOf]; omega
      · obtain rfl : k = L.length := by omega
        go_wp2
        go_ret
        refine ⟨_, rfl, ?_, by (repeat' (first | (with_reducible exact Below.refl _ _) | (with_reducible assumption) | (with_reducible refine below_drewN ?_ _) | (with_reducible refine Below.alloc ?_ ?_ _) | (with_reducible refine Below.drew ?_) | (with_reducible refine Below.setCell ?_ ?_ _) | (with_reducible refine Below.trans ?_ (Below.mono (by with_reducible assumption) ?_)) | go_size))⟩
        rw [List.take_length] at hown
        unfold spn
        rw [HL.out.1]
        exact own_base hown hw1
end Go.Proofs.YtecjodcaeldidaaGreatDoor
