/- Lists of bytes that are lent, looked at, and written over. -/
import Derived.Test.YtkhmkcaocacfhaaDoorKit
namespace Go.Proofs.YtkhmkcaocacfhaaDoor
open Go Go.RowKit
abbrev mark (k : Nat) : List Value := List.replicate k (.int .u8 165)
theorem mark_succ (k : Nat) : mark (k + 1) = mark k ++ [.int .u8 165] := List.replicate_succ'
theorem ubs_one (l : List UInt8) : ∀ u ∈ l.map ub, u.oneCell' = true := by
  intro u hu
  obtain ⟨_, _, rfl⟩ := List.mem_map.1 hu
  rfl
/-- What is lent: the bytes, and seven marks in the room behind them. -/
def Lent (w : World) (base : Nat) (v : Value) (l : List UInt8) : Prop :=
  ∃ g, v = .slice (some ⟨g, 0, none⟩) l.length (l.length + 7) ∧ w.ownsRow base 5 1 (.slice (some ⟨g, 0, none⟩) (l.length + 7) (l.length + 7)) (l.length + 7) (l.map ub ++ mark 7)
theorem lend_cells {w wm : World} {b o : Nat} {l : List UInt8} (h : ∀ i, i < l.length → w.cell? ⟨b, o + i, none⟩ = some (ub (nth l i))) (hg : w.grownBy wm none) : ∀ j u, (l.map ub)[j]? = some u → wm.cell? ((⟨b, o, none⟩ : Addr).add j) = some u := by
  intro j u hu
  have hadd : (⟨b, o, none⟩ : Addr).add j = ⟨b, o + j, none⟩ := by unfold Addr.add; split <;> simp_all
  have hj : j < l.length := by have := (List.getElem?_eq_some_iff.1 hu).1; simpa using this
  rw [List.getElem?_map, List.getElem?_eq_getElem hj] at hu
  simp only [Option.map_some, Option.some.injEq] at hu
  rw [hadd, ← hu, ← nth_eq hj]
  exact hg.cell (h j hj) (by simp)
set_option maxHeartbeats 1000000 in
set_option maxRecDepth 20000 in
theorem lend_any (v : Value) (l : List UInt8) (w : World) (hv : Bytes w v l) (hn : ∀ n c, v = .slice none n c → c = 0) :
    Calls Tryd.prog 14 #[v] w fun e w' => ∃ v', e = .returned v' ∧ Lent w' w.heap.size v' l ∧ Below w.heap.size w w' := by
  obtain ⟨i0, hi0, hz0, hz1, hz2⟩ := info_parts info_u8
  obtain ⟨hlen, ⟨rfl, a, cap, rfl⟩ | ⟨b, o, cap, rfl, hcap, hcap2, hpos, hb, hcells⟩⟩ := hv.open
  · have hn' : a = none → (0 : Nat) = 0 ∧ cap = 0 := by rintro rfl; exact ⟨rfl, hn 0 cap rfl⟩
    have HN := Lib.hid hn'
    clear hn hn' hv
    go_enter Tryd.func14, Tryd.ntmps14
    go_wp2_with (first
      | (at_make; refine wpList_make_own _ rfl _ _ 26 rfl w.heap.size 5 i0 (.int .u8 0) 1 Tryd.underlying26 hi0 hz0 hz1 .i64 .i64 _ 7 rfl rfl rfl (by rw [hz2]; omega) (by unfold maxLen; omega) (Nat.le_refl _) ?_; intro wm hown hgm)
      | (at_builtin; refine wpList_append_fits_any _ rfl (.tmp 9) (.tmp 10) 26 rfl w.heap.size 5 i0 1 Tryd.underlying26 hi0 hz1 w.heap.size 0 7 [] rfl hown a 0 cap [] rfl rfl HN.out (by intro ad _ j u hu; simp at hu) (by intro u hu; cases hu) (by omega) ?_; intro w2 hown2 hgrow2))
    have hbm : Below w.heap.size w wm := (Below.refl _ _).grown hgm (Nat.le_refl _) (by simp)
    have hb2 : Below w.heap.size w w2 := hbm.grown hgrow2 hbm.size (fun j hj => by cases hj; exact Nat.le_refl _)
    clear hown hgm hbm hgrow2
    go_loopw [3, 4] (fun x i wr => ∃ k : Nat, k ≤ 7 ∧ i = .int .i64 k ∧ x = .slice (some ⟨w.heap.size, 0, none⟩) (k) (7) ∧ wr.ownsRow w.heap.size 5 1 (.slice (some ⟨w.heap.size, 0, none⟩) (k) (7)) (k) (mark k) ∧ Below w.heap.size w wr) (fun _ i _ => 7 - (intOf i).toNat)
    case atStart => exact ⟨0, Nat.zero_le _, rfl, by simp, by simpa [mark] using hown2, hb2⟩
    case round =>
      clear hown2 hb2
      obtain ⟨k, hk, rfl, rfl, hown, hbel⟩ := hrel
      have hsz := hbel.size
      have hzz := (hown.lt _ rfl).2
      by_cases hlt : k < 7
      · have HO := Lib.hid hown
        clear hown
        go_wp2_with (at_builtin; refine wpList_append_fits _ rfl (.tmp 16) (.tmp 17) 26 rfl w.heap.size 5 i0 1 Tryd.underlying26 hi0 hz1 w.heap.size (k) (7) _ rfl (HO.out.alloc _) ⟨wr.heap.size, 0, none⟩ 1 1 [_] rfl rfl (cell_one_new _ _ _) (by intro u hu; simp at hu; subst hu; rfl) (by omega) ?_; intro w5 hown5 hgrow5)
        go_roundw
        case rel =>
          refine ⟨k + 1, by omega, by go_num, rfl, ?_, (hbel.alloc hsz _).grown hgrow5 (by simp; omega) (fun j hj => by cases hj; exact Nat.le_refl _)⟩
          rw [mark_succ]
          exact hown5
        case measure => simp [intOf]; omega
      · obtain rfl : k = 7 := by omega
        go_wp2
        go_ret
        exact ⟨_, rfl, ⟨w.heap.size, rfl, hown⟩, hbel⟩
  · have HC := Lib.hid hcells
    clear hcells hn
    unfold maxLen at hcap2
    go_enter Tryd.func14, Tryd.ntmps14
    go_wp2_with (first
      | (at_make; refine wpList_make_own _ rfl _ _ 26 rfl w.heap.size 5 i0 (.int .u8 0) 1 Tryd.underlying26 hi0 hz0 hz1 .i64 .i64 _ (l.length + 7) rfl rfl (by omega) (by rw [hz2]; omega) (by unfold maxLen; omega) (Nat.le_refl _) ?_; intro wm hown hgm)
      | (at_builtin; refine wpList_append_fits _ rfl (.tmp 9) (.tmp 10) 26 rfl w.heap.size 5 i0 1 Tryd.underlying26 hi0 hz1 w.heap.size 0 (l.length + 7) [] rfl hown ⟨b, o, none⟩ l.length cap (l.map ub) rfl (by simp) (lend_cells HC.out hgm) (ubs_one l) (by omega) ?_; intro w2 hown2 hgrow2))
    have hbm : Below w.heap.size w wm := (Below.refl _ _).grown hgm (Nat.le_refl _) (by simp)
    have hb2 : Below w.heap.size w w2 := hbm.grown hgrow2 hbm.size (fun j hj => by cases hj; exact Nat.le_refl _)
    simp only [Nat.zero_add, List.nil_append] at hown2
    clear hown hgm hbm hgrow2
    go_loopw [3, 4] (fun x i wr => ∃ k : Nat, k ≤ 7 ∧ i = .int .i64 k ∧ x = .slice (some ⟨w.heap.size, 0, none⟩) (l.length + k) (l.length + 7) ∧ wr.ownsRow w.heap.size 5 1 (.slice (some ⟨w.heap.size, 0, none⟩) (l.length + k) (l.length + 7)) (l.length + k) (l.map ub ++ mark k) ∧ Below w.heap.size w wr) (fun _ i _ => 7 - (intOf i).toNat)
    case atStart => exact ⟨0, Nat.zero_le _, rfl, by simp, by simpa [mark] using hown2, hb2⟩
    case round =>
      clear hown2 hb2
      obtain ⟨k, hk, rfl, rfl, hown, hbel⟩ := hrel
      have hsz := hbel.size
      have hzz := (hown.lt _ rfl).2
      by_cases hlt : k < 7
      · have HO := Lib.hid hown
        clear hown
        go_wp2_with (at_builtin; refine wpList_append_fits _ rfl (.tmp 16) (.tmp 17) 26 rfl w.heap.size 5 i0 1 Tryd.underlying26 hi0 hz1 w.heap.size (l.length + k) (l.length + 7) _ rfl (HO.out.alloc _) ⟨wr.heap.size, 0, none⟩ 1 1 [_] rfl rfl (cell_one_new _ _ _) (by intro u hu; simp at hu; subst hu; rfl) (by omega) ?_; intro w5 hown5 hgrow5)
        go_roundw
        case rel =>
          refine ⟨k + 1, by omega, by go_num, rfl, ?_, (hbel.alloc hsz _).grown hgrow5 (by simp; omega) (fun j hj => by cases hj; exact Nat.le_refl _)⟩
          rw [mark_succ, ← List.append_assoc]
          exact hown5
        case measure => simp [intOf]; omega
      · obtain rfl : k = 7 := by omega
        go_wp2
        go_ret
        exact ⟨_, rfl, ⟨w.heap.size, rfl, hown⟩, hbel⟩
end Go.Proofs.YtkhmkcaocacfhaaDoor
