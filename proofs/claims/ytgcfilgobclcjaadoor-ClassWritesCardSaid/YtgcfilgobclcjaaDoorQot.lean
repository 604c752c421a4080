/- Quote: a text's one quoted text. -/
import Derived.Test.YtgcfilgobclcjaaDoorSpl
namespace Go.Proofs.YtgcfilgobclcjaaDoor
open Go Go.RowKit
theorem own_new1 (w : World) (x : Value) : (w.alloc (.cells #[x] 5)).ownsRow w.heap.size 5 1 (.slice (some ⟨w.heap.size, 0, none⟩) 1 1) 1 [x] := by
  refine ⟨rfl, .inr ⟨w.heap.size, 1, #[x], rfl, Nat.le_refl _, ?_, Nat.le_refl _, by unfold maxLen; omega, rfl, rfl⟩⟩
  exact Blk.new w #[x] 5
theorem grown_chain {w w1 w2 : World} {g g1 : Nat} (h1 : w.grownBy w1 (some g)) (hw : g1 = g ∨ w.heap.size ≤ g1) (h2 : w1.grownBy w2 (some g1)) : w.grownBy w2 (some g) := by
  refine ⟨h2.os.trans h1.os, h2.tape.trans h1.tape, h2.output.trans h1.output, Nat.le_trans h1.size h2.size, fun k hk hne => (h2.block k (Nat.lt_of_lt_of_le hk h1.size) (fun e => ?_)).trans (h1.block k hk hne)⟩
  have e1 : k = g1 := Option.some.inj e
  rcases hw with h | h
  · exact hne (by rw [e1, h])
  · omega
theorem own_lt {w : World} {b e sz n g cap : Nat} {xs : List Value} (h : w.ownsRow b e sz (.slice (some ⟨g, 0, none⟩) n cap) n xs) : b ≤ g ∧ g < w.heap.size := h.lt g rfl
theorem spl_le4 (p : UInt8) (m : List UInt8) (b : UInt8) : (spl p m b).length ≤ 4 := by
  unfold spl
  repeat' split
  all_goals simp
theorem flat_le4 (p : UInt8) (m : List UInt8) : ∀ l : List UInt8, (l.flatMap (spl p m)).length ≤ 4 * l.length
  | [] => by simp
  | b :: l => by
    have h1 := spl_le4 p m b
    have h2 := flat_le4 p m l
    rw [List.flatMap_cons, List.length_append, List.length_cons]
    omega
theorem take_flat (f : UInt8 → List UInt8) (l : List UInt8) (k : Nat) (h : k < l.length) : (l.take (k + 1)).flatMap f = (l.take k).flatMap f ++ f l[k] := by
  rw [List.take_succ_eq_append_getElem h, List.flatMap_append]
  simp
set_option maxHeartbeats 1000000 in
set_option maxRecDepth 20000 in
theorem quote_any (s : ByteArray) (hs : s.size ≤ 100000000) (w : World) :
    Calls Tryd.prog 9 #[.string s] w fun e w' => e = .returned (.string ⟨(qot s.data.toList).toArray⟩) ∧ Below w.heap.size w w' := by
  obtain ⟨i0, hi, hz0, hz1, hz2⟩ := info_parts info_u8
  have hsl : s.data.toList.length = s.size := by rw [Array.length_toList]; rfl
  have hn1 := own_new1 w (.int .u8 34)
  have hb1 : Below w.heap.size w (w.alloc (.cells #[.int .u8 34] 5)) := by go_grown
  have HN := Lib.hid (And.intro hn1 hb1)
  clear hn1 hb1
  go_enter Tryd.func9, Tryd.ntmps9
  go_wp2_with fail
  go_loopw [3, 8] (fun v i wr => ∃ (k g cap : Nat), k ≤ s.size ∧ i = .int .i64 k ∧ v = .slice (some ⟨g, 0, none⟩) (34 :: (s.data.toList.take k).flatMap (spl 32 qmarks)).length cap ∧ Hid (wr.ownsRow w.heap.size 5 1 (.slice (some ⟨g, 0, none⟩) (34 :: (s.data.toList.take k).flatMap (spl 32 qmarks)).length cap) (34 :: (s.data.toList.take k).flatMap (spl 32 qmarks)).length ((34 :: (s.data.toList.take k).flatMap (spl 32 qmarks)).map ub)) ∧ Hid (Below w.heap.size w wr)) (fun _ i _ => s.size - (intOf i).toNat)
  case atStart => exact ⟨0, w.heap.size, 1, Nat.zero_le _, rfl, rfl, Lib.hid HN.out.1, Lib.hid HN.out.2⟩
  case round =>
    clear HN
    obtain ⟨k, g, cap, hk, rfl, rfl, hown, hbel⟩ := hrel
    have hlen := flat_le4 32 qmarks (s.data.toList.take k)
    rw [List.length_take, hsl] at hlen
    obtain ⟨L, hL⟩ : ∃ L, 34 :: (s.data.toList.take k).flatMap (spl 32 qmarks) = L := ⟨_, rfl⟩
    have hLl : L.length ≤ 1000000000 := by rw [← hL, List.length_cons]; omega
    rw [hL] at hown ⊢
    have hsz := hbel.out.size
    by_cases hlt : k < s.size
    · have hts := take_flat (spl 32 qmarks) s.data.toList k (by omega)
      obtain ⟨b, hb⟩ : ∃ b, s.data.toList[k]'(by omega) = b := ⟨_, rfl⟩
      have hb2 : s[k] = b := by rw [← hb]; rfl
      rw [hb] at hts
      have HT := Lib.hid hts
      have HLe := Lib.hid hL
      have hsp := spell_any w.heap.size g cap L b 32 ⟨#[34, 92]⟩ wr hown.out hLl hsz
      have HC := Lib.hid hsp
      have HO0 := hown
      clear hts hL hsp hb hlen hown
      go_wp2_with fail
      refine HC.out.mono ?_
      rintro e w1 ⟨g', cap', rfl, hown1, hg1, hw1⟩
      have HO1 := Lib.hid hown1
      have HB1 := Lib.hid (hbel.out.grown hg1 hsz (fun j hj => by cases hj; exact (own_lt HO0.out).1))
      have he : 34 :: (s.data.toList.take (k + 1)).flatMap (spl 32 qmarks) = L ++ spl 32 qmarks b := by rw [HT.out, ← HLe.out]; rfl
      have HE := Lib.hid he
      clear hown1 hg1 hw1 HC he
      go_wp2_with fail
      go_roundw
      case rel =>
        refine ⟨k + 1, g', cap', by omega, by go_num, by rw [HE.out, List.length_append], Lib.hid ?_, HB1⟩
        rw [HE.out]
        exact HO1.out
      case measure => simp [intOf]; omega
    · obtain rfl : k = s.size := by omega
      have e : s.data.toList.take s.size = s.data.toList := List.take_of_length_le (by omega)
      rw [e] at hL
      have HLe := Lib.hid hL
      have HO := hown
      have HB := hbel
      clear hL e hlen hown hbel
      go_wp2_with (at_builtin; refine wpList_append_own _ rfl (.tmp 17) (.tmp 18) 46 rfl w.heap.size 5 i0 (.int .u8 0) 1 1 Tryd.underlying46 hi hz0 hz1 hz2 rfl (by decide) _ _ _ rfl (HO.out.alloc _) ⟨wr.heap.size, 0, none⟩ 1 1 [_] rfl rfl (cell_one_new _ _ _) (by intro u hu; simp at hu; subst hu; rfl) (by unfold maxLen; omega) (by omega) (by simp; omega) ?_; intro v1 w4 hown1 hgrow1 hnil1; have hcv := own_str (L := L ++ [34]) (by rw [List.length_append, List.map_append]; exact hown1))
      go_ret
      refine ⟨?_, ((HB.out.alloc hsz _).grown hgrow1 (by simp; omega) (fun j hj => (HO.out.lt j hj).1))⟩
      rw [← HLe.out]
      simp [qot]
end Go.Proofs.YtgcfilgobclcjaaDoor
