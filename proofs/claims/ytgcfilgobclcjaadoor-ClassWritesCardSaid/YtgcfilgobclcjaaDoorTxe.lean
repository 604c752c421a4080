/- Text: a set's one text. -/
import Derived.Test.YtgcfilgobclcjaaDoorQot
namespace Go.Proofs.YtgcfilgobclcjaaDoor
open Go Go.RowKit
theorem sps_le (p : Nat × Nat) : (sps p).length ≤ 9 := by
  have h1 := spl_le4 33 cmarks (UInt8.ofNat p.1)
  have h2 := spl_le4 33 cmarks (UInt8.ofNat p.2)
  unfold sps
  simp only [List.length_append]
  split <;> split <;> simp <;> omega
theorem flat_le9 : ∀ l : List (Nat × Nat), (l.flatMap sps).length ≤ 9 * l.length
  | [] => by simp
  | p :: l => by
    have h1 := sps_le p
    have h2 := flat_le9 l
    rw [List.flatMap_cons, List.length_append, List.length_cons]
    omega
theorem take_flat2 (l : List (Nat × Nat)) (k : Nat) (h : k < l.length) : (l.take (k + 1)).flatMap sps = (l.take k).flatMap sps ++ sps l[k] := by
  rw [List.take_succ_eq_append_getElem h, List.flatMap_append]
  simp
theorem spn_len (s : BitVec 256) : (spn s).length ≤ 256 := by
  have h1 := spansN_len (lstN s 4)
  have h2 := lstN_len s 4
  unfold spn
  omega
/-- The spans' cells, in a list that was told. -/
def Told (w : World) (gS : Nat) (S : List (Nat × Nat)) : Prop := gS < w.heap.size ∧ ∀ k (h : k < S.length), w.cell? ⟨gS, k * 2, none⟩ = some (nb S[k].1) ∧ w.cell? ⟨gS, k * 2 + 1, none⟩ = some (nb S[k].2)
theorem Told.grown {w w' : World} {gS g : Nat} {S : List (Nat × Nat)} (h : Told w gS S) (hg : w.grownBy w' (some g)) (hne : g ≠ gS) : Told w' gS S :=
  ⟨Nat.lt_of_lt_of_le h.1 hg.size, fun k hk => ⟨cell_grown (h.2 k hk).1 hg (by simpa using hne), cell_grown (h.2 k hk).2 hg (by simpa using hne)⟩⟩
theorem Told.ext {w w' : World} {gS : Nat} {S : List (Nat × Nat)} (h : Told w gS S) (hx : Ext w w') : Told w' gS S :=
  ⟨Nat.lt_of_lt_of_le h.1 hx.size, fun k hk => ⟨cell_grown (row := none) (h.2 k hk).1 (grown_of_ext hx) (by simp), cell_grown (row := none) (h.2 k hk).2 (grown_of_ext hx) (by simp)⟩⟩
theorem told_of {w : World} {b e : Nat} {v : Value} (S : List (Nat × Nat)) (h : w.ownsRow b e 2 v S.length (spc S)) (hn : 0 < S.length) : ∃ gS cap, v = .slice (some ⟨gS, 0, none⟩) S.length cap ∧ b ≤ gS ∧ S.length ≤ cap ∧ cap ≤ maxLen ∧ Told w gS S := by
  obtain ⟨gS, cap, rfl, h1, h2, h3, h4⟩ := own_some h hn
  refine ⟨gS, cap, rfl, h1, h3, h4, h2, fun k hk => ?_⟩
  have hat := spc_at S k hk
  rw [List.getD_eq_getElem?_getD, List.getElem?_eq_getElem hk] at hat
  have c := fun j => h.cellAt j
  refine ⟨?_, ?_⟩
  · rw [c (k * 2) (by omega)]; exact hat.1
  · rw [c (k * 2 + 1) (by omega)]; exact hat.2
theorem spell_to (base g cap : Nat) (L L2 : List UInt8) (n : Nat) (hn : n = L.length) (b : UInt8) (x : Int) (hx : x = b.toNat) (h2 : L ++ spl 33 cmarks b = L2) (w : World) (xs : List Value) (hxs : xs = L.map ub) (hown : w.ownsRow base 5 1 (.slice (some ⟨g, 0, none⟩) n cap) n xs) (hL : n ≤ 1000000000) (hb : base ≤ w.heap.size) :
    Calls Tryd.prog 20 #[.slice (some ⟨g, 0, none⟩) n cap, .int .u8 x, .int .u8 33, .string ⟨#[92, 91, 93, 45, 94, 38]⟩] w fun e w' => SplEnd base g w w' e L2 := by
  subst hn hx h2 hxs
  exact spell_any base g cap L b 33 ⟨#[92, 91, 93, 45, 94, 38]⟩ w hown hL hb
set_option maxHeartbeats 2000000 in
set_option maxRecDepth 20000 in
theorem text_any (s : BitVec 256) (w : World) (hT : Tab w) :
    Calls Tryd.prog 7 #[sv s] w fun e w' => e = .returned (.string ⟨(txt s).toArray⟩) ∧ Below w.heap.size w w' := by
  obtain ⟨i0, hi, hz0, hz1, hz2⟩ := info_parts info_u8
  have hSl := spn_len s
  have hSo := spn_ok s
  have hx0 : Ext w ((w.alloc (.cells (svs s) 29)).alloc (.cells #[.int .u8 91] 5)) := by go_grown
  have hso := spans_own s _ (hT.ext hx0)
  have hn1 := own_new1 (w.alloc (.cells (svs s) 29)) (.int .u8 91)
  rw [show (w.alloc (.cells (svs s) 29)).heap.size = w.heap.size + 1 by simp] at hn1
  have hB0 := (Blk.new w (svs s) 29).alloc (.cells #[.int .u8 91] 5)
  have HS := Lib.hid hso
  have HN := Lib.hid hn1
  have HX := Lib.hid hx0
  have HSo := Lib.hid hSo
  obtain ⟨q0, q1, q2, q3⟩ := hB0.cells4
  clear hso hn1 hx0 hB0 hSo hT
  go_enter Tryd.func7, Tryd.ntmps7
  go_wp2_with fail
  refine HS.out.mono ?_
  rintro e w1 ⟨v, rfl, hown, hb1⟩
  have hE := Lib.hid (bel_call HX.out hb1)
  have hO1 := Lib.hid (own_below HN.out hb1 (Nat.le_refl _))
  have hsz1 : w.heap.size + 2 ≤ w1.heap.size := by have := hb1.size; simpa using this
  by_cases h0 : (spn s).length = 0
  · have hnil : spn s = [] := List.length_eq_zero_iff.1 h0
    obtain ⟨ao, cap, rfl⟩ : ∃ ao cap, v = .slice ao 0 cap := by
      rw [hnil] at hown
      obtain ⟨_, ⟨h, _⟩ | ⟨g, cap, cur, h, _⟩⟩ := hown
      · exact ⟨none, 0, h⟩
      · exact ⟨_, cap, h⟩
    have ht : txt s = [91, 93] := by unfold txt txtL; rw [hnil]; rfl
    have HTx := Lib.hid ht
    clear hown hb1 HS h0 hnil ht HN HX
    go_wp2_with fail
    refine wp_loop_rounds 1 ?_
    rw [rounds_succ]
    go_wp2_with (at_builtin; refine wpList_append_own _ rfl (.tmp 37) (.tmp 38) 46 rfl (w.heap.size + 1) 5 i0 (.int .u8 0) 1 1 Tryd.underlying46 hi hz0 hz1 hz2 rfl (by decide) _ _ _ rfl (hO1.out.alloc _) ⟨w1.heap.size, 0, none⟩ 1 1 [_] rfl rfl (cell_one_new _ _ _) (by intro u hu; simp at hu; subst hu; rfl) (by unfold maxLen; omega) (by omega) (by simp; omega) ?_; intro v1 w4 hown1 hgrow1 hnil1; have hcv := own_str (L := [91, 93]) hown1)
    go_ret
    rw [HTx.out]
    exact ⟨rfl, (hE.out.alloc (by omega) _).grown hgrow1 (by simp; omega) (fun j hj => by have := (hO1.out.lt j hj).1; omega)⟩
  · obtain ⟨gS, cS, rfl, hgb, hcS1, hcS2, hTd⟩ := told_of (spn s) hown (by omega)
    have HTd := Lib.hid hTd
    have hgS : w.heap.size + 2 ≤ gS := by simpa using hgb
    clear hown hb1 HS HN HX hgb hTd
    go_wp2_with fail
    go_loopw [3, 10] (fun v i wr => ∃ (k g cap : Nat) (L : List UInt8), k ≤ (spn s).length ∧ i = .int .i64 k ∧ g ≠ gS ∧ v = .slice (some ⟨g, 0, none⟩) L.length cap ∧ Hid (91 :: ((spn s).take k).flatMap sps = L) ∧ Hid (wr.ownsRow (w.heap.size + 1) 5 1 (.slice (some ⟨g, 0, none⟩) L.length cap) L.length (L.map ub)) ∧ Hid (Below w.heap.size w wr) ∧ Hid (Told wr gS (spn s))) (fun _ i _ => (spn s).length - (intOf i).toNat)
    case atStart => exact ⟨0, w.heap.size + 1, 1, [91], Nat.zero_le _, rfl, by omega, rfl, Lib.hid rfl, hO1, hE, HTd⟩
    case round =>
      clear hO1 hE HTd
      obtain ⟨k, g, cap, L, hk, rfl, hgne, rfl, hL, hown, hbel, hTd⟩ := hrel
      have hsz := hbel.out.size
      have hgl := own_lt hown.out
      have hLl : L.length ≤ 100000 := by
        have h1 := flat_le9 ((spn s).take k)
        have h2 := List.length_take_le k (spn s)
        rw [← hL.out, List.length_cons]
        omega
      by_cases hlt : k < (spn s).length
      · obtain ⟨⟨lo, hi'⟩, hp⟩ : ∃ p, (spn s)[k] = p := ⟨_, rfl⟩
        have hpo := HSo.out (spn s)[k] (List.getElem_mem hlt)
        have htk := take_flat2 (spn s) k hlt
        have hcel := hTd.out.2 k hlt
        rw [hp] at hpo htk hcel
        simp only at hpo hcel
        obtain ⟨hlh, hlt'⟩ := hpo
        obtain ⟨e0, e1⟩ := hcel
        have hgw := hTd.out.1
        have HK := Lib.hid htk
        have hlo2 : (UInt8.ofNat lo).toNat = lo := by simp; omega
        have hhi2 : (UInt8.ofNat hi').toNat = hi' := by simp; omega
        have hk5 := Blk.new wr #[nb lo, nb hi'] 50
        have hx5 : Ext wr (wr.alloc (.cells #[nb lo, nb hi'] 50)) := by go_grown
        obtain ⟨L1, hL1⟩ : ∃ L1, L ++ spl 33 cmarks (UInt8.ofNat lo) = L1 := ⟨_, rfl⟩
        have hsp := spell_to (w.heap.size + 1) g cap L L1 _ rfl (UInt8.ofNat lo) lo (by omega) hL1 _ _ rfl (own_below hown.out hx5 (Nat.le_refl _)) (by omega) (by simp; omega)
        have HC := Lib.hid hsp
        have hl4 := spl_le4 33 cmarks (UInt8.ofNat lo)
        have hL1l : L1.length ≤ 100004 := by rw [← hL1, List.length_append]; omega
        have HTd2 := Lib.hid (hTd.out.ext hx5)
        have HB5 := Lib.hid hk5
        have HE5 := Lib.hid (bel_call hbel.out hx5)
        clear hsp htk hp hTd hk5 hx5
        go_wp2_with fail
        refine HC.out.mono ?_
        rintro e w2 ⟨g1, c1, rfl, hown1, hg1, hw1⟩
        have HO1 := Lib.hid hown1
        have hsz2 := hg1.size
        simp at hsz2
        have HT1 := Lib.hid (HTd2.out.grown hg1 hgne)
        have hb5 := HB5.out.grown hg1 (by simp; omega)
        have hg1n : g1 ≠ gS := by rcases hw1 with h | h <;> (try simp at h) <;> omega
        have hg1r : g1 ≠ wr.heap.size := by rcases hw1 with h | h <;> (try simp at h) <;> omega
        have HG1 := Lib.hid (HE5.out.grown hg1 (by simp; omega) (fun j hj => by cases hj; omega))
        have b0 := hb5.cell 0
        have b1 := hb5.cell 1
        have HB6 := Lib.hid hb5
        have hgl1 := own_lt hown1
        clear hown1 hg1 hw1 hb5 HC HTd2 HB5 HE5
        have hL1' := Lib.hid hL1
        clear hL1 hl4
        by_cases ha : hi' = lo
        · subst ha
          have hL2 : 91 :: ((spn s).take (k + 1)).flatMap sps = L1 := by
            rw [HK.out, ← List.cons_append, hL.out, ← hL1'.out]
            simp [sps]
          have HL2 := Lib.hid hL2
          clear hL2 HK hL
          go_wp2_with fail
          go_roundw
          case rel => exact ⟨k + 1, g1, c1, L1, by omega, by go_num, hg1n, rfl, HL2, HO1, HG1, HT1⟩
          case measure => simp [intOf]; omega
        · have hne1 : ((hi' : Int) != lo) = true := by simp; omega
          have hwr : IntKind.u8.wrap ((hi' : Int) - lo) = (hi' : Int) - lo := by rw [IntWalk.u8_in _ (by omega)]
          by_cases hb : hi' = lo + 1
          · have hn1 : ¬ (1 : Int) < (hi' : Int) - lo := by omega
            obtain ⟨L2, hL2⟩ : ∃ L2, L1 ++ spl 33 cmarks (UInt8.ofNat hi') = L2 := ⟨_, rfl⟩
            have hL3 : 91 :: ((spn s).take (k + 1)).flatMap sps = L2 := by
              rw [HK.out, ← List.cons_append, hL.out, ← hL2, ← hL1'.out]
              simp [sps, hb]
            have HL3 := Lib.hid hL3
            have hsp := spell_to (w.heap.size + 1) g1 c1 L1 L2 _ rfl (UInt8.ofNat hi') hi' (by omega) hL2 w2 _ rfl HO1.out (by omega) (by omega)
            have HC := Lib.hid hsp
            have HBB := Lib.hid hb
            clear hL2 hL3 HK hL hsp hb
            go_wp2_with fail
            refine HC.out.mono ?_
            rintro e w3 ⟨g2, c2, rfl, hown2, hg2, hw2⟩
            have HO2 := Lib.hid hown2
            have hgs2 := HT1.out.1
            have hg2n : g2 ≠ gS := by rcases hw2 with h | h <;> omega
            have HT2 := Lib.hid (HT1.out.grown hg2 hg1n)
            have HG2 := Lib.hid (HG1.out.grown hg2 (by omega) (fun j hj => by cases hj; omega))
            clear hown2 hg2 hw2 HC b0 b1 HB6
            go_wp2_with fail
            go_roundw
            case rel => exact ⟨k + 1, g2, c2, L2, by omega, by go_num, hg2n, rfl, HL3, HO2, HG2, HT2⟩
            case measure => simp [intOf]; omega
          · have hn1 : (1 : Int) < (hi' : Int) - lo := by omega
            obtain ⟨L2, hL2⟩ : ∃ L2, (L1 ++ [45]) ++ spl 33 cmarks (UInt8.ofNat hi') = L2 := ⟨_, rfl⟩
            have hL3 : 91 :: ((spn s).take (k + 1)).flatMap sps = L2 := by
              rw [HK.out, ← List.cons_append, hL.out, ← hL2, ← hL1'.out]
              have h3 : hi' > lo + 1 := by omega
              simp [sps, h3, ha]
            have HL3 := Lib.hid hL3
            have HL2 := Lib.hid hL2
            clear hL3 hL2 HK hL
            go_wp2_with (at_builtin; refine wpList_append_where rfl (.tmp 24) (.tmp 25) (w.heap.size + 1) 46 5 i0 (.int .u8 0) 1 1 rfl Tryd.underlying46 hi hz0 hz1 hz2 rfl (by decide) _ _ _ (HO1.out.alloc _) rfl ⟨w2.heap.size, 0, none⟩ 1 1 (by decide) [_] rfl rfl (cell_one_new _ _ _) (by intro u hu; simp at hu; subst hu; rfl) (by unfold maxLen; omega) (by omega) (by simp; omega) ?_; intro g3 c3 w3 hown3 hgrow3 hwh3; (have hb6 := HB6.out.grown (grown_after hgrow3) (fun e => hg1r (Option.some.inj e))); replace b0 := hb6.cell 0; replace b1 := hb6.cell 1; clear hb6)
            have hg3 : w2.grownBy w3 (some g1) := grown_after hgrow3
            have hw3 : g3 = g1 ∨ w2.heap.size ≤ g3 := hwh3.imp (fun e => (Option.some.inj e).symm) (fun h => by simp at h; omega)
            have hgs2 := HT1.out.1
            have hg3n : g3 ≠ gS := by rcases hw3 with h | h <;> omega
            have hsz3 := hg3.size
            have HT3 := Lib.hid (HT1.out.grown hg3 hg1n)
            have HG3 := Lib.hid (HG1.out.grown hg3 (by omega) (fun j hj => by cases hj; omega))
            have hgl3 := own_lt hown3
            have hsp := spell_to (w.heap.size + 1) g3 c3 (L1 ++ [45]) L2 (L1.length + 1) (by simp) (UInt8.ofNat hi') hi' (by omega) HL2.out w3 _ (by simp [ub]) hown3 (by omega) (by omega)
            have HC := Lib.hid hsp
            clear hsp hown3 hgrow3 hwh3 hg3 hw3
            refine HC.out.mono ?_
            rintro e w4 ⟨g4, c4, rfl, hown4, hg4, hw4⟩
            have hgs4 := HT3.out.1
            have hg4n : g4 ≠ gS := by rcases hw4 with h | h <;> omega
            have HO4 := Lib.hid hown4
            have HT4 := Lib.hid (HT3.out.grown hg4 hg3n)
            have HG4 := Lib.hid (HG3.out.grown hg4 (by omega) (fun j hj => by cases hj; omega))
            clear hown4 hg4 hw4 HC b0 b1 HB6
            go_wp2_with fail
            go_roundw
            case rel => exact ⟨k + 1, g4, c4, L2, by omega, by go_num, hg4n, rfl, HL3, HO4, HG4, HT4⟩
            case measure => simp [intOf]; omega
      · obtain rfl : k = (spn s).length := by omega
        have ht : txt s = L ++ [93] := by
          unfold txt txtL
          rw [← hL.out, List.take_length]
          rfl
        have HTx := Lib.hid ht
        have HO := hown
        clear ht hL hown hTd
        go_wp2_with (at_builtin; refine wpList_append_own _ rfl (.tmp 37) (.tmp 38) 46 rfl (w.heap.size + 1) 5 i0 (.int .u8 0) 1 1 Tryd.underlying46 hi hz0 hz1 hz2 rfl (by decide) _ _ _ rfl (HO.out.alloc _) ⟨wr.heap.size, 0, none⟩ 1 1 [_] rfl rfl (cell_one_new _ _ _) (by intro u hu; simp at hu; subst hu; rfl) (by unfold maxLen; omega) (by omega) (by simp; omega) ?_; intro v1 w4 hown1 hgrow1 hnil1; have hcv := own_str (L := L ++ [93]) (by rw [List.length_append, List.map_append]; exact hown1))
        go_ret
        rw [HTx.out]
        exact ⟨rfl, (hbel.out.alloc hsz _).grown hgrow1 (by simp; omega) (fun j hj => by have := (HO.out.lt j hj).1; omega)⟩
end Go.Proofs.YtgcfilgobclcjaaDoor
