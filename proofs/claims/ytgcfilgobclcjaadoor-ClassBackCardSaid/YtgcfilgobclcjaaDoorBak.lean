/- ClassBack: the walk. -/
import Derived.Test.YtgcfilgobclcjaaDoorSti
namespace Go.Proofs.YtgcfilgobclcjaaDoor
open Go Go.RowKit
theorem len_list (T : ByteArray) : T.size = T.data.toList.length := by rw [Array.length_toList]; rfl
theorem pos_mid (A T M : ByteArray) : pos (A ++ T ++ M) A.size = A.size := by
  unfold pos
  rw [if_neg (by simp only [ByteArray.size_append]; omega)]
  omega
theorem rest_mid (A T M : ByteArray) : rest (A ++ T ++ M) A.size = T.data.toList ++ M.data.toList := by
  unfold rest
  rw [data_append, data_append, List.append_assoc, len_list A, List.drop_left]
theorem prs_back (A T M : ByteArray) (s : BitVec 256) (hT : txt s = T.data.toList) : prs (A ++ T ++ M) A.size = .inr (s, A.size + T.size) := by
  unfold prs
  rw [pos_mid, rest_mid, ← hT]
  have h2 := txt_len s
  obtain ⟨n, hn⟩ : ∃ n, (txt s ++ M.data.toList).length + 1 = n + 2 := ⟨(txt s ++ M.data.toList).length - 1, by rw [List.length_append]; omega⟩
  rw [hn, cls_set s _ n 0 _ (by omega), len_list T, ← hT]
theorem uqs_back (A T M : ByteArray) (l : List UInt8) (hT : qot l = T.data.toList) : uqs (A ++ T ++ M) A.size = .inr (l, A.size + T.size) := by
  unfold uqs
  rw [pos_mid, rest_mid, ← hT, quq_qot, len_list T, ← hT]
theorem parse_back (A T M : ByteArray) (s : BitVec 256) (hT : txt s = T.data.toList) (hs : A.size + M.size ≤ 4000) (es ed : Addr) (w : World) (hK : Kn w es ed) :
    Calls Tryd.prog 12 #[.string (A ++ T ++ M), .int .i64 (A.size : Int)] w fun e w' => e = .returned (.tuple #[sv s, .int .i64 ((A.size : Int) + (T.size : Int)), .nilIface]) ∧ Ext w w' := by
  have hl := txt_len s
  rw [hT, ← len_list] at hl
  have h := parse_is (A ++ T ++ M) A.size es ed (by rw [ByteArray.size_append, ByteArray.size_append]; omega) w hK s _ (prs_back A T M s hT)
  rw [show ((A.size + T.size : Nat) : Int) = (A.size : Int) + (T.size : Int) by omega] at h
  exact h
theorem qot_len (l : List UInt8) : 2 ≤ (qot l).length ∧ (qot l).length ≤ 4 * l.length + 2 := by
  have h := flat_le4 32 qmarks l
  unfold qot
  simp only [List.length_cons, List.length_append, List.length_nil]
  omega
theorem unquote_back (A T M l : ByteArray) (hT : qot l.data.toList = T.data.toList) (hs : A.size + M.size ≤ 4000) (hn : l.size ≤ 4000) (es ed : Addr) (w : World) (hK : Kn w es ed) :
    Calls Tryd.prog 13 #[.string (A ++ T ++ M), .int .i64 (A.size : Int)] w fun e w' => e = .returned (.tuple #[.string l, .int .i64 ((A.size : Int) + (T.size : Int)), .nilIface]) ∧ Ext w w' := by
  have hl := qot_len l.data.toList
  rw [hT, ← len_list, ← len_list] at hl
  have h := unquote_any (A ++ T ++ M) A.size es ed (by rw [ByteArray.size_append, ByteArray.size_append]; omega) w hK _ (uqs_back A T M _ hT)
  refine h.mono ?_
  rintro e w' ⟨h1, h2⟩
  rw [show ((A.size + T.size : Nat) : Int) = (A.size : Int) + (T.size : Int) by omega] at h1
  exact ⟨h1, h2⟩
theorem bytes_tl (T : ByteArray) : T.toList = T.data.toList := eq_of_beq ((str_eq T _).trans (by simp))
theorem diff_set (s t : BitVec 256) (h : s ≠ t) : ∀ w, (Op.equalIn 10000 29 (sv s) (sv t)).run Tryd.prog w = .ok false w := fun w => by rw [set_eq]; simp [h]
theorem bytes_eq {a b : ByteArray} (h : a.data.toList = b.data.toList) : a = b := by
  cases a; cases b
  simp at h
  rw [h]
set_option maxHeartbeats 4000000 in
set_option maxRecDepth 20000 in
theorem back_any (vs vt : Value) (A M : ByteArray) (LS : List (BitVec 256)) (LT : List ByteArray) (es ed : Addr) (w : World) (hA : A.size ≤ 140737488355328) (hM : M.size ≤ 140737488355328) (hs : SetsIn w vs LS) (ht : StrsIn w vt LT) (hT : Tab w) (hK : Kn w es ed) :
    Calls Tryd.prog 4 #[.agg #[vs, vt, .string A, .string M]] w fun e w' => e = .returned (.bool true) ∧ Below w.heap.size w w' := by
  have HS := Lib.hid hs
  have HT := Lib.hid hT
  have HK := Lib.hid hK
  have HV := Lib.hid ht
  obtain ⟨sa, sc, rfl, hs1, hs2, _⟩ := hs
  obtain ⟨ta, tc, rfl, ht1, ht2, _⟩ := ht
  have hx0 : Ext w (w.alloc (.cells #[.slice sa LS.length sc, .slice ta LT.length tc, .string A, .string M] 34)) := by go_grown
  have HX0 := Lib.hid hx0
  have HB0 := Lib.hid (Blk.new w #[.slice sa LS.length sc, .slice ta LT.length tc, .string A, .string M] 34)
  clear hT hK hx0
  have hS63 : LS.length ≤ 9223372036854775807 := by unfold maxLen at hs2; omega
  have hT63 : LT.length ≤ 9223372036854775807 := by unfold maxLen at ht2; omega
  by_cases hbig : 4000 < A.size + M.size
  · have hd : decide ((4000 : Int) < (A.size : Int) + (M.size : Int)) = true := by simp; omega
    have hwk := wakes_any es ed _ (HT.out.ext HX0.out) (HK.out.ext HX0.out)
    go_enter Tryd.func4, Tryd.ntmps4
    go_wp2_with fail
    refine hwk.mono ?_
    rintro e w1 ⟨rfl, hx1⟩
    go_wp2_with fail
    go_ret
    exact ⟨rfl, bel_call HX0.out hx1⟩
  · have hd : decide ((4000 : Int) < (A.size : Int) + (M.size : Int)) = false := by simp; omega
    have hAM : A.size + M.size ≤ 4000 := by omega
    go_enter Tryd.func4, Tryd.ntmps4
    go_wp2_with fail
    clear hd hA hM hbig
    have HW := Lib.hid (And.intro (HT.out.ext HX0.out) (And.intro (HK.out.ext HX0.out) (And.intro (HS.out.ext HX0.out) (HV.out.ext HX0.out))))
    obtain ⟨p, hp⟩ : ∃ p, w.heap.size = p := ⟨_, rfl⟩
    clear HT HK HS HV
    rw [hp] at HB0 ⊢
    replace hp := Lib.hid hp
    generalize w.alloc (.cells #[.slice sa LS.length sc, .slice ta LT.length tc, .string A, .string M] 34) = w0 at HW HX0 HB0 ⊢
    go_loopw [4] (fun i wr => ∃ k : Nat, k ≤ 20 ∧ k ≤ LS.length ∧ i = .int .i64 k ∧ Hid (Ext w0 wr)) (fun i _ => 20 - (intOf i).toNat)
    case atStart => exact ⟨0, by omega, by omega, rfl, Lib.hid (Below.refl _ _)⟩
    case round =>
      obtain ⟨k, hk20, hkl, rfl, hE⟩ := hrel
      obtain ⟨g0, g1, g2, g3⟩ := (HB0.out.ext hE.out).cells4
      by_cases hkn : k < LS.length
      · have hd1 : decide ((k : Int) < (LS.length : Int)) = true := by simp; omega
        by_cases hk : k < 20
        · have hd2 : decide ((k : Int) < 20) = true := by simp; omega
          obtain ⟨b, o, rfl, hb, hcell⟩ := (HW.out.2.2.1.ext hE.out).cells hkn
          obtain ⟨S, hS⟩ : ∃ S, LS[k] = S := ⟨_, rfl⟩
          obtain ⟨a0, a1, a2, a3⟩ := hcell k hkn
          rw [hS] at a0 a1 a2 a3
          obtain ⟨T, hTT⟩ : ∃ T : ByteArray, txt S = T.data.toList := ⟨⟨(txt S).toArray⟩, by simp⟩
          have hl := txt_len S
          rw [hTT, ← len_list] at hl
          have HTT := Lib.hid hTT
          have htx := text_is S T hTT wr (HW.out.1.ext hE.out)
          have HTX := Lib.hid htx
          have HCL2 := Lib.hid (show ∀ w', Ext w0 w' → w'.cell? ⟨b, o + k * 4, none⟩ = some (.int .u64 (wd S 0)) ∧ w'.cell? ⟨b, o + k * 4 + 1, none⟩ = some (.int .u64 (wd S 1)) ∧ w'.cell? ⟨b, o + k * 4 + 2, none⟩ = some (.int .u64 (wd S 2)) ∧ w'.cell? ⟨b, o + k * 4 + 3, none⟩ = some (.int .u64 (wd S 3)) from fun w' hx => by
            obtain ⟨b', o', e1, hb', hc'⟩ := (HW.out.2.2.1.ext hx).cells hkn
            cases e1
            have := hc' k hkn
            rw [hS] at this
            exact this)
          have HSS := Lib.hid hS
          clear hcell hTT htx hS
          go_wp2_with fail
          refine HTX.out.mono ?_
          rintro e w1 ⟨rfl, hx1⟩
          have HE1 := Lib.hid (bel_call hE.out hx1)
          have hpb := parse_back A T M S HTT.out hAM es ed w1 (HW.out.2.1.ext HE1.out)
          have HPB := Lib.hid hpb
          obtain ⟨g0, g1, g2, g3⟩ := (HB0.out.ext HE1.out).cells4
          clear hpb hx1 HTX a0 a1 a2 a3
          go_wp2_with fail
          refine HPB.out.mono ?_
          rintro e w2 ⟨rfl, hx2⟩
          have HE2 := Lib.hid (bel_call HE1.out (bel_alloc hx2 (Below.refl _ _) (.cells (svs S) 29)))
          have HB2 := Lib.hid (Blk.new w2 (svs S) 29)
          clear hx2 HPB g0 g1 g2 g3
          go_wp2_with fail
          obtain ⟨s, hs⟩ : ∃ s, w2.heap.size = s := ⟨_, rfl⟩
          rw [hs] at HB2 ⊢
          clear hs
          generalize w2.alloc (.cells (svs S) 29) = w3 at HE2 HB2 ⊢
          have hss := same_set S
          refine G.wp_region_stab (G := Ext) (fun _ => none) (by kernel_rfl) (by kernel_rfl) (fun _ _ h => by cases h) (fun hex => ?_)
          iterate 3
            (refine G.wpS_one (A := ?_) hex rfl rfl (by simp) ?_ ?_ ?_
             rotate_left 2
             · intro w' hC K hK
               go_wp2_with (fail)
               refine hK _ ?_
               first | exact Below.refl _ _ | assumption | ((repeat' (first | (with_reducible exact Below.refl _ _) | (with_reducible assumption) | (with_reducible refine below_drewN ?_ _) | (with_reducible refine Below.alloc ?_ ?_ _) | (with_reducible refine Below.drew ?_) | (with_reducible refine Below.setCell ?_ ?_ _) | (with_reducible refine Below.trans ?_ (Below.mono (by with_reducible assumption) ?_)) | go_size)))
             rotate_left 1
             · rfl
             clear hex; intro hex)
          refine G.wpS_one (A := ?_) hex rfl rfl (by simp) ?_ ?_ ?_
          rotate_left 2
          · intro w' hC K hK
            obtain ⟨b0, b1, b2, b3⟩ := (HB2.out.ext hC.1).cells4
            go_wp2_with (fail)
            refine hK _ ?_
            first | exact Below.refl _ _ | assumption | ((repeat' (first | (with_reducible exact Below.refl _ _) | (with_reducible assumption) | (with_reducible refine below_drewN ?_ _) | (with_reducible refine Below.alloc ?_ ?_ _) | (with_reducible refine Below.drew ?_) | (with_reducible refine Below.setCell ?_ ?_ _) | (with_reducible refine Below.trans ?_ (Below.mono (by with_reducible assumption) ?_)) | go_size)))
          rotate_left 1
          · rfl
          clear hex; intro hex
          iterate 2
            (refine G.wpS_one (A := ?_) hex rfl rfl (by simp) ?_ ?_ ?_
             rotate_left 2
             · intro w' hC K hK
               go_wp2_with (fail)
               refine hK _ ?_
               first | exact Below.refl _ _ | assumption | ((repeat' (first | (with_reducible exact Below.refl _ _) | (with_reducible assumption) | (with_reducible refine below_drewN ?_ _) | (with_reducible refine Below.alloc ?_ ?_ _) | (with_reducible refine Below.drew ?_) | (with_reducible refine Below.setCell ?_ ?_ _) | (with_reducible refine Below.trans ?_ (Below.mono (by with_reducible assumption) ?_)) | go_size)))
             rotate_left 1
             · rfl
             clear hex; intro hex)
          refine G.wpS_one (A := ?_) hex rfl rfl (by simp) ?_ ?_ ?_
          rotate_left 2
          · intro w' hC K hK
            obtain ⟨g0, g1, g2, g3⟩ := (HB0.out.ext (bel_call HE2.out hC.1)).cells4
            go_wp2_with (fail)
            refine hK _ ?_
            first | exact Below.refl _ _ | assumption | ((repeat' (first | (with_reducible exact Below.refl _ _) | (with_reducible assumption) | (with_reducible refine below_drewN ?_ _) | (with_reducible refine Below.alloc ?_ ?_ _) | (with_reducible refine Below.drew ?_) | (with_reducible refine Below.setCell ?_ ?_ _) | (with_reducible refine Below.trans ?_ (Below.mono (by with_reducible assumption) ?_)) | go_size)))
          rotate_left 1
          · rfl
          clear hex; intro hex
          iterate 2
            (refine G.wpS_one (A := ?_) hex rfl rfl (by simp) ?_ ?_ ?_
             rotate_left 2
             · intro w' hC K hK
               go_wp2_with (fail)
               refine hK _ ?_
               first | exact Below.refl _ _ | assumption | ((repeat' (first | (with_reducible exact Below.refl _ _) | (with_reducible assumption) | (with_reducible refine below_drewN ?_ _) | (with_reducible refine Below.alloc ?_ ?_ _) | (with_reducible refine Below.drew ?_) | (with_reducible refine Below.setCell ?_ ?_ _) | (with_reducible refine Below.trans ?_ (Below.mono (by with_reducible assumption) ?_)) | go_size)))
             rotate_left 1
             · rfl
             clear hex; intro hex)
          refine G.wpS_one (A := ?_) hex rfl rfl (by simp) ?_ ?_ ?_
          rotate_left 2
          · intro w' hC K hK
            obtain ⟨a0, a1, a2, a3⟩ := HCL2.out _ (bel_call HE2.out hC.1)
            go_wp2_with (fail)
            refine hK _ ?_
            first | exact Below.refl _ _ | assumption | ((repeat' (first | (with_reducible exact Below.refl _ _) | (with_reducible assumption) | (with_reducible refine below_drewN ?_ _) | (with_reducible refine Below.alloc ?_ ?_ _) | (with_reducible refine Below.drew ?_) | (with_reducible refine Below.setCell ?_ ?_ _) | (with_reducible refine Below.trans ?_ (Below.mono (by with_reducible assumption) ?_)) | go_size)))
          rotate_left 1
          · rfl
          clear hex; intro hex
          iterate 10
            (refine G.wpS_one (A := ?_) hex rfl rfl (by simp) ?_ ?_ ?_
             rotate_left 2
             · intro w' hC K hK
               go_wp2_with (fail)
               refine hK _ ?_
               first | exact Below.refl _ _ | assumption | ((repeat' (first | (with_reducible exact Below.refl _ _) | (with_reducible assumption) | (with_reducible refine below_drewN ?_ _) | (with_reducible refine Below.alloc ?_ ?_ _) | (with_reducible refine Below.drew ?_) | (with_reducible refine Below.setCell ?_ ?_ _) | (with_reducible refine Below.trans ?_ (Below.mono (by with_reducible assumption) ?_)) | go_size)))
             rotate_left 1
             · rfl
             clear hex; intro hex)
          refine G.wpS_nil fun w4 hAll => ?_
          have HE4 := Lib.hid (bel_call HE2.out hAll.1)
          clear hAll hex HE2 HB2 HE1
          go_wp2_with fail
          go_loopw [9] (fun i wr => ∃ j : Nat, j ≤ k ∧ i = .int .i64 j ∧ Hid (Ext w0 wr)) (fun i _ => k - (intOf i).toNat)
          case atStart => exact ⟨0, by omega, rfl, HE4⟩
          case round =>
            clear HE4
            obtain ⟨j, hjk, rfl, hE5⟩ := hrel
            by_cases hj : j < k
            · have hd3 : decide ((j : Int) < (k : Int)) = true := by simp; omega
              obtain ⟨Z, hZ⟩ : ∃ Z, LS[j]'(by omega) = Z := ⟨_, rfl⟩
              have HCJ := Lib.hid (show ∀ w', Ext w0 w' → w'.cell? ⟨b, o + j * 4, none⟩ = some (.int .u64 (wd Z 0)) ∧ w'.cell? ⟨b, o + j * 4 + 1, none⟩ = some (.int .u64 (wd Z 1)) ∧ w'.cell? ⟨b, o + j * 4 + 2, none⟩ = some (.int .u64 (wd Z 2)) ∧ w'.cell? ⟨b, o + j * 4 + 3, none⟩ = some (.int .u64 (wd Z 3)) from fun w' hx => by
                obtain ⟨b', o', e1, hb', hc'⟩ := (HW.out.2.2.1.ext hx).cells hkn
                cases e1
                have := hc' j (by omega)
                rw [hZ] at this
                exact this)
              clear hZ
              obtain ⟨U, hTU⟩ : ∃ U : ByteArray, txt Z = U.data.toList := ⟨⟨(txt Z).toArray⟩, by simp⟩
              have HTU := Lib.hid (fun w h => text_is Z U hTU w h)
              by_cases hzs : Z = S
              · subst hzs
                obtain rfl : U = T := bytes_eq (hTU.symm.trans HTT.out)
                clear hTU
                go_wp2_with fail
                refine G.wp_region_stab (G := Ext) (fun _ => none) (by kernel_rfl) (by kernel_rfl) (fun _ _ h => by cases h) (fun hex => ?_)
                iterate 2
                  (refine G.wpS_one (A := ?_) hex rfl rfl (by simp) ?_ ?_ ?_
                   rotate_left 2
                   · intro w' hC K hK
                     go_wp2_with (fail)
                     refine hK _ ?_
                     first | exact Below.refl _ _ | assumption | ((repeat' (first | (with_reducible exact Below.refl _ _) | (with_reducible assumption) | (with_reducible refine below_drewN ?_ _) | (with_reducible refine Below.alloc ?_ ?_ _) | (with_reducible refine Below.drew ?_) | (with_reducible refine Below.setCell ?_ ?_ _) | (with_reducible refine Below.trans ?_ (Below.mono (by with_reducible assumption) ?_)) | go_size)))
                   rotate_left 1
                   · rfl
                   clear hex; intro hex)
                refine G.wpS_one (A := ?_) hex rfl rfl (by simp) ?_ ?_ ?_
                rotate_left 2
                · intro w' hC K hK
                  obtain ⟨g0, g1, g2, g3⟩ := (HB0.out.ext (bel_call hE5.out hC.1)).cells4
                  go_wp2_with (fail)
                  refine hK _ ?_
                  first | exact Below.refl _ _ | assumption | ((repeat' (first | (with_reducible exact Below.refl _ _) | (with_reducible assumption) | (with_reducible refine below_drewN ?_ _) | (with_reducible refine Below.alloc ?_ ?_ _) | (with_reducible refine Below.drew ?_) | (with_reducible refine Below.setCell ?_ ?_ _) | (with_reducible refine Below.trans ?_ (Below.mono (by with_reducible assumption) ?_)) | go_size)))
                rotate_left 1
                · rfl
                clear hex; intro hex
                iterate 2
                  (refine G.wpS_one (A := ?_) hex rfl rfl (by simp) ?_ ?_ ?_
                   rotate_left 2
                   · intro w' hC K hK
                     go_wp2_with (fail)
                     refine hK _ ?_
                     first | exact Below.refl _ _ | assumption | ((repeat' (first | (with_reducible exact Below.refl _ _) | (with_reducible assumption) | (with_reducible refine below_drewN ?_ _) | (with_reducible refine Below.alloc ?_ ?_ _) | (with_reducible refine Below.drew ?_) | (with_reducible refine Below.setCell ?_ ?_ _) | (with_reducible refine Below.trans ?_ (Below.mono (by with_reducible assumption) ?_)) | go_size)))
                   rotate_left 1
                   · rfl
                   clear hex; intro hex)
                refine G.wpS_one (A := ?_) hex rfl rfl (by simp) ?_ ?_ ?_
                rotate_left 2
                · intro w' hC K hK
                  obtain ⟨a0, a1, a2, a3⟩ := HCJ.out _ (bel_call hE5.out hC.1)
                  go_wp2_with (fail)
                  refine hK _ ?_
                  first | exact Below.refl _ _ | assumption | ((repeat' (first | (with_reducible exact Below.refl _ _) | (with_reducible assumption) | (with_reducible refine below_drewN ?_ _) | (with_reducible refine Below.alloc ?_ ?_ _) | (with_reducible refine Below.drew ?_) | (with_reducible refine Below.setCell ?_ ?_ _) | (with_reducible refine Below.trans ?_ (Below.mono (by with_reducible assumption) ?_)) | go_size)))
                rotate_left 1
                · rfl
                clear hex; intro hex
                refine G.wpS_one (A := ?_) hex rfl rfl (by simp) ?_ ?_ ?_
                rotate_left 2
                · intro w' hC K hK
                  go_wp2_with (refine (HTU.out _ (HW.out.1.ext (bel_call hE5.out hC.1))).mono ?_; rintro e wq ⟨rfl, hEq⟩)
                  refine hK _ ?_
                  first | exact Below.refl _ _ | assumption | ((repeat' (first | (with_reducible exact Below.refl _ _) | (with_reducible assumption) | (with_reducible refine below_drewN ?_ _) | (with_reducible refine Below.alloc ?_ ?_ _) | (with_reducible refine Below.drew ?_) | (with_reducible refine Below.setCell ?_ ?_ _) | (with_reducible refine Below.trans ?_ (Below.mono (by with_reducible assumption) ?_)) | go_size)))
                rotate_left 1
                · rfl
                clear hex; intro hex
                iterate 4
                  (refine G.wpS_one (A := ?_) hex rfl rfl (by simp) ?_ ?_ ?_
                   rotate_left 2
                   · intro w' hC K hK
                     go_wp2_with (fail)
                     refine hK _ ?_
                     first | exact Below.refl _ _ | assumption | ((repeat' (first | (with_reducible exact Below.refl _ _) | (with_reducible assumption) | (with_reducible refine below_drewN ?_ _) | (with_reducible refine Below.alloc ?_ ?_ _) | (with_reducible refine Below.drew ?_) | (with_reducible refine Below.setCell ?_ ?_ _) | (with_reducible refine Below.trans ?_ (Below.mono (by with_reducible assumption) ?_)) | go_size)))
                   rotate_left 1
                   · rfl
                   clear hex; intro hex)
                refine G.wpS_one (A := ?_) hex rfl rfl (by simp) ?_ ?_ ?_
                rotate_left 2
                · intro w' hC K hK
                  obtain ⟨g0, g1, g2, g3⟩ := (HB0.out.ext (bel_call hE5.out hC.1)).cells4
                  go_wp2_with (fail)
                  refine hK _ ?_
                  first | exact Below.refl _ _ | assumption | ((repeat' (first | (with_reducible exact Below.refl _ _) | (with_reducible assumption) | (with_reducible refine below_drewN ?_ _) | (with_reducible refine Below.alloc ?_ ?_ _) | (with_reducible refine Below.drew ?_) | (with_reducible refine Below.setCell ?_ ?_ _) | (with_reducible refine Below.trans ?_ (Below.mono (by with_reducible assumption) ?_)) | go_size)))
                rotate_left 1
                · rfl
                clear hex; intro hex
                iterate 2
                  (refine G.wpS_one (A := ?_) hex rfl rfl (by simp) ?_ ?_ ?_
                   rotate_left 2
                   · intro w' hC K hK
                     go_wp2_with (fail)
                     refine hK _ ?_
                     first | exact Below.refl _ _ | assumption | ((repeat' (first | (with_reducible exact Below.refl _ _) | (with_reducible assumption) | (with_reducible refine below_drewN ?_ _) | (with_reducible refine Below.alloc ?_ ?_ _) | (with_reducible refine Below.drew ?_) | (with_reducible refine Below.setCell ?_ ?_ _) | (with_reducible refine Below.trans ?_ (Below.mono (by with_reducible assumption) ?_)) | go_size)))
                   rotate_left 1
                   · rfl
                   clear hex; intro hex)
                refine G.wpS_one (A := ?_) hex rfl rfl (by simp) ?_ ?_ ?_
                rotate_left 2
                · intro w' hC K hK
                  obtain ⟨a0, a1, a2, a3⟩ := HCJ.out _ (bel_call hE5.out hC.1)
                  go_wp2_with (fail)
                  refine hK _ ?_
                  first | exact Below.refl _ _ | assumption | ((repeat' (first | (with_reducible exact Below.refl _ _) | (with_reducible assumption) | (with_reducible refine below_drewN ?_ _) | (with_reducible refine Below.alloc ?_ ?_ _) | (with_reducible refine Below.drew ?_) | (with_reducible refine Below.setCell ?_ ?_ _) | (with_reducible refine Below.trans ?_ (Below.mono (by with_reducible assumption) ?_)) | go_size)))
                rotate_left 1
                · rfl
                clear hex; intro hex
                iterate 2
                  (refine G.wpS_one (A := ?_) hex rfl rfl (by simp) ?_ ?_ ?_
                   rotate_left 2
                   · intro w' hC K hK
                     go_wp2_with (fail)
                     refine hK _ ?_
                     first | exact Below.refl _ _ | assumption | ((repeat' (first | (with_reducible exact Below.refl _ _) | (with_reducible assumption) | (with_reducible refine below_drewN ?_ _) | (with_reducible refine Below.alloc ?_ ?_ _) | (with_reducible refine Below.drew ?_) | (with_reducible refine Below.setCell ?_ ?_ _) | (with_reducible refine Below.trans ?_ (Below.mono (by with_reducible assumption) ?_)) | go_size)))
                   rotate_left 1
                   · rfl
                   clear hex; intro hex)
                refine G.wpS_one (A := ?_) hex rfl rfl (by simp) ?_ ?_ ?_
                rotate_left 2
                · intro w' hC K hK
                  obtain ⟨g0, g1, g2, g3⟩ := (HB0.out.ext (bel_call hE5.out hC.1)).cells4
                  go_wp2_with (fail)
                  refine hK _ ?_
                  first | exact Below.refl _ _ | assumption | ((repeat' (first | (with_reducible exact Below.refl _ _) | (with_reducible assumption) | (with_reducible refine below_drewN ?_ _) | (with_reducible refine Below.alloc ?_ ?_ _) | (with_reducible refine Below.drew ?_) | (with_reducible refine Below.setCell ?_ ?_ _) | (with_reducible refine Below.trans ?_ (Below.mono (by with_reducible assumption) ?_)) | go_size)))
                rotate_left 1
                · rfl
                clear hex; intro hex
                iterate 2
                  (refine G.wpS_one (A := ?_) hex rfl rfl (by simp) ?_ ?_ ?_
                   rotate_left 2
                   · intro w' hC K hK
                     go_wp2_with (fail)
                     refine hK _ ?_
                     first | exact Below.refl _ _ | assumption | ((repeat' (first | (with_reducible exact Below.refl _ _) | (with_reducible assumption) | (with_reducible refine below_drewN ?_ _) | (with_reducible refine Below.alloc ?_ ?_ _) | (with_reducible refine Below.drew ?_) | (with_reducible refine Below.setCell ?_ ?_ _) | (with_reducible refine Below.trans ?_ (Below.mono (by with_reducible assumption) ?_)) | go_size)))
                   rotate_left 1
                   · rfl
                   clear hex; intro hex)
                refine G.wpS_one (A := ?_) hex rfl rfl (by simp) ?_ ?_ ?_
                rotate_left 2
                · intro w' hC K hK
                  obtain ⟨a0, a1, a2, a3⟩ := HCL2.out _ (bel_call hE5.out hC.1)
                  go_wp2_with (fail)
                  refine hK _ ?_
                  first | exact Below.refl _ _ | assumption | ((repeat' (first | (with_reducible exact Below.refl _ _) | (with_reducible assumption) | (with_reducible refine below_drewN ?_ _) | (with_reducible refine Below.alloc ?_ ?_ _) | (with_reducible refine Below.drew ?_) | (with_reducible refine Below.setCell ?_ ?_ _) | (with_reducible refine Below.trans ?_ (Below.mono (by with_reducible assumption) ?_)) | go_size)))
                rotate_left 1
                · rfl
                clear hex; intro hex
                iterate 2
                  (refine G.wpS_one (A := ?_) hex rfl rfl (by simp) ?_ ?_ ?_
                   rotate_left 2
                   · intro w' hC K hK
                     go_wp2_with (fail)
                     refine hK _ ?_
                     first | exact Below.refl _ _ | assumption | ((repeat' (first | (with_reducible exact Below.refl _ _) | (with_reducible assumption) | (with_reducible refine below_drewN ?_ _) | (with_reducible refine Below.alloc ?_ ?_ _) | (with_reducible refine Below.drew ?_) | (with_reducible refine Below.setCell ?_ ?_ _) | (with_reducible refine Below.trans ?_ (Below.mono (by with_reducible assumption) ?_)) | go_size)))
                   rotate_left 1
                   · rfl
                   clear hex; intro hex)
                refine G.wpS_nil fun w6 hAll => ?_
                have HE6 := Lib.hid (bel_call hE5.out hAll.1)
                clear hAll hex HTU HCJ
                go_wp2_with fail
                go_roundw
                case rel => first | exact ⟨j + 1, by omega, by go_num, HE6⟩ | ((repeat apply Exists.intro); exact ⟨⟨j + 1, by omega, by go_num, HE6⟩, rfl⟩)
                case measure => simp [intOf]; omega
              · have hds := diff_set Z S hzs
                have hne : U ≠ T := fun e => hzs (txt_inj (by rw [hTU, HTT.out, e]))
                have hq : (U.toList == T.toList) = false := by
                  rw [beq_eq_false_iff_ne]
                  intro e
                  exact hne (bytes_eq (by rw [bytes_tl, bytes_tl] at e; exact e))
                clear hTU hzs
                go_wp2_with fail
                refine G.wp_region_stab (G := Ext) (fun _ => none) (by kernel_rfl) (by kernel_rfl) (fun _ _ h => by cases h) (fun hex => ?_)
                iterate 2
                  (refine G.wpS_one (A := ?_) hex rfl rfl (by simp) ?_ ?_ ?_
                   rotate_left 2
                   · intro w' hC K hK
                     go_wp2_with (fail)
                     refine hK _ ?_
                     first | exact Below.refl _ _ | assumption | ((repeat' (first | (with_reducible exact Below.refl _ _) | (with_reducible assumption) | (with_reducible refine below_drewN ?_ _) | (with_reducible refine Below.alloc ?_ ?_ _) | (with_reducible refine Below.drew ?_) | (with_reducible refine Below.setCell ?_ ?_ _) | (with_reducible refine Below.trans ?_ (Below.mono (by with_reducible assumption) ?_)) | go_size)))
                   rotate_left 1
                   · rfl
                   clear hex; intro hex)
                refine G.wpS_one (A := ?_) hex rfl rfl (by simp) ?_ ?_ ?_
                rotate_left 2
                · intro w' hC K hK
                  obtain ⟨g0, g1, g2, g3⟩ := (HB0.out.ext (bel_call hE5.out hC.1)).cells4
                  go_wp2_with (fail)
                  refine hK _ ?_
                  first | exact Below.refl _ _ | assumption | ((repeat' (first | (with_reducible exact Below.refl _ _) | (with_reducible assumption) | (with_reducible refine below_drewN ?_ _) | (with_reducible refine Below.alloc ?_ ?_ _) | (with_reducible refine Below.drew ?_) | (with_reducible refine Below.setCell ?_ ?_ _) | (with_reducible refine Below.trans ?_ (Below.mono (by with_reducible assumption) ?_)) | go_size)))
                rotate_left 1
                · rfl
                clear hex; intro hex
                iterate 2
                  (refine G.wpS_one (A := ?_) hex rfl rfl (by simp) ?_ ?_ ?_
                   rotate_left 2
                   · intro w' hC K hK
                     go_wp2_with (fail)
                     refine hK _ ?_
                     first | exact Below.refl _ _ | assumption | ((repeat' (first | (with_reducible exact Below.refl _ _) | (with_reducible assumption) | (with_reducible refine below_drewN ?_ _) | (with_reducible refine Below.alloc ?_ ?_ _) | (with_reducible refine Below.drew ?_) | (with_reducible refine Below.setCell ?_ ?_ _) | (with_reducible refine Below.trans ?_ (Below.mono (by with_reducible assumption) ?_)) | go_size)))
                   rotate_left 1
                   · rfl
                   clear hex; intro hex)
                refine G.wpS_one (A := ?_) hex rfl rfl (by simp) ?_ ?_ ?_
                rotate_left 2
                · intro w' hC K hK
                  obtain ⟨a0, a1, a2, a3⟩ := HCJ.out _ (bel_call hE5.out hC.1)
                  go_wp2_with (fail)
                  refine hK _ ?_
                  first | exact Below.refl _ _ | assumption | ((repeat' (first | (with_reducible exact Below.refl _ _) | (with_reducible assumption) | (with_reducible refine below_drewN ?_ _) | (with_reducible refine Below.alloc ?_ ?_ _) | (with_reducible refine Below.drew ?_) | (with_reducible refine Below.setCell ?_ ?_ _) | (with_reducible refine Below.trans ?_ (Below.mono (by with_reducible assumption) ?_)) | go_size)))
                rotate_left 1
                · rfl
                clear hex; intro hex
                refine G.wpS_one (A := ?_) hex rfl rfl (by simp) ?_ ?_ ?_
                rotate_left 2
                · intro w' hC K hK
                  go_wp2_with (refine (HTU.out _ (HW.out.1.ext (bel_call hE5.out hC.1))).mono ?_; rintro e wq ⟨rfl, hEq⟩)
                  refine hK _ ?_
                  first | exact Below.refl _ _ | assumption | ((repeat' (first | (with_reducible exact Below.refl _ _) | (with_reducible assumption) | (with_reducible refine below_drewN ?_ _) | (with_reducible refine Below.alloc ?_ ?_ _) | (with_reducible refine Below.drew ?_) | (with_reducible refine Below.setCell ?_ ?_ _) | (with_reducible refine Below.trans ?_ (Below.mono (by with_reducible assumption) ?_)) | go_size)))
                rotate_left 1
                · rfl
                clear hex; intro hex
                iterate 4
                  (refine G.wpS_one (A := ?_) hex rfl rfl (by simp) ?_ ?_ ?_
                   rotate_left 2
                   · intro w' hC K hK
                     go_wp2_with (fail)
                     refine hK _ ?_
                     first | exact Below.refl _ _ | assumption | ((repeat' (first | (with_reducible exact Below.refl _ _) | (with_reducible assumption) | (with_reducible refine below_drewN ?_ _) | (with_reducible refine Below.alloc ?_ ?_ _) | (with_reducible refine Below.drew ?_) | (with_reducible refine Below.setCell ?_ ?_ _) | (with_reducible refine Below.trans ?_ (Below.mono (by with_reducible assumption) ?_)) | go_size)))
                   rotate_left 1
                   · rfl
                   clear hex; intro hex)
                refine G.wpS_one (A := ?_) hex rfl rfl (by simp) ?_ ?_ ?_
                rotate_left 2
                · intro w' hC K hK
                  obtain ⟨g0, g1, g2, g3⟩ := (HB0.out.ext (bel_call hE5.out hC.1)).cells4
                  go_wp2_with (fail)
                  refine hK _ ?_
                  first | exact Below.refl _ _ | assumption | ((repeat' (first | (with_reducible exact Below.refl _ _) | (with_reducible assumption) | (with_reducible refine below_drewN ?_ _) | (with_reducible refine Below.alloc ?_ ?_ _) | (with_reducible refine Below.drew ?_) | (with_reducible refine Below.setCell ?_ ?_ _) | (with_reducible refine Below.trans ?_ (Below.mono (by with_reducible assumption) ?_)) | go_size)))
                rotate_left 1
                · rfl
                clear hex; intro hex
                iterate 2
                  (refine G.wpS_one (A := ?_) hex rfl rfl (by simp) ?_ ?_ ?_
                   rotate_left 2
                   · intro w' hC K hK
                     go_wp2_with (fail)
                     refine hK _ ?_
                     first | exact Below.refl _ _ | assumption | ((repeat' (first | (with_reducible exact Below.refl _ _) | (with_reducible assumption) | (with_reducible refine below_drewN ?_ _) | (with_reducible refine Below.alloc ?_ ?_ _) | (with_reducible refine Below.drew ?_) | (with_reducible refine Below.setCell ?_ ?_ _) | (with_reducible refine Below.trans ?_ (Below.mono (by with_reducible assumption) ?_)) | go_size)))
                   rotate_left 1
                   · rfl
                   clear hex; intro hex)
                refine G.wpS_one (A := ?_) hex rfl rfl (by simp) ?_ ?_ ?_
                rotate_left 2
                · intro w' hC K hK
                  obtain ⟨a0, a1, a2, a3⟩ := HCJ.out _ (bel_call hE5.out hC.1)
                  go_wp2_with (fail)
                  refine hK _ ?_
                  first | exact Below.refl _ _ | assumption | ((repeat' (first | (with_reducible exact Below.refl _ _) | (with_reducible assumption) | (with_reducible refine below_drewN ?_ _) | (with_reducible refine Below.alloc ?_ ?_ _) | (with_reducible refine Below.drew ?_) | (with_reducible refine Below.setCell ?_ ?_ _) | (with_reducible refine Below.trans ?_ (Below.mono (by with_reducible assumption) ?_)) | go_size)))
                rotate_left 1
                · rfl
                clear hex; intro hex
                iterate 2
                  (refine G.wpS_one (A := ?_) hex rfl rfl (by simp) ?_ ?_ ?_
                   rotate_left 2
                   · intro w' hC K hK
                     go_wp2_with (fail)
                     refine hK _ ?_
                     first | exact Below.refl _ _ | assumption | ((repeat' (first | (with_reducible exact Below.refl _ _) | (with_reducible assumption) | (with_reducible refine below_drewN ?_ _) | (with_reducible refine Below.alloc ?_ ?_ _) | (with_reducible refine Below.drew ?_) | (with_reducible refine Below.setCell ?_ ?_ _) | (with_reducible refine Below.trans ?_ (Below.mono (by with_reducible assumption) ?_)) | go_size)))
                   rotate_left 1
                   · rfl
                   clear hex; intro hex)
                refine G.wpS_one (A := ?_) hex rfl rfl (by simp) ?_ ?_ ?_
                rotate_left 2
                · intro w' hC K hK
                  obtain ⟨g0, g1, g2, g3⟩ := (HB0.out.ext (bel_call hE5.out hC.1)).cells4
                  go_wp2_with (fail)
                  refine hK _ ?_
                  first | exact Below.refl _ _ | assumption | ((repeat' (first | (with_reducible exact Below.refl _ _) | (with_reducible assumption) | (with_reducible refine below_drewN ?_ _) | (with_reducible refine Below.alloc ?_ ?_ _) | (with_reducible refine Below.drew ?_) | (with_reducible refine Below.setCell ?_ ?_ _) | (with_reducible refine Below.trans ?_ (Below.mono (by with_reducible assumption) ?_)) | go_size)))
                rotate_left 1
                · rfl
                clear hex; intro hex
                iterate 2
                  (refine G.wpS_one (A := ?_) hex rfl rfl (by simp) ?_ ?_ ?_
                   rotate_left 2
                   · intro w' hC K hK
                     go_wp2_with (fail)
                     refine hK _ ?_
                     first | exact Below.refl _ _ | assumption | ((repeat' (first | (with_reducible exact Below.refl _ _) | (with_reducible assumption) | (with_reducible refine below_drewN ?_ _) | (with_reducible refine Below.alloc ?_ ?_ _) | (with_reducible refine Below.drew ?_) | (with_reducible refine Below.setCell ?_ ?_ _) | (with_reducible refine Below.trans ?_ (Below.mono (by with_reducible assumption) ?_)) | go_size)))
                   rotate_left 1
                   · rfl
                   clear hex; intro hex)
                refine G.wpS_one (A := ?_) hex rfl rfl (by simp) ?_ ?_ ?_
                rotate_left 2
                · intro w' hC K hK
                  obtain ⟨a0, a1, a2, a3⟩ := HCL2.out _ (bel_call hE5.out hC.1)
                  go_wp2_with (fail)
                  refine hK _ ?_
                  first | exact Below.refl _ _ | assumption | ((repeat' (first | (with_reducible exact Below.refl _ _) | (with_reducible assumption) | (with_reducible refine below_drewN ?_ _) | (with_reducible refine Below.alloc ?_ ?_ _) | (with_reducible refine Below.drew ?_) | (with_reducible refine Below.setCell ?_ ?_ _) | (with_reducible refine Below.trans ?_ (Below.mono (by with_reducible assumption) ?_)) | go_size)))
                rotate_left 1
                · rfl
                clear hex; intro hex
                iterate 2
                  (refine G.wpS_one (A := ?_) hex rfl rfl (by simp) ?_ ?_ ?_
                   rotate_left 2
                   · intro w' hC K hK
                     go_wp2_with (fail)
                     refine hK _ ?_
                     first | exact Below.refl _ _ | assumption | ((repeat' (first | (with_reducible exact Below.refl _ _) | (with_reducible assumption) | (with_reducible refine below_drewN ?_ _) | (with_reducible refine Below.alloc ?_ ?_ _) | (with_reducible refine Below.drew ?_) | (with_reducible refine Below.setCell ?_ ?_ _) | (with_reducible refine Below.trans ?_ (Below.mono (by with_reducible assumption) ?_)) | go_size)))
                   rotate_left 1
                   · rfl
                   clear hex; intro hex)
                refine G.wpS_nil fun w6 hAll => ?_
                have HE6 := Lib.hid (bel_call hE5.out hAll.1)
                clear hAll hex HTU HCJ
                go_wp2_with fail
                go_roundw
                case rel => first | exact ⟨j + 1, by omega, by go_num, HE6⟩ | ((repeat apply Exists.intro); exact ⟨⟨j + 1, by omega, by go_num, HE6⟩, rfl⟩)
                case measure => simp [intOf]; omega
            · obtain rfl : j = k := by omega
              go_wp2_with fail
              go_roundw
              case rel => first | exact ⟨j + 1, by omega, by omega, by go_num, hE5⟩ | ((repeat apply Exists.intro); exact ⟨⟨j + 1, by omega, by omega, by go_num, hE5⟩, rfl⟩)
              case measure => simp [intOf]; omega
        · obtain rfl : k = 20 := by omega
          have hd1 : decide (((20 : Nat) : Int) < (LS.length : Int)) = true := by simp; omega
          go_wp2_with fail
          clear g0 g1 g2 g3 hd1
          go_loopw [10] (fun i wr => ∃ k : Nat, k ≤ 20 ∧ k ≤ LT.length ∧ i = .int .i64 k ∧ Hid (Ext w0 wr)) (fun i _ => 20 - (intOf i).toNat)
          case atStart => exact ⟨0, by omega, by omega, rfl, hE⟩
          case round =>
            clear hE
            obtain ⟨n, hn20, hnl, rfl, hE2⟩ := hrel
            obtain ⟨g0, g1, g2, g3⟩ := (HB0.out.ext hE2.out).cells4
            by_cases hnn : n < LT.length
            · have hd1 : decide ((n : Int) < (LT.length : Int)) = true := by simp; omega
              by_cases hn : n < 20
              · have hd2 : decide ((n : Int) < 20) = true := by simp; omega
                obtain ⟨tb, to, rfl, _, hcell⟩ := (HW.out.2.2.2.ext hE2.out).cells hnn
                obtain ⟨Q, hQ⟩ : ∃ Q, LT[n] = Q := ⟨_, rfl⟩
                have a0 := hcell n hnn
                rw [hQ] at a0
                have HCL2 := Lib.hid (show ∀ w', Ext w0 w' → w'.cell? ⟨tb, to + n, none⟩ = some (.string Q) from fun w' hx => by
                  obtain ⟨b', o', e1, hb', hc'⟩ := (HW.out.2.2.2.ext hx).cells hnn
                  cases e1
                  have := hc' n hnn
                  rw [hQ] at this
                  exact this)
                clear hcell hQ
                by_cases hql : 4000 < Q.size
                · have hd3 : decide ((4000 : Int) < (Q.size : Int)) = true := by simp; omega
                  go_wp2_with fail
                  go_roundw
                  case rel => first | exact ⟨n + 1, by omega, by omega, by go_num, hE2⟩ | ((repeat apply Exists.intro); exact ⟨⟨n + 1, by omega, by omega, by go_num, hE2⟩, rfl⟩)
                  case measure => simp [intOf]; omega
                · have hd3 : decide ((4000 : Int) < (Q.size : Int)) = false := by simp; omega
                  obtain ⟨T, hTT⟩ : ∃ T : ByteArray, qot Q.data.toList = T.data.toList := ⟨⟨(qot Q.data.toList).toArray⟩, by simp⟩
                  have hl := qot_len Q.data.toList
                  rw [hTT, ← len_list, ← len_list] at hl
                  have HTT := Lib.hid hTT
                  have HTX := Lib.hid (quote_is Q T (by omega) hTT wr)
                  clear hTT
                  go_wp2_with fail
                  refine HTX.out.mono ?_
                  rintro e w1 ⟨rfl, hx1⟩
                  have HE1 := Lib.hid (bel_call hE2.out hx1)
                  have hpb := unquote_back A T M Q HTT.out hAM (by omega) es ed w1 (HW.out.2.1.ext HE1.out)
                  have HPB := Lib.hid hpb
                  clear g0 g1 g2 g3
                  obtain ⟨g0, g1, g2, g3⟩ := (HB0.out.ext HE1.out).cells4
                  clear hpb hx1 HTX a0
                  go_wp2_with fail
                  refine HPB.out.mono ?_
                  rintro e w2 ⟨rfl, hx2⟩
                  have HE2 := Lib.hid (bel_call HE1.out hx2)
                  clear g0 g1 g2 g3
                  obtain ⟨g0, g1, g2, g3⟩ := (HB0.out.ext HE2.out).cells4
                  have a0 := HCL2.out _ HE2.out
                  clear hx2 HPB HE1
                  go_wp2_with fail
                  clear g0 g1 g2 g3 a0
                  go_loopw [15] (fun i wr => ∃ j : Nat, j ≤ n ∧ i = .int .i64 j ∧ Hid (Ext w0 wr)) (fun i _ => n - (intOf i).toNat)
                  case atStart => exact ⟨0, by omega, rfl, HE2⟩
                  case round =>
                    clear HE2
                    obtain ⟨j, hjk, rfl, hE5⟩ := hrel
                    by_cases hj : j < n
                    · have hd4 : decide ((j : Int) < (n : Int)) = true := by simp; omega
                      obtain ⟨Z, hZ⟩ : ∃ Z, LT[j]'(by omega) = Z := ⟨_, rfl⟩
                      have HCJ := Lib.hid (show ∀ w', Ext w0 w' → w'.cell? ⟨tb, to + j, none⟩ = some (.string Z) from fun w' hx => by
                        obtain ⟨b', o', e1, hb', hc'⟩ := (HW.out.2.2.2.ext hx).cells hnn
                        cases e1
                        have := hc' j (by omega)
                        rw [hZ] at this
                        exact this)
                      clear hZ
                      obtain ⟨U, hTU⟩ : ∃ U : ByteArray, qot Z.data.toList = U.data.toList := ⟨⟨(qot Z.data.toList).toArray⟩, by simp⟩
                      by_cases hzl : Z.size ≤ 4000
                      · have hd5 : decide ((Z.size : Int) ≤ 4000) = true := by simp; omega
                        have HTU := Lib.hid (fun w => quote_is Z U (by omega) hTU w)
                        by_cases hzs : Z = Q
                        · subst hzs
                          obtain rfl : U = T := bytes_eq (hTU.symm.trans HTT.out)
                          clear hTU
                          go_wp2_with fail
                          refine G.wp_region_stab (G := Ext) (fun _ => none) (by kernel_rfl) (by kernel_rfl) (fun _ _ h => by cases h) (fun hex => ?_)
                          iterate 2
                            (refine G.wpS_one (A := ?_) hex rfl rfl (by simp) ?_ ?_ ?_
                             rotate_left 2
                             · intro w' hC K hK
                               go_wp2_with (fail)
                               refine hK _ ?_
                               first | exact Below.refl _ _ | assumption | ((repeat' (first | (with_reducible exact Below.refl _ _) | (with_reducible assumption) | (with_reducible refine below_drewN ?_ _) | (with_reducible refine Below.alloc ?_ ?_ _) | (with_reducible refine Below.drew ?_) | (with_reducible refine Below.setCell ?_ ?_ _) | (with_reducible refine Below.trans ?_ (Below.mono (by with_reducible assumption) ?_)) | go_size)))
                             rotate_left 1
                             · rfl
                             clear hex; intro hex)
                          refine G.wpS_one (A := ?_) hex rfl rfl (by simp) ?_ ?_ ?_
                          rotate_left 2
                          · intro w' hC K hK
                            obtain ⟨g0, g1, g2, g3⟩ := (HB0.out.ext (bel_call hE5.out hC.1)).cells4
                            go_wp2_with (fail)
                            refine hK _ ?_
                            first | exact Below.refl _ _ | assumption | ((repeat' (first | (with_reducible exact Below.refl _ _) | (with_reducible assumption) | (with_reducible refine below_drewN ?_ _) | (with_reducible refine Below.alloc ?_ ?_ _) | (with_reducible refine Below.drew ?_) | (with_reducible refine Below.setCell ?_ ?_ _) | (with_reducible refine Below.trans ?_ (Below.mono (by with_reducible assumption) ?_)) | go_size)))
                          rotate_left 1
                          · rfl
                          clear hex; intro hex
                          iterate 2
                            (refine G.wpS_one (A := ?_) hex rfl rfl (by simp) ?_ ?_ ?_
                             rotate_left 2
                             · intro w' hC K hK
                               go_wp2_with (fail)
                               refine hK _ ?_
                               first | exact Below.refl _ _ | assumption | ((repeat' (first | (with_reducible exact Below.refl _ _) | (with_reducible assumption) | (with_reducible refine below_drewN ?_ _) | (with_reducible refine Below.alloc ?_ ?_ _) | (with_reducible refine Below.drew ?_) | (with_reducible refine Below.setCell ?_ ?_ _) | (with_reducible refine Below.trans ?_ (Below.mono (by with_reducible assumption) ?_)) | go_size)))
                             rotate_left 1
                             · rfl
                             clear hex; intro hex)
                          refine G.wpS_one (A := ?_) hex rfl rfl (by simp) ?_ ?_ ?_
                          rotate_left 2
                          · intro w' hC K hK
                            have a0 := HCJ.out _ (bel_call hE5.out hC.1)
                            go_wp2_with (fail)
                            refine hK _ ?_
                            first | exact Below.refl _ _ | assumption | ((repeat' (first | (with_reducible exact Below.refl _ _) | (with_reducible assumption) | (with_reducible refine below_drewN ?_ _) | (with_reducible refine Below.alloc ?_ ?_ _) | (with_reducible refine Below.drew ?_) | (with_reducible refine Below.setCell ?_ ?_ _) | (with_reducible refine Below.trans ?_ (Below.mono (by with_reducible assumption) ?_)) | go_size)))
                          rotate_left 1
                          · rfl
                          clear hex; intro hex
                          iterate 5
                            (refine G.wpS_one (A := ?_) hex rfl rfl (by simp) ?_ ?_ ?_
                             rotate_left 2
                             · intro w' hC K hK
                               go_wp2_with (fail)
                               refine hK _ ?_
                               first | exact Below.refl _ _ | assumption | ((repeat' (first | (with_reducible exact Below.refl _ _) | (with_reducible assumption) | (with_reducible refine below_drewN ?_ _) | (with_reducible refine Below.alloc ?_ ?_ _) | (with_reducible refine Below.drew ?_) | (with_reducible refine Below.setCell ?_ ?_ _) | (with_reducible refine Below.trans ?_ (Below.mono (by with_reducible assumption) ?_)) | go_size)))
                             rotate_left 1
                             · rfl
                             clear hex; intro hex)
                          refine G.wpS_one (A := ?_) hex rfl rfl (by simp) ?_ ?_ ?_
                          rotate_left 2
                          · intro w' hC K hK
                            obtain ⟨g0, g1, g2, g3⟩ := (HB0.out.ext (bel_call hE5.out hC.1)).cells4
                            go_wp2_with (fail)
                            refine hK _ ?_
                            first | exact Below.refl _ _ | assumption | ((repeat' (first | (with_reducible exact Below.refl _ _) | (with_reducible assumption) | (with_reducible refine below_drewN ?_ _) | (with_reducible refine Below.alloc ?_ ?_ _) | (with_reducible refine Below.drew ?_) | (with_reducible refine Below.setCell ?_ ?_ _) | (with_reducible refine Below.trans ?_ (Below.mono (by with_reducible assumption) ?_)) | go_size)))
                          rotate_left 1
                          · rfl
                          clear hex; intro hex
                          iterate 2
                            (refine G.wpS_one (A := ?_) hex rfl rfl (by simp) ?_ ?_ ?_
                             rotate_left 2
                             · intro w' hC K hK
                               go_wp2_with (fail)
                               refine hK _ ?_
                               first | exact Below.refl _ _ | assumption | ((repeat' (first | (with_reducible exact Below.refl _ _) | (with_reducible assumption) | (with_reducible refine below_drewN ?_ _) | (with_reducible refine Below.alloc ?_ ?_ _) | (with_reducible refine Below.drew ?_) | (with_reducible refine Below.setCell ?_ ?_ _) | (with_reducible refine Below.trans ?_ (Below.mono (by with_reducible assumption) ?_)) | go_size)))
                             rotate_left 1
                             · rfl
                             clear hex; intro hex)
                          refine G.wpS_one (A := ?_) hex rfl rfl (by simp) ?_ ?_ ?_
                          rotate_left 2
                          · intro w' hC K hK
                            have a0 := HCJ.out _ (bel_call hE5.out hC.1)
                            go_wp2_with (fail)
                            refine hK _ ?_
                            first | exact Below.refl _ _ | assumption | ((repeat' (first | (with_reducible exact Below.refl _ _) | (with_reducible assumption) | (with_reducible refine below_drewN ?_ _) | (with_reducible refine Below.alloc ?_ ?_ _) | (with_reducible refine Below.drew ?_) | (with_reducible refine Below.setCell ?_ ?_ _) | (with_reducible refine Below.trans ?_ (Below.mono (by with_reducible assumption) ?_)) | go_size)))
                          rotate_left 1
                          · rfl
                          clear hex; intro hex
                          refine G.wpS_one (A := ?_) hex rfl rfl (by simp) ?_ ?_ ?_
                          rotate_left 2
                          · intro w' hC K hK
                            go_wp2_with (refine (HTU.out _).mono ?_; rintro e wq ⟨rfl, hEq⟩)
                            refine hK _ ?_
                            first | exact Below.refl _ _ | assumption | ((repeat' (first | (with_reducible exact Below.refl _ _) | (with_reducible assumption) | (with_reducible refine below_drewN ?_ _) | (with_reducible refine Below.alloc ?_ ?_ _) | (with_reducible refine Below.drew ?_) | (with_reducible refine Below.setCell ?_ ?_ _) | (with_reducible refine Below.trans ?_ (Below.mono (by with_reducible assumption) ?_)) | go_size)))
                          rotate_left 1
                          · rfl
                          clear hex; intro hex
                          iterate 4
                            (refine G.wpS_one (A := ?_) hex rfl rfl (by simp) ?_ ?_ ?_
                             rotate_left 2
                             · intro w' hC K hK
                               go_wp2_with (fail)
                               refine hK _ ?_
                               first | exact Below.refl _ _ | assumption | ((repeat' (first | (with_reducible exact Below.refl _ _) | (with_reducible assumption) | (with_reducible refine below_drewN ?_ _) | (with_reducible refine Below.alloc ?_ ?_ _) | (with_reducible refine Below.drew ?_) | (with_reducible refine Below.setCell ?_ ?_ _) | (with_reducible refine Below.trans ?_ (Below.mono (by with_reducible assumption) ?_)) | go_size)))
                             rotate_left 1
                             · rfl
                             clear hex; intro hex)
                          refine G.wpS_one (A := ?_) hex rfl rfl (by simp) ?_ ?_ ?_
                          rotate_left 2
                          · intro w' hC K hK
                            obtain ⟨g0, g1, g2, g3⟩ := (HB0.out.ext (bel_call hE5.out hC.1)).cells4
                            go_wp2_with (fail)
                            refine hK _ ?_
                            first | exact Below.refl _ _ | assumption | ((repeat' (first | (with_reducible exact Below.refl _ _) | (with_reducible assumption) | (with_reducible refine below_drewN ?_ _) | (with_reducible refine Below.alloc ?_ ?_ _) | (with_reducible refine Below.drew ?_) | (with_reducible refine Below.setCell ?_ ?_ _) | (with_reducible refine Below.trans ?_ (Below.mono (by with_reducible assumption) ?_)) | go_size)))
                          rotate_left 1
                          · rfl
                          clear hex; intro hex
                          iterate 2
                            (refine G.wpS_one (A := ?_) hex rfl rfl (by simp) ?_ ?_ ?_
                             rotate_left 2
                             · intro w' hC K hK
                               go_wp2_with (fail)
                               refine hK _ ?_
                               first | exact Below.refl _ _ | assumption | ((repeat' (first | (with_reducible exact Below.refl _ _) | (with_reducible assumption) | (with_reducible refine below_drewN ?_ _) | (with_reducible refine Below.alloc ?_ ?_ _) | (with_reducible refine Below.drew ?_) | (with_reducible refine Below.setCell ?_ ?_ _) | (with_reducible refine Below.trans ?_ (Below.mono (by with_reducible assumption) ?_)) | go_size)))
                             rotate_left 1
                             · rfl
                             clear hex; intro hex)
                          refine G.wpS_one (A := ?_) hex rfl rfl (by simp) ?_ ?_ ?_
                          rotate_left 2
                          · intro w' hC K hK
                            have a0 := HCJ.out _ (bel_call hE5.out hC.1)
                            go_wp2_with (fail)
                            refine hK _ ?_
                            first | exact Below.refl _ _ | assumption | ((repeat' (first | (with_reducible exact Below.refl _ _) | (with_reducible assumption) | (with_reducible refine below_drewN ?_ _) | (with_reducible refine Below.alloc ?_ ?_ _) | (with_reducible refine Below.drew ?_) | (with_reducible refine Below.setCell ?_ ?_ _) | (with_reducible refine Below.trans ?_ (Below.mono (by with_reducible assumption) ?_)) | go_size)))
                          rotate_left 1
                          · rfl
                          clear hex; intro hex
                          iterate 2
                            (refine G.wpS_one (A := ?_) hex rfl rfl (by simp) ?_ ?_ ?_
                             rotate_left 2
                             · intro w' hC K hK
                               go_wp2_with (fail)
                               refine hK _ ?_
                               first | exact Below.refl _ _ | assumption | ((repeat' (first | (with_reducible exact Below.refl _ _) | (with_reducible assumption) | (with_reducible refine below_drewN ?_ _) | (with_reducible refine Below.alloc ?_ ?_ _) | (with_reducible refine Below.drew ?_) | (with_reducible refine Below.setCell ?_ ?_ _) | (with_reducible refine Below.trans ?_ (Below.mono (by with_reducible assumption) ?_)) | go_size)))
                             rotate_left 1
                             · rfl
                             clear hex; intro hex)
                          refine G.wpS_one (A := ?_) hex rfl rfl (by simp) ?_ ?_ ?_
                          rotate_left 2
                          · intro w' hC K hK
                            obtain ⟨g0, g1, g2, g3⟩ := (HB0.out.ext (bel_call hE5.out hC.1)).cells4
                            go_wp2_with (fail)
                            refine hK _ ?_
                            first | exact Below.refl _ _ | assumption | ((repeat' (first | (with_reducible exact Below.refl _ _) | (with_reducible assumption) | (with_reducible refine below_drewN ?_ _) | (with_reducible refine Below.alloc ?_ ?_ _) | (with_reducible refine Below.drew ?_) | (with_reducible refine Below.setCell ?_ ?_ _) | (with_reducible refine Below.trans ?_ (Below.mono (by with_reducible assumption) ?_)) | go_size)))
                          rotate_left 1
                          · rfl
                          clear hex; intro hex
                          iterate 2
                            (refine G.wpS_one (A := ?_) hex rfl rfl (by simp) ?_ ?_ ?_
                             rotate_left 2
                             · intro w' hC K hK
                               go_wp2_with (fail)
                               refine hK _ ?_
                               first | exact Below.refl _ _ | assumption | ((repeat' (first | (with_reducible exact Below.refl _ _) | (with_reducible assumption) | (with_reducible refine below_drewN ?_ _) | (with_reducible refine Below.alloc ?_ ?_ _) | (with_reducible refine Below.drew ?_) | (with_reducible refine Below.setCell ?_ ?_ _) | (with_reducible refine Below.trans ?_ (Below.mono (by with_reducible assumption) ?_)) | go_size)))
                             rotate_left 1
                             · rfl
                             clear hex; intro hex)
                          refine G.wpS_one (A := ?_) hex rfl rfl (by simp) ?_ ?_ ?_
                          rotate_left 2
                          · intro w' hC K hK
                            have a0 := HCL2.out _ (bel_call hE5.out hC.1)
                            go_wp2_with (fail)
                            refine hK _ ?_
                            first | exact Below.refl _ _ | assumption | ((repeat' (first | (with_reducible exact Below.refl _ _) | (with_reducible assumption) | (with_reducible refine below_drewN ?_ _) | (with_reducible refine Below.alloc ?_ ?_ _) | (with_reducible refine Below.drew ?_) | (with_reducible refine Below.setCell ?_ ?_ _) | (with_reducible refine Below.trans ?_ (Below.mono (by with_reducible assumption) ?_)) | go_size)))
                          rotate_left 1
                          · rfl
                          clear hex; intro hex
                          iterate 3
                            (refine G.wpS_one (A := ?_) hex rfl rfl (by simp) ?_ ?_ ?_
                             rotate_left 2
                             · intro w' hC K hK
                               go_wp2_with (fail)
                               refine hK _ ?_
                               first | exact Below.refl _ _ | assumption | ((repeat' (first | (with_reducible exact Below.refl _ _) | (with_reducible assumption) | (with_reducible refine below_drewN ?_ _) | (with_reducible refine Below.alloc ?_ ?_ _) | (with_reducible refine Below.drew ?_) | (with_reducible refine Below.setCell ?_ ?_ _) | (with_reducible refine Below.trans ?_ (Below.mono (by with_reducible assumption) ?_)) | go_size)))
                             rotate_left 1
                             · rfl
                             clear hex; intro hex)
                          refine G.wpS_nil fun w6 hAll => ?_
                          have HE6 := Lib.hid (bel_call hE5.out hAll.1)
                          clear hAll hex HTU HCJ
                          go_wp2_with fail
                          go_roundw
                          case rel => first | exact ⟨j + 1, by omega, by go_num, HE6⟩ | ((repeat apply Exists.intro); exact ⟨⟨j + 1, by omega, by go_num, HE6⟩, rfl⟩)
                          case measure => simp [intOf]; omega
                        · have hne : U ≠ T := fun e => hzs (bytes_eq (qot_inj (by rw [hTU, HTT.out, e])))
                          have hq : (U.toList == T.toList) = false := by
                            rw [beq_eq_false_iff_ne]
                            intro e
                            exact hne (bytes_eq (by rw [bytes_tl, bytes_tl] at e; exact e))
                          have hq2 : (Z.toList == Q.toList) = false := by
                            rw [beq_eq_false_iff_ne]
                            intro e
                            exact hzs (bytes_eq (by rw [bytes_tl, bytes_tl] at e; exact e))
                          clear hTU hzs
                          go_wp2_with fail
                          refine G.wp_region_stab (G := Ext) (fun _ => none) (by kernel_rfl) (by kernel_rfl) (fun _ _ h => by cases h) (fun hex => ?_)
                          iterate 2
                            (refine G.wpS_one (A := ?_) hex rfl rfl (by simp) ?_ ?_ ?_
                             rotate_left 2
                             · intro w' hC K hK
                               go_wp2_with (fail)
                               refine hK _ ?_
                               first | exact Below.refl _ _ | assumption | ((repeat' (first | (with_reducible exact Below.refl _ _) | (with_reducible assumption) | (with_reducible refine below_drewN ?_ _) | (with_reducible refine Below.alloc ?_ ?_ _) | (with_reducible refine Below.drew ?_) | (with_reducible refine Below.setCell ?_ ?_ _) | (with_reducible refine Below.trans ?_ (Below.mono (by with_reducible assumption) ?_)) | go_size)))
                             rotate_left 1
                             · rfl
                             clear hex; intro hex)
                          refine G.wpS_one (A := ?_) hex rfl rfl (by simp) ?_ ?_ ?_
                          rotate_left 2
                          · intro w' hC K hK
                            obtain ⟨g0, g1, g2, g3⟩ := (HB0.out.ext (bel_call hE5.out hC.1)).cells4
                            go_wp2_with (fail)
                            refine hK _ ?_
                            first | exact Below.refl _ _ | assumption | ((repeat' (first | (with_reducible exact Below.refl _ _) | (with_reducible assumption) | (with_reducible refine below_drewN ?_ _) | (with_reducible refine Below.alloc ?_ ?_ _) | (with_reducible refine Below.drew ?_) | (with_reducible refine Below.setCell ?_ ?_ _) | (with_reducible refine Below.trans ?_ (Below.mono (by with_reducible assumption) ?_)) | go_size)))
                          rotate_left 1
                          · rfl
                          clear hex; intro hex
                          iterate 2
                            (refine G.wpS_one (A := ?_) hex rfl rfl (by simp) ?_ ?_ ?_
                             rotate_left 2
                             · intro w' hC K hK
                               go_wp2_with (fail)
                               refine hK _ ?_
                               first | exact Below.refl _ _ | assumption | ((repeat' (first | (with_reducible exact Below.refl _ _) | (with_reducible assumption) | (with_reducible refine below_drewN ?_ _) | (with_reducible refine Below.alloc ?_ ?_ _) | (with_reducible refine Below.drew ?_) | (with_reducible refine Below.setCell ?_ ?_ _) | (with_reducible refine Below.trans ?_ (Below.mono (by with_reducible assumption) ?_)) | go_size)))
                             rotate_left 1
                             · rfl
                             clear hex; intro hex)
                          refine G.wpS_one (A := ?_) hex rfl rfl (by simp) ?_ ?_ ?_
                          rotate_left 2
                          · intro w' hC K hK
                            have a0 := HCJ.out _ (bel_call hE5.out hC.1)
                            go_wp2_with (fail)
                            refine hK _ ?_
                            first | exact Below.refl _ _ | assumption | ((repeat' (first | (with_reducible exact Below.refl _ _) | (with_reducible assumption) | (with_reducible refine below_drewN ?_ _) | (with_reducible refine Below.alloc ?_ ?_ _) | (with_reducible refine Below.drew ?_) | (with_reducible refine Below.setCell ?_ ?_ _) | (with_reducible refine Below.trans ?_ (Below.mono (by with_reducible assumption) ?_)) | go_size)))
                          rotate_left 1
                          · rfl
                          clear hex; intro hex
                          iterate 5
                            (refine G.wpS_one (A := ?_) hex rfl rfl (by simp) ?_ ?_ ?_
                             rotate_left 2
                             · intro w' hC K hK
                               go_wp2_with (fail)
                               refine hK _ ?_
                               first | exact Below.refl _ _ | assumption | ((repeat' (first | (with_reducible exact Below.refl _ _) | (with_reducible assumption) | (with_reducible refine below_drewN ?_ _) | (with_reducible refine Below.alloc ?_ ?_ _) | (with_reducible refine Below.drew ?_) | (with_reducible refine Below.setCell ?_ ?_ _) | (with_reducible refine Below.trans ?_ (Below.mono (by with_reducible assumption) ?_)) | go_size)))
                             rotate_left 1
                             · rfl
                             clear hex; intro hex)
                          refine G.wpS_one (A := ?_) hex rfl rfl (by simp) ?_ ?_ ?_
                          rotate_left 2
                          · intro w' hC K hK
                            obtain ⟨g0, g1, g2, g3⟩ := (HB0.out.ext (bel_call hE5.out hC.1)).cells4
                            go_wp2_with (fail)
                            refine hK _ ?_
                            first | exact Below.refl _ _ | assumption | ((repeat' (first | (with_reducible exact Below.refl _ _) | (with_reducible assumption) | (with_reducible refine below_drewN ?_ _) | (with_reducible refine Below.alloc ?_ ?_ _) | (with_reducible refine Below.drew ?_) | (with_reducible refine Below.setCell ?_ ?_ _) | (with_reducible refine Below.trans ?_ (Below.mono (by with_reducible assumption) ?_)) | go_size)))
                          rotate_left 1
                          · rfl
                          clear hex; intro hex
                          iterate 2
                            (refine G.wpS_one (A := ?_) hex rfl rfl (by simp) ?_ ?_ ?_
                             rotate_left 2
                             · intro w' hC K hK
                               go_wp2_with (fail)
                               refine hK _ ?_
                               first | exact Below.refl _ _ | assumption | ((repeat' (first | (with_reducible exact Below.refl _ _) | (with_reducible assumption) | (with_reducible refine below_drewN ?_ _) | (with_reducible refine Below.alloc ?_ ?_ _) | (with_reducible refine Below.drew ?_) | (with_reducible refine Below.setCell ?_ ?_ _) | (with_reducible refine Below.trans ?_ (Below.mono (by with_reducible assumption) ?_)) | go_size)))
                             rotate_left 1
                             · rfl
                             clear hex; intro hex)
                          refine G.wpS_one (A := ?_) hex rfl rfl (by simp) ?_ ?_ ?_
                          rotate_left 2
                          · intro w' hC K hK
                            have a0 := HCJ.out _ (bel_call hE5.out hC.1)
                            go_wp2_with (fail)
                            refine hK _ ?_
                            first | exact Below.refl _ _ | assumption | ((repeat' (first | (with_reducible exact Below.refl _ _) | (with_reducible assumption) | (with_reducible refine below_drewN ?_ _) | (with_reducible refine Below.alloc ?_ ?_ _) | (with_reducible refine Below.drew ?_) | (with_reducible refine Below.setCell ?_ ?_ _) | (with_reducible refine Below.trans ?_ (Below.mono (by with_reducible assumption) ?_)) | go_size)))
                          rotate_left 1
                          · rfl
                          clear hex; intro hex
                          refine G.wpS_one (A := ?_) hex rfl rfl (by simp) ?_ ?_ ?_
                          rotate_left 2
                          · intro w' hC K hK
                            go_wp2_with (refine (HTU.out _).mono ?_; rintro e wq ⟨rfl, hEq⟩)
                            refine hK _ ?_
                            first | exact Below.refl _ _ | assumption | ((repeat' (first | (with_reducible exact Below.refl _ _) | (with_reducible assumption) | (with_reducible refine below_drewN ?_ _) | (with_reducible refine Below.alloc ?_ ?_ _) | (with_reducible refine Below.drew ?_) | (with_reducible refine Below.setCell ?_ ?_ _) | (with_reducible refine Below.trans ?_ (Below.mono (by with_reducible assumption) ?_)) | go_size)))
                          rotate_left 1
                          · rfl
                          clear hex; intro hex
                          iterate 4
                            (refine G.wpS_one (A := ?_) hex rfl rfl (by simp) ?_ ?_ ?_
                             rotate_left 2
                             · intro w' hC K hK
                               go_wp2_with (fail)
                               refine hK _ ?_
                               first | exact Below.refl _ _ | assumption | ((repeat' (first | (with_reducible exact Below.refl _ _) | (with_reducible assumption) | (with_reducible refine below_drewN ?_ _) | (with_reducible refine Below.alloc ?_ ?_ _) | (with_reducible refine Below.drew ?_) | (with_reducible refine Below.setCell ?_ ?_ _) | (with_reducible refine Below.trans ?_ (Below.mono (by with_reducible assumption) ?_)) | go_size)))
                             rotate_left 1
                             · rfl
                             clear hex; intro hex)
                          refine G.wpS_one (A := ?_) hex rfl rfl (by simp) ?_ ?_ ?_
                          rotate_left 2
                          · intro w' hC K hK
                            obtain ⟨g0, g1, g2, g3⟩ := (HB0.out.ext (bel_call hE5.out hC.1)).cells4
                            go_wp2_with (fail)
                            refine hK _ ?_
                            first | exact Below.refl _ _ | assumption | ((repeat' (first | (with_reducible exact Below.refl _ _) | (with_reducible assumption) | (with_reducible refine below_drewN ?_ _) | (with_reducible refine Below.alloc ?_ ?_ _) | (with_reducible refine Below.drew ?_) | (with_reducible refine Below.setCell ?_ ?_ _) | (with_reducible refine Below.trans ?_ (Below.mono (by with_reducible assumption) ?_)) | go_size)))
                          rotate_left 1
                          · rfl
                          clear hex; intro hex
                          iterate 2
                            (refine G.wpS_one (A := ?_) hex rfl rfl (by simp) ?_ ?_ ?_
                             rotate_left 2
                             · intro w' hC K hK
                               go_wp2_with (fail)
                               refine hK _ ?_
                               first | exact Below.refl _ _ | assumption | ((repeat' (first | (with_reducible exact Below.refl _ _) | (with_reducible assumption) | (with_reducible refine below_drewN ?_ _) | (with_reducible refine Below.alloc ?_ ?_ _) | (with_reducible refine Below.drew ?_) | (with_reducible refine Below.setCell ?_ ?_ _) | (with_reducible refine Below.trans ?_ (Below.mono (by with_reducible assumption) ?_)) | go_size)))
                             rotate_left 1
                             · rfl
                             clear hex; intro hex)
                          refine G.wpS_one (A := ?_) hex rfl rfl (by simp) ?_ ?_ ?_
                          rotate_left 2
                          · intro w' hC K hK
                            have a0 := HCJ.out _ (bel_call hE5.out hC.1)
                            go_wp2_with (fail)
                            refine hK _ ?_
                            first | exact Below.refl _ _ | assumption | ((repeat' (first | (with_reducible exact Below.refl _ _) | (with_reducible assumption) | (with_reducible refine below_drewN ?_ _) | (with_reducible refine Below.alloc ?_ ?_ _) | (with_reducible refine Below.drew ?_) | (with_reducible refine Below.setCell ?_ ?_ _) | (with_reducible refine Below.trans ?_ (Below.mono (by with_reducible assumption) ?_)) | go_size)))
                          rotate_left 1
                          · rfl
                          clear hex; intro hex
                          iterate 2
                            (refine G.wpS_one (A := ?_) hex rfl rfl (by simp) ?_ ?_ ?_
                             rotate_left 2
                             · intro w' hC K hK
                               go_wp2_with (fail)
                               refine hK _ ?_
                               first | exact Below.refl _ _ | assumption | ((repeat' (first | (with_reducible exact Below.refl _ _) | (with_reducible assumption) | (with_reducible refine below_drewN ?_ _) | (with_reducible refine Below.alloc ?_ ?_ _) | (with_reducible refine Below.drew ?_) | (with_reducible refine Below.setCell ?_ ?_ _) | (with_reducible refine Below.trans ?_ (Below.mono (by with_reducible assumption) ?_)) | go_size)))
                             rotate_left 1
                             · rfl
                             clear hex; intro hex)
                          refine G.wpS_one (A := ?_) hex rfl rfl (by simp) ?_ ?_ ?_
                          rotate_left 2
                          · intro w' hC K hK
                            obtain ⟨g0, g1, g2, g3⟩ := (HB0.out.ext (bel_call hE5.out hC.1)).cells4
                            go_wp2_with (fail)
                            refine hK _ ?_
                            first | exact Below.refl _ _ | assumption | ((repeat' (first | (with_reducible exact Below.refl _ _) | (with_reducible assumption) | (with_reducible refine below_drewN ?_ _) | (with_reducible refine Below.alloc ?_ ?_ _) | (with_reducible refine Below.drew ?_) | (with_reducible refine Below.setCell ?_ ?_ _) | (with_reducible refine Below.trans ?_ (Below.mono (by with_reducible assumption) ?_)) | go_size)))
                          rotate_left 1
                          · rfl
                          clear hex; intro hex
                          iterate 2
                            (refine G.wpS_one (A := ?_) hex rfl rfl (by simp) ?_ ?_ ?_
                             rotate_left 2
                             · intro w' hC K hK
                               go_wp2_with (fail)
                               refine hK _ ?_
                               first | exact Below.refl _ _ | assumption | ((repeat' (first | (with_reducible exact Below.refl _ _) | (with_reducible assumption) | (with_reducible refine below_drewN ?_ _) | (with_reducible refine Below.alloc ?_ ?_ _) | (with_reducible refine Below.drew ?_) | (with_reducible refine Below.setCell ?_ ?_ _) | (with_reducible refine Below.trans ?_ (Below.mono (by with_reducible assumption) ?_)) | go_size)))
                             rotate_left 1
                             · rfl
                             clear hex; intro hex)
                          refine G.wpS_one (A := ?_) hex rfl rfl (by simp) ?_ ?_ ?_
                          rotate_left 2
                          · intro w' hC K hK
                            have a0 := HCL2.out _ (bel_call hE5.out hC.1)
                            go_wp2_with (fail)
                            refine hK _ ?_
                            first | exact Below.refl _ _ | assumption | ((repeat' (first | (with_reducible exact Below.refl _ _) | (with_reducible assumption) | (with_reducible refine below_drewN ?_ _) | (with_reducible refine Below.alloc ?_ ?_ _) | (with_reducible refine Below.drew ?_) | (with_reducible refine Below.setCell ?_ ?_ _) | (with_reducible refine Below.trans ?_ (Below.mono (by with_reducible assumption) ?_)) | go_size)))
                          rotate_left 1
                          · rfl
                          clear hex; intro hex
                          iterate 3
                            (refine G.wpS_one (A := ?_) hex rfl rfl (by simp) ?_ ?_ ?_
                             rotate_left 2
                             · intro w' hC K hK
                               go_wp2_with (fail)
                               refine hK _ ?_
                               first | exact Below.refl _ _ | assumption | ((repeat' (first | (with_reducible exact Below.refl _ _) | (with_reducible assumption) | (with_reducible refine below_drewN ?_ _) | (with_reducible refine Below.alloc ?_ ?_ _) | (with_reducible refine Below.drew ?_) | (with_reducible refine Below.setCell ?_ ?_ _) | (with_reducible refine Below.trans ?_ (Below.mono (by with_reducible assumption) ?_)) | go_size)))
                             rotate_left 1
                             · rfl
                             clear hex; intro hex)
                          refine G.wpS_nil fun w6 hAll => ?_
                          have HE6 := Lib.hid (bel_call hE5.out hAll.1)
                          clear hAll hex HTU HCJ
                          go_wp2_with fail
                          go_roundw
                          case rel => first | exact ⟨j + 1, by omega, by go_num, HE6⟩ | ((repeat apply Exists.intro); exact ⟨⟨j + 1, by omega, by go_num, HE6⟩, rfl⟩)
                          case measure => simp [intOf]; omega
                      · have hd5 : decide ((Z.size : Int) ≤ 4000) = false := by simp; omega
                        have HTU := Lib.hid (fun w => quote_any ⟨#[]⟩ (by decide) w)
                        clear hTU
                        go_wp2_with fail
                        refine G.wp_region_stab (G := Ext) (fun _ => none) (by kernel_rfl) (by kernel_rfl) (fun _ _ h => by cases h) (fun hex => ?_)
                        iterate 2
                          (refine G.wpS_one (A := ?_) hex rfl rfl (by simp) ?_ ?_ ?_
                           rotate_left 2
                           · intro w' hC K hK
                             go_wp2_with (fail)
                             refine hK _ ?_
                             first | exact Below.refl _ _ | assumption | ((repeat' (first | (with_reducible exact Below.refl _ _) | (with_reducible assumption) | (with_reducible refine below_drewN ?_ _) | (with_reducible refine Below.alloc ?_ ?_ _) | (with_reducible refine Below.drew ?_) | (with_reducible refine Below.setCell ?_ ?_ _) | (with_reducible refine Below.trans ?_ (Below.mono (by with_reducible assumption) ?_)) | go_size)))
                           rotate_left 1
                           · rfl
                           clear hex; intro hex)
                        refine G.wpS_one (A := ?_) hex rfl rfl (by simp) ?_ ?_ ?_
                        rotate_left 2
                        · intro w' hC K hK
                          obtain ⟨g0, g1, g2, g3⟩ := (HB0.out.ext (bel_call hE5.out hC.1)).cells4
                          go_wp2_with (fail)
                          refine hK _ ?_
                          first | exact Below.refl _ _ | assumption | ((repeat' (first | (with_reducible exact Below.refl _ _) | (with_reducible assumption) | (with_reducible refine below_drewN ?_ _) | (with_reducible refine Below.alloc ?_ ?_ _) | (with_reducible refine Below.drew ?_) | (with_reducible refine Below.setCell ?_ ?_ _) | (with_reducible refine Below.trans ?_ (Below.mono (by with_reducible assumption) ?_)) | go_size)))
                        rotate_left 1
                        · rfl
                        clear hex; intro hex
                        iterate 2
                          (refine G.wpS_one (A := ?_) hex rfl rfl (by simp) ?_ ?_ ?_
                           rotate_left 2
                           · intro w' hC K hK
                             go_wp2_with (fail)
                             refine hK _ ?_
                             first | exact Below.refl _ _ | assumption | ((repeat' (first | (with_reducible exact Below.refl _ _) | (with_reducible assumption) | (with_reducible refine below_drewN ?_ _) | (with_reducible refine Below.alloc ?_ ?_ _) | (with_reducible refine Below.drew ?_) | (with_reducible refine Below.setCell ?_ ?_ _) | (with_reducible refine Below.trans ?_ (Below.mono (by with_reducible assumption) ?_)) | go_size)))
                           rotate_left 1
                           · rfl
                           clear hex; intro hex)
                        refine G.wpS_one (A := ?_) hex rfl rfl (by simp) ?_ ?_ ?_
                        rotate_left 2
                        · intro w' hC K hK
                          have a0 := HCJ.out _ (bel_call hE5.out hC.1)
                          go_wp2_with (fail)
                          refine hK _ ?_
                          first | exact Below.refl _ _ | assumption | ((repeat' (first | (with_reducible exact Below.refl _ _) | (with_reducible assumption) | (with_reducible refine below_drewN ?_ _) | (with_reducible refine Below.alloc ?_ ?_ _) | (with_reducible refine Below.drew ?_) | (with_reducible refine Below.setCell ?_ ?_ _) | (with_reducible refine Below.trans ?_ (Below.mono (by with_reducible assumption) ?_)) | go_size)))
                        rotate_left 1
                        · rfl
                        clear hex; intro hex
                        iterate 5
                          (refine G.wpS_one (A := ?_) hex rfl rfl (by simp) ?_ ?_ ?_
                           rotate_left 2
                           · intro w' hC K hK
                             go_wp2_with (fail)
                             refine hK _ ?_
                             first | exact Below.refl _ _ | assumption | ((repeat' (first | (with_reducible exact Below.refl _ _) | (with_reducible assumption) | (with_reducible refine below_drewN ?_ _) | (with_reducible refine Below.alloc ?_ ?_ _) | (with_reducible refine Below.drew ?_) | (with_reducible refine Below.setCell ?_ ?_ _) | (with_reducible refine Below.trans ?_ (Below.mono (by with_reducible assumption) ?_)) | go_size)))
                           rotate_left 1
                           · rfl
                           clear hex; intro hex)
                        refine G.wpS_one (A := ?_) hex rfl rfl (by simp) ?_ ?_ ?_
                        rotate_left 2
                        · intro w' hC K hK
                          obtain ⟨g0, g1, g2, g3⟩ := (HB0.out.ext (bel_call hE5.out hC.1)).cells4
                          go_wp2_with (fail)
                          refine hK _ ?_
                          first | exact Below.refl _ _ | assumption | ((repeat' (first | (with_reducible exact Below.refl _ _) | (with_reducible assumption) | (with_reducible refine below_drewN ?_ _) | (with_reducible refine Below.alloc ?_ ?_ _) | (with_reducible refine Below.drew ?_) | (with_reducible refine Below.setCell ?_ ?_ _) | (with_reducible refine Below.trans ?_ (Below.mono (by with_reducible assumption) ?_)) | go_size)))
                        rotate_left 1
                        · rfl
                        clear hex; intro hex
                        iterate 2
                          (refine G.wpS_one (A := ?_) hex rfl rfl (by simp) ?_ ?_ ?_
                           rotate_left 2
                           · intro w' hC K hK
                             go_wp2_with (fail)
                             refine hK _ ?_
                             first | exact Below.refl _ _ | assumption | ((repeat' (first | (with_reducible exact Below.refl _ _) | (with_reducible assumption) | (with_reducible refine below_drewN ?_ _) | (with_reducible refine Below.alloc ?_ ?_ _) | (with_reducible refine Below.drew ?_) | (with_reducible refine Below.setCell ?_ ?_ _) | (with_reducible refine Below.trans ?_ (Below.mono (by with_reducible assumption) ?_)) | go_size)))
                           rotate_left 1
                           · rfl
                           clear hex; intro hex)
                        refine G.wpS_one (A := ?_) hex rfl rfl (by simp) ?_ ?_ ?_
                        rotate_left 2
                        · intro w' hC K hK
                          have a0 := HCJ.out _ (bel_call hE5.out hC.1)
                          go_wp2_with (fail)
                          refine hK _ ?_
                          first | exact Below.refl _ _ | assumption | ((repeat' (first | (with_reducible exact Below.refl _ _) | (with_reducible assumption) | (with_reducible refine below_drewN ?_ _) | (with_reducible refine Below.alloc ?_ ?_ _) | (with_reducible refine Below.drew ?_) | (with_reducible refine Below.setCell ?_ ?_ _) | (with_reducible refine Below.trans ?_ (Below.mono (by with_reducible assumption) ?_)) | go_size)))
                        rotate_left 1
                        · rfl
                        clear hex; intro hex
                        refine G.wpS_one (A := ?_) hex rfl rfl (by simp) ?_ ?_ ?_
                        rotate_left 2
                        · intro w' hC K hK
                          go_wp2_with (refine (HTU.out _).mono ?_; rintro e wq ⟨rfl, hEq⟩)
                          refine hK _ ?_
                          first | exact Below.refl _ _ | assumption | ((repeat' (first | (with_reducible exact Below.refl _ _) | (with_reducible assumption) | (with_reducible refine below_drewN ?_ _) | (with_reducible refine Below.alloc ?_ ?_ _) | (with_reducible refine Below.drew ?_) | (with_reducible refine Below.setCell ?_ ?_ _) | (with_reducible refine Below.trans ?_ (Below.mono (by with_reducible assumption) ?_)) | go_size)))
                        rotate_left 1
                        · rfl
                        clear hex; intro hex
                        iterate 4
                          (refine G.wpS_one (A := ?_) hex rfl rfl (by simp) ?_ ?_ ?_
                           rotate_left 2
                           · intro w' hC K hK
                             go_wp2_with (fail)
                             refine hK _ ?_
                             first | exact Below.refl _ _ | assumption | ((repeat' (first | (with_reducible exact Below.refl _ _) | (with_reducible assumption) | (with_reducible refine below_drewN ?_ _) | (with_reducible refine Below.alloc ?_ ?_ _) | (with_reducible refine Below.drew ?_) | (with_reducible refine Below.setCell ?_ ?_ _) | (with_reducible refine Below.trans ?_ (Below.mono (by with_reducible assumption) ?_)) | go_size)))
                           rotate_left 1
                           · rfl
                           clear hex; intro hex)
                        refine G.wpS_one (A := ?_) hex rfl rfl (by simp) ?_ ?_ ?_
                        rotate_left 2
                        · intro w' hC K hK
                          obtain ⟨g0, g1, g2, g3⟩ := (HB0.out.ext (bel_call hE5.out hC.1)).cells4
                          go_wp2_with (fail)
                          refine hK _ ?_
                          first | exact Below.refl _ _ | assumption | ((repeat' (first | (with_reducible exact Below.refl _ _) | (with_reducible assumption) | (with_reducible refine below_drewN ?_ _) | (with_reducible refine Below.alloc ?_ ?_ _) | (with_reducible refine Below.drew ?_) | (with_reducible refine Below.setCell ?_ ?_ _) | (with_reducible refine Below.trans ?_ (Below.mono (by with_reducible assumption) ?_)) | go_size)))
                        rotate_left 1
                        · rfl
                        clear hex; intro hex
                        iterate 2
                          (refine G.wpS_one (A := ?_) hex rfl rfl (by simp) ?_ ?_ ?_
                           rotate_left 2
                           · intro w' hC K hK
                             go_wp2_with (fail)
                             refine hK _ ?_
                             first | exact Below.refl _ _ | assumption | ((repeat' (first | (with_reducible exact Below.refl _ _) | (with_reducible assumption) | (with_reducible refine below_drewN ?_ _) | (with_reducible refine Below.alloc ?_ ?_ _) | (with_reducible refine Below.drew ?_) | (with_reducible refine Below.setCell ?_ ?_ _) | (with_reducible refine Below.trans ?_ (Below.mono (by with_reducible assumption) ?_)) | go_size)))
                           rotate_left 1
                           · rfl
                           clear hex; intro hex)
                        refine G.wpS_one (A := ?_) hex rfl rfl (by simp) ?_ ?_ ?_
                        rotate_left 2
                        · intro w' hC K hK
                          have a0 := HCJ.out _ (bel_call hE5.out hC.1)
                          go_wp2_with (fail)
                          refine hK _ ?_
                          first | exact Below.refl _ _ | assumption | ((repeat' (first | (with_reducible exact Below.refl _ _) | (with_reducible assumption) | (with_reducible refine below_drewN ?_ _) | (with_reducible refine Below.alloc ?_ ?_ _) | (with_reducible refine Below.drew ?_) | (with_reducible refine Below.setCell ?_ ?_ _) | (with_reducible refine Below.trans ?_ (Below.mono (by with_reducible assumption) ?_)) | go_size)))
                        rotate_left 1
                        · rfl
                        clear hex; intro hex
                        iterate 2
                          (refine G.wpS_one (A := ?_) hex rfl rfl (by simp) ?_ ?_ ?_
                           rotate_left 2
                           · intro w' hC K hK
                             go_wp2_with (fail)
                             refine hK _ ?_
                             first | exact Below.refl _ _ | assumption | ((repeat' (first | (with_reducible exact Below.refl _ _) | (with_reducible assumption) | (with_reducible refine below_drewN ?_ _) | (with_reducible refine Below.alloc ?_ ?_ _) | (with_reducible refine Below.drew ?_) | (with_reducible refine Below.setCell ?_ ?_ _) | (with_reducible refine Below.trans ?_ (Below.mono (by with_reducible assumption) ?_)) | go_size)))
                           rotate_left 1
                           · rfl
                           clear hex; intro hex)
                        refine G.wpS_one (A := ?_) hex rfl rfl (by simp) ?_ ?_ ?_
                        rotate_left 2
                        · intro w' hC K hK
                          obtain ⟨g0, g1, g2, g3⟩ := (HB0.out.ext (bel_call hE5.out hC.1)).cells4
                          go_wp2_with (fail)
                          refine hK _ ?_
                          first | exact Below.refl _ _ | assumption | ((repeat' (first | (with_reducible exact Below.refl _ _) | (with_reducible assumption) | (with_reducible refine below_drewN ?_ _) | (with_reducible refine Below.alloc ?_ ?_ _) | (with_reducible refine Below.drew ?_) | (with_reducible refine Below.setCell ?_ ?_ _) | (with_reducible refine Below.trans ?_ (Below.mono (by with_reducible assumption) ?_)) | go_size)))
                        rotate_left 1
                        · rfl
                        clear hex; intro hex
                        iterate 2
                          (refine G.wpS_one (A := ?_) hex rfl rfl (by simp) ?_ ?_ ?_
                           rotate_left 2
                           · intro w' hC K hK
                             go_wp2_with (fail)
                             refine hK _ ?_
                             first | exact Below.refl _ _ | assumption | ((repeat' (first | (with_reducible exact Below.refl _ _) | (with_reducible assumption) | (with_reducible refine below_drewN ?_ _) | (with_reducible refine Below.alloc ?_ ?_ _) | (with_reducible refine Below.drew ?_) | (with_reducible refine Below.setCell ?_ ?_ _) | (with_reducible refine Below.trans ?_ (Below.mono (by with_reducible assumption) ?_)) | go_size)))
                           rotate_left 1
                           · rfl
                           clear hex; intro hex)
                        refine G.wpS_one (A := ?_) hex rfl rfl (by simp) ?_ ?_ ?_
                        rotate_left 2
                        · intro w' hC K hK
                          have a0 := HCL2.out _ (bel_call hE5.out hC.1)
                          go_wp2_with (fail)
                          refine hK _ ?_
                          first | exact Below.refl _ _ | assumption | ((repeat' (first | (with_reducible exact Below.refl _ _) | (with_reducible assumption) | (with_reducible refine below_drewN ?_ _) | (with_reducible refine Below.alloc ?_ ?_ _) | (with_reducible refine Below.drew ?_) | (with_reducible refine Below.setCell ?_ ?_ _) | (with_reducible refine Below.trans ?_ (Below.mono (by with_reducible assumption) ?_)) | go_size)))
                        rotate_left 1
                        · rfl
                        clear hex; intro hex
                        iterate 3
                          (refine G.wpS_one (A := ?_) hex rfl rfl (by simp) ?_ ?_ ?_
                           rotate_left 2
                           · intro w' hC K hK
                             go_wp2_with (fail)
                             refine hK _ ?_
                             first | exact Below.refl _ _ | assumption | ((repeat' (first | (with_reducible exact Below.refl _ _) | (with_reducible assumption) | (with_reducible refine below_drewN ?_ _) | (with_reducible refine Below.alloc ?_ ?_ _) | (with_reducible refine Below.drew ?_) | (with_reducible refine Below.setCell ?_ ?_ _) | (with_reducible refine Below.trans ?_ (Below.mono (by with_reducible assumption) ?_)) | go_size)))
                           rotate_left 1
                           · rfl
                           clear hex; intro hex)
                        refine G.wpS_nil fun w6 hAll => ?_
                        have HE6 := Lib.hid (bel_call hE5.out hAll.1)
                        clear hAll hex HTU HCJ
                        go_wp2_with fail
                        go_roundw
                        case rel => first | exact ⟨j + 1, by omega, by go_num, HE6⟩ | ((repeat apply Exists.intro); exact ⟨⟨j + 1, by omega, by go_num, HE6⟩, rfl⟩)
                        case measure => simp [intOf]; omega
                    · obtain rfl : j = n := by omega
                      go_wp2_with fail
                      go_roundw
                      case rel => first | exact ⟨j + 1, by omega, by omega, by go_num, hE5⟩ | ((repeat apply Exists.intro); exact ⟨⟨j + 1, by omega, by omega, by go_num, hE5⟩, rfl⟩)
                      case measure => simp [intOf]; omega
              · obtain rfl : n = 20 := by omega
                have hd1 : decide (((20 : Nat) : Int) < (LT.length : Int)) = true := by simp; omega
                have hw := wakes_any es ed _ (HW.out.1.ext hE2.out) (HW.out.2.1.ext hE2.out)
                go_wp2_with fail
                clear g0 g1 g2 g3
                refine hw.mono ?_
                rintro e w9 ⟨rfl, hx9⟩
                have HX9 := Lib.hid (bel_call hE2.out hx9)
                clear hx9 hw
                go_wp2_with fail
                go_ret
                exact ⟨rfl, bel_call HX0.out HX9.out⟩
            · have hd1 : decide ((n : Int) < (LT.length : Int)) = false := by simp; omega
              have hw := wakes_any es ed _ (HW.out.1.ext hE2.out) (HW.out.2.1.ext hE2.out)
              go_wp2_with fail
              clear g0 g1 g2 g3
              refine hw.mono ?_
              rintro e w9 ⟨rfl, hx9⟩
              have HX9 := Lib.hid (bel_call hE2.out hx9)
              clear hx9 hw
              go_wp2_with fail
              go_ret
              exact ⟨rfl, bel_call HX0.out HX9.out⟩
      · have hd1 : decide ((k : Int) < (LS.length : Int)) = false := by simp; omega
        go_wp2_with fail
        clear g0 g1 g2 g3 hd1
        go_loopw [10] (fun i wr => ∃ k : Nat, k ≤ 20 ∧ k ≤ LT.length ∧ i = .int .i64 k ∧ Hid (Ext w0 wr)) (fun i _ => 20 - (intOf i).toNat)
        case atStart => exact ⟨0, by omega, by omega, rfl, hE⟩
        case round =>
          clear hE
          obtain ⟨n, hn20, hnl, rfl, hE2⟩ := hrel
          obtain ⟨g0, g1, g2, g3⟩ := (HB0.out.ext hE2.out).cells4
          by_cases hnn : n < LT.length
          · have hd1 : decide ((n : Int) < (LT.length : Int)) = true := by simp; omega
            by_cases hn : n < 20
            · have hd2 : decide ((n : Int) < 20) = true := by simp; omega
              obtain ⟨tb, to, rfl, _, hcell⟩ := (HW.out.2.2.2.ext hE2.out).cells hnn
              obtain ⟨Q, hQ⟩ : ∃ Q, LT[n] = Q := ⟨_, rfl⟩
              have a0 := hcell n hnn
              rw [hQ] at a0
              have HCL2 := Lib.hid (show ∀ w', Ext w0 w' → w'.cell? ⟨tb, to + n, none⟩ = some (.string Q) from fun w' hx => by
                obtain ⟨b', o', e1, hb', hc'⟩ := (HW.out.2.2.2.ext hx).cells hnn
                cases e1
                have := hc' n hnn
                rw [hQ] at this
                exact this)
              clear hcell hQ
              by_cases hql : 4000 < Q.size
              · have hd3 : decide ((4000 : Int) < (Q.size : Int)) = true := by simp; omega
                go_wp2_with fail
                go_roundw
                case rel => first | exact ⟨n + 1, by omega, by omega, by go_num, hE2⟩ | ((repeat apply Exists.intro); exact ⟨⟨n + 1, by omega, by omega, by go_num, hE2⟩, rfl⟩)
                case measure => simp [intOf]; omega
              · have hd3 : decide ((4000 : Int) < (Q.size : Int)) = false := by simp; omega
                obtain ⟨T, hTT⟩ : ∃ T : ByteArray, qot Q.data.toList = T.data.toList := ⟨⟨(qot Q.data.toList).toArray⟩, by simp⟩
                have hl := qot_len Q.data.toList
                rw [hTT, ← len_list, ← len_list] at hl
                have HTT := Lib.hid hTT
                have HTX := Lib.hid (quote_is Q T (by omega) hTT wr)
                clear hTT
                go_wp2_with fail
                refine HTX.out.mono ?_
                rintro e w1 ⟨rfl, hx1⟩
                have HE1 := Lib.hid (bel_call hE2.out hx1)
                have hpb := unquote_back A T M Q HTT.out hAM (by omega) es ed w1 (HW.out.2.1.ext HE1.out)
                have HPB := Lib.hid hpb
                clear g0 g1 g2 g3
                obtain ⟨g0, g1, g2, g3⟩ := (HB0.out.ext HE1.out).cells4
                clear hpb hx1 HTX a0
                go_wp2_with fail
                refine HPB.out.mono ?_
                rintro e w2 ⟨rfl, hx2⟩
                have HE2 := Lib.hid (bel_call HE1.out hx2)
                clear g0 g1 g2 g3
                obtain ⟨g0, g1, g2, g3⟩ := (HB0.out.ext HE2.out).cells4
                have a0 := HCL2.out _ HE2.out
                clear hx2 HPB HE1
                go_wp2_with fail
                clear g0 g1 g2 g3 a0
                go_loopw [15] (fun i wr => ∃ j : Nat, j ≤ n ∧ i = .int .i64 j ∧ Hid (Ext w0 wr)) (fun i _ => n - (intOf i).toNat)
                case atStart => exact ⟨0, by omega, rfl, HE2⟩
                case round =>
                  clear HE2
                  obtain ⟨j, hjk, rfl, hE5⟩ := hrel
                  by_cases hj : j < n
                  · have hd4 : decide ((j : Int) < (n : Int)) = true := by simp; omega
                    obtain ⟨Z, hZ⟩ : ∃ Z, LT[j]'(by omega) = Z := ⟨_, rfl⟩
                    have HCJ := Lib.hid (show ∀ w', Ext w0 w' → w'.cell? ⟨tb, to + j, none⟩ = some (.string Z) from fun w' hx => by
                      obtain ⟨b', o', e1, hb', hc'⟩ := (HW.out.2.2.2.ext hx).cells hnn
                      cases e1
                      have := hc' j (by omega)
                      rw [hZ] at this
                      exact this)
                    clear hZ
                    obtain ⟨U, hTU⟩ : ∃ U : ByteArray, qot Z.data.toList = U.data.toList := ⟨⟨(qot Z.data.toList).toArray⟩, by simp⟩
                    by_cases hzl : Z.size ≤ 4000
                    · have hd5 : decide ((Z.size : Int) ≤ 4000) = true := by simp; omega
                      have HTU := Lib.hid (fun w => quote_is Z U (by omega) hTU w)
                      by_cases hzs : Z = Q
                      · subst hzs
                        obtain rfl : U = T := bytes_eq (hTU.symm.trans HTT.out)
                        clear hTU
                        go_wp2_with fail
                        refine G.wp_region_stab (G := Ext) (fun _ => none) (by kernel_rfl) (by kernel_rfl) (fun _ _ h => by cases h) (fun hex => ?_)
                        iterate 2
                          (refine G.wpS_one (A := ?_) hex rfl rfl (by simp) ?_ ?_ ?_
                           rotate_left 2
                           · intro w' hC K hK
                             go_wp2_with (fail)
                             refine hK _ ?_
                             first | exact Below.refl _ _ | assumption | ((repeat' (first | (with_reducible exact Below.refl _ _) | (with_reducible assumption) | (with_reducible refine below_drewN ?_ _) | (with_reducible refine Below.alloc ?_ ?_ _) | (with_reducible refine Below.drew ?_) | (with_reducible refine Below.setCell ?_ ?_ _) | (with_reducible refine Below.trans ?_ (Below.mono (by with_reducible assumption) ?_)) | go_size)))
                           rotate_left 1
                           · rfl
                           clear hex; intro hex)
                        refine G.wpS_one (A := ?_) hex rfl rfl (by simp) ?_ ?_ ?_
                        rotate_left 2
                        · intro w' hC K hK
                          obtain ⟨g0, g1, g2, g3⟩ := (HB0.out.ext (bel_call hE5.out hC.1)).cells4
                          go_wp2_with (fail)
                          refine hK _ ?_
                          first | exact Below.refl _ _ | assumption | ((repeat' (first | (with_reducible exact Below.refl _ _) | (with_reducible assumption) | (with_reducible refine below_drewN ?_ _) | (with_reducible refine Below.alloc ?_ ?_ _) | (with_reducible refine Below.drew ?_) | (with_reducible refine Below.setCell ?_ ?_ _) | (with_reducible refine Below.trans ?_ (Below.mono (by with_reducible assumption) ?_)) | go_size)))
                        rotate_left 1
                        · rfl
                        clear hex; intro hex
                        iterate 2
                          (refine G.wpS_one (A := ?_) hex rfl rfl (by simp) ?_ ?_ ?_
                           rotate_left 2
                           · intro w' hC K hK
                             go_wp2_with (fail)
                             refine hK _ ?_
                             first | exact Below.refl _ _ | assumption | ((repeat' (first | (with_reducible exact Below.refl _ _) | (with_reducible assumption) | (with_reducible refine below_drewN ?_ _) | (with_reducible refine Below.alloc ?_ ?_ _) | (with_reducible refine Below.drew ?_) | (with_reducible refine Below.setCell ?_ ?_ _) | (with_reducible refine Below.trans ?_ (Below.mono (by with_reducible assumption) ?_)) | go_size)))
                           rotate_left 1
                           · rfl
                           clear hex; intro hex)
                        refine G.wpS_one (A := ?_) hex rfl rfl (by simp) ?_ ?_ ?_
                        rotate_left 2
                        · intro w' hC K hK
                          have a0 := HCJ.out _ (bel_call hE5.out hC.1)
                          go_wp2_with (fail)
                          refine hK _ ?_
                          first | exact Below.refl _ _ | assumption | ((repeat' (first | (with_reducible exact Below.refl _ _) | (with_reducible assumption) | (with_reducible refine below_drewN ?_ _) | (with_reducible refine Below.alloc ?_ ?_ _) | (with_reducible refine Below.drew ?_) | (with_reducible refine Below.setCell ?_ ?_ _) | (with_reducible refine Below.trans ?_ (Below.mono (by with_reducible assumption) ?_)) | go_size)))
                        rotate_left 1
                        · rfl
                        clear hex; intro hex
                        iterate 5
                          (refine G.wpS_one (A := ?_) hex rfl rfl (by simp) ?_ ?_ ?_
                           rotate_left 2
                           · intro w' hC K hK
                             go_wp2_with (fail)
                             refine hK _ ?_
                             first | exact Below.refl _ _ | assumption | ((repeat' (first | (with_reducible exact Below.refl _ _) | (with_reducible assumption) | (with_reducible refine below_drewN ?_ _) | (with_reducible refine Below.alloc ?_ ?_ _) | (with_reducible refine Below.drew ?_) | (with_reducible refine Below.setCell ?_ ?_ _) | (with_reducible refine Below.trans ?_ (Below.mono (by with_reducible assumption) ?_)) | go_size)))
                           rotate_left 1
                           · rfl
                           clear hex; intro hex)
                        refine G.wpS_one (A := ?_) hex rfl rfl (by simp) ?_ ?_ ?_
                        rotate_left 2
                        · intro w' hC K hK
                          obtain ⟨g0, g1, g2, g3⟩ := (HB0.out.ext (bel_call hE5.out hC.1)).cells4
                          go_wp2_with (fail)
                          refine hK _ ?_
                          first | exact Below.refl _ _ | assumption | ((repeat' (first | (with_reducible exact Below.refl _ _) | (with_reducible assumption) | (with_reducible refine below_drewN ?_ _) | (with_reducible refine Below.alloc ?_ ?_ _) | (with_reducible refine Below.drew ?_) | (with_reducible refine Below.setCell ?_ ?_ _) | (with_reducible refine Below.trans ?_ (Below.mono (by with_reducible assumption) ?_)) | go_size)))
                        rotate_left 1
                        · rfl
                        clear hex; intro hex
                        iterate 2
                          (refine G.wpS_one (A := ?_) hex rfl rfl (by simp) ?_ ?_ ?_
                           rotate_left 2
                           · intro w' hC K hK
                             go_wp2_with (fail)
                             refine hK _ ?_
                             first | exact Below.refl _ _ | assumption | ((repeat' (first | (with_reducible exact Below.refl _ _) | (with_reducible assumption) | (with_reducible refine below_drewN ?_ _) | (with_reducible refine Below.alloc ?_ ?_ _) | (with_reducible refine Below.drew ?_) | (with_reducible refine Below.setCell ?_ ?_ _) | (with_reducible refine Below.trans ?_ (Below.mono (by with_reducible assumption) ?_)) | go_size)))
                           rotate_left 1
                           · rfl
                           clear hex; intro hex)
                        refine G.wpS_one (A := ?_) hex rfl rfl (by simp) ?_ ?_ ?_
                        rotate_left 2
                        · intro w' hC K hK
                          have a0 := HCJ.out _ (bel_call hE5.out hC.1)
                          go_wp2_with (fail)
                          refine hK _ ?_
                          first | exact Below.refl _ _ | assumption | ((repeat' (first | (with_reducible exact Below.refl _ _) | (with_reducible assumption) | (with_reducible refine below_drewN ?_ _) | (with_reducible refine Below.alloc ?_ ?_ _) | (with_reducible refine Below.drew ?_) | (with_reducible refine Below.setCell ?_ ?_ _) | (with_reducible refine Below.trans ?_ (Below.mono (by with_reducible assumption) ?_)) | go_size)))
                        rotate_left 1
                        · rfl
                        clear hex; intro hex
                        refine G.wpS_one (A := ?_) hex rfl rfl (by simp) ?_ ?_ ?_
                        rotate_left 2
                        · intro w' hC K hK
                          go_wp2_with (refine (HTU.out _).mono ?_; rintro e wq ⟨rfl, hEq⟩)
                          refine hK _ ?_
                          first | exact Below.refl _ _ | assumption | ((repeat' (first | (with_reducible exact Below.refl _ _) | (with_reducible assumption) | (with_reducible refine below_drewN ?_ _) | (with_reducible refine Below.alloc ?_ ?_ _) | (with_reducible refine Below.drew ?_) | (with_reducible refine Below.setCell ?_ ?_ _) | (with_reducible refine Below.trans ?_ (Below.mono (by with_reducible assumption) ?_)) | go_size)))
                        rotate_left 1
                        · rfl
                        clear hex; intro hex
                        iterate 4
                          (refine G.wpS_one (A := ?_) hex rfl rfl (by simp) ?_ ?_ ?_
                           rotate_left 2
                           · intro w' hC K hK
                             go_wp2_with (fail)
                             refine hK _ ?_
                             first | exact Below.refl _ _ | assumption | ((repeat' (first | (with_reducible exact Below.refl _ _) | (with_reducible assumption) | (with_reducible refine below_drewN ?_ _) | (with_reducible refine Below.alloc ?_ ?_ _) | (with_reducible refine Below.drew ?_) | (with_reducible refine Below.setCell ?_ ?_ _) | (with_reducible refine Below.trans ?_ (Below.mono (by with_reducible assumption) ?_)) | go_size)))
                           rotate_left 1
                           · rfl
                           clear hex; intro hex)
                        refine G.wpS_one (A := ?_) hex rfl rfl (by simp) ?_ ?_ ?_
                        rotate_left 2
                        · intro w' hC K hK
                          obtain ⟨g0, g1, g2, g3⟩ := (HB0.out.ext (bel_call hE5.out hC.1)).cells4
                          go_wp2_with (fail)
                          refine hK _ ?_
                          first | exact Below.refl _ _ | assumption | ((repeat' (first | (with_reducible exact Below.refl _ _) | (with_reducible assumption) | (with_reducible refine below_drewN ?_ _) | (with_reducible refine Below.alloc ?_ ?_ _) | (with_reducible refine Below.drew ?_) | (with_reducible refine Below.setCell ?_ ?_ _) | (with_reducible refine Below.trans ?_ (Below.mono (by with_reducible assumption) ?_)) | go_size)))
                        rotate_left 1
                        · rfl
                        clear hex; intro hex
                        iterate 2
                          (refine G.wpS_one (A := ?_) hex rfl rfl (by simp) ?_ ?_ ?_
                           rotate_left 2
                           · intro w' hC K hK
                             go_wp2_with (fail)
                             refine hK _ ?_
                             first | exact Below.refl _ _ | assumption | ((repeat' (first | (with_reducible exact Below.refl _ _) | (with_reducible assumption) | (with_reducible refine below_drewN ?_ _) | (with_reducible refine Below.alloc ?_ ?_ _) | (with_reducible refine Below.drew ?_) | (with_reducible refine Below.setCell ?_ ?_ _) | (with_reducible refine Below.trans ?_ (Below.mono (by with_reducible assumption) ?_)) | go_size)))
                           rotate_left 1
                           · rfl
                           clear hex; intro hex)
                        refine G.wpS_one (A := ?_) hex rfl rfl (by simp) ?_ ?_ ?_
                        rotate_left 2
                        · intro w' hC K hK
                          have a0 := HCJ.out _ (bel_call hE5.out hC.1)
                          go_wp2_with (fail)
                          refine hK _ ?_
                          first | exact Below.refl _ _ | assumption | ((repeat' (first | (with_reducible exact Below.refl _ _) | (with_reducible assumption) | (with_reducible refine below_drewN ?_ _) | (with_reducible refine Below.alloc ?_ ?_ _) | (with_reducible refine Below.drew ?_) | (with_reducible refine Below.setCell ?_ ?_ _) | (with_reducible refine Below.trans ?_ (Below.mono (by with_reducible assumption) ?_)) | go_size)))
                        rotate_left 1
                        · rfl
                        clear hex; intro hex
                        iterate 2
                          (refine G.wpS_one (A := ?_) hex rfl rfl (by simp) ?_ ?_ ?_
                           rotate_left 2
                           · intro w' hC K hK
                             go_wp2_with (fail)
                             refine hK _ ?_
                             first | exact Below.refl _ _ | assumption | ((repeat' (first | (with_reducible exact Below.refl _ _) | (with_reducible assumption) | (with_reducible refine below_drewN ?_ _) | (with_reducible refine Below.alloc ?_ ?_ _) | (with_reducible refine Below.drew ?_) | (with_reducible refine Below.setCell ?_ ?_ _) | (with_reducible refine Below.trans ?_ (Below.mono (by with_reducible assumption) ?_)) | go_size)))
                           rotate_left 1
                           · rfl
                           clear hex; intro hex)
                        refine G.wpS_one (A := ?_) hex rfl rfl (by simp) ?_ ?_ ?_
                        rotate_left 2
                        · intro w' hC K hK
                          obtain ⟨g0, g1, g2, g3⟩ := (HB0.out.ext (bel_call hE5.out hC.1)).cells4
                          go_wp2_with (fail)
                          refine hK _ ?_
                          first | exact Below.refl _ _ | assumption | ((repeat' (first | (with_reducible exact Below.refl _ _) | (with_reducible assumption) | (with_reducible refine below_drewN ?_ _) | (with_reducible refine Below.alloc ?_ ?_ _) | (with_reducible refine Below.drew ?_) | (with_reducible refine Below.setCell ?_ ?_ _) | (with_reducible refine Below.trans ?_ (Below.mono (by with_reducible assumption) ?_)) | go_size)))
                        rotate_left 1
                        · rfl
                        clear hex; intro hex
                        iterate 2
                          (refine G.wpS_one (A := ?_) hex rfl rfl (by simp) ?_ ?_ ?_
                           rotate_left 2
                           · intro w' hC K hK
                             go_wp2_with (fail)
                             refine hK _ ?_
                             first | exact Below.refl _ _ | assumption | ((repeat' (first | (with_reducible exact Below.refl _ _) | (with_reducible assumption) | (with_reducible refine below_drewN ?_ _) | (with_reducible refine Below.alloc ?_ ?_ _) | (with_reducible refine Below.drew ?_) | (with_reducible refine Below.setCell ?_ ?_ _) | (with_reducible refine Below.trans ?_ (Below.mono (by with_reducible assumption) ?_)) | go_size)))
                           rotate_left 1
                           · rfl
                           clear hex; intro hex)
                        refine G.wpS_one (A := ?_) hex rfl rfl (by simp) ?_ ?_ ?_
                        rotate_left 2
                        · intro w' hC K hK
                          have a0 := HCL2.out _ (bel_call hE5.out hC.1)
                          go_wp2_with (fail)
                          refine hK _ ?_
                          first | exact Below.refl _ _ | assumption | ((repeat' (first | (with_reducible exact Below.refl _ _) | (with_reducible assumption) | (with_reducible refine below_drewN ?_ _) | (with_reducible refine Below.alloc ?_ ?_ _) | (with_reducible refine Below.drew ?_) | (with_reducible refine Below.setCell ?_ ?_ _) | (with_reducible refine Below.trans ?_ (Below.mono (by with_reducible assumption) ?_)) | go_size)))
                        rotate_left 1
                        · rfl
                        clear hex; intro hex
                        iterate 3
                          (refine G.wpS_one (A := ?_) hex rfl rfl (by simp) ?_ ?_ ?_
                           rotate_left 2
                           · intro w' hC K hK
                             go_wp2_with (fail)
                             refine hK _ ?_
                             first | exact Below.refl _ _ | assumption | ((repeat' (first | (with_reducible exact Below.refl _ _) | (with_reducible assumption) | (with_reducible refine below_drewN ?_ _) | (with_reducible refine Below.alloc ?_ ?_ _) | (with_reducible refine Below.drew ?_) | (with_reducible refine Below.setCell ?_ ?_ _) | (with_reducible refine Below.trans ?_ (Below.mono (by with_reducible assumption) ?_)) | go_size)))
                           rotate_left 1
                           · rfl
                           clear hex; intro hex)
                        refine G.wpS_nil fun w6 hAll => ?_
                        have HE6 := Lib.hid (bel_call hE5.out hAll.1)
                        clear hAll hex HTU HCJ
                        go_wp2_with fail
                        go_roundw
                        case rel => first | exact ⟨j + 1, by omega, by go_num, HE6⟩ | ((repeat apply Exists.intro); exact ⟨⟨j + 1, by omega, by go_num, HE6⟩, rfl⟩)
                        case measure => simp [intOf]; omega
                      · have hne : U ≠ T := fun e => hzs (bytes_eq (qot_inj (by rw [hTU, HTT.out, e])))
                        have hq : (U.toList == T.toList) = false := by
                          rw [beq_eq_false_iff_ne]
                          intro e
                          exact hne (bytes_eq (by rw [bytes_tl, bytes_tl] at e; exact e))
                        have hq2 : (Z.toList == Q.toList) = false := by
                          rw [beq_eq_false_iff_ne]
                          intro e
                          exact hzs (bytes_eq (by rw [bytes_tl, bytes_tl] at e; exact e))
                        clear hTU hzs
                        go_wp2_with fail
                        refine G.wp_region_stab (G := Ext) (fun _ => none) (by kernel_rfl) (by kernel_rfl) (fun _ _ h => by cases h) (fun hex => ?_)
                        iterate 2
                          (refine G.wpS_one (A := ?_) hex rfl rfl (by simp) ?_ ?_ ?_
                           rotate_left 2
                           · intro w' hC K hK
                             go_wp2_with (fail)
                             refine hK _ ?_
                             first | exact Below.refl _ _ | assumption | ((repeat' (first | (with_reducible exact Below.refl _ _) | (with_reducible assumption) | (with_reducible refine below_drewN ?_ _) | (with_reducible refine Below.alloc ?_ ?_ _) | (with_reducible refine Below.drew ?_) | (with_reducible refine Below.setCell ?_ ?_ _) | (with_reducible refine Below.trans ?_ (Below.mono (by with_reducible assumption) ?_)) | go_size)))
                           rotate_left 1
                           · rfl
                           clear hex; intro hex)
                        refine G.wpS_one (A := ?_) hex rfl rfl (by simp) ?_ ?_ ?_
                        rotate_left 2
                        · intro w' hC K hK
                          obtain ⟨g0, g1, g2, g3⟩ := (HB0.out.ext (bel_call hE5.out hC.1)).cells4
                          go_wp2_with (fail)
                          refine hK _ ?_
                          first | exact Below.refl _ _ | assumption | ((repeat' (first | (with_reducible exact Below.refl _ _) | (with_reducible assumption) | (with_reducible refine below_drewN ?_ _) | (with_reducible refine Below.alloc ?_ ?_ _) | (with_reducible refine Below.drew ?_) | (with_reducible refine Below.setCell ?_ ?_ _) | (with_reducible refine Below.trans ?_ (Below.mono (by with_reducible assumption) ?_)) | go_size)))
                        rotate_left 1
                        · rfl
                        clear hex; intro hex
                        iterate 2
                          (refine G.wpS_one (A := ?_) hex rfl rfl (by simp) ?_ ?_ ?_
                           rotate_left 2
                           · intro w' hC K hK
                             go_wp2_with (fail)
                             refine hK _ ?_
                             first | exact Below.refl _ _ | assumption | ((repeat' (first | (with_reducible exact Below.refl _ _) | (with_reducible assumption) | (with_reducible refine below_drewN ?_ _) | (with_reducible refine Below.alloc ?_ ?_ _) | (with_reducible refine Below.drew ?_) | (with_reducible refine Below.setCell ?_ ?_ _) | (with_reducible refine Below.trans ?_ (Below.mono (by with_reducible assumption) ?_)) | go_size)))
                           rotate_left 1
                           · rfl
                           clear hex; intro hex)
                        refine G.wpS_one (A := ?_) hex rfl rfl (by simp) ?_ ?_ ?_
                        rotate_left 2
                        · intro w' hC K hK
                          have a0 := HCJ.out _ (bel_call hE5.out hC.1)
                          go_wp2_with (fail)
                          refine hK _ ?_
                          first | exact Below.refl _ _ | assumption | ((repeat' (first | (with_reducible exact Below.refl _ _) | (with_reducible assumption) | (with_reducible refine below_drewN ?_ _) | (with_reducible refine Below.alloc ?_ ?_ _) | (with_reducible refine Below.drew ?_) | (with_reducible refine Below.setCell ?_ ?_ _) | (with_reducible refine Below.trans ?_ (Below.mono (by with_reducible assumption) ?_)) | go_size)))
                        rotate_left 1
                        · rfl
                        clear hex; intro hex
                        iterate 5
                          (refine G.wpS_one (A := ?_) hex rfl rfl (by simp) ?_ ?_ ?_
                           rotate_left 2
                           · intro w' hC K hK
                             go_wp2_with (fail)
                             refine hK _ ?_
                             first | exact Below.refl _ _ | assumption | ((repeat' (first | (with_reducible exact Below.refl _ _) | (with_reducible assumption) | (with_reducible refine below_drewN ?_ _) | (with_reducible refine Below.alloc ?_ ?_ _) | (with_reducible refine Below.drew ?_) | (with_reducible refine Below.setCell ?_ ?_ _) | (with_reducible refine Below.trans ?_ (Below.mono (by with_reducible assumption) ?_)) | go_size)))
                           rotate_left 1
                           · rfl
                           clear hex; intro hex)
                        refine G.wpS_one (A := ?_) hex rfl rfl (by simp) ?_ ?_ ?_
                        rotate_left 2
                        · intro w' hC K hK
                          obtain ⟨g0, g1, g2, g3⟩ := (HB0.out.ext (bel_call hE5.out hC.1)).cells4
                          go_wp2_with (fail)
                          refine hK _ ?_
                          first | exact Below.refl _ _ | assumption | ((repeat' (first | (with_reducible exact Below.refl _ _) | (with_reducible assumption) | (with_reducible refine below_drewN ?_ _) | (with_reducible refine Below.alloc ?_ ?_ _) | (with_reducible refine Below.drew ?_) | (with_reducible refine Below.setCell ?_ ?_ _) | (with_reducible refine Below.trans ?_ (Below.mono (by with_reducible assumption) ?_)) | go_size)))
                        rotate_left 1
                        · rfl
                        clear hex; intro hex
                        iterate 2
                          (refine G.wpS_one (A := ?_) hex rfl rfl (by simp) ?_ ?_ ?_
                           rotate_left 2
                           · intro w' hC K hK
                             go_wp2_with (fail)
                             refine hK _ ?_
                             first | exact Below.refl _ _ | assumption | ((repeat' (first | (with_reducible exact Below.refl _ _) | (with_reducible assumption) | (with_reducible refine below_drewN ?_ _) | (with_reducible refine Below.alloc ?_ ?_ _) | (with_reducible refine Below.drew ?_) | (with_reducible refine Below.setCell ?_ ?_ _) | (with_reducible refine Below.trans ?_ (Below.mono (by with_reducible assumption) ?_)) | go_size)))
                           rotate_left 1
                           · rfl
                           clear hex; intro hex)
                        refine G.wpS_one (A := ?_) hex rfl rfl (by simp) ?_ ?_ ?_
                        rotate_left 2
                        · intro w' hC K hK
                          have a0 := HCJ.out _ (bel_call hE5.out hC.1)
                          go_wp2_with (fail)
                          refine hK _ ?_
                          first | exact Below.refl _ _ | assumption | ((repeat' (first | (with_reducible exact Below.refl _ _) | (with_reducible assumption) | (with_reducible refine below_drewN ?_ _) | (with_reducible refine Below.alloc ?_ ?_ _) | (with_reducible refine Below.drew ?_) | (with_reducible refine Below.setCell ?_ ?_ _) | (with_reducible refine Below.trans ?_ (Below.mono (by with_reducible assumption) ?_)) | go_size)))
                        rotate_left 1
                        · rfl
                        clear hex; intro hex
                        refine G.wpS_one (A := ?_) hex rfl rfl (by simp) ?_ ?_ ?_
                        rotate_left 2
                        · intro w' hC K hK
                          go_wp2_with (refine (HTU.out _).mono ?_; rintro e wq ⟨rfl, hEq⟩)
                          refine hK _ ?_
                          first | exact Below.refl _ _ | assumption | ((repeat' (first | (with_reducible exact Below.refl _ _) | (with_reducible assumption) | (with_reducible refine below_drewN ?_ _) | (with_reducible refine Below.alloc ?_ ?_ _) | (with_reducible refine Below.drew ?_) | (with_reducible refine Below.setCell ?_ ?_ _) | (with_reducible refine Below.trans ?_ (Below.mono (by with_reducible assumption) ?_)) | go_size)))
                        rotate_left 1
                        · rfl
                        clear hex; intro hex
                        iterate 4
                          (refine G.wpS_one (A := ?_) hex rfl rfl (by simp) ?_ ?_ ?_
                           rotate_left 2
                           · intro w' hC K hK
                             go_wp2_with (fail)
                             refine hK _ ?_
                             first | exact Below.refl _ _ | assumption | ((repeat' (first | (with_reducible exact Below.refl _ _) | (with_reducible assumption) | (with_reducible refine below_drewN ?_ _) | (with_reducible refine Below.alloc ?_ ?_ _) | (with_reducible refine Below.drew ?_) | (with_reducible refine Below.setCell ?_ ?_ _) | (with_reducible refine Below.trans ?_ (Below.mono (by with_reducible assumption) ?_)) | go_size)))
                           rotate_left 1
                           · rfl
                           clear hex; intro hex)
                        refine G.wpS_one (A := ?_) hex rfl rfl (by simp) ?_ ?_ ?_
                        rotate_left 2
                        · intro w' hC K hK
                          obtain ⟨g0, g1, g2, g3⟩ := (HB0.out.ext (bel_call hE5.out hC.1)).cells4
                          go_wp2_with (fail)
                          refine hK _ ?_
                          first | exact Below.refl _ _ | assumption | ((repeat' (first | (with_reducible exact Below.refl _ _) | (with_reducible assumption) | (with_reducible refine below_drewN ?_ _) | (with_reducible refine Below.alloc ?_ ?_ _) | (with_reducible refine Below.drew ?_) | (with_reducible refine Below.setCell ?_ ?_ _) | (with_reducible refine Below.trans ?_ (Below.mono (by with_reducible assumption) ?_)) | go_size)))
                        rotate_left 1
                        · rfl
                        clear hex; intro hex
                        iterate 2
                          (refine G.wpS_one (A := ?_) hex rfl rfl (by simp) ?_ ?_ ?_
                           rotate_left 2
                           · intro w' hC K hK
                             go_wp2_with (fail)
                             refine hK _ ?_
                             first | exact Below.refl _ _ | assumption | ((repeat' (first | (with_reducible exact Below.refl _ _) | (with_reducible assumption) | (with_reducible refine below_drewN ?_ _) | (with_reducible refine Below.alloc ?_ ?_ _) | (with_reducible refine Below.drew ?_) | (with_reducible refine Below.setCell ?_ ?_ _) | (with_reducible refine Below.trans ?_ (Below.mono (by with_reducible assumption) ?_)) | go_size)))
                           rotate_left 1
                           · rfl
                           clear hex; intro hex)
                        refine G.wpS_one (A := ?_) hex rfl rfl (by simp) ?_ ?_ ?_
                        rotate_left 2
                        · intro w' hC K hK
                          have a0 := HCJ.out _ (bel_call hE5.out hC.1)
                          go_wp2_with (fail)
                          refine hK _ ?_
                          first | exact Below.refl _ _ | assumption | ((repeat' (first | (with_reducible exact Below.refl _ _) | (with_reducible assumption) | (with_reducible refine below_drewN ?_ _) | (with_reducible refine Below.alloc ?_ ?_ _) | (with_reducible refine Below.drew ?_) | (with_reducible refine Below.setCell ?_ ?_ _) | (with_reducible refine Below.trans ?_ (Below.mono (by with_reducible assumption) ?_)) | go_size)))
                        rotate_left 1
                        · rfl
                        clear hex; intro hex
                        iterate 2
                          (refine G.wpS_one (A := ?_) hex rfl rfl (by simp) ?_ ?_ ?_
                           rotate_left 2
                           · intro w' hC K hK
                             go_wp2_with (fail)
                             refine hK _ ?_
                             first | exact Below.refl _ _ | assumption | ((repeat' (first | (with_reducible exact Below.refl _ _) | (with_reducible assumption) | (with_reducible refine below_drewN ?_ _) | (with_reducible refine Below.alloc ?_ ?_ _) | (with_reducible refine Below.drew ?_) | (with_reducible refine Below.setCell ?_ ?_ _) | (with_reducible refine Below.trans ?_ (Below.mono (by with_reducible assumption) ?_)) | go_size)))
                           rotate_left 1
                           · rfl
                           clear hex; intro hex)
                        refine G.wpS_one (A := ?_) hex rfl rfl (by simp) ?_ ?_ ?_
                        rotate_left 2
                        · intro w' hC K hK
                          obtain ⟨g0, g1, g2, g3⟩ := (HB0.out.ext (bel_call hE5.out hC.1)).cells4
                          go_wp2_with (fail)
                          refine hK _ ?_
                          first | exact Below.refl _ _ | assumption | ((repeat' (first | (with_reducible exact Below.refl _ _) | (with_reducible assumption) | (with_reducible refine below_drewN ?_ _) | (with_reducible refine Below.alloc ?_ ?_ _) | (with_reducible refine Below.drew ?_) | (with_reducible refine Below.setCell ?_ ?_ _) | (with_reducible refine Below.trans ?_ (Below.mono (by with_reducible assumption) ?_)) | go_size)))
                        rotate_left 1
                        · rfl
                        clear hex; intro hex
                        iterate 2
                          (refine G.wpS_one (A := ?_) hex rfl rfl (by simp) ?_ ?_ ?_
                           rotate_left 2
                           · intro w' hC K hK
                             go_wp2_with (fail)
                             refine hK _ ?_
                             first | exact Below.refl _ _ | assumption | ((repeat' (first | (with_reducible exact Below.refl _ _) | (with_reducible assumption) | (with_reducible refine below_drewN ?_ _) | (with_reducible refine Below.alloc ?_ ?_ _) | (with_reducible refine Below.drew ?_) | (with_reducible refine Below.setCell ?_ ?_ _) | (with_reducible refine Below.trans ?_ (Below.mono (by with_reducible assumption) ?_)) | go_size)))
                           rotate_left 1
                           · rfl
                           clear hex; intro hex)
                        refine G.wpS_one (A := ?_) hex rfl rfl (by simp) ?_ ?_ ?_
                        rotate_left 2
                        · intro w' hC K hK
                          have a0 := HCL2.out _ (bel_call hE5.out hC.1)
                          go_wp2_with (fail)
                          refine hK _ ?_
                          first | exact Below.refl _ _ | assumption | ((repeat' (first | (with_reducible exact Below.refl _ _) | (with_reducible assumption) | (with_reducible refine below_drewN ?_ _) | (with_reducible refine Below.alloc ?_ ?_ _) | (with_reducible refine Below.drew ?_) | (with_reducible refine Below.setCell ?_ ?_ _) | (with_reducible refine Below.trans ?_ (Below.mono (by with_reducible assumption) ?_)) | go_size)))
                        rotate_left 1
                        · rfl
                        clear hex; intro hex
                        iterate 3
                          (refine G.wpS_one (A := ?_) hex rfl rfl (by simp) ?_ ?_ ?_
                           rotate_left 2
                           · intro w' hC K hK
                             go_wp2_with (fail)
                             refine hK _ ?_
                             first | exact Below.refl _ _ | assumption | ((repeat' (first | (with_reducible exact Below.refl _ _) | (with_reducible assumption) | (with_reducible refine below_drewN ?_ _) | (with_reducible refine Below.alloc ?_ ?_ _) | (with_reducible refine Below.drew ?_) | (with_reducible refine Below.setCell ?_ ?_ _) | (with_reducible refine Below.trans ?_ (Below.mono (by with_reducible assumption) ?_)) | go_size)))
                           rotate_left 1
                           · rfl
                           clear hex; intro hex)
                        refine G.wpS_nil fun w6 hAll => ?_
                        have HE6 := Lib.hid (bel_call hE5.out hAll.1)
                        clear hAll hex HTU HCJ
                        go_wp2_with fail
                        go_roundw
                        case rel => first | exact ⟨j + 1, by omega, by go_num, HE6⟩ | ((repeat apply Exists.intro); exact ⟨⟨j + 1, by omega, by go_num, HE6⟩, rfl⟩)
                        case measure => simp [intOf]; omega
                    · have hd5 : decide ((Z.size : Int) ≤ 4000) = false := by simp; omega
                      have HTU := Lib.hid (fun w => quote_any ⟨#[]⟩ (by decide) w)
                      clear hTU
                      go_wp2_with fail
                      refine G.wp_region_stab (G := Ext) (fun _ => none) (by kernel_rfl) (by kernel_rfl) (fun _ _ h => by cases h) (fun hex => ?_)
                      iterate 2
                        (refine G.wpS_one (A := ?_) hex rfl rfl (by simp) ?_ ?_ ?_
                         rotate_left 2
                         · intro w' hC K hK
                           go_wp2_with (fail)
                           refine hK _ ?_
                           first | exact Below.refl _ _ | assumption | ((repeat' (first | (with_reducible exact Below.refl _ _) | (with_reducible assumption) | (with_reducible refine below_drewN ?_ _) | (with_reducible refine Below.alloc ?_ ?_ _) | (with_reducible refine Below.drew ?_) | (with_reducible refine Below.setCell ?_ ?_ _) | (with_reducible refine Below.trans ?_ (Below.mono (by with_reducible assumption) ?_)) | go_size)))
                         rotate_left 1
                         · rfl
                         clear hex; intro hex)
                      refine G.wpS_one (A := ?_) hex rfl rfl (by simp) ?_ ?_ ?_
                      rotate_left 2
                      · intro w' hC K hK
                        obtain ⟨g0, g1, g2, g3⟩ := (HB0.out.ext (bel_call hE5.out hC.1)).cells4
                        go_wp2_with (fail)
                        refine hK _ ?_
                        first | exact Below.refl _ _ | assumption | ((repeat' (first | (with_reducible exact Below.refl _ _) | (with_reducible assumption) | (with_reducible refine below_drewN ?_ _) | (with_reducible refine Below.alloc ?_ ?_ _) | (with_reducible refine Below.drew ?_) | (with_reducible refine Below.setCell ?_ ?_ _) | (with_reducible refine Below.trans ?_ (Below.mono (by with_reducible assumption) ?_)) | go_size)))
                      rotate_left 1
                      · rfl
                      clear hex; intro hex
                      iterate 2
                        (refine G.wpS_one (A := ?_) hex rfl rfl (by simp) ?_ ?_ ?_
                         rotate_left 2
                         · intro w' hC K hK
                           go_wp2_with (fail)
                           refine hK _ ?_
                           first | exact Below.refl _ _ | assumption | ((repeat' (first | (with_reducible exact Below.refl _ _) | (with_reducible assumption) | (with_reducible refine below_drewN ?_ _) | (with_reducible refine Below.alloc ?_ ?_ _) | (with_reducible refine Below.drew ?_) | (with_reducible refine Below.setCell ?_ ?_ _) | (with_reducible refine Below.trans ?_ (Below.mono (by with_reducible assumption) ?_)) | go_size)))
                         rotate_left 1
                         · rfl
                         clear hex; intro hex)
                      refine G.wpS_one (A := ?_) hex rfl rfl (by simp) ?_ ?_ ?_
                      rotate_left 2
                      · intro w' hC K hK
                        have a0 := HCJ.out _ (bel_call hE5.out hC.1)
                        go_wp2_with (fail)
                        refine hK _ ?_
                        first | exact Below.refl _ _ | assumption | ((repeat' (first | (with_reducible exact Below.refl _ _) | (with_reducible assumption) | (with_reducible refine below_drewN ?_ _) | (with_reducible refine Below.alloc ?_ ?_ _) | (with_reducible refine Below.drew ?_) | (with_reducible refine Below.setCell ?_ ?_ _) | (with_reducible refine Below.trans ?_ (Below.mono (by with_reducible assumption) ?_)) | go_size)))
                      rotate_left 1
                      · rfl
                      clear hex; intro hex
                      iterate 5
                        (refine G.wpS_one (A := ?_) hex rfl rfl (by simp) ?_ ?_ ?_
                         rotate_left 2
                         · intro w' hC K hK
                           go_wp2_with (fail)
                           refine hK _ ?_
                           first | exact Below.refl _ _ | assumption | ((repeat' (first | (with_reducible exact Below.refl _ _) | (with_reducible assumption) | (with_reducible refine below_drewN ?_ _) | (with_reducible refine Below.alloc ?_ ?_ _) | (with_reducible refine Below.drew ?_) | (with_reducible refine Below.setCell ?_ ?_ _) | (with_reducible refine Below.trans ?_ (Below.mono (by with_reducible assumption) ?_)) | go_size)))
                         rotate_left 1
                         · rfl
                         clear hex; intro hex)
                      refine G.wpS_one (A := ?_) hex rfl rfl (by simp) ?_ ?_ ?_
                      rotate_left 2
                      · intro w' hC K hK
                        obtain ⟨g0, g1, g2, g3⟩ := (HB0.out.ext (bel_call hE5.out hC.1)).cells4
                        go_wp2_with (fail)
                        refine hK _ ?_
                        first | exact Below.refl _ _ | assumption | ((repeat' (first | (with_reducible exact Below.refl _ _) | (with_reducible assumption) | (with_reducible refine below_drewN ?_ _) | (with_reducible refine Below.alloc ?_ ?_ _) | (with_reducible refine Below.drew ?_) | (with_reducible refine Below.setCell ?_ ?_ _) | (with_reducible refine Below.trans ?_ (Below.mono (by with_reducible assumption) ?_)) | go_size)))
                      rotate_left 1
                      · rfl
                      clear hex; intro hex
                      iterate 2
                        (refine G.wpS_one (A := ?_) hex rfl rfl (by simp) ?_ ?_ ?_
                         rotate_left 2
                         · intro w' hC K hK
                           go_wp2_with (fail)
                           refine hK _ ?_
                           first | exact Below.refl _ _ | assumption | ((repeat' (first | (with_reducible exact Below.refl _ _) | (with_reducible assumption) | (with_reducible refine below_drewN ?_ _) | (with_reducible refine Below.alloc ?_ ?_ _) | (with_reducible refine Below.drew ?_) | (with_reducible refine Below.setCell ?_ ?_ _) | (with_reducible refine Below.trans ?_ (Below.mono (by with_reducible assumption) ?_)) | go_size)))
                         rotate_left 1
                         · rfl
                         clear hex; intro hex)
                      refine G.wpS_one (A := ?_) hex rfl rfl (by simp) ?_ ?_ ?_
                      rotate_left 2
                      · intro w' hC K hK
                        have a0 := HCJ.out _ (bel_call hE5.out hC.1)
                        go_wp2_with (fail)
                        refine hK _ ?_
                        first | exact Below.refl _ _ | assumption | ((repeat' (first | (with_reducible exact Below.refl _ _) | (with_reducible assumption) | (with_reducible refine below_drewN ?_ _) | (with_reducible refine Below.alloc ?_ ?_ _) | (with_reducible refine Below.drew ?_) | (with_reducible refine Below.setCell ?_ ?_ _) | (with_reducible refine Below.trans ?_ (Below.mono (by with_reducible assumption) ?_)) | go_size)))
                      rotate_left 1
                      · rfl
                      clear hex; intro hex
                      refine G.wpS_one (A := ?_) hex rfl rfl (by simp) ?_ ?_ ?_
                      rotate_left 2
                      · intro w' hC K hK
                        go_wp2_with (refine (HTU.out _).mono ?_; rintro e wq ⟨rfl, hEq⟩)
                        refine hK _ ?_
                        first | exact Below.refl _ _ | assumption | ((repeat' (first | (with_reducible exact Below.refl _ _) | (with_reducible assumption) | (with_reducible refine below_drewN ?_ _) | (with_reducible refine Below.alloc ?_ ?_ _) | (with_reducible refine Below.drew ?_) | (with_reducible refine Below.setCell ?_ ?_ _) | (with_reducible refine Below.trans ?_ (Below.mono (by with_reducible assumption) ?_)) | go_size)))
                      rotate_left 1
                      · rfl
                      clear hex; intro hex
                      iterate 4
                        (refine G.wpS_one (A := ?_) hex rfl rfl (by simp) ?_ ?_ ?_
                         rotate_left 2
                         · intro w' hC K hK
                           go_wp2_with (fail)
                           refine hK _ ?_
                           first | exact Below.refl _ _ | assumption | ((repeat' (first | (with_reducible exact Below.refl _ _) | (with_reducible assumption) | (with_reducible refine below_drewN ?_ _) | (with_reducible refine Below.alloc ?_ ?_ _) | (with_reducible refine Below.drew ?_) | (with_reducible refine Below.setCell ?_ ?_ _) | (with_reducible refine Below.trans ?_ (Below.mono (by with_reducible assumption) ?_)) | go_size)))
                         rotate_left 1
                         · rfl
                         clear hex; intro hex)
                      refine G.wpS_one (A := ?_) hex rfl rfl (by simp) ?_ ?_ ?_
                      rotate_left 2
                      · intro w' hC K hK
                        obtain ⟨g0, g1, g2, g3⟩ := (HB0.out.ext (bel_call hE5.out hC.1)).cells4
                        go_wp2_with (fail)
                        refine hK _ ?_
                        first | exact Below.refl _ _ | assumption | ((repeat' (first | (with_reducible exact Below.refl _ _) | (with_reducible assumption) | (with_reducible refine below_drewN ?_ _) | (with_reducible refine Below.alloc ?_ ?_ _) | (with_reducible refine Below.drew ?_) | (with_reducible refine Below.setCell ?_ ?_ _) | (with_reducible refine Below.trans ?_ (Below.mono (by with_reducible assumption) ?_)) | go_size)))
                      rotate_left 1
                      · rfl
                      clear hex; intro hex
                      iterate 2
                        (refine G.wpS_one (A := ?_) hex rfl rfl (by simp) ?_ ?_ ?_
                         rotate_left 2
                         · intro w' hC K hK
                           go_wp2_with (fail)
                           refine hK _ ?_
                           first | exact Below.refl _ _ | assumption | ((repeat' (first | (with_reducible exact Below.refl _ _) | (with_reducible assumption) | (with_reducible refine below_drewN ?_ _) | (with_reducible refine Below.alloc ?_ ?_ _) | (with_reducible refine Below.drew ?_) | (with_reducible refine Below.setCell ?_ ?_ _) | (with_reducible refine Below.trans ?_ (Below.mono (by with_reducible assumption) ?_)) | go_size)))
                         rotate_left 1
                         · rfl
                         clear hex; intro hex)
                      refine G.wpS_one (A := ?_) hex rfl rfl (by simp) ?_ ?_ ?_
                      rotate_left 2
                      · intro w' hC K hK
                        have a0 := HCJ.out _ (bel_call hE5.out hC.1)
                        go_wp2_with (fail)
                        refine hK _ ?_
                        first | exact Below.refl _ _ | assumption | ((repeat' (first | (with_reducible exact Below.refl _ _) | (with_reducible assumption) | (with_reducible refine below_drewN ?_ _) | (with_reducible refine Below.alloc ?_ ?_ _) | (with_reducible refine Below.drew ?_) | (with_reducible refine Below.setCell ?_ ?_ _) | (with_reducible refine Below.trans ?_ (Below.mono (by with_reducible assumption) ?_)) | go_size)))
                      rotate_left 1
                      · rfl
                      clear hex; intro hex
                      iterate 2
                        (refine G.wpS_one (A := ?_) hex rfl rfl (by simp) ?_ ?_ ?_
                         rotate_left 2
                         · intro w' hC K hK
                           go_wp2_with (fail)
                           refine hK _ ?_
                           first | exact Below.refl _ _ | assumption | ((repeat' (first | (with_reducible exact Below.refl _ _) | (with_reducible assumption) | (with_reducible refine below_drewN ?_ _) | (with_reducible refine Below.alloc ?_ ?_ _) | (with_reducible refine Below.drew ?_) | (with_reducible refine Below.setCell ?_ ?_ _) | (with_reducible refine Below.trans ?_ (Below.mono (by with_reducible assumption) ?_)) | go_size)))
                         rotate_left 1
                         · rfl
                         clear hex; intro hex)
                      refine G.wpS_one (A := ?_) hex rfl rfl (by simp) ?_ ?_ ?_
                      rotate_left 2
                      · intro w' hC K hK
                        obtain ⟨g0, g1, g2, g3⟩ := (HB0.out.ext (bel_call hE5.out hC.1)).cells4
                        go_wp2_with (fail)
                        refine hK _ ?_
                        first | exact Below.refl _ _ | assumption | ((repeat' (first | (with_reducible exact Below.refl _ _) | (with_reducible assumption) | (with_reducible refine below_drewN ?_ _) | (with_reducible refine Below.alloc ?_ ?_ _) | (with_reducible refine Below.drew ?_) | (with_reducible refine Below.setCell ?_ ?_ _) | (with_reducible refine Below.trans ?_ (Below.mono (by with_reducible assumption) ?_)) | go_size)))
                      rotate_left 1
                      · rfl
                      clear hex; intro hex
                      iterate 2
                        (refine G.wpS_one (A := ?_) hex rfl rfl (by simp) ?_ ?_ ?_
                         rotate_left 2
                         · intro w' hC K hK
                           go_wp2_with (fail)
                           refine hK _ ?_
                           first | exact Below.refl _ _ | assumption | ((repeat' (first | (with_reducible exact Below.refl _ _) | (with_reducible assumption) | (with_reducible refine below_drewN ?_ _) | (with_reducible refine Below.alloc ?_ ?_ _) | (with_reducible refine Below.drew ?_) | (with_reducible refine Below.setCell ?_ ?_ _) | (with_reducible refine Below.trans ?_ (Below.mono (by with_reducible assumption) ?_)) | go_size)))
                         rotate_left 1
                         · rfl
                         clear hex; intro hex)
                      refine G.wpS_one (A := ?_) hex rfl rfl (by simp) ?_ ?_ ?_
                      rotate_left 2
                      · intro w' hC K hK
                        have a0 := HCL2.out _ (bel_call hE5.out hC.1)
                        go_wp2_with (fail)
                        refine hK _ ?_
                        first | exact Below.refl _ _ | assumption | ((repeat' (first | (with_reducible exact Below.refl _ _) | (with_reducible assumption) | (with_reducible refine below_drewN ?_ _) | (with_reducible refine Below.alloc ?_ ?_ _) | (with_reducible refine Below.drew ?_) | (with_reducible refine Below.setCell ?_ ?_ _) | (with_reducible refine Below.trans ?_ (Below.mono (by with_reducible assumption) ?_)) | go_size)))
                      rotate_left 1
                      · rfl
                      clear hex; intro hex
                      iterate 3
                        (refine G.wpS_one (A := ?_) hex rfl rfl (by simp) ?_ ?_ ?_
                         rotate_left 2
                         · intro w' hC K hK
                           go_wp2_with (fail)
                           refine hK _ ?_
                           first | exact Below.refl _ _ | assumption | ((repeat' (first | (with_reducible exact Below.refl _ _) | (with_reducible assumption) | (with_reducible refine below_drewN ?_ _) | (with_reducible refine Below.alloc ?_ ?_ _) | (with_reducible refine Below.drew ?_) | (with_reducible refine Below.setCell ?_ ?_ _) | (with_reducible refine Below.trans ?_ (Below.mono (by with_reducible assumption) ?_)) | go_size)))
                         rotate_left 1
                         · rfl
                         clear hex; intro hex)
                      refine G.wpS_nil fun w6 hAll => ?_
                      have HE6 := Lib.hid (bel_call hE5.out hAll.1)
                      clear hAll hex HTU HCJ
                      go_wp2_with fail
                      go_roundw
                      case rel => first | exact ⟨j + 1, by omega, by go_num, HE6⟩ | ((repeat apply Exists.intro); exact ⟨⟨j + 1, by omega, by go_num, HE6⟩, rfl⟩)
                      case measure => simp [intOf]; omega
                  · obtain rfl : j = n := by omega
                    go_wp2_with fail
                    go_roundw
                    case rel => first | exact ⟨j + 1, by omega, by omega, by go_num, hE5⟩ | ((repeat apply Exists.intro); exact ⟨⟨j + 1, by omega, by omega, by go_num, hE5⟩, rfl⟩)
                    case measure => simp [intOf]; omega
            · obtain rfl : n = 20 := by omega
              have hd1 : decide (((20 : Nat) : Int) < (LT.length : Int)) = true := by simp; omega
              have hw := wakes_any es ed _ (HW.out.1.ext hE2.out) (HW.out.2.1.ext hE2.out)
              go_wp2_with fail
              clear g0 g1 g2 g3
              refine hw.mono ?_
              rintro e w9 ⟨rfl, hx9⟩
              have HX9 := Lib.hid (bel_call hE2.out hx9)
              clear hx9 hw
              go_wp2_with fail
              go_ret
              exact ⟨rfl, bel_call HX0.out HX9.out⟩
          · have hd1 : decide ((n : Int) < (LT.length : Int)) = false := by simp; omega
            have hw := wakes_any es ed _ (HW.out.1.ext hE2.out) (HW.out.2.1.ext hE2.out)
            go_wp2_with fail
            clear g0 g1 g2 g3
            refine hw.mono ?_
            rintro e w9 ⟨rfl, hx9⟩
            have HX9 := Lib.hid (bel_call hE2.out hx9)
            clear hx9 hw
            go_wp2_with fail
            go_ret
            exact ⟨rfl, bel_call HX0.out HX9.out⟩
end Go.Proofs.YtgcfilgobclcjaaDoor
