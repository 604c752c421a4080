/- ClassMoves returns true for every list of texts with places, and leaves what it read as it was: on the conditions that the errors, the tables and the type that errors.As asks for, which the card ties to the program's text, stand in their variables when the call begins. -/
import Derived.Test.YtgcfilgobclcjaaGreatDoorBse
namespace Go.Proofs.YtgcfilgobclcjaaGreatDoor
open Go Go.RowKit
/-- A list of texts with places that came in. -/
def PlcIn (w : World) (v : Value) (L : List (ByteArray × Int)) : Prop :=
  ∃ a cap, v = .slice a L.length cap ∧ L.length ≤ cap ∧ cap ≤ maxLen ∧ (L = [] ∨ ∃ b o, a = some ⟨b, o, none⟩ ∧ b < w.heap.size ∧ ∀ i (h : i < L.length), w.cell? ⟨b, o + i * 2, none⟩ = some (.string L[i].1) ∧ w.cell? ⟨b, o + i * 2 + 1, none⟩ = some (.int .i64 L[i].2))
theorem PlcIn.ext {w w' : World} {v : Value} {L : List (ByteArray × Int)} (h : PlcIn w v L) (hx : Ext w w') : PlcIn w' v L := by
  obtain ⟨a, cap, hv, h1, h2, h⟩ := h
  refine ⟨a, cap, hv, h1, h2, ?_⟩
  rcases h with h | ⟨b, o, ha, hb, h⟩
  · exact .inl h
  · exact .inr ⟨b, o, ha, Nat.lt_of_lt_of_le hb hx.size, fun i hi => ⟨(hx.cell (p := ⟨b, _, none⟩) hb).trans (h i hi).1, (hx.cell (p := ⟨b, _, none⟩) hb).trans (h i hi).2⟩⟩
theorem PlcIn.cells {w : World} {va : Option Addr} {n cap : Nat} {L : List (ByteArray × Int)} (h : PlcIn w (.slice va n cap) L) {k : Nat} (hk : k < L.length) :
    ∃ b o, va = some ⟨b, o, none⟩ ∧ b < w.heap.size ∧ ∀ i (h : i < L.length), w.cell? ⟨b, o + i * 2, none⟩ = some (.string L[i].1) ∧ w.cell? ⟨b, o + i * 2 + 1, none⟩ = some (.int .i64 L[i].2) := by
  obtain ⟨a', c', h1, _, _, h | ⟨b, o, ha, hb, h⟩⟩ := h
  · subst h; exact absurd hk (by simp)
  · cases h1
    exact ⟨b, o, ha, hb, h⟩
abbrev mvA : ByteArray := ⟨#[91, 34, 97]⟩
theorem pos_three (s : ByteArray) : pos (mvA ++ s) 3 = 3 := by
  unfold pos
  have h3 : mvA.size = 3 := rfl
  rw [if_neg (by simp only [ByteArray.size_append, h3]; omega)]
  rfl
theorem rest_three (s : ByteArray) : rest (mvA ++ s) 3 = s.data.toList := by
  unfold rest
  rw [data_append]
  rfl
theorem pos_zero (s : ByteArray) : pos s 0 = 0 := by
  unfold pos
  split
  · omega
  · rfl
theorem prs_three (s : ByteArray) : prs (mvA ++ s) 3 = shf 3 (prs s 0) := by
  unfold prs
  rw [pos_three, rest_three, pos_zero]
  show cls unq (s.data.toList.length + 1) 0 s.data.toList (0 + 3) = shf 3 (cls unq (s.data.toList.length + 1) 0 s.data.toList 0)
  exact (cls_shf unq 3 _).1 0 _ 0
theorem uqs_three (s : ByteArray) : uqs (mvA ++ s) 3 = shq 3 (uqs s 0) := by
  unfold uqs
  rw [pos_three, rest_three, pos_zero]
  show quq unq s.data.toList (0 + 3) = shq 3 (quq unq s.data.toList 0)
  exact quq_shf unq 3 _ 0
theorem pE_shf (x : Sum (Bool × Nat) (BitVec 256 × Nat)) : pE (shf 3 x) = (pE x).map fun y => (y.1, y.2 + 3) := by
  cases x with
  | inl x => obtain ⟨b, q⟩ := x; simp only [shf, pE, Option.map]; congr 2
  | inr x => rfl
theorem uE_shq (x : Sum Nat (List UInt8 × Nat)) : uE (shq 3 x) = (uE x).map fun y => (y.1, y.2 + 3) := by
  cases x with
  | inl q => simp only [shq, uE, Option.map]; congr 2
  | inr x => rfl
theorem pS_shf (x : Sum (Bool × Nat) (BitVec 256 × Nat)) : pS (shf 3 x) = pS x := by cases x <;> rfl
theorem uS_shq (x : Sum Nat (List UInt8 × Nat)) : uS (shq 3 x) = uS x := by cases x <;> rfl
theorem pN_shf (x : Sum (Bool × Nat) (BitVec 256 × Nat)) (h : pE x = none) : pN (shf 3 x) = pN x + 3 := by
  cases x with
  | inl x => cases h
  | inr x => obtain ⟨S, m⟩ := x; simp only [shf, pN]; omega
theorem uN_shq (x : Sum Nat (List UInt8 × Nat)) (h : uE x = none) : uN (shq 3 x) = uN x + 3 := by
  cases x with
  | inl x => cases h
  | inr x => obtain ⟨S, m⟩ := x; simp only [shq, uN]; omega
theorem pA_le (s : ByteArray) (hs : s.size ≤ 4000) : (0 ≤ erA (pE (prs s 0)) ∧ erA (pE (prs s 0)) ≤ 1000000000000) ∧ 0 ≤ pN (prs s 0) ∧ pN (prs s 0) ≤ 1000000000000 := by
  have h := prs_len s 0
  cases hx : prs s 0 with
  | inl x =>
    obtain ⟨b, q⟩ := x
    have := h.1 b q hx
    simp only [pE, erA, pN]; omega
  | inr x =>
    obtain ⟨S, m⟩ := x
    have := h.2 S m hx
    simp only [pE, erA, pN]; omega
theorem uA_le (s : ByteArray) (hs : s.size ≤ 4000) : (0 ≤ erA (uE (uqs s 0)) ∧ erA (uE (uqs s 0)) ≤ 1000000000000) ∧ 0 ≤ uN (uqs s 0) ∧ uN (uqs s 0) ≤ 1000000000000 := by
  have h := uqs_len s 0
  cases hx : uqs s 0 with
  | inl q =>
    have := h.1 q hx
    simp only [uE, erA, uN]; omega
  | inr x =>
    obtain ⟨S, m⟩ := x
    have := h.2 S m hx
    simp only [uE, erA, uN]; omega
theorem er_nil {w : World} {ea : Nat → Addr} {v : Value} {d : Option (Nat × Int)} (h : Er w ea v d) : (v = .nilIface ∧ d = none) ∨ ∃ T x, v = .iface T x := by
  cases d with
  | none => exact .inl ⟨h, rfl⟩
  | some x => exact .inr h.iface
set_option maxHeartbeats 4000000 in
set_option maxRecDepth 20000 in
theorem moves_any (v : Value) (L : List (ByteArray × Int)) (ea : Nat → Addr) (w : World) (hv : PlcIn w v L) (hK : Kg w ea) :
    Calls Tryz.prog 5 #[v] w fun e w' => e = .returned (.bool true) ∧ Below w.heap.size w w' := by
  have HV := Lib.hid hv
  have HK := Lib.hid hK
  obtain ⟨va, vc, rfl, hc1, hc2, _⟩ := hv
  clear hK
  have hL63 : L.length ≤ 9223372036854775807 := by unfold maxLen at hc2; omega
  go_enter Tryz.func5, Tryz.ntmps5
  go_wp2_with fail
  go_loopw [3] (fun i wr => ∃ k : Nat, k ≤ 20 ∧ k ≤ L.length ∧ i = .int .i64 k ∧ Hid (Ext w wr)) (fun i _ => 20 - (intOf i).toNat)
  case atStart => exact ⟨0, by omega, by omega, rfl, Lib.hid (Below.refl _ _)⟩
  case round =>
    obtain ⟨k, hk20, hkl, rfl, hE⟩ := hrel
    by_cases hkn : k < L.length
    · have hd1 : decide ((k : Int) < (L.length : Int)) = true := by simp; omega
      by_cases hk : k < 20
      · have hd2 : decide ((k : Int) < 20) = true := by simp; omega
        obtain ⟨b, o, rfl, hb, hcell⟩ := (HV.out.ext hE.out).cells hkn
        obtain ⟨S, hS⟩ : ∃ S, L[k].1 = S := ⟨_, rfl⟩
        have a0 := (hcell k hkn).1
        rw [hS] at a0
        clear hcell hS
        by_cases hsl : 4000 < S.size
        · have hd3 : decide ((4000 : Int) < (S.size : Int)) = true := by simp; omega
          go_wp2_with fail
          go_roundw
          case rel => first | exact ⟨k + 1, by omega, by omega, by go_num, hE⟩ | ((repeat apply Exists.intro); exact ⟨⟨k + 1, by omega, by omega, by go_num, hE⟩, rfl⟩)
          case measure => simp [intOf]; omega
        · have hd3 : decide ((4000 : Int) < (S.size : Int)) = false := by simp; omega
          have h3 : mvA.size = 3 := rfl
          have hS2 : (mvA ++ S).size ≤ 4294967000 := by rw [ByteArray.size_append, h3]; omega
          obtain ⟨x, hx⟩ : ∃ x, prs S 0 = x := ⟨_, rfl⟩
          obtain ⟨y, hy⟩ : ∃ y, uqs S 0 = y := ⟨_, rfl⟩
          have hxa := pA_le S (by omega)
          have hya := uA_le S (by omega)
          rw [hx] at hxa
          rw [hy] at hya
          have HP := Lib.hid (fun w hK => parse_er ea S 0 (by omega) w hK x hx)
          have HU := Lib.hid (fun w hK => unquote_er ea S 0 (by omega) w hK y hy)
          have HP3 := Lib.hid (fun w hK => parse_er ea (mvA ++ S) 3 hS2 w hK (shf 3 x) (by rw [prs_three, hx]))
          have HU3 := Lib.hid (fun w hK => unquote_er ea (mvA ++ S) 3 hS2 w hK (shq 3 y) (by rw [uqs_three, hy]))
          rw [pS_shf, pE_shf] at HP3
          rw [uS_shq, uE_shq] at HU3
          have hpn := pN_shf x
          have hun := uN_shq y
          have hsz : S.size ≤ 4000 := by omega
          clear hx hy hS2 h3 hsl
          obtain ⟨px, hpx⟩ : ∃ px, pS x = px := ⟨_, rfl⟩
          obtain ⟨nx, hnx⟩ : ∃ nx, pN x = nx := ⟨_, rfl⟩
          obtain ⟨nx3, hnx3⟩ : ∃ nx, pN (shf 3 x) = nx := ⟨_, rfl⟩
          obtain ⟨dx, hdx⟩ : ∃ dx, pE x = dx := ⟨_, rfl⟩
          obtain ⟨uy, huy⟩ : ∃ uy, uS y = uy := ⟨_, rfl⟩
          obtain ⟨ny, hny⟩ : ∃ ny, uN y = ny := ⟨_, rfl⟩
          obtain ⟨ny3, hny3⟩ : ∃ ny, uN (shq 3 y) = ny := ⟨_, rfl⟩
          obtain ⟨dy, hdy⟩ : ∃ dy, uE y = dy := ⟨_, rfl⟩
          rw [hpx, hnx, hdx] at HP
          rw [hpx, hnx3, hdx] at HP3
          rw [huy, hny, hdy] at HU
          rw [huy, hny3, hdy] at HU3
          rw [hdx, hnx] at hxa
          rw [hdy, hny] at hya
          rw [hnx, hnx3, hdx] at hpn
          rw [hny, hny3, hdy] at hun
          clear hpx hnx hnx3 hdx huy hny hny3 hdy x y
          have HPN := Lib.hid (And.intro hpn hun)
          have hss := same_set px
          have HXA := Lib.hid (And.intro hxa.1 hya.1)
          have hn1 := hxa.2
          have hn2 := hya.2
          clear hpn hun hxa hya
          go_wp2_with fail
          refine (HP.out wr (HK.out.ext hE.out)).mono ?_
          rintro e w1 ⟨v1, rfl, hv1, hx1⟩
          have hx1' : Ext wr (w1.alloc (.cells (svs px) 27)) := bel_alloc hx1 (Below.refl _ _) _
          have HE1 := Lib.hid (bel_call hE.out hx1')
          have HB1 := Lib.hid (Blk.new w1 (svs px) 27)
          have HV1 := Lib.hid (hv1.ext (show Ext w1 (w1.alloc (.cells (svs px) 27)) from by (repeat' (first | (with_reducible exact Below.refl _ _) | (with_reducible assumption) | (with_reducible refine below_drewN ?_ _) | (with_reducible refine Below.alloc ?_ ?_ _) | (with_reducible refine Below.drew ?_) | (with_reducible refine Below.setCell ?_ ?_ _) | (with_reducible refine Below.trans ?_ (Below.mono (by with_reducible assumption) ?_)) | go_size))))
          clear hv1 hx1 hx1' HP a0
          go_wp2_with fail
          generalize hp1 : w1.heap.size = p1 at HB1 ⊢
          clear hp1
          generalize w1.alloc (.cells (svs px) 27) = w2 at HE1 HB1 HV1 ⊢
          refine (HP3.out w2 (HK.out.ext HE1.out)).mono ?_
          rintro e w3 ⟨v2, rfl, hv2, hx3⟩
          have hx3' : Ext w2 (w3.alloc (.cells (svs px) 27)) := bel_alloc hx3 (Below.refl _ _) _
          have HE3 := Lib.hid (bel_call HE1.out hx3')
          have HB3 := Lib.hid (And.intro (HB1.out.ext hx3') (Blk.new w3 (svs px) 27))
          have HV3 := Lib.hid (And.intro (HV1.out.ext hx3') (hv2.ext (show Ext w3 (w3.alloc (.cells (svs px) 27)) from by (repeat' (first | (with_reducible exact Below.refl _ _) | (with_reducible assumption) | (with_reducible refine below_drewN ?_ _) | (with_reducible refine Below.alloc ?_ ?_ _) | (with_reducible refine Below.drew ?_) | (with_reducible refine Below.setCell ?_ ?_ _) | (with_reducible refine Below.trans ?_ (Below.mono (by with_reducible assumption) ?_)) | go_size)))))
          clear hv2 hx3 hx3' HP3 HV1 HB1 HE1
          go_wp2_with fail
          generalize hp3 : w3.heap.size = p3 at HB3 ⊢
          clear hp3
          generalize w3.alloc (.cells (svs px) 27) = w4 at HE3 HB3 HV3 ⊢
          refine (HU.out w4 (HK.out.ext HE3.out)).mono ?_
          rintro e w5 ⟨v3, rfl, hv3, hx5⟩
          have HE5 := Lib.hid (bel_call HE3.out hx5)
          have HB5 := Lib.hid (And.intro (HB3.out.1.ext hx5) (HB3.out.2.ext hx5))
          have HV5 := Lib.hid (And.intro (HV3.out.1.ext hx5) (And.intro (HV3.out.2.ext hx5) hv3))
          clear hv3 hx5 HU HV3 HB3 HE3
          go_wp2_with fail
          refine (HU3.out w5 (HK.out.ext HE5.out)).mono ?_
          rintro e w6 ⟨v4, rfl, hv4, hx6⟩
          have HE6 := Lib.hid (bel_call HE5.out hx6)
          obtain ⟨b0, b1, b2, b3⟩ := (HB5.out.1.ext hx6).cells4
          obtain ⟨c0, c1, c2, c3⟩ := (HB5.out.2.ext hx6).cells4
          have HV6 := Lib.hid (And.intro (HV5.out.1.ext hx6) (And.intro (HV5.out.2.1.ext hx6) (And.intro (HV5.out.2.2.ext hx6) hv4)))
          have HMA := Lib.hid (fun w' (hx' : Ext w6 w') => moved_er ea v1 v2 dx w' (HK.out.ext (bel_call HE6.out hx')) (HV6.out.1.ext hx') (HV6.out.2.1.ext hx') HXA.out.1)
          have HMB := Lib.hid (fun w' (hx' : Ext w6 w') => moved_er ea v3 v4 dy w' (HK.out.ext (bel_call HE6.out hx')) (HV6.out.2.2.1.ext hx') (HV6.out.2.2.2.ext hx') HXA.out.2)
          have h1 := er_nil HV6.out.1
          have h3 := er_nil HV6.out.2.2.1
          clear hv4 hx6 HU3 HV5 HB5 HE5 HV6
          rcases h1 with ⟨rfl, rfl⟩ | ⟨T1, x1, rfl⟩
          · obtain rfl := HPN.out.1 rfl
            rcases h3 with ⟨rfl, rfl⟩ | ⟨T3, x3, rfl⟩
            · obtain rfl := HPN.out.2 rfl
              clear HPN HXA
              as_aux_lemma =>
                go_wp2_with fail
                refine (HMA.out w6 (Below.refl _ _)).mono ?_
                rintro e w7 ⟨rfl, hx7⟩
                have HX7 := Lib.hid hx7
                clear hx7 HMA
                go_wp2_with fail
                refine (HMB.out w7 HX7.out).mono ?_
                rintro e w8 ⟨rfl, hx8⟩
                have HE8 := Lib.hid (bel_call (bel_call HE6.out HX7.out) hx8)
                clear hx8 HMB HX7
                go_wp2_with fail
                go_roundw
                case rel => first | exact ⟨k + 1, by omega, by omega, by go_num, HE8⟩ | ((repeat apply Exists.intro); exact ⟨⟨k + 1, by omega, by omega, by go_num, HE8⟩, rfl⟩)
                case measure => simp [intOf]; omega
            · clear HPN HXA
              as_aux_lemma =>
                go_wp2_with fail
                refine (HMA.out w6 (Below.refl _ _)).mono ?_
                rintro e w7 ⟨rfl, hx7⟩
                have HX7 := Lib.hid hx7
                clear hx7 HMA
                go_wp2_with fail
                refine (HMB.out w7 HX7.out).mono ?_
                rintro e w8 ⟨rfl, hx8⟩
                have HE8 := Lib.hid (bel_call (bel_call HE6.out HX7.out) hx8)
                clear hx8 HMB HX7
                go_wp2_with fail
                go_roundw
                case rel => first | exact ⟨k + 1, by omega, by omega, by go_num, HE8⟩ | ((repeat apply Exists.intro); exact ⟨⟨k + 1, by omega, by omega, by go_num, HE8⟩, rfl⟩)
                case measure => simp [intOf]; omega
          · rcases h3 with ⟨rfl, rfl⟩ | ⟨T3, x3, rfl⟩
            · obtain rfl := HPN.out.2 rfl
              clear HPN HXA
              as_aux_lemma =>
                go_wp2_with fail
                refine (HMA.out w6 (Below.refl _ _)).mono ?_
                rintro e w7 ⟨rfl, hx7⟩
                have HX7 := Lib.hid hx7
                clear hx7 HMA
                go_wp2_with fail
                refine (HMB.out w7 HX7.out).mono ?_
                rintro e w8 ⟨rfl, hx8⟩
                have HE8 := Lib.hid (bel_call (bel_call HE6.out HX7.out) hx8)
                clear hx8 HMB HX7
                go_wp2_with fail
                go_roundw
                case rel => first | exact ⟨k + 1, by omega, by omega, by go_num, HE8⟩ | ((repeat apply Exists.intro); exact ⟨⟨k + 1, by omega, by omega, by go_num, HE8⟩, rfl⟩)
                case measure => simp [intOf]; omega
            · clear HPN HXA
              as_aux_lemma =>
                go_wp2_with fail
                refine (HMA.out w6 (Below.refl _ _)).mono ?_
                rintro e w7 ⟨rfl, hx7⟩
                have HX7 := Lib.hid hx7
                clear hx7 HMA
                go_wp2_with fail
                refine (HMB.out w7 HX7.out).mono ?_
                rintro e w8 ⟨rfl, hx8⟩
                have HE8 := Lib.hid (bel_call (bel_call HE6.out HX7.out) hx8)
                clear hx8 HMB HX7
                go_wp2_with fail
                go_roundw
                case rel => first | exact ⟨k + 1, by omega, by omega, by go_num, HE8⟩ | ((repeat apply Exists.intro); exact ⟨⟨k + 1, by omega, by omega, by go_num, HE8⟩, rfl⟩)
                case measure => simp [intOf]; omega
      · obtain rfl : k = 20 := by omega
        have hd1 : decide (((20 : Nat) : Int) < (L.length : Int)) = true := by simp; omega
        have hw := wakes_any (ea 1) (ea 2) wr (HK.out.ext hE.out).tab (HK.out.ext hE.out).kn
        go_wp2_with fail
        refine hw.mono ?_
        rintro e w1 ⟨rfl, hx⟩
        have HX := Lib.hid (bel_call hE.out hx)
        clear hx hw
        go_wp2_with fail
        go_ret
        exact ⟨rfl, HX.out⟩
    · have hd1 : decide ((k : Int) < (L.length : Int)) = false := by simp; omega
      have hw := wakes_any (ea 1) (ea 2) wr (HK.out.ext hE.out).tab (HK.out.ext hE.out).kn
      go_wp2_with fail
      refine hw.mono ?_
      rintro e w1 ⟨rfl, hx⟩
      have HX := Lib.hid (bel_call hE.out hx)
      clear hx hw
      go_wp2_with fail
      go_ret
      exact ⟨rfl, HX.out⟩
end Go.Proofs.YtgcfilgobclcjaaGreatDoor
namespace Go.Proofs.YtgcfilgobclcjaaGreatDoor
open Go Go.ChangeShapes Go.WideShapes Go.ChangeAt Go.RowKit
theorem two_of {α : Type} {l : List α} (h : l.length = 2) : ∃ a b, l = [a, b] :=
  match l, h with
  | [a, b], _ => ⟨a, b, rfl⟩
theorem open_place {H : Type} {enc : TypeId × Value → H} {w : World} {k : Nat} {cs : List Value} {y : DataW H × List MemPlace} (h : DataW.trod enc Tryz.prog w 0 (fun _ => true) true k 24 cs = some y) :
    ∃ (s : ByteArray) (n : Int), cs = [.string s, .int .i64 n] := by
  have c2 : Tryz.prog.cellsOf 24 = 2 := by kernel_rfl
  have c1 : Tryz.prog.cellsOf 9 = 1 := by kernel_rfl
  have c1' : Tryz.prog.cellsOf 3 = 1 := by kernel_rfl
  obtain ⟨y0, y1, n, hx, hl, h0, h1⟩ := trod_struct2 Tryz.underlying24 h
  rw [c2] at hl
  obtain ⟨x0, x1, rfl⟩ := two_of hl
  simp only [c1, c1', List.drop_zero, List.drop_succ_cons, List.take_succ_cons, List.take_zero] at h0 h1
  obtain ⟨s, e0, _, _⟩ := DataW.trod_string Tryz.underlying9 h0
  obtain ⟨m, e1, _, _⟩ := DataW.trod_int Tryz.underlying3 h1
  simp only [List.cons.injEq, and_true] at e0 e1
  subst e0 e1
  exact ⟨s, m, rfl⟩
theorem open_places {H : Type} {enc : TypeId × Value → H} {w : World} {k : Nat} {c : Value} {y : DataW H × List MemPlace} (h : DataW.trod enc Tryz.prog w 0 (fun _ => true) true k 22 [c] = some y) : ∃ L, PlcIn w c L := by
  have c2 : Tryz.prog.cellsOf 24 = 2 := by kernel_rfl
  rcases Deep.open_slice Tryz.underlying22 h with ⟨hcs, _⟩ | ⟨a, len, cap, m, n, D, Pl, hcs, _, hl, hm, hmm, hx, hel⟩
  · simp only [List.cons.injEq, and_true] at hcs
    subst hcs
    exact ⟨[], none, 0, rfl, Nat.le_refl _, by unfold maxLen; omega, .inl rfl⟩
  · simp only [List.cons.injEq, and_true] at hcs
    subst hcs
    simp only [if_true] at hmm
    rw [c2] at hel
    have hS : ∀ i, ∃ s : ByteArray × Int, i < len → w.cell? ((a.add (i * 2)).add 0) = some (.string s.1) ∧ w.cell? ((a.add (i * 2)).add 1) = some (.int .i64 s.2) := by
      intro i
      by_cases hi : i < len
      · obtain ⟨cs', h1, h2⟩ := hel i (by omega)
        obtain ⟨s, q, rfl⟩ := open_place h2
        obtain ⟨_, _, hc⟩ := World.cells?_some h1
        exact ⟨(s, q), fun _ => ⟨hc 0 (by omega), hc 1 (by omega)⟩⟩
      · exact ⟨(.empty, 0), fun h => absurd h hi⟩
    obtain ⟨S, hS'⟩ := Classical.axiomOfChoice hS
    clear hS
    refine ⟨(List.range len).map S, some a, cap, by simp, by simpa using hl, hm, ?_⟩
    by_cases h0 : len = 0
    · subst h0; exact .inl rfl
    · obtain ⟨b, off, spot⟩ := a
      have hspot : spot = none := by simpa [Addr.add] using World.cell?_spot (hS' 0 (by omega)).1
      subst hspot
      simp only [addr_add] at hS'
      refine .inr ⟨b, off, rfl, World.block_lt_of_cell? w (⟨b, off + 0 * 2 + 0, none⟩ : Addr) (hS' 0 (by omega)).1, fun i hi => ?_⟩
      have hi' : i < len := by simpa using hi
      have := hS' i hi'
      simp only [Nat.add_zero] at this
      simp only [List.getElem_map, List.getElem_range]
      exact this
theorem classMoves_met (os : Os) (args : Array Value) : laidMetH Tryz.prog Rows.classMovesRow.laid ((World.doorLaid Tryz.prog 400 os).forCall (fun _ _ => 0) ⟨#[], args, []⟩).memory :=
  laidMetH_of_parts (laidMet_of_run' 8 (by kernel_rfl) (by kernel_rfl)) (by kernel_rfl)
set_option maxRecDepth 100000 in
theorem classMoves_contract {H : Type} {enc : TypeId × Value → H} (F : Stop.Interp) (W : World) (base : Nat) (args : Array Value) (ds gs : List (DataW H)) (before : List MemPlace)
    (hval0 : ∀ (j : Nat) t v, Tryz.f5.params[j]? = some t → args[j]? = some v → Value.okWide Tryz.prog W .any base t v)
    (hW : DataW.Whole enc Tryz.prog Tryz.f5.params.toList (OpenSpec.ofChange Rows.classMovesSpec).vars false W args.toList ds gs before)
    (hsz : (DataW.weightsEach Tryz.prog (Tryz.f5.params.toList ++ (OpenSpec.ofChange Rows.classMovesSpec).bare.plain.varTypes Tryz.prog) (ds ++ gs)).all (· ≤ reachBytes) = true)
    (hL : laidMetH Tryz.prog Rows.classMovesRow.laid W) (hsh : W.ShapedOpen Tryz.prog) :
    Calls Tryz.prog 5 args W fun e W' => ∃ v, e = .returned v ∧ ((OpenSpec.ofChange Rows.classMovesSpec).at F).post enc Tryz.prog Tryz.f5 false true false false W args v W' := by
  have hval : ∀ (j : Nat) t v, Tryz.f5.params[j]? = some t → args[j]? = some v → Value.okWide Tryz.prog W .any base t v := hval0
  have hW' := hW
  obtain ⟨p, q, hA0, hV, rfl, hfz, hnd⟩ := hW
  have hA : DataW.TrodAll enc Tryz.prog W 0 (fun _ => true) true Tryz.f5.params.toList args.toList ds p := hA0
  rw [Tryz.params5] at hA hval
  obtain ⟨v0, d0, rfl, rfl, h0⟩ := trodAll_one hA
  obtain ⟨rfl, rfl⟩ := trodVars_none hV
  have hlt : ∀ x ∈ p, x.block < W.heap.size := fun x hx => hW'.lt x (by simp [hx])
  have hwt : ∀ n ∈ d0.weights Tryz.prog 22, n ≤ reachBytes := fun n hn => by simpa using List.all_eq_true.1 hsz n (DataW.weights_mem_each (j := 0) rfl rfl n hn)
  obtain ⟨ea, hK⟩ := known_great hL hsh
  obtain ⟨a0, n0, c0, rfl⟩ := okWide_slice Tryz.underlying22 (hval 0 _ v0 rfl rfl); obtain ⟨L, hin⟩ : ∃ L, PlcIn W (.slice a0 n0 c0) L := (by obtain ⟨fuel, hf⟩ := h0; exact open_places hf)
  refine (moves_any _ L ea W hin hK).mono fun e W' ⟨he, hB⟩ => ?_
  subst he
  have e1 : ((OpenSpec.ofChange Rows.classMovesSpec).at F).fn H ([d0] ++ []) = { results := [.lit (.bool true)], args := [d0] } := rfl
  refine ⟨_, rfl, _, _, _, [], p, [], hW', ?_, ?_, ?_, hB.frame _, fun h => by cases h⟩
  · rw [e1]; exact trodAll_mk1 (shut_bool Tryz.underlying4 true)
  · rw [e1]; exact trodAll_mk1 (Below.trod laidOut (by kernel_rfl) (of_decide_eq_true (by kernel_rfl)) h0 hB hlt)
  · rw [e1]; rfl
set_option maxRecDepth 100000 in
theorem classMoves_lifted (os : Os) (started : os.Started) (H : Type) (enc : TypeId × Value → H) (F : Stop.Interp) :
    ReturnsInHanded {} Tryz.checked os 5 .any ((OpenSpec.ofChange Rows.classMovesSpec).preRow enc Tryz.prog Tryz.f5 Rows.classMovesRow.domain false Rows.classMovesRow.laid) (((OpenSpec.ofChange Rows.classMovesSpec).at F).post enc Tryz.prog Tryz.f5 false true false false) := by
  have hx : DataW.whole enc Tryz.prog ((World.doorLaid Tryz.prog 400 os).forCall (fun _ _ => 0) ⟨#[], #[.slice none 0 0], []⟩).memory Tryz.f5.params.toList (OpenSpec.ofChange Rows.classMovesSpec).vars false (#[.slice none 0 0] : Array Value).toList 8 = some ([.nil], [], []) := by kernel_rfl
  refine returnsInHanded_of_row (C := Tryz.checked) (s := OpenSpec.ofChange Rows.classMovesSpec) own started (by kernel_rfl) Tryz.func5
    (witness_row_atRef (enc := enc) (C := Tryz.checked) false (World.doorLaid Tryz.prog 400 os) #[.slice none 0 0] rfl (by kernel_rfl) (by kernel_rfl) (by kernel_rfl)
      (OpenSpec.preRow_of_cond 8 hx (by kernel_rfl) (fun k hk => by cases hk) (by kernel_rfl) (classMoves_met os _))) ?_
  intro W base args ds gs before hval hW _ _ hsz hL hsh _
  exact classMoves_contract F W base args ds gs before hval hW hsz hL hsh
theorem classMoves_row : Rows.ClassMovesSaid :=
  OpenClaim.holds_of_cond 5 Tryz.f5 rfl rfl rfl rfl rfl rfl rfl ⟨rfl, rfl, rfl, rfl, rfl⟩ rfl rfl rfl rfl rfl (by kernel_rfl) Tryz.func5 (by kernel_rfl)
    (of_decide_eq_true (by kernel_rfl)) (by unfold Func.isWrapper; rw [if_neg (of_decide_eq_false (by kernel_rfl))]; exact ⟨rfl, rfl⟩)
    (fun os started H enc _ F => by rw [OpenClaim.pre_eq_preRow]; exact classMoves_lifted os started H enc F)
theorem classMoves_holds : Rows.ClassMovesCardSaid :=
  Claim7.holds_tied_plain_at .later [] _ _ Rows.classMovesCard.stood.harness Rows.classMovesCard.stood.looks
    classMoves_row (fun _ h => by cases h) (by kernel_rfl) (fun _ h => by cases h) classMoves_row_tie rfl ⟨rfl, rfl⟩ (by kernel_rfl) rfl
    (fun f fn hf hfn => by
      obtain rfl : f = 5 := Option.some.inj ((show Tryz.prog.funcNamed Rows.classMovesRow.func = some 5 by kernel_rfl).symm.trans hf) |>.symm
      obtain rfl : fn = Tryz.f5 := (Option.some.inj (Tryz.func5.symm.trans hfn)).symm
      exact ⟨by kernel_rfl, fun j t ht => by
        rw [Tryz.params5] at ht
        have hm : t ∈ [22] := by simpa using Array.mem_of_getElem? ht
        have hall : ([22].all fun u => !Tryz.prog.wantsStandIn u) = true := by kernel_rfl
        exact (show Tryz.prog.wantsStandIn t = false by simpa using List.all_eq_true.1 hall t hm)⟩)
    (by kernel_rfl)
#print axioms classMoves_holds
end Go.Proofs.YtgcfilgobclcjaaGreatDoor
