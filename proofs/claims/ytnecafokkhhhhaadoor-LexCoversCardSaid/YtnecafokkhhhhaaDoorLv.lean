/- LexCovers: the walk. -/
import Derived.Test.YtnecafokkhhhhaaDoorPsd
import Derived.Test.YtnecafokkhhhhaaDoorEqx
import Derived.Test.YtnecafokkhhhhaaDoorNmd
import Derived.BigQuiet
namespace Go.Proofs.YtnecafokkhhhhaaDoor
open Go Go.RowKit
theorem rest_take (s : ByteArray) (a e : Nat) (h : a ≤ e) : rest (s.extract a e) 0 = (rest s a).take (e - a) := by
  have := ext_lst s a (e - a)
  rw [show a + (e - a) = e by omega] at this
  exact this
theorem ba_of {T : ByteArray} {l : List UInt8} (h : rest T 0 = l) : T = ⟨l.toArray⟩ := by
  subst h
  unfold rest
  simp
theorem get_cons {l : List UInt8} {C : UInt8} (h : l[0]? = some C) : ∃ t, l = C :: t := by
  cases l with
  | nil => cases h
  | cons c t => simp at h; subst h; exact ⟨t, rfl⟩
theorem rest_at (T : ByteArray) (j : Nat) (C : UInt8) (h : (rest T 0)[j]? = some C) : ∃ t, rest T j = C :: t := by
  have e : rest T j = (rest T 0).drop j := by have := rest_drop T 0 j; rw [Nat.zero_add] at this; exact this
  rw [e]
  apply get_cons
  rw [List.getElem?_drop]
  exact h
theorem Placed.iface {w : World} {v : Value} {a : Addr} {n : Int} (h : Placed w v a n) : ∃ T x, v = .iface T x := by
  obtain ⟨p, t, h1, _⟩ := h
  exact ⟨_, _, h1⟩
set_option maxHeartbeats 8000000 in
set_option maxRecDepth 20000 in
theorem lcovers_any (s : ByteArray) (es ed : Addr) (w : World) (hK : Kn w es ed) :
    Calls Tryd.prog 3 #[.string s] w fun e w' => e = .returned (.bool true) ∧ Ext w w' := by
  have HK := Lib.hid hK
  clear hK
  by_cases h6 : 6000 < s.size
  · have d1 : decide ((6000 : Int) < (s.size : Int)) = true := by simp; omega
    have d1n : decide (6000 < s.size) = true := by simp; omega
    clear h6
    go_enter Tryd.func3, Tryd.ntmps3
    go_wp2_with fail
    refine (lwakes_any es ed _ HK.out).mono ?_
    rintro e w1 ⟨rfl, hx⟩
    have HX := Lib.hid hx
    clear hx
    go_wp2_with fail
    go_ret
    exact ⟨rfl, HX.out⟩
  · have d1 : decide ((6000 : Int) < (s.size : Int)) = false := by simp; omega
    have d1n : decide (6000 < s.size) = false := by simp; omega
    obtain ⟨⟨L, r⟩, hx⟩ : ∃ x, lxs s.size (rest s 0) 0 = x := ⟨_, rfl⟩
    have HLX := Lib.hid (fun w hK => lex_any s (by omega) es ed w hK L r hx)
    have hs6 : s.size ≤ 6000 := by omega
    have hL6 : L.length ≤ 6000 := by
      have h1 := lxs_many s.size (rest s 0) 0
      have h2 := rest_len (show 0 ≤ s.size by omega)
      rw [hx] at h1
      have h3 : L.length ≤ (rest s 0).length := h1
      omega
    have HX0 := Lib.hid hx
    clear hx h6
    go_enter Tryd.func3, Tryd.ntmps3
    go_wp2_with fail
    refine (HLX.out _ HK.out).mono ?_
    rintro e w1 ⟨v, u, rfl, hown, hu, hx1⟩
    obtain ⟨a, ca, rfl, hlx, hca, _⟩ := own_list hown
    have HO := Lib.hid hlx
    have HE := Lib.hid hx1
    have HU := Lib.hid hu
    have HK1 := Lib.hid (HK.out.ext hx1)
    clear hown hlx hx1 HLX HK hca hu
    go_wp2_with fail
    clear d1 d1n
    go_loopw [5, 6] (fun v5 i wr => ∃ k e : Nat, k ≤ L.length ∧ e ≤ s.size ∧ v5 = .int .i64 e ∧ i = .int .i64 k ∧ Hid (lxs s.size (rest s e) e = (L.drop k, r)) ∧ Hid (Ext w1 wr)) (fun _ i _ => L.length - (intOf i).toNat)
    case atStart => exact ⟨0, 0, Nat.zero_le _, Nat.zero_le _, rfl, rfl, HX0, Lib.hid (Below.refl _ _)⟩
    case round =>
      clear HX0
      obtain ⟨k, e, hk, he, rfl, rfl, hL, hEr⟩ := hrel
      by_cases hkl : k < L.length
      · have d1 : decide ((k : Int) < (L.length : Int)) = true := by simp; omega
        obtain ⟨y, hy⟩ : ∃ y, L[k] = y := ⟨_, rfl⟩
        have hld : L.drop k = y :: L.drop (k + 1) := by rw [← hy]; exact List.drop_eq_getElem_cons hkl
        have hl := hL.out
        rw [hld] at hl
        have hre := rest_len he
        obtain ⟨n1, n2, n3, n4, n5⟩ := lxs_next s.size (rest s e) e y (L.drop (k + 1)) r (by omega) hl
        have hbn := (lxs_bnd s.size (rest s e) e).1 y (by rw [hl]; simp)
        rw [← rest_drop, show e + (y.a - e) = y.a by omega] at n3
        rw [← rest_drop, show e + (y.e - e) = y.e by omega] at n5
        have hry := rest_len (show y.a ≤ s.size by omega)
        have hown := one_own _ _ _ n3 n4
        unfold LxOk at hown
        have hyn := (one_lt n3).n
        obtain ⟨g, rfl, hg⟩ := HO.out (by omega)
        have hLc := fun f hf => (hg.ext hEr.out).2 k hkl f hf
        rw [hy] at hLc
        have c0 : wr.cell? ⟨g, k * 9, none⟩ = some (.int .i64 (y.kind : Int)) := hLc 0 (by decide)
        have c1 : wr.cell? ⟨g, k * 9 + 1, none⟩ = some (.int .i64 (y.a : Int)) := hLc 1 (by decide)
        have c2 : wr.cell? ⟨g, k * 9 + 2, none⟩ = some (.int .i64 (y.e : Int)) := hLc 2 (by decide)
        have c3 : wr.cell? ⟨g, k * 9 + 3, none⟩ = some (.string ⟨y.t.toArray⟩) := hLc 3 (by decide)
        have c4 : wr.cell? ⟨g, k * 9 + 4, none⟩ = some (.int .i64 (y.n : Int)) := hLc 4 (by decide)
        obtain ⟨p, hp⟩ : ∃ p, y.a = p := ⟨_, rfl⟩
        obtain ⟨q, hq⟩ : ∃ q, y.e = q := ⟨_, rfl⟩
        have HP := Lib.hid (And.intro hp hq)
        have HY := Lib.hid hy
        have HLm := Lib.hid hg
        rw [hp] at n1 n2 n3 hbn hry hown c1
        rw [hq] at n5 hbn hown c2
        obtain ⟨G, hG⟩ : ∃ G, s.extract e p = G := ⟨_, rfl⟩
        have hGs : G.size = p - e := by rw [← hG, ByteArray.size_extract]; omega
        have HPS := Lib.hid (fun w => passed_any G (by omega) (by rw [← hG, rest_take s e p (by omega)]; exact n2) w)
        obtain ⟨T, hT⟩ : ∃ T, s.extract p q = T := ⟨_, rfl⟩
        have hTs : T.size = q - p := by rw [← hT, ByteArray.size_extract]; omega
        have hTr : rest T 0 = (rest s p).take (q - p) := by rw [← hT]; exact rest_take s p q (by omega)
        have b1 : decide ((p : Int) < (e : Int)) = false := by simp; omega
        have b1n : decide (p < e) = false := by simp; omega
        have b2 : decide ((q : Int) ≤ (p : Int)) = false := by simp; omega
        have b2n : decide (q ≤ p) = false := by simp; omega
        have b3 : decide ((s.size : Int) < (q : Int)) = false := by simp; omega
        have b3n : decide (s.size < q) = false := by simp; omega
        have i0 : (0 : Int) ≤ (k : Int) := by omega
        have i1 : (k : Int) < (L.length : Int) := by omega
        have i2 : (0 : Int) ≤ (e : Int) := by omega
        have i3 : (e : Int) ≤ (p : Int) := by omega
        have i4 : (p : Int) ≤ (s.size : Int) := by omega
        have i5 : (0 : Int) ≤ (p : Int) := by omega
        have i6 : (p : Int) ≤ (q : Int) := by omega
        have i7 : (q : Int) ≤ (s.size : Int) := by omega
        have HG := Lib.hid hG
        have HT := Lib.hid hT
        have HNX := Lib.hid n5
        have hpq : p < q := by omega
        have hqs : q ≤ s.size := by omega
        have HC := Lib.hid hown
        have HTR := Lib.hid hTr
        clear hl hld n1 n2 n3 n5 hbn hown hLc hg hy hre hry hG hT hL hp hq hTr
        go_wp2_with fail
        go_quiet ((go_at_call 8; rw [HG.out]; refine (HPS.out _).mono ?_; rintro e2 w2 ⟨rfl, rfl⟩; exact ⟨rfl, _, rfl⟩))
        go_wp2_with fail
        have HEq := Lib.hid (bel_call hEr.out (drew_ext wr nq))
        clear hEr c0 c1 c2 c3 c4 b1 b1n b2 b2n b3 b3n HPS HG hGs G i2 i3
        generalize wr.drewN nq = wq at *
        have hLc := fun f hf => (HLm.out.ext HEq.out).2 k hkl f hf
        rw [HY.out] at hLc
        have c0 : wq.cell? ⟨g, k * 9, none⟩ = some (.int .i64 (y.kind : Int)) := hLc 0 (by decide)
        have c1 : wq.cell? ⟨g, k * 9 + 1, none⟩ = some (.int .i64 (p : Int)) := by rw [← HP.out.1]; exact hLc 1 (by decide)
        have c2 : wq.cell? ⟨g, k * 9 + 2, none⟩ = some (.int .i64 (q : Int)) := by rw [← HP.out.2]; exact hLc 2 (by decide)
        have c3 : wq.cell? ⟨g, k * 9 + 3, none⟩ = some (.string ⟨y.t.toArray⟩) := hLc 3 (by decide)
        have c4 : wq.cell? ⟨g, k * 9 + 4, none⟩ = some (.int .i64 (y.n : Int)) := hLc 4 (by decide)
        clear hLc
        go_quiet (fail)
        rw [HT.out]
        replace HEq := Lib.hid (bel_call HEq.out (drew_ext wq nq))
        clear c0 c1 c2 c3 c4
        generalize wq.drewN nq = wz at *
        have hLc := fun f hf => (HLm.out.ext HEq.out).2 k hkl f hf
        rw [HY.out] at hLc
        have c0 : wz.cell? ⟨g, k * 9, none⟩ = some (.int .i64 (y.kind : Int)) := hLc 0 (by decide)
        have c1 : wz.cell? ⟨g, k * 9 + 1, none⟩ = some (.int .i64 (p : Int)) := by rw [← HP.out.1]; exact hLc 1 (by decide)
        have c2 : wz.cell? ⟨g, k * 9 + 2, none⟩ = some (.int .i64 (q : Int)) := by rw [← HP.out.2]; exact hLc 2 (by decide)
        have c3 : wz.cell? ⟨g, k * 9 + 3, none⟩ = some (.string ⟨y.t.toArray⟩) := hLc 3 (by decide)
        have c4 : wz.cell? ⟨g, k * 9 + 4, none⟩ = some (.int .i64 (y.n : Int)) := hLc 4 (by decide)
        clear hLc
        clear i4 i5 i6 i7
        have hci := HC.out
        have HPL := Lib.hid (show ∀ C, (rest s p)[0]? = some C → ∀ w, (Instr.index 9 (.string T) (.int .i64 0)).run Tryd.prog w = .ok (.int .u8 (C.toNat : Int)) w from fun C h => by
          obtain ⟨t, ht⟩ := get_cons (show (rest T 0)[0]? = some C by rw [HTR.out, List.getElem?_take_of_lt (by omega)]; exact h)
          exact ix_of T 0 C t ht)
        have HPR := Lib.hid (show ∀ C, (rest s p)[q - 1 - p]? = some C → ∀ w, (Instr.index 9 (.string T) (.int .i64 ((T.size : Int) - 1))).run Tryd.prog w = .ok (.int .u8 (C.toNat : Int)) w from fun C h => by
          obtain ⟨t, ht⟩ := rest_at T (T.size - 1) C (by rw [HTR.out, List.getElem?_take_of_lt (by omega), hTs, show q - p - 1 = q - 1 - p by omega]; exact h)
          rw [show ((T.size : Int) - 1) = ((T.size - 1 : Nat) : Int) by omega]
          exact ix_of T (T.size - 1) C t ht)
        have HTs := Lib.hid hTs
        rcases hci with ⟨hkd, ht⟩ | ⟨hkd, he1, h0⟩ | ⟨hkd, he2, h0, h1⟩ | ⟨hkd, ⟨he1, h0⟩ | ⟨h0, h1⟩⟩ | ⟨hkd, C, h0, hC⟩
        · have hTT := ba_of (HTR.out.trans ht.symm)
          rw [← hTT] at c3
          rcases hkd with hkd | hkd
          · rw [hkd] at c0
            clear hTs HTs
            clear HPL HPR HTR HC HT ht hTT hkd c1 c4
            go_wp2_with fail
            go_roundw
            case rel => exact ⟨k + 1, q, by omega, by omega, rfl, by go_num, HNX, HEq⟩
            case measure => simp [intOf]; omega
          · rw [hkd] at c0
            clear hTs HTs
            clear HPL HPR HTR HC HT ht hTT hkd c1 c4
            go_wp2_with fail
            go_roundw
            case rel => exact ⟨k + 1, q, by omega, by omega, rfl, by go_num, HNX, HEq⟩
            case measure => simp [intOf]; omega
        · obtain ⟨t, ht⟩ := get_cons h0
          obtain rfl : T = ⟨#[10]⟩ := ba_of (HTR.out.trans (by rw [ht, he1, Nat.add_sub_cancel_left]; rfl))
          rw [hkd] at c0
          clear he1 hTs HTs
          clear HPL HPR HTR HC HT ht h0 hkd c1 c3 c4
          go_wp2_with fail
          go_roundw
          case rel => exact ⟨k + 1, q, by omega, by omega, rfl, by go_num, HNX, HEq⟩
          case measure => simp [intOf]; omega
        · have x0 := HPL.out _ h0
          have x1 := HPR.out _ h1
          have e34 : (((34 : UInt8).toNat : Nat) : Int) = 34 := rfl
          rw [e34] at x0 x1
          have d2 : decide ((2 : Int) ≤ (T.size : Int)) = true := by simp; omega
          have d2n : decide (2 ≤ T.size) = true := by simp; omega
          have hT1 : 1 ≤ T.size := by omega
          have hT2 : T.size ≤ 6000 := by omega
          rw [hkd] at c0
          clear hTs HTs
          clear HPL HPR HTR HC HT h0 h1 hkd c1 c3 c4
          go_wp2_with fail
          go_roundw
          case rel => exact ⟨k + 1, q, by omega, by omega, rfl, by go_num, HNX, HEq⟩
          case measure => simp [intOf]; omega
        · obtain ⟨t, ht⟩ := get_cons h0
          obtain rfl : T = ⟨#[46]⟩ := ba_of (HTR.out.trans (by rw [ht, he1, Nat.add_sub_cancel_left]; rfl))
          rw [hkd] at c0
          clear he1 hTs HTs
          clear HPL HPR HTR HC HT ht h0 hkd c1 c3 c4
          go_wp2_with fail
          go_roundw
          case rel => exact ⟨k + 1, q, by omega, by omega, rfl, by go_num, HNX, HEq⟩
          case measure => simp [intOf]; omega
        · have x0 := HPL.out _ h0
          have x1 := HPR.out _ h1
          have e91 : (((91 : UInt8).toNat : Nat) : Int) = 91 := rfl
          have e93 : (((93 : UInt8).toNat : Nat) : Int) = 93 := rfl
          rw [e91] at x0
          rw [e93] at x1
          have htl : (T.toList == [46]) = false := by
            rw [str_eq]
            refine decide_eq_false fun e => ?_
            have h2 := HTR.out
            have h3 : rest T 0 = [46] := e
            rw [h3] at h2
            have h4 : ((rest s p).take (q - p))[0]? = some 46 := by rw [← h2]; rfl
            rw [List.getElem?_take_of_lt (by omega), h0] at h4
            cases h4
          have hT1 : 1 ≤ T.size := by omega
          have hT2 : T.size ≤ 6000 := by omega
          rw [hkd] at c0
          clear hTs HTs
          clear HPL HPR HTR HC HT h0 h1 hkd c1 c3 c4
          go_wp2_with fail
          go_roundw
          case rel => exact ⟨k + 1, q, by omega, by omega, rfl, by go_num, HNX, HEq⟩
          case measure => simp [intOf]; omega
        · have x0 := HPL.out _ h0
          unfold dgt at hC
          simp only [Bool.and_eq_true, decide_eq_true_eq] at hC
          have z1 : decide ((48 : Int) ≤ (C.toNat : Int)) = true := by simp; omega
          have z2 : decide ((C.toNat : Int) ≤ 57) = true := by simp; omega
          have z1n : decide (48 ≤ C.toNat) = true := by simp; omega
          have z2n : decide (C.toNat ≤ 57) = true := by simp; omega
          have z3 : decide ((0 : Int) ≤ (y.n : Int)) = true := by simp
          have z4 : decide ((y.n : Int) ≤ 1073741824) = true := by simp; omega
          have z4n : decide (y.n ≤ 1073741824) = true := by simp; omega
          rw [hkd] at c0
          clear hTs HTs
          clear HPL HPR HTR HC HT h0 hC hkd c1 c3
          go_wp2_with fail
          go_roundw
          case rel => exact ⟨k + 1, q, by omega, by omega, rfl, by go_num, HNX, HEq⟩
          case measure => simp [intOf]; omega
      · have d1 : decide ((k : Int) < (L.length : Int)) = false := by simp; omega
        have hld : L.drop k = [] := List.drop_eq_nil_of_le (by omega)
        have hl := hL.out
        rw [hld] at hl
        have hre := rest_len he
        have HKr := Lib.hid (HK1.out.ext hEr.out)
        cases r with
        | some x =>
          obtain ⟨Ti, xi, rfl⟩ := Placed.iface HU.out
          clear HU hl hld hL
          go_wp2_with fail
          refine (lwakes_any es ed _ HKr.out).mono ?_
          rintro e w2 ⟨rfl, hx2⟩
          have HX := Lib.hid (bel_call (bel_call HE.out hEr.out) hx2)
          clear hx2
          go_wp2_with fail
          go_ret
          exact ⟨rfl, HX.out⟩
        | none =>
          obtain rfl : u = .nilIface := HU.out
          have hps := lxs_rest s.size (rest s e) e (by omega) hl
          have HPS := Lib.hid (fun w => passed_any (s.extract e s.size) (by rw [ByteArray.size_extract]; omega) (by rw [rest_ext]; exact hps) w)
          have i2 : (0 : Int) ≤ (e : Int) := by omega
          have i3 : (e : Int) ≤ (s.size : Int) := by omega
          clear HU hl hld hL hps
          go_wp2_with fail
          refine (HPS.out _).mono ?_
          rintro e1 w2 ⟨rfl, rfl⟩
          go_wp2_with fail
          refine (lwakes_any es ed _ HKr.out).mono ?_
          rintro e2 w2 ⟨rfl, hx2⟩
          have HX := Lib.hid (bel_call (bel_call HE.out hEr.out) hx2)
          clear hx2
          go_wp2_with fail
          go_ret
          exact ⟨rfl, HX.out⟩
end Go.Proofs.YtnecafokkhhhhaaDoor
