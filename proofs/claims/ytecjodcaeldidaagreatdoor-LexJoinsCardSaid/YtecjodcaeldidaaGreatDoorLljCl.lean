/- LexJoins returns true for every two texts, and leaves what it read as it was: on the conditions that the errors, the tables and the type that errors.As asks for, which the card ties to the program's text, stand in their variables when the call begins. -/
import Derived.Test.YtecjodcaeldidaaGreatDoorCls
import Derived.Test.YtecjodcaeldidaaGreatDoorLexA
import Derived.Test.YtecjodcaeldidaaGreatDoorBse
import Derived.Deep.CutBlock
import Derived.Deep.CutRange
import Derived.BigQuiet
namespace Go.Proofs.YtecjodcaeldidaaGreatDoor
open Go Go.RowKit
theorem nmd_some {t : List UInt8} {S : BitVec 256} (h : nmd t = some S) : 3 ≤ t.length ∧ t.length ≤ 6 ∧ (58 : UInt8) ∉ t := by
  unfold nmd at h
  by_cases e0 : t = [100, 105, 103, 105, 116]
  · subst e0; exact ⟨by decide, by decide, by decide⟩
  rw [if_neg e0] at h
  by_cases e1 : t = [108, 111, 119, 101, 114]
  · subst e1; exact ⟨by decide, by decide, by decide⟩
  rw [if_neg e1] at h
  by_cases e2 : t = [117, 112, 112, 101, 114]
  · subst e2; exact ⟨by decide, by decide, by decide⟩
  rw [if_neg e2] at h
  by_cases e3 : t = [97, 108, 112, 104, 97]
  · subst e3; exact ⟨by decide, by decide, by decide⟩
  rw [if_neg e3] at h
  by_cases e4 : t = [97, 108, 110, 117, 109]
  · subst e4; exact ⟨by decide, by decide, by decide⟩
  rw [if_neg e4] at h
  by_cases e5 : t = [119, 111, 114, 100]
  · subst e5; exact ⟨by decide, by decide, by decide⟩
  rw [if_neg e5] at h
  by_cases e6 : t = [120, 100, 105, 103, 105, 116]
  · subst e6; exact ⟨by decide, by decide, by decide⟩
  rw [if_neg e6] at h
  by_cases e7 : t = [98, 108, 97, 110, 107]
  · subst e7; exact ⟨by decide, by decide, by decide⟩
  rw [if_neg e7] at h
  by_cases e8 : t = [115, 112, 97, 99, 101]
  · subst e8; exact ⟨by decide, by decide, by decide⟩
  rw [if_neg e8] at h
  by_cases e9 : t = [112, 117, 110, 99, 116]
  · subst e9; exact ⟨by decide, by decide, by decide⟩
  rw [if_neg e9] at h
  by_cases e10 : t = [112, 114, 105, 110, 116]
  · subst e10; exact ⟨by decide, by decide, by decide⟩
  rw [if_neg e10] at h
  by_cases e11 : t = [99, 110, 116, 114, 108]
  · subst e11; exact ⟨by decide, by decide, by decide⟩
  rw [if_neg e11] at h
  by_cases e12 : t = [97, 110, 121]
  · subst e12; exact ⟨by decide, by decide, by decide⟩
  rw [if_neg e12] at h
  cases h
theorem occ_take {m : List UInt8} {j n : Nat} (h : Lib.occAt m [58, 93] j = true) (hj : j < n) : (58 : UInt8) ∈ m.take n := by
  unfold Lib.occAt at h
  have h1 := List.isPrefixOf_iff_prefix.1 h
  obtain ⟨t, ht⟩ := h1
  have e : (m.take n).drop j = (m.drop j).take (n - j) := by rw [List.drop_take]
  have hm : (58 : UInt8) ∈ (m.take n).drop j := by
    rw [e, ← ht]
    obtain ⟨q, hq⟩ : ∃ q, n - j = q + 1 := ⟨n - j - 1, by omega⟩
    rw [hq]
    simp
  exact List.mem_of_mem_drop hm
theorem nmq_hit (l : List UInt8) (n : Nat) (S : BitVec 256) (hp : Lib.hasPrefix ((l.drop 2).drop n) [58, 93] = true) (hn : nmd ((l.drop 2).take n) = some S) : nmq l = .inr (S, n + 4) := by
  generalize hm : l.drop 2 = m at hp hn
  have hle : n ≤ m.length := by
    rcases Nat.lt_or_ge m.length n with h | h
    · rw [List.drop_eq_nil_of_le (by omega)] at hp; cases hp
    · exact h
  have hno : ∀ j, j < n → Lib.occAt m [58, 93] j = false := by
    intro j hj
    cases ho : Lib.occAt m [58, 93] j with
    | false => rfl
    | true => exact absurd (occ_take ho hj) (nmd_some hn).2.2
  have hi : Lib.index m [58, 93] = (n : Int) := Lib.index_first hle hp hno
  have hc : Lib.cut m [58, 93] = (m.take n, m.drop (n + 2), true) := by
    unfold Lib.cut
    rw [hi, if_pos (by omega)]
    rfl
  unfold nmq
  rw [hm, hc]
  simp only [hn, if_true, List.length_take]
  rw [Nat.min_eq_left hle]
theorem nmq_miss (l : List UInt8) (h : ∀ n, 1 ≤ n → n < 8 → Lib.hasPrefix ((l.drop 2).drop n) [58, 93] = true → nmd ((l.drop 2).take n) = none) : nmq l = .inl 0 := by
  generalize hm : l.drop 2 = m at h
  unfold nmq
  rw [hm]
  rcases Lib.index_spec m [58, 93] with ⟨h1, _⟩ | ⟨i, h1, h2, h3, _⟩
  · have hc : Lib.cut m [58, 93] = (m, [], false) := by unfold Lib.cut; rw [h1]; rfl
    rw [hc]
    simp only []
    cases nmd m <;> rfl
  · have hc : Lib.cut m [58, 93] = (m.take i, m.drop (i + 2), true) := by
      unfold Lib.cut
      rw [h1, if_pos (by omega)]
      rfl
    rw [hc]
    cases hS : nmd (m.take i) with
    | none => rfl
    | some S =>
      exfalso
      have hl := nmd_some hS
      rw [List.length_take, Nat.min_eq_left h2] at hl
      rw [h i (by omega) (by omega) h3] at hS
      cases hS
end Go.Proofs.YtecjodcaeldidaaGreatDoor
namespace Go.Proofs.YtecjodcaeldidaaGreatDoor
open Go Go.RowKit
/-- What a refusal of Lex tells. -/
def dr (r : Option (Bool × Nat)) : Option (Nat × Int) := r.map fun x => (if x.1 = true then 2 else 1, (x.2 : Int))
theorem lex_er (ea : Nat → Addr) (s : ByteArray) (hs : s.size ≤ 65536) (w : World) (hK : Kg w ea) (L : List Lxm) (r : Option (Bool × Nat)) (hx : lxs s.size (rest s 0) 0 = (L, r)) :
    Calls Tryz.prog 13 #[.string s] w fun e w' => ∃ v u, e = .returned (.tuple #[v, u]) ∧ w'.ownsRow w.heap.size 47 9 v L.length (L.flatMap lcl) ∧ Er w' ea u (dr r) ∧ Ext w w' := by
  refine (lex_any s hs (ea 1) (ea 2) w hK.kn L r hx).mono ?_
  rintro e w' ⟨v, u, rfl, ho, hu, hE⟩
  refine ⟨v, u, rfl, ho, ?_, hE⟩
  cases r with
  | none => exact hu
  | some x =>
    obtain ⟨b, q⟩ := x
    cases b with
    | true => exact er_placed (hK.sent.ext hE) (show 2 < 16 by decide) hu
    | false => exact er_placed (hK.sent.ext hE) (show 1 < 16 by decide) hu
theorem dr_shr (r : Option (Bool × Nat)) (d : Nat) : erC (dr (shr d r)) = erC (dr r) ∧ (erC (dr r) = 0 ∨ ((erC (dr r) != 0) = true ∧ erA (dr (shr d r)) = erA (dr r) + d)) := by
  cases r with
  | none => exact ⟨rfl, .inl rfl⟩
  | some x =>
    obtain ⟨b, q⟩ := x
    refine ⟨rfl, .inr ⟨by cases b <;> rfl, ?_⟩⟩
    show ((q + d : Nat) : Int) = (q : Int) + d
    omega
theorem rest_app (A s : ByteArray) : rest (A ++ s) 0 = A.data.toList ++ rest s 0 := by
  unfold rest
  simp
abbrev ahB : ByteArray := ⟨#[32, 9, 35, 32, 120]⟩ ++ ⟨#[10]⟩
set_option maxHeartbeats 4000000 in
set_option maxRecDepth 20000 in
theorem lsame_any (s : ByteArray) (ea : Nat → Addr) (w : World) (hK : Kg w ea) :
    Calls Tryz.prog 5 #[.string s] w fun e w' => e = .returned (.bool true) ∧ Ext w w' := by
  have HK := Lib.hid hK
  clear hK
  by_cases h6 : 6000 < s.size
  · have d1 : decide ((6000 : Int) < (s.size : Int)) = true := by simp; omega
    have d1n : decide (6000 < s.size) = true := by simp; omega
    clear h6
    go_enter Tryz.func5, Tryz.ntmps5
    go_wp2_with fail
    refine (lwakes_any (ea 1) (ea 2) _ HK.out.kn).mono ?_
    rintro e w1 ⟨rfl, hx⟩
    have HX := Lib.hid hx
    clear hx
    go_wp2_with fail
    go_ret
    exact ⟨rfl, HX.out⟩
  · have d1 : decide ((6000 : Int) < (s.size : Int)) = false := by simp; omega
    have d1n : decide (6000 < s.size) = false := by simp; omega
    obtain ⟨⟨L, r⟩, hx⟩ : ∃ x, lxs s.size (rest s 0) 0 = x := ⟨_, rfl⟩
    have hlen : (rest s 0).length = s.size := by have := rest_len (show 0 ≤ s.size by omega); omega
    obtain ⟨T, hT⟩ : ∃ T, ahB ++ s = T := ⟨_, rfl⟩
    have hTs : T.size = s.size + 6 := by
      rw [← hT, ByteArray.size_append]
      have : ahB.size = 6 := by decide
      omega
    have hTr : rest T 0 = aheadL ++ rest s 0 := by rw [← hT, rest_app]; rfl
    have hx2 : lxs T.size (rest T 0) 0 = (⟨6, 5, 6, [], 0, 0#256⟩ :: L.map (mvl 6), shr 6 r) := by
      rw [hTr, hTs, ← hlen, lex_ahead, hlen, hx]
    have hbn := lxs_bnd s.size (rest s 0) 0
    rw [hx, hlen] at hbn
    have hbn1 : ∀ y ∈ L, y.a ≤ 6000 ∧ y.e ≤ 6000 := fun y hy => by have := hbn.1 y hy; omega
    have hbn2 : 0 ≤ erA (dr r) ∧ erA (dr r) ≤ 6000 := by
      cases hr : r with
      | none => simp [dr, erA]
      | some x =>
        obtain ⟨b, q⟩ := x
        have := hbn.2 b q hr
        show (0 : Int) ≤ (q : Int) ∧ (q : Int) ≤ 6000
        omega
    have HBN := Lib.hid hbn1
    clear hbn hbn1
    have HL1 := Lib.hid (fun w hK => lex_er ea s (by omega) w hK L r hx)
    have HL2 := Lib.hid (fun w hK => lex_er ea T (by omega) w hK _ _ hx2)
    obtain ⟨hc, hco⟩ := dr_shr r 6
    obtain ⟨d, hd⟩ : ∃ d, dr r = d := ⟨_, rfl⟩
    obtain ⟨d2, hd2⟩ : ∃ d2, dr (shr 6 r) = d2 := ⟨_, rfl⟩
    rw [hd] at HL1 hc hco hbn2
    rw [hd2] at HL2 hc hco
    obtain ⟨C, hC⟩ : ∃ C, erC d = C := ⟨_, rfl⟩
    obtain ⟨Q, hQ⟩ : ∃ Q, erA d = Q := ⟨_, rfl⟩
    obtain ⟨Q2, hQ2⟩ : ∃ Q2, erA d2 = Q2 := ⟨_, rfl⟩
    rw [hC] at hc hco
    rw [hQ, hQ2] at hco
    rw [hQ] at hbn2
    have HT1 := Lib.hid (fun u w hK h => tell_er ea u d w hK h)
    have HT2 := Lib.hid (fun u w hK h => tell_er ea u d2 w hK h)
    rw [hC, hQ] at HT1
    rw [hc, hQ2] at HT2
    have hTcat : (⟨#[32, 9, 35, 32, 120]⟩ : ByteArray) ++ ⟨#[10]⟩ ++ s = T := hT
    have HTC := Lib.hid hTcat
    have hcat : ((⟨#[32, 9, 35, 32, 120]⟩ : ByteArray) ++ ⟨#[10]⟩ ++ s).size ≤ 70000 := by rw [hTcat]; omega
    clear hTcat
    have hs6 : s.size ≤ 6000 := by omega
    have hah : ((⟨#[32, 9, 35, 32, 120]⟩ : ByteArray) ++ ⟨#[10]⟩).size = 6 := by decide
    have hT3 : T.size ≤ 65536 := by omega
    have HM := Lib.hid (show (⟨6, 5, 6, [], 0, 0#256⟩ :: L.map (mvl 6)).length = L.length + 1 by simp)
    clear hx hx2 hd hd2 hC hQ hQ2 hT hTr hlen hTs hc h6
    have hse0 : ∀ w, (Op.equalIn 10000 47 (.agg #[.int .i64 6, .int .i64 5, .int .i64 6, .string ⟨#[]⟩, .int .i64 0, .int .u64 0, .int .u64 0, .int .u64 0, .int .u64 0]) (.agg #[.int .i64 6, .int .i64 5, .int .i64 6, .string ⟨#[]⟩, .int .i64 0, .int .u64 0, .int .u64 0, .int .u64 0, .int .u64 0])).run Tryz.prog w = .ok true w := fun w => by
      have := lx_same 6 5 6 ⟨#[]⟩ 0 0#256 w
      simp only [wd_zero] at this
      exact this
    have HSE0 := Lib.hid hse0
    clear hse0
    go_enter Tryz.func5, Tryz.ntmps5
    go_wp2_with fail
    refine (HL1.out _ HK.out).mono ?_
    rintro e w1 ⟨v, u, rfl, hown1, hEr1, hx1⟩
    obtain ⟨⟨a, cap, rfl⟩, hopen1⟩ := lms_of_own hown1
    have HO1 := Lib.hid hopen1
    have HE1 := Lib.hid hx1
    have HR1 := Lib.hid hEr1
    clear hown1 hEr1 hx1 hopen1 HL1
    go_wp2_with fail
    rw [HTC.out]
    refine (HL2.out _ (HK.out.ext HE1.out)).mono ?_
    rintro e w2 ⟨v2, u2, rfl, hown2, hEr2, hx2⟩
    obtain ⟨g2, cap2, rfl, hm1, hm2, hm3, hm4⟩ := (lms_of_own hown2).2 (by rw [HM.out]; omega)
    rw [HM.out] at hm1 ⊢
    have hL63 : L.length + 1 ≤ 9223372036854775807 := by unfold maxLen at hm2; omega
    clear hm1 hm2
    have HM2 := Lib.hid hm4
    have HE2 := Lib.hid (bel_call HE1.out hx2)
    have HX2 := Lib.hid hx2
    have HR1' := Lib.hid (HR1.out.ext hx2)
    have HR2 := Lib.hid hEr2
    clear hown2 hEr2 hx2 hm4 HL2 HR1 hm3
    go_wp2_with fail
    refine (HT1.out u _ (HK.out.ext HE2.out) HR1'.out).mono ?_
    rintro e w3 ⟨f, rfl, ⟨ns, rfl, hns⟩, hE⟩
    obtain ⟨na, nc, rfl⟩ := hns.slice
    have hxa : Ext w2 (w3.alloc (.cells #[.int .i64 C, .int .i64 0, .int .i64 0, .int .i64 Q, .slice na 0 nc] 34)) := bel_alloc hE (Below.refl _ _) _
    have HB1 := Lib.hid (Blk.new w3 #[.int .i64 C, .int .i64 0, .int .i64 0, .int .i64 Q, .slice na 0 nc] 34)
    have HE3 := Lib.hid (bel_call HE2.out hxa)
    have HX3 := Lib.hid (bel_call HX2.out hxa)
    have HM3 := Lib.hid (HM2.out.ext hxa)
    have HR2' := Lib.hid (HR2.out.ext hxa)
    clear hxa hE hns HT1 HR1' HR2 HM2 HX2 HE2
    go_wp2_with fail
    generalize hp1 : w3.heap.size = p1 at HB1 ⊢
    clear hp1
    generalize w3.alloc (.cells #[.int .i64 C, .int .i64 0, .int .i64 0, .int .i64 Q, .slice na 0 nc] 34) = w4 at HE3 HB1 HX3 HM3 HR2' ⊢
    refine (HT2.out u2 _ (HK.out.ext HE3.out) HR2'.out).mono ?_
    rintro e w5 ⟨f, rfl, ⟨ms, rfl, hms⟩, hE⟩
    obtain ⟨ma, mc, rfl⟩ := hms.slice
    have hxa : Ext w4 (w5.alloc (.cells #[.int .i64 C, .int .i64 0, .int .i64 0, .int .i64 Q2, .slice ma 0 mc] 34)) := bel_alloc hE (Below.refl _ _) _
    have HB2 := Lib.hid (Blk.new w5 #[.int .i64 C, .int .i64 0, .int .i64 0, .int .i64 Q2, .slice ma 0 mc] 34)
    have HE5 := Lib.hid (bel_call HE3.out hxa)
    have HX5 := Lib.hid (bel_call HX3.out hxa)
    have HM5 := Lib.hid (HM3.out.ext hxa)
    have HB1' := Lib.hid (HB1.out.ext hxa)
    clear hxa hE hms HT2 HR2' HM3 HX3 HE3 HB1
    go_upto_region 9 with fail
    obtain ⟨x0, x1, x2, x3, x4⟩ := HB1'.out.cells5
    obtain ⟨y0, y1, y2, y3, y4⟩ := HB2.out.cells5
    have z0 : _ = some (Value.int .i64 6) := HM5.out.2 0 (by simp) 0 (by decide)
    have z1 : _ = some (Value.int .i64 5) := HM5.out.2 0 (by simp) 1 (by decide)
    have z2 : _ = some (Value.int .i64 6) := HM5.out.2 0 (by simp) 2 (by decide)
    have z3 : _ = some (Value.string ⟨#[]⟩) := HM5.out.2 0 (by simp) 3 (by decide)
    have z4 : _ = some (Value.int .i64 0) := HM5.out.2 0 (by simp) 4 (by decide)
    have z5 : _ = some (Value.int .u64 (wd 0#256 0)) := HM5.out.2 0 (by simp) 5 (by decide)
    have z6 : _ = some (Value.int .u64 (wd 0#256 1)) := HM5.out.2 0 (by simp) 6 (by decide)
    have z7 : _ = some (Value.int .u64 (wd 0#256 2)) := HM5.out.2 0 (by simp) 7 (by decide)
    have z8 : _ = some (Value.int .u64 (wd 0#256 3)) := HM5.out.2 0 (by simp) 8 (by decide)
    simp only [wd_zero, Nat.zero_mul, Nat.zero_add] at z0 z1 z2 z3 z4 z5 z6 z7 z8
    have hse0 := HSE0.out
    clear hcat hah d1 d1n HSE0
    generalize hp2 : w5.heap.size = p2 at HB2 y0 y1 y2 y3 y4 ⊢
    clear hp2
    generalize w5.alloc (.cells #[.int .i64 C, .int .i64 0, .int .i64 0, .int .i64 Q2, .slice ma 0 mc] 34) = w6 at *
    have HCC := Lib.hid (And.intro HE5 (And.intro HX5 HM5))
    rcases hco with rfl | ⟨hc0, rfl⟩
    · go_wp2_with fail
      clear z0 z1 z2 z3 z4 z5 z6 z7 z8 x0 x1 x2 x3 x4 y0 y1 y2 y3 y4 hse0
      go_loopw [11] (fun i wr => ∃ k : Nat, k ≤ L.length ∧ i = .int .i64 k ∧ Hid (Ext w6 wr)) (fun i _ => L.length - (intOf i).toNat)
      case atStart => exact ⟨0, Nat.zero_le _, rfl, Lib.hid (Below.refl _ _)⟩
      case round =>
        obtain ⟨k, hk, rfl, hEr⟩ := hrel
        by_cases hkl : k < L.length
        · have d1 : decide ((k : Int) < (L.length : Int)) = true := by simp; omega
          obtain ⟨g, cap', e1, _, _, _, hL1⟩ := HO1.out (by omega)
          obtain rfl : a = some ⟨g, 0, none⟩ := by cases e1; rfl
          have hLr := hL1.ext (bel_call HX5.out hEr.out)
          have hMr := HM5.out.ext hEr.out
          obtain ⟨y, hy⟩ : ∃ y, L[k] = y := ⟨_, rfl⟩
          have hLc := fun f hf => hLr.2 k hkl f hf
          have hMc := fun f hf => hMr.2 (k + 1) (by simp; omega) f hf
          simp only [List.getElem_cons_succ, List.getElem_map] at hMc
          rw [hy] at hLc hMc
          have HMC := Lib.hid (show ∀ w', Ext wr w' → ∀ f, f < 9 → w'.cell? ⟨g2, (k + 1) * 9 + f, none⟩ = (lcl (mvl 6 y))[f]? from fun w' hx f hf => by rw [hx.cell (p := ⟨g2, (k + 1) * 9 + f, none⟩) hMr.1]; exact hMc f hf)
          have c0 : wr.cell? ⟨g, k * 9, none⟩ = some (.int .i64 (y.kind : Int)) := hLc 0 (by decide)
          have c1 : wr.cell? ⟨g, k * 9 + 1, none⟩ = some (.int .i64 (y.a : Int)) := hLc 1 (by decide)
          have c2 : wr.cell? ⟨g, k * 9 + 2, none⟩ = some (.int .i64 (y.e : Int)) := hLc 2 (by decide)
          have c3 : wr.cell? ⟨g, k * 9 + 3, none⟩ = some (.string ⟨y.t.toArray⟩) := hLc 3 (by decide)
          have c4 : wr.cell? ⟨g, k * 9 + 4, none⟩ = some (.int .i64 (y.n : Int)) := hLc 4 (by decide)
          have c5 : wr.cell? ⟨g, k * 9 + 5, none⟩ = some (.int .u64 (wd y.S 0)) := hLc 5 (by decide)
          have c6 : wr.cell? ⟨g, k * 9 + 6, none⟩ = some (.int .u64 (wd y.S 1)) := hLc 6 (by decide)
          have c7 : wr.cell? ⟨g, k * 9 + 7, none⟩ = some (.int .u64 (wd y.S 2)) := hLc 7 (by decide)
          have c8 : wr.cell? ⟨g, k * 9 + 8, none⟩ = some (.int .u64 (wd y.S 3)) := hLc 8 (by decide)
          have HSE := Lib.hid (fun w => lx_same (y.kind : Int) ((y.a : Int) + 6) ((y.e : Int) + 6) ⟨y.t.toArray⟩ (y.n : Int) y.S w)
          have hyb := HBN.out y (by rw [← hy]; exact List.getElem_mem hkl)
          have hx7 : Ext wr (wr.alloc (.cells (lcs (y.kind : Int) ((y.a : Int) + 6) ((y.e : Int) + 6) ⟨y.t.toArray⟩ (y.n : Int) (wd y.S 0) (wd y.S 1) (wd y.S 2) (wd y.S 3)) 47)) := by (repeat' (first | (with_reducible exact Below.refl _ _) | (with_reducible assumption) | (with_reducible refine below_drewN ?_ _) | (with_reducible refine Below.alloc ?_ ?_ _) | (with_reducible refine Below.drew ?_) | (with_reducible refine Below.setCell ?_ ?_ _) | (with_reducible refine Below.trans ?_ (Below.mono (by with_reducible assumption) ?_)) | go_size))
          have HX7 := Lib.hid hx7
          have HB7 := Lib.hid (Blk.new wr (lcs (y.kind : Int) ((y.a : Int) + 6) ((y.e : Int) + 6) ⟨y.t.toArray⟩ (y.n : Int) (wd y.S 0) (wd y.S 1) (wd y.S 2) (wd y.S 3)) 47)
          clear hLc hMc hLr hMr hL1 hy hx7
          go_upto_region 17 with fail
          generalize hp7 : wr.heap.size = p7 at HB7 ⊢
          clear hp7
          generalize wr.alloc (.cells (lcs (y.kind : Int) ((y.a : Int) + 6) ((y.e : Int) + 6) ⟨y.t.toArray⟩ (y.n : Int) (wd y.S 0) (wd y.S 1) (wd y.S 2) (wd y.S 3)) 47) = w7 at HX7 HB7 ⊢
          clear c0 c1 c2 c3 c4 c5 c6 c7 c8
          refine G.wp_region_stab (G := Ext) (fun _ => none) (by kernel_rfl) (by kernel_rfl) (fun _ _ h => by cases h) (fun hex => ?_)
          iterate 7
            (refine G.wpS_one (A := ?_) hex rfl rfl (by simp) ?_ ?_ ?_
             rotate_left 2
             · intro w' hC K hK
               have hse := HSE.out; have hM := HMC.out w' (bel_call HX7.out hC.1); have m0 : w'.cell? ⟨g2, (k + 1) * 9, none⟩ = some (.int .i64 (y.kind : Int)) := hM 0 (by decide); have m1 : w'.cell? ⟨g2, (k + 1) * 9 + 1, none⟩ = some (.int .i64 ((y.a : Int) + 6)) := hM 1 (by decide); have m2 : w'.cell? ⟨g2, (k + 1) * 9 + 2, none⟩ = some (.int .i64 ((y.e : Int) + 6)) := hM 2 (by decide); have m3 : w'.cell? ⟨g2, (k + 1) * 9 + 3, none⟩ = some (.string ⟨y.t.toArray⟩) := hM 3 (by decide); have m4 : w'.cell? ⟨g2, (k + 1) * 9 + 4, none⟩ = some (.int .i64 (y.n : Int)) := hM 4 (by decide); have m5 : w'.cell? ⟨g2, (k + 1) * 9 + 5, none⟩ = some (.int .u64 (wd y.S 0)) := hM 5 (by decide); have m6 : w'.cell? ⟨g2, (k + 1) * 9 + 6, none⟩ = some (.int .u64 (wd y.S 1)) := hM 6 (by decide); have m7 : w'.cell? ⟨g2, (k + 1) * 9 + 7, none⟩ = some (.int .u64 (wd y.S 2)) := hM 7 (by decide); have m8 : w'.cell? ⟨g2, (k + 1) * 9 + 8, none⟩ = some (.int .u64 (wd y.S 3)) := hM 8 (by decide); have hb7 := HB7.out.ext hC.1; have b0 := hb7.cell 0; have b1 := hb7.cell 1; have b2 := hb7.cell 2; have b3 := hb7.cell 3; have b4 := hb7.cell 4; have b5 := hb7.cell 5; have b6 := hb7.cell 6; have b7 := hb7.cell 7; have b8 := hb7.cell 8; clear hM hb7
               go_wp2_with (fail)
               refine hK _ ?_
               first | exact Below.refl _ _ | assumption | ((repeat' (first | (with_reducible exact Below.refl _ _) | (with_reducible assumption) | (with_reducible refine below_drewN ?_ _) | (with_reducible refine Below.alloc ?_ ?_ _) | (with_reducible refine Below.drew ?_) | (with_reducible refine Below.setCell ?_ ?_ _) | (with_reducible refine Below.trans ?_ (Below.mono (by with_reducible assumption) ?_)) | go_size)))
             rotate_left 1
             · rfl
             clear hex; intro hex)
          refine G.wpS_nil fun w8 hAll => ?_
          have hE := hAll.1
          have HE8 := Lib.hid (bel_call (bel_call hEr.out HX7.out) hE)
          clear hE hAll hex HX7 HB7 HMC HSE
          go_wp2_with fail
          go_roundw
          case rel => exact ⟨k + 1, by omega, by go_num, HE8⟩
          case measure => simp [intOf]; omega
        · have d1 : decide ((k : Int) < (L.length : Int)) = false := by simp; omega
          have HW := Lib.hid (lwakes_any (ea 1) (ea 2) wr (HK.out.ext (bel_call HE5.out hEr.out)).kn)
          go_wp2_with fail
          refine HW.out.mono ?_
          rintro e w7 ⟨rfl, hx⟩
          have HX := Lib.hid (bel_call (bel_call HE5.out hEr.out) hx)
          clear hx HW
          go_wp2_with fail
          go_ret
          exact ⟨rfl, HX.out⟩
    · go_wp2_with fail
      clear z0 z1 z2 z3 z4 z5 z6 z7 z8 x0 x1 x2 x3 x4 y0 y1 y2 y3 y4 hse0
      go_loopw [11] (fun i wr => ∃ k : Nat, k ≤ L.length ∧ i = .int .i64 k ∧ Hid (Ext w6 wr)) (fun i _ => L.length - (intOf i).toNat)
      case atStart => exact ⟨0, Nat.zero_le _, rfl, Lib.hid (Below.refl _ _)⟩
      case round =>
        obtain ⟨k, hk, rfl, hEr⟩ := hrel
        by_cases hkl : k < L.length
        · have d1 : decide ((k : Int) < (L.length : Int)) = true := by simp; omega
          obtain ⟨g, cap', e1, _, _, _, hL1⟩ := HO1.out (by omega)
          obtain rfl : a = some ⟨g, 0, none⟩ := by cases e1; rfl
          have hLr := hL1.ext (bel_call HX5.out hEr.out)
          have hMr := HM5.out.ext hEr.out
          obtain ⟨y, hy⟩ : ∃ y, L[k] = y := ⟨_, rfl⟩
          have hLc := fun f hf => hLr.2 k hkl f hf
          have hMc := fun f hf => hMr.2 (k + 1) (by simp; omega) f hf
          simp only [List.getElem_cons_succ, List.getElem_map] at hMc
          rw [hy] at hLc hMc
          have HMC := Lib.hid (show ∀ w', Ext wr w' → ∀ f, f < 9 → w'.cell? ⟨g2, (k + 1) * 9 + f, none⟩ = (lcl (mvl 6 y))[f]? from fun w' hx f hf => by rw [hx.cell (p := ⟨g2, (k + 1) * 9 + f, none⟩) hMr.1]; exact hMc f hf)
          have c0 : wr.cell? ⟨g, k * 9, none⟩ = some (.int .i64 (y.kind : Int)) := hLc 0 (by decide)
          have c1 : wr.cell? ⟨g, k * 9 + 1, none⟩ = some (.int .i64 (y.a : Int)) := hLc 1 (by decide)
          have c2 : wr.cell? ⟨g, k * 9 + 2, none⟩ = some (.int .i64 (y.e : Int)) := hLc 2 (by decide)
          have c3 : wr.cell? ⟨g, k * 9 + 3, none⟩ = some (.string ⟨y.t.toArray⟩) := hLc 3 (by decide)
          have c4 : wr.cell? ⟨g, k * 9 + 4, none⟩ = some (.int .i64 (y.n : Int)) := hLc 4 (by decide)
          have c5 : wr.cell? ⟨g, k * 9 + 5, none⟩ = some (.int .u64 (wd y.S 0)) := hLc 5 (by decide)
          have c6 : wr.cell? ⟨g, k * 9 + 6, none⟩ = some (.int .u64 (wd y.S 1)) := hLc 6 (by decide)
          have c7 : wr.cell? ⟨g, k * 9 + 7, none⟩ = some (.int .u64 (wd y.S 2)) := hLc 7 (by decide)
          have c8 : wr.cell? ⟨g, k * 9 + 8, none⟩ = some (.int .u64 (wd y.S 3)) := hLc 8 (by decide)
          have HSE := Lib.hid (fun w => lx_same (y.kind : Int) ((y.a : Int) + 6) ((y.e : Int) + 6) ⟨y.t.toArray⟩ (y.n : Int) y.S w)
          have hyb := HBN.out y (by rw [← hy]; exact List.getElem_mem hkl)
          have hx7 : Ext wr (wr.alloc (.cells (lcs (y.kind : Int) ((y.a : Int) + 6) ((y.e : Int) + 6) ⟨y.t.toArray⟩ (y.n : Int) (wd y.S 0) (wd y.S 1) (wd y.S 2) (wd y.S 3)) 47)) := by (repeat' (first | (with_reducible exact Below.refl _ _) | (with_reducible assumption) | (with_reducible refine below_drewN ?_ _) | (with_reducible refine Below.alloc ?_ ?_ _) | (with_reducible refine Below.drew ?_) | (with_reducible refine Below.setCell ?_ ?_ _) | (with_reducible refine Below.trans ?_ (Below.mono (by with_reducible assumption) ?_)) | go_size))
          have HX7 := Lib.hid hx7
          have HB7 := Lib.hid (Blk.new wr (lcs (y.kind : Int) ((y.a : Int) + 6) ((y.e : Int) + 6) ⟨y.t.toArray⟩ (y.n : Int) (wd y.S 0) (wd y.S 1) (wd y.S 2) (wd y.S 3)) 47)
          clear hLc hMc hLr hMr hL1 hy hx7
          go_upto_region 17 with fail
          generalize hp7 : wr.heap.size = p7 at HB7 ⊢
          clear hp7
          generalize wr.alloc (.cells (lcs (y.kind : Int) ((y.a : Int) + 6) ((y.e : Int) + 6) ⟨y.t.toArray⟩ (y.n : Int) (wd y.S 0) (wd y.S 1) (wd y.S 2) (wd y.S 3)) 47) = w7 at HX7 HB7 ⊢
          clear c0 c1 c2 c3 c4 c5 c6 c7 c8
          refine G.wp_region_stab (G := Ext) (fun _ => none) (by kernel_rfl) (by kernel_rfl) (fun _ _ h => by cases h) (fun hex => ?_)
          iterate 7
            (refine G.wpS_one (A := ?_) hex rfl rfl (by simp) ?_ ?_ ?_
             rotate_left 2
             · intro w' hC K hK
               have hse := HSE.out; have hM := HMC.out w' (bel_call HX7.out hC.1); have m0 : w'.cell? ⟨g2, (k + 1) * 9, none⟩ = some (.int .i64 (y.kind : Int)) := hM 0 (by decide); have m1 : w'.cell? ⟨g2, (k + 1) * 9 + 1, none⟩ = some (.int .i64 ((y.a : Int) + 6)) := hM 1 (by decide); have m2 : w'.cell? ⟨g2, (k + 1) * 9 + 2, none⟩ = some (.int .i64 ((y.e : Int) + 6)) := hM 2 (by decide); have m3 : w'.cell? ⟨g2, (k + 1) * 9 + 3, none⟩ = some (.string ⟨y.t.toArray⟩) := hM 3 (by decide); have m4 : w'.cell? ⟨g2, (k + 1) * 9 + 4, none⟩ = some (.int .i64 (y.n : Int)) := hM 4 (by decide); have m5 : w'.cell? ⟨g2, (k + 1) * 9 + 5, none⟩ = some (.int .u64 (wd y.S 0)) := hM 5 (by decide); have m6 : w'.cell? ⟨g2, (k + 1) * 9 + 6, none⟩ = some (.int .u64 (wd y.S 1)) := hM 6 (by decide); have m7 : w'.cell? ⟨g2, (k + 1) * 9 + 7, none⟩ = some (.int .u64 (wd y.S 2)) := hM 7 (by decide); have m8 : w'.cell? ⟨g2, (k + 1) * 9 + 8, none⟩ = some (.int .u64 (wd y.S 3)) := hM 8 (by decide); have hb7 := HB7.out.ext hC.1; have b0 := hb7.cell 0; have b1 := hb7.cell 1; have b2 := hb7.cell 2; have b3 := hb7.cell 3; have b4 := hb7.cell 4; have b5 := hb7.cell 5; have b6 := hb7.cell 6; have b7 := hb7.cell 7; have b8 := hb7.cell 8; clear hM hb7
               go_wp2_with (fail)
               refine hK _ ?_
               first | exact Below.refl _ _ | assumption | ((repeat' (first | (with_reducible exact Below.refl _ _) | (with_reducible assumption) | (with_reducible refine below_drewN ?_ _) | (with_reducible refine Below.alloc ?_ ?_ _) | (with_reducible refine Below.drew ?_) | (with_reducible refine Below.setCell ?_ ?_ _) | (with_reducible refine Below.trans ?_ (Below.mono (by with_reducible assumption) ?_)) | go_size)))
             rotate_left 1
             · rfl
             clear hex; intro hex)
          refine G.wpS_nil fun w8 hAll => ?_
          have hE := hAll.1
          have HE8 := Lib.hid (bel_call (bel_call hEr.out HX7.out) hE)
          clear hE hAll hex HX7 HB7 HMC HSE
          go_wp2_with fail
          go_roundw
          case rel => exact ⟨k + 1, by omega, by go_num, HE8⟩
          case measure => simp [intOf]; omega
        · have d1 : decide ((k : Int) < (L.length : Int)) = false := by simp; omega
          have HW := Lib.hid (lwakes_any (ea 1) (ea 2) wr (HK.out.ext (bel_call HE5.out hEr.out)).kn)
          go_wp2_with fail
          refine HW.out.mono ?_
          rintro e w7 ⟨rfl, hx⟩
          have HX := Lib.hid (bel_call (bel_call HE5.out hEr.out) hx)
          clear hx HW
          go_wp2_with fail
          go_ret
          exact ⟨rfl, HX.out⟩
end Go.Proofs.YtecjodcaeldidaaGreatDoor
namespace Go.Proofs.YtecjodcaeldidaaGreatDoor
open Go Go.RowKit
/-- Two texts agree on their first m bytes. -/
def Sm (m : Nat) (l l' : List UInt8) : Prop := ∀ j, j < m → l'[j]? = l[j]?
theorem Sm.mono {m n : Nat} {l l' : List UInt8} (h : Sm m l l') (hn : n ≤ m) : Sm n l l' := fun j hj => h j (by omega)
theorem Sm.drop {m : Nat} {l l' : List UInt8} (h : Sm m l l') (d : Nat) : Sm (m - d) (l.drop d) (l'.drop d) := fun j hj => by
  rw [List.getElem?_drop, List.getElem?_drop]; exact h (d + j) (by omega)
theorem Sm.head {m : Nat} {c : UInt8} {t l' : List UInt8} (h : Sm m (c :: t) l') (hm : 0 < m) : ∃ t', l' = c :: t' ∧ Sm (m - 1) t t' := by
  have h0 := h 0 hm
  cases l' with
  | nil => simp at h0
  | cons d t' =>
    simp at h0
    subst h0
    exact ⟨t', rfl, fun j hj => by have := h (j + 1) (by omega); simpa using this⟩
theorem pfx_iff (l p : List UInt8) : Lib.hasPrefix l p = true ↔ ∀ j, j < p.length → l[j]? = p[j]? := by
  constructor
  · intro h j hj
    exact pfx_get h j hj
  · intro h
    refine List.isPrefixOf_iff_prefix.2 (List.prefix_iff_eq_take.2 ?_)
    apply List.ext_getElem?
    intro j
    by_cases hj : j < p.length
    · rw [List.getElem?_take_of_lt hj, h j hj]
    · rw [List.getElem?_eq_none (by omega), List.getElem?_eq_none (by rw [List.length_take]; omega)]
theorem Sm.pfx {m : Nat} {l l' p : List UInt8} (h : Sm m l l') (hp : p.length ≤ m) : Lib.hasPrefix l' p = Lib.hasPrefix l p := by
  rw [Bool.eq_iff_iff, pfx_iff, pfx_iff]
  constructor
  · intro g j hj; rw [← h j (by omega)]; exact g j hj
  · intro g j hj; rw [h j (by omega)]; exact g j hj
theorem hexOf_pf {t t' : List UInt8} {b n : Nat} (h : hexOf t = (b, n + 1)) (hs : Sm (n + 1) t t') : hexOf t' = (b, n + 1) := by
  unfold hexOf at h
  split at h
  · rename_i a x y r
    split at h
    · rename_i m k h1 h2
      simp only [Prod.mk.injEq] at h
      obtain ⟨t1, rfl, s1⟩ := hs.head (by omega)
      obtain ⟨t2, rfl, s2⟩ := s1.head (by omega)
      obtain ⟨t3, rfl, s3⟩ := s2.head (by omega)
      unfold hexOf
      simp only [h1, h2]
      simp only [Prod.mk.injEq]
      omega
    · simp at h
  · simp at h
theorem unq_pf {t t' : List UInt8} {b n : Nat} (h : unq t = (b, n + 1)) (hs : Sm (n + 1) t t') : unq t' = (b, n + 1) := by
  cases t with
  | nil => simp [unq] at h
  | cons c t =>
    obtain ⟨t1, rfl, s1⟩ := hs.head (by omega)
    by_cases h120 : c = 120
    · subst h120
      have e : ∀ l, unq (120 :: l) = hexOf (120 :: l) := fun l => rfl
      rw [e] at h ⊢
      exact hexOf_pf h hs
    · unfold unq at h ⊢
      simp only [h120, if_false] at h ⊢
      exact h
theorem chr_cons (M : List UInt8) (c : UInt8) (t : List UInt8) : chr unq M (c :: t) = if c = 92 then (if (unq t).2 = 0 then none else some ((unq t).1, (unq t).2 + 1)) else if c ∈ M then none else some (c.toNat, 1) := rfl
theorem chr_pf {M l l' : List UInt8} {b n : Nat} (h : chr unq M l = some (b, n)) (hs : Sm n l l') : chr unq M l' = some (b, n) := by
  cases l with
  | nil => cases h
  | cons c t =>
    rw [chr_cons] at h
    by_cases hc : c = 92
    · rw [if_pos hc] at h
      by_cases h0 : (unq t).2 = 0
      · rw [if_pos h0] at h; cases h
      · rw [if_neg h0] at h
        simp only [Option.some.injEq, Prod.mk.injEq] at h
        obtain ⟨h1, h2⟩ := h
        obtain ⟨t1, rfl, s1⟩ := hs.head (by omega)
        obtain ⟨m, hm⟩ : ∃ m, (unq t).2 = m + 1 := ⟨(unq t).2 - 1, by omega⟩
        have hu : unq t = ((unq t).1, m + 1) := by rw [← hm]
        have hu' := unq_pf hu (s1.mono (by omega))
        rw [chr_cons, if_pos hc, hu', if_neg (by simp)]
        simp only [Option.some.injEq, Prod.mk.injEq]
        omega
    · rw [if_neg hc] at h
      by_cases hm : c ∈ M
      · rw [if_pos hm] at h; cases h
      · rw [if_neg hm] at h
        simp only [Option.some.injEq, Prod.mk.injEq] at h
        obtain ⟨t1, rfl, s1⟩ := hs.head (by omega)
        rw [chr_cons, if_neg hc, if_neg hm]
        simp only [Option.some.injEq, Prod.mk.injEq]
        exact h
theorem nmq_inr {l : List UInt8} {S : BitVec 256} {n : Nat} (h : nmq l = .inr (S, n)) : ∃ j, n = j + 4 ∧ Lib.hasPrefix ((l.drop 2).drop j) [58, 93] = true ∧ nmd ((l.drop 2).take j) = some S := by
  unfold nmq at h
  generalize l.drop 2 = m at h ⊢
  split at h
  · cases h
  · rename_i U hU
    split at h
    · rename_i hc
      simp only [Sum.inr.injEq, Prod.mk.injEq] at h
      obtain ⟨rfl, rfl⟩ := h
      rcases Lib.index_spec m [58, 93] with ⟨h1, _⟩ | ⟨i, h1, h2, h3, _⟩
      · unfold Lib.cut at hc
        rw [h1, if_neg (by omega)] at hc
        cases hc
      · have hcut : (Lib.cut m [58, 93]).1 = m.take i := by
          unfold Lib.cut
          rw [h1, if_pos (by omega)]
          rfl
        rw [hcut] at hU ⊢
        exact ⟨i, by rw [List.length_take, Nat.min_eq_left h2], h3, hU⟩
    · cases h
theorem nmq_pf {l l' : List UInt8} {S : BitVec 256} {n : Nat} (h : nmq l = .inr (S, n)) (hs : Sm n l l') : nmq l' = .inr (S, n) := by
  obtain ⟨j, rfl, h1, h2⟩ := nmq_inr h
  have s2 := hs.drop 2
  refine nmq_hit l' j S ?_ ?_
  · rw [(s2.drop j).pfx (by simp)]; exact h1
  · rw [← h2]
    congr 1
    apply List.ext_getElem?
    intro i
    by_cases hi : i < j
    · rw [List.getElem?_take_of_lt hi, List.getElem?_take_of_lt hi]; exact s2 i (by omega)
    · rw [List.getElem?_eq_none (by rw [List.length_take]; omega), List.getElem?_eq_none (by rw [List.length_take]; omega)]
/-- A class's item hangs on its bytes, and on whether '-' stands behind it. -/
theorem spq_pf {l l' : List UInt8} {S : BitVec 256} {n : Nat} (h : spq unq l = .inr (S, n)) (hs : Sm (n + 1) l l') (hd : Sm (n + 2) l l' ∨ l[n]? ≠ some 45) : spq unq l' = .inr (S, n) := by
  unfold spq at h ⊢
  cases hc : chr unq marks.data.toList l with
  | none => rw [hc] at h; cases h
  | some bk =>
    obtain ⟨b, k⟩ := bk
    rw [hc] at h
    simp only at h
    have hk := chr_lt unq_len unq_byte hc
    split at h
    · rename_i hq
      simp only [Sum.inr.injEq, Prod.mk.injEq] at h
      obtain ⟨rfl, rfl⟩ := h
      rw [chr_pf hc (hs.mono (by omega))]
      simp only
      rw [if_pos]
      rcases hd with hd | hd
      · have sd := hd.drop k
        rw [sd.pfx (p := [45, 45]) (by simp), sd.pfx (p := [45]) (by simp)]
        exact hq
      · right
        have sd := hs.drop k
        rw [sd.pfx (p := [45]) (by simp)]
        cases hp : Lib.hasPrefix (l.drop k) [45] with
        | false => rfl
        | true =>
          exfalso
          apply hd
          have := pfx_get hp 0 (by decide)
          rw [List.getElem?_drop] at this
          simpa using this
    · rename_i hq
      cases hc2 : chr unq marks.data.toList (l.drop (k + 1)) with
      | none => rw [hc2] at h; cases h
      | some cm =>
        obtain ⟨c, m⟩ := cm
        rw [hc2] at h
        simp only at h
        split at h
        · cases h
        · rename_i hcb
          simp only [Sum.inr.injEq, Prod.mk.injEq] at h
          obtain ⟨rfl, rfl⟩ := h
          have hm := chr_lt unq_len unq_byte hc2
          rw [chr_pf hc (hs.mono (by omega))]
          simp only
          have sd := hs.drop k
          rw [if_neg (by rw [sd.pfx (p := [45, 45]) (by simp; omega), sd.pfx (p := [45]) (by simp; omega)]; exact hq), chr_pf hc2 ((hs.drop (k + 1)).mono (by omega))]
          simp only
          rw [if_neg hcb]
theorem itm_pf {l l' : List UInt8} {S : BitVec 256} {n : Nat} (h : itm unq l = .inr (S, n)) (hs : Sm (n + 1) l l') (hd : Sm (n + 2) l l' ∨ l[n]? ≠ some 45) : itm unq l' = .inr (S, n) := by
  have hn := (itm_len l).2 S n h
  have hp : Lib.hasPrefix l' [91, 58] = Lib.hasPrefix l [91, 58] := hs.pfx (by simp; omega)
  unfold itm at h ⊢
  rw [hp]
  split at h
  · rename_i hq
    rw [if_pos hq]
    exact nmq_pf h (hs.mono (by omega))
  · rename_i hq
    rw [if_neg hq]
    exact spq_pf h hs hd
theorem stp_pf {l l' : List UInt8} (hs : Sm 1 l l') (hd : Sm 2 l l' ∨ l[0]? = some 93) : stp l' = stp l := by
  unfold stp
  rcases hd with hd | hd
  · rw [hd.pfx (p := [45, 45]) (by simp), hd.pfx (p := [38, 38]) (by simp), hd.pfx (p := [93]) (by simp)]
  · have h1 : Lib.hasPrefix l [93] = true := by
      rw [pfx_iff]
      intro j hj
      have : j = 0 := by simpa using hj
      subst this
      exact hd
    have h2 : Lib.hasPrefix l' [93] = true := by rw [hs.pfx (p := [93]) (by simp)]; exact h1
    rw [h1, h2]
    simp
theorem ims_pf : ∀ (g : Nat) (l : List UInt8) (S : BitVec 256) (k : Nat) (T : BitVec 256) (m : Nat), ims unq g l S k = .inr (T, m) →
    ∀ (g' : Nat) (l' : List UInt8), l'.length < g' → Sm (m - k + 1) l l' → (Sm (m - k + 2) l l' ∨ l[m - k]? = some 93) → ims unq g' l' S k = .inr (T, m)
  | 0, _, _, _, _, _, h => by simp [ims] at h
  | g + 1, l, S, k, T, m, h => by
    intro g' l' hl hs hd
    obtain ⟨g', rfl⟩ : ∃ x, g' = x + 1 := ⟨g' - 1, by omega⟩
    rw [ims] at h ⊢
    by_cases hst : stp l = true
    · rw [if_pos hst] at h
      simp only [Sum.inr.injEq, Prod.mk.injEq] at h
      obtain ⟨rfl, rfl⟩ := h
      rw [Nat.sub_self] at hs hd
      rw [if_pos (by rw [stp_pf hs hd]; exact hst)]
    · rw [if_neg hst] at h
      cases hi : itm unq l with
      | inl d => rw [hi] at h; cases h
      | inr x =>
        obtain ⟨U, d⟩ := x
        rw [hi] at h
        simp only at h
        have hle := (ims_len g (l.drop d) (S ||| U) (k + d)).2 T m h
        have hdp := (itm_len l).2 U d hi
        have hst' : ¬ stp l' = true := by rw [stp_pf (hs.mono (by omega)) (.inl (hs.mono (by omega)))]; exact hst
        rw [if_neg hst']
        have hd2 : Sm (d + 2) l l' ∨ l[d]? ≠ some 45 := by
          by_cases e : m = k + d
          · rcases hd with hd | hd
            · exact .inl (hd.mono (by omega))
            · right
              rw [show m - k = d by omega] at hd
              rw [hd]
              decide
          · exact .inl (hs.mono (by omega))
        rw [itm_pf hi (hs.mono (by omega)) hd2]
        simp only
        have hll : 0 < l'.length := by
          cases l' with
          | nil =>
            have h0 := hs 0 (by omega)
            have : l ≠ [] := by intro e; subst e; simp at hdp; omega
            cases l with
            | nil => exact absurd rfl this
            | cons c t => simp at h0
          | cons c t => simp
        refine ims_pf g (l.drop d) (S ||| U) (k + d) T m h g' (l'.drop d) (by rw [List.length_drop]; omega) ((hs.drop d).mono (by omega)) ?_
        rcases hd with hd | hd
        · exact .inl ((hd.drop d).mono (by omega))
        · right
          rw [List.getElem?_drop, show d + (m - (k + d)) = m - k by omega]
          exact hd
theorem tls_first {n o k m : Nat} {S T : BitVec 256} {l : List UInt8} (h : tls unq n o S l k = .inr (T, m)) : l[0]? = some 93 ∨ k + 2 < m := by
  cases n with
  | zero => simp [tls] at h
  | succ n =>
    rw [tls] at h
    split at h
    · rename_i hp
      exact .inl (pfx_get hp 0 (by decide))
    · right
      split at h
      · split at h
        · cases h
        · rename_i U d hc
          have h1 := (((cls_len n).1 o (l.drop 2) (k + 2)).2 U d hc).1
          have h2 := (((cls_len n).2 o _ _ d).2 T m h).1
          omega
      · split at h
        · split at h
          · cases h
          · rename_i U d hc
            have h1 := (((cls_len n).1 o (l.drop 2) (k + 2)).2 U d hc).1
            have h2 := (((cls_len n).2 o _ _ d).2 T m h).1
            omega
        · cases h
theorem ims_then {l l' : List UInt8} {S U T R : BitVec 256} {m d k q n o : Nat} (hi : ims unq (l.length + 1) (l.drop d) U 0 = .inr (S, m)) (ht : tls unq n o T (l.drop (d + m)) (k + d + m) = .inr (R, q)) (hs : Sm (q - k) l l') : ims unq (l'.length + 1) (l'.drop d) U 0 = .inr (S, m) := by
  have hq := (((cls_len n).2 o T (l.drop (d + m)) (k + d + m)).2 R q ht).1
  refine ims_pf _ _ _ _ _ _ hi _ _ (by rw [List.length_drop]; omega) ((hs.drop d).mono (by omega)) ?_
  rcases tls_first ht with h | h
  · right
    rw [List.getElem?_drop] at h ⊢
    rw [← h]
    congr 1
  · exact .inl ((hs.drop d).mono (by omega))
theorem Sm.pos {m : Nat} {l l' : List UInt8} (h : Sm m l l') (j : Nat) (hj : j < m) (c : UInt8) (hc : l[j]? = some c) : j < l'.length := by
  rw [← h j hj] at hc
  exact (List.getElem?_eq_some_iff.1 hc).1
theorem one_get {l : List UInt8} {c : UInt8} (h : l[0]? = some c) : ∀ j, j < [c].length → l[j]? = [c][j]? := by
  intro j hj
  have e : j = 0 := by simpa using hj
  subst e
  exact h
theorem cls_pf : ∀ n, (∀ o l k S m, cls unq n o l k = .inr (S, m) → ∀ n' l', l'.length < n' → Sm (m - k) l l' → cls unq n' o l' k = .inr (S, m)) ∧
    (∀ o T l k S m, tls unq n o T l k = .inr (S, m) → ∀ n' l', l'.length < n' → Sm (m - k) l l' → tls unq n' o T l' k = .inr (S, m))
  | 0 => ⟨fun o l k S m h => by simp [cls] at h, fun o T l k S m h => by simp [tls] at h⟩
  | n + 1 => by
    obtain ⟨ih1, ih2⟩ := cls_pf n
    have hlen := cls_len n
    refine ⟨fun o l k S m h n' l' hn hs => ?_, fun o T l k S m h n' l' hn hs => ?_⟩
    · obtain ⟨n', rfl⟩ : ∃ x, n' = x + 1 := ⟨n' - 1, by omega⟩
      rw [cls] at h ⊢
      split at h
      · cases h
      · rename_i h0
        split at h
        · cases h
        · rename_i h40
          have h91 : Lib.hasPrefix l [91] = true := by simpa using h0
          have hl0 : l[0]? = some 91 := pfx_get h91 0 (by decide)
          have rest : ∀ (d j : Nat) (S0 T0 : BitVec 256), 1 ≤ d → ims unq (l.length + 1) (l.drop d) 0#256 0 = .inr (S0, j) → tls unq n (o + 1) T0 (l.drop (d + j)) (k + d + j) = .inr (S, m) →
              ims unq (l'.length + 1) (l'.drop d) 0#256 0 = .inr (S0, j) ∧ tls unq n' (o + 1) T0 (l'.drop (d + j)) (k + d + j) = .inr (S, m) ∧ Sm (d + 1) l l' := by
            intro d j S0 T0 hd hi ht
            have hq := ((hlen.2 (o + 1) T0 (l.drop (d + j)) (k + d + j)).2 S m ht).1
            have hp := hs.pos 0 (by omega) 91 hl0
            exact ⟨ims_then hi ht hs, ih2 _ _ _ _ _ _ ht _ _ (by rw [List.length_drop]; omega) ((hs.drop (d + j)).mono (by omega)), hs.mono (by omega)⟩
          split at h
          · rename_i h94
            split at h
            · cases h
            · rename_i S0 j hi
              obtain ⟨a, b, c⟩ := rest 2 j S0 _ (by omega) hi h
              rw [if_neg (by rw [c.pfx (p := [91]) (by simp)]; exact h0), if_neg h40, if_pos (by rw [(c.drop 1).pfx (p := [94]) (by simp)]; exact h94), a]
              exact b
          · rename_i h94
            split at h
            · cases h
            · rename_i S0 j hi
              obtain ⟨a, b, c⟩ := rest 1 j S0 _ (by omega) hi h
              rw [if_neg (by rw [c.pfx (p := [91]) (by simp)]; exact h0), if_neg h40, if_neg (by rw [(c.drop 1).pfx (p := [94]) (by simp)]; exact h94), a]
              exact b
    · obtain ⟨n', rfl⟩ : ∃ x, n' = x + 1 := ⟨n' - 1, by omega⟩
      have hst := tls_first h
      rw [tls] at h ⊢
      by_cases h0 : Lib.hasPrefix l [93] = true
      · rw [if_pos h0] at h
        simp only [Sum.inr.injEq, Prod.mk.injEq] at h
        obtain ⟨rfl, rfl⟩ := h
        rw [if_pos (by rw [hs.pfx (p := [93]) (by simp)]; exact h0)]
      · rw [if_neg h0] at h
        have hm : k + 2 < m := by
          rcases hst with e | e
          · exact absurd ((pfx_iff l [93]).2 (one_get e)) h0
          · exact e
        have rest : ∀ (p : List UInt8) (g : BitVec 256 → BitVec 256) (U : BitVec 256) (d : Nat), p.length = 2 → Lib.hasPrefix l p = true → cls unq n o (l.drop 2) (k + 2) = .inr (U, d) → tls unq n o (g U) (l.drop (d - k)) d = .inr (S, m) →
            cls unq n' o (l'.drop 2) (k + 2) = .inr (U, d) ∧ tls unq n' o (g U) (l'.drop (d - k)) d = .inr (S, m) := by
          intro p g U d hp hpp hc ht
          have h1 := ((hlen.1 o (l.drop 2) (k + 2)).2 U d hc).1
          have h2 := ((hlen.2 o (g U) (l.drop (d - k)) d).2 S m ht).1
          have hl0 := pfx_get hpp 0 (by omega)
          have hl : 0 < l'.length := by
            cases p with
            | nil => simp at hp
            | cons c p' => exact hs.pos 0 (by omega) c hl0
          exact ⟨ih1 _ _ _ _ _ hc _ _ (by rw [List.length_drop]; omega) ((hs.drop 2).mono (by omega)), ih2 _ _ _ _ _ _ ht _ _ (by rw [List.length_drop]; omega) ((hs.drop (d - k)).mono (by omega))⟩
        rw [if_neg (by rw [hs.pfx (p := [93]) (by simp; omega)]; exact h0)]
        rw [hs.pfx (p := [45, 45]) (by simp; omega), hs.pfx (p := [38, 38]) (by simp; omega)]
        split at h
        · rename_i h1
          rw [if_pos h1]
          split at h
          · cases h
          · rename_i U d hc
            obtain ⟨a, b⟩ := rest [45, 45] (fun U => T &&& ~~~U) U d rfl h1 hc h
            rw [a]
            exact b
        · rename_i h1
          rw [if_neg h1]
          split at h
          · rename_i h2
            rw [if_pos h2]
            split at h
            · cases h
            · rename_i U d hc
              obtain ⟨a, b⟩ := rest [38, 38] (fun U => T &&& U) U d rfl h2 hc h
              rw [a]
              exact b
          · cases h
theorem quo_pf : ∀ (g : Nat) (l A : List UInt8) (k : Nat) (B : List UInt8) (m : Nat), quo unq g l A k = .inr (B, m) → ∀ (g' : Nat) (l' : List UInt8), l'.length < g' → Sm (m - k) l l' → quo unq g' l' A k = .inr (B, m)
  | 0, _, _, _, _, _, h => by simp [quo] at h
  | g + 1, l, A, k, B, m, h => by
    intro g' l' hl hs
    obtain ⟨g', rfl⟩ : ∃ x, g' = x + 1 := ⟨g' - 1, by omega⟩
    have hkm := (quo_last _ _ _ _ _ _ h).1
    unfold quo at h ⊢
    rw [hs.pfx (p := [34]) (by simp; omega)]
    split at h
    · rename_i h0
      rw [if_pos h0]
      exact h
    · rename_i h0
      rw [if_neg h0]
      split at h
      · cases h
      · rename_i b d hc
        have hd := chr_lt unq_len unq_byte hc
        have hm := (quo_last _ _ _ _ _ _ h).1
        have hl0 : 0 < l'.length := by
          cases l with
          | nil => simp at hd; omega
          | cons c t => exact hs.pos 0 (by omega) c rfl
        rw [chr_pf hc (hs.mono (by omega))]
        exact quo_pf g _ _ _ _ _ h _ _ (by rw [List.length_drop]; omega) ((hs.drop d).mono (by omega))
theorem quq_pf {l l' : List UInt8} {k : Nat} {A : List UInt8} {m : Nat} (h : quq unq l k = .inr (A, m)) (hs : Sm (m - k) l l') : quq unq l' k = .inr (A, m) := by
  have hkm := (quq_last h).1
  unfold quq at h ⊢
  rw [hs.pfx (p := [34]) (by simp; omega)]
  split at h
  · rename_i h0
    rw [if_pos h0]
    exact quo_pf _ _ _ _ _ _ h _ _ (by rw [List.length_drop]; omega) ((hs.drop 1).mono (by omega))
  · cases h
end Go.Proofs.YtecjodcaeldidaaGreatDoor
namespace Go.Proofs.YtecjodcaeldidaaGreatDoor
open Go Go.RowKit
/-- No LF among the first m bytes. -/
def NoL (m : Nat) (l : List UInt8) : Prop := ∀ j, j < m → l[j]? ≠ some 10
theorem NoL.cat {a b : Nat} {l : List UInt8} (h : NoL a l) (g : NoL b (l.drop a)) : NoL (a + b) l := fun j hj => by
  by_cases hja : j < a
  · exact h j hja
  · have := g (j - a) (by omega)
    rw [List.getElem?_drop, show a + (j - a) = j by omega] at this
    exact this
theorem NoL.cons {m : Nat} {c : UInt8} {t : List UInt8} (h : c ≠ 10) (g : NoL m t) : NoL (m + 1) (c :: t) := fun j hj => by
  cases j with
  | zero => simpa using h
  | succ j => simpa using g j (by omega)
theorem NoL.pfx {l p : List UInt8} (h : Lib.hasPrefix l p = true) (hp : (10 : UInt8) ∉ p) : NoL p.length l := fun j hj e => by
  rw [pfx_get h j hj] at e
  exact hp (List.mem_of_getElem? e)
theorem NoL.zero (l : List UInt8) : NoL 0 l := fun j hj => by omega
theorem hx_ten (c : UInt8) (m : Nat) (h : hx c.toNat = some m) : c ≠ 10 := by
  intro e
  subst e
  simp [hx] at h
theorem hexOf_noL {t : List UInt8} {b n : Nat} (h0 : t[0]? = some 120) (h : hexOf t = (b, n + 1)) : NoL (n + 1) t := by
  unfold hexOf at h
  split at h
  · rename_i a x y r
    split at h
    · rename_i m k h1 h2
      simp only [Prod.mk.injEq] at h
      have hn : n = 2 := by omega
      subst hn
      have ha : a = 120 := by simpa using h0
      exact NoL.cons (by rw [ha]; decide) (NoL.cons (hx_ten _ _ h1) (NoL.cons (hx_ten _ _ h2) (NoL.zero _)))
    · simp at h
  · simp at h
theorem unq_noL {t : List UInt8} {b n : Nat} (h : unq t = (b, n + 1)) : NoL (n + 1) t := by
  cases t with
  | nil => simp [unq] at h
  | cons c t =>
    by_cases h120 : c = 120
    · subst h120
      exact hexOf_noL (by simp) h
    · by_cases h10 : c = 10
      · subst h10
        exfalso
        have e : unq (10 :: t) = (0, 0) := by
          have hp : sPunct.getLsbD (10 : UInt8).toNat = false := by decide +kernel
          unfold unq
          simp only
          rw [hp]
          rfl
        rw [e] at h
        simp at h
      · have hn : n = 0 := by
          unfold unq at h
          simp only [h120, if_false] at h
          repeat' (split at h)
          all_goals (simp only [Prod.mk.injEq] at h; omega)
        subst hn
        exact NoL.cons h10 (NoL.zero _)
theorem chr_noL {M l : List UInt8} {b n : Nat} (hM : (10 : UInt8) ∈ M) (h : chr unq M l = some (b, n)) : NoL n l := by
  cases l with
  | nil => cases h
  | cons c t =>
    rw [chr_cons] at h
    by_cases hc : c = 92
    · rw [if_pos hc] at h
      by_cases h0 : (unq t).2 = 0
      · rw [if_pos h0] at h; cases h
      · rw [if_neg h0] at h
        simp only [Option.some.injEq, Prod.mk.injEq] at h
        obtain ⟨h1, h2⟩ := h
        obtain ⟨m, hm⟩ : ∃ m, (unq t).2 = m + 1 := ⟨(unq t).2 - 1, by omega⟩
        have hu : unq t = ((unq t).1, m + 1) := by rw [← hm]
        have := NoL.cons (c := c) (by rw [hc]; decide) (unq_noL hu)
        rw [show n = m + 1 + 1 by omega]
        exact this
    · rw [if_neg hc] at h
      by_cases hm : c ∈ M
      · rw [if_pos hm] at h; cases h
      · rw [if_neg hm] at h
        simp only [Option.some.injEq, Prod.mk.injEq] at h
        have hn : n = 0 + 1 := by omega
        rw [hn]
        exact NoL.cons (fun e => hm (e ▸ hM)) (NoL.zero _)
theorem nmd_noL {l : List UInt8} {S : BitVec 256} (h : nmd l = some S) : (10 : UInt8) ∉ l := by
  intro h10
  have no : ∀ p : List UInt8, (10 : UInt8) ∉ p → l ≠ p := fun p hp e => hp (e ▸ h10)
  unfold nmd at h
  rw [if_neg (no _ (by decide)), if_neg (no _ (by decide)), if_neg (no _ (by decide)), if_neg (no _ (by decide)), if_neg (no _ (by decide)), if_neg (no _ (by decide)), if_neg (no _ (by decide)), if_neg (no _ (by decide)), if_neg (no _ (by decide)), if_neg (no _ (by decide)), if_neg (no _ (by decide)), if_neg (no _ (by decide)), if_neg (no _ (by decide))] at h
  cases h
theorem nmq_noL {l : List UInt8} {S : BitVec 256} {n : Nat} (hp : Lib.hasPrefix l [91, 58] = true) (h : nmq l = .inr (S, n)) : NoL n l := by
  obtain ⟨j, rfl, h1, h2⟩ := nmq_inr h
  have a1 := NoL.pfx hp (by decide)
  have a3 := NoL.pfx h1 (by decide)
  have a2 : NoL j (l.drop 2) := fun i hi e => nmd_noL h2 (List.mem_of_getElem? (i := i) (by rw [List.getElem?_take_of_lt hi]; exact e))
  have := a1.cat (a2.cat a3)
  rw [show j + 4 = 2 + (j + 2) by omega]
  exact this
theorem spq_noL {l : List UInt8} {S : BitVec 256} {n : Nat} (h : spq unq l = .inr (S, n)) : NoL n l := by
  unfold spq at h
  cases hc : chr unq marks.data.toList l with
  | none => rw [hc] at h; cases h
  | some bk =>
    obtain ⟨b, k⟩ := bk
    rw [hc] at h
    simp only at h
    have n1 := chr_noL (by decide) hc
    split at h
    · simp only [Sum.inr.injEq, Prod.mk.injEq] at h
      obtain ⟨rfl, rfl⟩ := h
      exact n1
    · rename_i hq
      cases hc2 : chr unq marks.data.toList (l.drop (k + 1)) with
      | none => rw [hc2] at h; cases h
      | some cm =>
        obtain ⟨c, m⟩ := cm
        rw [hc2] at h
        simp only at h
        split at h
        · cases h
        · simp only [Sum.inr.injEq, Prod.mk.injEq] at h
          obtain ⟨rfl, rfl⟩ := h
          have hp : Lib.hasPrefix (l.drop k) [45] = true := by
            cases hx : Lib.hasPrefix (l.drop k) [45] with
            | true => rfl
            | false => exact absurd (.inr hx) hq
          have n2 := n1.cat (NoL.pfx hp (by decide))
          exact n2.cat (chr_noL (by decide) hc2)
theorem itm_noL {l : List UInt8} {S : BitVec 256} {n : Nat} (h : itm unq l = .inr (S, n)) : NoL n l := by
  unfold itm at h
  split at h
  · rename_i hp
    exact nmq_noL hp h
  · exact spq_noL h
theorem ims_noL : ∀ (g : Nat) (l : List UInt8) (S : BitVec 256) (k : Nat) (T : BitVec 256) (m : Nat), ims unq g l S k = .inr (T, m) → NoL (m - k) l
  | 0, _, _, _, _, _, h => by simp [ims] at h
  | g + 1, l, S, k, T, m, h => by
    have hk := (ims_len (g + 1) l S k).2 T m h
    rw [ims] at h
    split at h
    · simp only [Sum.inr.injEq, Prod.mk.injEq] at h
      obtain ⟨rfl, rfl⟩ := h
      rw [Nat.sub_self]
      exact NoL.zero _
    · cases hi : itm unq l with
      | inl d => rw [hi] at h; cases h
      | inr x =>
        obtain ⟨U, d⟩ := x
        rw [hi] at h
        simp only at h
        have h2 := ((ims_len g (l.drop d) (S ||| U) (k + d)).2 T m h).1
        have := (itm_noL hi).cat (ims_noL g _ _ _ _ _ h)
        rw [show d + (m - (k + d)) = m - k by omega] at this
        exact this
theorem cls_noL : ∀ n, (∀ o l k S m, cls unq n o l k = .inr (S, m) → NoL (m - k) l) ∧ (∀ o T l k S m, tls unq n o T l k = .inr (S, m) → NoL (m - k) l)
  | 0 => ⟨fun o l k S m h => by simp [cls] at h, fun o T l k S m h => by simp [tls] at h⟩
  | n + 1 => by
    obtain ⟨ih1, ih2⟩ := cls_noL n
    have hlen := cls_len n
    refine ⟨fun o l k S m h => ?_, fun o T l k S m h => ?_⟩
    · rw [cls] at h
      split at h
      · cases h
      · rename_i h0
        split at h
        · cases h
        · have h91 : Lib.hasPrefix l [91] = true := by simpa using h0
          have rest : ∀ (d j : Nat) (S0 T0 : BitVec 256), NoL d l → ims unq (l.length + 1) (l.drop d) 0#256 0 = .inr (S0, j) → tls unq n (o + 1) T0 (l.drop (d + j)) (k + d + j) = .inr (S, m) → NoL (m - k) l := by
            intro d j S0 T0 hd hi ht
            have hq := ((hlen.2 (o + 1) T0 (l.drop (d + j)) (k + d + j)).2 S m ht).1
            have a := hd.cat (ims_noL _ _ _ _ _ _ hi)
            rw [Nat.sub_zero] at a
            have b := a.cat (ih2 _ _ _ _ _ _ ht)
            rw [show d + j + (m - (k + d + j)) = m - k by omega] at b
            exact b
          have n1 : NoL 1 l := NoL.pfx h91 (by decide)
          split at h
          · rename_i h94
            split at h
            · cases h
            · rename_i S0 j hi
              exact rest 2 j S0 _ (n1.cat (NoL.pfx h94 (by decide))) hi h
          · split at h
            · cases h
            · rename_i S0 j hi
              exact rest 1 j S0 _ n1 hi h
    · rw [tls] at h
      have rest : ∀ (p : List UInt8) (g : BitVec 256 → BitVec 256) (U : BitVec 256) (d : Nat), p.length = 2 → (10 : UInt8) ∉ p → Lib.hasPrefix l p = true → cls unq n o (l.drop 2) (k + 2) = .inr (U, d) → tls unq n o (g U) (l.drop (d - k)) d = .inr (S, m) → NoL (m - k) l := by
        intro p g U d hp h10 hpp hc ht
        have h1 := ((hlen.1 o (l.drop 2) (k + 2)).2 U d hc).1
        have h2 := ((hlen.2 o (g U) (l.drop (d - k)) d).2 S m ht).1
        have a := NoL.pfx hpp h10
        rw [hp] at a
        have b := a.cat (ih1 _ _ _ _ _ hc)
        rw [show 2 + (d - (k + 2)) = d - k by omega] at b
        have c := b.cat (ih2 _ _ _ _ _ _ ht)
        rw [show d - k + (m - d) = m - k by omega] at c
        exact c
      split at h
      · rename_i h0
        simp only [Sum.inr.injEq, Prod.mk.injEq] at h
        obtain ⟨rfl, rfl⟩ := h
        rw [Nat.add_sub_cancel_left]
        exact NoL.pfx h0 (by decide)
      · split at h
        · rename_i h1
          split at h
          · cases h
          · rename_i U d hc
            exact rest [45, 45] (fun U => T &&& ~~~U) U d rfl (by decide) h1 hc h
        · split at h
          · rename_i h2
            split at h
            · cases h
            · rename_i U d hc
              exact rest [38, 38] (fun U => T &&& U) U d rfl (by decide) h2 hc h
          · cases h
theorem quo_noL : ∀ (g : Nat) (l A : List UInt8) (k : Nat) (B : List UInt8) (m : Nat), quo unq g l A k = .inr (B, m) → NoL (m - k) l
  | 0, _, _, _, _, _, h => by simp [quo] at h
  | g + 1, l, A, k, B, m, h => by
    have hkm := (quo_last _ _ _ _ _ _ h).1
    unfold quo at h
    split at h
    · rename_i h0
      simp only [Sum.inr.injEq, Prod.mk.injEq] at h
      obtain ⟨rfl, rfl⟩ := h
      rw [Nat.add_sub_cancel_left]
      exact NoL.pfx h0 (by decide)
    · split at h
      · cases h
      · rename_i b d hc
        have hm := (quo_last _ _ _ _ _ _ h).1
        have := (chr_noL (by decide) hc).cat (quo_noL g _ _ _ _ _ h)
        rw [show d + (m - (k + d)) = m - k by omega] at this
        exact this
theorem quq_noL {l : List UInt8} {k : Nat} {A : List UInt8} {m : Nat} (h : quq unq l k = .inr (A, m)) : NoL (m - k) l := by
  have hkm := (quq_last h).1
  unfold quq at h
  split at h
  · rename_i h0
    have hm := (quo_last _ _ _ _ _ _ h).1
    have := (NoL.pfx h0 (by decide)).cat (quo_noL _ _ _ _ _ _ h)
    rw [show [(34 : UInt8)].length + (m - (k + 1)) = m - k by simp; omega] at this
    exact this
  · cases h
/-- What takes no LF is told by the text ahead of the LF. -/
theorem noL_sm {m : Nat} {l r : List UInt8} (h : NoL m (l ++ 10 :: r)) : m ≤ l.length ∧ Sm m (l ++ 10 :: r) l := by
  have hm : m ≤ l.length := by
    by_cases hm : m ≤ l.length
    · exact hm
    · exact absurd (by simp) (h l.length (by omega))
  exact ⟨hm, fun j hj => by rw [List.getElem?_append_left (by omega)]⟩
theorem sm_app {m : Nat} (l r : List UInt8) (h : m ≤ l.length) : Sm m l (l ++ r) := fun j hj => by rw [List.getElem?_append_left (by omega)]
theorem run_join (P : Nat → Bool) (hP : P 10 = false) : ∀ (l r : List UInt8), run P (l ++ 10 :: r) = run P l
  | [], r => run_cons_false P 10 r hP
  | c :: t, r => by
    rw [List.cons_append]
    cases h : P c.toNat with
    | true => rw [run_cons_true P c _ h, run_cons_true P c t h, run_join P hP t r]
    | false => rw [run_cons_false P c _ h, run_cons_false P c t h]
theorem mkl_join (c : Nat) (l r : List UInt8) : mkl c (l ++ 10 :: r) = mkl c l := by
  unfold mkl
  have e : Lib.hasPrefix (l ++ 10 :: r) [62] = Lib.hasPrefix l [62] := by
    cases l with
    | nil => rfl
    | cons d t => rfl
  rw [e]
/-- One lexeme, an LF behind it somewhere: the same lexeme; or refused, as before. -/
theorem one_join (c : UInt8) (t r : List UInt8) (k : Nat) :
    (∀ y, one (c :: t) k = .inr y → one (c :: t ++ 10 :: r) k = .inr y) ∧ (∀ x, one (c :: t) k = .inl x → ∃ x', one (c :: t ++ 10 :: r) k = .inl x') := by
  have e1 : run rmk (c :: t ++ 10 :: r) = run rmk (c :: t) := run_join rmk rfl _ _
  have e2 : run nmc (c :: t ++ 10 :: r) = run nmc (c :: t) := run_join nmc rfl _ _
  have e3 : run dgt (c :: t ++ 10 :: r) = run dgt (c :: t) := run_join dgt rfl _ _
  have t2 : (c :: t ++ 10 :: r).take (run nmc (c :: t)) = (c :: t).take (run nmc (c :: t)) := List.take_append_of_le_length (run_le _ _)
  have t3 : (c :: t ++ 10 :: r).take (run dgt (c :: t)) = (c :: t).take (run dgt (c :: t)) := List.take_append_of_le_length (run_le _ _)
  have e4 : mkl c.toNat ((c :: t ++ 10 :: r).drop 1) = mkl c.toNat ((c :: t).drop 1) := mkl_join _ _ _
  show (∀ y, oneR c.toNat (c :: t) k = .inr y → oneR c.toNat (c :: t ++ 10 :: r) k = .inr y) ∧ (∀ x, oneR c.toNat (c :: t) k = .inl x → ∃ x', oneR c.toNat (c :: t ++ 10 :: r) k = .inl x')
  have hq : (∀ A m, quq unq (c :: t) k = .inr (A, m) → quq unq (c :: t ++ 10 :: r) k = .inr (A, m)) ∧ (∀ d, quq unq (c :: t) k = .inl d → ∃ d', quq unq (c :: t ++ 10 :: r) k = .inl d') := by
    refine ⟨fun A m h => quq_pf h (sm_app _ _ (by have := (quq_len (c :: t) k).2 A m h; omega)), fun d h => ?_⟩
    cases hx : quq unq (c :: t ++ 10 :: r) k with
    | inl d' => exact ⟨d', rfl⟩
    | inr x =>
      obtain ⟨A, m⟩ := x
      have := quq_pf hx (noL_sm (quq_noL hx)).2
      rw [h] at this
      cases this
  have hc : (∀ S m, cls unq ((c :: t).length + 1) 0 (c :: t) k = .inr (S, m) → cls unq ((c :: t ++ 10 :: r).length + 1) 0 (c :: t ++ 10 :: r) k = .inr (S, m)) ∧
      (∀ x, cls unq ((c :: t).length + 1) 0 (c :: t) k = .inl x → ∃ x', cls unq ((c :: t ++ 10 :: r).length + 1) 0 (c :: t ++ 10 :: r) k = .inl x') := by
    refine ⟨fun S m h => (cls_pf _).1 _ _ _ _ _ h _ _ (by omega) (sm_app _ _ (by have := ((cls_len _).1 _ _ _).2 S m h; omega)), fun d h => ?_⟩
    cases hx : cls unq ((c :: t ++ 10 :: r).length + 1) 0 (c :: t ++ 10 :: r) k with
    | inl d' => exact ⟨d', rfl⟩
    | inr x =>
      obtain ⟨A, m⟩ := x
      have := (cls_pf _).1 _ _ _ _ _ hx ((c :: t).length + 1) (c :: t) (by omega) (noL_sm ((cls_noL _).1 _ _ _ _ _ hx)).2
      rw [h] at this
      cases this
  unfold oneR
  rw [e1, e2, e3, t2, t3, e4]
  have t5 : (c :: t ++ 10 :: r).take (mkl c.toNat ((c :: t).drop 1)) = (c :: t).take (mkl c.toNat ((c :: t).drop 1)) := by
    refine List.take_append_of_le_length ?_
    unfold mkl
    simp only [List.drop_succ_cons, List.drop_zero]
    split
    · split
      · rename_i h
        have := pfx_len h
        simp at this ⊢
        omega
      · simp
    · split <;> simp
  rw [t5]
  by_cases h1 : blnk c.toNat = true
  · rw [if_pos h1, if_pos h1]
    exact ⟨fun y h => h, fun x h => ⟨x, h⟩⟩
  rw [if_neg h1, if_neg h1]
  by_cases h2 : c.toNat = 35
  · rw [if_pos h2, if_pos h2]
    exact ⟨fun y h => h, fun x h => ⟨x, h⟩⟩
  rw [if_neg h2, if_neg h2]
  by_cases h3 : c.toNat = 10
  · rw [if_pos h3, if_pos h3]
    exact ⟨fun y h => h, fun x h => ⟨x, h⟩⟩
  rw [if_neg h3, if_neg h3]
  by_cases h4 : ltr c.toNat = true
  · rw [if_pos h4, if_pos h4]
    exact ⟨fun y h => h, fun x h => ⟨x, h⟩⟩
  rw [if_neg h4, if_neg h4]
  by_cases h5 : dgt c.toNat = true
  · rw [if_pos h5, if_pos h5]
    exact ⟨fun y h => h, fun x h => ⟨x, h⟩⟩
  rw [if_neg h5, if_neg h5]
  by_cases h6 : c.toNat = 34
  · rw [if_pos h6, if_pos h6]
    cases hx : quq unq (c :: t) k with
    | inl d =>
      obtain ⟨d', h'⟩ := hq.2 d hx
      rw [h']
      exact ⟨fun y h => (by cases h), fun x h => ⟨_, rfl⟩⟩
    | inr am =>
      obtain ⟨A, m⟩ := am
      rw [hq.1 A m hx]
      exact ⟨fun y h => h, fun x h => (by cases h)⟩
  rw [if_neg h6, if_neg h6]
  by_cases h7 : c.toNat = 91
  · rw [if_pos h7, if_pos h7]
    cases hx : cls unq ((c :: t).length + 1) 0 (c :: t) k with
    | inl d =>
      obtain ⟨d', h'⟩ := hc.2 d hx
      rw [h']
      exact ⟨fun y h => (by cases h), fun x h => ⟨_, rfl⟩⟩
    | inr am =>
      obtain ⟨A, m⟩ := am
      rw [hc.1 A m hx]
      exact ⟨fun y h => h, fun x h => (by cases h)⟩
  rw [if_neg h7, if_neg h7]
  exact ⟨fun y h => h, fun x h => ⟨x, h⟩⟩
theorem lf_ahead (g : Nat) (B : List UInt8) (k : Nat) (hg : B.length ≤ g) : lxs (g + 1) (10 :: B) k = (⟨6, k, k + 1, [], 0, 0#256⟩ :: (lxs B.length B 0).1.map (mvl (k + 1)), shr (k + 1) (lxs B.length B 0).2) := by
  have o : one (10 :: B) k = .inr ⟨6, k, k + 1, [], 0, 0#256⟩ := rfl
  rw [lxs_step _ _ _ (by simp), o]
  unfold lxN
  simp only
  rw [if_neg (by decide), show k + 1 - k = 1 by omega, List.drop_succ_cons, List.drop_zero, lxs_fuel g B.length B (k + 1) hg (by omega)]
  have hs := lxs_shf B.length B 0 (k + 1)
  rw [Nat.zero_add] at hs
  rw [hs]
/-- What the whole's lexemes are, by what the first text's are. -/
def JnRes (A B : List UInt8) (k : Nat) (x z : List Lxm × Option (Bool × Nat)) : Prop :=
  (x.2 = none → z = (x.1 ++ ⟨6, k + A.length, k + A.length + 1, [], 0, 0#256⟩ :: (lxs B.length B 0).1.map (mvl (k + A.length + 1)), shr (k + A.length + 1) (lxs B.length B 0).2)) ∧
  (∀ q, x.2 = some q → ∃ q', z = (x.1, some q'))
theorem lxs_join : ∀ (g : Nat) (A B : List UInt8) (k : Nat), A.length ≤ g → JnRes A B k (lxs g A k) (lxs (g + 1 + B.length) (A ++ 10 :: B) k)
  | 0, A, B, k, h => by
    have e : A = [] := List.length_eq_zero_iff.1 (by omega)
    subst e
    refine ⟨fun _ => ?_, fun q hq => by simp [lxs] at hq⟩
    rw [show 0 + 1 + B.length = B.length + 1 by omega]
    exact lf_ahead _ B k (by omega)
  | g + 1, [], B, k, h => by
    refine ⟨fun _ => ?_, fun q hq => by simp [lxs] at hq⟩
    rw [show g + 1 + 1 + B.length = (g + 1 + B.length) + 1 by omega]
    exact lf_ahead _ B k (by omega)
  | g + 1, c :: t, B, k, h => by
    rw [show g + 1 + 1 + B.length = (g + 1 + B.length) + 1 by omega, lxs_step _ _ _ (by simp), lxs_step _ _ _ (by simp)]
    obtain ⟨j1, j2⟩ := one_join c t B k
    cases ho : one (c :: t) k with
    | inl x =>
      obtain ⟨x', hx⟩ := j2 x ho
      rw [hx]
      exact ⟨fun hn => by simp [lxN] at hn, fun q hq => ⟨x', rfl⟩⟩
    | inr y =>
      rw [j1 y ho]
      have hok := one_lt ho
      have h1 := hok.lo
      have h2 := hok.hi
      have hd : (c :: t ++ 10 :: B).drop (y.e - k) = (c :: t).drop (y.e - k) ++ 10 :: B := List.drop_append_of_le_length (by omega)
      have ih := lxs_join g ((c :: t).drop (y.e - k)) B y.e (by rw [List.length_drop]; omega)
      rw [← hd] at ih
      unfold JnRes at ih
      rw [show y.e + ((c :: t).drop (y.e - k)).length = k + (c :: t).length by rw [List.length_drop]; omega] at ih
      obtain ⟨i1, i2⟩ := ih
      unfold lxN
      simp only
      by_cases hk : y.kind = 0
      · rw [if_pos hk, if_pos hk]
        exact ⟨i1, i2⟩
      · rw [if_neg hk, if_neg hk]
        refine ⟨fun hn => ?_, fun q hq => ?_⟩
        · have := i1 hn
          rw [this]
          rfl
        · obtain ⟨q', h'⟩ := i2 q hq
          exact ⟨q', by rw [h']⟩
end Go.Proofs.YtecjodcaeldidaaGreatDoor
namespace Go.Proofs.YtecjodcaeldidaaGreatDoor
open Go Go.RowKit
/-- A slice's place holds these lexemes. -/
def Lxv (w : World) (a : Option Addr) (L : List Lxm) : Prop := 0 < L.length → ∃ g, a = some ⟨g, 0, none⟩ ∧ Lms w g L
theorem Lxv.ext {w w' : World} {a : Option Addr} {L : List Lxm} (h : Lxv w a L) (hx : Ext w w') : Lxv w' a L := fun hl => by
  obtain ⟨g, e, hg⟩ := h hl
  exact ⟨g, e, hg.ext hx⟩
theorem Lms.take {w : World} {g : Nat} {L : List Lxm} (h : Lms w g L) (n : Nat) : Lms w g (L.take n) :=
  ⟨h.1, fun i hi f hf => by
    rw [List.length_take] at hi
    rw [h.2 i (by omega) f hf, List.getElem_take]⟩
theorem Lxv.take {w : World} {a : Option Addr} {L : List Lxm} (h : Lxv w a L) (n : Nat) : Lxv w a (L.take n) := fun hl => by
  rw [List.length_take] at hl
  obtain ⟨g, e, hg⟩ := h (by omega)
  exact ⟨g, e, hg.take n⟩
set_option maxHeartbeats 1000000 in
set_option maxRecDepth 20000 in
theorem eqlex_any (a b : Option Addr) (c1 c2 : Nat) (L : List Lxm) (w : World) (h1 : Lxv w a L) (h2 : Lxv w b L) (hl : L.length ≤ 9223372036854775806) :
    Calls Tryz.prog 14 #[.slice a L.length c1, .slice b L.length c2] w fun e w' => e = .returned (.bool true) ∧ Ext w w' := by
  have H1 := Lib.hid h1
  have H2 := Lib.hid h2
  clear h1 h2
  go_enter Tryz.func14, Tryz.ntmps14
  go_wp2_with fail
  go_loopw [5] (fun i wr => ∃ k : Nat, k ≤ L.length ∧ i = .int .i64 k ∧ Hid (Ext w wr)) (fun i _ => L.length - (intOf i).toNat)
  case atStart => exact ⟨0, Nat.zero_le _, rfl, Lib.hid (Below.refl _ _)⟩
  case round =>
    obtain ⟨k, hk, rfl, hEr⟩ := hrel
    by_cases hkl : k < L.length
    · have d1 : decide ((k : Int) < (L.length : Int)) = true := by simp; omega
      obtain ⟨g, rfl, hg⟩ := H1.out (by omega)
      obtain ⟨g2, rfl, hg2⟩ := H2.out (by omega)
      obtain ⟨y, hy⟩ : ∃ y, L[k] = y := ⟨_, rfl⟩
      have hLc := fun f hf => (hg.ext hEr.out).2 k hkl f hf
      have hMc := fun f hf => (hg2.ext hEr.out).2 k hkl f hf
      rw [hy] at hLc hMc
      have c0 : wr.cell? ⟨g, k * 9, none⟩ = some (.int .i64 (y.kind : Int)) := hLc 0 (by decide)
      have c1 : wr.cell? ⟨g, k * 9 + 1, none⟩ = some (.int .i64 (y.a : Int)) := hLc 1 (by decide)
      have c2 : wr.cell? ⟨g, k * 9 + 2, none⟩ = some (.int .i64 (y.e : Int)) := hLc 2 (by decide)
      have c3 : wr.cell? ⟨g, k * 9 + 3, none⟩ = some (.string ⟨y.t.toArray⟩) := hLc 3 (by decide)
      have c4 : wr.cell? ⟨g, k * 9 + 4, none⟩ = some (.int .i64 (y.n : Int)) := hLc 4 (by decide)
      have c5 : wr.cell? ⟨g, k * 9 + 5, none⟩ = some (.int .u64 (wd y.S 0)) := hLc 5 (by decide)
      have c6 : wr.cell? ⟨g, k * 9 + 6, none⟩ = some (.int .u64 (wd y.S 1)) := hLc 6 (by decide)
      have c7 : wr.cell? ⟨g, k * 9 + 7, none⟩ = some (.int .u64 (wd y.S 2)) := hLc 7 (by decide)
      have c8 : wr.cell? ⟨g, k * 9 + 8, none⟩ = some (.int .u64 (wd y.S 3)) := hLc 8 (by decide)
      have m0 : wr.cell? ⟨g2, k * 9, none⟩ = some (.int .i64 (y.kind : Int)) := hMc 0 (by decide)
      have m1 : wr.cell? ⟨g2, k * 9 + 1, none⟩ = some (.int .i64 (y.a : Int)) := hMc 1 (by decide)
      have m2 : wr.cell? ⟨g2, k * 9 + 2, none⟩ = some (.int .i64 (y.e : Int)) := hMc 2 (by decide)
      have m3 : wr.cell? ⟨g2, k * 9 + 3, none⟩ = some (.string ⟨y.t.toArray⟩) := hMc 3 (by decide)
      have m4 : wr.cell? ⟨g2, k * 9 + 4, none⟩ = some (.int .i64 (y.n : Int)) := hMc 4 (by decide)
      have m5 : wr.cell? ⟨g2, k * 9 + 5, none⟩ = some (.int .u64 (wd y.S 0)) := hMc 5 (by decide)
      have m6 : wr.cell? ⟨g2, k * 9 + 6, none⟩ = some (.int .u64 (wd y.S 1)) := hMc 6 (by decide)
      have m7 : wr.cell? ⟨g2, k * 9 + 7, none⟩ = some (.int .u64 (wd y.S 2)) := hMc 7 (by decide)
      have m8 : wr.cell? ⟨g2, k * 9 + 8, none⟩ = some (.int .u64 (wd y.S 3)) := hMc 8 (by decide)
      have hse := fun w => lx_same (y.kind : Int) (y.a : Int) (y.e : Int) ⟨y.t.toArray⟩ (y.n : Int) y.S w
      have i0 : (0 : Int) ≤ (k : Int) := by omega
      have i1 : (k : Int) < (L.length : Int) := by omega
      clear hLc hMc hy hg hg2
      go_wp2_with fail
      go_quiet (fail)
      go_wp2_with fail
      go_roundw
      case rel => exact ⟨k + 1, by omega, by go_num, Lib.hid (bel_call hEr.out (drew_ext _ _))⟩
      case measure => simp [intOf]; omega
    · have d1 : decide ((k : Int) < (L.length : Int)) = false := by simp; omega
      go_wp2_with fail
      go_ret
      exact ⟨rfl, hEr.out⟩
theorem add_zero (g j : Nat) : (⟨g, 0, none⟩ : Addr).add j = ⟨g, j, none⟩ := by unfold Addr.add; split <;> simp_all
/-- Where a list lies: nowhere, or from a block's beginning on. -/
def Lyf (w : World) (a : Option Addr) (cap : Nat) (L : List Lxm) : Prop := (a = none ∧ L = [] ∧ cap = 0) ∨ ∃ g, a = some ⟨g, 0, none⟩ ∧ g < w.heap.size ∧ ∀ j u, (L.flatMap lcl)[j]? = some u → w.cell? ((⟨g, 0, none⟩ : Addr).add j) = some u
theorem Lyf.ext {w w' : World} {a : Option Addr} {cap : Nat} {L : List Lxm} (h : Lyf w a cap L) (hx : Ext w w') : Lyf w' a cap L := by
  rcases h with h | ⟨g, e, hg, h⟩
  · exact .inl h
  · exact .inr ⟨g, e, Nat.lt_of_lt_of_le hg hx.size, fun j u hu => by rw [add_zero, hx.cell (p := ⟨g, j, none⟩) hg, ← add_zero]; exact h j u hu⟩
theorem own_none (w : World) (t : TypeId) : (w.alloc (.cells #[] t)).ownsRow w.heap.size t 9 (.slice (some ⟨w.heap.size, 0, none⟩) 0 0) 0 [] :=
  ⟨rfl, .inr ⟨w.heap.size, 0, #[], rfl, Nat.le_refl _, Blk.new w #[] t, Nat.le_refl _, by decide, rfl, rfl⟩⟩
theorem lcl_one (y : Lxm) : ∀ u ∈ lcl y, u.oneCell' = true := by
  intro u hu
  simp [lcl] at hu
  rcases hu with rfl | rfl | rfl | rfl | rfl | rfl | rfl | rfl | rfl <;> rfl
theorem lcl_ones (L : List Lxm) : ∀ u ∈ L.flatMap lcl, u.oneCell' = true := by
  intro u hu
  obtain ⟨y, _, h⟩ := List.mem_flatMap.1 hu
  exact lcl_one y u h
/-- What append lays lies above. -/
theorem ext_grown {w w1 w2 : World} {v : Value} {e : TypeId} {n : Nat} {xs : List Value} (h : Ext w w1) (hg : w1.grownBy w2 v.ownBlock) (ho : w1.ownsRow w.heap.size e 9 v n xs) : Ext w w2 :=
  ⟨hg.os.trans h.os, hg.tape.trans h.tape, hg.output.trans h.output, Nat.le_trans h.size hg.size, fun j hj => (hg.block j (Nat.lt_of_lt_of_le hj h.size) (fun e => by have := (ho.lt j e.symm).1; omega)).trans (h.block j hj)⟩
/-- A list that was told: where it lies. -/
theorem own_list {w : World} {base : Nat} {e : TypeId} {v : Value} {L : List Lxm} (h : w.ownsRow base e 9 v L.length (L.flatMap lcl)) :
    ∃ a cap, v = .slice a L.length cap ∧ Lxv w a L ∧ L.length ≤ cap ∧ Lyf w a cap L := by
  have h' := h
  obtain ⟨hl, ⟨rfl, h0⟩ | ⟨g, cap, cur, rfl, hb, hg, h1, h2, h3, h4⟩⟩ := h
  · have hL : L = [] := List.length_eq_zero_iff.1 h0
    subst hL
    exact ⟨none, 0, rfl, fun hp => by simp at hp, Nat.zero_le _, .inl ⟨rfl, rfl, rfl⟩⟩
  · refine ⟨some ⟨g, 0, none⟩, cap, rfl, fun hp => ?_, h1, .inr ⟨g, rfl, (Array.getElem?_eq_some_iff.1 hg).1, h'.cells (g := g) rfl⟩⟩
    obtain ⟨g', cap', e1, _, _, _, hm⟩ := (lms_of_own h').2 hp
    cases e1
    exact ⟨g, rfl, hm⟩
end Go.Proofs.YtecjodcaeldidaaGreatDoor
namespace Go.Proofs.YtecjodcaeldidaaGreatDoor
open Go Go.RowKit
set_option maxHeartbeats 1000000 in
set_option maxRecDepth 20000 in
theorem cutshort_any (A : ByteArray) (a b : Option Addr) (c1 c2 : Nat) (L : List Lxm) (cd : Int) (w : World) (h1 : Lxv w a L) (h2 : Lxv w b L) (hl : L.length ≤ 9223372036854775806) (hc : L.length ≤ c2) (hcd : cd ≠ 0) (hA : 0 < A.size) :
    Calls Tryz.prog 17 #[.string A, .slice a L.length c1, .slice b L.length c2, .int .i64 cd] w fun e w' => e = .returned (.bool true) ∧ Ext w w' := by
  have HQ := Lib.hid (eqlex_any b a c2 c1 L w h2 h1 hl)
  have d1 : decide (cd = 0) = false := by simpa using hcd
  have d1b : (cd == 0) = false := by simpa using hcd
  have d1c : (cd != 0) = true := by simpa using hcd
  have d2 : decide ((L.length : Int) ≤ (L.length : Int)) = true := by simp
  have d3 : decide ((0 : Int) < (A.size : Int)) = true := by simp; omega
  have d3n : decide (0 < A.size) = true := by simp; omega
  have i0 : (0 : Int) ≤ (L.length : Int) := by omega
  have i1 : (L.length : Int) ≤ (c2 : Int) := by omega
  clear h1 h2 hcd hA
  go_enter Tryz.func17, Tryz.ntmps17
  go_wp2_with fail
  refine HQ.out.mono ?_
  rintro e w1 ⟨rfl, hx⟩
  go_wp2_with fail
  go_ret
  exact ⟨rfl, hx⟩
end Go.Proofs.YtecjodcaeldidaaGreatDoor
namespace Go.Proofs.YtecjodcaeldidaaGreatDoor
open Go Go.RowKit
theorem dr_code (r : Option (Bool × Nat)) (d : Nat) : erC (dr (shr d r)) = erC (dr r) := (dr_shr r d).1
theorem lxs_cnt : ∀ (g : Nat) (l : List UInt8) (k : Nat), (lxs g l k).1.length ≤ l.length
  | 0, l, k => by simp [lxs]
  | g + 1, l, k => by
    by_cases hl : l = []
    · subst hl; simp [lxs]
    · rw [lxs_step g l k hl]
      cases ho : one l k with
      | inl x => simp [lxN]
      | inr y =>
        have h1 := (one_lt ho).lo
        have h2 := (one_lt ho).hi
        have ih := lxs_cnt g (l.drop (y.e - k)) y.e
        rw [List.length_drop] at ih
        unfold lxN
        simp only
        split
        · omega
        · rw [List.length_cons]; omega
set_option maxHeartbeats 4000000 in
set_option maxRecDepth 20000 in
theorem ljoins_any (A B : ByteArray) (hA : A.size ≤ 140737488355328) (hB : B.size ≤ 140737488355328) (ea : Nat → Addr) (w : World) (hK : Kg w ea) :
    Calls Tryz.prog 6 #[.agg #[.string A, .string B]] w fun e w' => e = .returned (.bool true) ∧ Ext w w' := by
  obtain ⟨i0, hi, hz0, hz1, hz2⟩ := info_parts info_lex
  have hx0 : Ext w (w.alloc (.cells #[.string A, .string B] 52)) := by (repeat' (first | (with_reducible exact Below.refl _ _) | (with_reducible assumption) | (with_reducible refine below_drewN ?_ _) | (with_reducible refine Below.alloc ?_ ?_ _) | (with_reducible refine Below.drew ?_) | (with_reducible refine Below.setCell ?_ ?_ _) | (with_reducible refine Below.trans ?_ (Below.mono (by with_reducible assumption) ?_)) | go_size))
  have HB0 := Lib.hid (Blk.new w #[.string A, .string B] 52)
  have HK := Lib.hid (hK.ext hx0)
  have HX0 := Lib.hid hx0
  clear hK hx0
  by_cases h6 : 6000 < A.size + B.size
  · have d1 : decide ((6000 : Int) < (A.size : Int) + (B.size : Int)) = true := by simp; omega
    have d1n : decide (6000 < A.size + B.size) = true := by simp; omega
    clear h6
    go_enter Tryz.func6, Tryz.ntmps6
    go_wp2_with fail
    refine (lwakes_any (ea 1) (ea 2) _ HK.out.kn).mono ?_
    rintro e w1 ⟨rfl, hx⟩
    have HX := Lib.hid (bel_call HX0.out hx)
    clear hx
    go_wp2_with fail
    go_ret
    exact ⟨rfl, HX.out⟩
  · have d1 : decide ((6000 : Int) < (A.size : Int) + (B.size : Int)) = false := by simp; omega
    have d1n : decide (6000 < A.size + B.size) = false := by simp; omega
    obtain ⟨⟨L, r⟩, hx⟩ : ∃ x, lxs A.size (rest A 0) 0 = x := ⟨_, rfl⟩
    obtain ⟨⟨M, q⟩, hy⟩ : ∃ x, lxs B.size (rest B 0) 0 = x := ⟨_, rfl⟩
    have hlA : (rest A 0).length = A.size := by have := rest_len (show 0 ≤ A.size by omega); omega
    have hlB : (rest B 0).length = B.size := by have := rest_len (show 0 ≤ B.size by omega); omega
    obtain ⟨T, hT⟩ : ∃ T, A ++ ⟨#[10]⟩ ++ B = T := ⟨_, rfl⟩
    have hTs : T.size = A.size + 1 + B.size := by
      rw [← hT, ByteArray.size_append, ByteArray.size_append]
      rfl
    have hTr : rest T 0 = rest A 0 ++ 10 :: rest B 0 := by
      rw [← hT]
      unfold rest
      simp
    have hj := lxs_join A.size (rest A 0) (rest B 0) 0 (by omega)
    rw [hlB] at hj
    unfold JnRes at hj
    rw [hlA, hlB, ← hTr, ← hTs, hx, hy] at hj
    simp only [Nat.zero_add] at hj
    obtain ⟨⟨Z, z⟩, hz⟩ : ∃ x, lxs T.size (rest T 0) 0 = x := ⟨_, rfl⟩
    rw [hz] at hj
    have hbB := lxs_bnd B.size (rest B 0) 0
    rw [hy, hlB] at hbB
    have HBN := Lib.hid (show ∀ y ∈ M, y.a ≤ 6000 ∧ y.e ≤ 6000 from fun y h => by have := hbB.1 y h; omega)
    have HLA := Lib.hid (fun w hK => lex_er ea A (by omega) w hK L r hx)
    have HLB := Lib.hid (fun w hK => lex_er ea B (by omega) w hK M q hy)
    have HLT := Lib.hid (fun w hK => lex_er ea T (by omega) w hK Z z hz)
    have HTC := Lib.hid hT
    have HJ := Lib.hid hj
    have hA6 : A.size ≤ 6000 := by omega
    have hB6 : B.size ≤ 6000 := by omega
    have hcat : (A ++ ⟨#[10]⟩ ++ B).size ≤ 70000 := by rw [hT]; omega
    have hcat1 : (A ++ (⟨#[10]⟩ : ByteArray)).size ≤ 70000 := by rw [ByteArray.size_append]; show A.size + 1 ≤ 70000; omega
    have hL0 : r ≠ none → 0 < A.size := by
      intro h
      by_cases h0 : A.size = 0
      · rw [h0] at hx; simp [lxs] at hx; exact absurd hx.2.symm h
      · omega
    have hLn : Z.length ≤ T.size := by
      have h1 := lxs_cnt T.size (rest T 0) 0
      rw [hz] at h1
      have h2 := rest_len (show 0 ≤ T.size by omega)
      have h1' : Z.length ≤ (rest T 0).length := h1
      omega
    clear hx hy hz hj hbB hT hTr h6 hlA hlB hA hB
    go_enter Tryz.func6, Tryz.ntmps6
    go_wp2_with fail
    refine (HLA.out _ HK.out).mono ?_
    rintro e w1 ⟨v, u, rfl, hown1, hEr1, hx1⟩
    obtain ⟨a, ca, rfl, hlx1, _, hyf1⟩ := own_list hown1
    have HO1 := Lib.hid hlx1
    have HY1 := Lib.hid hyf1
    have HE1 := Lib.hid (bel_call HX0.out hx1)
    have HR1 := Lib.hid hEr1
    have HB1 := Lib.hid (HB0.out.ext hx1)
    have HK1 := Lib.hid (HK.out.ext hx1)
    clear hown1 hEr1 hx1 hlx1 hyf1 HLA HB0 HK HX0
    generalize hp0 : w.heap.size = p0 at HB1 ⊢
    clear hp0
    have HE10 := HE1
    go_upto_region 4 with fail
    obtain ⟨x0, x1⟩ := HB1.out.cells2
    go_wp2_with fail
    clear x0 x1
    refine (HLB.out _ HK1.out).mono ?_
    rintro e w2 ⟨v2, u2, rfl, hown2, hEr2, hx2⟩
    obtain ⟨⟨b, cb, rfl⟩, hopen2⟩ := lms_of_own hown2
    have HO2 := Lib.hid (show Lxv w2 b M from fun hl => by obtain ⟨g, cap, e1, _, _, _, h⟩ := hopen2 hl; cases e1; exact ⟨g, rfl, h⟩)
    have HE2 := Lib.hid (bel_call HE1.out hx2)
    have HR2 := Lib.hid hEr2
    have HR12 := Lib.hid (HR1.out.ext hx2)
    have HO12 := Lib.hid (HO1.out.ext hx2)
    have HY12 := Lib.hid (HY1.out.ext hx2)
    have HB2 := Lib.hid (HB1.out.ext hx2)
    have HK2 := Lib.hid (HK1.out.ext hx2)
    clear hown2 hEr2 hx2 hopen2 HLB HB1 HK1 HE1 HE10 HR1 HO1 HY1
    go_upto_region 5 with fail
    obtain ⟨x0, x1⟩ := HB2.out.cells2
    go_wp2_with fail
    clear x0 x1
    rw [HTC.out]
    refine (HLT.out _ HK2.out).mono ?_
    rintro e w3 ⟨v3, u3, rfl, hown3, hEr3, hx3⟩
    obtain ⟨⟨c, cc, rfl⟩, hopen3⟩ := lms_of_own hown3
    have HO3 := Lib.hid (show Lxv w3 c Z from fun hl => by obtain ⟨g, cap, e1, _, _, _, h⟩ := hopen3 hl; cases e1; exact ⟨g, rfl, h⟩)
    have hcc : Z.length ≤ cc := by
      by_cases hl : 0 < Z.length
      · obtain ⟨g, cap, e1, h, _⟩ := hopen3 hl
        cases e1
        exact h
      · omega
    have HE3 := Lib.hid (bel_call HE2.out hx3)
    have HR3 := Lib.hid hEr3
    have HR13 := Lib.hid (HR12.out.ext hx3)
    have HR23 := Lib.hid (HR2.out.ext hx3)
    have HO13 := Lib.hid (HO12.out.ext hx3)
    have HY13 := Lib.hid (HY12.out.ext hx3)
    have HO23 := Lib.hid (HO2.out.ext hx3)
    have HB3 := Lib.hid (HB2.out.ext hx3)
    have HK3 := Lib.hid (HK2.out.ext hx3)
    clear hown3 hEr3 hx3 hopen3 HLT HB2 HK2 HE2 HR2 HR12 HO2 HO12 HY12 HTC hcat hcat1
    obtain ⟨x0, x1⟩ := HB3.out.cells2
    go_upto_region 7 with fail
    clear x0 x1
    cases r with
    | some x =>
      obtain ⟨T1, x1, rfl⟩ := Er.iface HR13.out
      obtain ⟨z', hz'⟩ := HJ.out.2 x rfl
      simp only [Prod.mk.injEq] at hz'
      obtain ⟨rfl, rfl⟩ := hz'
      have hA0 := hL0 (by simp)
      obtain ⟨cd, hcd⟩ : ∃ cd, erC (dr (some z')) = cd := ⟨_, rfl⟩
      have hcd0 : cd ≠ 0 := by
        rw [← hcd]
        obtain ⟨bb, qq⟩ := z'
        cases bb
        · show ((1 : Nat) : Int) + 2 ≠ 0; omega
        · show ((2 : Nat) : Int) + 2 ≠ 0; omega
      have HCD := Lib.hid (fun w hK h => code_er ea u3 (dr (some z')) w hK h)
      rw [hcd] at HCD
      have hZ63 : Z.length ≤ 9223372036854775806 := by omega
      clear HJ HBN hL0 hcd d1 d1n
      go_wp2_with fail
      refine G.wp_region_stab (G := Ext) (fun _ => none) (by kernel_rfl) (by kernel_rfl) (fun _ _ h => by cases h) (fun hex => ?_)
      iterate 11
        (refine G.wpS_one (A := ?_) hex rfl rfl (by simp) ?_ ?_ ?_
         rotate_left 2
         · intro w' hC K hK
           have hCx := hC.1; have HKx := HK3.out.ext hCx; have HRx := HR3.out.ext hCx; have HOx := HO13.out.ext hCx; have HOy := HO3.out.ext hCx; have HKk := HKx.kn; obtain ⟨x0, x1⟩ := (HB3.out.ext hCx).cells2
           go_wp2_with (first | (go_at_call 18; with_reducible refine (HCD.out _ HKx HRx).mono ?_; rintro e w9 ⟨rfl, hb9⟩) | (go_at_call 17; with_reducible refine (cutshort_any A a c ca cc Z cd _ HOx HOy hZ63 hcc hcd0 hA0).mono ?_; rintro e w9 ⟨rfl, hb9⟩) | (go_at_call 15; with_reducible refine (lwakes_any (ea 1) (ea 2) _ HKk).mono ?_; rintro e w9 ⟨rfl, hb9⟩))
           refine hK _ ?_
           first | exact Below.refl _ _ | assumption | ((repeat' (first | (with_reducible exact Below.refl _ _) | (with_reducible assumption) | (with_reducible refine below_drewN ?_ _) | (with_reducible refine Below.alloc ?_ ?_ _) | (with_reducible refine Below.drew ?_) | (with_reducible refine Below.setCell ?_ ?_ _) | (with_reducible refine Below.trans ?_ (Below.mono (by with_reducible assumption) ?_)) | go_size)))
         rotate_left 1
         · rfl
         clear hex; intro hex)
      refine G.wpS_nil fun w8 hAll => ?_
      have hE := hAll.1
      have HE8 := Lib.hid (bel_call HE3.out hE)
      clear hE hAll hex
      go_wp2_with fail
      go_ret
      exact ⟨rfl, HE8.out⟩
    | none =>
      obtain rfl : u = .nilIface := HR13.out
      have hzz := HJ.out.1 rfl
      simp only [Prod.mk.injEq] at hzz
      obtain ⟨hZ, rfl⟩ := hzz
      obtain ⟨n, hn⟩ : ∃ n, A.size + 1 = n := ⟨_, rfl⟩
      have hnI : (A.size : Int) + 1 = (n : Int) := by omega
      clear HJ hL0 d1 d1n HO13 HR13
      have hlen := congrArg List.length hZ
      rw [List.length_append, List.length_cons, List.length_map] at hlen
      rw [hn] at hZ HR3
      have hle1 : L.length + M.length + 1 ≤ Z.length := by omega
      have hle2 : Z.length ≤ L.length + M.length + 1 := by omega
      have HZ := Lib.hid hZ
      clear hlen hZ
      have hx4 : Ext w3 (w3.alloc (.cells #[] 47)) := by (repeat' (first | (with_reducible exact Below.refl _ _) | (with_reducible assumption) | (with_reducible refine below_drewN ?_ _) | (with_reducible refine Below.alloc ?_ ?_ _) | (with_reducible refine Below.drew ?_) | (with_reducible refine Below.setCell ?_ ?_ _) | (with_reducible refine Below.trans ?_ (Below.mono (by with_reducible assumption) ?_)) | go_size))
      have HX4 := Lib.hid hx4
      have HN4 := Lib.hid (own_none w3 47)
      clear hx4
      rcases HY13.out with ⟨rfl, rfl, rfl⟩ | ⟨g, rfl, hg, hcs⟩
      · have HO4 : Hid ((w3.alloc (.cells #[] 47)).ownsRow w3.heap.size 47 9 (.slice (some ⟨w3.heap.size, 0, none⟩) 0 0) ([] : List Lxm).length (([] : List Lxm).flatMap lcl)) := HN4
        clear HY13
        go_upto_region 10 with (at_builtin; refine wpList_append_own_none rfl (.tmp 60) (.tmp 61) 40 rfl w3.heap.size 47 i0 9 Tryz.underlying40 hi _ 0 [] rfl HN4.out rfl ?_)
        clear HN4
        have HE4 := HX4
        obtain ⟨L, hLL⟩ : ∃ L : List Lxm, [] = L := ⟨_, rfl⟩
        rw [hLL] at HO4 hle1 hle2 HZ
        generalize hv1 : Value.slice (some ⟨w3.heap.size, 0, none⟩) 0 0 = v1 at HO4 ⊢
        generalize hw4 : w3.alloc (.cells #[] 47) = w4 at HO4 HE4 ⊢
        clear HX4 hv1 hw4
        have HB4 := Lib.hid (HB3.out.ext HE4.out)
        obtain ⟨Lf, hLf⟩ : ∃ x : List Value, [.int .i64 6, .int .i64 ((n : Int) - 1), .int .i64 (n : Int), .string ⟨#[]⟩, .int .i64 0, .int .u64 0, .int .u64 0, .int .u64 0, .int .u64 0] = x := ⟨_, rfl⟩
        have hLl : Lf = lcl ⟨6, A.size, n, [], 0, 0#256⟩ := by
          rw [← hLf]
          have e : (n : Int) - 1 = (A.size : Int) := by omega
          rw [e]
          simp only [lcl, wd_zero]
          rfl
        have hLn9 : Lf.length = 9 := by rw [hLl]; rfl
        have hL1 : ∀ u ∈ Lf, u.oneCell' = true := by rw [hLl]; exact lcl_one _
        have HX5 := Lib.hid (show Ext w3 (w4.alloc (.cells Lf.toArray 47)) from HE4.out.alloc HE4.out.size _)
        have HO5 := Lib.hid (HO4.out.alloc (.cells Lf.toArray 47))
        have HLl := Lib.hid hLl
        clear hLl
        have HCN := Lib.hid (show ∀ j u, Lf[j]? = some u → (w4.alloc (.cells #[.int .i64 6, .int .i64 ((n : Int) - 1), .int .i64 (n : Int), .string ⟨#[]⟩, .int .i64 0, .int .u64 0, .int .u64 0, .int .u64 0, .int .u64 0] 47)).cell? ((⟨w4.heap.size, 0, none⟩ : Addr).add j) = some u from by rw [← hLf]; exact cell_new_at _ _ _ _ rfl)
        rw [← hLf] at HX5 HO5
        clear hLf
        go_wp2_with (at_builtin; refine wpList_append_own _ rfl (.tmp 63) (.tmp 68) 40 rfl w3.heap.size 47 i0 (.agg #[.int .i64 0, .int .i64 0, .int .i64 0, .string ⟨#[]⟩, .int .i64 0, .int .u64 0, .int .u64 0, .int .u64 0, .int .u64 0]) 9 80 Tryz.underlying40 hi hz0 hz1 hz2 rfl (by decide) _ _ _ rfl (HO4.out.alloc _) ⟨w4.heap.size, 0, none⟩ 1 1 Lf rfl hLn9 HCN.out hL1 (by unfold maxLen; omega) (by omega) (by simp; have := HE4.out.size; omega) ?_; intro v5 w5 hown5 hgrow5 hnil5)
        have HE5 := Lib.hid (ext_grown HX5.out hgrow5 HO5.out)
        rw [HLl.out, ← flat_app] at hown5
        have HO6 := Lib.hid hown5
        have hnb : n ≤ 6001 := by omega
        clear hown5 hgrow5 hnil5 HX5 HO5 HCN HLl HO4 HE4 HB4 hL1 hLn9
        go_loopw [10, 11] (fun v10 v11 wr => ∃ k : Nat, k ≤ M.length ∧ v11 = .int .i64 k ∧ Hid (Ext w3 wr) ∧ Hid (wr.ownsRow w3.heap.size 47 9 v10 (L.length + 1 + k) ((L ++ ⟨6, A.size, n, [], 0, 0#256⟩ :: (M.take k).map (mvl n)).flatMap lcl))) (fun _ v11 _ => M.length - (intOf v11).toNat)
        case atStart => exact ⟨0, Nat.zero_le _, rfl, HE5, HO6⟩
        case round =>
          obtain ⟨k, hk, rfl, hEr, hOr⟩ := hrel
          by_cases hkl : k < M.length
          · have d1 : decide ((k : Int) < (M.length : Int)) = true := by simp; omega
            obtain ⟨g2, rfl, hg2⟩ := HO23.out (by omega)
            obtain ⟨y, hy⟩ : ∃ y, M[k] = y := ⟨_, rfl⟩
            have hMc := fun f hf => (hg2.ext hEr.out).2 k hkl f hf
            rw [hy] at hMc
            have hyb := HBN.out y (by rw [← hy]; exact List.getElem_mem hkl)
            have HTK := Lib.hid (show M.take (k + 1) = M.take k ++ [y] by rw [← hy, List.take_append_getElem])
            have c0 : wr.cell? ⟨g2, k * 9, none⟩ = some (.int .i64 (y.kind : Int)) := hMc 0 (by decide)
            have c1 : wr.cell? ⟨g2, k * 9 + 1, none⟩ = some (.int .i64 (y.a : Int)) := hMc 1 (by decide)
            have c2 : wr.cell? ⟨g2, k * 9 + 2, none⟩ = some (.int .i64 (y.e : Int)) := hMc 2 (by decide)
            have c3 : wr.cell? ⟨g2, k * 9 + 3, none⟩ = some (.string ⟨y.t.toArray⟩) := hMc 3 (by decide)
            have c4 : wr.cell? ⟨g2, k * 9 + 4, none⟩ = some (.int .i64 (y.n : Int)) := hMc 4 (by decide)
            have c5 : wr.cell? ⟨g2, k * 9 + 5, none⟩ = some (.int .u64 (wd y.S 0)) := hMc 5 (by decide)
            have c6 : wr.cell? ⟨g2, k * 9 + 6, none⟩ = some (.int .u64 (wd y.S 1)) := hMc 6 (by decide)
            have c7 : wr.cell? ⟨g2, k * 9 + 7, none⟩ = some (.int .u64 (wd y.S 2)) := hMc 7 (by decide)
            have c8 : wr.cell? ⟨g2, k * 9 + 8, none⟩ = some (.int .u64 (wd y.S 3)) := hMc 8 (by decide)
            have HX7 := Lib.hid (show Ext w3 (wr.alloc (.cells (lcs (y.kind : Int) ((y.a : Int) + n) ((y.e : Int) + n) ⟨y.t.toArray⟩ (y.n : Int) (wd y.S 0) (wd y.S 1) (wd y.S 2) (wd y.S 3)) 47)) from hEr.out.alloc hEr.out.size _)
            have HO7 := Lib.hid (hOr.out.alloc (.cells (lcs (y.kind : Int) ((y.a : Int) + n) ((y.e : Int) + n) ⟨y.t.toArray⟩ (y.n : Int) (wd y.S 0) (wd y.S 1) (wd y.S 2) (wd y.S 3)) 47))
            have HB7 := Lib.hid (Blk.new wr (lcs (y.kind : Int) ((y.a : Int) + n) ((y.e : Int) + n) ⟨y.t.toArray⟩ (y.n : Int) (wd y.S 0) (wd y.S 1) (wd y.S 2) (wd y.S 3)) 47)
            clear hMc hy hg2 hEr hOr
            go_upto_region 17 with fail
            generalize hp7 : wr.heap.size = p7 at HB7 ⊢
            clear hp7
            generalize wr.alloc (.cells (lcs (y.kind : Int) ((y.a : Int) + n) ((y.e : Int) + n) ⟨y.t.toArray⟩ (y.n : Int) (wd y.S 0) (wd y.S 1) (wd y.S 2) (wd y.S 3)) 47) = w7 at HX7 HO7 HB7 ⊢
            clear c0 c1 c2 c3 c4 c5 c6 c7 c8
            have k0 := HB7.out.cell 0
            have k1 := HB7.out.cell 1
            have k2 := HB7.out.cell 2
            have k3 := HB7.out.cell 3
            have k4 := HB7.out.cell 4
            have k5 := HB7.out.cell 5
            have k6 := HB7.out.cell 6
            have k7 := HB7.out.cell 7
            have k8 := HB7.out.cell 8
            obtain ⟨Lf, hLf⟩ : ∃ x : List Value, [.int .i64 (y.kind : Int), .int .i64 ((y.a : Int) + n), .int .i64 ((y.e : Int) + n), .string ⟨y.t.toArray⟩, .int .i64 (y.n : Int), .int .u64 (wd y.S 0), .int .u64 (wd y.S 1), .int .u64 (wd y.S 2), .int .u64 (wd y.S 3)] = x := ⟨_, rfl⟩
            have hLl : Lf = lcl (mvl n y) := by
              rw [← hLf]
              simp only [lcl, mvl, Int.natCast_add]
            have hLn9 : Lf.length = 9 := by rw [hLl]; rfl
            have hL1 : ∀ u ∈ Lf, u.oneCell' = true := by rw [hLl]; exact lcl_one _
            have HCN := Lib.hid (show ∀ j u, Lf[j]? = some u → (w7.alloc (.cells #[.int .i64 (y.kind : Int), .int .i64 ((y.a : Int) + n), .int .i64 ((y.e : Int) + n), .string ⟨y.t.toArray⟩, .int .i64 (y.n : Int), .int .u64 (wd y.S 0), .int .u64 (wd y.S 1), .int .u64 (wd y.S 2), .int .u64 (wd y.S 3)] 47)).cell? ((⟨w7.heap.size, 0, none⟩ : Addr).add j) = some u from by rw [← hLf]; exact cell_new_at _ _ _ _ rfl)
            have HLl := Lib.hid hLl
            clear hLl hLf
            have HX8 := Lib.hid (show Ext w3 (w7.alloc (.cells #[.int .i64 (y.kind : Int), .int .i64 ((y.a : Int) + n), .int .i64 ((y.e : Int) + n), .string ⟨y.t.toArray⟩, .int .i64 (y.n : Int), .int .u64 (wd y.S 0), .int .u64 (wd y.S 1), .int .u64 (wd y.S 2), .int .u64 (wd y.S 3)] 47)) from HX7.out.alloc HX7.out.size _)
            go_wp2_with (at_builtin; refine wpList_append_own _ rfl (.tmp 90) (.tmp 92) 40 rfl w3.heap.size 47 i0 (.agg #[.int .i64 0, .int .i64 0, .int .i64 0, .string ⟨#[]⟩, .int .i64 0, .int .u64 0, .int .u64 0, .int .u64 0, .int .u64 0]) 9 80 Tryz.underlying40 hi hz0 hz1 hz2 rfl (by decide) _ _ _ rfl (HO7.out.alloc _) ⟨w7.heap.size, 0, none⟩ 1 1 Lf rfl hLn9 HCN.out hL1 (by unfold maxLen; omega) (by omega) (by simp; have := HX7.out.size; omega) ?_; intro v8 w8 hown8 hgrow8 hnil8)
            go_roundw
            case rel =>
              refine ⟨k + 1, by omega, by go_num, Lib.hid (ext_grown HX8.out hgrow8 (HO7.out.alloc _)), Lib.hid ?_⟩
              rw [HLl.out, ← flat_app] at hown8
              rw [HTK.out, List.map_append, List.map_cons, List.map_nil]
              have e : L ++ ⟨6, A.size, n, [], 0, 0#256⟩ :: ((M.take k).map (mvl n) ++ [mvl n y]) = (L ++ ⟨6, A.size, n, [], 0, 0#256⟩ :: (M.take k).map (mvl n)) ++ [mvl n y] := by simp
              rw [e]
              exact hown8
            case measure => simp [intOf]; omega
          · have d1 : decide ((k : Int) < (M.length : Int)) = false := by simp; omega
            have hke : k = M.length := by omega
            subst hke
            have hOZ := hOr.out
            rw [List.take_length, ← HZ.out, show L.length + 1 + M.length = Z.length by omega] at hOZ
            obtain ⟨a9, c9, rfl, hx9, _, _⟩ := own_list hOZ
            have HW := Lib.hid hx9
            have HOr3 := Lib.hid (HO3.out.ext hEr.out)
            have HKr := Lib.hid (HK3.out.ext hEr.out)
            have HRr := Lib.hid (HR23.out.ext hEr.out)
            have HRs := Lib.hid (HR3.out.ext hEr.out)
            have HE9 := Lib.hid (bel_call HE3.out hEr.out)
            have hZ63 : Z.length ≤ 9223372036854775806 := by omega
            have HC1 := Lib.hid (fun w hK h => code_er ea u2 (dr q) w hK h)
            have HC2 := Lib.hid (fun w hK h => code_er ea u3 (dr (shr n q)) w hK h)
            rw [dr_code] at HC2
            obtain ⟨cd, hcd⟩ : ∃ cd, erC (dr q) = cd := ⟨_, rfl⟩
            rw [hcd] at HC1 HC2
            clear hOZ hOr hcd
            cases q with
            | none =>
              obtain rfl : u2 = .nilIface := HRr.out
              obtain rfl : u3 = .nilIface := HRs.out
              clear HBN HB3 HZ hx9
              go_wp2_with fail
              refine G.wp_region_stab (G := Ext) (fun _ => none) (by kernel_rfl) (by kernel_rfl) (fun _ _ h => by cases h) (fun hex => ?_)
              iterate 21
                (refine G.wpS_one (A := ?_) hex rfl rfl (by simp) ?_ ?_ ?_
                 rotate_left 2
                 · intro w' hC K hK
                   have hCx := hC.1; have HKx := HKr.out.ext hCx; have HRx := HRr.out.ext hCx; have HRy := HRs.out.ext hCx; have HOx := HOr3.out.ext hCx; have HOy := HW.out.ext hCx; have HKk := HKx.kn
                   go_wp2_with (first | (go_at_call 18; with_reducible refine (HC1.out _ HKx HRx).mono ?_; rintro e w9 ⟨rfl, hb9⟩) | (go_at_call 18; with_reducible refine (HC2.out _ HKx HRy).mono ?_; rintro e w9 ⟨rfl, hb9⟩) | (go_at_call 14; with_reducible refine (eqlex_any c a9 cc c9 Z _ HOx HOy hZ63).mono ?_; rintro e w9 ⟨rfl, hb9⟩) | (go_at_call 15; with_reducible refine (lwakes_any (ea 1) (ea 2) _ HKk).mono ?_; rintro e w9 ⟨rfl, hb9⟩))
                   refine hK _ ?_
                   first | exact Below.refl _ _ | assumption | ((repeat' (first | (with_reducible exact Below.refl _ _) | (with_reducible assumption) | (with_reducible refine below_drewN ?_ _) | (with_reducible refine Below.alloc ?_ ?_ _) | (with_reducible refine Below.drew ?_) | (with_reducible refine Below.setCell ?_ ?_ _) | (with_reducible refine Below.trans ?_ (Below.mono (by with_reducible assumption) ?_)) | go_size)))
                 rotate_left 1
                 · rfl
                 clear hex; intro hex)
              refine G.wpS_nil fun w10 hAll => ?_
              have hE := hAll.1
              have HE8 := Lib.hid (bel_call HE9.out hE)
              clear hE hAll hex
              go_wp2_with fail
              go_ret
              exact ⟨rfl, HE8.out⟩
            | some x =>
              obtain ⟨T1, x1, rfl⟩ := Er.iface HRr.out
              obtain ⟨T2, x2, rfl⟩ := Er.iface (x := (if x.1 = true then 2 else 1, ((x.2 + n : Nat) : Int))) HRs.out
              clear HBN HB3 HZ hx9
              go_wp2_with fail
              refine G.wp_region_stab (G := Ext) (fun _ => none) (by kernel_rfl) (by kernel_rfl) (fun _ _ h => by cases h) (fun hex => ?_)
              iterate 21
                (refine G.wpS_one (A := ?_) hex rfl rfl (by simp) ?_ ?_ ?_
                 rotate_left 2
                 · intro w' hC K hK
                   have hCx := hC.1; have HKx := HKr.out.ext hCx; have HRx := HRr.out.ext hCx; have HRy := HRs.out.ext hCx; have HOx := HOr3.out.ext hCx; have HOy := HW.out.ext hCx; have HKk := HKx.kn
                   go_wp2_with (first | (go_at_call 18; with_reducible refine (HC1.out _ HKx HRx).mono ?_; rintro e w9 ⟨rfl, hb9⟩) | (go_at_call 18; with_reducible refine (HC2.out _ HKx HRy).mono ?_; rintro e w9 ⟨rfl, hb9⟩) | (go_at_call 14; with_reducible refine (eqlex_any c a9 cc c9 Z _ HOx HOy hZ63).mono ?_; rintro e w9 ⟨rfl, hb9⟩) | (go_at_call 15; with_reducible refine (lwakes_any (ea 1) (ea 2) _ HKk).mono ?_; rintro e w9 ⟨rfl, hb9⟩))
                   refine hK _ ?_
                   first | exact Below.refl _ _ | assumption | ((repeat' (first | (with_reducible exact Below.refl _ _) | (with_reducible assumption) | (with_reducible refine below_drewN ?_ _) | (with_reducible refine Below.alloc ?_ ?_ _) | (with_reducible refine Below.drew ?_) | (with_reducible refine Below.setCell ?_ ?_ _) | (with_reducible refine Below.trans ?_ (Below.mono (by with_reducible assumption) ?_)) | go_size)))
                 rotate_left 1
                 · rfl
                 clear hex; intro hex)
              refine G.wpS_nil fun w10 hAll => ?_
              have hE := hAll.1
              have HE8 := Lib.hid (bel_call HE9.out hE)
              clear hE hAll hex
              go_wp2_with fail
              go_ret
              exact ⟨rfl, HE8.out⟩
      · have HCS := Lib.hid (show ∀ j u, (L.flatMap lcl)[j]? = some u → (w3.alloc (.cells #[] 47)).cell? ((⟨g, 0, none⟩ : Addr).add j) = some u from fun j u hu => by rw [add_zero, HX4.out.cell (p := ⟨g, j, none⟩) hg, ← add_zero]; exact hcs j u hu)
        clear hcs hg HY13
        go_upto_region 10 with (at_builtin; refine wpList_append_own _ rfl (.tmp 60) (.tmp 61) 40 rfl w3.heap.size 47 i0 (.agg #[.int .i64 0, .int .i64 0, .int .i64 0, .string ⟨#[]⟩, .int .i64 0, .int .u64 0, .int .u64 0, .int .u64 0, .int .u64 0]) 9 80 Tryz.underlying40 hi hz0 hz1 hz2 rfl (by decide) _ 0 [] rfl HN4.out ⟨g, 0, none⟩ L.length ca (L.flatMap lcl) rfl (flat_len L) HCS.out (lcl_ones L) (by unfold maxLen; omega) (by omega) HX4.out.size ?_; intro v1 w4 hown4 hgrow4 hnil4)
        have HE4 := Lib.hid (ext_grown HX4.out hgrow4 HN4.out)
        rw [Nat.zero_add, List.nil_append] at hown4
        have HO4 := Lib.hid hown4
        clear hown4 hgrow4 hnil4 HN4 HX4 HCS
        have HB4 := Lib.hid (HB3.out.ext HE4.out)
        obtain ⟨Lf, hLf⟩ : ∃ x : List Value, [.int .i64 6, .int .i64 ((n : Int) - 1), .int .i64 (n : Int), .string ⟨#[]⟩, .int .i64 0, .int .u64 0, .int .u64 0, .int .u64 0, .int .u64 0] = x := ⟨_, rfl⟩
        have hLl : Lf = lcl ⟨6, A.size, n, [], 0, 0#256⟩ := by
          rw [← hLf]
          have e : (n : Int) - 1 = (A.size : Int) := by omega
          rw [e]
          simp only [lcl, wd_zero]
          rfl
        have hLn9 : Lf.length = 9 := by rw [hLl]; rfl
        have hL1 : ∀ u ∈ Lf, u.oneCell' = true := by rw [hLl]; exact lcl_one _
        have HX5 := Lib.hid (show Ext w3 (w4.alloc (.cells Lf.toArray 47)) from HE4.out.alloc HE4.out.size _)
        have HO5 := Lib.hid (HO4.out.alloc (.cells Lf.toArray 47))
        have HLl := Lib.hid hLl
        clear hLl
        have HCN := Lib.hid (show ∀ j u, Lf[j]? = some u → (w4.alloc (.cells #[.int .i64 6, .int .i64 ((n : Int) - 1), .int .i64 (n : Int), .string ⟨#[]⟩, .int .i64 0, .int .u64 0, .int .u64 0, .int .u64 0, .int .u64 0] 47)).cell? ((⟨w4.heap.size, 0, none⟩ : Addr).add j) = some u from by rw [← hLf]; exact cell_new_at _ _ _ _ rfl)
        rw [← hLf] at HX5 HO5
        clear hLf
        go_wp2_with (at_builtin; refine wpList_append_own _ rfl (.tmp 63) (.tmp 68) 40 rfl w3.heap.size 47 i0 (.agg #[.int .i64 0, .int .i64 0, .int .i64 0, .string ⟨#[]⟩, .int .i64 0, .int .u64 0, .int .u64 0, .int .u64 0, .int .u64 0]) 9 80 Tryz.underlying40 hi hz0 hz1 hz2 rfl (by decide) _ _ _ rfl (HO4.out.alloc _) ⟨w4.heap.size, 0, none⟩ 1 1 Lf rfl hLn9 HCN.out hL1 (by unfold maxLen; omega) (by omega) (by simp; have := HE4.out.size; omega) ?_; intro v5 w5 hown5 hgrow5 hnil5)
        have HE5 := Lib.hid (ext_grown HX5.out hgrow5 HO5.out)
        rw [HLl.out, ← flat_app] at hown5
        have HO6 := Lib.hid hown5
        have hnb : n ≤ 6001 := by omega
        clear hown5 hgrow5 hnil5 HX5 HO5 HCN HLl HO4 HE4 HB4 hL1 hLn9
        go_loopw [10, 11] (fun v10 v11 wr => ∃ k : Nat, k ≤ M.length ∧ v11 = .int .i64 k ∧ Hid (Ext w3 wr) ∧ Hid (wr.ownsRow w3.heap.size 47 9 v10 (L.length + 1 + k) ((L ++ ⟨6, A.size, n, [], 0, 0#256⟩ :: (M.take k).map (mvl n)).flatMap lcl))) (fun _ v11 _ => M.length - (intOf v11).toNat)
        case atStart => exact ⟨0, Nat.zero_le _, rfl, HE5, HO6⟩
        case round =>
          obtain ⟨k, hk, rfl, hEr, hOr⟩ := hrel
          by_cases hkl : k < M.length
          · have d1 : decide ((k : Int) < (M.length : Int)) = true := by simp; omega
            obtain ⟨g2, rfl, hg2⟩ := HO23.out (by omega)
            obtain ⟨y, hy⟩ : ∃ y, M[k] = y := ⟨_, rfl⟩
            have hMc := fun f hf => (hg2.ext hEr.out).2 k hkl f hf
            rw [hy] at hMc
            have hyb := HBN.out y (by rw [← hy]; exact List.getElem_mem hkl)
            have HTK := Lib.hid (show M.take (k + 1) = M.take k ++ [y] by rw [← hy, List.take_append_getElem])
            have c0 : wr.cell? ⟨g2, k * 9, none⟩ = some (.int .i64 (y.kind : Int)) := hMc 0 (by decide)
            have c1 : wr.cell? ⟨g2, k * 9 + 1, none⟩ = some (.int .i64 (y.a : Int)) := hMc 1 (by decide)
            have c2 : wr.cell? ⟨g2, k * 9 + 2, none⟩ = some (.int .i64 (y.e : Int)) := hMc 2 (by decide)
            have c3 : wr.cell? ⟨g2, k * 9 + 3, none⟩ = some (.string ⟨y.t.toArray⟩) := hMc 3 (by decide)
            have c4 : wr.cell? ⟨g2, k * 9 + 4, none⟩ = some (.int .i64 (y.n : Int)) := hMc 4 (by decide)
            have c5 : wr.cell? ⟨g2, k * 9 + 5, none⟩ = some (.int .u64 (wd y.S 0)) := hMc 5 (by decide)
            have c6 : wr.cell? ⟨g2, k * 9 + 6, none⟩ = some (.int .u64 (wd y.S 1)) := hMc 6 (by decide)
            have c7 : wr.cell? ⟨g2, k * 9 + 7, none⟩ = some (.int .u64 (wd y.S 2)) := hMc 7 (by decide)
            have c8 : wr.cell? ⟨g2, k * 9 + 8, none⟩ = some (.int .u64 (wd y.S 3)) := hMc 8 (by decide)
            have HX7 := Lib.hid (show Ext w3 (wr.alloc (.cells (lcs (y.kind : Int) ((y.a : Int) + n) ((y.e : Int) + n) ⟨y.t.toArray⟩ (y.n : Int) (wd y.S 0) (wd y.S 1) (wd y.S 2) (wd y.S 3)) 47)) from hEr.out.alloc hEr.out.size _)
            have HO7 := Lib.hid (hOr.out.alloc (.cells (lcs (y.kind : Int) ((y.a : Int) + n) ((y.e : Int) + n) ⟨y.t.toArray⟩ (y.n : Int) (wd y.S 0) (wd y.S 1) (wd y.S 2) (wd y.S 3)) 47))
            have HB7 := Lib.hid (Blk.new wr (lcs (y.kind : Int) ((y.a : Int) + n) ((y.e : Int) + n) ⟨y.t.toArray⟩ (y.n : Int) (wd y.S 0) (wd y.S 1) (wd y.S 2) (wd y.S 3)) 47)
            clear hMc hy hg2 hEr hOr
            go_upto_region 17 with fail
            generalize hp7 : wr.heap.size = p7 at HB7 ⊢
            clear hp7
            generalize wr.alloc (.cells (lcs (y.kind : Int) ((y.a : Int) + n) ((y.e : Int) + n) ⟨y.t.toArray⟩ (y.n : Int) (wd y.S 0) (wd y.S 1) (wd y.S 2) (wd y.S 3)) 47) = w7 at HX7 HO7 HB7 ⊢
            clear c0 c1 c2 c3 c4 c5 c6 c7 c8
            have k0 := HB7.out.cell 0
            have k1 := HB7.out.cell 1
            have k2 := HB7.out.cell 2
            have k3 := HB7.out.cell 3
            have k4 := HB7.out.cell 4
            have k5 := HB7.out.cell 5
            have k6 := HB7.out.cell 6
            have k7 := HB7.out.cell 7
            have k8 := HB7.out.cell 8
            obtain ⟨Lf, hLf⟩ : ∃ x : List Value, [.int .i64 (y.kind : Int), .int .i64 ((y.a : Int) + n), .int .i64 ((y.e : Int) + n), .string ⟨y.t.toArray⟩, .int .i64 (y.n : Int), .int .u64 (wd y.S 0), .int .u64 (wd y.S 1), .int .u64 (wd y.S 2), .int .u64 (wd y.S 3)] = x := ⟨_, rfl⟩
            have hLl : Lf = lcl (mvl n y) := by
              rw [← hLf]
              simp only [lcl, mvl, Int.natCast_add]
            have hLn9 : Lf.length = 9 := by rw [hLl]; rfl
            have hL1 : ∀ u ∈ Lf, u.oneCell' = true := by rw [hLl]; exact lcl_one _
            have HCN := Lib.hid (show ∀ j u, Lf[j]? = some u → (w7.alloc (.cells #[.int .i64 (y.kind : Int), .int .i64 ((y.a : Int) + n), .int .i64 ((y.e : Int) + n), .string ⟨y.t.toArray⟩, .int .i64 (y.n : Int), .int .u64 (wd y.S 0), .int .u64 (wd y.S 1), .int .u64 (wd y.S 2), .int .u64 (wd y.S 3)] 47)).cell? ((⟨w7.heap.size, 0, none⟩ : Addr).add j) = some u from by rw [← hLf]; exact cell_new_at _ _ _ _ rfl)
            have HLl := Lib.hid hLl
            clear hLl hLf
            have HX8 := Lib.hid (show Ext w3 (w7.alloc (.cells #[.int .i64 (y.kind : Int), .int .i64 ((y.a : Int) + n), .int .i64 ((y.e : Int) + n), .string ⟨y.t.toArray⟩, .int .i64 (y.n : Int), .int .u64 (wd y.S 0), .int .u64 (wd y.S 1), .int .u64 (wd y.S 2), .int .u64 (wd y.S 3)] 47)) from HX7.out.alloc HX7.out.size _)
            go_wp2_with (at_builtin; refine wpList_append_own _ rfl (.tmp 90) (.tmp 92) 40 rfl w3.heap.size 47 i0 (.agg #[.int .i64 0, .int .i64 0, .int .i64 0, .string ⟨#[]⟩, .int .i64 0, .int .u64 0, .int .u64 0, .int .u64 0, .int .u64 0]) 9 80 Tryz.underlying40 hi hz0 hz1 hz2 rfl (by decide) _ _ _ rfl (HO7.out.alloc _) ⟨w7.heap.size, 0, none⟩ 1 1 Lf rfl hLn9 HCN.out hL1 (by unfold maxLen; omega) (by omega) (by simp; have := HX7.out.size; omega) ?_; intro v8 w8 hown8 hgrow8 hnil8)
            go_roundw
            case rel =>
              refine ⟨k + 1, by omega, by go_num, Lib.hid (ext_grown HX8.out hgrow8 (HO7.out.alloc _)), Lib.hid ?_⟩
              rw [HLl.out, ← flat_app] at hown8
              rw [HTK.out, List.map_append, List.map_cons, List.map_nil]
              have e : L ++ ⟨6, A.size, n, [], 0, 0#256⟩ :: ((M.take k).map (mvl n) ++ [mvl n y]) = (L ++ ⟨6, A.size, n, [], 0, 0#256⟩ :: (M.take k).map (mvl n)) ++ [mvl n y] := by simp
              rw [e]
              exact hown8
            case measure => simp [intOf]; omega
          · have d1 : decide ((k : Int) < (M.length : Int)) = false := by simp; omega
            have hke : k = M.length := by omega
            subst hke
            have hOZ := hOr.out
            rw [List.take_length, ← HZ.out, show L.length + 1 + M.length = Z.length by omega] at hOZ
            obtain ⟨a9, c9, rfl, hx9, _, _⟩ := own_list hOZ
            have HW := Lib.hid hx9
            have HOr3 := Lib.hid (HO3.out.ext hEr.out)
            have HKr := Lib.hid (HK3.out.ext hEr.out)
            have HRr := Lib.hid (HR23.out.ext hEr.out)
            have HRs := Lib.hid (HR3.out.ext hEr.out)
            have HE9 := Lib.hid (bel_call HE3.out hEr.out)
            have hZ63 : Z.length ≤ 9223372036854775806 := by omega
            have HC1 := Lib.hid (fun w hK h => code_er ea u2 (dr q) w hK h)
            have HC2 := Lib.hid (fun w hK h => code_er ea u3 (dr (shr n q)) w hK h)
            rw [dr_code] at HC2
            obtain ⟨cd, hcd⟩ : ∃ cd, erC (dr q) = cd := ⟨_, rfl⟩
            rw [hcd] at HC1 HC2
            clear hOZ hOr hcd
            cases q with
            | none =>
              obtain rfl : u2 = .nilIface := HRr.out
              obtain rfl : u3 = .nilIface := HRs.out
              clear HBN HB3 HZ hx9
              go_wp2_with fail
              refine G.wp_region_stab (G := Ext) (fun _ => none) (by kernel_rfl) (by kernel_rfl) (fun _ _ h => by cases h) (fun hex => ?_)
              iterate 21
                (refine G.wpS_one (A := ?_) hex rfl rfl (by simp) ?_ ?_ ?_
                 rotate_left 2
                 · intro w' hC K hK
                   have hCx := hC.1; have HKx := HKr.out.ext hCx; have HRx := HRr.out.ext hCx; have HRy := HRs.out.ext hCx; have HOx := HOr3.out.ext hCx; have HOy := HW.out.ext hCx; have HKk := HKx.kn
                   go_wp2_with (first | (go_at_call 18; with_reducible refine (HC1.out _ HKx HRx).mono ?_; rintro e w9 ⟨rfl, hb9⟩) | (go_at_call 18; with_reducible refine (HC2.out _ HKx HRy).mono ?_; rintro e w9 ⟨rfl, hb9⟩) | (go_at_call 14; with_reducible refine (eqlex_any c a9 cc c9 Z _ HOx HOy hZ63).mono ?_; rintro e w9 ⟨rfl, hb9⟩) | (go_at_call 15; with_reducible refine (lwakes_any (ea 1) (ea 2) _ HKk).mono ?_; rintro e w9 ⟨rfl, hb9⟩))
                   refine hK _ ?_
                   first | exact Below.refl _ _ | assumption | ((repeat' (first | (with_reducible exact Below.refl _ _) | (with_reducible assumption) | (with_reducible refine below_drewN ?_ _) | (with_reducible refine Below.alloc ?_ ?_ _) | (with_reducible refine Below.drew ?_) | (with_reducible refine Below.setCell ?_ ?_ _) | (with_reducible refine Below.trans ?_ (Below.mono (by with_reducible assumption) ?_)) | go_size)))
                 rotate_left 1
                 · rfl
                 clear hex; intro hex)
              refine G.wpS_nil fun w10 hAll => ?_
              have hE := hAll.1
              have HE8 := Lib.hid (bel_call HE9.out hE)
              clear hE hAll hex
              go_wp2_with fail
              go_ret
              exact ⟨rfl, HE8.out⟩
            | some x =>
              obtain ⟨T1, x1, rfl⟩ := Er.iface HRr.out
              obtain ⟨T2, x2, rfl⟩ := Er.iface (x := (if x.1 = true then 2 else 1, ((x.2 + n : Nat) : Int))) HRs.out
              clear HBN HB3 HZ hx9
              go_wp2_with fail
              refine G.wp_region_stab (G := Ext) (fun _ => none) (by kernel_rfl) (by kernel_rfl) (fun _ _ h => by cases h) (fun hex => ?_)
              iterate 21
                (refine G.wpS_one (A := ?_) hex rfl rfl (by simp) ?_ ?_ ?_
                 rotate_left 2
                 · intro w' hC K hK
                   have hCx := hC.1; have HKx := HKr.out.ext hCx; have HRx := HRr.out.ext hCx; have HRy := HRs.out.ext hCx; have HOx := HOr3.out.ext hCx; have HOy := HW.out.ext hCx; have HKk := HKx.kn
                   go_wp2_with (first | (go_at_call 18; with_reducible refine (HC1.out _ HKx HRx).mono ?_; rintro e w9 ⟨rfl, hb9⟩) | (go_at_call 18; with_reducible refine (HC2.out _ HKx HRy).mono ?_; rintro e w9 ⟨rfl, hb9⟩) | (go_at_call 14; with_reducible refine (eqlex_any c a9 cc c9 Z _ HOx HOy hZ63).mono ?_; rintro e w9 ⟨rfl, hb9⟩) | (go_at_call 15; with_reducible refine (lwakes_any (ea 1) (ea 2) _ HKk).mono ?_; rintro e w9 ⟨rfl, hb9⟩))
                   refine hK _ ?_
                   first | exact Below.refl _ _ | assumption | ((repeat' (first | (with_reducible exact Below.refl _ _) | (with_reducible assumption) | (with_reducible refine below_drewN ?_ _) | (with_reducible refine Below.alloc ?_ ?_ _) | (with_reducible refine Below.drew ?_) | (with_reducible refine Below.setCell ?_ ?_ _) | (with_reducible refine Below.trans ?_ (Below.mono (by with_reducible assumption) ?_)) | go_size)))
                 rotate_left 1
                 · rfl
                 clear hex; intro hex)
              refine G.wpS_nil fun w10 hAll => ?_
              have hE := hAll.1
              have HE8 := Lib.hid (bel_call HE9.out hE)
              clear hE hAll hex
              go_wp2_with fail
              go_ret
              exact ⟨rfl, HE8.out⟩
end Go.Proofs.YtecjodcaeldidaaGreatDoor
namespace Go.Proofs.YtecjodcaeldidaaGreatDoor
open Go Go.ChangeShapes Go.WideShapes Go.ChangeAt Go.RowKit
theorem size_list (T : ByteArray) : T.size = T.data.toList.length := by rw [Array.length_toList]; rfl
theorem pair_of {α : Type} {l : List α} (h : l.length = 2) : ∃ a b, l = [a, b] :=
  match l, h with
  | [a, b], _ => ⟨a, b, rfl⟩
theorem open_join {H : Type} {enc : TypeId × Value → H} {w : World} {k : Nat} {cs : List Value} {y : DataW H × List MemPlace} (h : DataW.trod enc Tryz.prog w 0 (fun _ => true) true k 52 cs = some y) (hw : ∀ n ∈ y.1.weights Tryz.prog 52, n ≤ reachBytes) :
    ∃ A B, cs = [.string A, .string B] ∧ A.size ≤ 140737488355328 ∧ B.size ≤ 140737488355328 := by
  have c2 : Tryz.prog.cellsOf 52 = 2 := by kernel_rfl
  have c1 : Tryz.prog.cellsOf 9 = 1 := by kernel_rfl
  obtain ⟨y1, y2, m, hx, hl, h1, h2⟩ := trod_struct2 Tryz.underlying52 h
  rw [c2] at hl
  obtain ⟨x0, x1, rfl⟩ := pair_of hl
  simp only [c1, List.drop_zero, List.drop_succ_cons, List.take_succ_cons, List.take_zero] at h1 h2
  obtain ⟨A, e1, e1', _⟩ := DataW.trod_string Tryz.underlying9 h1
  obtain ⟨M, e2, e2', _⟩ := DataW.trod_string Tryz.underlying9 h2
  have hww : ∀ (j : Nat) (t : TypeId) (d : DataW H), [9, 9][j]? = some t → [y1.1, y2.1][j]? = some d → ∀ m ∈ d.weights Tryz.prog t, m ≤ reachBytes := by
    intro j t d ht hd m hm
    apply hw
    rw [hx]
    simp only [DataW.weights, Tryz.underlying52]
    exact DataW.weights_mem_each (ts := [9, 9]) (ds := [y1.1, y2.1]) ht hd m hm
  have w1 := hww 0 _ _ rfl rfl A.data.toList.length (by rw [e1']; simp [DataW.weights])
  have w2 := hww 1 _ _ rfl rfl M.data.toList.length (by rw [e2']; simp [DataW.weights])
  rw [← size_list] at w1 w2
  simp only [reachBytes] at w1 w2
  simp only [List.cons.injEq, and_true] at e1 e2
  subst e1 e2
  exact ⟨A, M, rfl, by omega, by omega⟩
theorem lexJoins_met (os : Os) (args : Array Value) : laidMetH Tryz.prog Rows.lexJoinsRow.laid ((World.doorLaid Tryz.prog 400 os).forCall (fun _ _ => 0) ⟨#[], args, []⟩).memory :=
  laidMetH_of_parts (laidMet_of_run' 8 (by kernel_rfl) (by kernel_rfl)) (by kernel_rfl)
set_option maxRecDepth 100000 in
theorem lexJoins_contract {H : Type} {enc : TypeId × Value → H} (F : Stop.Interp) (W : World) (base : Nat) (args : Array Value) (ds gs : List (DataW H)) (before : List MemPlace)
    (hval0 : ∀ (j : Nat) t v, Tryz.f6.params[j]? = some t → args[j]? = some v → Value.okWide Tryz.prog W .any base t v)
    (hW : DataW.Whole enc Tryz.prog Tryz.f6.params.toList (OpenSpec.ofChange Rows.lexJoinsSpec).vars false W args.toList ds gs before)
    (hsz : (DataW.weightsEach Tryz.prog (Tryz.f6.params.toList ++ (OpenSpec.ofChange Rows.lexJoinsSpec).bare.plain.varTypes Tryz.prog) (ds ++ gs)).all (· ≤ reachBytes) = true)
    (hL : laidMetH Tryz.prog Rows.lexJoinsRow.laid W) (hsh : W.ShapedOpen Tryz.prog) :
    Calls Tryz.prog 6 args W fun e W' => ∃ v, e = .returned v ∧ ((OpenSpec.ofChange Rows.lexJoinsSpec).at F).post enc Tryz.prog Tryz.f6 false true false false W args v W' := by
  have hval : ∀ (j : Nat) t v, Tryz.f6.params[j]? = some t → args[j]? = some v → Value.okWide Tryz.prog W .any base t v := hval0
  have hW' := hW
  obtain ⟨p, q, hA0, hV, rfl, hfz, hnd⟩ := hW
  have hA : DataW.TrodAll enc Tryz.prog W 0 (fun _ => true) true Tryz.f6.params.toList args.toList ds p := hA0
  rw [Tryz.params6] at hA hval
  obtain ⟨v0, d0, rfl, rfl, h0⟩ := trodAll_one hA
  obtain ⟨rfl, rfl⟩ := trodVars_none hV
  have hlt : ∀ x ∈ p, x.block < W.heap.size := fun x hx => hW'.lt x (by simp [hx])
  have hwt : ∀ n ∈ d0.weights Tryz.prog 52, n ≤ reachBytes := fun n hn => by simpa using List.all_eq_true.1 hsz n (DataW.weights_mem_each (j := 0) rfl rfl n hn)
  obtain ⟨ea, hK⟩ := known_lexJoins hL hsh
  obtain ⟨⟨cs⟩, rfl, hcl⟩ := okWide_struct Tryz.underlying52 (hval 0 _ v0 rfl rfl); obtain ⟨A, B, rfl, hA1, hB1⟩ : ∃ A B, cs = [.string A, .string B] ∧ A.size ≤ 140737488355328 ∧ B.size ≤ 140737488355328 := (by obtain ⟨fuel, hf⟩ := h0; exact open_join hf hwt)
  refine (ljoins_any A B hA1 hB1 ea W hK).mono fun e W' ⟨he, hB⟩ => ?_
  subst he
  have e1 : ((OpenSpec.ofChange Rows.lexJoinsSpec).at F).fn H ([d0] ++ []) = { results := [.lit (.bool true)], args := [d0] } := rfl
  refine ⟨_, rfl, _, _, _, [], p, [], hW', ?_, ?_, ?_, hB.frame _, fun h => by cases h⟩
  · rw [e1]; exact trodAll_mk1 (shut_bool Tryz.underlying4 true)
  · rw [e1]; exact trodAll_mk1 (Below.trod laidOut (by kernel_rfl) (of_decide_eq_true (by kernel_rfl)) h0 hB hlt)
  · rw [e1]; rfl
set_option maxRecDepth 100000 in
theorem lexJoins_lifted (os : Os) (started : os.Started) (H : Type) (enc : TypeId × Value → H) (F : Stop.Interp) :
    ReturnsInHanded {} Tryz.checked os 6 .any ((OpenSpec.ofChange Rows.lexJoinsSpec).preRow enc Tryz.prog Tryz.f6 Rows.lexJoinsRow.domain false Rows.lexJoinsRow.laid) (((OpenSpec.ofChange Rows.lexJoinsSpec).at F).post enc Tryz.prog Tryz.f6 false true false false) := by
  have hx : DataW.whole enc Tryz.prog ((World.doorLaid Tryz.prog 400 os).forCall (fun _ _ => 0) ⟨#[], #[.agg #[.string .empty, .string .empty]], []⟩).memory Tryz.f6.params.toList (OpenSpec.ofChange Rows.lexJoinsSpec).vars false (#[.agg #[.string .empty, .string .empty]] : Array Value).toList 8 = some ([.agg [.lit (.string []), .lit (.string [])]], [], []) := by kernel_rfl
  refine returnsInHanded_of_row (C := Tryz.checked) (s := OpenSpec.ofChange Rows.lexJoinsSpec) own started (by kernel_rfl) Tryz.func6
    (witness_row_atRef (enc := enc) (C := Tryz.checked) false (World.doorLaid Tryz.prog 400 os) #[.agg #[.string .empty, .string .empty]] rfl (by kernel_rfl) (by kernel_rfl) (by kernel_rfl)
      (OpenSpec.preRow_of_cond 8 hx (by kernel_rfl) (fun k hk => by cases hk) (by kernel_rfl) (lexJoins_met os _))) ?_
  intro W base args ds gs before hval hW _ _ hsz hL hsh _
  exact lexJoins_contract F W base args ds gs before hval hW hsz hL hsh
theorem lexJoins_row : Rows.LexJoinsSaid :=
  OpenClaim.holds_of_cond 6 Tryz.f6 rfl rfl rfl rfl rfl rfl rfl ⟨rfl, rfl, rfl, rfl, rfl⟩ rfl rfl rfl rfl rfl (by kernel_rfl) Tryz.func6 (by kernel_rfl)
    (of_decide_eq_true (by kernel_rfl)) (by unfold Func.isWrapper; rw [if_neg (of_decide_eq_false (by kernel_rfl))]; exact ⟨rfl, rfl⟩)
    (fun os started H enc _ F => by rw [OpenClaim.pre_eq_preRow]; exact lexJoins_lifted os started H enc F)
theorem lexJoins_holds : Rows.LexJoinsCardSaid :=
  Claim7.holds_tied_plain_at .later [] _ _ Rows.lexJoinsCard.stood.harness Rows.lexJoinsCard.stood.looks
    lexJoins_row (fun _ h => by cases h) (by kernel_rfl) (fun _ h => by cases h) lexJoins_row_tie rfl ⟨rfl, rfl⟩ (by kernel_rfl) rfl
    (fun f fn hf hfn => by
      obtain rfl : f = 6 := Option.some.inj ((show Tryz.prog.funcNamed Rows.lexJoinsRow.func = some 6 by kernel_rfl).symm.trans hf) |>.symm
      obtain rfl : fn = Tryz.f6 := (Option.some.inj (Tryz.func6.symm.trans hfn)).symm
      exact ⟨by kernel_rfl, fun j t ht => by
        rw [Tryz.params6] at ht
        have hm : t ∈ [52] := by simpa using Array.mem_of_getElem? ht
        have hall : ([52].all fun u => !Tryz.prog.wantsStandIn u) = true := by kernel_rfl
        exact (show Tryz.prog.wantsStandIn t = false by simpa using List.all_eq_true.1 hall t hm)⟩)
    (by kernel_rfl)
#print axioms lexJoins_holds
end Go.Proofs.YtecjodcaeldidaaGreatDoor
