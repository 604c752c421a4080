/- How many expressions, if all may be of a core: bolterref7.counted. -/
import Derived.Test.YtnmdfhnfheekgaaDoorChk
import Derived.Test.YtnmdfhnfheekgaaDoorWds
namespace Go.Proofs.YtnmdfhnfheekgaaDoor
open Go Go.RowKit
mutual
def ct : Xp → Nat → Nat
  | .mk o p s t m n l, left => if left = 0 ∨ ¬ Fok (.mk o p s t m n l) then 65537 else cts l (left - 1) 1
def cts : List Xp → Nat → Nat → Nat
  | [], _, n => n
  | x :: l, left, n => if n ≤ 65536 then cts l left (n + ct x left) else n
end
theorem ct_eq (x : Xp) (left : Nat) : ct x left = if left = 0 ∨ ¬ Fok x then 65537 else cts x.args (left - 1) 1 := by cases x; simp only [ct, Xp.args]
mutual
theorem ct_le : ∀ (x : Xp) (left : Nat), ct x left ≤ 65537 * (left + 1)
  | .mk o p s t m n l, left => by
    simp only [ct]
    split
    · omega
    · rename_i h
      exact Nat.le_trans (cts_le l (left - 1) 1 (by omega)) (by omega)
theorem cts_le : ∀ (l : List Xp) (left n : Nat), n ≤ 65537 * (left + 2) → cts l left n ≤ 65537 * (left + 2)
  | [], left, n, h => h
  | x :: l, left, n, h => by
    simp only [cts]
    split
    · have := ct_le x left
      exact cts_le l left _ (by omega)
    · exact h
end
theorem cts_ge : ∀ (l : List Xp) (left n : Nat), n ≤ cts l left n
  | [], left, n => Nat.le_refl _
  | x :: l, left, n => by
    simp only [cts]
    split
    · exact Nat.le_trans (Nat.le_add_right _ _) (cts_ge l left _)
    · exact Nat.le_refl _
/- How deep. -/
mutual
def dep : Xp → Nat | .mk _ _ _ _ _ _ l => deps l + 1
def deps : List Xp → Nat
  | [] => 0
  | x :: l => max (dep x) (deps l)
end
mutual
theorem mb_iff : ∀ (x : Xp) (ar left : Nat), ar ≤ 4096 → ((mb x ar left).isSome = true ↔ Good x ∧ ar + dep x ≤ 4096 ∧ nn x ≤ left)
  | .mk o p s t m n l, ar, left, h4 => by
    simp only [mb, Good, dep, nn]
    split
    · rename_i h
      constructor
      · intro h; cases h
      · rintro ⟨⟨h1, _⟩, h2, h3⟩
        rcases h with h | h | h
        · omega
        · omega
        · exact absurd h1 h
    · rename_i h
      have h1 : left ≠ 0 := fun e => h (.inl e)
      have h2 : ar ≠ 4096 := fun e => h (.inr (.inl e))
      have h3 : Fok (.mk o p s t m n l) := Decidable.byContradiction fun e => h (.inr (.inr e))
      rw [mbs_iff l (ar + 1) (left - 1) (by omega)]
      constructor
      · rintro ⟨a, b, c⟩; exact ⟨⟨h3, a⟩, by omega, by omega⟩
      · rintro ⟨⟨_, a⟩, b, c⟩; exact ⟨a, by omega, by omega⟩
theorem mbs_iff : ∀ (l : List Xp) (ar left : Nat), ar ≤ 4096 → ((mbs l ar left).isSome = true ↔ Goods l ∧ ar + deps l ≤ 4096 ∧ nns l ≤ left)
  | [], ar, left, h4 => by simp only [mbs, Goods, deps, nns]; simp; omega
  | x :: l, ar, left, h4 => by
    simp only [mbs, Goods, deps, nns]
    have h1 := mb_iff x ar left h4
    split
    · rename_i hn
      rw [hn] at h1
      constructor
      · intro h; cases h
      · rintro ⟨⟨a, _⟩, b, c⟩
        have := h1.2 ⟨a, by omega, by omega⟩
        cases this
    · rename_i j hj
      rw [hj] at h1
      obtain ⟨a1, a2, a3⟩ := h1.1 rfl
      have h5 := (mb_good x ar left j hj).2
      rw [mbs_iff l ar j h4]
      constructor
      · rintro ⟨a, b, c⟩; exact ⟨⟨a1, a⟩, by omega, by omega⟩
      · rintro ⟨⟨_, a⟩, b, c⟩; exact ⟨a, by omega, by omega⟩
end
mutual
theorem ct_iff : ∀ (x : Xp) (left : Nat), (Good x ∧ dep x ≤ left ∧ nn x ≤ 65536 → ct x left = nn x) ∧ (ct x left ≤ 65536 → Good x ∧ dep x ≤ left ∧ nn x ≤ 65536)
  | .mk o p s t m n l, left => by
    simp only [ct, Good, dep, nn]
    split
    · rename_i h
      constructor
      · rintro ⟨⟨h1, _⟩, h2, h3⟩
        rcases h with h | h
        · omega
        · exact absurd h1 h
      · intro h; omega
    · rename_i h
      have h1 : left ≠ 0 := fun e => h (.inl e)
      have h3 : Fok (.mk o p s t m n l) := Decidable.byContradiction fun e => h (.inr e)
      obtain ⟨i1, i2⟩ := cts_iff l (left - 1) 1 (by omega)
      constructor
      · rintro ⟨⟨_, a⟩, b, c⟩
        rw [i1 ⟨a, by omega, by omega⟩]; omega
      · intro h
        obtain ⟨a, b, c⟩ := i2 h
        exact ⟨⟨h3, a⟩, by omega, by omega⟩
theorem cts_iff : ∀ (l : List Xp) (left n : Nat), n ≤ 65536 → (Goods l ∧ deps l ≤ left ∧ n + nns l ≤ 65536 → cts l left n = n + nns l) ∧ (cts l left n ≤ 65536 → Goods l ∧ deps l ≤ left ∧ n + nns l ≤ 65536)
  | [], left, n, hn => by simp only [cts, Goods, deps, nns]; exact ⟨fun _ => rfl, fun h => ⟨trivial, Nat.zero_le _, h⟩⟩
  | x :: l, left, n, hn => by
    simp only [cts, Goods, deps, nns]
    rw [if_pos hn]
    obtain ⟨i1, i2⟩ := ct_iff x left
    constructor
    · rintro ⟨⟨a, a'⟩, b, c⟩
      rw [i1 ⟨a, by omega, by omega⟩, (cts_iff l left (n + nn x) (by omega)).1 ⟨a', by omega, by omega⟩]
      omega
    · intro h
      have hg := cts_ge l left (n + ct x left)
      obtain ⟨a, b, c⟩ := i2 (by omega)
      have e := i1 ⟨a, b, c⟩
      rw [e] at h hg
      obtain ⟨a', b', c'⟩ := (cts_iff l left (n + nn x) (by omega)).2 h
      exact ⟨⟨a, a'⟩, by omega, by omega⟩
end
/-- Both count alike. -/
theorem ct_chk (x : Xp) : ct x 4096 ≤ 65536 ↔ Chk x := by
  unfold Chk
  rw [mb_iff x 0 65536 (by omega)]
  constructor
  · intro h
    obtain ⟨a, b, c⟩ := (ct_iff x 4096).2 h
    exact ⟨a, by omega, c⟩
  · rintro ⟨a, b, c⟩
    rw [(ct_iff x 4096).1 ⟨a, by omega, c⟩]; exact c
/-- What is known of those that stand in one. -/
def CtIH (x : Xp) : Prop := ∀ y ∈ x.args, ∀ (left : Nat) (a : Option Addr) (c : Nat) (w : World), left ≤ 4096 → Xat w w.heap.size a c y.args →
  Calls Tryd.prog 41 #[xv y a c, .int .i64 (left : Int)] w fun e w' => e = .returned (.int .i64 (ct y left : Nat)) ∧ Ext w w'
set_option maxHeartbeats 8000000 in
set_option maxRecDepth 20000 in
theorem ct1 (x : Xp) (left : Nat) (a : Option Addr) (c : Nat) (w : World) (hl4 : left ≤ 4096) (hx : Xat w w.heap.size a c x.args) (IH : CtIH x) (hop : x.op = 1) :
    Calls Tryd.prog 41 #[xv x a c, .int .i64 (left : Int)] w fun e w' => e = .returned (.int .i64 (ct x left : Nat)) ∧ Ext w w' := by
  have _ := IH
  have hse := set_eq0 x.set
  have hse0 := set_eq00
  have hlen := hx.len
  have hmx : maxLen ≤ 9223372036854775807 := by decide
  have hlen' : x.args.length ≤ 9223372036854775807 := by omega
  have HX := Lib.hid hx
  clear hx hlen hmx
  have eo1 : (x.op == 1) = true := by simp; omega
  have dd1 : decide (x.op = 1) = true := by simp; omega
  have de1 : (x.op != 1) = false := by rw [bne, eo1]; rfl
  have eo2 : (x.op == 2) = false := by simp; omega
  have dd2 : decide (x.op = 2) = false := by simp; omega
  have de2 : (x.op != 2) = true := by rw [bne, eo2]; rfl
  have eo5 : (x.op == 5) = false := by simp; omega
  have dd5 : decide (x.op = 5) = false := by simp; omega
  have de5 : (x.op != 5) = true := by rw [bne, eo5]; rfl
  have eo6 : (x.op == 6) = false := by simp; omega
  have dd6 : decide (x.op = 6) = false := by simp; omega
  have de6 : (x.op != 6) = true := by rw [bne, eo6]; rfl
  by_cases h_left : left = 0
  · have hq : ct x left = 65537 := by rw [ct_eq, if_pos (.inl h_left)]
    rw [hq, h_left]
    clear hq IH
    as_aux_lemma =>
      go_enter Tryd.func41, Tryd.ntmps41
      go_wp2_with fail
      go_ret
      exact ⟨rfl, by go_grown⟩
  have e_left : decide ((left : Int) < 1) = false := by simp; omega
  have e_left2 : decide (left < 1) = false := by simp; omega
  have i_left : (1 : Int) ≤ (left : Int) := by omega
  by_cases h_at : x.at_ = 0
  · skip
    have e1_at : (x.at_ == 0) = true := by simpa using h_at
    have e2_at : decide (x.at_ = 0) = true := by simpa using h_at
    have e5_at : (x.at_ != 0) = false := by rw [bne, e1_at]; rfl
    by_cases h_text : x.text = .empty
    · skip
      have et : (x.text.toList == []) = true := by rw [txt_nil]; simpa using h_text
      have et2 : (x.text.toList != []) = false := by rw [bne, et]; rfl
      by_cases h_set : x.set = 0#256
      · skip
        have es : decide (x.set = 0#256) = true := by simpa using h_set
        by_cases h_len : x.args.length = 0
        · skip
          have el1 : ((x.args.length : Int) == 0) = true := by rw [h_len]; rfl
          have el2 : decide ((x.args.length : Int) = 0) = true := by rw [h_len]; rfl
          have el3 : (x.args.length == 0) = true := by rw [h_len]; rfl
          have el4 : decide (x.args.length = 0) = true := by rw [h_len]; rfl
          have el5 : x.args.isEmpty = true := by rw [List.length_eq_zero_iff] at h_len; rw [h_len]; rfl
          have el9 : ((x.args.length : Int) != 0) = false := by rw [bne, el1]; rfl
          have el7 : decide ((0 : Int) < (x.args.length : Int)) = false := by rw [h_len]; rfl
          have el8 : decide (0 < x.args.length) = false := by rw [h_len]; rfl
          by_cases h_mn : x.mn = 0
          · skip
            have e1_mn : (x.mn == 0) = true := by simpa using h_mn
            have e2_mn : decide (x.mn = 0) = true := by simpa using h_mn
            have e5_mn : (x.mn != 0) = false := by rw [bne, e1_mn]; rfl
            by_cases h_mx : x.mx = 0
            · skip
              have e1_mx : (x.mx == 0) = true := by simpa using h_mx
              have e2_mx : decide (x.mx = 0) = true := by simpa using h_mx
              have e5_mx : (x.mx != 0) = false := by rw [bne, e1_mx]; rfl
              have hfok : Fok x := by simp only [Fok, Cnt]; simp [hop, h_at, h_text, h_set, h_len, h_mn, h_mx]
              rw [ct_eq, if_neg (by rintro (h | h); omega; exact h hfok)]
              clear hfok hop h_at h_text h_set h_len h_mn h_mx
              as_aux_lemma =>
                have hb := Blk.new w (xbx x a c) 28
                have hE : Ext w (w.alloc (.cells (xbx x a c) 28)) := by go_grown
                have HB := Lib.hid hb
                have HE := Lib.hid hE
                clear hb hE
                go_enter Tryd.func41, Tryd.ntmps41
                go_wp2_with fail
                generalize w.alloc (.cells (xbx x a c) 28) = w1 at *
                go_loopw [6, 7] (fun n i wr => ∃ k m : Nat, k ≤ x.args.length ∧ i = .int .i64 k ∧ n = .int .i64 m ∧ m ≤ 268600000 ∧ Hid (cts (x.args.drop k) (left - 1) m = cts x.args (left - 1) 1) ∧ Hid (Ext w1 wr)) (fun _ i _ => x.args.length - (intOf i).toNat)
                case atStart => exact ⟨0, 1, Nat.zero_le _, rfl, rfl, by omega, Lib.hid (by simp), Lib.hid (Below.refl _ _)⟩
                case round =>
                  obtain ⟨k, m, hk, rfl, rfl, hmm, hm, hEr⟩ := hrel
                  have z9 := ((HB.out).ext hEr.out).cell 9
                  simp only [xbx, List.getElem?_toArray, List.getElem?_cons_succ, List.getElem?_cons_zero] at z9
                  by_cases hkl : k < x.args.length
                  · have k1 : decide ((k : Int) < (x.args.length : Int)) = true := by simp; omega
                    by_cases hml : m ≤ 65536
                    · have k2 : decide ((m : Int) ≤ (65536 : Int)) = true := by simp; omega
                      obtain ⟨b, o, rfl, hbb, y, a', c', hy, hmem, hok, hya, c0, c1, c2, c3, c4, c5, c6, c7, c8, c9⟩ := ((HX.out.ext HE.out).ext hEr.out).cells hkl
                      have hds : cts (x.args.drop k) (left - 1) m = cts (x.args.drop (k + 1)) (left - 1) (m + ct y (left - 1)) := by
                        rw [List.drop_eq_getElem_cons hkl, hy]; simp only [cts]; rw [if_pos hml]
                      have hbd := ct_le y (left - 1)
                      have HC := Lib.hid (IH y hmem (left - 1) a' c' wr (by omega) hya)
                      have hsum : m + ct y (left - 1) ≤ 268600000 := by
                        have : 65537 * (left - 1 + 1) ≤ 65537 * 4096 := Nat.mul_le_mul_left _ (by omega)
                        omega
                      have HD := Lib.hid (hds.symm.trans hm.out)
                      have hli : ((left - 1 : Nat) : Int) = (left : Int) - 1 := by omega
                      rw [hli] at HC
                      have i0 : (0 : Int) ≤ (k : Int) := by omega
                      have i1 : (k : Int) + 1 ≤ 9223372036854775807 := by omega
                      have i2 : (left : Int) ≤ 4096 := by omega
                      clear hds hbd hya hok hmem hli IH
                      go_wp2_with fail
                      refine HC.out.mono ?_
                      rintro e w2 ⟨rfl, hx2⟩
                      go_wp2_with fail
                      go_roundw
                      case rel => exact ⟨k + 1, m + ct y (left - 1), by omega, by go_num, by go_num, hsum, HD, Lib.hid (bel_call hEr.out hx2)⟩
                      case measure => simp [intOf] <;> omega
                    · have k2 : decide ((m : Int) ≤ (65536 : Int)) = false := by simp; omega
                      have hf : cts (x.args.drop k) (left - 1) m = m := by
                        rw [List.drop_eq_getElem_cons hkl]; simp only [cts]; rw [if_neg hml]
                      have hF := Lib.hid (hf.symm.trans hm.out)
                      clear hf
                      go_wp2_with fail
                      go_ret
                      exact ⟨by rw [← hF.out]; rfl, bel_call HE.out hEr.out⟩
                  · have k1 : decide ((k : Int) < (x.args.length : Int)) = false := by simp; omega
                    have hf : cts (x.args.drop k) (left - 1) m = m := by
                      rw [List.drop_eq_nil_of_le (by omega)]; rfl
                    have hF := Lib.hid (hf.symm.trans hm.out)
                    clear hf
                    go_wp2_with fail
                    go_ret
                    exact ⟨by rw [← hF.out]; rfl, bel_call HE.out hEr.out⟩
            · skip
              have e1_mx : (x.mx == 0) = false := by simpa using h_mx
              have e2_mx : decide (x.mx = 0) = false := by simpa using h_mx
              have e5_mx : (x.mx != 0) = true := by rw [bne, e1_mx]; rfl
              have hq : ct x left = 65537 := by rw [ct_eq, if_pos (.inr (by simp only [Fok, Cnt]; simp [hop, h_at, h_text, h_set, h_len, h_mn, h_mx]))]
              rw [hq]
              clear hq IH hop h_at h_text h_set h_len h_mn h_mx
              as_aux_lemma =>
                go_enter Tryd.func41, Tryd.ntmps41
                go_wp2_with fail
                go_ret
                exact ⟨rfl, by go_grown⟩
          · skip
            have e1_mn : (x.mn == 0) = false := by simpa using h_mn
            have e2_mn : decide (x.mn = 0) = false := by simpa using h_mn
            have e5_mn : (x.mn != 0) = true := by rw [bne, e1_mn]; rfl
            have hq : ct x left = 65537 := by rw [ct_eq, if_pos (.inr (by simp only [Fok, Cnt]; simp [hop, h_at, h_text, h_set, h_len, h_mn]))]
            rw [hq]
            clear hq IH hop h_at h_text h_set h_len h_mn
            as_aux_lemma =>
              go_enter Tryd.func41, Tryd.ntmps41
              go_wp2_with fail
              go_ret
              exact ⟨rfl, by go_grown⟩
        · skip
          have el1 : ((x.args.length : Int) == 0) = false := by simp only [beq_eq_false_iff_ne, ne_eq]; omega
          have el2 : decide ((x.args.length : Int) = 0) = false := by simp only [decide_eq_false_iff_not]; omega
          have el3 : (x.args.length == 0) = false := by simp only [beq_eq_false_iff_ne, ne_eq]; omega
          have el4 : decide (x.args.length = 0) = false := by simp only [decide_eq_false_iff_not]; omega
          have el5 : x.args.isEmpty = false := by cases hh : x.args.isEmpty with | false => rfl | true => exact absurd (by rw [List.isEmpty_iff] at hh; rw [hh]; rfl) h_len
          have el9 : ((x.args.length : Int) != 0) = true := by rw [bne, el1]; rfl
          have el7 : decide ((0 : Int) < (x.args.length : Int)) = true := by simp only [decide_eq_true_eq]; omega
          have el8 : decide (0 < x.args.length) = true := by simp only [decide_eq_true_eq]; omega
          have hq : ct x left = 65537 := by rw [ct_eq, if_pos (.inr (by simp only [Fok, Cnt]; simp [hop, h_at, h_text, h_set, h_len]))]
          rw [hq]
          clear hq IH hop h_at h_text h_set h_len
          as_aux_lemma =>
            go_enter Tryd.func41, Tryd.ntmps41
            go_wp2_with fail
            go_ret
            exact ⟨rfl, by go_grown⟩
      · skip
        have es : decide (x.set = 0#256) = false := by simpa using h_set
        have hq : ct x left = 65537 := by rw [ct_eq, if_pos (.inr (by simp only [Fok, Cnt]; simp [hop, h_at, h_text, h_set]))]
        rw [hq]
        clear hq IH hop h_at h_text h_set
        as_aux_lemma =>
          go_enter Tryd.func41, Tryd.ntmps41
          go_wp2_with fail
          go_ret
          exact ⟨rfl, by go_grown⟩
    · skip
      have et : (x.text.toList == []) = false := by rw [txt_nil]; simpa using h_text
      have et2 : (x.text.toList != []) = true := by rw [bne, et]; rfl
      have hq : ct x left = 65537 := by rw [ct_eq, if_pos (.inr (by simp only [Fok, Cnt]; simp [hop, h_at, h_text]))]
      rw [hq]
      clear hq IH hop h_at h_text
      as_aux_lemma =>
        go_enter Tryd.func41, Tryd.ntmps41
        go_wp2_with fail
        go_ret
        exact ⟨rfl, by go_grown⟩
  · skip
    have e1_at : (x.at_ == 0) = false := by simpa using h_at
    have e2_at : decide (x.at_ = 0) = false := by simpa using h_at
    have e5_at : (x.at_ != 0) = true := by rw [bne, e1_at]; rfl
    have hq : ct x left = 65537 := by rw [ct_eq, if_pos (.inr (by simp only [Fok, Cnt]; simp [hop, h_at]))]
    rw [hq]
    clear hq IH hop h_at
    as_aux_lemma =>
      go_enter Tryd.func41, Tryd.ntmps41
      go_wp2_with fail
      go_ret
      exact ⟨rfl, by go_grown⟩
set_option maxHeartbeats 8000000 in
set_option maxRecDepth 20000 in
theorem ct2 (x : Xp) (left : Nat) (a : Option Addr) (c : Nat) (w : World) (hl4 : left ≤ 4096) (hx : Xat w w.heap.size a c x.args) (IH : CtIH x) (hop : x.op = 2) :
    Calls Tryd.prog 41 #[xv x a c, .int .i64 (left : Int)] w fun e w' => e = .returned (.int .i64 (ct x left : Nat)) ∧ Ext w w' := by
  have _ := IH
  have hse := set_eq0 x.set
  have hse0 := set_eq00
  have hlen := hx.len
  have hmx : maxLen ≤ 9223372036854775807 := by decide
  have hlen' : x.args.length ≤ 9223372036854775807 := by omega
  have HX := Lib.hid hx
  clear hx hlen hmx
  have eo1 : (x.op == 1) = false := by simp; omega
  have dd1 : decide (x.op = 1) = false := by simp; omega
  have de1 : (x.op != 1) = true := by rw [bne, eo1]; rfl
  have eo2 : (x.op == 2) = true := by simp; omega
  have dd2 : decide (x.op = 2) = true := by simp; omega
  have de2 : (x.op != 2) = false := by rw [bne, eo2]; rfl
  have eo5 : (x.op == 5) = false := by simp; omega
  have dd5 : decide (x.op = 5) = false := by simp; omega
  have de5 : (x.op != 5) = true := by rw [bne, eo5]; rfl
  have eo6 : (x.op == 6) = false := by simp; omega
  have dd6 : decide (x.op = 6) = false := by simp; omega
  have de6 : (x.op != 6) = true := by rw [bne, eo6]; rfl
  by_cases h_left : left = 0
  · have hq : ct x left = 65537 := by rw [ct_eq, if_pos (.inl h_left)]
    rw [hq, h_left]
    clear hq IH
    as_aux_lemma =>
      go_enter Tryd.func41, Tryd.ntmps41
      go_wp2_with fail
      go_ret
      exact ⟨rfl, by go_grown⟩
  have e_left : decide ((left : Int) < 1) = false := by simp; omega
  have e_left2 : decide (left < 1) = false := by simp; omega
  have i_left : (1 : Int) ≤ (left : Int) := by omega
  by_cases h_at : x.at_ = 0
  · skip
    have e1_at : (x.at_ == 0) = true := by simpa using h_at
    have e2_at : decide (x.at_ = 0) = true := by simpa using h_at
    have e5_at : (x.at_ != 0) = false := by rw [bne, e1_at]; rfl
    by_cases h_text : x.text = .empty
    · skip
      have et : (x.text.toList == []) = true := by rw [txt_nil]; simpa using h_text
      have et2 : (x.text.toList != []) = false := by rw [bne, et]; rfl
      by_cases h_len : x.args.length = 0
      · skip
        have el1 : ((x.args.length : Int) == 0) = true := by rw [h_len]; rfl
        have el2 : decide ((x.args.length : Int) = 0) = true := by rw [h_len]; rfl
        have el3 : (x.args.length == 0) = true := by rw [h_len]; rfl
        have el4 : decide (x.args.length = 0) = true := by rw [h_len]; rfl
        have el5 : x.args.isEmpty = true := by rw [List.length_eq_zero_iff] at h_len; rw [h_len]; rfl
        have el9 : ((x.args.length : Int) != 0) = false := by rw [bne, el1]; rfl
        have el7 : decide ((0 : Int) < (x.args.length : Int)) = false := by rw [h_len]; rfl
        have el8 : decide (0 < x.args.length) = false := by rw [h_len]; rfl
        by_cases h_mn : x.mn = 0
        · skip
          have e1_mn : (x.mn == 0) = true := by simpa using h_mn
          have e2_mn : decide (x.mn = 0) = true := by simpa using h_mn
          have e5_mn : (x.mn != 0) = false := by rw [bne, e1_mn]; rfl
          by_cases h_mx : x.mx = 0
          · skip
            have e1_mx : (x.mx == 0) = true := by simpa using h_mx
            have e2_mx : decide (x.mx = 0) = true := by simpa using h_mx
            have e5_mx : (x.mx != 0) = false := by rw [bne, e1_mx]; rfl
            have hfok : Fok x := by simp only [Fok, Cnt]; simp [hop, h_at, h_text, h_len, h_mn, h_mx]
            rw [ct_eq, if_neg (by rintro (h | h); omega; exact h hfok)]
            clear hfok hop h_at h_text h_len h_mn h_mx
            as_aux_lemma =>
              have hb := Blk.new w (xbx x a c) 28
              have hE : Ext w (w.alloc (.cells (xbx x a c) 28)) := by go_grown
              have HB := Lib.hid hb
              have HE := Lib.hid hE
              clear hb hE
              go_enter Tryd.func41, Tryd.ntmps41
              go_wp2_with fail
              generalize w.alloc (.cells (xbx x a c) 28) = w1 at *
              go_loopw [6, 7] (fun n i wr => ∃ k m : Nat, k ≤ x.args.length ∧ i = .int .i64 k ∧ n = .int .i64 m ∧ m ≤ 268600000 ∧ Hid (cts (x.args.drop k) (left - 1) m = cts x.args (left - 1) 1) ∧ Hid (Ext w1 wr)) (fun _ i _ => x.args.length - (intOf i).toNat)
              case atStart => exact ⟨0, 1, Nat.zero_le _, rfl, rfl, by omega, Lib.hid (by simp), Lib.hid (Below.refl _ _)⟩
              case round =>
                obtain ⟨k, m, hk, rfl, rfl, hmm, hm, hEr⟩ := hrel
                have z9 := ((HB.out).ext hEr.out).cell 9
                simp only [xbx, List.getElem?_toArray, List.getElem?_cons_succ, List.getElem?_cons_zero] at z9
                by_cases hkl : k < x.args.length
                · have k1 : decide ((k : Int) < (x.args.length : Int)) = true := by simp; omega
                  by_cases hml : m ≤ 65536
                  · have k2 : decide ((m : Int) ≤ (65536 : Int)) = true := by simp; omega
                    obtain ⟨b, o, rfl, hbb, y, a', c', hy, hmem, hok, hya, c0, c1, c2, c3, c4, c5, c6, c7, c8, c9⟩ := ((HX.out.ext HE.out).ext hEr.out).cells hkl
                    have hds : cts (x.args.drop k) (left - 1) m = cts (x.args.drop (k + 1)) (left - 1) (m + ct y (left - 1)) := by
                      rw [List.drop_eq_getElem_cons hkl, hy]; simp only [cts]; rw [if_pos hml]
                    have hbd := ct_le y (left - 1)
                    have HC := Lib.hid (IH y hmem (left - 1) a' c' wr (by omega) hya)
                    have hsum : m + ct y (left - 1) ≤ 268600000 := by
                      have : 65537 * (left - 1 + 1) ≤ 65537 * 4096 := Nat.mul_le_mul_left _ (by omega)
                      omega
                    have HD := Lib.hid (hds.symm.trans hm.out)
                    have hli : ((left - 1 : Nat) : Int) = (left : Int) - 1 := by omega
                    rw [hli] at HC
                    have i0 : (0 : Int) ≤ (k : Int) := by omega
                    have i1 : (k : Int) + 1 ≤ 9223372036854775807 := by omega
                    have i2 : (left : Int) ≤ 4096 := by omega
                    clear hds hbd hya hok hmem hli IH
                    go_wp2_with fail
                    refine HC.out.mono ?_
                    rintro e w2 ⟨rfl, hx2⟩
                    go_wp2_with fail
                    go_roundw
                    case rel => exact ⟨k + 1, m + ct y (left - 1), by omega, by go_num, by go_num, hsum, HD, Lib.hid (bel_call hEr.out hx2)⟩
                    case measure => simp [intOf] <;> omega
                  · have k2 : decide ((m : Int) ≤ (65536 : Int)) = false := by simp; omega
                    have hf : cts (x.args.drop k) (left - 1) m = m := by
                      rw [List.drop_eq_getElem_cons hkl]; simp only [cts]; rw [if_neg hml]
                    have hF := Lib.hid (hf.symm.trans hm.out)
                    clear hf
                    go_wp2_with fail
                    go_ret
                    exact ⟨by rw [← hF.out]; rfl, bel_call HE.out hEr.out⟩
                · have k1 : decide ((k : Int) < (x.args.length : Int)) = false := by simp; omega
                  have hf : cts (x.args.drop k) (left - 1) m = m := by
                    rw [List.drop_eq_nil_of_le (by omega)]; rfl
                  have hF := Lib.hid (hf.symm.trans hm.out)
                  clear hf
                  go_wp2_with fail
                  go_ret
                  exact ⟨by rw [← hF.out]; rfl, bel_call HE.out hEr.out⟩
          · skip
            have e1_mx : (x.mx == 0) = false := by simpa using h_mx
            have e2_mx : decide (x.mx = 0) = false := by simpa using h_mx
            have e5_mx : (x.mx != 0) = true := by rw [bne, e1_mx]; rfl
            have hq : ct x left = 65537 := by rw [ct_eq, if_pos (.inr (by simp only [Fok, Cnt]; simp [hop, h_at, h_text, h_len, h_mn, h_mx]))]
            rw [hq]
            clear hq IH hop h_at h_text h_len h_mn h_mx
            as_aux_lemma =>
              go_enter Tryd.func41, Tryd.ntmps41
              go_wp2_with fail
              go_ret
              exact ⟨rfl, by go_grown⟩
        · skip
          have e1_mn : (x.mn == 0) = false := by simpa using h_mn
          have e2_mn : decide (x.mn = 0) = false := by simpa using h_mn
          have e5_mn : (x.mn != 0) = true := by rw [bne, e1_mn]; rfl
          have hq : ct x left = 65537 := by rw [ct_eq, if_pos (.inr (by simp only [Fok, Cnt]; simp [hop, h_at, h_text, h_len, h_mn]))]
          rw [hq]
          clear hq IH hop h_at h_text h_len h_mn
          as_aux_lemma =>
            go_enter Tryd.func41, Tryd.ntmps41
            go_wp2_with fail
            go_ret
            exact ⟨rfl, by go_grown⟩
      · skip
        have el1 : ((x.args.length : Int) == 0) = false := by simp only [beq_eq_false_iff_ne, ne_eq]; omega
        have el2 : decide ((x.args.length : Int) = 0) = false := by simp only [decide_eq_false_iff_not]; omega
        have el3 : (x.args.length == 0) = false := by simp only [beq_eq_false_iff_ne, ne_eq]; omega
        have el4 : decide (x.args.length = 0) = false := by simp only [decide_eq_false_iff_not]; omega
        have el5 : x.args.isEmpty = false := by cases hh : x.args.isEmpty with | false => rfl | true => exact absurd (by rw [List.isEmpty_iff] at hh; rw [hh]; rfl) h_len
        have el9 : ((x.args.length : Int) != 0) = true := by rw [bne, el1]; rfl
        have el7 : decide ((0 : Int) < (x.args.length : Int)) = true := by simp only [decide_eq_true_eq]; omega
        have el8 : decide (0 < x.args.length) = true := by simp only [decide_eq_true_eq]; omega
        have hq : ct x left = 65537 := by rw [ct_eq, if_pos (.inr (by simp only [Fok, Cnt]; simp [hop, h_at, h_text, h_len]))]
        rw [hq]
        clear hq IH hop h_at h_text h_len
        as_aux_lemma =>
          go_enter Tryd.func41, Tryd.ntmps41
          go_wp2_with fail
          go_ret
          exact ⟨rfl, by go_grown⟩
    · skip
      have et : (x.text.toList == []) = false := by rw [txt_nil]; simpa using h_text
      have et2 : (x.text.toList != []) = true := by rw [bne, et]; rfl
      have hq : ct x left = 65537 := by rw [ct_eq, if_pos (.inr (by simp only [Fok, Cnt]; simp [hop, h_at, h_text]))]
      rw [hq]
      clear hq IH hop h_at h_text
      as_aux_lemma =>
        go_enter Tryd.func41, Tryd.ntmps41
        go_wp2_with fail
        go_ret
        exact ⟨rfl, by go_grown⟩
  · skip
    have e1_at : (x.at_ == 0) = false := by simpa using h_at
    have e2_at : decide (x.at_ = 0) = false := by simpa using h_at
    have e5_at : (x.at_ != 0) = true := by rw [bne, e1_at]; rfl
    have hq : ct x left = 65537 := by rw [ct_eq, if_pos (.inr (by simp only [Fok, Cnt]; simp [hop, h_at]))]
    rw [hq]
    clear hq IH hop h_at
    as_aux_lemma =>
      go_enter Tryd.func41, Tryd.ntmps41
      go_wp2_with fail
      go_ret
      exact ⟨rfl, by go_grown⟩
set_option maxHeartbeats 8000000 in
set_option maxRecDepth 20000 in
theorem ct5 (x : Xp) (left : Nat) (a : Option Addr) (c : Nat) (w : World) (hl4 : left ≤ 4096) (hx : Xat w w.heap.size a c x.args) (IH : CtIH x) (hop : x.op = 5) :
    Calls Tryd.prog 41 #[xv x a c, .int .i64 (left : Int)] w fun e w' => e = .returned (.int .i64 (ct x left : Nat)) ∧ Ext w w' := by
  have _ := IH
  have hse := set_eq0 x.set
  have hse0 := set_eq00
  have hlen := hx.len
  have hmx : maxLen ≤ 9223372036854775807 := by decide
  have hlen' : x.args.length ≤ 9223372036854775807 := by omega
  have HX := Lib.hid hx
  clear hx hlen hmx
  have eo1 : (x.op == 1) = false := by simp; omega
  have dd1 : decide (x.op = 1) = false := by simp; omega
  have de1 : (x.op != 1) = true := by rw [bne, eo1]; rfl
  have eo2 : (x.op == 2) = false := by simp; omega
  have dd2 : decide (x.op = 2) = false := by simp; omega
  have de2 : (x.op != 2) = true := by rw [bne, eo2]; rfl
  have eo5 : (x.op == 5) = true := by simp; omega
  have dd5 : decide (x.op = 5) = true := by simp; omega
  have de5 : (x.op != 5) = false := by rw [bne, eo5]; rfl
  have eo6 : (x.op == 6) = false := by simp; omega
  have dd6 : decide (x.op = 6) = false := by simp; omega
  have de6 : (x.op != 6) = true := by rw [bne, eo6]; rfl
  by_cases h_left : left = 0
  · have hq : ct x left = 65537 := by rw [ct_eq, if_pos (.inl h_left)]
    rw [hq, h_left]
    clear hq IH
    as_aux_lemma =>
      go_enter Tryd.func41, Tryd.ntmps41
      go_wp2_with fail
      go_ret
      exact ⟨rfl, by go_grown⟩
  have e_left : decide ((left : Int) < 1) = false := by simp; omega
  have e_left2 : decide (left < 1) = false := by simp; omega
  have i_left : (1 : Int) ≤ (left : Int) := by omega
  by_cases h_at : x.at_ = 0
  · skip
    have e1_at : (x.at_ == 0) = true := by simpa using h_at
    have e2_at : decide (x.at_ = 0) = true := by simpa using h_at
    have e5_at : (x.at_ != 0) = false := by rw [bne, e1_at]; rfl
    by_cases h_text : x.text = .empty
    · skip
      have et : (x.text.toList == []) = true := by rw [txt_nil]; simpa using h_text
      have et2 : (x.text.toList != []) = false := by rw [bne, et]; rfl
      by_cases h_set : x.set = 0#256
      · skip
        have es : decide (x.set = 0#256) = true := by simpa using h_set
        by_cases h_2 : 2 ≤ x.args.length
        · have e2a : decide ((x.args.length : Int) < (2 : Int)) = false := by simp; omega
          have e2b : decide (x.args.length < 2) = false := by simp; omega
          by_cases h_mn : x.mn = 0
          · skip
            have e1_mn : (x.mn == 0) = true := by simpa using h_mn
            have e2_mn : decide (x.mn = 0) = true := by simpa using h_mn
            have e5_mn : (x.mn != 0) = false := by rw [bne, e1_mn]; rfl
            by_cases h_mx : x.mx = 0
            · skip
              have e1_mx : (x.mx == 0) = true := by simpa using h_mx
              have e2_mx : decide (x.mx = 0) = true := by simpa using h_mx
              have e5_mx : (x.mx != 0) = false := by rw [bne, e1_mx]; rfl
              have hfok : Fok x := by simp only [Fok, Cnt]; simp [hop, h_at, h_text, h_set, h_2, h_mn, h_mx]
              rw [ct_eq, if_neg (by rintro (h | h); omega; exact h hfok)]
              clear hfok hop h_at h_text h_set h_2 h_mn h_mx
              as_aux_lemma =>
                have hb := Blk.new w (xbx x a c) 28
                have hE : Ext w (w.alloc (.cells (xbx x a c) 28)) := by go_grown
                have HB := Lib.hid hb
                have HE := Lib.hid hE
                clear hb hE
                go_enter Tryd.func41, Tryd.ntmps41
                go_wp2_with fail
                generalize w.alloc (.cells (xbx x a c) 28) = w1 at *
                go_loopw [6, 7] (fun n i wr => ∃ k m : Nat, k ≤ x.args.length ∧ i = .int .i64 k ∧ n = .int .i64 m ∧ m ≤ 268600000 ∧ Hid (cts (x.args.drop k) (left - 1) m = cts x.args (left - 1) 1) ∧ Hid (Ext w1 wr)) (fun _ i _ => x.args.length - (intOf i).toNat)
                case atStart => exact ⟨0, 1, Nat.zero_le _, rfl, rfl, by omega, Lib.hid (by simp), Lib.hid (Below.refl _ _)⟩
                case round =>
                  obtain ⟨k, m, hk, rfl, rfl, hmm, hm, hEr⟩ := hrel
                  have z9 := ((HB.out).ext hEr.out).cell 9
                  simp only [xbx, List.getElem?_toArray, List.getElem?_cons_succ, List.getElem?_cons_zero] at z9
                  by_cases hkl : k < x.args.length
                  · have k1 : decide ((k : Int) < (x.args.length : Int)) = true := by simp; omega
                    by_cases hml : m ≤ 65536
                    · have k2 : decide ((m : Int) ≤ (65536 : Int)) = true := by simp; omega
                      obtain ⟨b, o, rfl, hbb, y, a', c', hy, hmem, hok, hya, c0, c1, c2, c3, c4, c5, c6, c7, c8, c9⟩ := ((HX.out.ext HE.out).ext hEr.out).cells hkl
                      have hds : cts (x.args.drop k) (left - 1) m = cts (x.args.drop (k + 1)) (left - 1) (m + ct y (left - 1)) := by
                        rw [List.drop_eq_getElem_cons hkl, hy]; simp only [cts]; rw [if_pos hml]
                      have hbd := ct_le y (left - 1)
                      have HC := Lib.hid (IH y hmem (left - 1) a' c' wr (by omega) hya)
                      have hsum : m + ct y (left - 1) ≤ 268600000 := by
                        have : 65537 * (left - 1 + 1) ≤ 65537 * 4096 := Nat.mul_le_mul_left _ (by omega)
                        omega
                      have HD := Lib.hid (hds.symm.trans hm.out)
                      have hli : ((left - 1 : Nat) : Int) = (left : Int) - 1 := by omega
                      rw [hli] at HC
                      have i0 : (0 : Int) ≤ (k : Int) := by omega
                      have i1 : (k : Int) + 1 ≤ 9223372036854775807 := by omega
                      have i2 : (left : Int) ≤ 4096 := by omega
                      clear hds hbd hya hok hmem hli IH
                      go_wp2_with fail
                      refine HC.out.mono ?_
                      rintro e w2 ⟨rfl, hx2⟩
                      go_wp2_with fail
                      go_roundw
                      case rel => exact ⟨k + 1, m + ct y (left - 1), by omega, by go_num, by go_num, hsum, HD, Lib.hid (bel_call hEr.out hx2)⟩
                      case measure => simp [intOf] <;> omega
                    · have k2 : decide ((m : Int) ≤ (65536 : Int)) = false := by simp; omega
                      have hf : cts (x.args.drop k) (left - 1) m = m := by
                        rw [List.drop_eq_getElem_cons hkl]; simp only [cts]; rw [if_neg hml]
                      have hF := Lib.hid (hf.symm.trans hm.out)
                      clear hf
                      go_wp2_with fail
                      go_ret
                      exact ⟨by rw [← hF.out]; rfl, bel_call HE.out hEr.out⟩
                  · have k1 : decide ((k : Int) < (x.args.length : Int)) = false := by simp; omega
                    have hf : cts (x.args.drop k) (left - 1) m = m := by
                      rw [List.drop_eq_nil_of_le (by omega)]; rfl
                    have hF := Lib.hid (hf.symm.trans hm.out)
                    clear hf
                    go_wp2_with fail
                    go_ret
                    exact ⟨by rw [← hF.out]; rfl, bel_call HE.out hEr.out⟩
            · skip
              have e1_mx : (x.mx == 0) = false := by simpa using h_mx
              have e2_mx : decide (x.mx = 0) = false := by simpa using h_mx
              have e5_mx : (x.mx != 0) = true := by rw [bne, e1_mx]; rfl
              have hq : ct x left = 65537 := by rw [ct_eq, if_pos (.inr (by simp only [Fok, Cnt]; simp [hop, h_at, h_text, h_set, h_2, h_mn, h_mx]))]
              rw [hq]
              clear hq IH hop h_at h_text h_set h_2 h_mn h_mx
              as_aux_lemma =>
                go_enter Tryd.func41, Tryd.ntmps41
                go_wp2_with fail
                go_ret
                exact ⟨rfl, by go_grown⟩
          · skip
            have e1_mn : (x.mn == 0) = false := by simpa using h_mn
            have e2_mn : decide (x.mn = 0) = false := by simpa using h_mn
            have e5_mn : (x.mn != 0) = true := by rw [bne, e1_mn]; rfl
            have hq : ct x left = 65537 := by rw [ct_eq, if_pos (.inr (by simp only [Fok, Cnt]; simp [hop, h_at, h_text, h_set, h_2, h_mn]))]
            rw [hq]
            clear hq IH hop h_at h_text h_set h_2 h_mn
            as_aux_lemma =>
              go_enter Tryd.func41, Tryd.ntmps41
              go_wp2_with fail
              go_ret
              exact ⟨rfl, by go_grown⟩
        · have e2a : decide ((x.args.length : Int) < (2 : Int)) = true := by simp; omega
          have e2b : decide (x.args.length < 2) = true := by simp; omega
          have hq : ct x left = 65537 := by rw [ct_eq, if_pos (.inr (by simp only [Fok, Cnt]; simp [hop, h_at, h_text, h_set, h_2]))]
          rw [hq]
          clear hq IH hop h_at h_text h_set h_2
          as_aux_lemma =>
            go_enter Tryd.func41, Tryd.ntmps41
            go_wp2_with fail
            go_ret
            exact ⟨rfl, by go_grown⟩
      · skip
        have es : decide (x.set = 0#256) = false := by simpa using h_set
        have hq : ct x left = 65537 := by rw [ct_eq, if_pos (.inr (by simp only [Fok, Cnt]; simp [hop, h_at, h_text, h_set]))]
        rw [hq]
        clear hq IH hop h_at h_text h_set
        as_aux_lemma =>
          go_enter Tryd.func41, Tryd.ntmps41
          go_wp2_with fail
          go_ret
          exact ⟨rfl, by go_grown⟩
    · skip
      have et : (x.text.toList == []) = false := by rw [txt_nil]; simpa using h_text
      have et2 : (x.text.toList != []) = true := by rw [bne, et]; rfl
      have hq : ct x left = 65537 := by rw [ct_eq, if_pos (.inr (by simp only [Fok, Cnt]; simp [hop, h_at, h_text]))]
      rw [hq]
      clear hq IH hop h_at h_text
      as_aux_lemma =>
        go_enter Tryd.func41, Tryd.ntmps41
        go_wp2_with fail
        go_ret
        exact ⟨rfl, by go_grown⟩
  · skip
    have e1_at : (x.at_ == 0) = false := by simpa using h_at
    have e2_at : decide (x.at_ = 0) = false := by simpa using h_at
    have e5_at : (x.at_ != 0) = true := by rw [bne, e1_at]; rfl
    have hq : ct x left = 65537 := by rw [ct_eq, if_pos (.inr (by simp only [Fok, Cnt]; simp [hop, h_at]))]
    rw [hq]
    clear hq IH hop h_at
    as_aux_lemma =>
      go_enter Tryd.func41, Tryd.ntmps41
      go_wp2_with fail
      go_ret
      exact ⟨rfl, by go_grown⟩
set_option maxHeartbeats 8000000 in
set_option maxRecDepth 20000 in
theorem ct6 (x : Xp) (left : Nat) (a : Option Addr) (c : Nat) (w : World) (hl4 : left ≤ 4096) (hx : Xat w w.heap.size a c x.args) (IH : CtIH x) (hop : x.op = 6) :
    Calls Tryd.prog 41 #[xv x a c, .int .i64 (left : Int)] w fun e w' => e = .returned (.int .i64 (ct x left : Nat)) ∧ Ext w w' := by
  have _ := IH
  have hse := set_eq0 x.set
  have hse0 := set_eq00
  have hlen := hx.len
  have hmx : maxLen ≤ 9223372036854775807 := by decide
  have hlen' : x.args.length ≤ 9223372036854775807 := by omega
  have HX := Lib.hid hx
  clear hx hlen hmx
  have eo1 : (x.op == 1) = false := by simp; omega
  have dd1 : decide (x.op = 1) = false := by simp; omega
  have de1 : (x.op != 1) = true := by rw [bne, eo1]; rfl
  have eo2 : (x.op == 2) = false := by simp; omega
  have dd2 : decide (x.op = 2) = false := by simp; omega
  have de2 : (x.op != 2) = true := by rw [bne, eo2]; rfl
  have eo5 : (x.op == 5) = false := by simp; omega
  have dd5 : decide (x.op = 5) = false := by simp; omega
  have de5 : (x.op != 5) = true := by rw [bne, eo5]; rfl
  have eo6 : (x.op == 6) = true := by simp; omega
  have dd6 : decide (x.op = 6) = true := by simp; omega
  have de6 : (x.op != 6) = false := by rw [bne, eo6]; rfl
  by_cases h_left : left = 0
  · have hq : ct x left = 65537 := by rw [ct_eq, if_pos (.inl h_left)]
    rw [hq, h_left]
    clear hq IH
    as_aux_lemma =>
      go_enter Tryd.func41, Tryd.ntmps41
      go_wp2_with fail
      go_ret
      exact ⟨rfl, by go_grown⟩
  have e_left : decide ((left : Int) < 1) = false := by simp; omega
  have e_left2 : decide (left < 1) = false := by simp; omega
  have i_left : (1 : Int) ≤ (left : Int) := by omega
  by_cases h_at : x.at_ = 0
  · skip
    have e1_at : (x.at_ == 0) = true := by simpa using h_at
    have e2_at : decide (x.at_ = 0) = true := by simpa using h_at
    have e5_at : (x.at_ != 0) = false := by rw [bne, e1_at]; rfl
    by_cases h_text : x.text = .empty
    · skip
      have et : (x.text.toList == []) = true := by rw [txt_nil]; simpa using h_text
      have et2 : (x.text.toList != []) = false := by rw [bne, et]; rfl
      by_cases h_set : x.set = 0#256
      · skip
        have es : decide (x.set = 0#256) = true := by simpa using h_set
        by_cases h_2 : 2 ≤ x.args.length
        · have e2a : decide ((x.args.length : Int) < (2 : Int)) = false := by simp; omega
          have e2b : decide (x.args.length < 2) = false := by simp; omega
          by_cases h_mn : x.mn = 0
          · skip
            have e1_mn : (x.mn == 0) = true := by simpa using h_mn
            have e2_mn : decide (x.mn = 0) = true := by simpa using h_mn
            have e5_mn : (x.mn != 0) = false := by rw [bne, e1_mn]; rfl
            by_cases h_mx : x.mx = 0
            · skip
              have e1_mx : (x.mx == 0) = true := by simpa using h_mx
              have e2_mx : decide (x.mx = 0) = true := by simpa using h_mx
              have e5_mx : (x.mx != 0) = false := by rw [bne, e1_mx]; rfl
              have hfok : Fok x := by simp only [Fok, Cnt]; simp [hop, h_at, h_text, h_set, h_2, h_mn, h_mx]
              rw [ct_eq, if_neg (by rintro (h | h); omega; exact h hfok)]
              clear hfok hop h_at h_text h_set h_2 h_mn h_mx
              as_aux_lemma =>
                have hb := Blk.new w (xbx x a c) 28
                have hE : Ext w (w.alloc (.cells (xbx x a c) 28)) := by go_grown
                have HB := Lib.hid hb
                have HE := Lib.hid hE
                clear hb hE
                go_enter Tryd.func41, Tryd.ntmps41
                go_wp2_with fail
                generalize w.alloc (.cells (xbx x a c) 28) = w1 at *
                go_loopw [6, 7] (fun n i wr => ∃ k m : Nat, k ≤ x.args.length ∧ i = .int .i64 k ∧ n = .int .i64 m ∧ m ≤ 268600000 ∧ Hid (cts (x.args.drop k) (left - 1) m = cts x.args (left - 1) 1) ∧ Hid (Ext w1 wr)) (fun _ i _ => x.args.length - (intOf i).toNat)
                case atStart => exact ⟨0, 1, Nat.zero_le _, rfl, rfl, by omega, Lib.hid (by simp), Lib.hid (Below.refl _ _)⟩
                case round =>
                  obtain ⟨k, m, hk, rfl, rfl, hmm, hm, hEr⟩ := hrel
                  have z9 := ((HB.out).ext hEr.out).cell 9
                  simp only [xbx, List.getElem?_toArray, List.getElem?_cons_succ, List.getElem?_cons_zero] at z9
                  by_cases hkl : k < x.args.length
                  · have k1 : decide ((k : Int) < (x.args.length : Int)) = true := by simp; omega
                    by_cases hml : m ≤ 65536
                    · have k2 : decide ((m : Int) ≤ (65536 : Int)) = true := by simp; omega
                      obtain ⟨b, o, rfl, hbb, y, a', c', hy, hmem, hok, hya, c0, c1, c2, c3, c4, c5, c6, c7, c8, c9⟩ := ((HX.out.ext HE.out).ext hEr.out).cells hkl
                      have hds : cts (x.args.drop k) (left - 1) m = cts (x.args.drop (k + 1)) (left - 1) (m + ct y (left - 1)) := by
                        rw [List.drop_eq_getElem_cons hkl, hy]; simp only [cts]; rw [if_pos hml]
                      have hbd := ct_le y (left - 1)
                      have HC := Lib.hid (IH y hmem (left - 1) a' c' wr (by omega) hya)
                      have hsum : m + ct y (left - 1) ≤ 268600000 := by
                        have : 65537 * (left - 1 + 1) ≤ 65537 * 4096 := Nat.mul_le_mul_left _ (by omega)
                        omega
                      have HD := Lib.hid (hds.symm.trans hm.out)
                      have hli : ((left - 1 : Nat) : Int) = (left : Int) - 1 := by omega
                      rw [hli] at HC
                      have i0 : (0 : Int) ≤ (k : Int) := by omega
                      have i1 : (k : Int) + 1 ≤ 9223372036854775807 := by omega
                      have i2 : (left : Int) ≤ 4096 := by omega
                      clear hds hbd hya hok hmem hli IH
                      go_wp2_with fail
                      refine HC.out.mono ?_
                      rintro e w2 ⟨rfl, hx2⟩
                      go_wp2_with fail
                      go_roundw
                      case rel => exact ⟨k + 1, m + ct y (left - 1), by omega, by go_num, by go_num, hsum, HD, Lib.hid (bel_call hEr.out hx2)⟩
                      case measure => simp [intOf] <;> omega
                    · have k2 : decide ((m : Int) ≤ (65536 : Int)) = false := by simp; omega
                      have hf : cts (x.args.drop k) (left - 1) m = m := by
                        rw [List.drop_eq_getElem_cons hkl]; simp only [cts]; rw [if_neg hml]
                      have hF := Lib.hid (hf.symm.trans hm.out)
                      clear hf
                      go_wp2_with fail
                      go_ret
                      exact ⟨by rw [← hF.out]; rfl, bel_call HE.out hEr.out⟩
                  · have k1 : decide ((k : Int) < (x.args.length : Int)) = false := by simp; omega
                    have hf : cts (x.args.drop k) (left - 1) m = m := by
                      rw [List.drop_eq_nil_of_le (by omega)]; rfl
                    have hF := Lib.hid (hf.symm.trans hm.out)
                    clear hf
                    go_wp2_with fail
                    go_ret
                    exact ⟨by rw [← hF.out]; rfl, bel_call HE.out hEr.out⟩
            · skip
              have e1_mx : (x.mx == 0) = false := by simpa using h_mx
              have e2_mx : decide (x.mx = 0) = false := by simpa using h_mx
              have e5_mx : (x.mx != 0) = true := by rw [bne, e1_mx]; rfl
              have hq : ct x left = 65537 := by rw [ct_eq, if_pos (.inr (by simp only [Fok, Cnt]; simp [hop, h_at, h_text, h_set, h_2, h_mn, h_mx]))]
              rw [hq]
              clear hq IH hop h_at h_text h_set h_2 h_mn h_mx
              as_aux_lemma =>
                go_enter Tryd.func41, Tryd.ntmps41
                go_wp2_with fail
                go_ret
                exact ⟨rfl, by go_grown⟩
          · skip
            have e1_mn : (x.mn == 0) = false := by simpa using h_mn
            have e2_mn : decide (x.mn = 0) = false := by simpa using h_mn
            have e5_mn : (x.mn != 0) = true := by rw [bne, e1_mn]; rfl
            have hq : ct x left = 65537 := by rw [ct_eq, if_pos (.inr (by simp only [Fok, Cnt]; simp [hop, h_at, h_text, h_set, h_2, h_mn]))]
            rw [hq]
            clear hq IH hop h_at h_text h_set h_2 h_mn
            as_aux_lemma =>
              go_enter Tryd.func41, Tryd.ntmps41
              go_wp2_with fail
              go_ret
              exact ⟨rfl, by go_grown⟩
        · have e2a : decide ((x.args.length : Int) < (2 : Int)) = true := by simp; omega
          have e2b : decide (x.args.length < 2) = true := by simp; omega
          have hq : ct x left = 65537 := by rw [ct_eq, if_pos (.inr (by simp only [Fok, Cnt]; simp [hop, h_at, h_text, h_set, h_2]))]
          rw [hq]
          clear hq IH hop h_at h_text h_set h_2
          as_aux_lemma =>
            go_enter Tryd.func41, Tryd.ntmps41
            go_wp2_with fail
            go_ret
            exact ⟨rfl, by go_grown⟩
      · skip
        have es : decide (x.set = 0#256) = false := by simpa using h_set
        have hq : ct x left = 65537 := by rw [ct_eq, if_pos (.inr (by simp only [Fok, Cnt]; simp [hop, h_at, h_text, h_set]))]
        rw [hq]
        clear hq IH hop h_at h_text h_set
        as_aux_lemma =>
          go_enter Tryd.func41, Tryd.ntmps41
          go_wp2_with fail
          go_ret
          exact ⟨rfl, by go_grown⟩
    · skip
      have et : (x.text.toList == []) = false := by rw [txt_nil]; simpa using h_text
      have et2 : (x.text.toList != []) = true := by rw [bne, et]; rfl
      have hq : ct x left = 65537 := by rw [ct_eq, if_pos (.inr (by simp only [Fok, Cnt]; simp [hop, h_at, h_text]))]
      rw [hq]
      clear hq IH hop h_at h_text
      as_aux_lemma =>
        go_enter Tryd.func41, Tryd.ntmps41
        go_wp2_with fail
        go_ret
        exact ⟨rfl, by go_grown⟩
  · skip
    have e1_at : (x.at_ == 0) = false := by simpa using h_at
    have e2_at : decide (x.at_ = 0) = false := by simpa using h_at
    have e5_at : (x.at_ != 0) = true := by rw [bne, e1_at]; rfl
    have hq : ct x left = 65537 := by rw [ct_eq, if_pos (.inr (by simp only [Fok, Cnt]; simp [hop, h_at]))]
    rw [hq]
    clear hq IH hop h_at
    as_aux_lemma =>
      go_enter Tryd.func41, Tryd.ntmps41
      go_wp2_with fail
      go_ret
      exact ⟨rfl, by go_grown⟩
set_option maxHeartbeats 8000000 in
set_option maxRecDepth 20000 in
theorem ct0 (x : Xp) (left : Nat) (a : Option Addr) (c : Nat) (w : World) (hl4 : left ≤ 4096) (hx : Xat w w.heap.size a c x.args) (IH : CtIH x) (hop : x.op ≠ 1 ∧ x.op ≠ 2 ∧ x.op ≠ 5 ∧ x.op ≠ 6 ∧ x.op ≠ 7) :
    Calls Tryd.prog 41 #[xv x a c, .int .i64 (left : Int)] w fun e w' => e = .returned (.int .i64 (ct x left : Nat)) ∧ Ext w w' := by
  have _ := IH
  have hse := set_eq0 x.set
  have hse0 := set_eq00
  have hlen := hx.len
  have hmx : maxLen ≤ 9223372036854775807 := by decide
  have hlen' : x.args.length ≤ 9223372036854775807 := by omega
  have HX := Lib.hid hx
  clear hx hlen hmx
  have eo1 : (x.op == 1) = false := by simp; omega
  have dd1 : decide (x.op = 1) = false := by simp; omega
  have de1 : (x.op != 1) = true := by rw [bne, eo1]; rfl
  have eo2 : (x.op == 2) = false := by simp; omega
  have dd2 : decide (x.op = 2) = false := by simp; omega
  have de2 : (x.op != 2) = true := by rw [bne, eo2]; rfl
  have eo5 : (x.op == 5) = false := by simp; omega
  have dd5 : decide (x.op = 5) = false := by simp; omega
  have de5 : (x.op != 5) = true := by rw [bne, eo5]; rfl
  have eo6 : (x.op == 6) = false := by simp; omega
  have dd6 : decide (x.op = 6) = false := by simp; omega
  have de6 : (x.op != 6) = true := by rw [bne, eo6]; rfl
  have eo7 : (x.op == 7) = false := by simp; omega
  have dd7 : decide (x.op = 7) = false := by simp; omega
  have de7 : (x.op != 7) = true := by rw [bne, eo7]; rfl
  by_cases h_left : left = 0
  · have hq : ct x left = 65537 := by rw [ct_eq, if_pos (.inl h_left)]
    rw [hq, h_left]
    clear hq IH
    as_aux_lemma =>
      go_enter Tryd.func41, Tryd.ntmps41
      go_wp2_with fail
      go_ret
      exact ⟨rfl, by go_grown⟩
  have e_left : decide ((left : Int) < 1) = false := by simp; omega
  have e_left2 : decide (left < 1) = false := by simp; omega
  have i_left : (1 : Int) ≤ (left : Int) := by omega
  by_cases h_at : x.at_ = 0
  · skip
    have e1_at : (x.at_ == 0) = true := by simpa using h_at
    have e2_at : decide (x.at_ = 0) = true := by simpa using h_at
    have e5_at : (x.at_ != 0) = false := by rw [bne, e1_at]; rfl
    by_cases h_text : x.text = .empty
    · skip
      have et : (x.text.toList == []) = true := by rw [txt_nil]; simpa using h_text
      have et2 : (x.text.toList != []) = false := by rw [bne, et]; rfl
      by_cases h_set : x.set = 0#256
      · skip
        have es : decide (x.set = 0#256) = true := by simpa using h_set
        have hq : ct x left = 65537 := by rw [ct_eq, if_pos (.inr (by simp only [Fok, Cnt]; simp [hop, h_at, h_text, h_set]))]
        rw [hq]
        clear hq IH hop h_at h_text h_set
        as_aux_lemma =>
          go_enter Tryd.func41, Tryd.ntmps41
          go_wp2_with fail
          go_ret
          exact ⟨rfl, by go_grown⟩
      · skip
        have es : decide (x.set = 0#256) = false := by simpa using h_set
        have hq : ct x left = 65537 := by rw [ct_eq, if_pos (.inr (by simp only [Fok, Cnt]; simp [hop, h_at, h_text, h_set]))]
        rw [hq]
        clear hq IH hop h_at h_text h_set
        as_aux_lemma =>
          go_enter Tryd.func41, Tryd.ntmps41
          go_wp2_with fail
          go_ret
          exact ⟨rfl, by go_grown⟩
    · skip
      have et : (x.text.toList == []) = false := by rw [txt_nil]; simpa using h_text
      have et2 : (x.text.toList != []) = true := by rw [bne, et]; rfl
      have hq : ct x left = 65537 := by rw [ct_eq, if_pos (.inr (by simp only [Fok, Cnt]; simp [hop, h_at, h_text]))]
      rw [hq]
      clear hq IH hop h_at h_text
      as_aux_lemma =>
        go_enter Tryd.func41, Tryd.ntmps41
        go_wp2_with fail
        go_ret
        exact ⟨rfl, by go_grown⟩
  · skip
    have e1_at : (x.at_ == 0) = false := by simpa using h_at
    have e2_at : decide (x.at_ = 0) = false := by simpa using h_at
    have e5_at : (x.at_ != 0) = true := by rw [bne, e1_at]; rfl
    have hq : ct x left = 65537 := by rw [ct_eq, if_pos (.inr (by simp only [Fok, Cnt]; simp [hop, h_at]))]
    rw [hq]
    clear hq IH hop h_at
    as_aux_lemma =>
      go_enter Tryd.func41, Tryd.ntmps41
      go_wp2_with fail
      go_ret
      exact ⟨rfl, by go_grown⟩
set_option maxHeartbeats 8000000 in
set_option maxRecDepth 20000 in
theorem ct7 (x : Xp) (left : Nat) (a : Option Addr) (c : Nat) (w : World) (hl4 : left ≤ 4096) (hx : Xat w w.heap.size a c x.args) (IH : CtIH x) (hop : x.op = 7) :
    Calls Tryd.prog 41 #[xv x a c, .int .i64 (left : Int)] w fun e w' => e = .returned (.int .i64 (ct x left : Nat)) ∧ Ext w w' := by
  have _ := IH
  have hse := set_eq0 x.set
  have hse0 := set_eq00
  have hlen := hx.len
  have hmx : maxLen ≤ 9223372036854775807 := by decide
  have hlen' : x.args.length ≤ 9223372036854775807 := by omega
  have HX := Lib.hid hx
  clear hx hlen hmx
  have eo1 : (x.op == 1) = false := by simp; omega
  have dd1 : decide (x.op = 1) = false := by simp; omega
  have de1 : (x.op != 1) = true := by rw [bne, eo1]; rfl
  have eo2 : (x.op == 2) = false := by simp; omega
  have dd2 : decide (x.op = 2) = false := by simp; omega
  have de2 : (x.op != 2) = true := by rw [bne, eo2]; rfl
  have eo5 : (x.op == 5) = false := by simp; omega
  have dd5 : decide (x.op = 5) = false := by simp; omega
  have de5 : (x.op != 5) = true := by rw [bne, eo5]; rfl
  have eo6 : (x.op == 6) = false := by simp; omega
  have dd6 : decide (x.op = 6) = false := by simp; omega
  have de6 : (x.op != 6) = true := by rw [bne, eo6]; rfl
  have eo7 : (x.op == 7) = true := by simp; omega
  have dd7 : decide (x.op = 7) = true := by simp; omega
  have de7 : (x.op != 7) = false := by rw [bne, eo7]; rfl
  by_cases h_left : left = 0
  · have hq : ct x left = 65537 := by rw [ct_eq, if_pos (.inl h_left)]
    rw [hq, h_left]
    clear hq IH
    as_aux_lemma =>
      go_enter Tryd.func41, Tryd.ntmps41
      go_wp2_with fail
      go_ret
      exact ⟨rfl, by go_grown⟩
  have e_left : decide ((left : Int) < 1) = false := by simp; omega
  have e_left2 : decide (left < 1) = false := by simp; omega
  have i_left : (1 : Int) ≤ (left : Int) := by omega
  by_cases h_at : x.at_ = 0
  · skip
    have e1_at : (x.at_ == 0) = true := by simpa using h_at
    have e2_at : decide (x.at_ = 0) = true := by simpa using h_at
    have e5_at : (x.at_ != 0) = false := by rw [bne, e1_at]; rfl
    by_cases h_text : x.text = .empty
    · skip
      have et : (x.text.toList == []) = true := by rw [txt_nil]; simpa using h_text
      have et2 : (x.text.toList != []) = false := by rw [bne, et]; rfl
      by_cases h_set : x.set = 0#256
      · skip
        have es : decide (x.set = 0#256) = true := by simpa using h_set
        by_cases h_m0 : x.mn = 0
        · skip
          have q1_m0 : (x.mn == 0) = true := by simpa using h_m0
          have q2_m0 : decide (x.mn = 0) = true := by simpa using h_m0
          have q3 : (x.mn == 1) = false := by rw [h_m0]; rfl
          have q4 : decide (x.mn = 1) = false := by rw [h_m0]; rfl
          by_cases h_xm : x.mx = -1
          · skip
            have q1_xm : (x.mx == -1) = true := by simpa using h_xm
            have q2_xm : decide (x.mx = -1) = true := by simpa using h_xm
            by_cases h_1 : x.args.length = 1
            · have e1a : ((x.args.length : Int) == 1) = true := by rw [h_1]; rfl
              have e1b : decide ((x.args.length : Int) = 1) = true := by rw [h_1]; rfl
              have e1c : decide (x.args.length = 1) = true := by rw [h_1]; rfl
              have e1d : (x.args.length == 1) = true := by rw [h_1]; rfl
              have e1e : ((x.args.length : Int) != 1) = false := by rw [bne, e1a]; rfl
              have hfok : Fok x := by simp only [Fok, Cnt]; simp [hop, h_at, h_text, h_set, h_m0, h_xm, h_1]
              rw [ct_eq, if_neg (by rintro (h | h); omega; exact h hfok)]
              clear hfok hop h_at h_text h_set h_m0 h_xm h_1
              as_aux_lemma =>
                have hb := Blk.new w (xbx x a c) 28
                have hE : Ext w (w.alloc (.cells (xbx x a c) 28)) := by go_grown
                have HB := Lib.hid hb
                have HE := Lib.hid hE
                clear hb hE
                go_enter Tryd.func41, Tryd.ntmps41
                go_wp2_with fail
                generalize w.alloc (.cells (xbx x a c) 28) = w1 at *
                go_loopw [6, 7] (fun n i wr => ∃ k m : Nat, k ≤ x.args.length ∧ i = .int .i64 k ∧ n = .int .i64 m ∧ m ≤ 268600000 ∧ Hid (cts (x.args.drop k) (left - 1) m = cts x.args (left - 1) 1) ∧ Hid (Ext w1 wr)) (fun _ i _ => x.args.length - (intOf i).toNat)
                case atStart => exact ⟨0, 1, Nat.zero_le _, rfl, rfl, by omega, Lib.hid (by simp), Lib.hid (Below.refl _ _)⟩
                case round =>
                  obtain ⟨k, m, hk, rfl, rfl, hmm, hm, hEr⟩ := hrel
                  have z9 := ((HB.out).ext hEr.out).cell 9
                  simp only [xbx, List.getElem?_toArray, List.getElem?_cons_succ, List.getElem?_cons_zero] at z9
                  by_cases hkl : k < x.args.length
                  · have k1 : decide ((k : Int) < (x.args.length : Int)) = true := by simp; omega
                    by_cases hml : m ≤ 65536
                    · have k2 : decide ((m : Int) ≤ (65536 : Int)) = true := by simp; omega
                      obtain ⟨b, o, rfl, hbb, y, a', c', hy, hmem, hok, hya, c0, c1, c2, c3, c4, c5, c6, c7, c8, c9⟩ := ((HX.out.ext HE.out).ext hEr.out).cells hkl
                      have hds : cts (x.args.drop k) (left - 1) m = cts (x.args.drop (k + 1)) (left - 1) (m + ct y (left - 1)) := by
                        rw [List.drop_eq_getElem_cons hkl, hy]; simp only [cts]; rw [if_pos hml]
                      have hbd := ct_le y (left - 1)
                      have HC := Lib.hid (IH y hmem (left - 1) a' c' wr (by omega) hya)
                      have hsum : m + ct y (left - 1) ≤ 268600000 := by
                        have : 65537 * (left - 1 + 1) ≤ 65537 * 4096 := Nat.mul_le_mul_left _ (by omega)
                        omega
                      have HD := Lib.hid (hds.symm.trans hm.out)
                      have hli : ((left - 1 : Nat) : Int) = (left : Int) - 1 := by omega
                      rw [hli] at HC
                      have i0 : (0 : Int) ≤ (k : Int) := by omega
                      have i1 : (k : Int) + 1 ≤ 9223372036854775807 := by omega
                      have i2 : (left : Int) ≤ 4096 := by omega
                      clear hds hbd hya hok hmem hli IH
                      go_wp2_with fail
                      refine HC.out.mono ?_
                      rintro e w2 ⟨rfl, hx2⟩
                      go_wp2_with fail
                      go_roundw
                      case rel => exact ⟨k + 1, m + ct y (left - 1), by omega, by go_num, by go_num, hsum, HD, Lib.hid (bel_call hEr.out hx2)⟩
                      case measure => simp [intOf] <;> omega
                    · have k2 : decide ((m : Int) ≤ (65536 : Int)) = false := by simp; omega
                      have hf : cts (x.args.drop k) (left - 1) m = m := by
                        rw [List.drop_eq_getElem_cons hkl]; simp only [cts]; rw [if_neg hml]
                      have hF := Lib.hid (hf.symm.trans hm.out)
                      clear hf
                      go_wp2_with fail
                      go_ret
                      exact ⟨by rw [← hF.out]; rfl, bel_call HE.out hEr.out⟩
                  · have k1 : decide ((k : Int) < (x.args.length : Int)) = false := by simp; omega
                    have hf : cts (x.args.drop k) (left - 1) m = m := by
                      rw [List.drop_eq_nil_of_le (by omega)]; rfl
                    have hF := Lib.hid (hf.symm.trans hm.out)
                    clear hf
                    go_wp2_with fail
                    go_ret
                    exact ⟨by rw [← hF.out]; rfl, bel_call HE.out hEr.out⟩
            · have e1a : ((x.args.length : Int) == 1) = false := by simp only [beq_eq_false_iff_ne, ne_eq]; omega
              have e1b : decide ((x.args.length : Int) = 1) = false := by simp only [decide_eq_false_iff_not]; omega
              have e1c : decide (x.args.length = 1) = false := by simp only [decide_eq_false_iff_not]; omega
              have e1d : (x.args.length == 1) = false := by simp only [beq_eq_false_iff_ne, ne_eq]; omega
              have e1e : ((x.args.length : Int) != 1) = true := by rw [bne, e1a]; rfl
              have hq : ct x left = 65537 := by rw [ct_eq, if_pos (.inr (by simp only [Fok, Cnt]; simp [hop, h_at, h_text, h_set, h_m0, h_xm, h_1]))]
              rw [hq]
              clear hq IH hop h_at h_text h_set h_m0 h_xm h_1
              as_aux_lemma =>
                go_enter Tryd.func41, Tryd.ntmps41
                go_wp2_with fail
                go_ret
                exact ⟨rfl, by go_grown⟩
          · skip
            have q1_xm : (x.mx == -1) = false := by simpa using h_xm
            have q2_xm : decide (x.mx = -1) = false := by simpa using h_xm
            by_cases h_x1 : x.mx = 1
            · skip
              have q1_x1 : (x.mx == 1) = true := by simpa using h_x1
              have q2_x1 : decide (x.mx = 1) = true := by simpa using h_x1
              by_cases h_1 : x.args.length = 1
              · have e1a : ((x.args.length : Int) == 1) = true := by rw [h_1]; rfl
                have e1b : decide ((x.args.length : Int) = 1) = true := by rw [h_1]; rfl
                have e1c : decide (x.args.length = 1) = true := by rw [h_1]; rfl
                have e1d : (x.args.length == 1) = true := by rw [h_1]; rfl
                have e1e : ((x.args.length : Int) != 1) = false := by rw [bne, e1a]; rfl
                have hfok : Fok x := by simp only [Fok, Cnt]; simp [hop, h_at, h_text, h_set, h_m0, h_x1, h_1]
                rw [ct_eq, if_neg (by rintro (h | h); omega; exact h hfok)]
                clear hfok hop h_at h_text h_set h_m0 h_xm h_x1 h_1
                as_aux_lemma =>
                  have hb := Blk.new w (xbx x a c) 28
                  have hE : Ext w (w.alloc (.cells (xbx x a c) 28)) := by go_grown
                  have HB := Lib.hid hb
                  have HE := Lib.hid hE
                  clear hb hE
                  go_enter Tryd.func41, Tryd.ntmps41
                  go_wp2_with fail
                  generalize w.alloc (.cells (xbx x a c) 28) = w1 at *
                  go_loopw [6, 7] (fun n i wr => ∃ k m : Nat, k ≤ x.args.length ∧ i = .int .i64 k ∧ n = .int .i64 m ∧ m ≤ 268600000 ∧ Hid (cts (x.args.drop k) (left - 1) m = cts x.args (left - 1) 1) ∧ Hid (Ext w1 wr)) (fun _ i _ => x.args.length - (intOf i).toNat)
                  case atStart => exact ⟨0, 1, Nat.zero_le _, rfl, rfl, by omega, Lib.hid (by simp), Lib.hid (Below.refl _ _)⟩
                  case round =>
                    obtain ⟨k, m, hk, rfl, rfl, hmm, hm, hEr⟩ := hrel
                    have z9 := ((HB.out).ext hEr.out).cell 9
                    simp only [xbx, List.getElem?_toArray, List.getElem?_cons_succ, List.getElem?_cons_zero] at z9
                    by_cases hkl : k < x.args.length
                    · have k1 : decide ((k : Int) < (x.args.length : Int)) = true := by simp; omega
                      by_cases hml : m ≤ 65536
                      · have k2 : decide ((m : Int) ≤ (65536 : Int)) = true := by simp; omega
                        obtain ⟨b, o, rfl, hbb, y, a', c', hy, hmem, hok, hya, c0, c1, c2, c3, c4, c5, c6, c7, c8, c9⟩ := ((HX.out.ext HE.out).ext hEr.out).cells hkl
                        have hds : cts (x.args.drop k) (left - 1) m = cts (x.args.drop (k + 1)) (left - 1) (m + ct y (left - 1)) := by
                          rw [List.drop_eq_getElem_cons hkl, hy]; simp only [cts]; rw [if_pos hml]
                        have hbd := ct_le y (left - 1)
                        have HC := Lib.hid (IH y hmem (left - 1) a' c' wr (by omega) hya)
                        have hsum : m + ct y (left - 1) ≤ 268600000 := by
                          have : 65537 * (left - 1 + 1) ≤ 65537 * 4096 := Nat.mul_le_mul_left _ (by omega)
                          omega
                        have HD := Lib.hid (hds.symm.trans hm.out)
                        have hli : ((left - 1 : Nat) : Int) = (left : Int) - 1 := by omega
                        rw [hli] at HC
                        have i0 : (0 : Int) ≤ (k : Int) := by omega
                        have i1 : (k : Int) + 1 ≤ 9223372036854775807 := by omega
                        have i2 : (left : Int) ≤ 4096 := by omega
                        clear hds hbd hya hok hmem hli IH
                        go_wp2_with fail
                        refine HC.out.mono ?_
                        rintro e w2 ⟨rfl, hx2⟩
                        go_wp2_with fail
                        go_roundw
                        case rel => exact ⟨k + 1, m + ct y (left - 1), by omega, by go_num, by go_num, hsum, HD, Lib.hid (bel_call hEr.out hx2)⟩
                        case measure => simp [intOf] <;> omega
                      · have k2 : decide ((m : Int) ≤ (65536 : Int)) = false := by simp; omega
                        have hf : cts (x.args.drop k) (left - 1) m = m := by
                          rw [List.drop_eq_getElem_cons hkl]; simp only [cts]; rw [if_neg hml]
                        have hF := Lib.hid (hf.symm.trans hm.out)
                        clear hf
                        go_wp2_with fail
                        go_ret
                        exact ⟨by rw [← hF.out]; rfl, bel_call HE.out hEr.out⟩
                    · have k1 : decide ((k : Int) < (x.args.length : Int)) = false := by simp; omega
                      have hf : cts (x.args.drop k) (left - 1) m = m := by
                        rw [List.drop_eq_nil_of_le (by omega)]; rfl
                      have hF := Lib.hid (hf.symm.trans hm.out)
                      clear hf
                      go_wp2_with fail
                      go_ret
                      exact ⟨by rw [← hF.out]; rfl, bel_call HE.out hEr.out⟩
              · have e1a : ((x.args.length : Int) == 1) = false := by simp only [beq_eq_false_iff_ne, ne_eq]; omega
                have e1b : decide ((x.args.length : Int) = 1) = false := by simp only [decide_eq_false_iff_not]; omega
                have e1c : decide (x.args.length = 1) = false := by simp only [decide_eq_false_iff_not]; omega
                have e1d : (x.args.length == 1) = false := by simp only [beq_eq_false_iff_ne, ne_eq]; omega
                have e1e : ((x.args.length : Int) != 1) = true := by rw [bne, e1a]; rfl
                have hq : ct x left = 65537 := by rw [ct_eq, if_pos (.inr (by simp only [Fok, Cnt]; simp [hop, h_at, h_text, h_set, h_m0, h_x1, h_1]))]
                rw [hq]
                clear hq IH hop h_at h_text h_set h_m0 h_xm h_x1 h_1
                as_aux_lemma =>
                  go_enter Tryd.func41, Tryd.ntmps41
                  go_wp2_with fail
                  go_ret
                  exact ⟨rfl, by go_grown⟩
            · skip
              have q1_x1 : (x.mx == 1) = false := by simpa using h_x1
              have q2_x1 : decide (x.mx = 1) = false := by simpa using h_x1
              by_cases h_1 : x.args.length = 1
              · have e1a : ((x.args.length : Int) == 1) = true := by rw [h_1]; rfl
                have e1b : decide ((x.args.length : Int) = 1) = true := by rw [h_1]; rfl
                have e1c : decide (x.args.length = 1) = true := by rw [h_1]; rfl
                have e1d : (x.args.length == 1) = true := by rw [h_1]; rfl
                have e1e : ((x.args.length : Int) != 1) = false := by rw [bne, e1a]; rfl
                have hq : ct x left = 65537 := by rw [ct_eq, if_pos (.inr (by simp only [Fok, Cnt]; simp [hop, h_at, h_text, h_set, h_m0, h_xm, h_x1, h_1]))]
                rw [hq]
                clear hq IH hop h_at h_text h_set h_m0 h_xm h_x1 h_1
                as_aux_lemma =>
                  go_enter Tryd.func41, Tryd.ntmps41
                  go_wp2_with fail
                  go_ret
                  exact ⟨rfl, by go_grown⟩
              · have e1a : ((x.args.length : Int) == 1) = false := by simp only [beq_eq_false_iff_ne, ne_eq]; omega
                have e1b : decide ((x.args.length : Int) = 1) = false := by simp only [decide_eq_false_iff_not]; omega
                have e1c : decide (x.args.length = 1) = false := by simp only [decide_eq_false_iff_not]; omega
                have e1d : (x.args.length == 1) = false := by simp only [beq_eq_false_iff_ne, ne_eq]; omega
                have e1e : ((x.args.length : Int) != 1) = true := by rw [bne, e1a]; rfl
                have hq : ct x left = 65537 := by rw [ct_eq, if_pos (.inr (by simp only [Fok, Cnt]; simp [hop, h_at, h_text, h_set, h_m0, h_xm, h_x1, h_1]))]
                rw [hq]
                clear hq IH hop h_at h_text h_set h_m0 h_xm h_x1 h_1
                as_aux_lemma =>
                  go_enter Tryd.func41, Tryd.ntmps41
                  go_wp2_with fail
                  go_ret
                  exact ⟨rfl, by go_grown⟩
        · skip
          have q1_m0 : (x.mn == 0) = false := by simpa using h_m0
          have q2_m0 : decide (x.mn = 0) = false := by simpa using h_m0
          by_cases h_m1 : x.mn = 1
          · skip
            have q1_m1 : (x.mn == 1) = true := by simpa using h_m1
            have q2_m1 : decide (x.mn = 1) = true := by simpa using h_m1
            by_cases h_xm : x.mx = -1
            · skip
              have q1_xm : (x.mx == -1) = true := by simpa using h_xm
              have q2_xm : decide (x.mx = -1) = true := by simpa using h_xm
              by_cases h_1 : x.args.length = 1
              · have e1a : ((x.args.length : Int) == 1) = true := by rw [h_1]; rfl
                have e1b : decide ((x.args.length : Int) = 1) = true := by rw [h_1]; rfl
                have e1c : decide (x.args.length = 1) = true := by rw [h_1]; rfl
                have e1d : (x.args.length == 1) = true := by rw [h_1]; rfl
                have e1e : ((x.args.length : Int) != 1) = false := by rw [bne, e1a]; rfl
                have hfok : Fok x := by simp only [Fok, Cnt]; simp [hop, h_at, h_text, h_set, h_m1, h_xm, h_1]
                rw [ct_eq, if_neg (by rintro (h | h); omega; exact h hfok)]
                clear hfok hop h_at h_text h_set h_m0 h_m1 h_xm h_1
                as_aux_lemma =>
                  have hb := Blk.new w (xbx x a c) 28
                  have hE : Ext w (w.alloc (.cells (xbx x a c) 28)) := by go_grown
                  have HB := Lib.hid hb
                  have HE := Lib.hid hE
                  clear hb hE
                  go_enter Tryd.func41, Tryd.ntmps41
                  go_wp2_with fail
                  generalize w.alloc (.cells (xbx x a c) 28) = w1 at *
                  go_loopw [6, 7] (fun n i wr => ∃ k m : Nat, k ≤ x.args.length ∧ i = .int .i64 k ∧ n = .int .i64 m ∧ m ≤ 268600000 ∧ Hid (cts (x.args.drop k) (left - 1) m = cts x.args (left - 1) 1) ∧ Hid (Ext w1 wr)) (fun _ i _ => x.args.length - (intOf i).toNat)
                  case atStart => exact ⟨0, 1, Nat.zero_le _, rfl, rfl, by omega, Lib.hid (by simp), Lib.hid (Below.refl _ _)⟩
                  case round =>
                    obtain ⟨k, m, hk, rfl, rfl, hmm, hm, hEr⟩ := hrel
                    have z9 := ((HB.out).ext hEr.out).cell 9
                    simp only [xbx, List.getElem?_toArray, List.getElem?_cons_succ, List.getElem?_cons_zero] at z9
                    by_cases hkl : k < x.args.length
                    · have k1 : decide ((k : Int) < (x.args.length : Int)) = true := by simp; omega
                      by_cases hml : m ≤ 65536
                      · have k2 : decide ((m : Int) ≤ (65536 : Int)) = true := by simp; omega
                        obtain ⟨b, o, rfl, hbb, y, a', c', hy, hmem, hok, hya, c0, c1, c2, c3, c4, c5, c6, c7, c8, c9⟩ := ((HX.out.ext HE.out).ext hEr.out).cells hkl
                        have hds : cts (x.args.drop k) (left - 1) m = cts (x.args.drop (k + 1)) (left - 1) (m + ct y (left - 1)) := by
                          rw [List.drop_eq_getElem_cons hkl, hy]; simp only [cts]; rw [if_pos hml]
                        have hbd := ct_le y (left - 1)
                        have HC := Lib.hid (IH y hmem (left - 1) a' c' wr (by omega) hya)
                        have hsum : m + ct y (left - 1) ≤ 268600000 := by
                          have : 65537 * (left - 1 + 1) ≤ 65537 * 4096 := Nat.mul_le_mul_left _ (by omega)
                          omega
                        have HD := Lib.hid (hds.symm.trans hm.out)
                        have hli : ((left - 1 : Nat) : Int) = (left : Int) - 1 := by omega
                        rw [hli] at HC
                        have i0 : (0 : Int) ≤ (k : Int) := by omega
                        have i1 : (k : Int) + 1 ≤ 9223372036854775807 := by omega
                        have i2 : (left : Int) ≤ 4096 := by omega
                        clear hds hbd hya hok hmem hli IH
                        go_wp2_with fail
                        refine HC.out.mono ?_
                        rintro e w2 ⟨rfl, hx2⟩
                        go_wp2_with fail
                        go_roundw
                        case rel => exact ⟨k + 1, m + ct y (left - 1), by omega, by go_num, by go_num, hsum, HD, Lib.hid (bel_call hEr.out hx2)⟩
                        case measure => simp [intOf] <;> omega
                      · have k2 : decide ((m : Int) ≤ (65536 : Int)) = false := by simp; omega
                        have hf : cts (x.args.drop k) (left - 1) m = m := by
                          rw [List.drop_eq_getElem_cons hkl]; simp only [cts]; rw [if_neg hml]
                        have hF := Lib.hid (hf.symm.trans hm.out)
                        clear hf
                        go_wp2_with fail
                        go_ret
                        exact ⟨by rw [← hF.out]; rfl, bel_call HE.out hEr.out⟩
                    · have k1 : decide ((k : Int) < (x.args.length : Int)) = false := by simp; omega
                      have hf : cts (x.args.drop k) (left - 1) m = m := by
                        rw [List.drop_eq_nil_of_le (by omega)]; rfl
                      have hF := Lib.hid (hf.symm.trans hm.out)
                      clear hf
                      go_wp2_with fail
                      go_ret
                      exact ⟨by rw [← hF.out]; rfl, bel_call HE.out hEr.out⟩
              · have e1a : ((x.args.length : Int) == 1) = false := by simp only [beq_eq_false_iff_ne, ne_eq]; omega
                have e1b : decide ((x.args.length : Int) = 1) = false := by simp only [decide_eq_false_iff_not]; omega
                have e1c : decide (x.args.length = 1) = false := by simp only [decide_eq_false_iff_not]; omega
                have e1d : (x.args.length == 1) = false := by simp only [beq_eq_false_iff_ne, ne_eq]; omega
                have e1e : ((x.args.length : Int) != 1) = true := by rw [bne, e1a]; rfl
                have hq : ct x left = 65537 := by rw [ct_eq, if_pos (.inr (by simp only [Fok, Cnt]; simp [hop, h_at, h_text, h_set, h_m1, h_xm, h_1]))]
                rw [hq]
                clear hq IH hop h_at h_text h_set h_m0 h_m1 h_xm h_1
                as_aux_lemma =>
                  go_enter Tryd.func41, Tryd.ntmps41
                  go_wp2_with fail
                  go_ret
                  exact ⟨rfl, by go_grown⟩
            · skip
              have q1_xm : (x.mx == -1) = false := by simpa using h_xm
              have q2_xm : decide (x.mx = -1) = false := by simpa using h_xm
              by_cases h_1 : x.args.length = 1
              · have e1a : ((x.args.length : Int) == 1) = true := by rw [h_1]; rfl
                have e1b : decide ((x.args.length : Int) = 1) = true := by rw [h_1]; rfl
                have e1c : decide (x.args.length = 1) = true := by rw [h_1]; rfl
                have e1d : (x.args.length == 1) = true := by rw [h_1]; rfl
                have e1e : ((x.args.length : Int) != 1) = false := by rw [bne, e1a]; rfl
                have hq : ct x left = 65537 := by rw [ct_eq, if_pos (.inr (by simp only [Fok, Cnt]; simp [hop, h_at, h_text, h_set, h_m1, h_xm, h_1]))]
                rw [hq]
                clear hq IH hop h_at h_text h_set h_m0 h_m1 h_xm h_1
                as_aux_lemma =>
                  go_enter Tryd.func41, Tryd.ntmps41
                  go_wp2_with fail
                  go_ret
                  exact ⟨rfl, by go_grown⟩
              · have e1a : ((x.args.length : Int) == 1) = false := by simp only [beq_eq_false_iff_ne, ne_eq]; omega
                have e1b : decide ((x.args.length : Int) = 1) = false := by simp only [decide_eq_false_iff_not]; omega
                have e1c : decide (x.args.length = 1) = false := by simp only [decide_eq_false_iff_not]; omega
                have e1d : (x.args.length == 1) = false := by simp only [beq_eq_false_iff_ne, ne_eq]; omega
                have e1e : ((x.args.length : Int) != 1) = true := by rw [bne, e1a]; rfl
                have hq : ct x left = 65537 := by rw [ct_eq, if_pos (.inr (by simp only [Fok, Cnt]; simp [hop, h_at, h_text, h_set, h_m1, h_xm, h_1]))]
                rw [hq]
                clear hq IH hop h_at h_text h_set h_m0 h_m1 h_xm h_1
                as_aux_lemma =>
                  go_enter Tryd.func41, Tryd.ntmps41
                  go_wp2_with fail
                  go_ret
                  exact ⟨rfl, by go_grown⟩
          · skip
            have q1_m1 : (x.mn == 1) = false := by simpa using h_m1
            have q2_m1 : decide (x.mn = 1) = false := by simpa using h_m1
            by_cases h_1 : x.args.length = 1
            · have e1a : ((x.args.length : Int) == 1) = true := by rw [h_1]; rfl
              have e1b : decide ((x.args.length : Int) = 1) = true := by rw [h_1]; rfl
              have e1c : decide (x.args.length = 1) = true := by rw [h_1]; rfl
              have e1d : (x.args.length == 1) = true := by rw [h_1]; rfl
              have e1e : ((x.args.length : Int) != 1) = false := by rw [bne, e1a]; rfl
              have hq : ct x left = 65537 := by rw [ct_eq, if_pos (.inr (by simp only [Fok, Cnt]; simp [hop, h_at, h_text, h_set, h_m0, h_m1, h_1]))]
              rw [hq]
              clear hq IH hop h_at h_text h_set h_m0 h_m1 h_1
              as_aux_lemma =>
                go_enter Tryd.func41, Tryd.ntmps41
                go_wp2_with fail
                go_ret
                exact ⟨rfl, by go_grown⟩
            · have e1a : ((x.args.length : Int) == 1) = false := by simp only [beq_eq_false_iff_ne, ne_eq]; omega
              have e1b : decide ((x.args.length : Int) = 1) = false := by simp only [decide_eq_false_iff_not]; omega
              have e1c : decide (x.args.length = 1) = false := by simp only [decide_eq_false_iff_not]; omega
              have e1d : (x.args.length == 1) = false := by simp only [beq_eq_false_iff_ne, ne_eq]; omega
              have e1e : ((x.args.length : Int) != 1) = true := by rw [bne, e1a]; rfl
              have hq : ct x left = 65537 := by rw [ct_eq, if_pos (.inr (by simp only [Fok, Cnt]; simp [hop, h_at, h_text, h_set, h_m0, h_m1, h_1]))]
              rw [hq]
              clear hq IH hop h_at h_text h_set h_m0 h_m1 h_1
              as_aux_lemma =>
                go_enter Tryd.func41, Tryd.ntmps41
                go_wp2_with fail
                go_ret
                exact ⟨rfl, by go_grown⟩
      · skip
        have es : decide (x.set = 0#256) = false := by simpa using h_set
        have hq : ct x left = 65537 := by rw [ct_eq, if_pos (.inr (by simp only [Fok, Cnt]; simp [hop, h_at, h_text, h_set]))]
        rw [hq]
        clear hq IH hop h_at h_text h_set
        as_aux_lemma =>
          go_enter Tryd.func41, Tryd.ntmps41
          go_wp2_with fail
          go_ret
          exact ⟨rfl, by go_grown⟩
    · skip
      have et : (x.text.toList == []) = false := by rw [txt_nil]; simpa using h_text
      have et2 : (x.text.toList != []) = true := by rw [bne, et]; rfl
      have hq : ct x left = 65537 := by rw [ct_eq, if_pos (.inr (by simp only [Fok, Cnt]; simp [hop, h_at, h_text]))]
      rw [hq]
      clear hq IH hop h_at h_text
      as_aux_lemma =>
        go_enter Tryd.func41, Tryd.ntmps41
        go_wp2_with fail
        go_ret
        exact ⟨rfl, by go_grown⟩
  · skip
    have e1_at : (x.at_ == 0) = false := by simpa using h_at
    have e2_at : decide (x.at_ = 0) = false := by simpa using h_at
    have e5_at : (x.at_ != 0) = true := by rw [bne, e1_at]; rfl
    have hq : ct x left = 65537 := by rw [ct_eq, if_pos (.inr (by simp only [Fok, Cnt]; simp [hop, h_at]))]
    rw [hq]
    clear hq IH hop h_at
    as_aux_lemma =>
      go_enter Tryd.func41, Tryd.ntmps41
      go_wp2_with fail
      go_ret
      exact ⟨rfl, by go_grown⟩
theorem counted7_any : ∀ (x : Xp) (left : Nat) (a : Option Addr) (c : Nat) (w : World), left ≤ 4096 → Xat w w.heap.size a c x.args →
    Calls Tryd.prog 41 #[xv x a c, .int .i64 (left : Int)] w fun e w' => e = .returned (.int .i64 (ct x left : Nat)) ∧ Ext w w' := by
  intro x
  induction x using Xp.ind with
  | h x ih =>
  intro left a c w hl hx
  by_cases h1 : x.op = 1
  · exact ct1 x left a c w hl hx ih h1
  by_cases h2 : x.op = 2
  · exact ct2 x left a c w hl hx ih h2
  by_cases h5 : x.op = 5
  · exact ct5 x left a c w hl hx ih h5
  by_cases h6 : x.op = 6
  · exact ct6 x left a c w hl hx ih h6
  by_cases h7 : x.op = 7
  · exact ct7 x left a c w hl hx ih h7
  · exact ct0 x left a c w hl hx ih ⟨h1, h2, h5, h6, h7⟩
end Go.Proofs.YtnmdfhnfheekgaaDoor
