/- A class's text and a quoted text, by plain lists: what is written is read as it; what stands ahead moves the places alone. No program is named here. -/
import Derived.Test.YtnecafokkhhhhaaGreatDoorCls
import Derived.Test.YtnecafokkhhhhaaGreatDoorEsc2
import Derived.Test.YtnecafokkhhhhaaGreatDoorSpn
namespace Go.Proofs.YtnecafokkhhhhaaGreatDoor
open Go Go.RowKit
theorem unq_one {y : UInt8} (h : y ≠ 120) (l : List UInt8) : unq (y :: l) = unq [y] := by
  unfold unq
  simp only [if_neg h]
/-- A digit of base 16. -/
def dig (n : Nat) : UInt8 := UInt8.ofNat (if n < 10 then 48 + n else 87 + n)
/-- How a byte is spelt. -/
def spl (p : UInt8) (m : List UInt8) (b : UInt8) : List UInt8 :=
  if b = 10 then [92, 110] else if b = 9 then [92, 116] else if b = 13 then [92, 114] else if b ∈ m then [92, b] else
  if p ≤ b ∧ b ≤ 126 then [b] else [92, 120, dig (b.toNat / 16), dig (b.toNat % 16)]
/-- How a spelt byte is read: by itself, behind a backslash, or by two digits. -/
def splOk (p : UInt8) (m M : List UInt8) (b : UInt8) : Bool :=
  (spl p m b == [b] && b != 92 && !M.contains b) ||
  (spl p m b == [92, (spl p m b).getD 1 0] && (spl p m b).getD 1 0 != 120 && unq [(spl p m b).getD 1 0] == (b.toNat, 1)) ||
  (spl p m b == [92, 120, (spl p m b).getD 2 0, (spl p m b).getD 3 0] && hexOf [120, (spl p m b).getD 2 0, (spl p m b).getD 3 0] == (b.toNat, 3))
theorem byte_all (P : UInt8 → Bool) (h : (List.range 256).all (fun n => P (UInt8.ofNat n)) = true) (b : UInt8) : P b = true := by
  have h1 := List.all_eq_true.1 h b.toNat (List.mem_range.2 b.toNat_lt)
  simpa using h1
theorem chr_spl (p : UInt8) (m M : List UInt8) (b : UInt8) (h : splOk p m M b = true) (l : List UInt8) : chr unq M (spl p m b ++ l) = some (b.toNat, (spl p m b).length) := by
  unfold splOk at h
  simp only [Bool.or_eq_true, Bool.and_eq_true, beq_iff_eq, bne_iff_ne, ne_eq, Bool.not_eq_true', List.contains_eq_mem, decide_eq_false_iff_not] at h
  have hch : ∀ c l, chr unq M (c :: l) = if c = 92 then (if (unq l).2 = 0 then none else some ((unq l).1, (unq l).2 + 1)) else if c ∈ M then none else some (c.toNat, 1) := fun _ _ => rfl
  rcases h with (⟨⟨h1, h2⟩, h3⟩ | ⟨⟨h1, h2⟩, h3⟩) | ⟨h1, h2⟩
  · rw [h1]
    show chr unq M (b :: l) = _
    rw [hch, if_neg h2, if_neg h3]
    rfl
  · generalize (spl p m b).getD 1 0 = y at h1 h2 h3
    rw [h1]
    show chr unq M (92 :: y :: l) = _
    rw [hch, if_pos rfl, unq_one h2, h3]
    rfl
  · generalize (spl p m b).getD 2 0 = x at h1 h2
    generalize (spl p m b).getD 3 0 = y at h1 h2
    rw [h1]
    show chr unq M (92 :: 120 :: x :: y :: l) = _
    have h4 : unq (120 :: x :: y :: l) = hexOf [120, x, y] := rfl
    rw [hch, if_pos rfl, h4, h2]
    rfl
/-- The marks of a class's text. -/
abbrev cmarks : List UInt8 := [92, 91, 93, 45, 94, 38]
abbrev qmarks : List UInt8 := [34, 92]
theorem cls_spl (b : UInt8) : splOk 33 cmarks marks.data.toList b = true := byte_all _ (by decide +kernel) b
theorem quo_spl (b : UInt8) : splOk 32 qmarks [10] b = true := byte_all _ (by decide +kernel) b
/-- The first byte of a byte that is spelt in a class. -/
def fstOk (b : UInt8) : Bool := match spl 33 cmarks b with
  | [] => false
  | x :: _ => !([45, 38, 93, 91, 94] : List UInt8).contains x
theorem fst_spl (b : UInt8) : ∃ x t, spl 33 cmarks b = x :: t ∧ x ≠ 45 ∧ x ≠ 38 ∧ x ≠ 93 ∧ x ≠ 91 ∧ x ≠ 94 := by
  have h : fstOk b = true := byte_all _ (by decide +kernel) b
  unfold fstOk at h
  split at h
  · cases h
  · rename_i x t he
    refine ⟨x, t, he, ?_⟩
    simp only [List.contains_eq_mem, Bool.not_eq_true', decide_eq_false_iff_not, List.mem_cons, not_or, List.not_mem_nil] at h
    exact ⟨h.1, h.2.1, h.2.2.1, h.2.2.2.1, h.2.2.2.2.1⟩
theorem pre1 (x c : UInt8) (l : List UInt8) : Lib.hasPrefix (x :: l) [c] = (c == x) := by
  show (c == x && List.isPrefixOf [] l) = _
  cases l <;> simp [List.isPrefixOf]
theorem pre2_no {x c d : UInt8} (h : x ≠ c) (l : List UInt8) : Lib.hasPrefix (x :: l) [c, d] = false := by
  show (c == x && List.isPrefixOf [d] l) = false
  rw [beq_eq_false_iff_ne.2 (Ne.symm h)]
  rfl
theorem pre1_no {x c : UInt8} (h : x ≠ c) (l : List UInt8) : Lib.hasPrefix (x :: l) [c] = false := by
  rw [pre1]; exact beq_eq_false_iff_ne.2 (Ne.symm h)
/-- Behind an item: what doesn't make it a range. -/
def calm (l : List UInt8) : Prop := Lib.hasPrefix l [45, 45] = true ∨ Lib.hasPrefix l [45] = false
theorem calm_stp {l : List UInt8} (h : stp l = true) : calm l := by
  unfold stp at h
  cases l with
  | nil => exact .inr rfl
  | cons x l =>
    by_cases hx : x = 45
    · subst hx
      left
      have h2 : Lib.hasPrefix (45 :: l) [38, 38] = false := pre2_no (by decide) l
      have h3 : Lib.hasPrefix (45 :: l) [93] = false := pre1_no (by decide) l
      rw [h2, h3] at h
      simpa using h
    · exact .inr (pre1_no hx l)
theorem calm_spl (b : UInt8) (l : List UInt8) : calm (spl 33 cmarks b ++ l) := by
  obtain ⟨x, t, h, h1, _⟩ := fst_spl b
  rw [h]
  exact .inr (pre1_no h1 _)
theorem stp_spl (b : UInt8) (l : List UInt8) : stp (spl 33 cmarks b ++ l) = false := by
  obtain ⟨x, t, h, h1, h2, h3, h4, h5⟩ := fst_spl b
  rw [h]
  unfold stp
  rw [List.cons_append, pre2_no h1, pre2_no h2, pre1_no h3]
  rfl
theorem itm_spl (b : UInt8) (l : List UInt8) : itm unq (spl 33 cmarks b ++ l) = spq unq (spl 33 cmarks b ++ l) := by
  obtain ⟨x, t, h, h1, h2, h3, h4, h5⟩ := fst_spl b
  unfold itm
  rw [if_neg]
  rw [h, List.cons_append, pre2_no h4]
  simp
theorem itm_one (b : UInt8) (l : List UInt8) (h : calm l) : itm unq (spl 33 cmarks b ++ l) = .inr (ofl [b], (spl 33 cmarks b).length) := by
  rw [itm_spl]
  unfold spq
  rw [chr_spl 33 cmarks _ b (cls_spl b) l]
  simp only [List.drop_left]
  rw [if_pos (show _ ∨ _ from h)]
  simp
theorem itm_two (b c : UInt8) (l : List UInt8) (h : b ≤ c) : itm unq (spl 33 cmarks b ++ (45 :: (spl 33 cmarks c ++ l))) = .inr (rng b.toNat c.toNat, (spl 33 cmarks b).length + 1 + (spl 33 cmarks c).length) := by
  rw [itm_spl]
  unfold spq
  rw [chr_spl 33 cmarks _ b (cls_spl b)]
  simp only [List.drop_left]
  obtain ⟨x, t, hx, h1, h2, h3, h4, h5⟩ := fst_spl c
  have e1 : Lib.hasPrefix (45 :: (spl 33 cmarks c ++ l)) [45, 45] = false := by
    rw [hx]
    show ((45 : UInt8) == 45 && ((45 : UInt8) == x && List.isPrefixOf [] (t ++ l))) = false
    rw [beq_eq_false_iff_ne.2 (Ne.symm h1)]
    rfl
  have e2 : Lib.hasPrefix (45 :: (spl 33 cmarks c ++ l)) [45] = true := by rw [pre1]; rfl
  rw [if_neg (by rw [e1, e2]; simp)]
  have e3 : (spl 33 cmarks b ++ (45 :: (spl 33 cmarks c ++ l))).drop ((spl 33 cmarks b).length + 1) = spl 33 cmarks c ++ l := by
    rw [← List.drop_drop, List.drop_left]
    rfl
  rw [e3, chr_spl 33 cmarks _ c (cls_spl c)]
  simp only
  rw [if_neg (by have := UInt8.le_iff_toNat_le.1 h; omega)]
/-- How a span is spelt. -/
def sps (p : Nat × Nat) : List UInt8 :=
  spl 33 cmarks (UInt8.ofNat p.1) ++ ((if p.2 > p.1 + 1 then [45] else []) ++ (if p.2 ≠ p.1 then spl 33 cmarks (UInt8.ofNat p.2) else []))
theorem one_rng (b : Nat) (hb : b < 256) : ofl [UInt8.ofNat b] = rng b b := by
  apply BitVec.eq_of_getLsbD_eq
  intro i hi
  rw [rng_bit _ _ _ (by omega) (by omega) (by omega) (by omega)]
  have : (UInt8.ofNat b).toNat = b := by simp [Nat.mod_eq_of_lt hb]
  simp only [ofl, List.foldl_cons, List.foldl_nil, BitVec.zero_or, BitVec.getLsbD_shiftLeft, BitVec.getLsbD_one, this]
  by_cases h : i = b
  · subst h; simp [hb]
  · by_cases h2 : i < b
    · simp [h2]; omega
    · have h3 : i - b ≠ 0 := by omega
      simp [h2, h3]; omega
theorem two_rng (b c : Nat) (hb : c < 256) (h : c = b + 1) : rng b b ||| rng c c = rng b c := by
  apply BitVec.eq_of_getLsbD_eq
  intro i hi
  rw [BitVec.getLsbD_or, rng_bit _ _ _ (by omega) (by omega) (by omega) (by omega), rng_bit _ _ _ (by omega) (by omega) (by omega) (by omega), rng_bit _ _ _ (by omega) (by omega) (by omega) (by omega), ← Bool.decide_or]
  exact decide_eq_decide.2 (by omega)
def unl (L : List (Nat × Nat)) (S : BitVec 256) : BitVec 256 := L.foldl (fun s p => s ||| rng p.1 p.2) S
theorem calm_sps (L : List (Nat × Nat)) (R : List UInt8) (hR : stp R = true) : calm (L.flatMap sps ++ R) := by
  cases L with
  | nil => exact calm_stp hR
  | cons p L =>
    simp only [List.flatMap_cons, sps, List.append_assoc]
    exact calm_spl _ _
theorem ims_step (n : Nat) (l : List UInt8) (S T : BitVec 256) (k m : Nat) (h : stp l = false) (hi : itm unq l = .inr (T, m)) : ims unq (n + 1) l S k = ims unq n (l.drop m) (S ||| T) (k + m) := by
  rw [ims, if_neg (by rw [h]; simp), hi]
theorem spl_len (b : UInt8) : 0 < (spl 33 cmarks b).length := by
  obtain ⟨x, t, h, _⟩ := fst_spl b
  rw [h]; simp
/-- What spans are spelt as is read as them. -/
theorem ims_sps (R : List UInt8) (hR : stp R = true) : ∀ (L : List (Nat × Nat)), (∀ p ∈ L, p.1 ≤ p.2 ∧ p.2 < 256) → ∀ (n : Nat) (S : BitVec 256) (k : Nat), (L.flatMap sps ++ R).length < n →
    ims unq n (L.flatMap sps ++ R) S k = .inr (unl L S, k + (L.flatMap sps).length)
  | [], _, n, S, k, hn => by
    obtain ⟨n, rfl⟩ : ∃ m, n = m + 1 := ⟨n - 1, by omega⟩
    simp only [List.flatMap_nil, List.nil_append, List.length_nil, Nat.add_zero]
    rw [ims, if_pos hR]
    rfl
  | (lo, hi) :: L, hL, n, S, k, hn => by
    obtain ⟨hle, hlt⟩ := hL (lo, hi) (by simp)
    simp only at hle hlt
    have ih := ims_sps R hR L (fun p hp => hL p (by simp [hp]))
    have hc := calm_sps L R hR
    obtain ⟨n, rfl⟩ : ∃ m, n = m + 1 := ⟨n - 1, by omega⟩
    have hlo := spl_len (UInt8.ofNat lo)
    have hhi := spl_len (UInt8.ofNat hi)
    have hlon : (UInt8.ofNat lo).toNat = lo := by simp; omega
    have hhin : (UInt8.ofNat hi).toNat = hi := by simp; omega
    by_cases h1 : hi = lo
    · subst h1
      have e : sps (hi, hi) = spl 33 cmarks (UInt8.ofNat hi) := by simp [sps]
      rw [List.flatMap_cons, e, List.append_assoc] at hn ⊢
      rw [ims_step n _ S _ k _ (stp_spl _ _) (itm_one _ _ hc), List.drop_left, ih _ _ _ (by rw [List.length_append] at hn; omega), one_rng hi hlt, List.length_append, Nat.add_assoc]
      rfl
    · by_cases h2 : hi = lo + 1
      · have e : sps (lo, hi) = spl 33 cmarks (UInt8.ofNat lo) ++ spl 33 cmarks (UInt8.ofNat hi) := by simp [sps, h2]
        rw [List.flatMap_cons, e, List.append_assoc, List.append_assoc] at hn ⊢
        rw [List.length_append, List.length_append] at hn
        obtain ⟨n, rfl⟩ : ∃ m, n = m + 1 := ⟨n - 1, by omega⟩
        rw [ims_step _ _ S _ k _ (stp_spl _ _) (itm_one _ _ (calm_spl _ _)), List.drop_left, ims_step _ _ _ _ _ _ (stp_spl _ _) (itm_one _ _ hc), List.drop_left, ih _ _ _ (by omega), one_rng lo (by omega), one_rng hi hlt, BitVec.or_assoc, two_rng lo hi hlt h2,
          List.length_append, List.length_append, Nat.add_assoc, Nat.add_assoc, Nat.add_assoc]
        rfl
      · have h3 : hi > lo + 1 := by omega
        have e : sps (lo, hi) = spl 33 cmarks (UInt8.ofNat lo) ++ (45 :: spl 33 cmarks (UInt8.ofNat hi)) := by simp [sps, h3, h1]
        rw [List.flatMap_cons, e, List.append_assoc, List.append_assoc, List.cons_append] at hn ⊢
        have hl : (spl 33 cmarks (UInt8.ofNat lo) ++ (45 :: (spl 33 cmarks (UInt8.ofNat hi) ++ (L.flatMap sps ++ R)))).drop ((spl 33 cmarks (UInt8.ofNat lo)).length + 1 + (spl 33 cmarks (UInt8.ofNat hi)).length) = L.flatMap sps ++ R := by
          rw [← List.drop_drop, ← List.drop_drop, List.drop_left]
          show ((spl 33 cmarks (UInt8.ofNat hi) ++ (L.flatMap sps ++ R))).drop _ = _
          rw [List.drop_left]
        rw [ims_step _ _ S _ k _ (stp_spl _ _) (itm_two _ _ _ (by rw [UInt8.le_iff_toNat_le, hlon, hhin]; omega)), hl]
        simp only [List.length_append, List.length_cons] at hn
        rw [ih _ _ _ (by rw [List.length_append]; omega), hlon, hhin]
        simp only [List.length_append, List.length_cons]
        rw [show k + ((spl 33 cmarks (UInt8.ofNat lo)).length + 1 + (spl 33 cmarks (UInt8.ofNat hi)).length) + (List.flatMap sps L).length = k + ((spl 33 cmarks (UInt8.ofNat lo)).length + ((spl 33 cmarks (UInt8.ofNat hi)).length + 1) + (List.flatMap sps L).length) by omega]
        rfl

theorem hat_sps (L : List (Nat × Nat)) (R : List UInt8) (hR : stp R = true) : Lib.hasPrefix (L.flatMap sps ++ R) [94] = false := by
  cases L with
  | nil =>
    show Lib.hasPrefix R [94] = false
    cases R with
    | nil => rfl
    | cons x l =>
      apply pre1_no
      intro hx
      subst hx
      unfold stp at hR
      rw [pre2_no (by decide), pre2_no (by decide), pre1_no (by decide)] at hR
      cases hR
  | cons p L =>
    obtain ⟨x, t, h, h1, h2, h3, h4, h5⟩ := fst_spl (UInt8.ofNat p.1)
    simp only [List.flatMap_cons, sps, List.append_assoc]
    rw [h]
    exact pre1_no h5 _
/-- A class that begins with the items of a text that was written. -/
theorem cls_sps (L : List (Nat × Nat)) (hL : ∀ p ∈ L, p.1 ≤ p.2 ∧ p.2 < 256) (R : List UInt8) (hR : stp R = true) (n o k : Nat) (ho : o ≠ 40) :
    cls unq (n + 1) o (91 :: (L.flatMap sps ++ R)) k = tls unq n (o + 1) (unl L 0#256) R (k + (1 + (L.flatMap sps).length)) := by
  have hi := ims_sps R hR L hL ((91 :: (L.flatMap sps ++ R)).length + 1) 0#256 0 (by simp only [List.length_cons]; omega)
  have h1 : Lib.hasPrefix (91 :: (L.flatMap sps ++ R)) [91] = true := by rw [pre1]; rfl
  rw [cls, if_neg (by rw [h1]; simp), if_neg ho]
  have e1 : (91 :: (L.flatMap sps ++ R)).drop 1 = L.flatMap sps ++ R := rfl
  rw [e1, if_neg (by rw [hat_sps L R hR]; simp), hi]
  simp only [Nat.zero_add]
  have e2 : (91 :: (L.flatMap sps ++ R)).drop (1 + (L.flatMap sps).length) = R := by
    rw [← List.drop_drop, e1, List.drop_left]
  rw [e2, Nat.add_assoc]
/-- The same behind a hat. -/
theorem cls_hat (L : List (Nat × Nat)) (hL : ∀ p ∈ L, p.1 ≤ p.2 ∧ p.2 < 256) (R : List UInt8) (hR : stp R = true) (n o k : Nat) (ho : o ≠ 40) :
    cls unq (n + 1) o (91 :: 94 :: (L.flatMap sps ++ R)) k = tls unq n (o + 1) (~~~(unl L 0#256)) R (k + (2 + (L.flatMap sps).length)) := by
  have hi := ims_sps R hR L hL ((91 :: 94 :: (L.flatMap sps ++ R)).length + 1) 0#256 0 (by simp only [List.length_cons]; omega)
  have h1 : Lib.hasPrefix (91 :: 94 :: (L.flatMap sps ++ R)) [91] = true := by rw [pre1]; rfl
  rw [cls, if_neg (by rw [h1]; simp), if_neg ho]
  have e1 : (91 :: 94 :: (L.flatMap sps ++ R)).drop 1 = 94 :: (L.flatMap sps ++ R) := rfl
  have e3 : (91 :: 94 :: (L.flatMap sps ++ R)).drop 2 = L.flatMap sps ++ R := rfl
  have h2 : Lib.hasPrefix (94 :: (L.flatMap sps ++ R)) [94] = true := by rw [pre1]; rfl
  rw [e1, if_pos h2, e3, hi]
  simp only [Nat.zero_add]
  have e2 : (91 :: 94 :: (L.flatMap sps ++ R)).drop (2 + (L.flatMap sps).length) = R := by
    rw [← List.drop_drop, e3, List.drop_left]
  rw [e2, Nat.add_assoc]
theorem tls_end (n o : Nat) (S : BitVec 256) (R : List UInt8) (k : Nat) : tls unq (n + 1) o S (93 :: R) k = .inr (S, k + 1) := by
  rw [tls, if_pos (by rw [pre1]; rfl)]
theorem stp_end (R : List UInt8) : stp (93 :: R) = true := by
  unfold stp
  rw [pre1, pre2_no (by decide), pre2_no (by decide)]
  rfl
theorem stp_dash (R : List UInt8) : stp (45 :: 45 :: R) = true := by
  unfold stp
  have : Lib.hasPrefix (45 :: 45 :: R) [45, 45] = true := by cases R <;> rfl
  rw [this]; rfl
theorem stp_amp (R : List UInt8) : stp (38 :: 38 :: R) = true := by
  unfold stp
  have : Lib.hasPrefix (38 :: 38 :: R) [38, 38] = true := by cases R <;> rfl
  rw [this, pre2_no (by decide)]; rfl
theorem tls_dash (n o : Nat) (S T : BitVec 256) (l R : List UInt8) (k : Nat) (h : cls unq n o (l ++ R) (k + 2) = .inr (T, k + 2 + l.length)) : tls unq (n + 1) o S (45 :: 45 :: (l ++ R)) k = tls unq n o (S &&& ~~~T) R (k + (2 + l.length)) := by
  have h1 : Lib.hasPrefix (45 :: 45 :: (l ++ R)) [45, 45] = true := by cases l ++ R <;> rfl
  have e1 : (45 :: 45 :: (l ++ R)).drop 2 = l ++ R := rfl
  rw [tls, if_neg (by rw [pre1_no (by decide)]; simp), if_pos h1, e1, h]
  simp only
  have e2 : k + 2 + l.length - k = 2 + l.length := by omega
  rw [e2, ← List.drop_drop, e1, List.drop_left, Nat.add_assoc]
theorem tls_amp (n o : Nat) (S T : BitVec 256) (l R : List UInt8) (k : Nat) (h : cls unq n o (l ++ R) (k + 2) = .inr (T, k + 2 + l.length)) : tls unq (n + 1) o S (38 :: 38 :: (l ++ R)) k = tls unq n o (S &&& T) R (k + (2 + l.length)) := by
  have h1 : Lib.hasPrefix (38 :: 38 :: (l ++ R)) [38, 38] = true := by cases l ++ R <;> rfl
  have e1 : (38 :: 38 :: (l ++ R)).drop 2 = l ++ R := rfl
  rw [tls, if_neg (by rw [pre1_no (by decide)]; simp), if_neg (by rw [pre2_no (by decide)]; simp), if_pos h1, e1, h]
  simp only
  have e2 : k + 2 + l.length - k = 2 + l.length := by omega
  rw [e2, ← List.drop_drop, e1, List.drop_left, Nat.add_assoc]
/-- A set's one text. -/
def txtL (L : List (Nat × Nat)) : List UInt8 := 91 :: (L.flatMap sps ++ [93])
theorem cls_txt (L : List (Nat × Nat)) (hL : ∀ p ∈ L, p.1 ≤ p.2 ∧ p.2 < 256) (R : List UInt8) (n o k : Nat) (ho : o ≠ 40) :
    cls unq (n + 2) o (txtL L ++ R) k = .inr (unl L 0#256, k + (txtL L).length) := by
  have e : txtL L ++ R = 91 :: (L.flatMap sps ++ 93 :: R) := by simp [txtL]
  have e2 : (txtL L).length = 1 + (L.flatMap sps).length + 1 := by simp [txtL]; omega
  rw [e, cls_sps L hL _ (stp_end R) _ _ _ ho, tls_end, e2, Nat.add_assoc]
/-- A quoted text, from behind its first quote on. -/
def quo (f : List UInt8 → Nat × Nat) : Nat → List UInt8 → List UInt8 → Nat → Sum Nat (List UInt8 × Nat)
  | 0, _, _, k => .inl k
  | n + 1, l, A, k => if Lib.hasPrefix l [34] = true then .inr (A, k + 1) else match chr f [10] l with
    | none => .inl k
    | some (b, m) => quo f n (l.drop m) (A ++ [UInt8.ofNat b]) (k + m)
/-- A quoted text. -/
def quq (f : List UInt8 → Nat × Nat) (l : List UInt8) (k : Nat) : Sum Nat (List UInt8 × Nat) := if Lib.hasPrefix l [34] = true then quo f (l.length + 1) (l.drop 1) [] (k + 1) else .inl k
/-- A text's one quoted text. -/
def qot (s : List UInt8) : List UInt8 := 34 :: (s.flatMap (spl 32 qmarks) ++ [34])
def qfsOk (b : UInt8) : Bool := match spl 32 qmarks b with
  | [] => false
  | x :: _ => x != 34
theorem fst_quo (b : UInt8) : ∃ x t, spl 32 qmarks b = x :: t ∧ x ≠ 34 := by
  have h : qfsOk b = true := byte_all _ (by decide +kernel) b
  unfold qfsOk at h
  split at h
  · cases h
  · rename_i x t he
    exact ⟨x, t, he, by simpa using h⟩
theorem quo_qot (R : List UInt8) : ∀ (s : List UInt8) (n : Nat) (A : List UInt8) (k : Nat), s.length < n → quo unq n (s.flatMap (spl 32 qmarks) ++ 34 :: R) A k = .inr (A ++ s, k + (s.flatMap (spl 32 qmarks)).length + 1)
  | [], n, A, k, hn => by
    obtain ⟨n, rfl⟩ : ∃ m, n = m + 1 := ⟨n - 1, by simp at hn; omega⟩
    simp only [List.flatMap_nil, List.nil_append, List.length_nil, List.append_nil]
    rw [quo, if_pos (by rw [pre1]; rfl)]
  | b :: s, n, A, k, hn => by
    obtain ⟨n, rfl⟩ : ∃ m, n = m + 1 := ⟨n - 1, by simp at hn; omega⟩
    have ih := quo_qot R s n
    obtain ⟨x, t, hx, h1⟩ := fst_quo b
    rw [List.flatMap_cons, List.append_assoc]
    have h2 : Lib.hasPrefix (spl 32 qmarks b ++ (s.flatMap (spl 32 qmarks) ++ 34 :: R)) [34] = false := by rw [hx]; exact pre1_no h1 _
    rw [quo, if_neg (by rw [h2]; simp), chr_spl 32 qmarks _ b (quo_spl b)]
    simp only [List.drop_left]
    rw [ih _ _ (by simp at hn; omega), List.length_append]
    simp [Nat.add_assoc]
theorem quq_qot (s R : List UInt8) (k : Nat) : quq unq (qot s ++ R) k = .inr (s, k + (qot s).length) := by
  have e : qot s ++ R = 34 :: (s.flatMap (spl 32 qmarks) ++ 34 :: R) := by simp [qot]
  have hl : s.length ≤ (s.flatMap (spl 32 qmarks)).length := by
    induction s with
    | nil => simp
    | cons b s ih =>
      obtain ⟨x, t, hx, _⟩ := fst_quo b
      rw [List.flatMap_cons, List.length_append, hx]
      have := ih (by simp [qot])
      simp only [List.length_cons]; omega
  have e2 : (qot s).length = (s.flatMap (spl 32 qmarks)).length + 2 := by simp only [qot, List.length_cons, List.length_append, List.length_nil]
  rw [e, quq, if_pos (by rw [pre1]; rfl)]
  show quo unq _ (s.flatMap (spl 32 qmarks) ++ 34 :: R) [] (k + 1) = _
  rw [quo_qot R s _ _ _ (by simp only [List.length_cons, List.length_append]; omega), e2, List.nil_append]
  congr 2; omega
theorem qot_inj {s t : List UInt8} (h : qot s = qot t) : s = t := by
  have h1 := quq_qot s [] 0
  have h2 := quq_qot t [] 0
  rw [h, h2] at h1
  simp at h1
  exact h1.symm
/-- What stands ahead moves the places, and nothing else. -/
def shf (d : Nat) : Sum (Bool × Nat) (BitVec 256 × Nat) → Sum (Bool × Nat) (BitVec 256 × Nat)
  | .inl (b, k) => .inl (b, k + d)
  | .inr (S, k) => .inr (S, k + d)
theorem cls_le (f : List UInt8 → Nat × Nat) : ∀ n, (∀ o l k S m, cls f n o l k = .inr (S, m) → k ≤ m) ∧ (∀ o S l k T m, tls f n o S l k = .inr (T, m) → k ≤ m)
  | 0 => ⟨fun o l k S m h => (by rw [cls] at h; cases h), fun o S l k T m h => (by rw [tls] at h; cases h)⟩
  | n + 1 => by
    obtain ⟨ih1, ih2⟩ := cls_le f n
    constructor
    · intro o l k S m h
      rw [cls] at h
      split at h
      · cases h
      · split at h
        · cases h
        · split at h
          · split at h
            · cases h
            · have := ih2 _ _ _ _ _ _ h; omega
          · split at h
            · cases h
            · have := ih2 _ _ _ _ _ _ h; omega
    · intro o S l k T m h
      rw [tls] at h
      split at h
      · cases h; omega
      · split at h
        · split at h
          · cases h
          · rename_i hc; have := ih2 _ _ _ _ _ _ h; have := ih1 _ _ _ _ _ hc; omega
        · split at h
          · split at h
            · cases h
            · rename_i hc; have := ih2 _ _ _ _ _ _ h; have := ih1 _ _ _ _ _ hc; omega
          · cases h
theorem cls_shf (f : List UInt8 → Nat × Nat) (d : Nat) : ∀ n, (∀ o l k, cls f n o l (k + d) = shf d (cls f n o l k)) ∧ (∀ o S l k, tls f n o S l (k + d) = shf d (tls f n o S l k))
  | 0 => ⟨fun _ _ _ => (by rw [cls, cls]; rfl), fun _ _ _ _ => (by rw [tls, tls]; rfl)⟩
  | n + 1 => by
    obtain ⟨ih1, ih2⟩ := cls_shf f d n
    constructor
    · intro o l k
      rw [cls, cls]
      split
      · rfl
      · split
        · rfl
        · split
          · split
            · simp only [shf]; congr 2; omega
            · rw [← ih2]; congr 1; omega
          · split
            · simp only [shf]; congr 2; omega
            · rw [← ih2]; congr 1; omega
    · intro o S l k
      rw [tls, tls]
      have e := ih1 o (l.drop 2) (k + 2)
      rw [show k + 2 + d = k + d + 2 by omega] at e
      rw [e]
      have hcl := fun T m h => (cls_le f n).1 o (l.drop 2) (k + 2) T m h
      by_cases h1 : Lib.hasPrefix l [93] = true
      · rw [if_pos h1, if_pos h1]
        simp only [shf]; congr 2; omega
      · rw [if_neg h1, if_neg h1]
        by_cases h2 : Lib.hasPrefix l [45, 45] = true
        · rw [if_pos h2, if_pos h2]
          cases hc : cls f n o (l.drop 2) (k + 2) with
          | inl x => rfl
          | inr x =>
            obtain ⟨T, m⟩ := x
            have hm := hcl _ _ hc
            simp only [shf]
            rw [ih2, show m + d - (k + d) = m - k by omega]
            rfl
        · rw [if_neg h2, if_neg h2]
          by_cases h3 : Lib.hasPrefix l [38, 38] = true
          · rw [if_pos h3, if_pos h3]
            cases hc : cls f n o (l.drop 2) (k + 2) with
            | inl x => rfl
            | inr x =>
              obtain ⟨T, m⟩ := x
              have hm := hcl _ _ hc
              simp only [shf]
              rw [ih2, show m + d - (k + d) = m - k by omega]
              rfl
          · rw [if_neg h3, if_neg h3]
            rfl
def shq (d : Nat) : Sum Nat (List UInt8 × Nat) → Sum Nat (List UInt8 × Nat)
  | .inl k => .inl (k + d)
  | .inr (S, k) => .inr (S, k + d)
theorem quo_shf (f : List UInt8 → Nat × Nat) (d : Nat) : ∀ n l A k, quo f n l A (k + d) = shq d (quo f n l A k)
  | 0, _, _, _ => rfl
  | n + 1, l, A, k => by
    rw [quo, quo]
    split
    · simp only [shq]; congr 2; omega
    · split
      · rfl
      · rw [← quo_shf f d n]; congr 1; omega
theorem quq_shf (f : List UInt8 → Nat × Nat) (d : Nat) (l : List UInt8) (k : Nat) : quq f l (k + d) = shq d (quq f l k) := by
  unfold quq
  split
  · rw [← quo_shf]; congr 1; omega
  · rfl
theorem unl_bit (i : Nat) : ∀ (L : List (Nat × Nat)) (S : BitVec 256), (∀ p ∈ L, p.1 ≤ p.2 ∧ p.2 < 256) → ((unl L S).getLsbD i = true ↔ S.getLsbD i = true ∨ ∃ p ∈ L, p.1 ≤ i ∧ i ≤ p.2)
  | [], S, _ => by simp [unl]
  | p :: L, S, h => by
    have hp := h p (by simp)
    have ih := unl_bit i L (S ||| rng p.1 p.2) (fun q hq => h q (by simp [hq]))
    show (unl L (S ||| rng p.1 p.2)).getLsbD i = true ↔ _
    rw [ih, BitVec.getLsbD_or, rng_bit _ _ _ (by omega) (by omega) (by omega) (by omega)]
    simp only [Bool.or_eq_true, decide_eq_true_eq, List.mem_cons, exists_eq_or_imp, Int.ofNat_le]
    exact or_assoc
theorem spn_ok (s : BitVec 256) : ∀ p ∈ spn s, p.1 ≤ p.2 ∧ p.2 < 256 := by
  intro p hp
  have h := spn_inv s
  have h1 := h.ok p hp
  have h2 := (h.mem p.2).2 ⟨p, hp, h1, Nat.le_refl _⟩
  have h3 := lstN_lt s 4 p.2 h2
  exact ⟨h1, by omega⟩
theorem unl_spn (s : BitVec 256) : unl (spn s) 0#256 = s := by
  apply BitVec.eq_of_getLsbD_eq
  intro i hi
  have h := unl_bit i (spn s) 0#256 (spn_ok s)
  have h2 := (spn_inv s).mem i
  have h3 : i ∈ lstN s 4 ↔ s.getLsbD i = true := by
    unfold lstN
    rw [List.mem_filter, List.mem_range]
    simp [hi]
  rw [← h2, h3] at h
  simp only [BitVec.getLsbD_zero, Bool.false_eq_true, false_or] at h
  exact Bool.eq_iff_iff.2 h
/-- A set's text. -/
def txt (s : BitVec 256) : List UInt8 := txtL (spn s)
theorem cls_set (s : BitVec 256) (R : List UInt8) (n o k : Nat) (ho : o ≠ 40) : cls unq (n + 2) o (txt s ++ R) k = .inr (s, k + (txt s).length) := by
  unfold txt
  rw [cls_txt _ (spn_ok s) R n o k ho, unl_spn]
theorem txt_inj {s t : BitVec 256} (h : txt s = txt t) : s = t := by
  have h1 := cls_set s [] 0 0 0 (by omega)
  have h2 := cls_set t [] 0 0 0 (by omega)
  rw [h, h2] at h1
  simp at h1
  exact h1.symm
end Go.Proofs.YtnecafokkhhhhaaGreatDoor
