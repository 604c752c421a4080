/- Lexemes of a text, by plain lists; runes and bytes. -/
import Derived.Test.YtnecafokkhhhhaaDoorPln
import Derived.Lib.TrimUEq
namespace Go.Proofs.YtnecafokkhhhhaaDoor
open Go Go.RowKit
/-- A lexeme: its kind, where it stands, its text, its number, its set. -/
structure Lxm where
  kind : Nat
  a : Nat
  e : Nat
  t : List UInt8
  n : Nat
  S : BitVec 256
def blnk (c : Nat) : Bool := c == 32 || (c == 9 || c == 13)
def ltr (c : Nat) : Bool := (decide (97 ≤ c) && decide (c ≤ 122)) || ((decide (65 ≤ c) && decide (c ≤ 90)) || c == 95)
def dgt (c : Nat) : Bool := decide (48 ≤ c) && decide (c ≤ 57)
def nmc (c : Nat) : Bool := ltr c || dgt c
def rmk (c : Nat) : Bool := !(c == 10)
/-- How many bytes from the beginning on are of a kind. -/
def run (P : Nat → Bool) (l : List UInt8) : Nat := (l.takeWhile fun c => P c.toNat).length
/-- The number of a row of digits. -/
def num (l : List UInt8) : Nat := l.foldl (fun n c => min (10 * n + (c.toNat - 48)) 1073741824) 0
def sDot : BitVec 256 := ~~~(ofl [10])
def mrks : List Nat := [40, 41, 124, 42, 43, 63, 123, 125, 44, 47, 60, 62]
/-- How many bytes the mark has that c begins. -/
def mkl (c : Nat) (t : List UInt8) : Nat := if c = 61 then (if Lib.hasPrefix t [62] = true then 2 else 1) else if c ∈ mrks then 1 else 0
/-- What c begins at place k, where l is left: a lexeme (of kind 0: what is passed), or which error (true: too deep), and where. -/
def oneR (c : Nat) (l : List UInt8) (k : Nat) : Sum (Bool × Nat) Lxm :=
  if blnk c = true then .inr ⟨0, k, k + 1, [], 0, 0#256⟩ else
  if c = 35 then .inr ⟨0, k, k + run rmk l, [], 0, 0#256⟩ else
  if c = 10 then .inr ⟨6, k, k + 1, [], 0, 0#256⟩ else
  if ltr c = true then (if 32 < run nmc l then .inl (false, k) else .inr ⟨1, k, k + run nmc l, l.take (run nmc l), 0, 0#256⟩) else
  if dgt c = true then .inr ⟨2, k, k + run dgt l, [], num (l.take (run dgt l)), 0#256⟩ else
  if c = 34 then (match quq unq l k with
    | .inl q => .inl (false, q)
    | .inr (A, m) => .inr ⟨3, k, m, A, 0, 0#256⟩) else
  if c = 91 then (match cls unq (l.length + 1) 0 l k with
    | .inl x => .inl x
    | .inr (S, m) => .inr ⟨4, k, m, [], 0, S⟩) else
  if c = 46 then .inr ⟨4, k, k + 1, [], 0, sDot⟩ else
  if mkl c (l.drop 1) = 0 then .inl (false, k) else .inr ⟨5, k, k + mkl c (l.drop 1), l.take (mkl c (l.drop 1)), 0, 0#256⟩
def one : List UInt8 → Nat → Sum (Bool × Nat) Lxm
  | [], k => .inl (false, k)
  | c :: t, k => oneR c.toNat (c :: t) k
theorem oneR_high (c : Nat) (l : List UInt8) (k : Nat) (h : 128 ≤ c) : oneR c l k = .inl (false, k) := by
  have h1 : blnk c = false := by unfold blnk; simp; omega
  have h2 : ltr c = false := by unfold ltr; simp; omega
  have h3 : dgt c = false := by unfold dgt; simp; omega
  have h4 : mkl c (l.drop 1) = 0 := by
    unfold mkl
    rw [if_neg (by omega), if_neg (by unfold mrks; simp; omega)]
  unfold oneR
  rw [h1, h2, h3, if_neg (by simp), if_neg (by omega), if_neg (by omega), if_neg (by simp), if_neg (by simp), if_neg (by omega), if_neg (by omega), if_neg (by omega), if_pos h4]
/-- The lexemes of what is left at place k; the refusal behind them. -/
def lxs : Nat → List UInt8 → Nat → List Lxm × Option (Bool × Nat)
  | 0, _, _ => ([], none)
  | n + 1, l, k => if l = [] then ([], none) else match one l k with
    | .inl x => ([], some x)
    | .inr y => if y.kind = 0 then lxs n (l.drop (y.e - k)) y.e else (y :: (lxs n (l.drop (y.e - k)) y.e).1, (lxs n (l.drop (y.e - k)) y.e).2)
theorem num_step (l : List UInt8) (p : Nat) (C : UInt8) (h : l[p]? = some C) : num (l.take (p + 1)) = min (10 * num (l.take p) + (C.toNat - 48)) 1073741824 := by
  unfold num
  rw [List.take_add_one, h]
  simp
theorem num_le (l : List UInt8) (p : Nat) : num (l.take p) ≤ 1073741824 := by
  induction p with
  | zero => simp [num]
  | succ p ih =>
    cases h : l[p]? with
    | none =>
      rw [List.take_add_one, h]
      simpa using ih
    | some C => rw [num_step l p C h]; exact Nat.min_le_right _ _
theorem lx_unc (s : ByteArray) (j : Nat) (h : j < s.size) : ∃ C, rest s j = C :: rest s (j + 1) := by
  unfold rest
  exact ⟨_, List.drop_eq_getElem_cons (by rw [Array.length_toList]; exact h)⟩
theorem lx_end (s : ByteArray) (j : Nat) (h : s.size ≤ j) : rest s j = [] := by
  unfold rest
  exact List.drop_eq_nil_of_le (by rw [Array.length_toList]; exact h)
theorem ext_lst (s : ByteArray) (i n : Nat) : (s.extract i (i + n)).data.toList = (rest s i).take n := by
  rw [ByteArray.data_extract, Array.toList_extract, List.extract_eq_take_drop]
  unfold rest
  rw [show i + n - i = n by omega]
theorem mem_tw (p : UInt8 → Bool) : ∀ (l : List UInt8) (C : UInt8), C ∈ l.takeWhile p → p C = true
  | [], C, h => by simp at h
  | D :: l, C, h => by
    cases hD : p D with
    | false => rw [List.takeWhile_cons_of_neg (by rw [hD]; simp)] at h; simp at h
    | true =>
      rw [List.takeWhile_cons_of_pos hD] at h
      rcases List.mem_cons.1 h with rfl | h
      · exact hD
      · exact mem_tw p l C h
theorem run_le (P : Nat → Bool) (l : List UInt8) : run P l ≤ l.length := (List.takeWhile_prefix _).length_le
theorem run_take (P : Nat → Bool) (l : List UInt8) : l.take (run P l) = l.takeWhile fun c => P c.toNat := by
  unfold run
  exact (List.prefix_iff_eq_take.1 (List.takeWhile_prefix _)).symm
theorem run_cons_true (P : Nat → Bool) (c : UInt8) (t : List UInt8) (h : P c.toNat = true) : run P (c :: t) = run P t + 1 := by
  unfold run
  rw [List.takeWhile_cons_of_pos (p := fun c : UInt8 => P c.toNat) h, List.length_cons]
theorem run_cons_false (P : Nat → Bool) (c : UInt8) (t : List UInt8) (h : P c.toNat = false) : run P (c :: t) = 0 := by
  unfold run
  rw [List.takeWhile_cons_of_neg (p := fun c : UInt8 => P c.toNat) (by rw [h]; simp)]
  rfl
theorem run_all (P : Nat → Bool) (A t : List UInt8) (h : ∀ c ∈ A, P c.toNat = true) : run P (A ++ t) = A.length + run P t := by
  induction A with
  | nil => simp
  | cons c A ih =>
    rw [List.cons_append, run_cons_true P c _ (h c (by simp)), ih (fun d hd => h d (by simp [hd])), List.length_cons]
    omega
/-- What one step through the runes does: an ASCII byte is its own rune; else all its bytes are beyond ASCII. -/
theorem dec_low (s : ByteArray) (p : Nat) (C : UInt8) (t : List UInt8) (h : rest s p = C :: t) (hC : C.toNat < 128) : Utf8.decode s p = (C.toNat, 1) := by
  rw [Lib.decode_N]
  have e : s.data.toList.getD p 0 = C := by
    have : (s.data.toList.drop p).getD 0 0 = C := by
      have : rest s p = s.data.toList.drop p := rfl
      rw [← this, h]; rfl
    rw [Lib.getD_dropU, Nat.add_zero] at this
    exact this
  rw [e]
  unfold Lib.decodeN
  rw [if_pos hC]
theorem decN_high (n b0 b1 b2 b3 : Nat) (h : 128 ≤ b0) : 128 ≤ (Lib.decodeN n b0 b1 b2 b3).1 ∧ 1 ≤ (Lib.decodeN n b0 b1 b2 b3).2 ∧ (Lib.decodeN n b0 b1 b2 b3).2 ≤ 4 ∧ (1 < (Lib.decodeN n b0 b1 b2 b3).2 → 1 < n ∧ 128 ≤ b1) ∧ (2 < (Lib.decodeN n b0 b1 b2 b3).2 → 2 < n ∧ 128 ≤ b2) ∧ (3 < (Lib.decodeN n b0 b1 b2 b3).2 → 3 < n ∧ 128 ≤ b3) := by
  unfold Lib.decodeN
  repeat' split
  all_goals (simp only; omega)
theorem dec_high (s : ByteArray) (p : Nat) (C : UInt8) (t : List UInt8) (h : rest s p = C :: t) (hC : 128 ≤ C.toNat) :
    128 ≤ (Utf8.decode s p).1 ∧ 1 ≤ (Utf8.decode s p).2 ∧ (Utf8.decode s p).2 ≤ (rest s p).length ∧ ∀ c ∈ (rest s p).take (Utf8.decode s p).2, 128 ≤ c.toNat := by
  have e0 : rest s p = s.data.toList.drop p := rfl
  have hg : ∀ k, s.data.toList.getD (p + k) 0 = (rest s p).getD k 0 := fun k => by rw [e0, Lib.getD_dropU]
  have hl : s.data.toList.length - p = (rest s p).length := by rw [e0, List.length_drop]
  have h0 : (rest s p).getD 0 0 = C := by rw [h]; rfl
  have hd := Lib.decode_N s p
  rw [hl, show p = p + 0 from rfl, hg 0, Nat.add_zero, hg 1, hg 2, hg 3, h0] at hd
  have hb := decN_high (rest s p).length C.toNat ((rest s p).getD 1 0).toNat ((rest s p).getD 2 0).toNat ((rest s p).getD 3 0).toNat hC
  rw [← hd] at hb
  clear hd
  generalize (Utf8.decode s p).2 = w at hb ⊢
  obtain ⟨b1, b2, b3, b4, b5, b6⟩ := hb
  have hpos : 0 < (rest s p).length := by rw [h]; simp
  refine ⟨b1, b2, by omega, fun c hc => ?_⟩
  obtain ⟨j, hj, rfl⟩ := List.mem_iff_getElem.1 hc
  rw [List.length_take] at hj
  rw [List.getElem_take]
  have hj2 : j < (rest s p).length := by omega
  have e : (rest s p)[j] = (rest s p).getD j 0 := by simp [List.getD_eq_getElem?_getD, hj2]
  rw [e]
  have hc : j = 0 ∨ j = 1 ∨ j = 2 ∨ j = 3 := by omega
  rcases hc with rfl | rfl | rfl | rfl
  · rw [h0]; exact hC
  · exact (b4 (by omega)).2
  · exact (b5 (by omega)).2
  · exact (b6 (by omega)).2
end Go.Proofs.YtnecafokkhhhhaaDoor
