/- Two lists of lexemes held against each other. -/
import Derived.Test.YtnecafokkhhhhaaGreatDoorPln
import Derived.Lib.TrimUEq
import Derived.Test.YtnecafokkhhhhaaGreatDoorBnd
import Derived.Test.YtnecafokkhhhhaaGreatDoorMA
import Derived.Test.YtnecafokkhhhhaaGreatDoorKls
import Derived.Lib.OthersKept
import Derived.Deep.LoopGhost
import Derived.WalkSmall
import Derived.Test.YtnecafokkhhhhaaGreatDoorShelf
import Derived.Test.YtnecafokkhhhhaaGreatDoorPrs
import Derived.Test.YtnecafokkhhhhaaGreatDoorQuo
import Derived.Deep.CutBlock
import Derived.Deep.CutRange
import Derived.Laws.StructEq
import Derived.BigQuiet
namespace Go.Proofs.YtnecafokkhhhhaaGreatDoor
open Go Go.RowKit
/-- A lexeme: its kind, where it stands, its text, its number, its set. -/
structure Lxm where
  kind : Nat
  a : Nat
  e : Nat
  t : List UInt8
  n : Nat
  S : BitVec 256
def blnk (c : Nat) : Bool := c == 32 || (c == 9 || c == 13)
def ltr (c : Nat) : Bool := (decide (97 ≤ c) && decide (c ≤ 122)) || ((decide (65 ≤ c) && decide (c ≤ 90)) || c == 95)
def dgt (c : Nat) : Bool := decide (48 ≤ c) && decide (c ≤ 57)
def nmc (c : Nat) : Bool := ltr c || dgt c
def rmk (c : Nat) : Bool := !(c == 10)
/-- How many bytes from the beginning on are of a kind. -/
def run (P : Nat → Bool) (l : List UInt8) : Nat := (l.takeWhile fun c => P c.toNat).length
/-- The number of a row of digits. -/
def num (l : List UInt8) : Nat := l.foldl (fun n c => min (10 * n + (c.toNat - 48)) 1073741824) 0
def sDot : BitVec 256 := ~~~(ofl [10])
def mrks : List Nat := [40, 41, 124, 42, 43, 63, 123, 125, 44, 47, 60, 62]
/-- How many bytes the mark has that c begins. -/
def mkl (c : Nat) (t : List UInt8) : Nat := if c = 61 then (if Lib.hasPrefix t [62] = true then 2 else 1) else if c ∈ mrks then 1 else 0
/-- What c begins at place k, where l is left: a lexeme (of kind 0: what is passed), or which error (true: too deep), and where. -/
def oneR (c : Nat) (l : List UInt8) (k : Nat) : Sum (Bool × Nat) Lxm :=
  if blnk c = true then .inr ⟨0, k, k + 1, [], 0, 0#256⟩ else
  if c = 35 then .inr ⟨0, k, k + run rmk l, [], 0, 0#256⟩ else
  if c = 10 then .inr ⟨6, k, k + 1, [], 0, 0#256⟩ else
  if ltr c = true then (if 32 < run nmc l then .inl (false, k) else .inr ⟨1, k, k + run nmc l, l.take (run nmc l), 0, 0#256⟩) else
  if dgt c = true then .inr ⟨2, k, k + run dgt l, [], num (l.take (run dgt l)), 0#256⟩ else
  if c = 34 then (match quq unq l k with
    | .inl q => .inl (false, q)
    | .inr (A, m) => .inr ⟨3, k, m, A, 0, 0#256⟩) else
  if c = 91 then (match cls unq (l.length + 1) 0 l k with
    | .inl x => .inl x
    | .inr (S, m) => .inr ⟨4, k, m, [], 0, S⟩) else
  if c = 46 then .inr ⟨4, k, k + 1, [], 0, sDot⟩ else
  if mkl c (l.drop 1) = 0 then .inl (false, k) else .inr ⟨5, k, k + mkl c (l.drop 1), l.take (mkl c (l.drop 1)), 0, 0#256⟩
def one : List UInt8 → Nat → Sum (Bool × Nat) Lxm
  | [], k => .inl (false, k)
  | c :: t, k => oneR c.toNat (c :: t) k
theorem oneR_high (c : Nat) (l : List UInt8) (k : Nat) (h : 128 ≤ c) : oneR c l k = .inl (false, k) := by
  have h1 : blnk c = false := by unfold blnk; simp; omega
  have h2 : ltr c = false := by unfold ltr; simp; omega
  have h3 : dgt c = false := by unfold dgt; simp; omega
  have h4 : mkl c (l.drop 1) = 0 := by
    unfold mkl
    rw [if_neg (by omega), if_neg (by unfold mrks; simp; omega)]
  unfold oneR
  rw [h1, h2, h3, if_neg (by simp), if_neg (by omega), if_neg (by omega), if_neg (by simp), if_neg (by simp), if_neg (by omega), if_neg (by omega), if_neg (by omega), if_pos h4]
/-- The lexemes of what is left at place k; the refusal behind them. -/
def lxs : Nat → List UInt8 → Nat → List Lxm × Option (Bool × Nat)
  | 0, _, _ => ([], none)
  | n + 1, l, k => if l = [] then ([], none) else match one l k with
    | .inl x => ([], some x)
    | .inr y => if y.kind = 0 then lxs n (l.drop (y.e - k)) y.e else (y :: (lxs n (l.drop (y.e - k)) y.e).1, (lxs n (l.drop (y.e - k)) y.e).2)
theorem num_step (l : List UInt8) (p : Nat) (C : UInt8) (h : l[p]? = some C) : num (l.take (p + 1)) = min (10 * num (l.take p) + (C.toNat - 48)) 1073741824 := by
  unfold num
  rw [List.take_add_one, h]
  simp
theorem num_le (l : List UInt8) (p : Nat) : num (l.take p) ≤ 1073741824 := by
  induction p with
  | zero => simp [num]
  | succ p ih =>
    cases h : l[p]? with
    | none =>
      rw [List.take_add_one, h]
      simpa using ih
    | some C => rw [num_step l p C h]; exact Nat.min_le_right _ _
theorem lx_unc (s : ByteArray) (j : Nat) (h : j < s.size) : ∃ C, rest s j = C :: rest s (j + 1) := by
  unfold rest
  exact ⟨_, List.drop_eq_getElem_cons (by rw [Array.length_toList]; exact h)⟩
theorem lx_end (s : ByteArray) (j : Nat) (h : s.size ≤ j) : rest s j = [] := by
  unfold rest
  exact List.drop_eq_nil_of_le (by rw [Array.length_toList]; exact h)
theorem ext_lst (s : ByteArray) (i n : Nat) : (s.extract i (i + n)).data.toList = (rest s i).take n := by
  rw [ByteArray.data_extract, Array.toList_extract, List.extract_eq_take_drop]
  unfold rest
  rw [show i + n - i = n by omega]
theorem mem_tw (p : UInt8 → Bool) : ∀ (l : List UInt8) (C : UInt8), C ∈ l.takeWhile p → p C = true
  | [], C, h => by simp at h
  | D :: l, C, h => by
    cases hD : p D with
    | false => rw [List.takeWhile_cons_of_neg (by rw [hD]; simp)] at h; simp at h
    | true =>
      rw [List.takeWhile_cons_of_pos hD] at h
      rcases List.mem_cons.1 h with rfl | h
      · exact hD
      · exact mem_tw p l C h
theorem run_le (P : Nat → Bool) (l : List UInt8) : run P l ≤ l.length := (List.takeWhile_prefix _).length_le
theorem run_take (P : Nat → Bool) (l : List UInt8) : l.take (run P l) = l.takeWhile fun c => P c.toNat := by
  unfold run
  exact (List.prefix_iff_eq_take.1 (List.takeWhile_prefix _)).symm
theorem run_cons_true (P : Nat → Bool) (c : UInt8) (t : List UInt8) (h : P c.toNat = true) : run P (c :: t) = run P t + 1 := by
  unfold run
  rw [List.takeWhile_cons_of_pos (p := fun c : UInt8 => P c.toNat) h, List.length_cons]
theorem run_cons_false (P : Nat → Bool) (c : UInt8) (t : List UInt8) (h : P c.toNat = false) : run P (c :: t) = 0 := by
  unfold run
  rw [List.takeWhile_cons_of_neg (p := fun c : UInt8 => P c.toNat) (by rw [h]; simp)]
  rfl
theorem run_all (P : Nat → Bool) (A t : List UInt8) (h : ∀ c ∈ A, P c.toNat = true) : run P (A ++ t) = A.length + run P t := by
  induction A with
  | nil => simp
  | cons c A ih =>
    rw [List.cons_append, run_cons_true P c _ (h c (by simp)), ih (fun d hd => h d (by simp [hd])), List.length_cons]
    omega
/-- What one step through the runes does: an ASCII byte is its own rune; else all its bytes are beyond ASCII. -/
theorem dec_low (s : ByteArray) (p : Nat) (C : UInt8) (t : List UInt8) (h : rest s p = C :: t) (hC : C.toNat < 128) : Utf8.decode s p = (C.toNat, 1) := by
  rw [Lib.decode_N]
  have e : s.data.toList.getD p 0 = C := by
    have : (s.data.toList.drop p).getD 0 0 = C := by
      have : rest s p = s.data.toList.drop p := rfl
      rw [← this, h]; rfl
    rw [Lib.getD_dropU, Nat.add_zero] at this
    exact this
  rw [e]
  unfold Lib.decodeN
  rw [if_pos hC]
theorem decN_high (n b0 b1 b2 b3 : Nat) (h : 128 ≤ b0) : 128 ≤ (Lib.decodeN n b0 b1 b2 b3).1 ∧ 1 ≤ (Lib.decodeN n b0 b1 b2 b3).2 ∧ (Lib.decodeN n b0 b1 b2 b3).2 ≤ 4 ∧ (1 < (Lib.decodeN n b0 b1 b2 b3).2 → 1 < n ∧ 128 ≤ b1) ∧ (2 < (Lib.decodeN n b0 b1 b2 b3).2 → 2 < n ∧ 128 ≤ b2) ∧ (3 < (Lib.decodeN n b0 b1 b2 b3).2 → 3 < n ∧ 128 ≤ b3) := by
  unfold Lib.decodeN
  repeat' split
  all_goals (simp only; omega)
theorem dec_high (s : ByteArray) (p : Nat) (C : UInt8) (t : List UInt8) (h : rest s p = C :: t) (hC : 128 ≤ C.toNat) :
    128 ≤ (Utf8.decode s p).1 ∧ 1 ≤ (Utf8.decode s p).2 ∧ (Utf8.decode s p).2 ≤ (rest s p).length ∧ ∀ c ∈ (rest s p).take (Utf8.decode s p).2, 128 ≤ c.toNat := by
  have e0 : rest s p = s.data.toList.drop p := rfl
  have hg : ∀ k, s.data.toList.getD (p + k) 0 = (rest s p).getD k 0 := fun k => by rw [e0, Lib.getD_dropU]
  have hl : s.data.toList.length - p = (rest s p).length := by rw [e0, List.length_drop]
  have h0 : (rest s p).getD 0 0 = C := by rw [h]; rfl
  have hd := Lib.decode_N s p
  rw [hl, show p = p + 0 from rfl, hg 0, Nat.add_zero, hg 1, hg 2, hg 3, h0] at hd
  have hb := decN_high (rest s p).length C.toNat ((rest s p).getD 1 0).toNat ((rest s p).getD 2 0).toNat ((rest s p).getD 3 0).toNat hC
  rw [← hd] at hb
  clear hd
  generalize (Utf8.decode s p).2 = w at hb ⊢
  obtain ⟨b1, b2, b3, b4, b5, b6⟩ := hb
  have hpos : 0 < (rest s p).length := by rw [h]; simp
  refine ⟨b1, b2, by omega, fun c hc => ?_⟩
  obtain ⟨j, hj, rfl⟩ := List.mem_iff_getElem.1 hc
  rw [List.length_take] at hj
  rw [List.getElem_take]
  have hj2 : j < (rest s p).length := by omega
  have e : (rest s p)[j] = (rest s p).getD j 0 := by simp [List.getD_eq_getElem?_getD, hj2]
  rw [e]
  have hc : j = 0 ∨ j = 1 ∨ j = 2 ∨ j = 3 := by omega
  rcases hc with rfl | rfl | rfl | rfl
  · rw [h0]; exact hC
  · exact (b4 (by omega)).2
  · exact (b5 (by omega)).2
  · exact (b6 (by omega)).2
end Go.Proofs.YtnecafokkhhhhaaGreatDoor
namespace Go.Proofs.YtnecafokkhhhhaaGreatDoor
open Go Go.RowKit
/-- Byte n - 1, or byte n, is ASCII; or n is the end. -/
def Cut (l : List UInt8) (n : Nat) : Prop := n = l.length ∨ (∃ c, l[n]? = some c ∧ c.toNat < 128) ∨ (∃ c, l[n - 1]? = some c ∧ c.toNat < 128)
theorem pfx_get {l p : List UInt8} (h : Lib.hasPrefix l p = true) (j : Nat) (hj : j < p.length) : l[j]? = p[j]? := by
  obtain ⟨t, rfl⟩ := List.isPrefixOf_iff_prefix.1 h
  rw [List.getElem?_append_left hj]
theorem quo_last : ∀ (n : Nat) (l A : List UInt8) (k : Nat) (B : List UInt8) (m : Nat), quo unq n l A k = .inr (B, m) → k < m ∧ l[m - 1 - k]? = some 34
  | 0, _, _, _, _, _, h => by simp [quo] at h
  | n + 1, l, A, k, B, m, h => by
    unfold quo at h
    split at h
    · rename_i hp
      cases h
      exact ⟨by omega, by rw [show k + 1 - 1 - k = 0 by omega]; exact pfx_get hp 0 (by decide)⟩
    · split at h
      · cases h
      · rename_i b d hc
        obtain ⟨h1, h2⟩ := quo_last n (l.drop d) _ (k + d) B m h
        rw [List.getElem?_drop] at h2
        exact ⟨by omega, by rw [← h2]; congr 1; omega⟩
theorem quq_last {l : List UInt8} {k : Nat} {A : List UInt8} {m : Nat} (h : quq unq l k = .inr (A, m)) : k < m ∧ l[m - 1 - k]? = some 34 := by
  unfold quq at h
  split at h
  · obtain ⟨h1, h2⟩ := quo_last _ _ _ _ _ _ h
    rw [List.getElem?_drop] at h2
    exact ⟨by omega, by rw [← h2]; congr 1; omega⟩
  · cases h
theorem cls_last : ∀ n, (∀ o l k S m, cls unq n o l k = .inr (S, m) → k < m ∧ l[m - 1 - k]? = some 93) ∧ (∀ o T l k S m, tls unq n o T l k = .inr (S, m) → k < m ∧ l[m - 1 - k]? = some 93)
  | 0 => ⟨fun o l k S m h => by simp [cls] at h, fun o T l k S m h => by simp [tls] at h⟩
  | n + 1 => by
    obtain ⟨h1, h2⟩ := cls_last n
    have hl := cls_len n
    refine ⟨fun o l k S m h => ?_, fun o T l k S m h => ?_⟩
    · unfold cls at h
      split at h
      · cases h
      · split at h
        · cases h
        · split at h
          · split at h
            · cases h
            · rename_i T d _
              obtain ⟨a, b⟩ := h2 _ _ _ _ _ _ h
              rw [List.getElem?_drop] at b
              exact ⟨by omega, by rw [← b]; congr 1; omega⟩
          · split at h
            · cases h
            · rename_i T d _
              obtain ⟨a, b⟩ := h2 _ _ _ _ _ _ h
              rw [List.getElem?_drop] at b
              exact ⟨by omega, by rw [← b]; congr 1; omega⟩
    · unfold tls at h
      split at h
      · rename_i hp
        cases h
        exact ⟨by omega, by rw [show k + 1 - 1 - k = 0 by omega]; exact pfx_get hp 0 (by decide)⟩
      · split at h
        · split at h
          · cases h
          · rename_i U d hc
            have h0 := ((hl.1 o (l.drop 2) (k + 2)).2 U d hc).1
            obtain ⟨a, b⟩ := h2 _ _ _ _ _ _ h
            rw [List.getElem?_drop] at b
            exact ⟨by omega, by rw [← b]; congr 1; omega⟩
        · split at h
          · split at h
            · cases h
            · rename_i U d hc
              have h0 := ((hl.1 o (l.drop 2) (k + 2)).2 U d hc).1
              obtain ⟨a, b⟩ := h2 _ _ _ _ _ _ h
              rw [List.getElem?_drop] at b
              exact ⟨by omega, by rw [← b]; congr 1; omega⟩
          · cases h
theorem run_end (P : Nat → Bool) : ∀ l : List UInt8, run P l = l.length ∨ ∃ c, l[run P l]? = some c ∧ P c.toNat = false
  | [] => .inl rfl
  | c :: t => by
    cases h : P c.toNat with
    | false => rw [run_cons_false P c t h]; exact .inr ⟨c, rfl, h⟩
    | true =>
      rw [run_cons_true P c t h]
      rcases run_end P t with e | ⟨d, hd, hp⟩
      · left; simp [e]
      · right; exact ⟨d, by simpa using hd, hp⟩
theorem run_last (P : Nat → Bool) : ∀ l : List UInt8, 0 < run P l → ∃ c, l[run P l - 1]? = some c ∧ P c.toNat = true
  | [], h => by simp [run] at h
  | c :: t, h => by
    cases hc : P c.toNat with
    | false => rw [run_cons_false P c t hc] at h; omega
    | true =>
      rw [run_cons_true P c t hc]
      cases hr : run P t with
      | zero => exact ⟨c, by simp, hc⟩
      | succ j =>
        obtain ⟨d, hd, hp⟩ := run_last P t (by omega)
        rw [hr] at hd
        exact ⟨d, by simpa using hd, hp⟩
theorem run_pos (P : Nat → Bool) (c : UInt8) (t : List UInt8) (h : P c.toNat = true) : 0 < run P (c :: t) := by rw [run_cons_true P c t h]; omega
/-- What is told of a lexeme that 'one' reads. -/
structure OneOk (l : List UInt8) (k : Nat) (y : Lxm) : Prop where
  a : y.a = k
  lo : k < y.e
  hi : y.e ≤ k + l.length
  cut : Cut l (y.e - k)
  kd : y.kind ≤ 6
  n : y.n ≤ 1073741824
theorem nmc_low (c : Nat) (h : nmc c = true) : c < 128 := by unfold nmc ltr dgt at h; simp at h; omega
theorem dgt_low (c : Nat) (h : dgt c = true) : c < 128 := by unfold dgt at h; simp at h; omega
theorem one_ok (c : UInt8) (t : List UInt8) (k : Nat) (y : Lxm) (h : oneR c.toNat (c :: t) k = .inr y) : OneOk (c :: t) k y ∧ c.toNat < 128 := by
  have hc : c.toNat < 128 := by
    by_cases hc : 128 ≤ c.toNat
    · rw [oneR_high _ _ _ hc] at h; cases h
    · omega
  refine ⟨?_, hc⟩
  have h1 : ∀ n, n = 1 → Cut (c :: t) n := fun n e => by subst e; exact .inr (.inr ⟨c, rfl, hc⟩)
  unfold oneR at h
  split at h
  · cases h; exact ⟨rfl, by simp, by simp, h1 _ (by simp), by simp, by simp⟩
  · split at h
    · rename_i h35
      cases h
      have hp : 0 < run rmk (c :: t) := run_pos _ _ _ (by unfold rmk; rw [h35]; rfl)
      refine ⟨rfl, by simp only; omega, by have := run_le rmk (c :: t); simp only; omega, ?_, by simp, by simp⟩
      simp only [Nat.add_sub_cancel_left]
      rcases run_end rmk (c :: t) with e | ⟨d, hd, hq⟩
      · exact .inl e
      · exact .inr (.inl ⟨d, hd, by unfold rmk at hq; simp at hq; omega⟩)
    · split at h
      · cases h; exact ⟨rfl, by simp, by simp, h1 _ (by simp), by simp, by simp⟩
      · split at h
        · rename_i hl
          split at h
          · cases h
          · cases h
            have hp : 0 < run nmc (c :: t) := run_pos _ _ _ (by unfold nmc; rw [hl]; rfl)
            refine ⟨rfl, by simp only; omega, by have := run_le nmc (c :: t); simp only; omega, ?_, by simp, by simp⟩
            simp only [Nat.add_sub_cancel_left]
            obtain ⟨d, hd, hq⟩ := run_last nmc _ hp
            exact .inr (.inr ⟨d, hd, nmc_low _ hq⟩)
        · split at h
          · rename_i hd
            cases h
            have hp : 0 < run dgt (c :: t) := run_pos _ _ _ hd
            refine ⟨rfl, by simp only; omega, by have := run_le dgt (c :: t); simp only; omega, ?_, by simp, ?_⟩
            · simp only [Nat.add_sub_cancel_left]
              obtain ⟨d, hd, hq⟩ := run_last dgt _ hp
              exact .inr (.inr ⟨d, hd, dgt_low _ hq⟩)
            · exact num_le _ _
          · split at h
            · split at h
              · cases h
              · rename_i A m hq
                cases h
                have h2 := quq_last hq
                have h3 := ((quq_len (c :: t) k).2 A m hq)
                refine ⟨rfl, h2.1, h3.2, .inr (.inr ⟨34, ?_, by decide⟩), by simp, by simp⟩
                simp only
                rw [← h2.2]; congr 1; omega
            · split at h
              · split at h
                · cases h
                · rename_i S m hq
                  cases h
                  have h2 := (cls_last _).1 _ _ _ _ _ hq
                  have h3 := ((cls_len _).1 _ _ _).2 S m hq
                  refine ⟨rfl, h2.1, h3.2, .inr (.inr ⟨93, ?_, by decide⟩), by simp, by simp⟩
                  simp only
                  rw [← h2.2]; congr 1; omega
              · split at h
                · cases h; exact ⟨rfl, by simp, by simp, h1 _ (by simp), by simp, by simp⟩
                · split at h
                  · cases h
                  · rename_i hm
                    cases h
                    simp only [List.drop_succ_cons, List.drop_zero] at hm ⊢
                    have hm2 : mkl c.toNat t = 1 ∨ (mkl c.toNat t = 2 ∧ Lib.hasPrefix t [62] = true) := by
                      unfold mkl at hm ⊢
                      split
                      · split
                        · rename_i hq; exact .inr ⟨rfl, hq⟩
                        · exact .inl rfl
                      · split
                        · exact .inl rfl
                        · rename_i a b
                          rw [if_neg a, if_neg b] at hm
                          exact absurd rfl hm
                    rcases hm2 with e | ⟨e, hq⟩
                    · rw [e]
                      exact ⟨rfl, by simp, by simp, h1 _ (by simp), by simp, by simp⟩
                    · rw [e]
                      have hl := pfx_len hq
                      simp at hl
                      refine ⟨rfl, by simp, by simp; omega, .inr (.inr ⟨62, ?_, by decide⟩), by simp, by simp⟩
                      have := pfx_get hq 0 (by decide)
                      simpa using this
end Go.Proofs.YtnecafokkhhhhaaGreatDoor
namespace Go.Proofs.YtnecafokkhhhhaaGreatDoor
open Go Go.RowKit
theorem blank_1 (c : Nat) (h : c = 32) (w : World) : Calls Tryz.prog 23 #[.int .i32 (c : Int)] w fun e w' => e = .returned (.bool true) ∧ Ext w w' := by
  have d1 : ((c : Int) == 32) = true := by simp; omega
  go_enter Tryz.func23, Tryz.ntmps23
  go_wp2
  go_ret
  exact ⟨rfl, by go_grown⟩
theorem blank_2 (c : Nat) (h : c = 9) (w : World) : Calls Tryz.prog 23 #[.int .i32 (c : Int)] w fun e w' => e = .returned (.bool true) ∧ Ext w w' := by
  have d1 : ((c : Int) == 32) = false := (by simp; omega); have d2 : ((c : Int) == 9) = true := (by simp; omega)
  go_enter Tryz.func23, Tryz.ntmps23
  go_wp2
  go_ret
  exact ⟨rfl, by go_grown⟩
theorem blank_3 (c : Nat) (h : c = 13) (w : World) : Calls Tryz.prog 23 #[.int .i32 (c : Int)] w fun e w' => e = .returned (.bool true) ∧ Ext w w' := by
  have d1 : ((c : Int) == 32) = false := (by simp; omega); have d2 : ((c : Int) == 9) = false := (by simp; omega); have d3 : ((c : Int) == 13) = true := (by simp; omega)
  go_enter Tryz.func23, Tryz.ntmps23
  go_wp2
  go_ret
  exact ⟨rfl, by go_grown⟩
theorem blank_4 (c : Nat) (h : c ≠ 32 ∧ c ≠ 9 ∧ c ≠ 13) (w : World) : Calls Tryz.prog 23 #[.int .i32 (c : Int)] w fun e w' => e = .returned (.bool false) ∧ Ext w w' := by
  have d1 : ((c : Int) == 32) = false := (by simp; omega); have d2 : ((c : Int) == 9) = false := (by simp; omega); have d3 : ((c : Int) == 13) = false := (by simp; omega)
  go_enter Tryz.func23, Tryz.ntmps23
  go_wp2
  go_ret
  exact ⟨rfl, by go_grown⟩
theorem blank_any (c : Nat) (b : Bool) (hb : blnk c = b) (w : World) : Calls Tryz.prog 23 #[.int .i32 (c : Int)] w fun e w' => e = .returned (.bool b) ∧ Ext w w' := by
  subst hb
  by_cases h1 : c = 32
  · rw [show blnk c = true by simp [blnk, h1]]; exact blank_1 c h1 w
  by_cases h2 : c = 9
  · rw [show blnk c = true by simp [blnk, h2]]; exact blank_2 c h2 w
  by_cases h3 : c = 13
  · rw [show blnk c = true by simp [blnk, h3]]; exact blank_3 c h3 w
  rw [show blnk c = false by simp [blnk, h1, h2, h3]]; exact blank_4 c ⟨h1, h2, h3⟩ w
theorem remark_1 (c : Nat) (h : c = 10) (w : World) : Calls Tryz.prog 25 #[.int .i32 (c : Int)] w fun e w' => e = .returned (.bool false) ∧ Ext w w' := by
  have d1 : ((c : Int) != 10) = false := by simp; omega
  go_enter Tryz.func25, Tryz.ntmps25
  go_wp2
  go_ret
  exact ⟨rfl, by go_grown⟩
theorem remark_2 (c : Nat) (h : c ≠ 10) (w : World) : Calls Tryz.prog 25 #[.int .i32 (c : Int)] w fun e w' => e = .returned (.bool true) ∧ Ext w w' := by
  have d1 : ((c : Int) != 10) = true := by simp; omega
  go_enter Tryz.func25, Tryz.ntmps25
  go_wp2
  go_ret
  exact ⟨rfl, by go_grown⟩
theorem remark_any (c : Nat) (b : Bool) (hb : rmk c = b) (w : World) : Calls Tryz.prog 25 #[.int .i32 (c : Int)] w fun e w' => e = .returned (.bool b) ∧ Ext w w' := by
  subst hb
  by_cases h1 : c = 10
  · rw [show rmk c = false by simp [rmk, h1]]; exact remark_1 c h1 w
  rw [show rmk c = true by simp [rmk, h1]]; exact remark_2 c h1 w
theorem digit_1 (c : Nat) (h : 48 ≤ c ∧ c ≤ 57) (w : World) : Calls Tryz.prog 28 #[.int .i32 (c : Int)] w fun e w' => e = .returned (.bool true) ∧ Ext w w' := by
  have d1 : decide ((48 : Int) ≤ (c : Int)) = true := (by simp; omega); have d2 : decide ((c : Int) ≤ 57) = true := (by simp; omega)
  go_enter Tryz.func28, Tryz.ntmps28
  go_wp2
  go_ret
  exact ⟨rfl, by go_grown⟩
theorem digit_2 (c : Nat) (h : 58 ≤ c) (w : World) : Calls Tryz.prog 28 #[.int .i32 (c : Int)] w fun e w' => e = .returned (.bool false) ∧ Ext w w' := by
  have d1 : decide ((48 : Int) ≤ (c : Int)) = true := (by simp; omega); have d2 : decide ((c : Int) ≤ 57) = false := (by simp; omega)
  go_enter Tryz.func28, Tryz.ntmps28
  go_wp2
  go_ret
  exact ⟨rfl, by go_grown⟩
theorem digit_3 (c : Nat) (h : c < 48) (w : World) : Calls Tryz.prog 28 #[.int .i32 (c : Int)] w fun e w' => e = .returned (.bool false) ∧ Ext w w' := by
  have d1 : decide ((48 : Int) ≤ (c : Int)) = false := (by simp; omega)
  go_enter Tryz.func28, Tryz.ntmps28
  go_wp2
  go_ret
  exact ⟨rfl, by go_grown⟩
theorem digit_any (c : Nat) (b : Bool) (hb : dgt c = b) (w : World) : Calls Tryz.prog 28 #[.int .i32 (c : Int)] w fun e w' => e = .returned (.bool b) ∧ Ext w w' := by
  subst hb
  by_cases h1 : c < 48
  · rw [show dgt c = false by unfold dgt; simp; omega]; exact digit_3 c h1 w
  by_cases h2 : c ≤ 57
  · rw [show dgt c = true by unfold dgt; simp; omega]; exact digit_1 c ⟨by omega, h2⟩ w
  rw [show dgt c = false by unfold dgt; simp; omega]; exact digit_2 c (by omega) w
theorem begins_1 (c : Nat) (h : 97 ≤ c ∧ c ≤ 122) (w : World) : Calls Tryz.prog 26 #[.int .i32 (c : Int)] w fun e w' => e = .returned (.bool true) ∧ Ext w w' := by
  have d1 : decide ((97 : Int) ≤ (c : Int)) = true := (by simp; omega); have d2 : decide ((c : Int) ≤ 122) = true := (by simp; omega)
  go_enter Tryz.func26, Tryz.ntmps26
  go_wp2
  go_ret
  exact ⟨rfl, by go_grown⟩
theorem begins_2 (c : Nat) (h : 123 ≤ c) (w : World) : Calls Tryz.prog 26 #[.int .i32 (c : Int)] w fun e w' => e = .returned (.bool false) ∧ Ext w w' := by
  have d1 : decide ((97 : Int) ≤ (c : Int)) = true := (by simp; omega); have d2 : decide ((c : Int) ≤ 122) = false := (by simp; omega); have d3 : decide ((65 : Int) ≤ (c : Int)) = true := (by simp; omega); have d4 : decide ((c : Int) ≤ 90) = false := (by simp; omega); have d5 : ((c : Int) == 95) = false := (by simp; omega)
  go_enter Tryz.func26, Tryz.ntmps26
  go_wp2
  go_ret
  exact ⟨rfl, by go_grown⟩
theorem begins_3 (c : Nat) (h : c = 95) (w : World) : Calls Tryz.prog 26 #[.int .i32 (c : Int)] w fun e w' => e = .returned (.bool true) ∧ Ext w w' := by
  have d1 : decide ((97 : Int) ≤ (c : Int)) = false := (by simp; omega); have d3 : decide ((65 : Int) ≤ (c : Int)) = true := (by simp; omega); have d4 : decide ((c : Int) ≤ 90) = false := (by simp; omega); have d5 : ((c : Int) == 95) = true := (by simp; omega)
  go_enter Tryz.func26, Tryz.ntmps26
  go_wp2
  go_ret
  exact ⟨rfl, by go_grown⟩
theorem begins_4 (c : Nat) (h : 91 ≤ c ∧ c ≤ 96 ∧ c ≠ 95) (w : World) : Calls Tryz.prog 26 #[.int .i32 (c : Int)] w fun e w' => e = .returned (.bool false) ∧ Ext w w' := by
  have d1 : decide ((97 : Int) ≤ (c : Int)) = false := (by simp; omega); have d3 : decide ((65 : Int) ≤ (c : Int)) = true := (by simp; omega); have d4 : decide ((c : Int) ≤ 90) = false := (by simp; omega); have d5 : ((c : Int) == 95) = false := (by simp; omega)
  go_enter Tryz.func26, Tryz.ntmps26
  go_wp2
  go_ret
  exact ⟨rfl, by go_grown⟩
theorem begins_5 (c : Nat) (h : 65 ≤ c ∧ c ≤ 90) (w : World) : Calls Tryz.prog 26 #[.int .i32 (c : Int)] w fun e w' => e = .returned (.bool true) ∧ Ext w w' := by
  have d1 : decide ((97 : Int) ≤ (c : Int)) = false := (by simp; omega); have d3 : decide ((65 : Int) ≤ (c : Int)) = true := (by simp; omega); have d4 : decide ((c : Int) ≤ 90) = true := (by simp; omega)
  go_enter Tryz.func26, Tryz.ntmps26
  go_wp2
  go_ret
  exact ⟨rfl, by go_grown⟩
theorem begins_6 (c : Nat) (h : c < 65) (w : World) : Calls Tryz.prog 26 #[.int .i32 (c : Int)] w fun e w' => e = .returned (.bool false) ∧ Ext w w' := by
  have d1 : decide ((97 : Int) ≤ (c : Int)) = false := (by simp; omega); have d3 : decide ((65 : Int) ≤ (c : Int)) = false := (by simp; omega); have d5 : ((c : Int) == 95) = false := (by simp; omega)
  go_enter Tryz.func26, Tryz.ntmps26
  go_wp2
  go_ret
  exact ⟨rfl, by go_grown⟩
theorem begins_any (c : Nat) (b : Bool) (hb : ltr c = b) (w : World) : Calls Tryz.prog 26 #[.int .i32 (c : Int)] w fun e w' => e = .returned (.bool b) ∧ Ext w w' := by
  subst hb
  by_cases h1 : c < 65
  · rw [show ltr c = false by unfold ltr; simp; omega]; exact begins_6 c h1 w
  by_cases h2 : c ≤ 90
  · rw [show ltr c = true by unfold ltr; simp; omega]; exact begins_5 c ⟨by omega, h2⟩ w
  by_cases h3 : c = 95
  · rw [show ltr c = true by unfold ltr; simp; omega]; exact begins_3 c h3 w
  by_cases h4 : c ≤ 96
  · rw [show ltr c = false by unfold ltr; simp; omega]; exact begins_4 c ⟨by omega, h4, h3⟩ w
  by_cases h5 : c ≤ 122
  · rw [show ltr c = true by unfold ltr; simp; omega]; exact begins_1 c ⟨by omega, h5⟩ w
  rw [show ltr c = false by unfold ltr; simp; omega]; exact begins_2 c (by omega) w
theorem inname_any (c : Nat) (b : Bool) (hb : nmc c = b) (w : World) : Calls Tryz.prog 46 #[.int .i32 (c : Int)] w fun e w' => e = .returned (.bool b) ∧ Ext w w' := by
  have hl := fun w => begins_any c (ltr c) rfl w
  have hd := fun w => digit_any c (dgt c) rfl w
  subst hb
  unfold nmc
  cases h1 : ltr c with
  | true =>
    rw [h1] at hl
    clear h1
    go_enter Tryz.func46, Tryz.ntmps46
    go_wp2_with fail
    refine (hl _).mono ?_
    rintro e w1 ⟨rfl, hE⟩
    go_wp2
    go_ret
    exact ⟨rfl, hE⟩
  | false =>
    rw [h1] at hl
    clear h1
    generalize dgt c = q at hd ⊢
    go_enter Tryz.func46, Tryz.ntmps46
    go_wp2_with fail
    refine (hl _).mono ?_
    rintro e w1 ⟨rfl, hE⟩
    go_wp2_with fail
    refine (hd _).mono ?_
    rintro e w2 ⟨rfl, hE2⟩
    have hx := bel_call hE hE2
    cases q
    · go_wp2
      go_ret
      exact ⟨rfl, hx⟩
    · go_wp2
      go_ret
      exact ⟨rfl, hx⟩
end Go.Proofs.YtnecafokkhhhhaaGreatDoor
namespace Go.Proofs.YtnecafokkhhhhaaGreatDoor
open Go Go.RowKit
theorem take_run (P : Nat → Bool) (v : Bool) (hv : ∀ c, 128 ≤ c → P c = v) (s : ByteArray) (p : Nat) (C : UInt8) (t : List UInt8) (h : rest s p = C :: t) :
    P (Utf8.decode s p).1 = P C.toNat ∧ (P C.toNat = true → run P (rest s p) = (Utf8.decode s p).2 + run P (rest s (p + (Utf8.decode s p).2))) := by
  by_cases hC : C.toNat < 128
  · rw [dec_low s p C t h hC]
    refine ⟨rfl, fun hp => ?_⟩
    rw [h, run_cons_true P C t hp, rest_drop, h]
    simp only [List.drop_succ_cons, List.drop_zero]
    omega
  · obtain ⟨h1, h2, h3, h4⟩ := dec_high s p C t h (by omega)
    refine ⟨(hv _ h1).trans (hv _ (by omega)).symm, fun hp => ?_⟩
    have hvt : v = true := by rw [← hv C.toNat (by omega)]; exact hp
    have e : rest s p = (rest s p).take (Utf8.decode s p).2 ++ rest s (p + (Utf8.decode s p).2) := by rw [rest_drop, List.take_append_drop]
    conv => lhs; rw [e]
    rw [run_all P _ _ (fun c hc => (hv _ (h4 c hc)).trans hvt), List.length_take, Nat.min_eq_left h3]
theorem iterPos_of {w : World} {k : Nat} {s : ByteArray} {p : Nat} (h : w.heap[k]? = some (.stringIter s p)) : w.iterPos k = p := by simp [World.iterPos, h]
theorem iter_ext {w w' : World} {k : Nat} {s : ByteArray} {p : Nat} (h : w.heap[k]? = some (.stringIter s p)) (hx : Ext w w') : w'.heap[k]? = some (.stringIter s p) := by
  rw [hx.block k ((Array.getElem?_eq_some_iff.1 h).1)]; exact h
theorem width_pos (s : ByteArray) (p : Nat) (h : p < s.size) : 1 ≤ (Utf8.decode s p).2 := by
  obtain ⟨C, hC⟩ := lx_unc s p h
  by_cases hc : C.toNat < 128
  · rw [dec_low s p C _ hC hc]; exact Nat.le_refl _
  · exact (dec_high s p C _ hC (by omega)).2.1
theorem nmc_high (c : Nat) (h : 128 ≤ c) : nmc c = false := by unfold nmc ltr dgt; simp; omega
theorem dgt_high (c : Nat) (h : 128 ≤ c) : dgt c = false := by unfold dgt; simp; omega
theorem rmk_high (c : Nat) (h : 128 ≤ c) : rmk c = true := by unfold rmk; simp; omega
set_option maxHeartbeats 1000000 in
set_option maxRecDepth 20000 in
theorem run_name (s : ByteArray) (n : Nat) (hn : run nmc (rest s 0) = n) (w : World) :
    Calls Tryz.prog 24 #[.string s, .func (Fn.func 46) #[] #[]] w fun e w' => e = .returned (.int .i64 (n : Int)) ∧ Ext w w' := by
  have hv : ∀ c, 128 ≤ c → nmc c = false := nmc_high
  have HF := Lib.hid inname_any
  have HN := Lib.hid hn
  have hit0 := World.iter_heap w s 0
  have hx0 : Ext w (w.iter s 0) := (Below.refl _ _).alloc (Nat.le_refl _) _
  have HI := Lib.hid (And.intro hit0 hx0)
  clear hn hit0 hx0
  go_enter Tryz.func24, Tryz.ntmps24
  go_wp2_with fail
  go_loopw [] (fun wr => ∃ p, p ≤ s.size ∧ Hid (wr.heap[w.heap.size]? = some (.stringIter s p)) ∧ Hid (Ext w wr) ∧ Hid (p + run nmc (rest s p) = n)) (fun wr => s.size - wr.iterPos w.heap.size)
  case atStart => exact ⟨0, Nat.zero_le _, Lib.hid HI.out.1, Lib.hid HI.out.2, Lib.hid (by rw [Nat.zero_add]; exact HN.out)⟩
  case round =>
    clear HI HN
    obtain ⟨p, hp, hit, hE, hR⟩ := hrel
    have hpos0 := Lib.hid (iterPos_of hit.out)
    by_cases hps : p < s.size
    · have hnx : ∀ ty, (Instr.next (.pointer (some ⟨w.heap.size, 0, none⟩)) true ty).run Tryz.prog wr = _ := fun ty => Lib.run_next_any_at wr w.heap.size s p ty hit.out hps
      obtain ⟨C, hC⟩ := lx_unc s p hps
      obtain ⟨ht1, ht2⟩ := take_run nmc false hv s p C _ hC
      have hwd := width_pos s p hps
      have hwl : p + (Utf8.decode s p).2 ≤ s.size := by
        by_cases hc : C.toNat < 128
        · rw [dec_low s p C _ hC hc]; exact hps
        · have := (dec_high s p C _ hC (by omega)).2.2.1
          have := rest_len hp
          omega
      have hit2 := Lib.hid (Lib.iterAt_heap wr w.heap.size s p (p + (Utf8.decode s p).2) hit.out)
      have hE2 := Lib.hid (Lib.below_iterAt hE.out (k := w.heap.size) (Nat.le_refl _) s (p + (Utf8.decode s p).2))
      generalize (Utf8.decode s p).2 = d at hnx hit2 hE2 hwd hwl ht2
      generalize (Utf8.decode s p).1 = rn at hnx ht1
      obtain ⟨W1, hW1⟩ : ∃ W1, W1 = wr.iterAt w.heap.size s (p + d) := ⟨_, rfl⟩
      rw [← hW1] at hnx hit2 hE2
      obtain ⟨b, hb⟩ : ∃ b, nmc rn = b := ⟨_, rfl⟩
      have HC := Lib.hid (HF.out rn b hb)
      have HT := Lib.hid (And.intro (ht1.symm.trans hb) ht2)
      have HC0 := Lib.hid hC
      clear hW1 hC ht1 ht2 hb
      go_wp2_with fail
      refine (HC.out _).mono ?_
      rintro e w3 ⟨rfl, hE3⟩
      have hit3 := iter_ext hit2.out hE3
      have E3 := Lib.hid (bel_call hE2.out hE3)
      have I3 := Lib.hid hit3
      have HP3 := Lib.hid (iterPos_of hit3)
      clear hE3 hit3 hit2 hE2 hit hE HC hnx
      cases b with
      | true =>
        have hr2 : p + d + run nmc (rest s (p + d)) = n := by
          have := HT.out.2 HT.out.1
          have := hR.out
          omega
        have HR2 := Lib.hid hr2
        clear hr2
        go_wp2_with fail
        go_roundw
        case rel => exact ⟨p + d, hwl, I3, E3, HR2⟩
        case measure => rw [HP3.out, hpos0.out]; omega
      | false =>
        have hpn : p = n := by
          have h1 := hR.out
          rw [HC0.out, run_cons_false nmc C _ HT.out.1] at h1
          exact h1
        go_wp2_with fail
        go_ret
        exact ⟨rfl, E3.out⟩
    · have hnx : ∀ ty, (Instr.next (.pointer (some ⟨w.heap.size, 0, none⟩)) true ty).run Tryz.prog wr = _ := fun ty => Lib.run_next_end_at wr w.heap.size s p ty hit.out hps
      have hpn : s.size = n := by
        have h1 := hR.out
        rw [lx_end s p (by omega)] at h1
        have : run nmc [] = 0 := rfl
        omega
      have HPN := Lib.hid hpn
      clear hpn
      go_wp2_with fail
      go_ret
      exact ⟨by rw [← HPN.out]; rfl, hE.out⟩
set_option maxHeartbeats 1000000 in
set_option maxRecDepth 20000 in
theorem run_digit (s : ByteArray) (n : Nat) (hn : run dgt (rest s 0) = n) (w : World) :
    Calls Tryz.prog 24 #[.string s, .func (Fn.func 28) #[] #[]] w fun e w' => e = .returned (.int .i64 (n : Int)) ∧ Ext w w' := by
  have hv : ∀ c, 128 ≤ c → dgt c = false := dgt_high
  have HF := Lib.hid digit_any
  have HN := Lib.hid hn
  have hit0 := World.iter_heap w s 0
  have hx0 : Ext w (w.iter s 0) := (Below.refl _ _).alloc (Nat.le_refl _) _
  have HI := Lib.hid (And.intro hit0 hx0)
  clear hn hit0 hx0
  go_enter Tryz.func24, Tryz.ntmps24
  go_wp2_with fail
  go_loopw [] (fun wr => ∃ p, p ≤ s.size ∧ Hid (wr.heap[w.heap.size]? = some (.stringIter s p)) ∧ Hid (Ext w wr) ∧ Hid (p + run dgt (rest s p) = n)) (fun wr => s.size - wr.iterPos w.heap.size)
  case atStart => exact ⟨0, Nat.zero_le _, Lib.hid HI.out.1, Lib.hid HI.out.2, Lib.hid (by rw [Nat.zero_add]; exact HN.out)⟩
  case round =>
    clear HI HN
    obtain ⟨p, hp, hit, hE, hR⟩ := hrel
    have hpos0 := Lib.hid (iterPos_of hit.out)
    by_cases hps : p < s.size
    · have hnx : ∀ ty, (Instr.next (.pointer (some ⟨w.heap.size, 0, none⟩)) true ty).run Tryz.prog wr = _ := fun ty => Lib.run_next_any_at wr w.heap.size s p ty hit.out hps
      obtain ⟨C, hC⟩ := lx_unc s p hps
      obtain ⟨ht1, ht2⟩ := take_run dgt false hv s p C _ hC
      have hwd := width_pos s p hps
      have hwl : p + (Utf8.decode s p).2 ≤ s.size := by
        by_cases hc : C.toNat < 128
        · rw [dec_low s p C _ hC hc]; exact hps
        · have := (dec_high s p C _ hC (by omega)).2.2.1
          have := rest_len hp
          omega
      have hit2 := Lib.hid (Lib.iterAt_heap wr w.heap.size s p (p + (Utf8.decode s p).2) hit.out)
      have hE2 := Lib.hid (Lib.below_iterAt hE.out (k := w.heap.size) (Nat.le_refl _) s (p + (Utf8.decode s p).2))
      generalize (Utf8.decode s p).2 = d at hnx hit2 hE2 hwd hwl ht2
      generalize (Utf8.decode s p).1 = rn at hnx ht1
      obtain ⟨W1, hW1⟩ : ∃ W1, W1 = wr.iterAt w.heap.size s (p + d) := ⟨_, rfl⟩
      rw [← hW1] at hnx hit2 hE2
      obtain ⟨b, hb⟩ : ∃ b, dgt rn = b := ⟨_, rfl⟩
      have HC := Lib.hid (HF.out rn b hb)
      have HT := Lib.hid (And.intro (ht1.symm.trans hb) ht2)
      have HC0 := Lib.hid hC
      clear hW1 hC ht1 ht2 hb
      go_wp2_with fail
      refine (HC.out _).mono ?_
      rintro e w3 ⟨rfl, hE3⟩
      have hit3 := iter_ext hit2.out hE3
      have E3 := Lib.hid (bel_call hE2.out hE3)
      have I3 := Lib.hid hit3
      have HP3 := Lib.hid (iterPos_of hit3)
      clear hE3 hit3 hit2 hE2 hit hE HC hnx
      cases b with
      | true =>
        have hr2 : p + d + run dgt (rest s (p + d)) = n := by
          have := HT.out.2 HT.out.1
          have := hR.out
          omega
        have HR2 := Lib.hid hr2
        clear hr2
        go_wp2_with fail
        go_roundw
        case rel => exact ⟨p + d, hwl, I3, E3, HR2⟩
        case measure => rw [HP3.out, hpos0.out]; omega
      | false =>
        have hpn : p = n := by
          have h1 := hR.out
          rw [HC0.out, run_cons_false dgt C _ HT.out.1] at h1
          exact h1
        go_wp2_with fail
        go_ret
        exact ⟨rfl, E3.out⟩
    · have hnx : ∀ ty, (Instr.next (.pointer (some ⟨w.heap.size, 0, none⟩)) true ty).run Tryz.prog wr = _ := fun ty => Lib.run_next_end_at wr w.heap.size s p ty hit.out hps
      have hpn : s.size = n := by
        have h1 := hR.out
        rw [lx_end s p (by omega)] at h1
        have : run dgt [] = 0 := rfl
        omega
      have HPN := Lib.hid hpn
      clear hpn
      go_wp2_with fail
      go_ret
      exact ⟨by rw [← HPN.out]; rfl, hE.out⟩
set_option maxHeartbeats 1000000 in
set_option maxRecDepth 20000 in
theorem run_remark (s : ByteArray) (n : Nat) (hn : run rmk (rest s 0) = n) (w : World) :
    Calls Tryz.prog 24 #[.string s, .func (Fn.func 25) #[] #[]] w fun e w' => e = .returned (.int .i64 (n : Int)) ∧ Ext w w' := by
  have hv : ∀ c, 128 ≤ c → rmk c = true := rmk_high
  have HF := Lib.hid remark_any
  have HN := Lib.hid hn
  have hit0 := World.iter_heap w s 0
  have hx0 : Ext w (w.iter s 0) := (Below.refl _ _).alloc (Nat.le_refl _) _
  have HI := Lib.hid (And.intro hit0 hx0)
  clear hn hit0 hx0
  go_enter Tryz.func24, Tryz.ntmps24
  go_wp2_with fail
  go_loopw [] (fun wr => ∃ p, p ≤ s.size ∧ Hid (wr.heap[w.heap.size]? = some (.stringIter s p)) ∧ Hid (Ext w wr) ∧ Hid (p + run rmk (rest s p) = n)) (fun wr => s.size - wr.iterPos w.heap.size)
  case atStart => exact ⟨0, Nat.zero_le _, Lib.hid HI.out.1, Lib.hid HI.out.2, Lib.hid (by rw [Nat.zero_add]; exact HN.out)⟩
  case round =>
    clear HI HN
    obtain ⟨p, hp, hit, hE, hR⟩ := hrel
    have hpos0 := Lib.hid (iterPos_of hit.out)
    by_cases hps : p < s.size
    · have hnx : ∀ ty, (Instr.next (.pointer (some ⟨w.heap.size, 0, none⟩)) true ty).run Tryz.prog wr = _ := fun ty => Lib.run_next_any_at wr w.heap.size s p ty hit.out hps
      obtain ⟨C, hC⟩ := lx_unc s p hps
      obtain ⟨ht1, ht2⟩ := take_run rmk true hv s p C _ hC
      have hwd := width_pos s p hps
      have hwl : p + (Utf8.decode s p).2 ≤ s.size := by
        by_cases hc : C.toNat < 128
        · rw [dec_low s p C _ hC hc]; exact hps
        · have := (dec_high s p C _ hC (by omega)).2.2.1
          have := rest_len hp
          omega
      have hit2 := Lib.hid (Lib.iterAt_heap wr w.heap.size s p (p + (Utf8.decode s p).2) hit.out)
      have hE2 := Lib.hid (Lib.below_iterAt hE.out (k := w.heap.size) (Nat.le_refl _) s (p + (Utf8.decode s p).2))
      generalize (Utf8.decode s p).2 = d at hnx hit2 hE2 hwd hwl ht2
      generalize (Utf8.decode s p).1 = rn at hnx ht1
      obtain ⟨W1, hW1⟩ : ∃ W1, W1 = wr.iterAt w.heap.size s (p + d) := ⟨_, rfl⟩
      rw [← hW1] at hnx hit2 hE2
      obtain ⟨b, hb⟩ : ∃ b, rmk rn = b := ⟨_, rfl⟩
      have HC := Lib.hid (HF.out rn b hb)
      have HT := Lib.hid (And.intro (ht1.symm.trans hb) ht2)
      have HC0 := Lib.hid hC
      clear hW1 hC ht1 ht2 hb
      go_wp2_with fail
      refine (HC.out _).mono ?_
      rintro e w3 ⟨rfl, hE3⟩
      have hit3 := iter_ext hit2.out hE3
      have E3 := Lib.hid (bel_call hE2.out hE3)
      have I3 := Lib.hid hit3
      have HP3 := Lib.hid (iterPos_of hit3)
      clear hE3 hit3 hit2 hE2 hit hE HC hnx
      cases b with
      | true =>
        have hr2 : p + d + run rmk (rest s (p + d)) = n := by
          have := HT.out.2 HT.out.1
          have := hR.out
          omega
        have HR2 := Lib.hid hr2
        clear hr2
        go_wp2_with fail
        go_roundw
        case rel => exact ⟨p + d, hwl, I3, E3, HR2⟩
        case measure => rw [HP3.out, hpos0.out]; omega
      | false =>
        have hpn : p = n := by
          have h1 := hR.out
          rw [HC0.out, run_cons_false rmk C _ HT.out.1] at h1
          exact h1
        go_wp2_with fail
        go_ret
        exact ⟨rfl, E3.out⟩
    · have hnx : ∀ ty, (Instr.next (.pointer (some ⟨w.heap.size, 0, none⟩)) true ty).run Tryz.prog wr = _ := fun ty => Lib.run_next_end_at wr w.heap.size s p ty hit.out hps
      have hpn : s.size = n := by
        have h1 := hR.out
        rw [lx_end s p (by omega)] at h1
        have : run rmk [] = 0 := rfl
        omega
      have HPN := Lib.hid hpn
      clear hpn
      go_wp2_with fail
      go_ret
      exact ⟨by rw [← HPN.out]; rfl, hE.out⟩
end Go.Proofs.YtnecafokkhhhhaaGreatDoor
namespace Go.Proofs.YtnecafokkhhhhaaGreatDoor
open Go Go.RowKit
theorem mk_40 (T : ByteArray) (w : World) : Calls Tryz.prog 52 #[.int .i32 40, .string T] w fun e w' => e = .returned (.int .i64 1) ∧ Ext w w' := by
  go_enter Tryz.func52, Tryz.ntmps52
  go_wp2
  go_ret
  exact ⟨rfl, by go_grown⟩
theorem mk_41 (T : ByteArray) (w : World) : Calls Tryz.prog 52 #[.int .i32 41, .string T] w fun e w' => e = .returned (.int .i64 1) ∧ Ext w w' := by
  go_enter Tryz.func52, Tryz.ntmps52
  go_wp2
  go_ret
  exact ⟨rfl, by go_grown⟩
theorem mk_124 (T : ByteArray) (w : World) : Calls Tryz.prog 52 #[.int .i32 124, .string T] w fun e w' => e = .returned (.int .i64 1) ∧ Ext w w' := by
  go_enter Tryz.func52, Tryz.ntmps52
  go_wp2
  go_ret
  exact ⟨rfl, by go_grown⟩
theorem mk_42 (T : ByteArray) (w : World) : Calls Tryz.prog 52 #[.int .i32 42, .string T] w fun e w' => e = .returned (.int .i64 1) ∧ Ext w w' := by
  go_enter Tryz.func52, Tryz.ntmps52
  go_wp2
  go_ret
  exact ⟨rfl, by go_grown⟩
theorem mk_43 (T : ByteArray) (w : World) : Calls Tryz.prog 52 #[.int .i32 43, .string T] w fun e w' => e = .returned (.int .i64 1) ∧ Ext w w' := by
  go_enter Tryz.func52, Tryz.ntmps52
  go_wp2
  go_ret
  exact ⟨rfl, by go_grown⟩
theorem mk_63 (T : ByteArray) (w : World) : Calls Tryz.prog 52 #[.int .i32 63, .string T] w fun e w' => e = .returned (.int .i64 1) ∧ Ext w w' := by
  go_enter Tryz.func52, Tryz.ntmps52
  go_wp2
  go_ret
  exact ⟨rfl, by go_grown⟩
theorem mk_123 (T : ByteArray) (w : World) : Calls Tryz.prog 52 #[.int .i32 123, .string T] w fun e w' => e = .returned (.int .i64 1) ∧ Ext w w' := by
  go_enter Tryz.func52, Tryz.ntmps52
  go_wp2
  go_ret
  exact ⟨rfl, by go_grown⟩
theorem mk_125 (T : ByteArray) (w : World) : Calls Tryz.prog 52 #[.int .i32 125, .string T] w fun e w' => e = .returned (.int .i64 1) ∧ Ext w w' := by
  go_enter Tryz.func52, Tryz.ntmps52
  go_wp2
  go_ret
  exact ⟨rfl, by go_grown⟩
theorem mk_44 (T : ByteArray) (w : World) : Calls Tryz.prog 52 #[.int .i32 44, .string T] w fun e w' => e = .returned (.int .i64 1) ∧ Ext w w' := by
  go_enter Tryz.func52, Tryz.ntmps52
  go_wp2
  go_ret
  exact ⟨rfl, by go_grown⟩
theorem mk_47 (T : ByteArray) (w : World) : Calls Tryz.prog 52 #[.int .i32 47, .string T] w fun e w' => e = .returned (.int .i64 1) ∧ Ext w w' := by
  go_enter Tryz.func52, Tryz.ntmps52
  go_wp2
  go_ret
  exact ⟨rfl, by go_grown⟩
theorem mk_60 (T : ByteArray) (w : World) : Calls Tryz.prog 52 #[.int .i32 60, .string T] w fun e w' => e = .returned (.int .i64 1) ∧ Ext w w' := by
  go_enter Tryz.func52, Tryz.ntmps52
  go_wp2
  go_ret
  exact ⟨rfl, by go_grown⟩
theorem mk_62 (T : ByteArray) (w : World) : Calls Tryz.prog 52 #[.int .i32 62, .string T] w fun e w' => e = .returned (.int .i64 1) ∧ Ext w w' := by
  go_enter Tryz.func52, Tryz.ntmps52
  go_wp2
  go_ret
  exact ⟨rfl, by go_grown⟩
theorem mk_eq (T : ByteArray) (q : Bool) (hq : Lib.hasPrefix T.data.toList [62] = q) (w : World) : Calls Tryz.prog 52 #[.int .i32 61, .string T] w fun e w' => e = .returned (.int .i64 (if q = true then 2 else 1)) ∧ Ext w w' := by
  cases q with
  | true =>
    go_enter Tryz.func52, Tryz.ntmps52
    go_wp2_with fail
    refine (Tryz.strings_HasPrefix _ _ _).mono ?_
    rintro e w2 ⟨rfl, rfl⟩
    have hq2 : Lib.hasPrefix T.data.toList (⟨#[62]⟩ : ByteArray).data.toList = true := hq
    go_wp2_with fail
    go_ret
    exact ⟨rfl, by go_grown⟩
  | false =>
    go_enter Tryz.func52, Tryz.ntmps52
    go_wp2_with fail
    refine (Tryz.strings_HasPrefix _ _ _).mono ?_
    rintro e w2 ⟨rfl, rfl⟩
    have hq2 : Lib.hasPrefix T.data.toList (⟨#[62]⟩ : ByteArray).data.toList = false := hq
    go_wp2_with fail
    go_ret
    exact ⟨rfl, by go_grown⟩
theorem mk_no (c : Nat) (T : ByteArray) (h : c ≠ 61 ∧ c ∉ mrks) (w : World) : Calls Tryz.prog 52 #[.int .i32 (c : Int), .string T] w fun e w' => e = .returned (.int .i64 0) ∧ Ext w w' := by
  have hm : c ≠ 40 ∧ c ≠ 41 ∧ c ≠ 124 ∧ c ≠ 42 ∧ c ≠ 43 ∧ c ≠ 63 ∧ c ≠ 123 ∧ c ≠ 125 ∧ c ≠ 44 ∧ c ≠ 47 ∧ c ≠ 60 ∧ c ≠ 62 := by simpa [mrks] using h.2
  obtain ⟨m1, m2, m3, m4, m5, m6, m7, m8, m9, m10, m11, m12⟩ := hm
  have e0 : ((c : Int) == 61) = false := by have := h.1; simp; omega
  have e1 : ((c : Int) == 40) = false := by simp; omega
  have e2 : ((c : Int) == 41) = false := by simp; omega
  have e3 : ((c : Int) == 124) = false := by simp; omega
  have e4 : ((c : Int) == 42) = false := by simp; omega
  have e5 : ((c : Int) == 43) = false := by simp; omega
  have e6 : ((c : Int) == 63) = false := by simp; omega
  have e7 : ((c : Int) == 123) = false := by simp; omega
  have e8 : ((c : Int) == 125) = false := by simp; omega
  have e9 : ((c : Int) == 44) = false := by simp; omega
  have e10 : ((c : Int) == 47) = false := by simp; omega
  have e11 : ((c : Int) == 60) = false := by simp; omega
  have e12 : ((c : Int) == 62) = false := by simp; omega
  clear h m1 m2 m3 m4 m5 m6 m7 m8 m9 m10 m11 m12
  go_enter Tryz.func52, Tryz.ntmps52
  go_wp2
  go_ret
  exact ⟨rfl, by go_grown⟩
theorem mklen_any (c : Nat) (T : ByteArray) (n : Nat) (hn : mkl c T.data.toList = n) (w : World) : Calls Tryz.prog 52 #[.int .i32 (c : Int), .string T] w fun e w' => e = .returned (.int .i64 (n : Int)) ∧ Ext w w' := by
  subst hn
  unfold mkl
  by_cases h : c = 61
  · subst h
    rw [if_pos rfl]
    have := mk_eq T _ rfl w
    cases hq : Lib.hasPrefix T.data.toList [62] <;> rw [hq] at this <;> exact this
  · rw [if_neg h]
    by_cases hm : c ∈ mrks
    · rw [if_pos hm]
      have hc : c = 40 ∨ c = 41 ∨ c = 124 ∨ c = 42 ∨ c = 43 ∨ c = 63 ∨ c = 123 ∨ c = 125 ∨ c = 44 ∨ c = 47 ∨ c = 60 ∨ c = 62 := by simpa [mrks] using hm
      rcases hc with rfl | rfl | rfl | rfl | rfl | rfl | rfl | rfl | rfl | rfl | rfl | rfl
      · exact mk_40 T w
      · exact mk_41 T w
      · exact mk_124 T w
      · exact mk_42 T w
      · exact mk_43 T w
      · exact mk_63 T w
      · exact mk_123 T w
      · exact mk_125 T w
      · exact mk_44 T w
      · exact mk_47 T w
      · exact mk_60 T w
      · exact mk_62 T w
    · rw [if_neg hm]; exact mk_no c T ⟨h, hm⟩ w
/-- A lexeme's cells. -/
abbrev lcs (kd a e : Int) (T : ByteArray) (n x0 x1 x2 x3 : Int) : Array Value := #[.int .i64 kd, .int .i64 a, .int .i64 e, .string T, .int .i64 n, .int .u64 x0, .int .u64 x1, .int .u64 x2, .int .u64 x3]
abbrev lxz : Array Value := lcs 0 0 0 ⟨#[]⟩ 0 0 0 0 0
theorem ext_set9 {w w' : World} (h : Ext w w') {b : Nat} (hb : w.heap.size ≤ b) (x0 x1 x2 x3 x4 x5 x6 x7 x8 : Value) :
    Ext w (((((((((w'.setCell ⟨b, 0, none⟩ x0).setCell ⟨b, 1, none⟩ x1).setCell ⟨b, 2, none⟩ x2).setCell ⟨b, 3, none⟩ x3).setCell ⟨b, 4, none⟩ x4).setCell ⟨b, 5, none⟩ x5).setCell ⟨b, 6, none⟩ x6).setCell ⟨b, 7, none⟩ x7).setCell ⟨b, 8, none⟩ x8) :=
  ((((((((h.setCell (p := ⟨b, 0, none⟩) hb x0).setCell (p := ⟨b, 1, none⟩) hb x1).setCell (p := ⟨b, 2, none⟩) hb x2).setCell (p := ⟨b, 3, none⟩) hb x3).setCell (p := ⟨b, 4, none⟩) hb x4).setCell (p := ⟨b, 5, none⟩) hb x5).setCell (p := ⟨b, 6, none⟩) hb x6).setCell (p := ⟨b, 7, none⟩) hb x7).setCell (p := ⟨b, 8, none⟩) hb x8
theorem clone_any (s : ByteArray) (w : World) (hlim : s.size ≤ 281474976710656) : Calls Tryz.prog 71 #[.string s] w fun e w' => e = .returned (.string s) ∧ Ext w w' := by
  have h := Tryz.stringslite_Clone s w hlim
  go_enter Tryz.func71, Tryz.ntmps71
  go_wp2_with fail
  refine h.mono ?_
  rintro e w1 ⟨rfl, hx⟩
  go_wp2
  go_ret
  exact ⟨rfl, hx⟩
set_option maxHeartbeats 1000000 in
set_option maxRecDepth 20000 in
theorem spelt_any (kd : Int) (s : ByteArray) (a n : Nat) (h : a + n ≤ s.size) (hs : s.size ≤ 4294967000) (w : World) :
    Calls Tryz.prog 48 #[.int .i64 kd, .string s, .int .i64 (a : Int), .int .i64 (n : Int)] w fun e w' => e = .returned (.agg (lcs kd a ((a : Int) + n) (s.extract a (a + n)) 0 0 0 0 0)) ∧ Ext w w' := by
  have HB := Lib.hid (Blk.new w lxz 38)
  have HE := Lib.hid (show Ext w (w.alloc (.cells lxz 38)) from by go_grown)
  have hsl1 : (a : Int) ≤ (a : Int) + (n : Int) := by omega
  have hsl2 : (a : Int) + (n : Int) ≤ (s.size : Int) := by omega
  have hslt2 : ((a : Int) + (n : Int)).toNat = a + n := by omega
  have hlim : (s.extract a (a + n)).size ≤ 281474976710656 := by rw [ByteArray.size_extract]; omega
  have HCLN := Lib.hid (fun w => clone_any (s.extract a (a + n)) w hlim)
  clear hlim
  go_enter Tryz.func48, Tryz.ntmps48
  go_wp2_with fail
  refine (HCLN.out _).mono ?_
  rintro e w1 ⟨rfl, hx⟩
  have HB1 := Lib.hid (HB.out.ext hx)
  have EZ := Lib.hid (ext_set9 (bel_call HE.out hx) (Nat.le_refl _) (.int .i64 kd) (.int .i64 (a : Int)) (.int .i64 ((a : Int) + n)) (.string (s.extract a (a + n))) (.int .i64 0) (.int .u64 0) (.int .u64 0) (.int .u64 0) (.int .u64 0))
  clear hx HB HE HCLN
  have kb := HB1.out
  have z0 := kb.cell 0
  have f0 := kb.free 0
  have z1 := kb.cell 1
  have f1 := kb.free 1
  have z2 := kb.cell 2
  have f2 := kb.free 2
  have z3 := kb.cell 3
  have f3 := kb.free 3
  have z4 := kb.cell 4
  have f4 := kb.free 4
  have z5 := kb.cell 5
  have f5 := kb.free 5
  have z6 := kb.cell 6
  have f6 := kb.free 6
  have z7 := kb.cell 7
  have f7 := kb.free 7
  have z8 := kb.cell 8
  have f8 := kb.free 8
  have hltb := kb.lt
  have kz := Lib.hid (((((((((kb.set 0 (.int .i64 kd)).set 1 (.int .i64 (a : Int))).set 2 (.int .i64 ((a : Int) + n))).set 3 (.string (s.extract a (a + n)))).set 4 (.int .i64 0)).set 5 (.int .u64 0)).set 6 (.int .u64 0)).set 7 (.int .u64 0)).set 8 (.int .u64 0))
  clear kb
  go_wp2_with fail
  have y0 := kz.out.cell 0
  have y1 := kz.out.cell 1
  have y2 := kz.out.cell 2
  have y3 := kz.out.cell 3
  have y4 := kz.out.cell 4
  have y5 := kz.out.cell 5
  have y6 := kz.out.cell 6
  have y7 := kz.out.cell 7
  have y8 := kz.out.cell 8
  refine bodyPost_ret (v := .agg (lcs kd a ((a : Int) + n) (s.extract a (a + n)) 0 0 0 0 0)) ?_ rfl ⟨rfl, EZ.out⟩
  simp [results, Tryz.results48, go_sem, y0, y1, y2, y3, y4, y5, y6, y7, y8]
end Go.Proofs.YtnecafokkhhhhaaGreatDoor
namespace Go.Proofs.YtnecafokkhhhhaaGreatDoor
open Go Go.RowKit
theorem Placed.own9 {w : World} {v : Value} {a : Addr} {n : Int} (h : Placed w v a n) {b : Nat} {i : Int} {xs : List Value} {t : TypeId} (hB : Blk w b ((.int .i64 i :: xs).toArray) t) (x0 x1 x2 x3 x4 x5 x6 x7 x8 : Value) :
    Placed (((((((((w.setCell ⟨b, 0, none⟩ x0).setCell ⟨b, 1, none⟩ x1).setCell ⟨b, 2, none⟩ x2).setCell ⟨b, 3, none⟩ x3).setCell ⟨b, 4, none⟩ x4).setCell ⟨b, 5, none⟩ x5).setCell ⟨b, 6, none⟩ x6).setCell ⟨b, 7, none⟩ x7).setCell ⟨b, 8, none⟩ x8) v a n := by
  obtain ⟨p, tp, hv, hP, hlp⟩ := h
  have hne : b ≠ p := by
    intro e
    have g0 := hP.cell 0
    have g1 := hB.cell 0
    rw [← e, g1] at g0
    simp at g0
  refine ⟨p, tp, hv, ?_, hlp⟩
  exact ((((((((hP.set_other (a := ⟨b, 0, none⟩) hne x0).set_other (a := ⟨b, 1, none⟩) hne x1).set_other (a := ⟨b, 2, none⟩) hne x2).set_other (a := ⟨b, 3, none⟩) hne x3).set_other (a := ⟨b, 4, none⟩) hne x4).set_other (a := ⟨b, 5, none⟩) hne x5).set_other (a := ⟨b, 6, none⟩) hne x6).set_other (a := ⟨b, 7, none⟩) hne x7).set_other (a := ⟨b, 8, none⟩) hne x8
theorem rest_ext (s : ByteArray) (k : Nat) : rest (s.extract k s.size) 0 = rest s k := by
  have := ext_rest s k
  unfold rest at this ⊢
  rw [this, List.drop_zero]
set_option maxHeartbeats 1000000 in
set_option maxRecDepth 20000 in
theorem lname_no (s : ByteArray) (k n : Nat) (hk : k ≤ s.size) (hn : run nmc (rest s k) = n) (h32 : 32 < n) (es ed : Addr) (w : World) (hK : Kn w es ed) :
    Calls Tryz.prog 27 #[.string s, .int .i64 (k : Int)] w fun e w' => ∃ v, e = .returned (.tuple #[.agg lxz, v]) ∧ Placed w' v es k ∧ Ext w w' := by
  have HB := Lib.hid (Blk.new w lxz 38)
  have HE := Lib.hid (show Ext w (w.alloc (.cells lxz 38)) from by go_grown)
  have HK := Lib.hid hK
  have HRN := Lib.hid (fun w => run_name (s.extract k s.size) n (by rw [rest_ext]; exact hn) w)
  have d1 : decide ((32 : Int) < (n : Int)) = true := by simp; omega
  have d1n : decide (32 < n) = true := by simp; omega
  clear hK hn
  go_enter Tryz.func27, Tryz.ntmps27
  go_wp2_with fail
  refine (HRN.out _).mono ?_
  rintro e w1 ⟨rfl, hx⟩
  have HB1 := Lib.hid (HB.out.ext hx)
  have E1 := Lib.hid (bel_call HE.out hx)
  have cs := (HK.out.ext E1.out).syn
  clear hx HB HE HRN
  go_wp2_with fail
  refine (place_new es (k : Int) _ (Nat.lt_of_lt_of_le HK.out.lo.1 E1.out.size)).mono ?_
  rintro e w2 ⟨v, rfl, hP, hx⟩
  have HB2 := Lib.hid (HB1.out.ext hx)
  have EZ := Lib.hid (ext_set9 (bel_call E1.out hx) (Nat.le_refl _) (.int .i64 0) (.int .i64 0) (.int .i64 0) (.string ⟨#[]⟩) (.int .i64 0) (.int .u64 0) (.int .u64 0) (.int .u64 0) (.int .u64 0))
  have HP := Lib.hid (hP.own9 HB2.out (.int .i64 0) (.int .i64 0) (.int .i64 0) (.string ⟨#[]⟩) (.int .i64 0) (.int .u64 0) (.int .u64 0) (.int .u64 0) (.int .u64 0))
  clear hx HB1 E1 hP cs
  have kb := HB2.out
  have z0 := kb.cell 0
  have f0 := kb.free 0
  have z1 := kb.cell 1
  have f1 := kb.free 1
  have z2 := kb.cell 2
  have f2 := kb.free 2
  have z3 := kb.cell 3
  have f3 := kb.free 3
  have z4 := kb.cell 4
  have f4 := kb.free 4
  have z5 := kb.cell 5
  have f5 := kb.free 5
  have z6 := kb.cell 6
  have f6 := kb.free 6
  have z7 := kb.cell 7
  have f7 := kb.free 7
  have z8 := kb.cell 8
  have f8 := kb.free 8
  have hltb := kb.lt
  have kz := Lib.hid (((((((((kb.set 0 (.int .i64 0)).set 1 (.int .i64 0)).set 2 (.int .i64 0)).set 3 (.string ⟨#[]⟩)).set 4 (.int .i64 0)).set 5 (.int .u64 0)).set 6 (.int .u64 0)).set 7 (.int .u64 0)).set 8 (.int .u64 0))
  clear kb
  go_wp2_with fail
  have y0 := kz.out.cell 0
  have y1 := kz.out.cell 1
  have y2 := kz.out.cell 2
  have y3 := kz.out.cell 3
  have y4 := kz.out.cell 4
  have y5 := kz.out.cell 5
  have y6 := kz.out.cell 6
  have y7 := kz.out.cell 7
  have y8 := kz.out.cell 8
  refine bodyPost_ret (v := .tuple #[.agg lxz, v]) ?_ rfl ⟨_, rfl, HP.out, EZ.out⟩
  simp [results, Tryz.results27, go_sem, y0, y1, y2, y3, y4, y5, y6, y7, y8]
set_option maxHeartbeats 1000000 in
set_option maxRecDepth 20000 in
theorem lname_ok (s : ByteArray) (k n : Nat) (hk : k ≤ s.size) (hs : s.size ≤ 4294967000) (hn : run nmc (rest s k) = n) (h32 : n ≤ 32) (w : World) :
    Calls Tryz.prog 27 #[.string s, .int .i64 (k : Int)] w fun e w' => e = .returned (.tuple #[.agg (lcs 1 k ((k : Int) + n) (s.extract k (k + n)) 0 0 0 0 0), .nilIface]) ∧ Ext w w' := by
  have HB := Lib.hid (Blk.new w lxz 38)
  have HE := Lib.hid (show Ext w (w.alloc (.cells lxz 38)) from by go_grown)
  have HRN := Lib.hid (fun w => run_name (s.extract k s.size) n (by rw [rest_ext]; exact hn) w)
  have hkn : k + n ≤ s.size := by have := run_le nmc (rest s k); have := rest_len hk; omega
  have HSP := Lib.hid (fun w => spelt_any 1 s k n hkn hs w)
  have d1 : decide ((32 : Int) < (n : Int)) = false := by simp; omega
  have d1n : decide (32 < n) = false := by simp; omega
  clear hn
  go_enter Tryz.func27, Tryz.ntmps27
  go_wp2_with fail
  refine (HRN.out _).mono ?_
  rintro e w1 ⟨rfl, hx⟩
  have HB1 := Lib.hid (HB.out.ext hx)
  have E1 := Lib.hid (bel_call HE.out hx)
  clear hx HB HE HRN
  go_wp2_with fail
  refine (HSP.out _).mono ?_
  rintro e w2 ⟨rfl, hx⟩
  have HB2 := Lib.hid (HB1.out.ext hx)
  have EZ := Lib.hid (ext_set9 (bel_call E1.out hx) (Nat.le_refl _) (.int .i64 1) (.int .i64 (k : Int)) (.int .i64 ((k : Int) + n)) (.string (s.extract k (k + n))) (.int .i64 0) (.int .u64 0) (.int .u64 0) (.int .u64 0) (.int .u64 0))
  clear hx HB1 E1 HSP
  have kb := HB2.out
  have z0 := kb.cell 0
  have f0 := kb.free 0
  have z1 := kb.cell 1
  have f1 := kb.free 1
  have z2 := kb.cell 2
  have f2 := kb.free 2
  have z3 := kb.cell 3
  have f3 := kb.free 3
  have z4 := kb.cell 4
  have f4 := kb.free 4
  have z5 := kb.cell 5
  have f5 := kb.free 5
  have z6 := kb.cell 6
  have f6 := kb.free 6
  have z7 := kb.cell 7
  have f7 := kb.free 7
  have z8 := kb.cell 8
  have f8 := kb.free 8
  have hltb := kb.lt
  have kz := Lib.hid (((((((((kb.set 0 (.int .i64 1)).set 1 (.int .i64 (k : Int))).set 2 (.int .i64 ((k : Int) + n))).set 3 (.string (s.extract k (k + n)))).set 4 (.int .i64 0)).set 5 (.int .u64 0)).set 6 (.int .u64 0)).set 7 (.int .u64 0)).set 8 (.int .u64 0))
  clear kb
  go_wp2_with fail
  have y0 := kz.out.cell 0
  have y1 := kz.out.cell 1
  have y2 := kz.out.cell 2
  have y3 := kz.out.cell 3
  have y4 := kz.out.cell 4
  have y5 := kz.out.cell 5
  have y6 := kz.out.cell 6
  have y7 := kz.out.cell 7
  have y8 := kz.out.cell 8
  refine bodyPost_ret (v := .tuple #[.agg (lcs 1 k ((k : Int) + n) (s.extract k (k + n)) 0 0 0 0 0), .nilIface]) ?_ rfl ⟨rfl, EZ.out⟩
  simp [results, Tryz.results27, go_sem, y0, y1, y2, y3, y4, y5, y6, y7, y8]
set_option maxHeartbeats 1000000 in
set_option maxRecDepth 20000 in
theorem lmark_no (c : Nat) (s : ByteArray) (k : Nat) (hk : k < s.size) (hs : s.size ≤ 4294967000) (hn : mkl c ((rest s k).drop 1) = 0) (es ed : Addr) (w : World) (hK : Kn w es ed) :
    Calls Tryz.prog 32 #[.string s, .int .i64 (k : Int), .int .i32 (c : Int)] w fun e w' => ∃ v, e = .returned (.tuple #[.agg lxz, v]) ∧ Placed w' v es k ∧ Ext w w' := by
  have HB := Lib.hid (Blk.new w lxz 38)
  have HE := Lib.hid (show Ext w (w.alloc (.cells lxz 38)) from by go_grown)
  have HK := Lib.hid hK
  have HMK := Lib.hid (fun w => mklen_any c (s.extract (k + 1) s.size) 0 (by rw [ext_rest, rest_drop]; exact hn) w)
  have hsl0 : (0 : Int) ≤ (k : Int) + 1 := by omega
  have hsl1 : (k : Int) + 1 ≤ (s.size : Int) := by omega
  have hslt : ((k : Int) + 1).toNat = k + 1 := by omega
  clear hK hn
  go_enter Tryz.func32, Tryz.ntmps32
  go_wp2_with fail
  refine (HMK.out _).mono ?_
  rintro e w1 ⟨rfl, hx⟩
  have HB1 := Lib.hid (HB.out.ext hx)
  have E1 := Lib.hid (bel_call HE.out hx)
  have cs := (HK.out.ext E1.out).syn
  clear hx HB HE HMK hslt hsl0 hsl1
  go_wp2_with fail
  refine (place_new es (k : Int) _ (Nat.lt_of_lt_of_le HK.out.lo.1 E1.out.size)).mono ?_
  rintro e w2 ⟨v, rfl, hP, hx⟩
  have HB2 := Lib.hid (HB1.out.ext hx)
  have EZ := Lib.hid (ext_set9 (bel_call E1.out hx) (Nat.le_refl _) (.int .i64 0) (.int .i64 0) (.int .i64 0) (.string ⟨#[]⟩) (.int .i64 0) (.int .u64 0) (.int .u64 0) (.int .u64 0) (.int .u64 0))
  have HP := Lib.hid (hP.own9 HB2.out (.int .i64 0) (.int .i64 0) (.int .i64 0) (.string ⟨#[]⟩) (.int .i64 0) (.int .u64 0) (.int .u64 0) (.int .u64 0) (.int .u64 0))
  clear hx HB1 E1 hP cs
  have kb := HB2.out
  have z0 := kb.cell 0
  have f0 := kb.free 0
  have z1 := kb.cell 1
  have f1 := kb.free 1
  have z2 := kb.cell 2
  have f2 := kb.free 2
  have z3 := kb.cell 3
  have f3 := kb.free 3
  have z4 := kb.cell 4
  have f4 := kb.free 4
  have z5 := kb.cell 5
  have f5 := kb.free 5
  have z6 := kb.cell 6
  have f6 := kb.free 6
  have z7 := kb.cell 7
  have f7 := kb.free 7
  have z8 := kb.cell 8
  have f8 := kb.free 8
  have hltb := kb.lt
  have kz := Lib.hid (((((((((kb.set 0 (.int .i64 0)).set 1 (.int .i64 0)).set 2 (.int .i64 0)).set 3 (.string ⟨#[]⟩)).set 4 (.int .i64 0)).set 5 (.int .u64 0)).set 6 (.int .u64 0)).set 7 (.int .u64 0)).set 8 (.int .u64 0))
  clear kb
  go_wp2_with fail
  have y0 := kz.out.cell 0
  have y1 := kz.out.cell 1
  have y2 := kz.out.cell 2
  have y3 := kz.out.cell 3
  have y4 := kz.out.cell 4
  have y5 := kz.out.cell 5
  have y6 := kz.out.cell 6
  have y7 := kz.out.cell 7
  have y8 := kz.out.cell 8
  refine bodyPost_ret (v := .tuple #[.agg lxz, v]) ?_ rfl ⟨_, rfl, HP.out, EZ.out⟩
  simp [results, Tryz.results32, go_sem, y0, y1, y2, y3, y4, y5, y6, y7, y8]
set_option maxHeartbeats 1000000 in
set_option maxRecDepth 20000 in
theorem lmark_ok (c : Nat) (s : ByteArray) (k n : Nat) (hk : k < s.size) (hs : s.size ≤ 4294967000) (hn : mkl c ((rest s k).drop 1) = n) (h0 : 0 < n) (hkn : k + n ≤ s.size) (w : World) :
    Calls Tryz.prog 32 #[.string s, .int .i64 (k : Int), .int .i32 (c : Int)] w fun e w' => e = .returned (.tuple #[.agg (lcs 5 k ((k : Int) + n) (s.extract k (k + n)) 0 0 0 0 0), .nilIface]) ∧ Ext w w' := by
  have HB := Lib.hid (Blk.new w lxz 38)
  have HE := Lib.hid (show Ext w (w.alloc (.cells lxz 38)) from by go_grown)
  have HMK := Lib.hid (fun w => mklen_any c (s.extract (k + 1) s.size) n (by rw [ext_rest, rest_drop]; exact hn) w)
  have HSP := Lib.hid (fun w => spelt_any 5 s k n hkn hs w)
  have hsl0 : (0 : Int) ≤ (k : Int) + 1 := by omega
  have hsl1 : (k : Int) + 1 ≤ (s.size : Int) := by omega
  have hslt : ((k : Int) + 1).toNat = k + 1 := by omega
  have d1 : ((n : Int) == 0) = false := by simp; omega
  clear hn
  go_enter Tryz.func32, Tryz.ntmps32
  go_wp2_with fail
  refine (HMK.out _).mono ?_
  rintro e w1 ⟨rfl, hx⟩
  have HB1 := Lib.hid (HB.out.ext hx)
  have E1 := Lib.hid (bel_call HE.out hx)
  clear hx HB HE HMK hslt hsl0 hsl1
  go_wp2_with fail
  refine (HSP.out _).mono ?_
  rintro e w2 ⟨rfl, hx⟩
  have HB2 := Lib.hid (HB1.out.ext hx)
  have EZ := Lib.hid (ext_set9 (bel_call E1.out hx) (Nat.le_refl _) (.int .i64 5) (.int .i64 (k : Int)) (.int .i64 ((k : Int) + n)) (.string (s.extract k (k + n))) (.int .i64 0) (.int .u64 0) (.int .u64 0) (.int .u64 0) (.int .u64 0))
  clear hx HB1 E1 HSP
  have kb := HB2.out
  have z0 := kb.cell 0
  have f0 := kb.free 0
  have z1 := kb.cell 1
  have f1 := kb.free 1
  have z2 := kb.cell 2
  have f2 := kb.free 2
  have z3 := kb.cell 3
  have f3 := kb.free 3
  have z4 := kb.cell 4
  have f4 := kb.free 4
  have z5 := kb.cell 5
  have f5 := kb.free 5
  have z6 := kb.cell 6
  have f6 := kb.free 6
  have z7 := kb.cell 7
  have f7 := kb.free 7
  have z8 := kb.cell 8
  have f8 := kb.free 8
  have hltb := kb.lt
  have kz := Lib.hid (((((((((kb.set 0 (.int .i64 5)).set 1 (.int .i64 (k : Int))).set 2 (.int .i64 ((k : Int) + n))).set 3 (.string (s.extract k (k + n)))).set 4 (.int .i64 0)).set 5 (.int .u64 0)).set 6 (.int .u64 0)).set 7 (.int .u64 0)).set 8 (.int .u64 0))
  clear kb
  go_wp2_with fail
  have y0 := kz.out.cell 0
  have y1 := kz.out.cell 1
  have y2 := kz.out.cell 2
  have y3 := kz.out.cell 3
  have y4 := kz.out.cell 4
  have y5 := kz.out.cell 5
  have y6 := kz.out.cell 6
  have y7 := kz.out.cell 7
  have y8 := kz.out.cell 8
  refine bodyPost_ret (v := .tuple #[.agg (lcs 5 k ((k : Int) + n) (s.extract k (k + n)) 0 0 0 0 0), .nilIface]) ?_ rfl ⟨rfl, EZ.out⟩
  simp [results, Tryz.results32, go_sem, y0, y1, y2, y3, y4, y5, y6, y7, y8]
end Go.Proofs.YtnecafokkhhhhaaGreatDoor
namespace Go.Proofs.YtnecafokkhhhhaaGreatDoor
open Go Go.RowKit
theorem rest_get {s : ByteArray} {p : Nat} {C : UInt8} {t : List UInt8} (h : rest s p = C :: t) : s.data.toList[p]? = some C := by
  have : (s.data.toList.drop p)[0]? = some C := by
    have e : rest s p = s.data.toList.drop p := rfl
    rw [← e, h]; rfl
  rw [List.getElem?_drop, Nat.add_zero] at this
  exact this
set_option maxHeartbeats 1000000 in
set_option maxRecDepth 20000 in
theorem lnum_any (s : ByteArray) (k n : Nat) (hk : k ≤ s.size) (hs : s.size ≤ 4294967000) (hn : run dgt (rest s k) = n) (w : World) :
    Calls Tryz.prog 29 #[.string s, .int .i64 (k : Int)] w fun e w' => e = .returned (.agg (lcs 2 k ((k : Int) + n) ⟨#[]⟩ (num ((rest s k).take n) : Int) 0 0 0 0)) ∧ Ext w w' := by
  have hkn : k + n ≤ s.size := by have := run_le dgt (rest s k); have := rest_len hk; omega
  obtain ⟨T, hT⟩ : ∃ T, s.extract k (k + n) = T := ⟨_, rfl⟩
  have hTl : T.data.toList = (rest s k).take n := by rw [← hT, ext_lst]
  have hTs : T.size = n := by rw [← hT, ByteArray.size_extract]; omega
  have hTd : ∀ C ∈ T.data.toList, dgt C.toNat = true := by
    rw [hTl, ← hn, run_take]
    intro C hC
    exact mem_tw (fun c : UInt8 => dgt c.toNat) _ _ hC
  obtain ⟨N0, hN0⟩ : ∃ N0, num ((rest s k).take n) = N0 := ⟨_, rfl⟩
  rw [hN0]
  have HN0 := Lib.hid hN0
  clear hN0
  have HB := Lib.hid (Blk.new w lxz 38)
  have HE := Lib.hid (show Ext w (w.alloc (.cells lxz 38)) from by go_grown)
  have HRN := Lib.hid (fun w => run_digit (s.extract k s.size) n (by rw [rest_ext]; exact hn) w)
  have HTL := Lib.hid (And.intro hTl (And.intro hTs hTd))
  have hsl1 : (k : Int) ≤ (k : Int) + (n : Int) := by omega
  have hsl2 : (k : Int) + (n : Int) ≤ (s.size : Int) := by omega
  have hslt2 : ((k : Int) + (n : Int)).toNat = k + n := by omega
  have HT := Lib.hid hT
  clear hn hT hTl hTs hTd
  go_enter Tryz.func29, Tryz.ntmps29
  go_wp2_with fail
  refine (HRN.out _).mono ?_
  rintro e w1 ⟨rfl, hx⟩
  have HB1 := Lib.hid ((HB.out.ext hx).alloc (.stringIter (s.extract k (k + n)) 0))
  have E1 := Lib.hid (show Ext w (w1.iter (s.extract k (k + n)) 0) from (bel_call HE.out hx).alloc (bel_call HE.out hx).size _)
  have I1 := Lib.hid (World.iter_heap w1 (s.extract k (k + n)) 0)
  have hlt1 := (HB.out.ext hx).lt
  clear hx HB HE HRN
  have HT0 := HT.out
  rw [HT0] at HB1 E1 I1
  go_wp2_with fail
  clear HT0 hsl1 hsl2 hslt2
  go_loopw [6] (fun z wr => ∃ p, p ≤ T.size ∧ z = .int .i64 (num (T.data.toList.take p) : Int) ∧ Hid (wr.heap[w1.heap.size]? = some (.stringIter T p)) ∧ Hid (Ext w wr) ∧ Hid (Blk wr w.heap.size lxz 38)) (fun _ wr => T.size - wr.iterPos w1.heap.size)
  case atStart => exact ⟨0, Nat.zero_le _, by simp [num], I1, E1, HB1⟩
  case round =>
    clear I1 E1 HB1
    obtain ⟨p, hp, rfl, hit, hE, hB⟩ := hrel
    have hpos0 := Lib.hid (iterPos_of hit.out)
    have hN := num_le T.data.toList p
    by_cases hps : p < T.size
    · have hnx : ∀ ty, (Instr.next (.pointer (some ⟨w1.heap.size, 0, none⟩)) true ty).run Tryz.prog wr = _ := fun ty => Lib.run_next_any_at wr w1.heap.size T p ty hit.out hps
      obtain ⟨C, hC⟩ := lx_unc T p hps
      have hCg := rest_get hC
      have hCd := HTL.out.2.2 C (List.mem_of_getElem? hCg)
      have hCr : 48 ≤ C.toNat ∧ C.toNat ≤ 57 := by unfold dgt at hCd; simpa using hCd
      have hst := num_step T.data.toList p C hCg
      rw [dec_low T p C _ hC (by omega)] at hnx
      have hit2 := Lib.hid (Lib.iterAt_heap wr w1.heap.size T p (p + 1) hit.out)
      have hE2 := Lib.hid (Lib.below_iterAt hE.out (k := w1.heap.size) (by omega) T (p + 1))
      have hB2 := Lib.hid (show Blk (wr.iterAt w1.heap.size T (p + 1)) w.heap.size lxz 38 from by
        have := hB.out
        unfold Blk at this ⊢
        rw [Lib.iterAt_other _ _ _ _ _ (by omega)]; exact this)
      obtain ⟨W1, hW1⟩ : ∃ W1, W1 = wr.iterAt w1.heap.size T (p + 1) := ⟨_, rfl⟩
      simp only [] at hnx
      rw [← hW1] at hnx hit2 hE2 hB2
      have HST := Lib.hid hst
      have HP2 := Lib.hid (iterPos_of hit2.out)
      clear hW1 hC hCg hCd hst hit hE hB
      generalize num (T.data.toList.take p) = N at hN HST ⊢
      generalize C.toNat = d at hCr HST hnx
      go_wp2_with fail
      go_roundw
      case rel =>
        refine ⟨p + 1, by omega, ?_, hit2, hE2, hB2⟩
        rw [HST.out]
        exact congrArg (Value.int .i64) (by omega)
      case measure => rw [HP2.out, hpos0.out]; omega
    · have hnx : ∀ ty, (Instr.next (.pointer (some ⟨w1.heap.size, 0, none⟩)) true ty).run Tryz.prog wr = _ := fun ty => Lib.run_next_end_at wr w1.heap.size T p ty hit.out hps
      have hpT : T.data.toList.take p = (rest s k).take n := by
        rw [List.take_of_length_le (by rw [Array.length_toList]; show T.size ≤ p; omega)]
        exact HTL.out.1
      rw [hpT, HN0.out] at hN ⊢
      have EZ := Lib.hid (ext_set9 hE.out (Nat.le_refl _) (.int .i64 2) (.int .i64 (k : Int)) (.int .i64 ((k : Int) + n)) (.string ⟨#[]⟩) (.int .i64 (N0 : Int)) (.int .u64 0) (.int .u64 0) (.int .u64 0) (.int .u64 0))
      clear hpT hE hit
      have kb := hB.out
      have z0 := kb.cell 0
      have f0 := kb.free 0
      have z1 := kb.cell 1
      have f1 := kb.free 1
      have z2 := kb.cell 2
      have f2 := kb.free 2
      have z3 := kb.cell 3
      have f3 := kb.free 3
      have z4 := kb.cell 4
      have f4 := kb.free 4
      have z5 := kb.cell 5
      have f5 := kb.free 5
      have z6 := kb.cell 6
      have f6 := kb.free 6
      have z7 := kb.cell 7
      have f7 := kb.free 7
      have z8 := kb.cell 8
      have f8 := kb.free 8
      have hltb := kb.lt
      have kz := Lib.hid (((((((((kb.set 0 (.int .i64 2)).set 1 (.int .i64 (k : Int))).set 2 (.int .i64 ((k : Int) + n))).set 3 (.string ⟨#[]⟩)).set 4 (.int .i64 (N0 : Int))).set 5 (.int .u64 0)).set 6 (.int .u64 0)).set 7 (.int .u64 0)).set 8 (.int .u64 0))
      clear kb
      go_wp2_with fail
      have y0 := kz.out.cell 0
      have y1 := kz.out.cell 1
      have y2 := kz.out.cell 2
      have y3 := kz.out.cell 3
      have y4 := kz.out.cell 4
      have y5 := kz.out.cell 5
      have y6 := kz.out.cell 6
      have y7 := kz.out.cell 7
      have y8 := kz.out.cell 8
      refine bodyPost_ret (v := .agg (lcs 2 k ((k : Int) + n) ⟨#[]⟩ (N0 : Int) 0 0 0 0)) ?_ rfl ⟨rfl, EZ.out⟩
      simp [results, Tryz.results29, go_sem, y0, y1, y2, y3, y4, y5, y6, y7, y8]
end Go.Proofs.YtnecafokkhhhhaaGreatDoor
namespace Go.Proofs.YtnecafokkhhhhaaGreatDoor
open Go Go.RowKit
/-- What 'read' answers. -/
def LdEnd (w w' : World) (es ed : Addr) (e : Ending) : Sum (Bool × Nat) Lxm → Prop
  | .inl (b, q) => ∃ (kd a en : Int) (T : ByteArray) (n x0 x1 x2 x3 : Int) (v : Value), e = .returned (.tuple #[.agg (lcs kd a en T n x0 x1 x2 x3), v]) ∧ Placed w' v (if b = true then ed else es) (q : Int) ∧ Ext w w'
  | .inr y => e = .returned (.tuple #[.agg (lcs (y.kind : Int) (y.a : Int) (y.e : Int) ⟨y.t.toArray⟩ (y.n : Int) (wd y.S 0) (wd y.S 1) (wd y.S 2) (wd y.S 3)), .nilIface]) ∧ Ext w w'
theorem extract_take (s : ByteArray) (k n : Nat) : s.extract k (k + n) = ⟨((rest s k).take n).toArray⟩ := by
  have h := ext_lst s k n
  apply ByteArray.ext
  apply Array.toList_inj.1
  rw [h]
theorem dot_set : prs ⟨#[91, 94, 92, 110, 93]⟩ 0 = .inr (sDot, 5) := by decide +kernel
theorem Placed.one9 {w : World} {v : Value} {a : Addr} {n : Int} (h : Placed w v a n) {b : Nat} {cs : Array Value} {t : TypeId} (hB : Blk w b cs t) (o : Nat) (x : Value) (hc : 3 ≤ cs.size := by simp) : Placed (w.setCell ⟨b, o, none⟩ x) v a n := by
  obtain ⟨p, tp, hv, hP, hlp⟩ := h
  have hne : b ≠ p := by
    intro e
    subst e
    have h1 := hP.symm.trans hB
    simp only [Option.some.injEq, Obj.cells.injEq] at h1
    rw [← h1.1] at hc
    simp at hc
  exact ⟨p, tp, hv, hP.set_other (a := ⟨b, o, none⟩) hne x, hlp⟩
theorem mkl_le (c : Nat) (t : List UInt8) : mkl c t ≤ t.length + 1 := by
  unfold mkl
  split
  · split
    · rename_i h
      have := (List.isPrefixOf_iff_prefix.1 h).length_le
      simp at this
      omega
    · omega
  · split <;> omega
set_option maxHeartbeats 16000000 in
set_option maxRecDepth 20000 in
theorem lread_any (c : Nat) (s : ByteArray) (k : Nat) (hk : k < s.size) (hs : s.size ≤ 4294967000) (es ed : Addr) (w : World) (hK : Kn w es ed) (x : Sum (Bool × Nat) Lxm) (hx : oneR c (rest s k) k = x) :
    Calls Tryz.prog 11 #[.string s, .int .i64 (k : Int), .int .i32 (c : Int)] w fun e w' => LdEnd w w' es ed e x := by
  have hrk := rest_len (Nat.le_of_lt hk)
  obtain ⟨b1, hb1⟩ : ∃ b, blnk c = b := ⟨_, rfl⟩
  obtain ⟨b2, hb2⟩ : ∃ b, ltr c = b := ⟨_, rfl⟩
  obtain ⟨b3, hb3⟩ : ∃ b, dgt c = b := ⟨_, rfl⟩
  have HBK := Lib.hid (fun w => blank_any c b1 hb1 w)
  have HBN := Lib.hid (fun w => begins_any c b2 hb2 w)
  have HBD := Lib.hid (fun w => digit_any c b3 hb3 w)
  unfold oneR at hx
  rw [hb1, hb2, hb3] at hx
  have HX := Lib.hid hx
  have HK := Lib.hid hK
  have HB0 := Lib.hid (Blk.new w (lcs 0 k ((k : Int) + 1) ⟨#[]⟩ 0 0 0 0 0) 38)
  have HE0 := Lib.hid (show Ext w (w.alloc (.cells (lcs 0 k ((k : Int) + 1) ⟨#[]⟩ 0 0 0 0 0) 38)) from by go_grown)
  clear hb1 hb2 hb3 hx hK
  go_enter Tryz.func11, Tryz.ntmps11
  go_wp2_with fail
  refine (HBK.out _).mono ?_
  rintro e w1 ⟨rfl, hx⟩
  have HB := Lib.hid (HB0.out.ext hx)
  have HE := Lib.hid (bel_call HE0.out hx)
  clear hx HB0 HE0 HBK
  cases b1 with
  | true =>
    have hx1 := HX.out
    rw [if_pos rfl] at hx1
    have HXX := Lib.hid hx1
    clear hx1
    have EZ := Lib.hid (ext_set9 HE.out (Nat.le_refl _) (.int .i64 (0)) (.int .i64 ((k : Int))) (.int .i64 ((k : Int) + 1)) (.string ⟨#[]⟩) (.int .i64 (0)) (.int .u64 (0)) (.int .u64 (0)) (.int .u64 (0)) (.int .u64 (0)))
    have kb := HB.out
    have z0 := kb.cell 0
    have f0 := kb.free 0
    have z1 := kb.cell 1
    have f1 := kb.free 1
    have z2 := kb.cell 2
    have f2 := kb.free 2
    have z3 := kb.cell 3
    have f3 := kb.free 3
    have z4 := kb.cell 4
    have f4 := kb.free 4
    have z5 := kb.cell 5
    have f5 := kb.free 5
    have z6 := kb.cell 6
    have f6 := kb.free 6
    have z7 := kb.cell 7
    have f7 := kb.free 7
    have z8 := kb.cell 8
    have f8 := kb.free 8
    have hltb := kb.lt
    have kz := Lib.hid (((((((((kb.set 0 (.int .i64 (0))).set 1 (.int .i64 ((k : Int)))).set 2 (.int .i64 ((k : Int) + 1))).set 3 (.string ⟨#[]⟩)).set 4 (.int .i64 (0))).set 5 (.int .u64 (0))).set 6 (.int .u64 (0))).set 7 (.int .u64 (0))).set 8 (.int .u64 (0)))
    clear kb
    go_wp2_with fail
    have y0 := kz.out.cell 0
    have y1 := kz.out.cell 1
    have y2 := kz.out.cell 2
    have y3 := kz.out.cell 3
    have y4 := kz.out.cell 4
    have y5 := kz.out.cell 5
    have y6 := kz.out.cell 6
    have y7 := kz.out.cell 7
    have y8 := kz.out.cell 8
    refine bodyPost_ret (v := .tuple #[.agg (lcs (0) ((k : Int)) ((k : Int) + 1) ⟨#[]⟩ (0) (0) (0) (0) (0)), .nilIface]) ?_ rfl ?_
    · simp [results, Tryz.results11, go_sem, y0, y1, y2, y3, y4, y5, y6, y7, y8]
    · rw [← HXX.out]; exact ⟨by simp only [wd_zero]; rfl, EZ.out⟩
  | false =>
    by_cases h35 : c = 35
    · have d35 : ((c : Int) == 35) = true := by simp; omega
      obtain ⟨n, hn⟩ : ∃ n, run rmk (rest s k) = n := ⟨_, rfl⟩
      have HRN := Lib.hid (fun w => run_remark (s.extract k s.size) n (by rw [rest_ext]; exact hn) w)
      have hx1 := HX.out
      rw [if_neg (by simp), if_pos h35, hn] at hx1
      have HXX := Lib.hid hx1
      have hnl := run_le rmk (rest s k)
      rw [hn] at hnl
      clear hx1 hn h35
      go_wp2_with fail
      refine (HRN.out _).mono ?_
      rintro e w2 ⟨rfl, hx⟩
      have hb := HB.out.ext hx
      have HE2 := Lib.hid (bel_call HE.out hx)
      have c2 := hb.cell 2
      have g2 := hb.free 2
      have hlb := hb.lt
      have HB2 := Lib.hid (hb.set 2 (.int .i64 ((k : Int) + n)))
      have HE3 := Lib.hid (HE2.out.setCell (p := ⟨w.heap.size, 2, none⟩) (Nat.le_refl _) (.int .i64 ((k : Int) + n)))
      clear hx hb HB HE HE2 HRN
      have EZ := Lib.hid (ext_set9 HE3.out (Nat.le_refl _) (.int .i64 (0)) (.int .i64 ((k : Int))) (.int .i64 ((k : Int) + n)) (.string ⟨#[]⟩) (.int .i64 (0)) (.int .u64 (0)) (.int .u64 (0)) (.int .u64 (0)) (.int .u64 (0)))
      have kb := HB2.out
      have z0 := kb.cell 0
      have f0 := kb.free 0
      have z1 := kb.cell 1
      have f1 := kb.free 1
      have z2 := kb.cell 2
      have f2 := kb.free 2
      have z3 := kb.cell 3
      have f3 := kb.free 3
      have z4 := kb.cell 4
      have f4 := kb.free 4
      have z5 := kb.cell 5
      have f5 := kb.free 5
      have z6 := kb.cell 6
      have f6 := kb.free 6
      have z7 := kb.cell 7
      have f7 := kb.free 7
      have z8 := kb.cell 8
      have f8 := kb.free 8
      have hltb := kb.lt
      have kz := Lib.hid (((((((((kb.set 0 (.int .i64 (0))).set 1 (.int .i64 ((k : Int)))).set 2 (.int .i64 ((k : Int) + n))).set 3 (.string ⟨#[]⟩)).set 4 (.int .i64 (0))).set 5 (.int .u64 (0))).set 6 (.int .u64 (0))).set 7 (.int .u64 (0))).set 8 (.int .u64 (0)))
      clear kb
      go_wp2_with fail
      have y0 := kz.out.cell 0
      have y1 := kz.out.cell 1
      have y2 := kz.out.cell 2
      have y3 := kz.out.cell 3
      have y4 := kz.out.cell 4
      have y5 := kz.out.cell 5
      have y6 := kz.out.cell 6
      have y7 := kz.out.cell 7
      have y8 := kz.out.cell 8
      refine bodyPost_ret (v := .tuple #[.agg (lcs (0) ((k : Int)) ((k : Int) + n) ⟨#[]⟩ (0) (0) (0) (0) (0)), .nilIface]) ?_ rfl ?_
      · simp [results, Tryz.results11, go_sem, y0, y1, y2, y3, y4, y5, y6, y7, y8]
      · rw [← HXX.out]; exact ⟨by simp only [wd_zero]; rfl, EZ.out⟩
    by_cases h10 : c = 10
    · have d35 : ((c : Int) == 35) = false := by simp; omega
      have d10 : ((c : Int) == 10) = true := by simp; omega
      have hx1 := HX.out
      rw [if_neg (by simp), if_neg h35, if_pos h10] at hx1
      have HXX := Lib.hid hx1
      have hb := HB.out
      have c0 := hb.cell 0
      have g0 := hb.free 0
      have hlb := hb.lt
      have HB2 := Lib.hid (hb.set 0 (.int .i64 6))
      have HE3 := Lib.hid (HE.out.setCell (p := ⟨w.heap.size, 0, none⟩) (Nat.le_refl _) (.int .i64 6))
      clear hx1 h10 hb HB HE
      have EZ := Lib.hid (ext_set9 HE3.out (Nat.le_refl _) (.int .i64 (6)) (.int .i64 ((k : Int))) (.int .i64 ((k : Int) + 1)) (.string ⟨#[]⟩) (.int .i64 (0)) (.int .u64 (0)) (.int .u64 (0)) (.int .u64 (0)) (.int .u64 (0)))
      have kb := HB2.out
      have z0 := kb.cell 0
      have f0 := kb.free 0
      have z1 := kb.cell 1
      have f1 := kb.free 1
      have z2 := kb.cell 2
      have f2 := kb.free 2
      have z3 := kb.cell 3
      have f3 := kb.free 3
      have z4 := kb.cell 4
      have f4 := kb.free 4
      have z5 := kb.cell 5
      have f5 := kb.free 5
      have z6 := kb.cell 6
      have f6 := kb.free 6
      have z7 := kb.cell 7
      have f7 := kb.free 7
      have z8 := kb.cell 8
      have f8 := kb.free 8
      have hltb := kb.lt
      have kz := Lib.hid (((((((((kb.set 0 (.int .i64 (6))).set 1 (.int .i64 ((k : Int)))).set 2 (.int .i64 ((k : Int) + 1))).set 3 (.string ⟨#[]⟩)).set 4 (.int .i64 (0))).set 5 (.int .u64 (0))).set 6 (.int .u64 (0))).set 7 (.int .u64 (0))).set 8 (.int .u64 (0)))
      clear kb
      go_wp2_with fail
      have y0 := kz.out.cell 0
      have y1 := kz.out.cell 1
      have y2 := kz.out.cell 2
      have y3 := kz.out.cell 3
      have y4 := kz.out.cell 4
      have y5 := kz.out.cell 5
      have y6 := kz.out.cell 6
      have y7 := kz.out.cell 7
      have y8 := kz.out.cell 8
      refine bodyPost_ret (v := .tuple #[.agg (lcs (6) ((k : Int)) ((k : Int) + 1) ⟨#[]⟩ (0) (0) (0) (0) (0)), .nilIface]) ?_ rfl ?_
      · simp [results, Tryz.results11, go_sem, y0, y1, y2, y3, y4, y5, y6, y7, y8]
      · rw [← HXX.out]; exact ⟨by simp only [wd_zero]; rfl, EZ.out⟩
    have d35 : ((c : Int) == 35) = false := by simp; omega
    have d10 : ((c : Int) == 10) = false := by simp; omega
    have hx1 := HX.out
    rw [if_neg (by simp), if_neg h35, if_neg h10] at hx1
    have HX := Lib.hid hx1
    clear hx1
    go_wp2_with fail
    refine (HBN.out _).mono ?_
    rintro e w2 ⟨rfl, hx⟩
    have HB2 := Lib.hid (HB.out.ext hx)
    have HE2 := Lib.hid (bel_call HE.out hx)
    clear hx HB HE HBN d35 d10
    cases b2 with
    | true =>
      obtain ⟨n, hn⟩ : ∃ n, run nmc (rest s k) = n := ⟨_, rfl⟩
      have hx1 := HX.out
      rw [if_pos rfl, hn] at hx1
      have hnl := run_le nmc (rest s k)
      rw [hn] at hnl
      by_cases h32 : 32 < n
      · rw [if_pos h32] at hx1
        have HXX := Lib.hid hx1
        have HN := Lib.hid (fun w hK => lname_no s k n (Nat.le_of_lt hk) hn h32 es ed w hK)
        clear hx1 hn
        go_wp2_with fail
        refine (HN.out _ (HK.out.ext HE2.out)).mono ?_
        rintro e w3 ⟨v, rfl, hP, hx⟩
        have HB3 := Lib.hid (HB2.out.ext hx)
        have HE3 := Lib.hid (bel_call HE2.out hx)
        have HP := Lib.hid (hP.own9 HB3.out (.int .i64 0) (.int .i64 0) (.int .i64 0) (.string ⟨#[]⟩) (.int .i64 0) (.int .u64 0) (.int .u64 0) (.int .u64 0) (.int .u64 0))
        clear hx hP HB2 HE2 HN
        have EZ := Lib.hid (ext_set9 HE3.out (Nat.le_refl _) (.int .i64 (0)) (.int .i64 (0)) (.int .i64 (0)) (.string ⟨#[]⟩) (.int .i64 (0)) (.int .u64 (0)) (.int .u64 (0)) (.int .u64 (0)) (.int .u64 (0)))
        have kb := HB3.out
        have z0 := kb.cell 0
        have f0 := kb.free 0
        have z1 := kb.cell 1
        have f1 := kb.free 1
        have z2 := kb.cell 2
        have f2 := kb.free 2
        have z3 := kb.cell 3
        have f3 := kb.free 3
        have z4 := kb.cell 4
        have f4 := kb.free 4
        have z5 := kb.cell 5
        have f5 := kb.free 5
        have z6 := kb.cell 6
        have f6 := kb.free 6
        have z7 := kb.cell 7
        have f7 := kb.free 7
        have z8 := kb.cell 8
        have f8 := kb.free 8
        have hltb := kb.lt
        have kz := Lib.hid (((((((((kb.set 0 (.int .i64 (0))).set 1 (.int .i64 (0))).set 2 (.int .i64 (0))).set 3 (.string ⟨#[]⟩)).set 4 (.int .i64 (0))).set 5 (.int .u64 (0))).set 6 (.int .u64 (0))).set 7 (.int .u64 (0))).set 8 (.int .u64 (0)))
        clear kb
        go_wp2_with fail
        have y0 := kz.out.cell 0
        have y1 := kz.out.cell 1
        have y2 := kz.out.cell 2
        have y3 := kz.out.cell 3
        have y4 := kz.out.cell 4
        have y5 := kz.out.cell 5
        have y6 := kz.out.cell 6
        have y7 := kz.out.cell 7
        have y8 := kz.out.cell 8
        refine bodyPost_ret (v := .tuple #[.agg (lcs (0) (0) (0) ⟨#[]⟩ (0) (0) (0) (0) (0)), v]) ?_ rfl ?_
        · simp [results, Tryz.results11, go_sem, y0, y1, y2, y3, y4, y5, y6, y7, y8]
        · rw [← HXX.out]; exact ⟨0, 0, 0, ⟨#[]⟩, 0, 0, 0, 0, 0, v, rfl, HP.out, EZ.out⟩
      · rw [if_neg h32] at hx1
        have HXX := Lib.hid hx1
        have HN := Lib.hid (fun w => lname_ok s k n (Nat.le_of_lt hk) hs hn (by omega) w)
        clear hx1 hn
        go_wp2_with fail
        refine (HN.out _).mono ?_
        rintro e w3 ⟨rfl, hx⟩
        have HB3 := Lib.hid (HB2.out.ext hx)
        have HE3 := Lib.hid (bel_call HE2.out hx)
        clear hx HB2 HE2 HN
        have EZ := Lib.hid (ext_set9 HE3.out (Nat.le_refl _) (.int .i64 (1)) (.int .i64 ((k : Int))) (.int .i64 ((k : Int) + n)) (.string (s.extract k (k + n))) (.int .i64 (0)) (.int .u64 (0)) (.int .u64 (0)) (.int .u64 (0)) (.int .u64 (0)))
        have kb := HB3.out
        have z0 := kb.cell 0
        have f0 := kb.free 0
        have z1 := kb.cell 1
        have f1 := kb.free 1
        have z2 := kb.cell 2
        have f2 := kb.free 2
        have z3 := kb.cell 3
        have f3 := kb.free 3
        have z4 := kb.cell 4
        have f4 := kb.free 4
        have z5 := kb.cell 5
        have f5 := kb.free 5
        have z6 := kb.cell 6
        have f6 := kb.free 6
        have z7 := kb.cell 7
        have f7 := kb.free 7
        have z8 := kb.cell 8
        have f8 := kb.free 8
        have hltb := kb.lt
        have kz := Lib.hid (((((((((kb.set 0 (.int .i64 (1))).set 1 (.int .i64 ((k : Int)))).set 2 (.int .i64 ((k : Int) + n))).set 3 (.string (s.extract k (k + n)))).set 4 (.int .i64 (0))).set 5 (.int .u64 (0))).set 6 (.int .u64 (0))).set 7 (.int .u64 (0))).set 8 (.int .u64 (0)))
        clear kb
        go_wp2_with fail
        have y0 := kz.out.cell 0
        have y1 := kz.out.cell 1
        have y2 := kz.out.cell 2
        have y3 := kz.out.cell 3
        have y4 := kz.out.cell 4
        have y5 := kz.out.cell 5
        have y6 := kz.out.cell 6
        have y7 := kz.out.cell 7
        have y8 := kz.out.cell 8
        refine bodyPost_ret (v := .tuple #[.agg (lcs (1) ((k : Int)) ((k : Int) + n) (s.extract k (k + n)) (0) (0) (0) (0) (0)), .nilIface]) ?_ rfl ?_
        · simp [results, Tryz.results11, go_sem, y0, y1, y2, y3, y4, y5, y6, y7, y8]
        · rw [← HXX.out]; exact ⟨by rw [extract_take]; simp only [wd_zero]; rfl, EZ.out⟩
    | false =>
      have hx1 := HX.out
      rw [if_neg (by simp)] at hx1
      have HX := Lib.hid hx1
      clear hx1
      go_wp2_with fail
      refine (HBD.out _).mono ?_
      rintro e w3 ⟨rfl, hx⟩
      have HB3 := Lib.hid (HB2.out.ext hx)
      have HE3 := Lib.hid (bel_call HE2.out hx)
      clear hx HB2 HE2 HBD
      cases b3 with
      | true =>
        obtain ⟨n, hn⟩ : ∃ n, run dgt (rest s k) = n := ⟨_, rfl⟩
        have hx1 := HX.out
        rw [if_pos rfl, hn] at hx1
        have HN := fun w => lnum_any s k n (Nat.le_of_lt hk) hs hn w
        obtain ⟨M, hM⟩ : ∃ M, num ((rest s k).take n) = M := ⟨_, rfl⟩
        rw [hM] at hx1 HN
        have HXX := Lib.hid hx1
        replace HN := Lib.hid HN
        clear hx1 hn hM
        go_wp2_with fail
        refine (HN.out _).mono ?_
        rintro e w4 ⟨rfl, hx⟩
        have HB4 := Lib.hid (HB3.out.ext hx)
        have HE4 := Lib.hid (bel_call HE3.out hx)
        clear hx HB3 HE3 HN
        have EZ := Lib.hid (ext_set9 HE4.out (Nat.le_refl _) (.int .i64 (2)) (.int .i64 ((k : Int))) (.int .i64 ((k : Int) + n)) (.string ⟨#[]⟩) (.int .i64 ((M : Int))) (.int .u64 (0)) (.int .u64 (0)) (.int .u64 (0)) (.int .u64 (0)))
        have kb := HB4.out
        have z0 := kb.cell 0
        have f0 := kb.free 0
        have z1 := kb.cell 1
        have f1 := kb.free 1
        have z2 := kb.cell 2
        have f2 := kb.free 2
        have z3 := kb.cell 3
        have f3 := kb.free 3
        have z4 := kb.cell 4
        have f4 := kb.free 4
        have z5 := kb.cell 5
        have f5 := kb.free 5
        have z6 := kb.cell 6
        have f6 := kb.free 6
        have z7 := kb.cell 7
        have f7 := kb.free 7
        have z8 := kb.cell 8
        have f8 := kb.free 8
        have hltb := kb.lt
        have kz := Lib.hid (((((((((kb.set 0 (.int .i64 (2))).set 1 (.int .i64 ((k : Int)))).set 2 (.int .i64 ((k : Int) + n))).set 3 (.string ⟨#[]⟩)).set 4 (.int .i64 ((M : Int)))).set 5 (.int .u64 (0))).set 6 (.int .u64 (0))).set 7 (.int .u64 (0))).set 8 (.int .u64 (0)))
        clear kb
        go_wp2_with fail
        have y0 := kz.out.cell 0
        have y1 := kz.out.cell 1
        have y2 := kz.out.cell 2
        have y3 := kz.out.cell 3
        have y4 := kz.out.cell 4
        have y5 := kz.out.cell 5
        have y6 := kz.out.cell 6
        have y7 := kz.out.cell 7
        have y8 := kz.out.cell 8
        refine bodyPost_ret (v := .tuple #[.agg (lcs (2) ((k : Int)) ((k : Int) + n) ⟨#[]⟩ ((M : Int)) (0) (0) (0) (0)), .nilIface]) ?_ rfl ?_
        · simp [results, Tryz.results11, go_sem, y0, y1, y2, y3, y4, y5, y6, y7, y8]
        · rw [← HXX.out]; exact ⟨by simp only [wd_zero]; rfl, EZ.out⟩
      | false =>
        have hx1 := HX.out
        rw [if_neg (by simp)] at hx1
        have hb := HB3.out
        have c0 := hb.cell 0
        have g0 := hb.free 0
        have hlb := hb.lt
        by_cases h34 : c = 34
        · have d34 : ((c : Int) == 34) = true := by simp; omega
          rw [if_pos h34] at hx1
          have hps : pos s (k : Int) = k := by unfold pos; rw [if_neg (by omega)]; omega
          obtain ⟨z, hz⟩ : ∃ z, quq unq (rest s k) k = z := ⟨_, rfl⟩
          have HU := Lib.hid (fun w hK => unquote_any s (k : Int) es ed hs w hK z (by unfold uqs; rw [hps]; exact hz))
          rw [hz] at hx1
          have HXX := Lib.hid hx1
          have HB5 := Lib.hid (hb.set 0 (.int .i64 3))
          have HE5 := Lib.hid (HE3.out.setCell (p := ⟨w.heap.size, 0, none⟩) (Nat.le_refl _) (.int .i64 3))
          clear hx1 hz h34 hps hb HB3 HX
          go_wp2_with fail
          clear c0 g0 hlb
          generalize w3.setCell ⟨w.heap.size, 0, none⟩ (.int .i64 3) = w5 at HB5 HE5 ⊢
          refine (HU.out _ (HK.out.ext HE5.out)).mono ?_
          rintro e w6 hres
          clear HU HE3
          cases z with
          | inl q =>
            obtain ⟨v, rfl, hP, hx⟩ := hres
            have hb := HB5.out.ext hx
            have c3 := hb.cell 3
            have g3 := hb.free 3
            have hlb := hb.lt
            have hb2 := hb.set 3 (.string ⟨#[]⟩)
            have c2 := hb2.cell 2
            have g2 := hb2.free 2
            have hlb2 := hb2.lt
            have HB6 := Lib.hid (hb2.set 2 (.int .i64 0))
            have HE6 := Lib.hid (((bel_call HE5.out hx).setCell (p := ⟨w.heap.size, 3, none⟩) (Nat.le_refl _) (.string ⟨#[]⟩)).setCell (p := ⟨w.heap.size, 2, none⟩) (Nat.le_refl _) (.int .i64 0))
            have HP0 := Lib.hid ((hP.one9 hb 3 (.string ⟨#[]⟩)).one9 hb2 2 (.int .i64 0))
            clear hb hb2
            go_upto_region 21 with fail
            generalize (w6.setCell ⟨w.heap.size, 3, none⟩ (.string ⟨#[]⟩)).setCell ⟨w.heap.size, 2, none⟩ (.int .i64 0) = wz at *
            clear c2 c3 g2 g3 hlb hlb2
            have HP := Lib.hid (HP0.out.own9 HB6.out (.int .i64 3) (.int .i64 (k : Int)) (.int .i64 0) (.string ⟨#[]⟩) (.int .i64 0) (.int .u64 0) (.int .u64 0) (.int .u64 0) (.int .u64 0))
            clear hx hP HB5 HE5 HP0
            have EZ := Lib.hid (ext_set9 HE6.out (Nat.le_refl _) (.int .i64 (3)) (.int .i64 ((k : Int))) (.int .i64 (0)) (.string ⟨#[]⟩) (.int .i64 (0)) (.int .u64 (0)) (.int .u64 (0)) (.int .u64 (0)) (.int .u64 (0)))
            have kb := HB6.out
            have z0 := kb.cell 0
            have f0 := kb.free 0
            have z1 := kb.cell 1
            have f1 := kb.free 1
            have z2 := kb.cell 2
            have f2 := kb.free 2
            have z3 := kb.cell 3
            have f3 := kb.free 3
            have z4 := kb.cell 4
            have f4 := kb.free 4
            have z5 := kb.cell 5
            have f5 := kb.free 5
            have z6 := kb.cell 6
            have f6 := kb.free 6
            have z7 := kb.cell 7
            have f7 := kb.free 7
            have z8 := kb.cell 8
            have f8 := kb.free 8
            have hltb := kb.lt
            have kz := Lib.hid (((((((((kb.set 0 (.int .i64 (3))).set 1 (.int .i64 ((k : Int)))).set 2 (.int .i64 (0))).set 3 (.string ⟨#[]⟩)).set 4 (.int .i64 (0))).set 5 (.int .u64 (0))).set 6 (.int .u64 (0))).set 7 (.int .u64 (0))).set 8 (.int .u64 (0)))
            clear kb
            go_wp2_with fail
            have y0 := kz.out.cell 0
            have y1 := kz.out.cell 1
            have y2 := kz.out.cell 2
            have y3 := kz.out.cell 3
            have y4 := kz.out.cell 4
            have y5 := kz.out.cell 5
            have y6 := kz.out.cell 6
            have y7 := kz.out.cell 7
            have y8 := kz.out.cell 8
            refine bodyPost_ret (v := .tuple #[.agg (lcs (3) ((k : Int)) (0) ⟨#[]⟩ (0) (0) (0) (0) (0)), v]) ?_ rfl ?_
            · simp [results, Tryz.results11, go_sem, y0, y1, y2, y3, y4, y5, y6, y7, y8]
            · rw [← HXX.out]; exact ⟨3, k, 0, ⟨#[]⟩, 0, 0, 0, 0, 0, v, rfl, HP.out, EZ.out⟩
          | inr Am =>
            obtain ⟨A, m⟩ := Am
            obtain ⟨rfl, hx⟩ := hres
            have hb := HB5.out.ext hx
            have c3 := hb.cell 3
            have g3 := hb.free 3
            have hlb := hb.lt
            have hb2 := hb.set 3 (.string ⟨A.toArray⟩)
            have c2 := hb2.cell 2
            have g2 := hb2.free 2
            have hlb2 := hb2.lt
            have HB6 := Lib.hid (hb2.set 2 (.int .i64 (m : Int)))
            have HE6 := Lib.hid (((bel_call HE5.out hx).setCell (p := ⟨w.heap.size, 3, none⟩) (Nat.le_refl _) (.string ⟨A.toArray⟩)).setCell (p := ⟨w.heap.size, 2, none⟩) (Nat.le_refl _) (.int .i64 (m : Int)))
            clear hb hb2
            go_upto_region 21 with fail
            generalize (w6.setCell ⟨w.heap.size, 3, none⟩ (.string ⟨A.toArray⟩)).setCell ⟨w.heap.size, 2, none⟩ (.int .i64 (m : Int)) = wz at *
            clear c2 c3 g2 g3 hlb hlb2
            clear hx HB5 HE5
            have EZ := Lib.hid (ext_set9 HE6.out (Nat.le_refl _) (.int .i64 (3)) (.int .i64 ((k : Int))) (.int .i64 ((m : Int))) (.string ⟨A.toArray⟩) (.int .i64 (0)) (.int .u64 (0)) (.int .u64 (0)) (.int .u64 (0)) (.int .u64 (0)))
            have kb := HB6.out
            have z0 := kb.cell 0
            have f0 := kb.free 0
            have z1 := kb.cell 1
            have f1 := kb.free 1
            have z2 := kb.cell 2
            have f2 := kb.free 2
            have z3 := kb.cell 3
            have f3 := kb.free 3
            have z4 := kb.cell 4
            have f4 := kb.free 4
            have z5 := kb.cell 5
            have f5 := kb.free 5
            have z6 := kb.cell 6
            have f6 := kb.free 6
            have z7 := kb.cell 7
            have f7 := kb.free 7
            have z8 := kb.cell 8
            have f8 := kb.free 8
            have hltb := kb.lt
            have kz := Lib.hid (((((((((kb.set 0 (.int .i64 (3))).set 1 (.int .i64 ((k : Int)))).set 2 (.int .i64 ((m : Int)))).set 3 (.string ⟨A.toArray⟩)).set 4 (.int .i64 (0))).set 5 (.int .u64 (0))).set 6 (.int .u64 (0))).set 7 (.int .u64 (0))).set 8 (.int .u64 (0)))
            clear kb
            go_wp2_with fail
            have y0 := kz.out.cell 0
            have y1 := kz.out.cell 1
            have y2 := kz.out.cell 2
            have y3 := kz.out.cell 3
            have y4 := kz.out.cell 4
            have y5 := kz.out.cell 5
            have y6 := kz.out.cell 6
            have y7 := kz.out.cell 7
            have y8 := kz.out.cell 8
            refine bodyPost_ret (v := .tuple #[.agg (lcs (3) ((k : Int)) ((m : Int)) ⟨A.toArray⟩ (0) (0) (0) (0) (0)), .nilIface]) ?_ rfl ?_
            · simp [results, Tryz.results11, go_sem, y0, y1, y2, y3, y4, y5, y6, y7, y8]
            · rw [← HXX.out]; exact ⟨by simp only [wd_zero]; rfl, EZ.out⟩
        have d34 : ((c : Int) == 34) = false := by simp; omega
        rw [if_neg h34] at hx1
        by_cases h91 : c = 91
        · have d91 : ((c : Int) == 91) = true := by simp; omega
          rw [if_pos h91] at hx1
          have hps : pos s (k : Int) = k := by unfold pos; rw [if_neg (by omega)]; omega
          obtain ⟨z, hz⟩ : ∃ z, cls unq ((rest s k).length + 1) 0 (rest s k) k = z := ⟨_, rfl⟩
          have HU := Lib.hid (fun w hK => parse_any s (k : Int) es ed hs w hK z (by unfold prs; rw [hps]; exact hz))
          rw [hz] at hx1
          have HXX := Lib.hid hx1
          have HB5 := Lib.hid (hb.set 0 (.int .i64 4))
          have HE5 := Lib.hid (HE3.out.setCell (p := ⟨w.heap.size, 0, none⟩) (Nat.le_refl _) (.int .i64 4))
          clear hx1 hz h91 hps hb HB3 HX
          go_wp2_with fail
          clear c0 g0 hlb
          generalize w3.setCell ⟨w.heap.size, 0, none⟩ (.int .i64 4) = w5 at HB5 HE5 ⊢
          refine (HU.out _ (HK.out.ext HE5.out)).mono ?_
          rintro e w6 hres
          clear HU HE3
          cases z with
          | inl bq =>
            obtain ⟨b, q⟩ := bq
            obtain ⟨v, rfl, hP, hx⟩ := hres
            have hb := HB5.out.ext hx
            have c5 := hb.cell 5
            have g5 := hb.free 5
            have hlb := hb.lt
            have hb5 := hb.set 5 (.int .u64 (0))
            have c6 := hb5.cell 6
            have g6 := hb5.free 6
            have hlb5 := hb5.lt
            have hb6 := hb5.set 6 (.int .u64 (0))
            have c7 := hb6.cell 7
            have g7 := hb6.free 7
            have hlb6 := hb6.lt
            have hb7 := hb6.set 7 (.int .u64 (0))
            have c8 := hb7.cell 8
            have g8 := hb7.free 8
            have hlb7 := hb7.lt
            have hb8 := hb7.set 8 (.int .u64 (0))
            have c2 := hb8.cell 2
            have g2 := hb8.free 2
            have hlb8 := hb8.lt
            have HB6 := Lib.hid (hb8.set 2 (.int .i64 (0)))
            have HE6 := Lib.hid ((((((bel_call HE5.out hx).setCell (p := ⟨w.heap.size, 5, none⟩) (Nat.le_refl _) (.int .u64 (0))).setCell (p := ⟨w.heap.size, 6, none⟩) (Nat.le_refl _) (.int .u64 (0))).setCell (p := ⟨w.heap.size, 7, none⟩) (Nat.le_refl _) (.int .u64 (0))).setCell (p := ⟨w.heap.size, 8, none⟩) (Nat.le_refl _) (.int .u64 (0))).setCell (p := ⟨w.heap.size, 2, none⟩) (Nat.le_refl _) (.int .i64 (0)))
            clear hb5 hb6 hb7 hb8
            have HP0 := Lib.hid (((((hP.one9 hb 5 (.int .u64 0)).one9 (hb.set 5 (.int .u64 0)) 6 (.int .u64 0)).one9 ((hb.set 5 (.int .u64 0)).set 6 (.int .u64 0)) 7 (.int .u64 0)).one9 (((hb.set 5 (.int .u64 0)).set 6 (.int .u64 0)).set 7 (.int .u64 0)) 8 (.int .u64 0)).one9 ((((hb.set 5 (.int .u64 0)).set 6 (.int .u64 0)).set 7 (.int .u64 0)).set 8 (.int .u64 0)) 2 (.int .i64 0))
            go_upto_region 21 with fail
            generalize ((((w6.setCell ⟨w.heap.size, 5, none⟩ (.int .u64 (0))).setCell ⟨w.heap.size, 6, none⟩ (.int .u64 (0))).setCell ⟨w.heap.size, 7, none⟩ (.int .u64 (0))).setCell ⟨w.heap.size, 8, none⟩ (.int .u64 (0))).setCell ⟨w.heap.size, 2, none⟩ (.int .i64 (0)) = wz at *
            clear c5 c6 c7 c8 c2 g5 g6 g7 g8 g2 hlb hlb5 hlb6 hlb7 hlb8
            have HP := Lib.hid (HP0.out.own9 HB6.out (.int .i64 4) (.int .i64 (k : Int)) (.int .i64 0) (.string ⟨#[]⟩) (.int .i64 0) (.int .u64 0) (.int .u64 0) (.int .u64 0) (.int .u64 0))
            clear hx hb hP HB5 HE5 HP0
            have EZ := Lib.hid (ext_set9 HE6.out (Nat.le_refl _) (.int .i64 (4)) (.int .i64 ((k : Int))) (.int .i64 (0)) (.string ⟨#[]⟩) (.int .i64 (0)) (.int .u64 (0)) (.int .u64 (0)) (.int .u64 (0)) (.int .u64 (0)))
            have kb := HB6.out
            have z0 := kb.cell 0
            have f0 := kb.free 0
            have z1 := kb.cell 1
            have f1 := kb.free 1
            have z2 := kb.cell 2
            have f2 := kb.free 2
            have z3 := kb.cell 3
            have f3 := kb.free 3
            have z4 := kb.cell 4
            have f4 := kb.free 4
            have z5 := kb.cell 5
            have f5 := kb.free 5
            have z6 := kb.cell 6
            have f6 := kb.free 6
            have z7 := kb.cell 7
            have f7 := kb.free 7
            have z8 := kb.cell 8
            have f8 := kb.free 8
            have hltb := kb.lt
            have kz := Lib.hid (((((((((kb.set 0 (.int .i64 (4))).set 1 (.int .i64 ((k : Int)))).set 2 (.int .i64 (0))).set 3 (.string ⟨#[]⟩)).set 4 (.int .i64 (0))).set 5 (.int .u64 (0))).set 6 (.int .u64 (0))).set 7 (.int .u64 (0))).set 8 (.int .u64 (0)))
            clear kb
            go_wp2_with fail
            have y0 := kz.out.cell 0
            have y1 := kz.out.cell 1
            have y2 := kz.out.cell 2
            have y3 := kz.out.cell 3
            have y4 := kz.out.cell 4
            have y5 := kz.out.cell 5
            have y6 := kz.out.cell 6
            have y7 := kz.out.cell 7
            have y8 := kz.out.cell 8
            refine bodyPost_ret (v := .tuple #[.agg (lcs (4) ((k : Int)) (0) ⟨#[]⟩ (0) (0) (0) (0) (0)), v]) ?_ rfl ?_
            · simp [results, Tryz.results11, go_sem, y0, y1, y2, y3, y4, y5, y6, y7, y8]
            · rw [← HXX.out]; exact ⟨4, k, 0, ⟨#[]⟩, 0, 0, 0, 0, 0, v, rfl, HP.out, EZ.out⟩
          | inr Sm =>
            obtain ⟨S, m⟩ := Sm
            obtain ⟨rfl, hx⟩ := hres
            have hb := HB5.out.ext hx
            have c5 := hb.cell 5
            have g5 := hb.free 5
            have hlb := hb.lt
            have hb5 := hb.set 5 (.int .u64 (wd S 0))
            have c6 := hb5.cell 6
            have g6 := hb5.free 6
            have hlb5 := hb5.lt
            have hb6 := hb5.set 6 (.int .u64 (wd S 1))
            have c7 := hb6.cell 7
            have g7 := hb6.free 7
            have hlb6 := hb6.lt
            have hb7 := hb6.set 7 (.int .u64 (wd S 2))
            have c8 := hb7.cell 8
            have g8 := hb7.free 8
            have hlb7 := hb7.lt
            have hb8 := hb7.set 8 (.int .u64 (wd S 3))
            have c2 := hb8.cell 2
            have g2 := hb8.free 2
            have hlb8 := hb8.lt
            have HB6 := Lib.hid (hb8.set 2 (.int .i64 ((m : Int))))
            have HE6 := Lib.hid ((((((bel_call HE5.out hx).setCell (p := ⟨w.heap.size, 5, none⟩) (Nat.le_refl _) (.int .u64 (wd S 0))).setCell (p := ⟨w.heap.size, 6, none⟩) (Nat.le_refl _) (.int .u64 (wd S 1))).setCell (p := ⟨w.heap.size, 7, none⟩) (Nat.le_refl _) (.int .u64 (wd S 2))).setCell (p := ⟨w.heap.size, 8, none⟩) (Nat.le_refl _) (.int .u64 (wd S 3))).setCell (p := ⟨w.heap.size, 2, none⟩) (Nat.le_refl _) (.int .i64 ((m : Int))))
            clear hb5 hb6 hb7 hb8
            skip
            go_upto_region 21 with fail
            generalize ((((w6.setCell ⟨w.heap.size, 5, none⟩ (.int .u64 (wd S 0))).setCell ⟨w.heap.size, 6, none⟩ (.int .u64 (wd S 1))).setCell ⟨w.heap.size, 7, none⟩ (.int .u64 (wd S 2))).setCell ⟨w.heap.size, 8, none⟩ (.int .u64 (wd S 3))).setCell ⟨w.heap.size, 2, none⟩ (.int .i64 ((m : Int))) = wz at *
            clear c5 c6 c7 c8 c2 g5 g6 g7 g8 g2 hlb hlb5 hlb6 hlb7 hlb8
            clear hx hb HB5 HE5
            have EZ := Lib.hid (ext_set9 HE6.out (Nat.le_refl _) (.int .i64 (4)) (.int .i64 ((k : Int))) (.int .i64 ((m : Int))) (.string ⟨#[]⟩) (.int .i64 (0)) (.int .u64 (wd S 0)) (.int .u64 (wd S 1)) (.int .u64 (wd S 2)) (.int .u64 (wd S 3)))
            have kb := HB6.out
            have z0 := kb.cell 0
            have f0 := kb.free 0
            have z1 := kb.cell 1
            have f1 := kb.free 1
            have z2 := kb.cell 2
            have f2 := kb.free 2
            have z3 := kb.cell 3
            have f3 := kb.free 3
            have z4 := kb.cell 4
            have f4 := kb.free 4
            have z5 := kb.cell 5
            have f5 := kb.free 5
            have z6 := kb.cell 6
            have f6 := kb.free 6
            have z7 := kb.cell 7
            have f7 := kb.free 7
            have z8 := kb.cell 8
            have f8 := kb.free 8
            have hltb := kb.lt
            have kz := Lib.hid (((((((((kb.set 0 (.int .i64 (4))).set 1 (.int .i64 ((k : Int)))).set 2 (.int .i64 ((m : Int)))).set 3 (.string ⟨#[]⟩)).set 4 (.int .i64 (0))).set 5 (.int .u64 (wd S 0))).set 6 (.int .u64 (wd S 1))).set 7 (.int .u64 (wd S 2))).set 8 (.int .u64 (wd S 3)))
            clear kb
            go_wp2_with fail
            have y0 := kz.out.cell 0
            have y1 := kz.out.cell 1
            have y2 := kz.out.cell 2
            have y3 := kz.out.cell 3
            have y4 := kz.out.cell 4
            have y5 := kz.out.cell 5
            have y6 := kz.out.cell 6
            have y7 := kz.out.cell 7
            have y8 := kz.out.cell 8
            refine bodyPost_ret (v := .tuple #[.agg (lcs (4) ((k : Int)) ((m : Int)) ⟨#[]⟩ (0) (wd S 0) (wd S 1) (wd S 2) (wd S 3)), .nilIface]) ?_ rfl ?_
            · simp [results, Tryz.results11, go_sem, y0, y1, y2, y3, y4, y5, y6, y7, y8]
            · rw [← HXX.out]; exact ⟨rfl, EZ.out⟩
        have d91 : ((c : Int) == 91) = false := by simp; omega
        rw [if_neg h91] at hx1
        by_cases h46 : c = 46
        · have d46 : ((c : Int) == 46) = true := by simp; omega
          rw [if_pos h46] at hx1
          have HU := Lib.hid (fun w hK => parse_any ⟨#[91, 94, 92, 110, 93]⟩ 0 es ed (by decide) w hK _ dot_set)
          obtain ⟨S, hS⟩ : ∃ S, sDot = S := ⟨_, rfl⟩
          rw [hS] at hx1
          have HXX := Lib.hid hx1
          have HS := Lib.hid hS
          have HB5 := Lib.hid (hb.set 0 (.int .i64 4))
          have HE5 := Lib.hid (HE3.out.setCell (p := ⟨w.heap.size, 0, none⟩) (Nat.le_refl _) (.int .i64 4))
          clear hx1 h46 hb HB3 HX hS
          go_wp2_with fail
          clear c0 g0 hlb
          generalize w3.setCell ⟨w.heap.size, 0, none⟩ (.int .i64 4) = w5 at HB5 HE5 ⊢
          refine (HU.out _ (HK.out.ext HE5.out)).mono ?_
          rintro e w6 ⟨rfl, hx⟩
          rw [HS.out]
          clear HU HE3
          have hb := HB5.out.ext hx
          have c5 := hb.cell 5
          have g5 := hb.free 5
          have hlb := hb.lt
          have hb5 := hb.set 5 (.int .u64 (wd S 0))
          have c6 := hb5.cell 6
          have g6 := hb5.free 6
          have hlb5 := hb5.lt
          have hb6 := hb5.set 6 (.int .u64 (wd S 1))
          have c7 := hb6.cell 7
          have g7 := hb6.free 7
          have hlb6 := hb6.lt
          have hb7 := hb6.set 7 (.int .u64 (wd S 2))
          have c8 := hb7.cell 8
          have g8 := hb7.free 8
          have hlb7 := hb7.lt
          have HB6 := Lib.hid (hb7.set 8 (.int .u64 (wd S 3)))
          have HE6 := Lib.hid (((((bel_call HE5.out hx).setCell (p := ⟨w.heap.size, 5, none⟩) (Nat.le_refl _) (.int .u64 (wd S 0))).setCell (p := ⟨w.heap.size, 6, none⟩) (Nat.le_refl _) (.int .u64 (wd S 1))).setCell (p := ⟨w.heap.size, 7, none⟩) (Nat.le_refl _) (.int .u64 (wd S 2))).setCell (p := ⟨w.heap.size, 8, none⟩) (Nat.le_refl _) (.int .u64 (wd S 3)))
          clear hb hb5 hb6 hb7
          go_upto_region 21 with fail
          generalize (((w6.setCell ⟨w.heap.size, 5, none⟩ (.int .u64 (wd S 0))).setCell ⟨w.heap.size, 6, none⟩ (.int .u64 (wd S 1))).setCell ⟨w.heap.size, 7, none⟩ (.int .u64 (wd S 2))).setCell ⟨w.heap.size, 8, none⟩ (.int .u64 (wd S 3)) = wz at *
          clear c5 c6 c7 c8 g5 g6 g7 g8 hlb hlb5 hlb6 hlb7
          clear hx HB5 HE5
          have EZ := Lib.hid (ext_set9 HE6.out (Nat.le_refl _) (.int .i64 (4)) (.int .i64 ((k : Int))) (.int .i64 ((k : Int) + 1)) (.string ⟨#[]⟩) (.int .i64 (0)) (.int .u64 (wd S 0)) (.int .u64 (wd S 1)) (.int .u64 (wd S 2)) (.int .u64 (wd S 3)))
          have kb := HB6.out
          have z0 := kb.cell 0
          have f0 := kb.free 0
          have z1 := kb.cell 1
          have f1 := kb.free 1
          have z2 := kb.cell 2
          have f2 := kb.free 2
          have z3 := kb.cell 3
          have f3 := kb.free 3
          have z4 := kb.cell 4
          have f4 := kb.free 4
          have z5 := kb.cell 5
          have f5 := kb.free 5
          have z6 := kb.cell 6
          have f6 := kb.free 6
          have z7 := kb.cell 7
          have f7 := kb.free 7
          have z8 := kb.cell 8
          have f8 := kb.free 8
          have hltb := kb.lt
          have kz := Lib.hid (((((((((kb.set 0 (.int .i64 (4))).set 1 (.int .i64 ((k : Int)))).set 2 (.int .i64 ((k : Int) + 1))).set 3 (.string ⟨#[]⟩)).set 4 (.int .i64 (0))).set 5 (.int .u64 (wd S 0))).set 6 (.int .u64 (wd S 1))).set 7 (.int .u64 (wd S 2))).set 8 (.int .u64 (wd S 3)))
          clear kb
          go_wp2_with fail
          have y0 := kz.out.cell 0
          have y1 := kz.out.cell 1
          have y2 := kz.out.cell 2
          have y3 := kz.out.cell 3
          have y4 := kz.out.cell 4
          have y5 := kz.out.cell 5
          have y6 := kz.out.cell 6
          have y7 := kz.out.cell 7
          have y8 := kz.out.cell 8
          refine bodyPost_ret (v := .tuple #[.agg (lcs (4) ((k : Int)) ((k : Int) + 1) ⟨#[]⟩ (0) (wd S 0) (wd S 1) (wd S 2) (wd S 3)), .nilIface]) ?_ rfl ?_
          · simp [results, Tryz.results11, go_sem, y0, y1, y2, y3, y4, y5, y6, y7, y8]
          · rw [← HXX.out]; exact ⟨rfl, EZ.out⟩
        have d46 : ((c : Int) == 46) = false := by simp; omega
        rw [if_neg h46] at hx1
        obtain ⟨n, hn⟩ : ∃ n, mkl c ((rest s k).drop 1) = n := ⟨_, rfl⟩
        rw [hn] at hx1
        by_cases hn0 : n = 0
        · rw [if_pos hn0] at hx1
          have HXX := Lib.hid hx1
          have HN := Lib.hid (fun w hK => lmark_no c s k hk hs (by rw [hn, hn0]) es ed w hK)
          clear hx1 hn hb c0 g0 hlb
          go_wp2_with fail
          refine (HN.out _ (HK.out.ext HE3.out)).mono ?_
          rintro e w4 ⟨v, rfl, hP, hx⟩
          have HB4 := Lib.hid (HB3.out.ext hx)
          have HE4 := Lib.hid (bel_call HE3.out hx)
          have HP := Lib.hid (hP.own9 HB4.out (.int .i64 0) (.int .i64 0) (.int .i64 0) (.string ⟨#[]⟩) (.int .i64 0) (.int .u64 0) (.int .u64 0) (.int .u64 0) (.int .u64 0))
          clear hx hP HB3 HE3 HN
          have EZ := Lib.hid (ext_set9 HE4.out (Nat.le_refl _) (.int .i64 (0)) (.int .i64 (0)) (.int .i64 (0)) (.string ⟨#[]⟩) (.int .i64 (0)) (.int .u64 (0)) (.int .u64 (0)) (.int .u64 (0)) (.int .u64 (0)))
          have kb := HB4.out
          have z0 := kb.cell 0
          have f0 := kb.free 0
          have z1 := kb.cell 1
          have f1 := kb.free 1
          have z2 := kb.cell 2
          have f2 := kb.free 2
          have z3 := kb.cell 3
          have f3 := kb.free 3
          have z4 := kb.cell 4
          have f4 := kb.free 4
          have z5 := kb.cell 5
          have f5 := kb.free 5
          have z6 := kb.cell 6
          have f6 := kb.free 6
          have z7 := kb.cell 7
          have f7 := kb.free 7
          have z8 := kb.cell 8
          have f8 := kb.free 8
          have hltb := kb.lt
          have kz := Lib.hid (((((((((kb.set 0 (.int .i64 (0))).set 1 (.int .i64 (0))).set 2 (.int .i64 (0))).set 3 (.string ⟨#[]⟩)).set 4 (.int .i64 (0))).set 5 (.int .u64 (0))).set 6 (.int .u64 (0))).set 7 (.int .u64 (0))).set 8 (.int .u64 (0)))
          clear kb
          go_wp2_with fail
          have y0 := kz.out.cell 0
          have y1 := kz.out.cell 1
          have y2 := kz.out.cell 2
          have y3 := kz.out.cell 3
          have y4 := kz.out.cell 4
          have y5 := kz.out.cell 5
          have y6 := kz.out.cell 6
          have y7 := kz.out.cell 7
          have y8 := kz.out.cell 8
          refine bodyPost_ret (v := .tuple #[.agg (lcs (0) (0) (0) ⟨#[]⟩ (0) (0) (0) (0) (0)), v]) ?_ rfl ?_
          · simp [results, Tryz.results11, go_sem, y0, y1, y2, y3, y4, y5, y6, y7, y8]
          · rw [← HXX.out]; exact ⟨0, 0, 0, ⟨#[]⟩, 0, 0, 0, 0, 0, v, rfl, HP.out, EZ.out⟩
        · rw [if_neg hn0] at hx1
          have HXX := Lib.hid hx1
          have hml := mkl_le c ((rest s k).drop 1)
          rw [hn, List.length_drop] at hml
          have HN := Lib.hid (fun w => lmark_ok c s k n hk hs hn (by omega) (by omega) w)
          clear hx1 hn hb c0 g0 hlb
          go_wp2_with fail
          refine (HN.out _).mono ?_
          rintro e w4 ⟨rfl, hx⟩
          have HB4 := Lib.hid (HB3.out.ext hx)
          have HE4 := Lib.hid (bel_call HE3.out hx)
          clear hx HB3 HE3 HN
          have EZ := Lib.hid (ext_set9 HE4.out (Nat.le_refl _) (.int .i64 (5)) (.int .i64 ((k : Int))) (.int .i64 ((k : Int) + n)) (.string (s.extract k (k + n))) (.int .i64 (0)) (.int .u64 (0)) (.int .u64 (0)) (.int .u64 (0)) (.int .u64 (0)))
          have kb := HB4.out
          have z0 := kb.cell 0
          have f0 := kb.free 0
          have z1 := kb.cell 1
          have f1 := kb.free 1
          have z2 := kb.cell 2
          have f2 := kb.free 2
          have z3 := kb.cell 3
          have f3 := kb.free 3
          have z4 := kb.cell 4
          have f4 := kb.free 4
          have z5 := kb.cell 5
          have f5 := kb.free 5
          have z6 := kb.cell 6
          have f6 := kb.free 6
          have z7 := kb.cell 7
          have f7 := kb.free 7
          have z8 := kb.cell 8
          have f8 := kb.free 8
          have hltb := kb.lt
          have kz := Lib.hid (((((((((kb.set 0 (.int .i64 (5))).set 1 (.int .i64 ((k : Int)))).set 2 (.int .i64 ((k : Int) + n))).set 3 (.string (s.extract k (k + n)))).set 4 (.int .i64 (0))).set 5 (.int .u64 (0))).set 6 (.int .u64 (0))).set 7 (.int .u64 (0))).set 8 (.int .u64 (0)))
          clear kb
          go_wp2_with fail
          have y0 := kz.out.cell 0
          have y1 := kz.out.cell 1
          have y2 := kz.out.cell 2
          have y3 := kz.out.cell 3
          have y4 := kz.out.cell 4
          have y5 := kz.out.cell 5
          have y6 := kz.out.cell 6
          have y7 := kz.out.cell 7
          have y8 := kz.out.cell 8
          refine bodyPost_ret (v := .tuple #[.agg (lcs (5) ((k : Int)) ((k : Int) + n) (s.extract k (k + n)) (0) (0) (0) (0) (0)), .nilIface]) ?_ rfl ?_
          · simp [results, Tryz.results11, go_sem, y0, y1, y2, y3, y4, y5, y6, y7, y8]
          · rw [← HXX.out]; exact ⟨by rw [extract_take]; simp only [wd_zero]; rfl, EZ.out⟩
end Go.Proofs.YtnecafokkhhhhaaGreatDoor
namespace Go.Proofs.YtnecafokkhhhhaaGreatDoor
open Go Go.RowKit
/-- A lexeme's cells. -/
def lcl (y : Lxm) : List Value := [.int .i64 (y.kind : Int), .int .i64 (y.a : Int), .int .i64 (y.e : Int), .string ⟨y.t.toArray⟩, .int .i64 (y.n : Int), .int .u64 (wd y.S 0), .int .u64 (wd y.S 1), .int .u64 (wd y.S 2), .int .u64 (wd y.S 3)]
theorem lcl_len (y : Lxm) : (lcl y).length = 9 := rfl
theorem one_rune (s : ByteArray) (p : Nat) (C : UInt8) (t : List UInt8) (h : rest s p = C :: t) (k : Nat) : one (rest s p) k = oneR (Utf8.decode s p).1 (rest s p) k := by
  rw [h]
  by_cases hC : C.toNat < 128
  · rw [dec_low s p C t h hC]; rfl
  · rw [oneR_high _ _ _ (dec_high s p C t h (by omega)).1]
    exact oneR_high _ _ _ (by omega)
def lxN (g : Nat) (l : List UInt8) (k : Nat) : Sum (Bool × Nat) Lxm → List Lxm × Option (Bool × Nat)
  | .inl x => ([], some x)
  | .inr y => if y.kind = 0 then lxs g (l.drop (y.e - k)) y.e else (y :: (lxs g (l.drop (y.e - k)) y.e).1, (lxs g (l.drop (y.e - k)) y.e).2)
theorem lxs_step (g : Nat) (l : List UInt8) (k : Nat) (h : l ≠ []) : lxs (g + 1) l k = lxN g l k (one l k) := by
  rw [lxs, if_neg h]
  cases one l k with
  | inl x => rfl
  | inr y => rfl
/-- No rune crosses place e. -/
def Bd (s : ByteArray) (e : Nat) : Prop := e = 0 ∨ ∃ k n, k < s.size ∧ e = k + n ∧ 0 < n ∧ Cut (rest s k) n
theorem get_rest (s : ByteArray) (k j : Nat) : (rest s k)[j]? = s.data.toList[k + j]? := by
  unfold rest
  rw [List.getElem?_drop]
theorem no_cross (s : ByteArray) (p e : Nat) (hb : Bd s e) (hp : p < e) (hps : p < s.size) : p + (Utf8.decode s p).2 ≤ e := by
  obtain ⟨C, hC⟩ := lx_unc s p hps
  by_cases hc : C.toNat < 128
  · rw [dec_low s p C _ hC hc]; exact hp
  · obtain ⟨h1, h2, h3, h4⟩ := dec_high s p C _ hC (by omega)
    have hall : ∀ j, j < (Utf8.decode s p).2 → ∃ c, s.data.toList[p + j]? = some c ∧ 128 ≤ c.toNat := fun j hj => by
      have hjl : j < (rest s p).length := by omega
      refine ⟨(rest s p)[j], ?_, h4 _ ?_⟩
      · rw [← get_rest, List.getElem?_eq_getElem hjl]
      · rw [List.mem_iff_getElem]
        exact ⟨j, by rw [List.length_take]; omega, by rw [List.getElem_take]⟩
    have hlen : p + (rest s p).length = s.size := by have := rest_len (Nat.le_of_lt hps); omega
    rcases Nat.lt_or_ge e (p + (Utf8.decode s p).2) with hlt | hge
    · exfalso
      rcases hb with e0 | ⟨k, n, hk, hkn, hn, hcut⟩
      · omega
      · have hkl := rest_len (Nat.le_of_lt hk)
        rcases hcut with e1 | ⟨c, hc1, hc2⟩ | ⟨c, hc1, hc2⟩
        · omega
        · obtain ⟨d, hd1, hd2⟩ := hall (e - p) (by omega)
          rw [get_rest] at hc1
          rw [show p + (e - p) = k + n by omega, hc1] at hd1
          cases hd1
          omega
        · obtain ⟨d, hd1, hd2⟩ := hall (e - 1 - p) (by omega)
          rw [get_rest] at hc1
          rw [show p + (e - 1 - p) = k + (n - 1) by omega, hc1] at hd1
          cases hd1
          omega
    · exact hge
/-- What Lex answers. -/
def LexRes (w w' : World) (es ed : Addr) (e : Ending) (L : List Lxm) (r : Option (Bool × Nat)) : Prop :=
  ∃ v u, e = .returned (.tuple #[v, u]) ∧ w'.ownsRow w.heap.size 38 9 v L.length (L.flatMap lcl) ∧ (match r with
    | none => u = .nilIface
    | some (b, q) => Placed w' u (if b = true then ed else es) (q : Int)) ∧ Ext w w'
theorem info_lex : (Tryz.prog.info? 38).map (fun i => (i.zero, i.size, i.bytes)) = some (some (.agg #[.int .i64 0, .int .i64 0, .int .i64 0, .string ⟨#[]⟩, .int .i64 0, .int .u64 0, .int .u64 0, .int .u64 0, .int .u64 0]), 9, 80) := by kernel_rfl
theorem ownsRow_iterAt {w : World} {base : Nat} {e : TypeId} {size : Nat} {v : Value} {n : Nat} {xs : List Value} (h : w.ownsRow base e size v n xs) {k : Nat} (hk : k < base) (s : ByteArray) (p : Nat) : (w.iterAt k s p).ownsRow base e size v n xs := by
  obtain ⟨h1, h2⟩ := h
  refine ⟨h1, ?_⟩
  rcases h2 with h2 | ⟨g, cap, cur, a, b, c, d⟩
  · exact .inl h2
  · exact .inr ⟨g, cap, cur, a, b, by rw [Lib.iterAt_other _ _ _ _ _ (by omega)]; exact c, d⟩
theorem ownsRow_base {w : World} {base base' : Nat} {e : TypeId} {size : Nat} {v : Value} {n : Nat} {xs : List Value} (h : w.ownsRow base e size v n xs) (hb : base' ≤ base) : w.ownsRow base' e size v n xs := by
  obtain ⟨h1, h2⟩ := h
  refine ⟨h1, ?_⟩
  rcases h2 with h2 | ⟨g, cap, cur, a, b, c, d⟩
  · exact .inl h2
  · exact .inr ⟨g, cap, cur, a, Nat.le_trans hb b, c, d⟩
theorem cell_new_all (w : World) (L : List Value) (t : TypeId) : ∀ j u, L[j]? = some u → (w.alloc (.cells L.toArray t)).cell? ((⟨w.heap.size, 0, none⟩ : Addr).add j) = some u := by
  intro j u h
  have h1 := (Blk.new w L.toArray t).cell j
  have h2 : (⟨w.heap.size, 0, none⟩ : Addr).add j = ⟨w.heap.size, j, none⟩ := by
    unfold Addr.add
    split
    · rename_i e; rw [e]
    · simp
  rw [h2, h1]
  simpa using h
theorem cell_new_at (w : World) (L : List Value) (t : TypeId) (b : Nat) (hb : b = w.heap.size) : ∀ j u, L[j]? = some u → (w.alloc (.cells L.toArray t)).cell? ((⟨b, 0, none⟩ : Addr).add j) = some u := by
  subst hb; exact cell_new_all w L t
theorem flat_app (A : List Lxm) (y : Lxm) : (A ++ [y]).flatMap lcl = A.flatMap lcl ++ lcl y := by simp
set_option maxHeartbeats 8000000 in
set_option maxRecDepth 20000 in
theorem lex_any (s : ByteArray) (hs : s.size ≤ 65536) (es ed : Addr) (w : World) (hK : Kn w es ed) (L : List Lxm) (r : Option (Bool × Nat)) (hx : lxs s.size (rest s 0) 0 = (L, r)) :
    Calls Tryz.prog 5 #[.string s] w fun e w' => LexRes w w' es ed e L r := by
  obtain ⟨i0, hi, hz0, hz1, hz2⟩ := info_parts info_lex
  have hrl0 := rest_len (show 0 ≤ s.size by omega)
  have HX := Lib.hid hx
  have HK := Lib.hid hK
  have d0 : decide ((65536 : Int) < (s.size : Int)) = false := by simp; omega
  have d0n : decide (65536 < s.size) = false := by simp; omega
  have HI := Lib.hid (And.intro (World.iter_heap w s 0) (show Ext w (w.iter s 0) from (Below.refl _ _).alloc (Nat.le_refl _) _))
  clear hx hK
  go_enter Tryz.func5, Tryz.ntmps5
  go_wp2_with fail
  clear d0 d0n
  go_loopw [4, 5] (fun v4 v5 wr => ∃ (p e : Nat) (A : List Lxm) (g : Nat), v5 = .int .i64 (e : Int) ∧ p ≤ e ∧ e ≤ s.size ∧ Hid (Bd s e) ∧ (rest s e).length ≤ g ∧ A.length ≤ e ∧ Hid (A ++ (lxs g (rest s e) e).1 = L ∧ (lxs g (rest s e) e).2 = r) ∧ Hid (wr.heap[w.heap.size]? = some (.stringIter s p)) ∧ Hid (Ext w wr) ∧ Hid (wr.ownsRow (w.heap.size + 1) 38 9 v4 A.length (A.flatMap lcl))) (fun _ _ wr => s.size - wr.iterPos w.heap.size)
  case atStart => exact ⟨0, 0, [], s.size, rfl, Nat.le_refl _, Nat.zero_le _, Lib.hid (.inl rfl), by omega, by simp, Lib.hid ⟨by rw [HX.out]; rfl, by rw [HX.out]⟩, Lib.hid HI.out.1, Lib.hid HI.out.2, Lib.hid (World.ownsRow_nil _ _ _ _)⟩
  case round =>
    clear HI HX
    obtain ⟨p, e, A, g, rfl, hpe, hes, hbd, hlen, hAe, hL, hit, hE, hown⟩ := hrel
    have hpos0 := Lib.hid (iterPos_of hit.out)
    by_cases hps : p < s.size
    · have hnx : ∀ ty, (Instr.next (.pointer (some ⟨w.heap.size, 0, none⟩)) true ty).run Tryz.prog wr = _ := fun ty => Lib.run_next_any_at wr w.heap.size s p ty hit.out hps
      obtain ⟨C, hC⟩ := lx_unc s p hps
      have hwd := width_pos s p hps
      have hor := one_rune s p C _ hC
      have hnc := no_cross s p e hbd.out
      have hlo := dec_low s p C _ hC
      have hit2 := Lib.hid (Lib.iterAt_heap wr w.heap.size s p (p + (Utf8.decode s p).2) hit.out)
      have hE2 := Lib.hid (Lib.below_iterAt hE.out (k := w.heap.size) (Nat.le_refl _) s (p + (Utf8.decode s p).2))
      have hown2 := Lib.hid (ownsRow_iterAt hown.out (k := w.heap.size) (by omega) s (p + (Utf8.decode s p).2))
      have hdl : C.toNat < 128 → (Utf8.decode s p).2 = 1 := fun h => by rw [hlo h]
      generalize (Utf8.decode s p).2 = d at hnx hit2 hE2 hown2 hwd hnc hdl
      generalize (Utf8.decode s p).1 = rn at hnx hor
      obtain ⟨W1, hW1⟩ : ∃ W1, W1 = wr.iterAt w.heap.size s (p + d) := ⟨_, rfl⟩
      rw [← hW1] at hnx hit2 hE2 hown2
      have HP2 := Lib.hid (iterPos_of hit2.out)
      clear hW1 hit hE hown hlo
      by_cases hlt : p < e
      · have d1 : decide ((p : Int) < (e : Int)) = true := by simp; omega
        have hpd := hnc hlt hps
        clear hor hnc hC hdl
        go_wp2_with fail
        go_roundw
        case rel => exact ⟨p + d, e, A, g, rfl, hpd, hes, hbd, hlen, hAe, hL, hit2, hE2, hown2⟩
        case measure => rw [HP2.out, hpos0.out]; omega
      · obtain rfl : p = e := by omega
        have d1 : decide ((p : Int) < (p : Int)) = false := by simp
        obtain ⟨z, hz⟩ : ∃ z, oneR rn (rest s p) p = z := ⟨_, rfl⟩
        have HRD := Lib.hid (fun w hK => lread_any rn s p hps (by omega) es ed w hK z hz)
        obtain ⟨g, rfl⟩ : ∃ g', g = g' + 1 := ⟨g - 1, by rw [hC] at hlen; simp at hlen; omega⟩
        have hstep : lxs (g + 1) (rest s p) p = lxN g (rest s p) p z := by rw [lxs_step g _ p (by rw [hC]; simp), hor, hz]
        cases z with
        | inl bq =>
          obtain ⟨b, q⟩ := bq
          have hLL : A = L ∧ some (b, q) = r := by
            have := hL.out
            rw [hstep] at this
            simpa [lxN] using this
          have HLL := Lib.hid hLL
          clear hstep hLL hL hz hor hnc hC hdl
          go_wp2_with fail
          refine (HRD.out _ (HK.out.ext hE2.out)).mono ?_
          rintro e w3 ⟨kd, a, en, T, n, x0, x1, x2, x3, v, rfl, ⟨pp, tp, rfl, hPb, hlp⟩, hx⟩
          have HPb := Lib.hid (And.intro hPb hlp)
          have HO3 := Lib.hid (own_grown hown2.out (grown_of_ext (row := none) hx) (fun j hj => by cases hj))
          have HE3 := Lib.hid (bel_call hE2.out hx)
          clear hx hPb hlp hown2 hE2 hit2 HRD hnx
          go_wp2_with fail
          go_ret2
          obtain ⟨rfl, rfl⟩ := HLL.out
          refine ⟨_, _, rfl, ownsRow_base (HO3.out.alloc _) (by omega), ⟨pp, tp, rfl, HPb.out.1.alloc _, HPb.out.2⟩, HE3.out.alloc HE3.out.size _⟩
        | inr y =>
          have hok := one_ok C (rest s (p + 1)) p y (by rw [← hz, ← hor, hC]; rfl)
          rw [← hC] at hok
          obtain ⟨hok, hc⟩ := hok
          have hd1 := hdl hc
          subst hd1
          have hrp := rest_len (Nat.le_of_lt hps)
          have hye := hok.hi
          have hyl := hok.lo
          have hye2 : y.e ≤ s.size := by omega
          have hry := rest_len hye2
          have hdr : (rest s p).drop (y.e - p) = rest s y.e := by rw [← rest_drop, show p + (y.e - p) = y.e by omega]
          unfold lxN at hstep
          dsimp only at hstep
          rw [hdr] at hstep
          have HBD := Lib.hid (show Bd s y.e from .inr ⟨p, y.e - p, hps, by omega, by omega, hok.cut⟩)
          have hLL := hL.out
          rw [hstep] at hLL
          have HLL := Lib.hid hLL
          have hyk := hok.kd
          have HYA := Lib.hid hok.a
          clear hstep hLL hL hz hor hnc hC hdl hok hdr hbd
          go_wp2_with fail
          refine (HRD.out _ (HK.out.ext hE2.out)).mono ?_
          rintro e w3 ⟨rfl, hx⟩
          have HO3 := Lib.hid (own_grown hown2.out (grown_of_ext (row := none) hx) (fun j hj => by cases hj))
          have HE3 := Lib.hid (bel_call hE2.out hx)
          have HI3 := Lib.hid (iter_ext hit2.out hx)
          have hlt3 : w.heap.size < w3.heap.size := Nat.lt_of_lt_of_le ((Array.getElem?_eq_some_iff.1 hit2.out).1) hx.size
          have HT3 := Lib.hid (Blk.new w3 (lcs (y.kind : Int) (y.a : Int) (y.e : Int) ⟨y.t.toArray⟩ (y.n : Int) (wd y.S 0) (wd y.S 1) (wd y.S 2) (wd y.S 3)) 38)
          have k0 := HT3.out.cell 0
          have k1 := HT3.out.cell 1
          have k2 := HT3.out.cell 2
          have k3 := HT3.out.cell 3
          have k4 := HT3.out.cell 4
          have k5 := HT3.out.cell 5
          have k6 := HT3.out.cell 6
          have k7 := HT3.out.cell 7
          have k8 := HT3.out.cell 8
          clear hx hown2 hE2 hit2 HRD hnx
          by_cases hk0 : y.kind = 0
          · have d2 : ((y.kind : Int) != 0) = false := by simp; omega
            have h2 := HLL.out
            simp only [hk0, if_true] at h2
            have HL2 := Lib.hid h2
            have HI4 := Lib.hid (iter_ext HI3.out (show Ext w3 (w3.alloc (.cells (lcs (y.kind : Int) (y.a : Int) (y.e : Int) ⟨y.t.toArray⟩ (y.n : Int) (wd y.S 0) (wd y.S 1) (wd y.S 2) (wd y.S 3)) 38)) from by (repeat' (first | (with_reducible exact Below.refl _ _) | (with_reducible assumption) | (with_reducible refine below_drewN ?_ _) | (with_reducible refine Below.alloc ?_ ?_ _) | (with_reducible refine Below.drew ?_) | (with_reducible refine Below.setCell ?_ ?_ _) | (with_reducible refine Below.trans ?_ (Below.mono (by with_reducible assumption) ?_)) | go_size))))
            have HP4 := Lib.hid (iterPos_of HI4.out)
            have HE4 := Lib.hid (HE3.out.alloc HE3.out.size (.cells (lcs (y.kind : Int) (y.a : Int) (y.e : Int) ⟨y.t.toArray⟩ (y.n : Int) (wd y.S 0) (wd y.S 1) (wd y.S 2) (wd y.S 3)) 38))
            have HO4 := Lib.hid (HO3.out.alloc (.cells (lcs (y.kind : Int) (y.a : Int) (y.e : Int) ⟨y.t.toArray⟩ (y.n : Int) (wd y.S 0) (wd y.S 1) (wd y.S 2) (wd y.S 3)) 38))
            clear h2 hk0 HLL HO3 HE3 HI3
            go_wp2_with fail
            go_roundw
            case rel => exact ⟨p + 1, y.e, A, g, rfl, by omega, hye2, HBD, by omega, by omega, HL2, HI4, HE4, HO4⟩
            case measure => rw [HP4.out, hpos0.out]; omega
          · have d2 : ((y.kind : Int) != 0) = true := by simp; omega
            have h2 := HLL.out
            simp only [hk0, if_false] at h2
            have HL2 := Lib.hid (show (A ++ [y]) ++ (lxs g (rest s y.e) y.e).1 = L ∧ (lxs g (rest s y.e) y.e).2 = r from ⟨by rw [List.append_assoc]; exact h2.1, h2.2⟩)
            have HX4 := Lib.hid (show Ext w ((w3.alloc (.cells (lcs (y.kind : Int) (y.a : Int) (y.e : Int) ⟨y.t.toArray⟩ (y.n : Int) (wd y.S 0) (wd y.S 1) (wd y.S 2) (wd y.S 3)) 38)).alloc (.cells (lcl y).toArray 38)) from by
              have h1 := HE3.out.alloc HE3.out.size (.cells (lcs (y.kind : Int) (y.a : Int) (y.e : Int) ⟨y.t.toArray⟩ (y.n : Int) (wd y.S 0) (wd y.S 1) (wd y.S 2) (wd y.S 3)) 38)
              exact h1.alloc h1.size _)
            have HI4 := Lib.hid (iter_ext HI3.out (show Ext w3 ((w3.alloc (.cells (lcs (y.kind : Int) (y.a : Int) (y.e : Int) ⟨y.t.toArray⟩ (y.n : Int) (wd y.S 0) (wd y.S 1) (wd y.S 2) (wd y.S 3)) 38)).alloc (.cells (lcl y).toArray 38)) from by (repeat' (first | (with_reducible exact Below.refl _ _) | (with_reducible assumption) | (with_reducible refine below_drewN ?_ _) | (with_reducible refine Below.alloc ?_ ?_ _) | (with_reducible refine Below.drew ?_) | (with_reducible refine Below.setCell ?_ ?_ _) | (with_reducible refine Below.trans ?_ (Below.mono (by with_reducible assumption) ?_)) | go_size))))
            clear h2 hk0 HLL HE3 HI3
            go_wp2_with (at_builtin; refine wpList_append_own _ rfl (.tmp 39) (.tmp 41) 23 rfl (w.heap.size + 1) 38 i0 (.agg #[.int .i64 0, .int .i64 0, .int .i64 0, .string ⟨#[]⟩, .int .i64 0, .int .u64 0, .int .u64 0, .int .u64 0, .int .u64 0]) 9 80 Tryz.underlying23 hi hz0 hz1 hz2 rfl (by decide) _ _ _ rfl ((HO3.out.alloc _).alloc _) ⟨_, 0, none⟩ 1 1 (lcl y) rfl rfl (cell_new_at _ (lcl y) _ _ (by simp)) (by intro u hu; simp [lcl] at hu; rcases hu with rfl | rfl | rfl | rfl | rfl | rfl | rfl | rfl | rfl <;> rfl) (by unfold maxLen; omega) (by omega) (by simp; omega) ?_; intro v1 w4 hown1 hgrow1 hnil1)
            go_roundw
            case rel =>
              have hE4 : Ext w w4 := ⟨hgrow1.os.trans HX4.out.os, hgrow1.tape.trans HX4.out.tape, hgrow1.output.trans HX4.out.output, Nat.le_trans HX4.out.size hgrow1.size, fun j hj => (hgrow1.block j (Nat.lt_of_lt_of_le hj HX4.out.size) (fun e => by have := (HO3.out.lt j e.symm).1; omega)).trans (HX4.out.block j hj)⟩
              have hI5 : w4.heap[w.heap.size]? = some (.stringIter s (p + 1)) := by
                rw [hgrow1.block w.heap.size ((Array.getElem?_eq_some_iff.1 HI4.out).1) (fun h => by have := (HO3.out.lt _ h.symm).1; omega)]
                exact HI4.out
              refine ⟨p + 1, y.e, A ++ [y], g, rfl, by omega, hye2, HBD, by omega, by simp; omega, HL2, Lib.hid hI5, Lib.hid hE4, Lib.hid ?_⟩
              rw [List.length_append, flat_app]
              exact hown1
            case measure =>
              have hI5 : w4.heap[w.heap.size]? = some (.stringIter s (p + 1)) := by
                rw [hgrow1.block w.heap.size ((Array.getElem?_eq_some_iff.1 HI4.out).1) (fun h => by have := (HO3.out.lt _ h.symm).1; omega)]
                exact HI4.out
              rw [iterPos_of hI5, hpos0.out]; omega
    · have hnx : ∀ ty, (Instr.next (.pointer (some ⟨w.heap.size, 0, none⟩)) true ty).run Tryz.prog wr = _ := fun ty => Lib.run_next_end_at wr w.heap.size s p ty hit.out hps
      have hend : A = L ∧ none = r := by
        have := hL.out
        rw [lx_end s e (by omega)] at this
        cases g with
        | zero => simpa [lxs] using this
        | succ g => simpa [lxs] using this
      have HEND := Lib.hid hend
      clear hend hL hbd
      go_wp2_with fail
      go_ret2
      obtain ⟨rfl, rfl⟩ := HEND.out
      exact ⟨_, _, rfl, ownsRow_base hown.out (by omega), rfl, hE.out⟩
end Go.Proofs.YtnecafokkhhhhaaGreatDoor
namespace Go.Proofs.YtnecafokkhhhhaaGreatDoor
open Go Go.RowKit
def mvl (d : Nat) (y : Lxm) : Lxm := ⟨y.kind, y.a + d, y.e + d, y.t, y.n, y.S⟩
def shx (d : Nat) : Sum (Bool × Nat) Lxm → Sum (Bool × Nat) Lxm
  | .inl (b, q) => .inl (b, q + d)
  | .inr y => .inr (mvl d y)
def shr (d : Nat) (r : Option (Bool × Nat)) : Option (Bool × Nat) := r.map fun x => (x.1, x.2 + d)
theorem add3 (k n d : Nat) : k + d + n = k + n + d := by omega
theorem oneR_shf (c : Nat) (l : List UInt8) (k d : Nat) : oneR c l (k + d) = shx d (oneR c l k) := by
  unfold oneR
  rw [quq_shf, (cls_shf unq d _).1]
  split
  · simp only [shx, mvl, add3]
  · split
    · simp only [shx, mvl, add3]
    · split
      · simp only [shx, mvl, add3]
      · split
        · split
          · rfl
          · simp only [shx, mvl, add3]
        · split
          · simp only [shx, mvl, add3]
          · split
            · cases quq unq l k with
              | inl q => rfl
              | inr x => rfl
            · split
              · cases cls unq (l.length + 1) 0 l k with
                | inl q => rfl
                | inr x => rfl
              · split
                · simp only [shx, mvl, add3]
                · split
                  · rfl
                  · simp only [shx, mvl, add3]
theorem one_shf (l : List UInt8) (k d : Nat) : one l (k + d) = shx d (one l k) := by
  cases l with
  | nil => rfl
  | cons c t => exact oneR_shf _ _ _ _
theorem lxs_shf : ∀ (g : Nat) (l : List UInt8) (k d : Nat), lxs g l (k + d) = ((lxs g l k).1.map (mvl d), shr d (lxs g l k).2)
  | 0, _, _, _ => rfl
  | g + 1, l, k, d => by
    by_cases h : l = []
    · subst h; simp [lxs, shr]
    · rw [lxs_step g l _ h, lxs_step g l _ h, one_shf]
      cases one l k with
      | inl x => rfl
      | inr y =>
        have e : y.e + d - (k + d) = y.e - k := by omega
        simp only [shx, lxN, mvl]
        rw [e, lxs_shf g _ y.e d]
        split <;> simp [mvl]
theorem one_lt {l : List UInt8} {k : Nat} {y : Lxm} (h : one l k = .inr y) : OneOk l k y := by
  cases l with
  | nil => cases h
  | cons c t => exact (one_ok c t k y h).1
theorem lxs_fuel : ∀ (g g' : Nat) (l : List UInt8) (k : Nat), l.length ≤ g → l.length ≤ g' → lxs g l k = lxs g' l k
  | 0, g', l, k, h, h' => by
    have : l = [] := List.length_eq_zero_iff.1 (by omega)
    subst this
    cases g' <;> simp [lxs]
  | g + 1, 0, l, k, h, h' => by
    have : l = [] := List.length_eq_zero_iff.1 (by omega)
    subst this
    simp [lxs]
  | g + 1, g' + 1, l, k, h, h' => by
    by_cases hl : l = []
    · subst hl; simp [lxs]
    · rw [lxs_step g l k hl, lxs_step g' l k hl]
      cases ho : one l k with
      | inl x => rfl
      | inr y =>
        have hok := one_lt ho
        have h1 := hok.lo
        have hd : (l.drop (y.e - k)).length ≤ l.length - 1 := by rw [List.length_drop]; omega
        unfold lxN
        simp only
        rw [lxs_fuel g g' _ _ (by omega) (by omega)]
def aheadL : List UInt8 := [32, 9, 35, 32, 120, 10]
theorem lex_ahead (l : List UInt8) : lxs (l.length + 6) (aheadL ++ l) 0 = (⟨6, 5, 6, [], 0, 0#256⟩ :: (lxs l.length l 0).1.map (mvl 6), shr 6 (lxs l.length l 0).2) := by
  have r1 : run rmk (35 :: 32 :: 120 :: 10 :: l) = 3 := by
    rw [run_cons_true _ _ _ (by decide), run_cons_true _ _ _ (by decide), run_cons_true _ _ _ (by decide), run_cons_false _ _ _ (by decide)]
  have o1 : one (32 :: 9 :: 35 :: 32 :: 120 :: 10 :: l) 0 = .inr ⟨0, 0, 1, [], 0, 0#256⟩ := rfl
  have o2 : one (9 :: 35 :: 32 :: 120 :: 10 :: l) 1 = .inr ⟨0, 1, 2, [], 0, 0#256⟩ := rfl
  have o3 : one (35 :: 32 :: 120 :: 10 :: l) 2 = .inr ⟨0, 2, 5, [], 0, 0#256⟩ := by
    show oneR 35 _ 2 = _
    unfold oneR
    rw [if_neg (by decide), if_pos rfl, r1]
  have o4 : one (10 :: l) 5 = .inr ⟨6, 5, 6, [], 0, 0#256⟩ := rfl
  have hs := lxs_shf (l.length + 2) l 0 6
  rw [lxs_fuel (l.length + 2) l.length l 0 (by omega) (Nat.le_refl _)] at hs
  show lxs (l.length + 5 + 1) (32 :: 9 :: 35 :: 32 :: 120 :: 10 :: l) 0 = _
  rw [lxs_step _ _ _ (by simp), o1]
  show lxs (l.length + 4 + 1) (9 :: 35 :: 32 :: 120 :: 10 :: l) 1 = _
  rw [lxs_step _ _ _ (by simp), o2]
  show lxs (l.length + 3 + 1) (35 :: 32 :: 120 :: 10 :: l) 2 = _
  rw [lxs_step _ _ _ (by simp), o3]
  show lxs (l.length + 2 + 1) (10 :: l) 5 = _
  rw [lxs_step _ _ _ (by simp), o4]
  show (_ :: (lxs (l.length + 2) l 6).1, (lxs (l.length + 2) l 6).2) = _
  rw [show (6 : Nat) = 0 + 6 from rfl, hs]
theorem one_err {l : List UInt8} {k : Nat} {b : Bool} {q : Nat} (h : one l k = .inl (b, q)) : q ≤ k + l.length := by
  cases l with
  | nil => cases h; omega
  | cons c t =>
    have h : oneR c.toNat (c :: t) k = .inl (b, q) := h
    unfold oneR at h
    split at h
    · cases h
    · split at h
      · cases h
      · split at h
        · cases h
        · split at h
          · split at h
            · cases h; omega
            · cases h
          · split at h
            · cases h
            · split at h
              · split at h
                · rename_i d hq
                  cases h
                  exact ((quq_len (c :: t) k).1 _ hq).2
                · cases h
              · split at h
                · split at h
                  · rename_i x hq
                    cases h
                    exact (((cls_len _).1 _ _ _).1 b q hq).2
                  · cases h
                · split at h
                  · cases h
                  · split at h
                    · cases h; omega
                    · cases h
theorem lxs_bnd : ∀ (g : Nat) (l : List UInt8) (k : Nat), (∀ y ∈ (lxs g l k).1, k ≤ y.a ∧ y.a < y.e ∧ y.e ≤ k + l.length) ∧ ∀ b q, (lxs g l k).2 = some (b, q) → q ≤ k + l.length
  | 0, _, _ => ⟨fun y h => by simp [lxs] at h, fun b q h => by simp [lxs] at h⟩
  | g + 1, l, k => by
    by_cases hl : l = []
    · subst hl; exact ⟨fun y h => by simp [lxs] at h, fun b q h => by simp [lxs] at h⟩
    · rw [lxs_step g l k hl]
      cases ho : one l k with
      | inl x =>
        refine ⟨fun y h => by simp [lxN] at h, fun b q h => ?_⟩
        simp only [lxN, Option.some.injEq] at h
        subst h
        exact one_err ho
      | inr y =>
        have hok := one_lt ho
        have h1 := hok.lo
        have h2 := hok.hi
        have h3 := hok.a
        obtain ⟨i1, i2⟩ := lxs_bnd g (l.drop (y.e - k)) y.e
        rw [List.length_drop] at i1 i2
        unfold lxN
        simp only
        split
        · exact ⟨fun z hz => by have := i1 z hz; omega, fun b q h => by have := i2 b q h; omega⟩
        · refine ⟨fun z hz => ?_, fun b q h => by have := i2 b q h; omega⟩
          rcases List.mem_cons.1 hz with rfl | hz
          · omega
          · have := i1 z hz; omega
end Go.Proofs.YtnecafokkhhhhaaGreatDoor
namespace Go.Proofs.YtnecafokkhhhhaaGreatDoor
open Go Go.RowKit
/-- Blanks, and perhaps a remark behind them that goes to the end. -/
def psd : List UInt8 → Bool
  | [] => true
  | c :: t => if c.toNat = 35 then t.all (fun d => rmk d.toNat) else blnk c.toNat && psd t
theorem one_pass (c : UInt8) (t : List UInt8) (k : Nat) (z : Lxm) (h : one (c :: t) k = .inr z) (hz : z.kind = 0) :
    (blnk c.toNat = true ∧ z = ⟨0, k, k + 1, [], 0, 0#256⟩) ∨ (c.toNat = 35 ∧ z = ⟨0, k, k + run rmk (c :: t), [], 0, 0#256⟩) := by
  have h : oneR c.toNat (c :: t) k = .inr z := h
  unfold oneR at h
  split at h
  · rename_i hb
    cases h
    exact .inl ⟨hb, rfl⟩
  · split at h
    · rename_i hc
      cases h
      exact .inr ⟨hc, rfl⟩
    · split at h
      · cases h; cases hz
      · split at h
        · split at h
          · cases h
          · cases h; cases hz
        · split at h
          · cases h; cases hz
          · split at h
            · split at h
              · cases h
              · cases h; cases hz
            · split at h
              · split at h
                · cases h
                · cases h; cases hz
              · split at h
                · cases h; cases hz
                · split at h
                  · cases h
                  · cases h; cases hz
theorem lxs_nil (g k : Nat) : lxs g [] k = ([], none) := by cases g <;> simp [lxs]
/-- Behind a remark there is a line's end, or nothing. -/
theorem lxs_rmk (g : Nat) (l : List UInt8) (k : Nat) (hg : l.length - run rmk l ≤ g) :
    (l.drop (run rmk l) = [] ∧ lxs g (l.drop (run rmk l)) k = ([], none)) ∨ (lxs g (l.drop (run rmk l)) k).1.head? = some ⟨6, k, k + 1, [], 0, 0#256⟩ := by
  rcases run_end rmk l with e | ⟨d, hd, hp⟩
  · left
    have h0 : l.drop (run rmk l) = [] := List.drop_eq_nil_of_le (by omega)
    rw [h0, lxs_nil]
    exact ⟨rfl, rfl⟩
  · right
    have hlt : run rmk l < l.length := by
      rcases Nat.lt_or_ge (run rmk l) l.length with h | h
      · exact h
      · rw [List.getElem?_eq_none h] at hd; cases hd
    have hd2 : d.toNat = 10 := by unfold rmk at hp; simpa using hp
    have e : l.drop (run rmk l) = d :: l.drop (run rmk l + 1) := by
      rw [List.getElem?_eq_getElem hlt] at hd
      cases hd
      exact List.drop_eq_getElem_cons hlt
    obtain ⟨g, rfl⟩ : ∃ x, g = x + 1 := ⟨g - 1, by omega⟩
    rw [e, lxs_step g _ _ (by simp)]
    have o : one (d :: l.drop (run rmk l + 1)) k = .inr ⟨6, k, k + 1, [], 0, 0#256⟩ := by
      show oneR d.toNat _ k = _
      unfold oneR
      rw [hd2, if_neg (by decide), if_neg (by decide), if_pos rfl]
    rw [o]
    unfold lxN
    simp
theorem lxs_next : ∀ (g : Nat) (l : List UInt8) (k : Nat) (y : Lxm) (Ys : List Lxm) (r : Option (Bool × Nat)), l.length ≤ g → lxs g l k = (y :: Ys, r) →
    k ≤ y.a ∧ psd (l.take (y.a - k)) = true ∧ one (l.drop (y.a - k)) y.a = .inr y ∧ y.kind ≠ 0 ∧ lxs g (l.drop (y.e - k)) y.e = (Ys, r)
  | 0, l, k, y, Ys, r, _, h => by simp [lxs] at h
  | g + 1, l, k, y, Ys, r, hg, h => by
    by_cases hl : l = []
    · subst hl; simp [lxs] at h
    · rw [lxs_step g l k hl] at h
      cases ho : one l k with
      | inl x => rw [ho] at h; simp [lxN] at h
      | inr z =>
        rw [ho] at h
        have hok := one_lt ho
        have z1 := hok.lo
        have z2 := hok.hi
        have z3 := hok.a
        have hdl : (l.drop (z.e - k)).length ≤ g := by rw [List.length_drop]; omega
        unfold lxN at h
        simp only at h
        by_cases hk : z.kind = 0
        · rw [if_pos hk] at h
          obtain ⟨b1, b2, b3, b4, b5⟩ := lxs_next g _ _ y Ys r hdl h
          have hb := (lxs_bnd g (l.drop (z.e - k)) z.e).1 y (by rw [h]; simp)
          refine ⟨by omega, ?_, ?_, b4, ?_⟩
          · cases l with
            | nil => exact absurd rfl hl
            | cons c t =>
              rcases one_pass c t k z ho hk with ⟨hc, rfl⟩ | ⟨hc, rfl⟩
              · simp only [Nat.add_sub_cancel_left, List.drop_succ_cons, List.drop_zero] at b1 b2
                rw [show y.a - k = (y.a - (k + 1)) + 1 by omega, List.take_succ_cons, psd, if_neg (by intro e; rw [e] at hc; cases hc), hc, b2]
                rfl
              · simp only [Nat.add_sub_cancel_left] at h hdl z1
                have hgg : (c :: t).length - run rmk (c :: t) ≤ g := by rw [List.length_drop] at hdl; exact hdl
                rcases lxs_rmk g (c :: t) (k + run rmk (c :: t)) hgg with ⟨_, e⟩ | e
                · rw [h] at e; cases e
                · rw [h] at e
                  simp only [List.head?_cons, Option.some.injEq] at e
                  subst e
                  simp only [Nat.add_sub_cancel_left]
                  rw [run_take]
                  have hct : rmk c.toNat = true := by rw [hc]; rfl
                  rw [List.takeWhile_cons_of_pos (p := fun c : UInt8 => rmk c.toNat) hct, psd, if_pos hc, List.all_eq_true]
                  intro d hd
                  exact mem_tw (fun c => rmk c.toNat) t d hd
          · rw [List.drop_drop, show z.e - k + (y.a - z.e) = y.a - k by omega] at b3
            exact b3
          · rw [List.drop_drop, show z.e - k + (y.e - z.e) = y.e - k by omega] at b5
            rw [← b5]
            exact lxs_fuel _ _ _ _ (by rw [List.length_drop]; omega) (by rw [List.length_drop]; omega)
        · rw [if_neg hk] at h
          simp only [Prod.mk.injEq, List.cons.injEq] at h
          obtain ⟨⟨rfl, h2⟩, h3⟩ := h
          rw [z3, Nat.sub_self, List.take_zero, List.drop_zero]
          refine ⟨Nat.le_refl _, rfl, ho, hk, ?_⟩
          rw [← h2, ← h3]
          exact lxs_fuel _ _ _ _ (by rw [List.length_drop]; omega) hdl
theorem lxs_rest : ∀ (g : Nat) (l : List UInt8) (k : Nat), l.length ≤ g → lxs g l k = ([], none) → psd l = true
  | 0, l, k, hg, _ => by
    have : l = [] := List.length_eq_zero_iff.1 (by omega)
    subst this; rfl
  | g + 1, l, k, hg, h => by
    by_cases hl : l = []
    · subst hl; rfl
    · rw [lxs_step g l k hl] at h
      cases ho : one l k with
      | inl x => rw [ho] at h; simp [lxN] at h
      | inr z =>
        rw [ho] at h
        have hok := one_lt ho
        have z1 := hok.lo
        have hdl : (l.drop (z.e - k)).length ≤ g := by rw [List.length_drop]; omega
        unfold lxN at h
        simp only at h
        by_cases hk : z.kind = 0
        · rw [if_pos hk] at h
          have ih := lxs_rest g _ _ hdl h
          cases l with
          | nil => exact absurd rfl hl
          | cons c t =>
            rcases one_pass c t k z ho hk with ⟨hc, rfl⟩ | ⟨hc, rfl⟩
            · simp only [Nat.add_sub_cancel_left, List.drop_succ_cons, List.drop_zero] at ih
              rw [psd, if_neg (by intro e; rw [e] at hc; cases hc), hc, ih]
              rfl
            · simp only [Nat.add_sub_cancel_left] at h hdl
              have hgg : (c :: t).length - run rmk (c :: t) ≤ g := by rw [List.length_drop] at hdl; exact hdl
              rcases lxs_rmk g (c :: t) (k + run rmk (c :: t)) hgg with ⟨e, _⟩ | e
              · have hct : rmk c.toNat = true := by rw [hc]; rfl
                have hall : ∀ d ∈ t, rmk d.toNat = true := by
                  intro d hd
                  have h1 : (c :: t).takeWhile (fun c => rmk c.toNat) = c :: t := by
                    have := List.take_append_drop (run rmk (c :: t)) (c :: t)
                    rw [e, run_take, List.append_nil] at this
                    exact this
                  exact mem_tw (fun c => rmk c.toNat) (c :: t) d (by rw [h1]; simp [hd])
                rw [psd, if_pos hc, List.all_eq_true]
                exact hall
              · rw [h] at e; cases e
        · rw [if_neg hk] at h
          simp at h
theorem lxs_many : ∀ (g : Nat) (l : List UInt8) (k : Nat), (lxs g l k).1.length ≤ l.length
  | 0, l, k => by simp [lxs]
  | g + 1, l, k => by
    by_cases hl : l = []
    · subst hl; simp [lxs]
    · rw [lxs_step g l k hl]
      cases ho : one l k with
      | inl x => simp [lxN]
      | inr y =>
        have h1 := (one_lt ho).lo
        have h2 := (one_lt ho).hi
        have ih := lxs_many g (l.drop (y.e - k)) y.e
        rw [List.length_drop] at ih
        unfold lxN
        simp only
        split
        · omega
        · rw [List.length_cons]; omega
/-- A lexeme's own bytes. -/
def LxOk (l : List UInt8) (k : Nat) (y : Lxm) : Prop :=
  ((y.kind = 1 ∨ y.kind = 5) ∧ y.t = l.take (y.e - k)) ∨ (y.kind = 6 ∧ y.e = k + 1 ∧ l[0]? = some 10) ∨ (y.kind = 3 ∧ k + 2 ≤ y.e ∧ l[0]? = some 34 ∧ l[y.e - 1 - k]? = some 34) ∨
    (y.kind = 4 ∧ ((y.e = k + 1 ∧ l[0]? = some 46) ∨ (l[0]? = some 91 ∧ l[y.e - 1 - k]? = some 93))) ∨ (y.kind = 2 ∧ ∃ c, l[0]? = some c ∧ dgt c.toNat = true)
theorem u8_of {c : UInt8} {n : Nat} (h : c.toNat = n) (hn : n < 256) : c = UInt8.ofNat n := by
  apply UInt8.toNat_inj.1
  rw [h, UInt8.toNat_ofNat']
  omega
theorem one_own (l : List UInt8) (k : Nat) (y : Lxm) (h : one l k = .inr y) (hk : y.kind ≠ 0) : LxOk l k y := by
  cases l with
  | nil => cases h
  | cons c t =>
    have h : oneR c.toNat (c :: t) k = .inr y := h
    unfold oneR at h
    split at h
    · cases h; exact absurd rfl hk
    · split at h
      · cases h; exact absurd rfl hk
      · split at h
        · rename_i hc
          cases h
          exact .inr (.inl ⟨rfl, rfl, by rw [u8_of hc (by decide)]; rfl⟩)
        · split at h
          · split at h
            · cases h
            · cases h
              exact .inl ⟨.inl rfl, by simp only [Nat.add_sub_cancel_left]⟩
          · split at h
            · rename_i hd
              cases h
              exact .inr (.inr (.inr (.inr ⟨rfl, c, rfl, hd⟩)))
            · split at h
              · rename_i hc
                split at h
                · cases h
                · rename_i A m hq
                  cases h
                  have h2 := quq_last hq
                  have h3 : k + 2 ≤ m := by
                    unfold quq at hq
                    split at hq
                    · have := quo_last _ _ _ _ _ _ hq
                      omega
                    · cases hq
                  exact .inr (.inr (.inl ⟨rfl, h3, by rw [u8_of hc (by decide)]; rfl, h2.2⟩))
              · split at h
                · rename_i hc
                  split at h
                  · cases h
                  · rename_i S m hq
                    cases h
                    have h2 := (cls_last _).1 _ _ _ _ _ hq
                    exact .inr (.inr (.inr (.inl ⟨rfl, .inr ⟨by rw [u8_of hc (by decide)]; rfl, h2.2⟩⟩)))
                · split at h
                  · rename_i hc
                    cases h
                    exact .inr (.inr (.inr (.inl ⟨rfl, .inl ⟨rfl, by rw [u8_of hc (by decide)]; rfl⟩⟩)))
                  · split at h
                    · cases h
                    · cases h
                      exact .inl ⟨.inr rfl, by simp only [Nat.add_sub_cancel_left]⟩
end Go.Proofs.YtnecafokkhhhhaaGreatDoor
namespace Go.Proofs.YtnecafokkhhhhaaGreatDoor
open Go Go.RowKit
theorem flat_get : ∀ (L : List Lxm) (i : Nat) (h : i < L.length) (f : Nat), f < 9 → (L.flatMap lcl)[i * 9 + f]? = (lcl L[i])[f]?
  | [], i, h, f, hf => by simp at h
  | y :: L, 0, h, f, hf => by
    rw [List.flatMap_cons, Nat.zero_mul, Nat.zero_add, List.getElem?_append_left (by rw [lcl_len]; exact hf)]
    rfl
  | y :: L, i + 1, h, f, hf => by
    rw [List.flatMap_cons, List.getElem?_append_right (by rw [lcl_len]; omega), lcl_len, show (i + 1) * 9 + f - 9 = i * 9 + f by omega, flat_get L i (by simpa using h) f hf]
    rfl
theorem flat_len (L : List Lxm) : (L.flatMap lcl).length = L.length * 9 := by
  induction L with
  | nil => rfl
  | cons y L ih => rw [List.flatMap_cons, List.length_append, ih, lcl_len, List.length_cons]; omega
/-- The cells of a list that a call told. -/
def Lms (w : World) (g : Nat) (L : List Lxm) : Prop := g < w.heap.size ∧ ∀ i (h : i < L.length) f, f < 9 → w.cell? ⟨g, i * 9 + f, none⟩ = (lcl L[i])[f]?
theorem Lms.ext {w w' : World} {g : Nat} {L : List Lxm} (h : Lms w g L) (hx : Ext w w') : Lms w' g L :=
  ⟨Nat.lt_of_lt_of_le h.1 hx.size, fun i hi f hf => by rw [hx.cell (p := ⟨g, i * 9 + f, none⟩) h.1]; exact h.2 i hi f hf⟩
theorem lms_of_own {w : World} {base : Nat} {e : TypeId} {v : Value} {L : List Lxm} (h : w.ownsRow base e 9 v L.length (L.flatMap lcl)) :
    (∃ a cap, v = .slice a L.length cap) ∧ (0 < L.length → ∃ g cap, v = .slice (some ⟨g, 0, none⟩) L.length cap ∧ L.length ≤ cap ∧ cap ≤ maxLen ∧ base ≤ g ∧ Lms w g L) := by
  obtain ⟨hl, ⟨rfl, h0⟩ | ⟨g, cap, cur, rfl, hb, hg, h1, h2, h3, h4⟩⟩ := h
  · exact ⟨⟨none, 0, by rw [h0]⟩, fun hp => by omega⟩
  · refine ⟨⟨_, _, rfl⟩, fun _ => ⟨g, cap, rfl, h1, h2, hb, (Array.getElem?_eq_some_iff.1 hg).1, fun i hi f hf => ?_⟩⟩
    have hlt : i * 9 + f < L.length * 9 := by omega
    rw [← flat_get L i hi f hf, ← h4, List.getElem?_take_of_lt hlt]
    simp [World.cell?, hg]
set_option maxRecDepth 20000 in
theorem lx_same (kd a e : Int) (T : ByteArray) (n : Int) (S : BitVec 256) (w : World) :
    (Op.equalIn 10000 38 (.agg (lcs kd a e T n (wd S 0) (wd S 1) (wd S 2) (wd S 3))) (.agg (lcs kd a e T n (wd S 0) (wd S 1) (wd S 2) (wd S 3)))).run Tryz.prog w = .ok true w := by
  have hS : Tryz.prog.underlying 38 = some (.struct (Tryz.prog.fieldsOf 38)) := by kernel_rfl
  have hp : Tryz.prog.stoodInHeld 38 = false := by kernel_rfl
  have p0 : ∀ w, (part 3 (lcs kd a e T n (wd S 0) (wd S 1) (wd S 2) (wd S 3)) 0).run Tryz.prog w = .ok (.int .i64 kd) w := fun _ => by kernel_rfl
  have p1 : ∀ w, (part 3 (lcs kd a e T n (wd S 0) (wd S 1) (wd S 2) (wd S 3)) 1).run Tryz.prog w = .ok (.int .i64 a) w := fun _ => by kernel_rfl
  have p2 : ∀ w, (part 3 (lcs kd a e T n (wd S 0) (wd S 1) (wd S 2) (wd S 3)) 2).run Tryz.prog w = .ok (.int .i64 e) w := fun _ => by kernel_rfl
  have p3 : ∀ w, (part 9 (lcs kd a e T n (wd S 0) (wd S 1) (wd S 2) (wd S 3)) 3).run Tryz.prog w = .ok (.string T) w := fun _ => by kernel_rfl
  have p4 : ∀ w, (part 3 (lcs kd a e T n (wd S 0) (wd S 1) (wd S 2) (wd S 3)) 4).run Tryz.prog w = .ok (.int .i64 n) w := fun _ => by kernel_rfl
  have p5 : ∀ w, (part 36 (lcs kd a e T n (wd S 0) (wd S 1) (wd S 2) (wd S 3)) 5).run Tryz.prog w = .ok (sv S) w := fun _ => by kernel_rfl
  have e5 : ∀ w, (Op.equalIn 9999 36 (sv S) (sv S)).run Tryz.prog w = .ok true w := fun w => by rw [set_equal 9997 S S w]; simp
  have eI : ∀ x w, (Op.equalIn 9999 3 (.int .i64 x) (.int .i64 x)).run Tryz.prog w = .ok true w := fun x w => by rw [run_equalIn_int w 9998 _ _ .i64 _ _ Tryz.underlying3]; simp
  have eS : ∀ x w, (Op.equalIn 9999 9 (.string x) (.string x)).run Tryz.prog w = .ok true w := fun x w => by rw [run_equalIn_string w 9998 _ _ _ Tryz.underlying9]; simp
  rw [show (10000 : Nat) = 9999 + 1 from rfl, run_equalIn_agg w 9999 _ _ _ hS hp]
  simp only [Program.fieldsOf, Tryz.underlying38, Op.eqFields, Sem.run_bind, Sem.run_ite, p0, p1, p2, p3, p4, p5, Result.andThen_ok, eI, eS, e5]
  simp
theorem wk_lex : lxs 10 (rest ⟨#[97, 32, 61, 32, 49, 50, 32, 35, 32, 120]⟩ 0) 0 = ([⟨1, 0, 1, [97], 0, 0#256⟩, ⟨5, 2, 3, [61], 0, 0#256⟩, ⟨2, 4, 6, [], 12, 0#256⟩], none) := by kernel_rfl
set_option maxHeartbeats 1000000 in
set_option maxRecDepth 20000 in
theorem lwakes_any (es ed : Addr) (w : World) (hK : Kn w es ed) :
    Calls Tryz.prog 8 #[] w fun e w' => e = .returned (.bool true) ∧ Ext w w' := by
  have HLX := Lib.hid (fun w hK => lex_any ⟨#[97, 32, 61, 32, 49, 50, 32, 35, 32, 120]⟩ (by decide) es ed w hK _ _ wk_lex)
  have HK := Lib.hid hK
  clear hK
  go_enter Tryz.func8, Tryz.ntmps8
  go_wp2_with fail
  refine (HLX.out _ HK.out).mono ?_
  rintro e w1 ⟨v, u, rfl, hown, rfl, hx⟩
  obtain ⟨g, cap, rfl, hc1, hc2, hb, hg, hcell⟩ := (lms_of_own hown).2 (by decide)
  have c3 := hcell 0 (by decide) 3 (by decide)
  have c9 := hcell 1 (by decide) 0 (by decide)
  have c22 := hcell 2 (by decide) 4 (by decide)
  have c20 := hcell 2 (by decide) 2 (by decide)
  have k3 : w1.cell? ⟨g, 3, none⟩ = some (.string ⟨#[97]⟩) := c3
  have k9 : w1.cell? ⟨g, 9, none⟩ = some (.int .i64 5) := c9
  have k22 : w1.cell? ⟨g, 22, none⟩ = some (.int .i64 12) := c22
  have k20 : w1.cell? ⟨g, 20, none⟩ = some (.int .i64 6) := c20
  have HX := Lib.hid hx
  clear c3 c9 c22 c20 hcell hown hx HLX HK hb
  go_wp2_with fail
  go_ret
  exact ⟨rfl, HX.out⟩
end Go.Proofs.YtnecafokkhhhhaaGreatDoor
namespace Go.Proofs.YtnecafokkhhhhaaGreatDoor
open Go Go.RowKit
/-- A slice's place holds these lexemes. -/
def Lxv (w : World) (a : Option Addr) (L : List Lxm) : Prop := 0 < L.length → ∃ g, a = some ⟨g, 0, none⟩ ∧ Lms w g L
theorem Lxv.ext {w w' : World} {a : Option Addr} {L : List Lxm} (h : Lxv w a L) (hx : Ext w w') : Lxv w' a L := fun hl => by
  obtain ⟨g, e, hg⟩ := h hl
  exact ⟨g, e, hg.ext hx⟩
theorem Lms.take {w : World} {g : Nat} {L : List Lxm} (h : Lms w g L) (n : Nat) : Lms w g (L.take n) :=
  ⟨h.1, fun i hi f hf => by
    rw [List.length_take] at hi
    rw [h.2 i (by omega) f hf, List.getElem_take]⟩
theorem Lxv.take {w : World} {a : Option Addr} {L : List Lxm} (h : Lxv w a L) (n : Nat) : Lxv w a (L.take n) := fun hl => by
  rw [List.length_take] at hl
  obtain ⟨g, e, hg⟩ := h (by omega)
  exact ⟨g, e, hg.take n⟩
set_option maxHeartbeats 1000000 in
set_option maxRecDepth 20000 in
theorem eqlex_any (a b : Option Addr) (c1 c2 : Nat) (L : List Lxm) (w : World) (h1 : Lxv w a L) (h2 : Lxv w b L) (hl : L.length ≤ 9223372036854775806) :
    Calls Tryz.prog 6 #[.slice a L.length c1, .slice b L.length c2] w fun e w' => e = .returned (.bool true) ∧ Ext w w' := by
  have H1 := Lib.hid h1
  have H2 := Lib.hid h2
  clear h1 h2
  go_enter Tryz.func6, Tryz.ntmps6
  go_wp2_with fail
  go_loopw [5] (fun i wr => ∃ k : Nat, k ≤ L.length ∧ i = .int .i64 k ∧ Hid (Ext w wr)) (fun i _ => L.length - (intOf i).toNat)
  case atStart => exact ⟨0, Nat.zero_le _, rfl, Lib.hid (Below.refl _ _)⟩
  case round =>
    obtain ⟨k, hk, rfl, hEr⟩ := hrel
    by_cases hkl : k < L.length
    · have d1 : decide ((k : Int) < (L.length : Int)) = true := by simp; omega
      obtain ⟨g, rfl, hg⟩ := H1.out (by omega)
      obtain ⟨g2, rfl, hg2⟩ := H2.out (by omega)
      obtain ⟨y, hy⟩ : ∃ y, L[k] = y := ⟨_, rfl⟩
      have hLc := fun f hf => (hg.ext hEr.out).2 k hkl f hf
      have hMc := fun f hf => (hg2.ext hEr.out).2 k hkl f hf
      rw [hy] at hLc hMc
      have c0 : wr.cell? ⟨g, k * 9, none⟩ = some (.int .i64 (y.kind : Int)) := hLc 0 (by decide)
      have c1 : wr.cell? ⟨g, k * 9 + 1, none⟩ = some (.int .i64 (y.a : Int)) := hLc 1 (by decide)
      have c2 : wr.cell? ⟨g, k * 9 + 2, none⟩ = some (.int .i64 (y.e : Int)) := hLc 2 (by decide)
      have c3 : wr.cell? ⟨g, k * 9 + 3, none⟩ = some (.string ⟨y.t.toArray⟩) := hLc 3 (by decide)
      have c4 : wr.cell? ⟨g, k * 9 + 4, none⟩ = some (.int .i64 (y.n : Int)) := hLc 4 (by decide)
      have c5 : wr.cell? ⟨g, k * 9 + 5, none⟩ = some (.int .u64 (wd y.S 0)) := hLc 5 (by decide)
      have c6 : wr.cell? ⟨g, k * 9 + 6, none⟩ = some (.int .u64 (wd y.S 1)) := hLc 6 (by decide)
      have c7 : wr.cell? ⟨g, k * 9 + 7, none⟩ = some (.int .u64 (wd y.S 2)) := hLc 7 (by decide)
      have c8 : wr.cell? ⟨g, k * 9 + 8, none⟩ = some (.int .u64 (wd y.S 3)) := hLc 8 (by decide)
      have m0 : wr.cell? ⟨g2, k * 9, none⟩ = some (.int .i64 (y.kind : Int)) := hMc 0 (by decide)
      have m1 : wr.cell? ⟨g2, k * 9 + 1, none⟩ = some (.int .i64 (y.a : Int)) := hMc 1 (by decide)
      have m2 : wr.cell? ⟨g2, k * 9 + 2, none⟩ = some (.int .i64 (y.e : Int)) := hMc 2 (by decide)
      have m3 : wr.cell? ⟨g2, k * 9 + 3, none⟩ = some (.string ⟨y.t.toArray⟩) := hMc 3 (by decide)
      have m4 : wr.cell? ⟨g2, k * 9 + 4, none⟩ = some (.int .i64 (y.n : Int)) := hMc 4 (by decide)
      have m5 : wr.cell? ⟨g2, k * 9 + 5, none⟩ = some (.int .u64 (wd y.S 0)) := hMc 5 (by decide)
      have m6 : wr.cell? ⟨g2, k * 9 + 6, none⟩ = some (.int .u64 (wd y.S 1)) := hMc 6 (by decide)
      have m7 : wr.cell? ⟨g2, k * 9 + 7, none⟩ = some (.int .u64 (wd y.S 2)) := hMc 7 (by decide)
      have m8 : wr.cell? ⟨g2, k * 9 + 8, none⟩ = some (.int .u64 (wd y.S 3)) := hMc 8 (by decide)
      have hse := fun w => lx_same (y.kind : Int) (y.a : Int) (y.e : Int) ⟨y.t.toArray⟩ (y.n : Int) y.S w
      have i0 : (0 : Int) ≤ (k : Int) := by omega
      have i1 : (k : Int) < (L.length : Int) := by omega
      clear hLc hMc hy hg hg2
      go_wp2_with fail
      go_quiet (fail)
      go_wp2_with fail
      go_roundw
      case rel => exact ⟨k + 1, by omega, by go_num, Lib.hid (bel_call hEr.out (drew_ext _ _))⟩
      case measure => simp [intOf]; omega
    · have d1 : decide ((k : Int) < (L.length : Int)) = false := by simp; omega
      go_wp2_with fail
      go_ret
      exact ⟨rfl, hEr.out⟩
theorem add_zero (g j : Nat) : (⟨g, 0, none⟩ : Addr).add j = ⟨g, j, none⟩ := by unfold Addr.add; split <;> simp_all
/-- Where a list lies: nowhere, or from a block's beginning on. -/
def Lyf (w : World) (a : Option Addr) (cap : Nat) (L : List Lxm) : Prop := (a = none ∧ L = [] ∧ cap = 0) ∨ ∃ g, a = some ⟨g, 0, none⟩ ∧ g < w.heap.size ∧ ∀ j u, (L.flatMap lcl)[j]? = some u → w.cell? ((⟨g, 0, none⟩ : Addr).add j) = some u
theorem Lyf.ext {w w' : World} {a : Option Addr} {cap : Nat} {L : List Lxm} (h : Lyf w a cap L) (hx : Ext w w') : Lyf w' a cap L := by
  rcases h with h | ⟨g, e, hg, h⟩
  · exact .inl h
  · exact .inr ⟨g, e, Nat.lt_of_lt_of_le hg hx.size, fun j u hu => by rw [add_zero, hx.cell (p := ⟨g, j, none⟩) hg, ← add_zero]; exact h j u hu⟩
theorem own_none (w : World) (t : TypeId) : (w.alloc (.cells #[] t)).ownsRow w.heap.size t 9 (.slice (some ⟨w.heap.size, 0, none⟩) 0 0) 0 [] :=
  ⟨rfl, .inr ⟨w.heap.size, 0, #[], rfl, Nat.le_refl _, Blk.new w #[] t, Nat.le_refl _, by decide, rfl, rfl⟩⟩
theorem lcl_one (y : Lxm) : ∀ u ∈ lcl y, u.oneCell' = true := by
  intro u hu
  simp [lcl] at hu
  rcases hu with rfl | rfl | rfl | rfl | rfl | rfl | rfl | rfl | rfl <;> rfl
theorem lcl_ones (L : List Lxm) : ∀ u ∈ L.flatMap lcl, u.oneCell' = true := by
  intro u hu
  obtain ⟨y, _, h⟩ := List.mem_flatMap.1 hu
  exact lcl_one y u h
/-- What append lays lies above. -/
theorem ext_grown {w w1 w2 : World} {v : Value} {e : TypeId} {n : Nat} {xs : List Value} (h : Ext w w1) (hg : w1.grownBy w2 v.ownBlock) (ho : w1.ownsRow w.heap.size e 9 v n xs) : Ext w w2 :=
  ⟨hg.os.trans h.os, hg.tape.trans h.tape, hg.output.trans h.output, Nat.le_trans h.size hg.size, fun j hj => (hg.block j (Nat.lt_of_lt_of_le hj h.size) (fun e => by have := (ho.lt j e.symm).1; omega)).trans (h.block j hj)⟩
/-- A list that was told: where it lies. -/
theorem own_list {w : World} {base : Nat} {e : TypeId} {v : Value} {L : List Lxm} (h : w.ownsRow base e 9 v L.length (L.flatMap lcl)) :
    ∃ a cap, v = .slice a L.length cap ∧ Lxv w a L ∧ L.length ≤ cap ∧ Lyf w a cap L := by
  have h' := h
  obtain ⟨hl, ⟨rfl, h0⟩ | ⟨g, cap, cur, rfl, hb, hg, h1, h2, h3, h4⟩⟩ := h
  · have hL : L = [] := List.length_eq_zero_iff.1 h0
    subst hL
    exact ⟨none, 0, rfl, fun hp => by simp at hp, Nat.zero_le _, .inl ⟨rfl, rfl, rfl⟩⟩
  · refine ⟨some ⟨g, 0, none⟩, cap, rfl, fun hp => ?_, h1, .inr ⟨g, rfl, (Array.getElem?_eq_some_iff.1 hg).1, h'.cells (g := g) rfl⟩⟩
    obtain ⟨g', cap', e1, _, _, _, hm⟩ := (lms_of_own h').2 hp
    cases e1
    exact ⟨g, rfl, hm⟩
end Go.Proofs.YtnecafokkhhhhaaGreatDoor
