/- How many bytes unions, cuts and complements have. -/
import Derived.Test.YtkhmkcaocacfhaaDoorList
namespace Go.Proofs.YtkhmkcaocacfhaaDoor
open Go Go.RowKit
theorem ones_or_and : ∀ n x y, ones n (x ||| y) + ones n (x &&& y) = ones n x + ones n y
  | 0, _, _ => rfl
  | n + 1, x, y => by
    have ih := ones_or_and n (x / 2) (y / 2)
    unfold ones at *
    simp only [dsum]
    rw [Nat.or_div_two, Nat.and_div_two]
    have h1 := Nat.or_mod_two_eq_one (a := x) (b := y)
    have h2 := Nat.and_mod_two_eq_one (a := x) (b := y)
    have h3 := Nat.mod_two_eq_zero_or_one (x ||| y)
    have h4 := Nat.mod_two_eq_zero_or_one (x &&& y)
    have h5 := Nat.mod_two_eq_zero_or_one x
    have h6 := Nat.mod_two_eq_zero_or_one y
    have : (x ||| y) % 2 + (x &&& y) % 2 = x % 2 + y % 2 := by
      omega
    omega
theorem word_or (s t : BitVec 256) (k : Nat) : word (s ||| t) k = word s k ||| word t k := by
  unfold word; rw [← BitVec.toNat_or]; congr 1; ext i; simp
theorem word_and (s t : BitVec 256) (k : Nat) : word (s &&& t) k = word s k &&& word t k := by
  unfold word; rw [← BitVec.toNat_and]; congr 1; ext i; simp
theorem cnt_or_and (s t : BitVec 256) : cnt (s ||| t) + cnt (s &&& t) = cnt s + cnt t := by
  unfold cnt
  simp only [word_or, word_and]
  have h0 := ones_or_and 64 (word s 0) (word t 0); have h1 := ones_or_and 64 (word s 1) (word t 1); have h2 := ones_or_and 64 (word s 2) (word t 2); have h3 := ones_or_and 64 (word s 3) (word t 3)
  omega
theorem cnt_full : cnt full = 256 := by decide +kernel
theorem cnt_zero : cnt 0#256 = 0 := by decide +kernel
theorem or_compl (s : BitVec 256) : s ||| ~~~s = full := by
  unfold full; ext i hi; simp
theorem and_compl (s : BitVec 256) : s &&& ~~~s = 0#256 := by ext i hi; simp
theorem cnt_compl (s : BitVec 256) : cnt s + cnt (~~~s) = 256 := by
  have := cnt_or_and s (~~~s)
  rw [or_compl, and_compl, cnt_full, cnt_zero] at this
  omega
theorem within_union (s t : BitVec 256) : (s &&& ~~~t = 0#256) ↔ (s ||| t = t) := by
  constructor
  · intro h
    ext i hi
    have := congrArg (fun x : BitVec 256 => x.getLsbD i) h
    simp [hi] at this ⊢
    exact this
  · intro h
    ext i hi
    have := congrArg (fun x : BitVec 256 => x.getLsbD i) h
    simp [hi] at this ⊢
    exact this
theorem within_inter (s t : BitVec 256) : (s &&& t) &&& ~~~s = 0#256 := by
  ext i hi; simp; intro a b; exact a
theorem within_or (s t : BitVec 256) : s &&& ~~~(s ||| t) = 0#256 := by
  ext i hi; simp; intro a b; rw [a] at b; cases b
end Go.Proofs.YtkhmkcaocacfhaaDoor
