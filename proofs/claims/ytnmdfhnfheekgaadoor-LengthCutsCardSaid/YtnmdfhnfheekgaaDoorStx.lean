/- A set, read off a row's condition. -/
import Derived.Test.YtnmdfhnfheekgaaDoorSets
import Derived.Deep.Slices
import Derived.Test.YtnmdfhnfheekgaaDoorRows
import Derived.OpenShut
import Derived.ProofKit
import Derived.Deep.Strs
namespace Go.Proofs.YtnmdfhnfheekgaaDoor
open Go Go.ChangeShapes Go.WideShapes Go.ChangeAt Go.RowKit
theorem addr_add (b off i : Nat) : (⟨b, off, none⟩ : Addr).add i = ⟨b, off + i, none⟩ := by unfold Addr.add; split <;> simp_all
theorem four_of {α : Type} {l : List α} (h : l.length = 4) : ∃ a b c d, l = [a, b, c, d] :=
  match l, h with
  | [a, b, c, d], _ => ⟨a, b, c, d, rfl⟩
section
variable {H : Type} {enc : TypeId × Value → H} {w : World} {base : Nat} {sp : Nat → Bool} {held : Bool}
theorem set_trod {fuel : Nat} {cs : List Value} {y : DataW H × List MemPlace} (h : DataW.trod enc Tryd.prog w base sp held fuel 26 cs = some y) : ∃ s : BitVec 256, cs = [.int .u64 (wd s 0), .int .u64 (wd s 1), .int .u64 (wd s 2), .int .u64 (wd s 3)] ∧ y.2 = [] := by
  obtain ⟨xs, m, rfl, hx, hl, hn, hel⟩ := DataW.trod_array Tryd.underlying26 h
  have c4 : Tryd.prog.cellsOf 26 = 4 := by kernel_rfl
  have c1 : Tryd.prog.cellsOf 24 = 1 := by kernel_rfl
  rw [c4] at hl
  rw [c1] at hel
  obtain ⟨v0, v1, v2, v3, rfl⟩ := four_of hl
  obtain ⟨x0, x1, x2, x3, rfl⟩ := four_of hn
  have e0 := hel 0 (by omega); have e1 := hel 1 (by omega); have e2 := hel 2 (by omega); have e3 := hel 3 (by omega)
  simp only [Nat.zero_mul, Nat.one_mul, List.drop_zero, List.drop_succ_cons, List.take_succ_cons, List.take_zero, List.getElem?_cons_zero, List.getElem?_cons_succ, Nat.reduceMul] at e0 e1 e2 e3
  obtain ⟨n0, f0, g0, w0⟩ := DataW.trod_int Tryd.underlying24 e0
  obtain ⟨n1, f1, g1, w1⟩ := DataW.trod_int Tryd.underlying24 e1
  obtain ⟨n2, f2, g2, w2⟩ := DataW.trod_int Tryd.underlying24 e2
  obtain ⟨n3, f3, g3, w3⟩ := DataW.trod_int Tryd.underlying24 e3
  simp only [List.cons.injEq, and_true] at f0 f1 f2 f3
  subst f0; subst f1; subst f2; subst f3
  have bd : ∀ n : Int, (Lit.int .u64 n).wf = true → 0 ≤ n ∧ n ≤ 18446744073709551615 := fun n h => by
    simp only [Lit.wf, IntKind.min, IntKind.max, IntKind.signed, IntKind.bits, Bool.and_eq_true] at h
    simp at h
    omega
  obtain ⟨s, s0, s1, s2, s3⟩ := wd_make n0 n1 n2 n3 (bd _ w0) (bd _ w1) (bd _ w2) (bd _ w3)
  subst g0; subst g1; subst g2; subst g3
  exact ⟨s, by rw [s0, s1, s2, s3], by rw [hx]; rfl⟩
end
end Go.Proofs.YtnmdfhnfheekgaaDoor
