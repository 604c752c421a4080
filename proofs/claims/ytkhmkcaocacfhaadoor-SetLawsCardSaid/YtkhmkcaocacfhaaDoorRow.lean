/- From the row's conditions to the walks: the table that is laid; three sets that came in. -/
import Derived.Test.YtkhmkcaocacfhaaDoorBits2
import Derived.ProofKit
import Derived.LaidMore
import Derived.OpenShut
import Derived.Stop.Joined
import Derived.Deep.Strs
import Derived.Lib.LaidTab
import Derived.Carry
namespace Go.Proofs.YtkhmkcaocacfhaaDoor
open Go Go.ChangeShapes Go.WideShapes Go.ChangeAt Go.RowKit
theorem own : ownKnob Tryd.prog.godebug = none := by kernel_rfl
theorem laidOut : laidOutB Tryd.prog = true := by kernel_rfl
theorem gTab : Tryd.prog.globalNamed "math/bits.deBruijn64tab" = some 16 := by kernel_rfl
theorem tTab : (Tryd.prog.globals[16]?).map (·.type) = some 127 := by kernel_rfl
abbrev laidTab : List (String × DataW Unit) := [("math/bits.deBruijn64tab", Rows.laid_math_bits_deBruijn64tab)]
theorem tab_data : (Rows.laid_math_bits_deBruijn64tab : DataW Unit) = Lib.tabData .u8 (Lib.deBruijn64tab.map Int.ofNat) := by kernel_rfl
/-- WHAT THE CONDITION GIVES THE WALKS. -/
theorem tab_of_laid {W : World} (h : laidMetH Tryd.prog laidTab W) : Tab W := by
  rw [MakeChecks.laidMetH_plain _ _ _ (by kernel_rfl)] at h
  obtain ⟨ps, ⟨g0, t0, cs0, f0, p0, q0, hg0, ht0, hv0, hd0, _, _⟩, _⟩ := h
  obtain rfl := Option.some.inj (gTab.symm.trans hg0)
  obtain rfl := Option.some.inj (tTab.symm.trans ht0)
  rw [tab_data] at hd0
  have hcs := Lib.cells_of_tab Tryd.underlying127 Tryd.underlying5 (by kernel_rfl) (by kernel_rfl) hd0
  have hcell : ∀ j, W.cell? ⟨16, j, none⟩ = cs0[j]? := fun j => World.var?_cell hg0 hv0 j
  have hall : ∀ j, j < 64 → W.cell? ⟨16, j, none⟩ = some (.int .u8 (Lib.deBruijn64tab.getD j 0 : Nat)) := by
    intro j hj
    rw [hcell, ← Array.getElem?_toList, hcs, List.map_map, List.getElem?_map]
    have hl : j < Lib.deBruijn64tab.length := hj
    rw [List.getElem?_eq_getElem hl, List.getD_eq_getElem?_getD, List.getElem?_eq_getElem hl]
    rfl
  refine ⟨?_, hall⟩
  exact World.block_lt_of_cell? W ⟨16, 0, none⟩ (hall 0 (by omega))
/-- The door's own heap meets the condition. -/
theorem door_met (os : Os) (args : Array Value) : laidMetH Tryd.prog laidTab ((World.doorLaid Tryd.prog 400 os).forCall (fun _ _ => 0) ⟨#[], args, []⟩).memory :=
  laidMetH_of_parts (laidMet_of_run' 8 (by kernel_rfl) (by kernel_rfl)) (by kernel_rfl)
theorem four_of {α : Type} {l : List α} (h : l.length = 4) : ∃ a b c d, l = [a, b, c, d] :=
  match l, h with
  | [a, b, c, d], _ => ⟨a, b, c, d, rfl⟩
theorem twelve_of {l : List Value} (h : l.length = 12) : ∃ x0 x1 x2 x3 x4 x5 x6 x7 x8 x9 x10 x11, l = [x0, x1, x2, x3, x4, x5, x6, x7, x8, x9, x10, x11] :=
  match l, h with
  | [x0, x1, x2, x3, x4, x5, x6, x7, x8, x9, x10, x11], _ => ⟨x0, x1, x2, x3, x4, x5, x6, x7, x8, x9, x10, x11, rfl⟩
section
variable {H : Type} {enc : TypeId × Value → H} {w : World} {base : Nat} {sp : Nat → Bool} {held : Bool}
theorem set_trod {fuel : Nat} {cs : List Value} {y : DataW H × List MemPlace} (h : DataW.trod enc Tryd.prog w base sp held fuel 25 cs = some y) : ∃ s : BitVec 256, cs = [.int .u64 (wd s 0), .int .u64 (wd s 1), .int .u64 (wd s 2), .int .u64 (wd s 3)] ∧ y.2 = [] := by
  obtain ⟨xs, m, rfl, hx, hl, hn, hel⟩ := DataW.trod_array Tryd.underlying25 h
  have c4 : Tryd.prog.cellsOf 25 = 4 := by kernel_rfl
  have c1 : Tryd.prog.cellsOf 23 = 1 := by kernel_rfl
  rw [c4] at hl
  rw [c1] at hel
  obtain ⟨v0, v1, v2, v3, rfl⟩ := four_of hl
  obtain ⟨x0, x1, x2, x3, rfl⟩ := four_of hn
  have e0 := hel 0 (by omega); have e1 := hel 1 (by omega); have e2 := hel 2 (by omega); have e3 := hel 3 (by omega)
  simp only [Nat.zero_mul, Nat.one_mul, List.drop_zero, List.drop_succ_cons, List.take_succ_cons, List.take_zero, List.getElem?_cons_zero, List.getElem?_cons_succ, Nat.reduceMul] at e0 e1 e2 e3
  obtain ⟨n0, f0, g0, w0⟩ := DataW.trod_int Tryd.underlying23 e0
  obtain ⟨n1, f1, g1, w1⟩ := DataW.trod_int Tryd.underlying23 e1
  obtain ⟨n2, f2, g2, w2⟩ := DataW.trod_int Tryd.underlying23 e2
  obtain ⟨n3, f3, g3, w3⟩ := DataW.trod_int Tryd.underlying23 e3
  simp only [List.cons.injEq, and_true] at f0 f1 f2 f3
  subst f0; subst f1; subst f2; subst f3
  have bd : ∀ n : Int, (Lit.int .u64 n).wf = true → 0 ≤ n ∧ n ≤ 18446744073709551615 := fun n h => by
    simp only [Lit.wf, IntKind.min, IntKind.max, IntKind.signed, IntKind.bits, Bool.and_eq_true] at h
    simp at h
    omega
  obtain ⟨s, s0, s1, s2, s3⟩ := wd_make n0 n1 n2 n3 (bd _ w0) (bd _ w1) (bd _ w2) (bd _ w3)
  subst g0; subst g1; subst g2; subst g3
  exact ⟨s, by rw [s0, s1, s2, s3], by rw [hx]; rfl⟩
end
abbrev three (a b c : BitVec 256) : Array Value := #[.int .u64 (wd a 0), .int .u64 (wd a 1), .int .u64 (wd a 2), .int .u64 (wd a 3), .int .u64 (wd b 0), .int .u64 (wd b 1), .int .u64 (wd b 2), .int .u64 (wd b 3), .int .u64 (wd c 0), .int .u64 (wd c 1), .int .u64 (wd c 2), .int .u64 (wd c 3)]
set_option maxRecDepth 100000 in
theorem open_three {H : Type} {enc : TypeId × Value → H} {w : World} {r : Reach} {b0 : Nat} {v : Value} {d : DataW H} {p : List MemPlace} (hv : Value.okWide Tryd.prog w r b0 49 v) (h : DataW.Trod enc Tryd.prog w 0 (fun _ => true) true 49 v d p) :
    ∃ a b c : BitVec 256, v = .agg (three a b c) := by
  obtain ⟨cs, rfl, hsz⟩ := okWide_struct Tryd.underlying49 hv
  obtain ⟨fuel, hf⟩ := h
  obtain ⟨y0, y1, y2, n, hx, hl, h0, h1, h2⟩ := Deep.trod_struct3 Tryd.underlying49 hf
  obtain ⟨a, ha, _⟩ := set_trod h0
  obtain ⟨b, hb, _⟩ := set_trod h1
  obtain ⟨c, hc, _⟩ := set_trod h2
  refine ⟨a, b, c, ?_⟩
  have c4 : Tryd.prog.cellsOf 25 = 4 := by kernel_rfl
  have c12 : Tryd.prog.cellsOf 49 = 12 := by kernel_rfl
  rw [c12] at hl
  simp only [c4, Value.cells] at ha hb hc hl
  obtain ⟨l⟩ := cs
  obtain ⟨x0, x1, x2, x3, x4, x5, x6, x7, x8, x9, x10, x11, rfl⟩ := twelve_of (by simpa using hl)
  simp at ha hb hc
  obtain ⟨rfl, rfl, rfl, rfl⟩ := ha
  obtain ⟨rfl, rfl, rfl, rfl⟩ := hb
  obtain ⟨rfl, rfl, rfl, rfl⟩ := hc
  rfl
end Go.Proofs.YtkhmkcaocacfhaaDoor
