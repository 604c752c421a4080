/- From the rows' condition to the walks of package class: the errors, the table, the library's own number. -/
import Derived.Test.YtnecafokkhhhhaaDoorPrs
import Derived.Test.YtnecafokkhhhhaaDoorBits2
import Derived.Test.YtnecafokkhhhhaaDoorRows
import Derived.ProofKit
import Derived.LaidMore
import Derived.LaidLaws
import Derived.LaidHandle
import Derived.OpenShut
import Derived.Stop.Joined
import Derived.Deep.Strs
import Derived.Lib.LaidTab
import Derived.Shelf.Vars
import Derived.Carry
namespace Go.Proofs.YtnecafokkhhhhaaDoor
open Go Go.ChangeShapes Go.WideShapes Go.ChangeAt Go.RowKit
theorem own : ownKnob Tryd.prog.godebug = none := by kernel_rfl
theorem laidOut : laidOutB Tryd.prog = true := by kernel_rfl
theorem row_err (u : TypeId) (h : Tryd.prog.typeName? 3 u = some "*errors.errorString") : u = 108 :=
  typeName_ptr_named (nm := "errors.errorString") (by rw [show "*" ++ "errors.errorString" = "*errors.errorString" from by decide]; kernel_rfl) (by kernel_rfl) (by decide) u (by rw [show "*" ++ "errors.errorString" = "*errors.errorString" from by decide]; exact h)
theorem laid_pick {P : Program} {W : World} : ∀ {laid : List (String × DataW Unit)} {ps : List MemPlace}, DataW.LaidVars P W laid ps → ∀ {n : String} {d : DataW Unit}, (n, d) ∈ laid →
    ∃ g t cs fuel p, P.globalNamed n = some g ∧ (P.globals[g]?).map (·.type) = some t ∧ W.var? P n = some cs ∧ DataW.trod (fun _ => ()) P W 0 (fun _ => true) false fuel t cs.toList = some (d, p) ∧ ∀ y ∈ MemPlace.row ⟨g, 0, none⟩ cs.size ++ p, y ∈ ps
  | [], _, _, _, _, h => by cases h
  | (_, _) :: _, _, ⟨g, t, cs, fuel, p, _, h1, h2, h3, h4, h5, h6⟩, n, d, h => by
    subst h6
    rcases List.mem_cons.1 h with e | e
    · cases e
      exact ⟨g, t, cs, fuel, p, h1, h2, h3, h4, fun y hy => List.mem_append.2 (.inl hy)⟩
    · obtain ⟨g', t', cs', f', p', k1, k2, k3, k4, k5⟩ := laid_pick h5 e
      exact ⟨g', t', cs', f', p', k1, k2, k3, k4, fun y hy => List.mem_append.2 (.inr (k5 y hy))⟩
set_option maxRecDepth 100000 in
/-- An error that stands in its variable. -/
theorem laid_str {W : World} {laid : List (String × DataW Unit)} (h : laidMet Tryd.prog laid W) (n : String) (d : List UInt8) (hmem : (n, .iface "*errors.errorString" (.ptr (.agg [.lit (.string d)]))) ∈ laid) (g : Nat) (hg : Tryd.prog.globalNamed n = some g) (ht : (Tryd.prog.globals[g]?).map (·.type) = some 25) :
    ∃ a : Addr, W.cell? ⟨g, 0, none⟩ = some (strAt a) ∧ a.block < W.heap.size := by
  obtain ⟨ps, hv, _, hrows⟩ := h
  obtain ⟨g', t, cs, fuel, p, h1, h2, h3, h4, h5⟩ := laid_pick hv hmem
  obtain rfl := Option.some.inj (hg.symm.trans h1)
  obtain rfl := Option.some.inj (ht.symm.trans h2)
  obtain ⟨l⟩ := cs
  have ok : ∀ u v, l = [.iface u v] → Value.okWide Tryd.prog W .any 0 u v := fun u v e => by
    subst e
    exact (hrows g 0 (h5 _ (by simp [MemPlace.row]))).2 u v (by simpa using World.var?_cell h1 h3 0)
  obtain ⟨a, s, hl, hc, hs, _, hp⟩ := errorString_of_trod Tryd.underlying25 row_err Tryd.underlying108 Tryd.underlying110 rfl rfl Tryd.underlying9 (by kernel_rfl) (by kernel_rfl) h4 ok
  replace hl : l = [.iface 108 (.pointer (some a))] := hl
  subst hl
  exact ⟨a, by simpa using World.var?_cell h1 h3 0, World.block_lt_of_cell? W a hc⟩
theorem gTab : Tryd.prog.globalNamed "math/bits.deBruijn64tab" = some 8 := by kernel_rfl
theorem tTab : (Tryd.prog.globals[8]?).map (·.type) = some 124 := by kernel_rfl
theorem tab_data : (Rows.laid_math_bits_deBruijn64tab : DataW Unit) = Lib.tabData .u8 (Lib.deBruijn64tab.map Int.ofNat) := by kernel_rfl
theorem laid_tab {W : World} {laid : List (String × DataW Unit)} (h : laidMet Tryd.prog laid W) (hmem : ("math/bits.deBruijn64tab", (Rows.laid_math_bits_deBruijn64tab : DataW Unit)) ∈ laid) : Tab W := by
  obtain ⟨ps, hv, _, hrows⟩ := h
  obtain ⟨g0, t0, cs0, f0, p0, hg0, ht0, hv0, hd0, _⟩ := laid_pick hv hmem
  obtain rfl := Option.some.inj (gTab.symm.trans hg0)
  obtain rfl := Option.some.inj (tTab.symm.trans ht0)
  rw [tab_data] at hd0
  have hcs := Lib.cells_of_tab Tryd.underlying124 Tryd.underlying5 (by kernel_rfl) (by kernel_rfl) hd0
  have hcell : ∀ j, W.cell? ⟨8, j, none⟩ = cs0[j]? := fun j => World.var?_cell hg0 hv0 j
  have hall : ∀ j, j < 64 → W.cell? ⟨8, j, none⟩ = some (.int .u8 (Lib.deBruijn64tab.getD j 0 : Nat)) := by
    intro j hj
    rw [hcell, ← Array.getElem?_toList, hcs, List.map_map, List.getElem?_map]
    have hl : j < Lib.deBruijn64tab.length := hj
    rw [List.getElem?_eq_getElem hl, List.getD_eq_getElem?_getD, List.getElem?_eq_getElem hl]
    rfl
  refine ⟨?_, hall⟩
  exact World.block_lt_of_cell? W ⟨8, 0, none⟩ (hall 0 (by omega))
theorem ml_of_shaped {W : World} (h : W.ShapedOpen Tryd.prog) : ∃ m, W.cell? ⟨3, 0, none⟩ = some (.int .i64 m) :=
  cell_of_shapedOpen_int (t := 3) (zero := #[.int .i64 0]) h (of_decide_eq_true (by kernel_rfl)) (by kernel_rfl) rfl (by kernel_rfl) (by kernel_rfl) Tryd.underlying3
theorem gS1 : Tryd.prog.globalNamed "bolter/fault.ErrSyntax" = some 1 := by kernel_rfl
theorem gS2 : Tryd.prog.globalNamed "bolter/fault.ErrDeep" = some 2 := by kernel_rfl
theorem gS3 : Tryd.prog.globalNamed "strconv.ErrSyntax" = some 4 := by kernel_rfl
theorem tS1 : (Tryd.prog.globals[1]?).map (·.type) = some 25 := by kernel_rfl
theorem tS2 : (Tryd.prog.globals[2]?).map (·.type) = some 25 := by kernel_rfl
theorem tS3 : (Tryd.prog.globals[4]?).map (·.type) = some 25 := by kernel_rfl
/-- What every walk of the statements leans on. -/
theorem known_of {W : World} {laid : List (String × DataW Unit)} (h : laidMet Tryd.prog laid W) (hs : W.ShapedOpen Tryd.prog)
    (m1 : ("bolter/fault.ErrSyntax", (Rows.laid_bolter_fault_ErrSyntax : DataW Unit)) ∈ laid) (m2 : ("bolter/fault.ErrDeep", (Rows.laid_bolter_fault_ErrDeep : DataW Unit)) ∈ laid) (m3 : ("strconv.ErrSyntax", (Rows.laid_strconv_ErrSyntax : DataW Unit)) ∈ laid) :
    ∃ es ed, Kn W es ed := by
  obtain ⟨es, h1, l1⟩ := laid_str h _ _ m1 _ gS1 tS1
  obtain ⟨ed, h2, l2⟩ := laid_str h _ _ m2 _ gS2 tS2
  obtain ⟨ev, h3, _⟩ := laid_str h _ _ m3 _ gS3 tS3
  exact ⟨es, ed, h1, h2, ⟨_, _, h3⟩, ml_of_shaped hs, l1, l2⟩
end Go.Proofs.YtnecafokkhhhhaaDoor
