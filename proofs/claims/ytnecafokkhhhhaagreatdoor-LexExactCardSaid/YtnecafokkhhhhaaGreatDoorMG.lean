/- What the great seat's walks lean on: the table, the errors, what they tell; errors as data. -/
import Derived.Test.YtnecafokkhhhhaaGreatDoorMF
import Derived.Test.YtnecafokkhhhhaaGreatDoorRows
import Derived.ProofKit
import Derived.LaidMore
import Derived.LaidLaws
import Derived.LaidHandle
import Derived.OpenShut
import Derived.Stop.Joined
import Derived.Deep.Strs
import Derived.Lib.LaidTab
import Derived.Carry
import Derived.Test.YtnecafokkhhhhaaGreatDoorPrs
import Derived.Test.YtnecafokkhhhhaaGreatDoorMB
import Derived.Shelf.Vars
import Derived.Deep.Slices
import Derived.Test.YtnecafokkhhhhaaGreatDoorBnd
namespace Go.Proofs.YtnecafokkhhhhaaGreatDoor
open Go Go.ChangeShapes Go.WideShapes Go.ChangeAt Go.RowKit
theorem own : ownKnob Tryz.prog.godebug = none := by kernel_rfl
theorem laidOut : laidOutB Tryz.prog = true := by kernel_rfl
/-- The names of the errors, and their texts. -/
def snm : List String := ["bolter/fault.ErrLong", "bolter/fault.ErrSyntax", "bolter/fault.ErrDeep", "bolter/fault.ErrMany", "bolter/fault.ErrName", "bolter/fault.ErrDefCycle", "bolter/fault.ErrRepeat", "bolter/fault.ErrTooManyPositions", "bolter/fault.ErrTrail", "bolter/fault.ErrTooManyStates", "bolter/fault.ErrImage", "bolter/fault.ErrModeStack", "bolter/fault.ErrClosed", "bolter/fault.ErrArg", "bolter/fault.ErrCommand", "bolter/fault.ErrHandle"]
def stx : List (List UInt8) := [[116, 111, 111, 32, 108, 111, 110, 103], [115, 121, 110, 116, 97, 120], [116, 111, 111, 32, 100, 101, 101, 112], [116, 111, 111, 32, 109, 97, 110, 121], [110, 97, 109, 101], [100, 101, 102, 105, 110, 105, 116, 105, 111, 110, 32, 99, 121, 99, 108, 101], [114, 101, 112, 101, 97, 116], [116, 111, 111, 32, 109, 97, 110, 121, 32, 112, 111, 115, 105, 116, 105, 111, 110, 115], [116, 114, 97, 105, 108, 105, 110, 103, 32, 99, 111, 110, 116, 101, 120, 116], [116, 111, 111, 32, 109, 97, 110, 121, 32, 115, 116, 97, 116, 101, 115], [105, 109, 97, 103, 101], [109, 111, 100, 101, 32, 115, 116, 97, 99, 107], [99, 108, 111, 115, 101, 100], [97, 114, 103, 117, 109, 101, 110, 116], [99, 111, 109, 109, 97, 110, 100], [104, 97, 110, 100, 108, 101]]
abbrev sdat (k : Nat) : DataW Unit := .iface "*errors.errorString" (.ptr (.agg [.lit (.string (stx.getD k []))]))
theorem snm_g : ∀ k, k < 16 → Tryz.prog.globalNamed (snm.getD k "") = some (sg.getD k 0)
  | 0, _ => by kernel_rfl
  | 1, _ => by kernel_rfl
  | 2, _ => by kernel_rfl
  | 3, _ => by kernel_rfl
  | 4, _ => by kernel_rfl
  | 5, _ => by kernel_rfl
  | 6, _ => by kernel_rfl
  | 7, _ => by kernel_rfl
  | 8, _ => by kernel_rfl
  | 9, _ => by kernel_rfl
  | 10, _ => by kernel_rfl
  | 11, _ => by kernel_rfl
  | 12, _ => by kernel_rfl
  | 13, _ => by kernel_rfl
  | 14, _ => by kernel_rfl
  | 15, _ => by kernel_rfl
  | n + 16, h => by omega
theorem snm_t : ∀ k, k < 16 → (Tryz.prog.globals[sg.getD k 0]?).map (·.type) = some 29
  | 0, _ => by kernel_rfl
  | 1, _ => by kernel_rfl
  | 2, _ => by kernel_rfl
  | 3, _ => by kernel_rfl
  | 4, _ => by kernel_rfl
  | 5, _ => by kernel_rfl
  | 6, _ => by kernel_rfl
  | 7, _ => by kernel_rfl
  | 8, _ => by kernel_rfl
  | 9, _ => by kernel_rfl
  | 10, _ => by kernel_rfl
  | 11, _ => by kernel_rfl
  | 12, _ => by kernel_rfl
  | 13, _ => by kernel_rfl
  | 14, _ => by kernel_rfl
  | 15, _ => by kernel_rfl
  | n + 16, h => by omega
theorem stx_inj : ∀ k j, k < 16 → j < 16 → stx.getD k [] = stx.getD j [] → k = j := by
  have h : ((List.range 16).all fun k => (List.range 16).all fun j => !(stx.getD k [] == stx.getD j []) || k == j) = true := by decide +kernel
  intro k j hk hj e
  have h1 := List.all_eq_true.1 (List.all_eq_true.1 h k (List.mem_range.2 hk)) j (List.mem_range.2 hj)
  rw [e] at h1
  simpa using h1
theorem row_err (u : TypeId) (h : Tryz.prog.typeName? 3 u = some "*errors.errorString") : u = 192 :=
  typeName_ptr_named (nm := "errors.errorString") (by rw [show "*" ++ "errors.errorString" = "*errors.errorString" from by decide]; kernel_rfl) (by kernel_rfl) (by decide) u (by rw [show "*" ++ "errors.errorString" = "*errors.errorString" from by decide]; exact h)
theorem laid_pick {P : Program} {W : World} : ∀ {laid : List (String × DataW Unit)} {ps : List MemPlace}, DataW.LaidVars P W laid ps → ∀ {n : String} {d : DataW Unit}, (n, d) ∈ laid →
    ∃ g t cs fuel p, P.globalNamed n = some g ∧ (P.globals[g]?).map (·.type) = some t ∧ W.var? P n = some cs ∧ DataW.trod (fun _ => ()) P W 0 (fun _ => true) false fuel t cs.toList = some (d, p) ∧ ∀ y ∈ MemPlace.row ⟨g, 0, none⟩ cs.size ++ p, y ∈ ps
  | [], _, _, _, _, h => by cases h
  | (_, _) :: _, _, ⟨g, t, cs, fuel, p, _, h1, h2, h3, h4, h5, h6⟩, n, d, h => by
    subst h6
    rcases List.mem_cons.1 h with e | e
    · cases e
      exact ⟨g, t, cs, fuel, p, h1, h2, h3, h4, fun y hy => List.mem_append.2 (.inl hy)⟩
    · obtain ⟨g', t', cs', f', p', k1, k2, k3, k4, k5⟩ := laid_pick h5 e
      exact ⟨g', t', cs', f', p', k1, k2, k3, k4, fun y hy => List.mem_append.2 (.inr (k5 y hy))⟩
set_option maxRecDepth 100000 in
/-- One of them. -/
theorem laid_err {W : World} {laid : List (String × DataW Unit)} (h : laidMet Tryz.prog laid W) (k : Nat) (hk : k < 16) (hmem : (snm.getD k "", sdat k) ∈ laid) :
    ∃ a : Addr, W.cell? ⟨sg.getD k 0, 0, none⟩ = some (errAt a) ∧ W.cell? a = some (.string ⟨(stx.getD k []).toArray⟩) ∧ ∃ c t, W.heap[a.block]? = some (.cells c t (0, 0)) := by
  obtain ⟨ps, hv, _, hrows⟩ := h
  obtain ⟨g, t, cs, fuel, p, h1, h2, h3, h4, h5⟩ := laid_pick hv hmem
  obtain rfl := Option.some.inj ((snm_g k hk).symm.trans h1)
  obtain rfl := Option.some.inj ((snm_t k hk).symm.trans h2)
  obtain ⟨l⟩ := cs
  have ok : ∀ u v, l = [.iface u v] → Value.okWide Tryz.prog W .any 0 u v := fun u v e => by
    subst e
    exact (hrows (sg.getD k 0) 0 (h5 _ (by simp [MemPlace.row]))).2 u v (by simpa using World.var?_cell h1 h3 0)
  obtain ⟨a, s, hl, hc, hs, _, hp⟩ := errorString_of_trod Tryz.underlying29 row_err Tryz.underlying192 Tryz.underlying194 rfl rfl Tryz.underlying9 (by kernel_rfl) (by kernel_rfl) h4 ok
  subst hp
  replace hl : l = [.iface 192 (.pointer (some a))] := hl
  subst hl
  refine ⟨a, by simpa using World.var?_cell h1 h3 0, ?_, (hrows a.block a.off (h5 _ (by simp [MemPlace.row]))).1⟩
  rw [hc, ← hs]
set_option maxRecDepth 100000 in
/-- All of them. -/
theorem errs_of_laid {W : World} {laid : List (String × DataW Unit)} (h : laidMet Tryz.prog laid W) (hmem : ∀ k, k < 16 → (snm.getD k "", sdat k) ∈ laid) :
    ∃ ea : Nat → Addr, Sent W ea ∧ ∀ k, k < 16 → W.cell? (ea k) = some (.string ⟨(stx.getD k []).toArray⟩) := by
  obtain ⟨ea, hea⟩ := Classical.axiomOfChoice (r := fun (k : Nat) (a : Addr) => k < 16 → W.cell? ⟨sg.getD k 0, 0, none⟩ = some (errAt a) ∧ W.cell? a = some (.string ⟨(stx.getD k []).toArray⟩) ∧ ∃ c t, W.heap[a.block]? = some (.cells c t (0, 0)))
    (fun k => by
      by_cases hk : k < 16
      · obtain ⟨a, ha⟩ := laid_err h k hk (hmem k hk)
        exact ⟨a, fun _ => ha⟩
      · exact ⟨⟨0, 0, none⟩, fun h => absurd h hk⟩)
  refine ⟨ea, ⟨fun k hk => (hea k hk).1, fun k hk => World.block_lt_of_cell? W ⟨sg.getD k 0, 0, none⟩ (hea k hk).1, fun k hk => (hea k hk).2.2, fun k j hk hj e => ?_⟩, fun k hk => (hea k hk).2.1⟩
  have h1 := (hea k hk).2.1
  rw [e, (hea j hj).2.1] at h1
  simp only [Option.some.injEq, Value.string.injEq, ByteArray.mk.injEq] at h1
  exact (stx_inj j k hj hk (by simpa using h1)).symm
theorem gErrT : Tryz.prog.globalNamed "errors.errorType" = some 16 := by kernel_rfl
theorem rErrT : (Tryz.prog.cutTypes.find? (·.1 == "internal/reflectlite.rtype")).map (·.2) = some 151 := by kernel_rfl
theorem oErrT : ((List.range 238).filter fun t => Tryz.prog.rowNamed t [101, 114, 114, 111, 114]) = [29] := by kernel_rfl
theorem nErrT : Tryz.prog.types.size = 238 := by kernel_rfl
set_option maxRecDepth 100000 in
theorem errT_of_laid {W : World} (h : handlesMet Tryz.prog [("errors.errorType", Rows.laid_errors_errorType)] W) : ErrT W := by
  obtain ⟨name, u, ty, e1, e2, e3, e4, e5⟩ := h _ (List.mem_singleton.2 rfl)
  have en : name = [101, 114, 114, 111, 114] := (Option.some.inj e1).symm
  subst en
  obtain rfl := Option.some.inj (rErrT.symm.trans e2)
  have hm : ty ∈ (List.range 238).filter fun t => Tryz.prog.rowNamed t [101, 114, 114, 111, 114] := List.mem_filter.2 ⟨List.mem_range.2 (by rw [← nErrT]; exact e3), e4⟩
  rw [oErrT] at hm
  obtain rfl := List.mem_singleton.1 hm
  have hh : typeHandle Tryz.prog 29 = .pointer (some ⟨23, 29, none⟩) := by kernel_rfl
  rw [hh] at e5
  unfold ErrT
  simpa using World.var?_cell gErrT e5 0
end Go.Proofs.YtnecafokkhhhhaaGreatDoor
namespace Go.Proofs.YtnecafokkhhhhaaGreatDoor
open Go Go.ChangeShapes Go.WideShapes Go.ChangeAt Go.RowKit
set_option maxRecDepth 100000 in
/-- An error that stands in its variable. -/
theorem laid_str {W : World} {laid : List (String × DataW Unit)} (h : laidMet Tryz.prog laid W) (n : String) (d : List UInt8) (hmem : (n, .iface "*errors.errorString" (.ptr (.agg [.lit (.string d)]))) ∈ laid) (g : Nat) (hg : Tryz.prog.globalNamed n = some g) (ht : (Tryz.prog.globals[g]?).map (·.type) = some 29) :
    ∃ a : Addr, W.cell? ⟨g, 0, none⟩ = some (strAt a) ∧ a.block < W.heap.size := by
  obtain ⟨ps, hv, _, hrows⟩ := h
  obtain ⟨g', t, cs, fuel, p, h1, h2, h3, h4, h5⟩ := laid_pick hv hmem
  obtain rfl := Option.some.inj (hg.symm.trans h1)
  obtain rfl := Option.some.inj (ht.symm.trans h2)
  obtain ⟨l⟩ := cs
  have ok : ∀ u v, l = [.iface u v] → Value.okWide Tryz.prog W .any 0 u v := fun u v e => by
    subst e
    exact (hrows g 0 (h5 _ (by simp [MemPlace.row]))).2 u v (by simpa using World.var?_cell h1 h3 0)
  obtain ⟨a, s, hl, hc, hs, _, hp⟩ := errorString_of_trod Tryz.underlying29 row_err Tryz.underlying192 Tryz.underlying194 rfl rfl Tryz.underlying9 (by kernel_rfl) (by kernel_rfl) h4 ok
  replace hl : l = [.iface 192 (.pointer (some a))] := hl
  subst hl
  exact ⟨a, by simpa using World.var?_cell h1 h3 0, World.block_lt_of_cell? W a hc⟩
theorem gTab : Tryz.prog.globalNamed "math/bits.deBruijn64tab" = some 22 := by kernel_rfl
theorem tTab : (Tryz.prog.globals[22]?).map (·.type) = some 208 := by kernel_rfl
theorem tab_data : (Rows.laid_math_bits_deBruijn64tab : DataW Unit) = Lib.tabData .u8 (Lib.deBruijn64tab.map Int.ofNat) := by kernel_rfl
theorem laid_tab {W : World} {laid : List (String × DataW Unit)} (h : laidMet Tryz.prog laid W) (hmem : ("math/bits.deBruijn64tab", (Rows.laid_math_bits_deBruijn64tab : DataW Unit)) ∈ laid) : Tab W := by
  obtain ⟨ps, hv, _, hrows⟩ := h
  obtain ⟨g0, t0, cs0, f0, p0, hg0, ht0, hv0, hd0, _⟩ := laid_pick hv hmem
  obtain rfl := Option.some.inj (gTab.symm.trans hg0)
  obtain rfl := Option.some.inj (tTab.symm.trans ht0)
  rw [tab_data] at hd0
  have hcs := Lib.cells_of_tab Tryz.underlying208 Tryz.underlying5 (by kernel_rfl) (by kernel_rfl) hd0
  have hcell : ∀ j, W.cell? ⟨22, j, none⟩ = cs0[j]? := fun j => World.var?_cell hg0 hv0 j
  have hall : ∀ j, j < 64 → W.cell? ⟨22, j, none⟩ = some (.int .u8 (Lib.deBruijn64tab.getD j 0 : Nat)) := by
    intro j hj
    rw [hcell, ← Array.getElem?_toList, hcs, List.map_map, List.getElem?_map]
    have hl : j < Lib.deBruijn64tab.length := hj
    rw [List.getElem?_eq_getElem hl, List.getD_eq_getElem?_getD, List.getElem?_eq_getElem hl]
    rfl
  refine ⟨?_, hall⟩
  exact World.block_lt_of_cell? W ⟨22, 0, none⟩ (hall 0 (by omega))
theorem ml_of_shaped {W : World} (h : W.ShapedOpen Tryz.prog) : ∃ m, W.cell? ⟨17, 0, none⟩ = some (.int .i64 m) :=
  cell_of_shapedOpen_int (t := 3) (zero := #[.int .i64 0]) h (of_decide_eq_true (by kernel_rfl)) (by kernel_rfl) rfl (by kernel_rfl) (by kernel_rfl) Tryz.underlying3
theorem gS1 : Tryz.prog.globalNamed "bolter/fault.ErrSyntax" = some 1 := by kernel_rfl
theorem gS2 : Tryz.prog.globalNamed "bolter/fault.ErrDeep" = some 2 := by kernel_rfl
theorem gS3 : Tryz.prog.globalNamed "strconv.ErrSyntax" = some 18 := by kernel_rfl
theorem tS1 : (Tryz.prog.globals[1]?).map (·.type) = some 29 := by kernel_rfl
theorem tS2 : (Tryz.prog.globals[2]?).map (·.type) = some 29 := by kernel_rfl
theorem tS3 : (Tryz.prog.globals[18]?).map (·.type) = some 29 := by kernel_rfl
/-- What every walk of the statements leans on. -/
theorem known_of {W : World} {laid : List (String × DataW Unit)} (h : laidMet Tryz.prog laid W) (hs : W.ShapedOpen Tryz.prog)
    (m1 : ("bolter/fault.ErrSyntax", (Rows.laid_bolter_fault_ErrSyntax : DataW Unit)) ∈ laid) (m2 : ("bolter/fault.ErrDeep", (Rows.laid_bolter_fault_ErrDeep : DataW Unit)) ∈ laid) (m3 : ("strconv.ErrSyntax", (Rows.laid_strconv_ErrSyntax : DataW Unit)) ∈ laid) :
    ∃ es ed, Kn W es ed := by
  obtain ⟨es, h1, l1⟩ := laid_str h _ _ m1 _ gS1 tS1
  obtain ⟨ed, h2, l2⟩ := laid_str h _ _ m2 _ gS2 tS2
  obtain ⟨ev, h3, _⟩ := laid_str h _ _ m3 _ gS3 tS3
  exact ⟨es, ed, h1, h2, ⟨_, _, h3⟩, ml_of_shaped hs, l1, l2⟩
end Go.Proofs.YtnecafokkhhhhaaGreatDoor
namespace Go.Proofs.YtnecafokkhhhhaaGreatDoor
open Go Go.ChangeShapes Go.WideShapes Go.ChangeAt Go.RowKit
/-- A list of sets that came in. -/
def SetsIn (w : World) (v : Value) (L : List (BitVec 256)) : Prop :=
  ∃ a cap, v = .slice a L.length cap ∧ L.length ≤ cap ∧ cap ≤ maxLen ∧ (L = [] ∨ ∃ b o, a = some ⟨b, o, none⟩ ∧ b < w.heap.size ∧ ∀ i (h : i < L.length), w.cell? ⟨b, o + i * 4, none⟩ = some (.int .u64 (wd L[i] 0)) ∧ w.cell? ⟨b, o + i * 4 + 1, none⟩ = some (.int .u64 (wd L[i] 1)) ∧ w.cell? ⟨b, o + i * 4 + 2, none⟩ = some (.int .u64 (wd L[i] 2)) ∧ w.cell? ⟨b, o + i * 4 + 3, none⟩ = some (.int .u64 (wd L[i] 3)))
theorem SetsIn.ext {w w' : World} {v : Value} {L : List (BitVec 256)} (h : SetsIn w v L) (hx : Ext w w') : SetsIn w' v L := by
  obtain ⟨a, cap, hv, h1, h2, h⟩ := h
  refine ⟨a, cap, hv, h1, h2, ?_⟩
  rcases h with h | ⟨b, o, ha, hb, h⟩
  · exact .inl h
  · refine .inr ⟨b, o, ha, Nat.lt_of_lt_of_le hb hx.size, fun i hi => ?_⟩
    obtain ⟨c0, c1, c2, c3⟩ := h i hi
    exact ⟨(hx.cell (p := ⟨b, _, none⟩) hb).trans c0, (hx.cell (p := ⟨b, _, none⟩) hb).trans c1, (hx.cell (p := ⟨b, _, none⟩) hb).trans c2, (hx.cell (p := ⟨b, _, none⟩) hb).trans c3⟩
/-- A list of texts that came in. -/
def StrsIn (w : World) (v : Value) (L : List ByteArray) : Prop :=
  ∃ a cap, v = .slice a L.length cap ∧ L.length ≤ cap ∧ cap ≤ maxLen ∧ (L = [] ∨ ∃ b o, a = some ⟨b, o, none⟩ ∧ b < w.heap.size ∧ ∀ i (h : i < L.length), w.cell? ⟨b, o + i, none⟩ = some (.string L[i]))
theorem StrsIn.ext {w w' : World} {v : Value} {L : List ByteArray} (h : StrsIn w v L) (hx : Ext w w') : StrsIn w' v L := by
  obtain ⟨a, cap, hv, h1, h2, h⟩ := h
  refine ⟨a, cap, hv, h1, h2, ?_⟩
  rcases h with h | ⟨b, o, ha, hb, h⟩
  · exact .inl h
  · exact .inr ⟨b, o, ha, Nat.lt_of_lt_of_le hb hx.size, fun i hi => (hx.cell (p := ⟨b, _, none⟩) hb).trans (h i hi)⟩
theorem SetsIn.cells {w : World} {va : Option Addr} {n cap : Nat} {L : List (BitVec 256)} (h : SetsIn w (.slice va n cap) L) {k : Nat} (hk : k < L.length) :
    ∃ b o, va = some ⟨b, o, none⟩ ∧ b < w.heap.size ∧ ∀ i (h : i < L.length), w.cell? ⟨b, o + i * 4, none⟩ = some (.int .u64 (wd L[i] 0)) ∧ w.cell? ⟨b, o + i * 4 + 1, none⟩ = some (.int .u64 (wd L[i] 1)) ∧ w.cell? ⟨b, o + i * 4 + 2, none⟩ = some (.int .u64 (wd L[i] 2)) ∧ w.cell? ⟨b, o + i * 4 + 3, none⟩ = some (.int .u64 (wd L[i] 3)) := by
  obtain ⟨a', c', h1, _, _, h | ⟨b, o, ha, hb, h⟩⟩ := h
  · subst h; exact absurd hk (by simp)
  · cases h1
    exact ⟨b, o, ha, hb, h⟩
theorem StrsIn.cells {w : World} {va : Option Addr} {n cap : Nat} {L : List ByteArray} (h : StrsIn w (.slice va n cap) L) {k : Nat} (hk : k < L.length) :
    ∃ b o, va = some ⟨b, o, none⟩ ∧ b < w.heap.size ∧ ∀ i (h : i < L.length), w.cell? ⟨b, o + i, none⟩ = some (.string L[i]) := by
  obtain ⟨a', c', h1, _, _, h | ⟨b, o, ha, hb, h⟩⟩ := h
  · subst h; exact absurd hk (by simp)
  · cases h1
    exact ⟨b, o, ha, hb, h⟩
theorem addr_add (b off i : Nat) : (⟨b, off, none⟩ : Addr).add i = ⟨b, off + i, none⟩ := by unfold Addr.add; split <;> simp_all
theorem four_of {α : Type} {l : List α} (h : l.length = 4) : ∃ a b c d, l = [a, b, c, d] :=
  match l, h with
  | [a, b, c, d], _ => ⟨a, b, c, d, rfl⟩
section
variable {H : Type} {enc : TypeId × Value → H} {w : World} {base : Nat} {sp : Nat → Bool} {held : Bool}
theorem set_trod {fuel : Nat} {cs : List Value} {y : DataW H × List MemPlace} (h : DataW.trod enc Tryz.prog w base sp held fuel 36 cs = some y) : ∃ s : BitVec 256, cs = [.int .u64 (wd s 0), .int .u64 (wd s 1), .int .u64 (wd s 2), .int .u64 (wd s 3)] ∧ y.2 = [] := by
  obtain ⟨xs, m, rfl, hx, hl, hn, hel⟩ := DataW.trod_array Tryz.underlying36 h
  have c4 : Tryz.prog.cellsOf 36 = 4 := by kernel_rfl
  have c1 : Tryz.prog.cellsOf 34 = 1 := by kernel_rfl
  rw [c4] at hl
  rw [c1] at hel
  obtain ⟨v0, v1, v2, v3, rfl⟩ := four_of hl
  obtain ⟨x0, x1, x2, x3, rfl⟩ := four_of hn
  have e0 := hel 0 (by omega); have e1 := hel 1 (by omega); have e2 := hel 2 (by omega); have e3 := hel 3 (by omega)
  simp only [Nat.zero_mul, Nat.one_mul, List.drop_zero, List.drop_succ_cons, List.take_succ_cons, List.take_zero, List.getElem?_cons_zero, List.getElem?_cons_succ, Nat.reduceMul] at e0 e1 e2 e3
  obtain ⟨n0, f0, g0, w0⟩ := DataW.trod_int Tryz.underlying34 e0
  obtain ⟨n1, f1, g1, w1⟩ := DataW.trod_int Tryz.underlying34 e1
  obtain ⟨n2, f2, g2, w2⟩ := DataW.trod_int Tryz.underlying34 e2
  obtain ⟨n3, f3, g3, w3⟩ := DataW.trod_int Tryz.underlying34 e3
  simp only [List.cons.injEq, and_true] at f0 f1 f2 f3
  subst f0; subst f1; subst f2; subst f3
  have bd : ∀ n : Int, (Lit.int .u64 n).wf = true → 0 ≤ n ∧ n ≤ 18446744073709551615 := fun n h => by
    simp only [Lit.wf, IntKind.min, IntKind.max, IntKind.signed, IntKind.bits, Bool.and_eq_true] at h
    simp at h
    omega
  obtain ⟨s, s0, s1, s2, s3⟩ := wd_make n0 n1 n2 n3 (bd _ w0) (bd _ w1) (bd _ w2) (bd _ w3)
  subst g0; subst g1; subst g2; subst g3
  exact ⟨s, by rw [s0, s1, s2, s3], by rw [hx]; rfl⟩
end
theorem open_strsIn {H : Type} {enc : TypeId × Value → H} {w : World} {k : Nat} {c : Value} {y : DataW H × List MemPlace} (h : DataW.trod enc Tryz.prog w 0 (fun _ => true) true k 22 [c] = some y) : ∃ L, StrsIn w c L := by
  rcases Deep.open_strs Tryz.underlying22 Tryz.underlying9 (by kernel_rfl) h with ⟨hcs, _⟩ | ⟨a, len, cap, m, Sx, hcs, _, hl, hm, hmm, hx, hel⟩
  · simp only [List.cons.injEq, and_true] at hcs
    subst hcs
    exact ⟨[], none, 0, rfl, Nat.le_refl _, by unfold maxLen; omega, .inl rfl⟩
  · simp only [List.cons.injEq, and_true] at hcs
    subst hcs
    have hlm : len ≤ m := by rw [hmm]; split <;> omega
    refine ⟨(List.range len).map Sx, some a, cap, by simp, by simpa using hl, hm, ?_⟩
    by_cases h0 : len = 0
    · subst h0; exact .inl rfl
    · obtain ⟨b, off, spot⟩ := a
      have hspot : spot = none := by simpa [Addr.add] using World.cell?_spot (hel 0 (by omega)).1
      subst hspot
      refine .inr ⟨b, off, rfl, World.block_lt_of_cell? w (⟨b, off, none⟩ : Addr) (by have := (hel 0 (by omega)).1; rw [addr_add] at this; exact this), fun i hi => ?_⟩
      have hi' : i < len := by simpa using hi
      have := (hel i (by omega)).1
      rw [addr_add] at this
      rw [this]
      simp
end Go.Proofs.YtnecafokkhhhhaaGreatDoor
namespace Go.Proofs.YtnecafokkhhhhaaGreatDoor
open Go Go.ChangeShapes Go.WideShapes Go.ChangeAt Go.RowKit
structure Kg (w : World) (ea : Nat → Addr) : Prop where
  sent : Sent w ea
  errT : ErrT w
  kn : Kn w (ea 1) (ea 2)
  tab : Tab w
theorem Kg.ext {w w' : World} {ea : Nat → Addr} (h : Kg w ea) (hx : Ext w w') : Kg w' ea := ⟨h.sent.ext hx, h.errT.ext hx, h.kn.ext hx, h.tab.ext hx⟩
theorem code_sent {w : World} {ea : Nat → Addr} (h : Sent w ea) : ∀ f k j, f + k = 16 → j < 16 → k ≤ j → codeAt ea (ea j) f k = (j : Int) + 2
  | 0, k, j, hf, hj, hk => by omega
  | f + 1, k, j, hf, hj, hk => by
    unfold codeAt
    by_cases e : ea j = ea k
    · rw [if_pos e]
      have := h.inj j k hj (by omega) e
      omega
    · rw [if_neg e]
      have : k ≠ j := fun e2 => e (by rw [e2])
      exact code_sent h f (k + 1) j (by omega) hj (by omega)
/-- An error as data: none; or which of the sixteen, at what place. -/
def Er (w : World) (ea : Nat → Addr) (v : Value) : Option (Nat × Int) → Prop
  | none => v = .nilIface
  | some (j, q) => j < 16 ∧ ErrOf w [.place q] v (ea j)
theorem Er.ext {w w' : World} {ea : Nat → Addr} {v : Value} {d : Option (Nat × Int)} (h : Er w ea v d) (hx : Ext w w') : Er w' ea v d := by
  cases d with
  | none => exact h
  | some x => exact ⟨h.1, h.2.ext hx⟩
theorem Er.iface {w : World} {ea : Nat → Addr} {v : Value} {x : Nat × Int} (h : Er w ea v (some x)) : ∃ T x, v = .iface T x := ErrOf.iface h.2
/-- What it tells. -/
def erC : Option (Nat × Int) → Int
  | none => 0
  | some (j, _) => (j : Int) + 2
def erA : Option (Nat × Int) → Int
  | none => 0
  | some (_, q) => q
theorem tell_er (ea : Nat → Addr) (v : Value) (d : Option (Nat × Int)) (w : World) (hK : Kg w ea) (h : Er w ea v d) :
    Calls Tryz.prog 13 #[v] w fun e w' => ∃ f, e = .returned f ∧ Fault w' f (erC d) 0 0 (erA d) [] ∧ Below w.heap.size w w' := by
  cases d with
  | none => obtain rfl : v = .nilIface := h; exact tell_nil w
  | some x =>
    obtain ⟨j, q⟩ := x
    obtain ⟨hj, h⟩ := h
    have ht := tell_err ea (ea j) [.place q] v w hK.sent hK.errT h
    rw [code_sent hK.sent 16 0 j rfl hj (Nat.zero_le _)] at ht
    exact ht
theorem er_placed {w : World} {ea : Nat → Addr} {v : Value} {j : Nat} {q : Int} (hK : Sent w ea) (hj : j < 16) (h : Placed w v (ea j) q) : Er w ea v (some (j, q)) := by
  obtain ⟨p, t, rfl, hb, hlp⟩ := h
  exact ⟨hj, [(70, .int .i64 q)], ⟨p, strAt (ea j), t, by simp [wt], rfl, hb, hlp, rfl⟩, ⟨rfl, rfl, trivial⟩, hb.lt, hK.row j hj⟩
/-- What Parse tells, in parts. -/
def pS : Sum (Bool × Nat) (BitVec 256 × Nat) → BitVec 256
  | .inl _ => 0#256
  | .inr (S, _) => S
def pN : Sum (Bool × Nat) (BitVec 256 × Nat) → Int
  | .inl _ => 0
  | .inr (_, m) => (m : Int)
def pE : Sum (Bool × Nat) (BitVec 256 × Nat) → Option (Nat × Int)
  | .inl (b, q) => some (if b = true then 2 else 1, (q : Int))
  | .inr _ => none
theorem parse_er (ea : Nat → Addr) (s : ByteArray) (a : Int) (hs : s.size ≤ 4294967000) (w : World) (hK : Kg w ea) (x : Sum (Bool × Nat) (BitVec 256 × Nat)) (hx : prs s a = x) :
    Calls Tryz.prog 31 #[.string s, .int .i64 a] w fun e w' => ∃ v, e = .returned (.tuple #[sv (pS x), .int .i64 (pN x), v]) ∧ Er w' ea v (pE x) ∧ Ext w w' := by
  refine (parse_any s a (ea 1) (ea 2) hs w hK.kn x hx).mono ?_
  rintro e w' h
  cases x with
  | inl x =>
    obtain ⟨b, q⟩ := x
    obtain ⟨v, rfl, hP, hE⟩ := h
    refine ⟨v, by simp only [pS, pN, sv_zero], ?_, hE⟩
    cases b with
    | true => exact er_placed (hK.sent.ext hE) (by decide) hP
    | false => exact er_placed (hK.sent.ext hE) (by decide) hP
  | inr x =>
    obtain ⟨S, m⟩ := x
    obtain ⟨rfl, hE⟩ := h
    exact ⟨_, rfl, rfl, hE⟩
/-- What Unquote tells, in parts. -/
def uS : Sum Nat (List UInt8 × Nat) → ByteArray
  | .inl _ => ⟨#[]⟩
  | .inr (A, _) => ⟨A.toArray⟩
def uN : Sum Nat (List UInt8 × Nat) → Int
  | .inl _ => 0
  | .inr (_, m) => (m : Int)
def uE : Sum Nat (List UInt8 × Nat) → Option (Nat × Int)
  | .inl q => some (1, (q : Int))
  | .inr _ => none
theorem unquote_er (ea : Nat → Addr) (s : ByteArray) (a : Int) (hs : s.size ≤ 4294967000) (w : World) (hK : Kg w ea) (x : Sum Nat (List UInt8 × Nat)) (hx : uqs s a = x) :
    Calls Tryz.prog 30 #[.string s, .int .i64 a] w fun e w' => ∃ v, e = .returned (.tuple #[.string (uS x), .int .i64 (uN x), v]) ∧ Er w' ea v (uE x) ∧ Ext w w' := by
  refine (unquote_any s a (ea 1) (ea 2) hs w hK.kn x hx).mono ?_
  rintro e w' h
  cases x with
  | inl q =>
    obtain ⟨v, rfl, hP, hE⟩ := h
    exact ⟨v, rfl, er_placed (hK.sent.ext hE) (by omega) hP, hE⟩
  | inr x =>
    obtain ⟨A, m⟩ := x
    obtain ⟨rfl, hE⟩ := h
    exact ⟨_, rfl, rfl, hE⟩
def RsF (k : Nat) (c t : Int) : Nat → Option (Value → World → Prop) := fun j => if j = k then some (fun v w => Fault w v c 0 0 t []) else none
theorem RsF_mono (k : Nat) (c t : Int) : G.RsMono Ext (RsF k c t) := by
  intro j R h
  unfold RsF at h
  split at h
  · cases h; exact fun v w w' hx hR => Fault.ext hR hx
  · cases h
set_option maxHeartbeats 1000000 in
set_option maxRecDepth 20000 in
/-- An error says what it says. -/
theorem same_er (ea : Nat → Addr) (v f : Value) (d : Option (Nat × Int)) (w : World) (hK : Kg w ea) (h : Er w ea v d) (hf : Fault w f (erC d) 0 0 (erA d) []) :
    Calls Tryz.prog 7 #[v, f] w fun e w' => e = .returned (.bool true) ∧ Below w.heap.size w w' := by
  have HF := Lib.hid hf
  obtain ⟨ns, rfl, hns⟩ := hf
  obtain ⟨na, nc, rfl⟩ := hns.slice
  have hx0 : Ext w (w.alloc (.cells #[.int .i64 (erC d), .int .i64 0, .int .i64 0, .int .i64 (erA d), .slice na ([] : List ByteArray).length nc] 25)) := by go_grown
  have hb0 := Blk.new w #[.int .i64 (erC d), .int .i64 0, .int .i64 0, .int .i64 (erA d), .slice na ([] : List ByteArray).length nc] 25
  have HX0 := Lib.hid hx0
  have HB0 := Lib.hid hb0
  have HH := Lib.hid h
  have HK := Lib.hid hK
  clear hns hx0 hb0 hK
  cases d with
  | none =>
    obtain rfl : v = .nilIface := h
    simp only [erC, erA] at HB0 HX0 ⊢
    go_enter Tryz.func7, Tryz.ntmps7
    go_wp2
    go_ret
    exact ⟨rfl, HX0.out⟩
  | some x =>
    obtain ⟨T, y, rfl⟩ := h.iface
    obtain ⟨c, hc⟩ : ∃ c, erC (some x) = c := ⟨_, rfl⟩
    obtain ⟨t, ht⟩ : ∃ t, erA (some x) = t := ⟨_, rfl⟩
    have hc0 : (c != 0) = true := by
      obtain ⟨j, q⟩ := x
      simp only [erC] at hc
      simp; omega
    have HTl := Lib.hid (fun w hK h => tell_er ea (.iface T y) (some x) w hK h)
    rw [hc, ht] at HB0 HX0 HTl HF ⊢
    clear hc ht h
    go_enter Tryz.func7, Tryz.ntmps7
    go_wp2_with fail
    generalize hp : w.heap.size = p at HB0 ⊢
    replace hp := Lib.hid hp
    generalize w.alloc (.cells #[.int .i64 c, .int .i64 0, .int .i64 0, .int .i64 t, .slice na ([] : List ByteArray).length nc] 25) = w1 at HX0 HB0 ⊢
    refine G.wp_region_stab (G := Ext) (RsF 5 c t) (by kernel_rfl) (by kernel_rfl) (RsF_mono _ _ _) (fun hex => ?_)
    iterate 5
      (refine G.wpS_one (A := ?_) hex rfl rfl (by simp) ?_ ?_ ?_
       rotate_left 2
       · intro w' hC K hK
         obtain ⟨p0, p1, p2, p3, p4⟩ := (HB0.out.ext hC.1).cells5
         go_wp2_with (fail)
         refine hK _ ?_
         first | exact Below.refl _ _ | assumption | ((repeat' (first | (with_reducible exact Below.refl _ _) | (with_reducible assumption) | (with_reducible refine below_drewN ?_ _) | (with_reducible refine Below.alloc ?_ ?_ _) | (with_reducible refine Below.drew ?_) | (with_reducible refine Below.setCell ?_ ?_ _) | (with_reducible refine Below.trans ?_ (Below.mono (by with_reducible assumption) ?_)) | go_size)))
       rotate_left 1
       · rfl
       clear hex; intro hex)
    refine G.wpS_rel (fun v w => Fault w v c 0 0 t []) rfl rfl (by simp) (by first | rfl | (simp [Region.wanted, yielded]; done)) ?_ ?_
    · intro w' hC K hK
      simp only [Act.put, List.setIfInBounds_toArray, List.set_cons_succ, List.set_cons_zero] at hK
      go_wp2_with (refine (HTl.out _ (HK.out.ext (bel_call HX0.out hC.1)) (HH.out.ext (bel_call HX0.out hC.1))).mono ?_; rintro e w2 ⟨v', rfl, h2, hE1⟩)
      refine hK _ _ ?_ ?_
      · first | exact Below.refl _ _ | assumption | ((repeat' (first | (with_reducible exact Below.refl _ _) | (with_reducible assumption) | (with_reducible refine below_drewN ?_ _) | (with_reducible refine Below.alloc ?_ ?_ _) | (with_reducible refine Below.drew ?_) | (with_reducible refine Below.setCell ?_ ?_ _) | (with_reducible refine Below.trans ?_ (Below.mono (by with_reducible assumption) ?_)) | go_size)))
      · exact h2
    clear hex
    intro v1 w' hex hv1
    replace hex := Exists.intro w' hex
    simp only [Act.put, List.setIfInBounds_toArray, List.set_cons_succ, List.set_cons_zero]
    refine G.wpS_one (A := ?_) hex rfl rfl (by simp) ?_ ?_ ?_
    rotate_left 2
    · intro w' hC K hK
      obtain ⟨p0, p1, p2, p3, p4⟩ := (HB0.out.ext hC.1).cells5
      go_wp2_with (fail)
      refine hK _ ?_
      first | exact Below.refl _ _ | assumption | ((repeat' (first | (with_reducible exact Below.refl _ _) | (with_reducible assumption) | (with_reducible refine below_drewN ?_ _) | (with_reducible refine Below.alloc ?_ ?_ _) | (with_reducible refine Below.drew ?_) | (with_reducible refine Below.setCell ?_ ?_ _) | (with_reducible refine Below.trans ?_ (Below.mono (by with_reducible assumption) ?_)) | go_size)))
    rotate_left 1
    · rfl
    clear hex; intro hex
    refine G.wpS_one (A := ?_) hex rfl rfl (by simp) ?_ ?_ ?_
    rotate_left 2
    · intro w' hC K hK
      have hF1 := (hC.2 5 (by simp [Region.binds])).1 rfl
      go_wp2_with (refine (eqfault_any v1 _ c 0 0 t c 0 0 t [] [] _ hF1 (HF.out.ext (bel_call HX0.out hC.1)) true (by simp)).mono ?_; rintro e w2 ⟨rfl, hE1⟩)
      refine hK _ ?_
      first | exact Below.refl _ _ | assumption | ((repeat' (first | (with_reducible exact Below.refl _ _) | (with_reducible assumption) | (with_reducible refine below_drewN ?_ _) | (with_reducible refine Below.alloc ?_ ?_ _) | (with_reducible refine Below.drew ?_) | (with_reducible refine Below.setCell ?_ ?_ _) | (with_reducible refine Below.trans ?_ (Below.mono (by with_reducible assumption) ?_)) | go_size)))
    rotate_left 1
    · rfl
    clear hex; intro hex
    iterate 2
      (refine G.wpS_one (A := ?_) hex rfl rfl (by simp) ?_ ?_ ?_
       rotate_left 2
       · intro w' hC K hK
         go_wp2_with (fail)
         refine hK _ ?_
         first | exact Below.refl _ _ | assumption | ((repeat' (first | (with_reducible exact Below.refl _ _) | (with_reducible assumption) | (with_reducible refine below_drewN ?_ _) | (with_reducible refine Below.alloc ?_ ?_ _) | (with_reducible refine Below.drew ?_) | (with_reducible refine Below.setCell ?_ ?_ _) | (with_reducible refine Below.trans ?_ (Below.mono (by with_reducible assumption) ?_)) | go_size)))
       rotate_left 1
       · rfl
       clear hex; intro hex)
    refine G.wpS_nil fun w4 hAll => ?_
    have HG := Lib.hid (bel_call HX0.out hAll.1)
    clear hAll hex
    go_wp2_with fail
    go_ret
    exact ⟨rfl, HG.out⟩
end Go.Proofs.YtnecafokkhhhhaaGreatDoor
