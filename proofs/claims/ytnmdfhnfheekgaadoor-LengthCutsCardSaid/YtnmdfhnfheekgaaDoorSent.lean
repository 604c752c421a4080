/- From the row's condition to the walks: the sixteen errors of package fault, and the type that errors.As asks for. -/
import Derived.Test.YtnmdfhnfheekgaaDoorTell
import Derived.Test.YtnmdfhnfheekgaaDoorRows
import Derived.ProofKit
import Derived.LaidMore
import Derived.LaidLaws
import Derived.LaidHandle
import Derived.OpenShut
import Derived.Stop.Joined
import Derived.Deep.Strs
import Derived.Lib.LaidTab
import Derived.Carry
namespace Go.Proofs.YtnmdfhnfheekgaaDoor
open Go Go.ChangeShapes Go.WideShapes Go.ChangeAt Go.RowKit
theorem own : ownKnob Tryd.prog.godebug = none := by kernel_rfl
theorem laidOut : laidOutB Tryd.prog = true := by kernel_rfl
/-- The names of the errors, and their texts. -/
def snm : List String := ["bolter/fault.ErrLong", "bolter/fault.ErrSyntax", "bolter/fault.ErrDeep", "bolter/fault.ErrMany", "bolter/fault.ErrName", "bolter/fault.ErrDefCycle", "bolter/fault.ErrRepeat", "bolter/fault.ErrTooManyPositions", "bolter/fault.ErrTrail", "bolter/fault.ErrTooManyStates", "bolter/fault.ErrImage", "bolter/fault.ErrModeStack", "bolter/fault.ErrClosed", "bolter/fault.ErrArg", "bolter/fault.ErrCommand", "bolter/fault.ErrHandle"]
def stx : List (List UInt8) := [[116, 111, 111, 32, 108, 111, 110, 103], [115, 121, 110, 116, 97, 120], [116, 111, 111, 32, 100, 101, 101, 112], [116, 111, 111, 32, 109, 97, 110, 121], [110, 97, 109, 101], [100, 101, 102, 105, 110, 105, 116, 105, 111, 110, 32, 99, 121, 99, 108, 101], [114, 101, 112, 101, 97, 116], [116, 111, 111, 32, 109, 97, 110, 121, 32, 112, 111, 115, 105, 116, 105, 111, 110, 115], [116, 114, 97, 105, 108, 105, 110, 103, 32, 99, 111, 110, 116, 101, 120, 116], [116, 111, 111, 32, 109, 97, 110, 121, 32, 115, 116, 97, 116, 101, 115], [105, 109, 97, 103, 101], [109, 111, 100, 101, 32, 115, 116, 97, 99, 107], [99, 108, 111, 115, 101, 100], [97, 114, 103, 117, 109, 101, 110, 116], [99, 111, 109, 109, 97, 110, 100], [104, 97, 110, 100, 108, 101]]
abbrev sdat (k : Nat) : DataW Unit := .iface "*errors.errorString" (.ptr (.agg [.lit (.string (stx.getD k []))]))
theorem snm_g : ∀ k, k < 16 → Tryd.prog.globalNamed (snm.getD k "") = some (sg.getD k 0)
  | 0, _ => by kernel_rfl
  | 1, _ => by kernel_rfl
  | 2, _ => by kernel_rfl
  | 3, _ => by kernel_rfl
  | 4, _ => by kernel_rfl
  | 5, _ => by kernel_rfl
  | 6, _ => by kernel_rfl
  | 7, _ => by kernel_rfl
  | 8, _ => by kernel_rfl
  | 9, _ => by kernel_rfl
  | 10, _ => by kernel_rfl
  | 11, _ => by kernel_rfl
  | 12, _ => by kernel_rfl
  | 13, _ => by kernel_rfl
  | 14, _ => by kernel_rfl
  | 15, _ => by kernel_rfl
  | n + 16, h => by omega
theorem snm_t : ∀ k, k < 16 → (Tryd.prog.globals[sg.getD k 0]?).map (·.type) = some 33
  | 0, _ => by kernel_rfl
  | 1, _ => by kernel_rfl
  | 2, _ => by kernel_rfl
  | 3, _ => by kernel_rfl
  | 4, _ => by kernel_rfl
  | 5, _ => by kernel_rfl
  | 6, _ => by kernel_rfl
  | 7, _ => by kernel_rfl
  | 8, _ => by kernel_rfl
  | 9, _ => by kernel_rfl
  | 10, _ => by kernel_rfl
  | 11, _ => by kernel_rfl
  | 12, _ => by kernel_rfl
  | 13, _ => by kernel_rfl
  | 14, _ => by kernel_rfl
  | 15, _ => by kernel_rfl
  | n + 16, h => by omega
theorem stx_inj : ∀ k j, k < 16 → j < 16 → stx.getD k [] = stx.getD j [] → k = j := by
  have h : ((List.range 16).all fun k => (List.range 16).all fun j => !(stx.getD k [] == stx.getD j []) || k == j) = true := by decide +kernel
  intro k j hk hj e
  have h1 := List.all_eq_true.1 (List.all_eq_true.1 h k (List.mem_range.2 hk)) j (List.mem_range.2 hj)
  rw [e] at h1
  simpa using h1
theorem row_err (u : TypeId) (h : Tryd.prog.typeName? 3 u = some "*errors.errorString") : u = 162 :=
  typeName_ptr_named (nm := "errors.errorString") (by rw [show "*" ++ "errors.errorString" = "*errors.errorString" from by decide]; kernel_rfl) (by kernel_rfl) (by decide) u (by rw [show "*" ++ "errors.errorString" = "*errors.errorString" from by decide]; exact h)
theorem laid_pick {P : Program} {W : World} : ∀ {laid : List (String × DataW Unit)} {ps : List MemPlace}, DataW.LaidVars P W laid ps → ∀ {n : String} {d : DataW Unit}, (n, d) ∈ laid →
    ∃ g t cs fuel p, P.globalNamed n = some g ∧ (P.globals[g]?).map (·.type) = some t ∧ W.var? P n = some cs ∧ DataW.trod (fun _ => ()) P W 0 (fun _ => true) false fuel t cs.toList = some (d, p) ∧ ∀ y ∈ MemPlace.row ⟨g, 0, none⟩ cs.size ++ p, y ∈ ps
  | [], _, _, _, _, h => by cases h
  | (_, _) :: _, _, ⟨g, t, cs, fuel, p, _, h1, h2, h3, h4, h5, h6⟩, n, d, h => by
    subst h6
    rcases List.mem_cons.1 h with e | e
    · cases e
      exact ⟨g, t, cs, fuel, p, h1, h2, h3, h4, fun y hy => List.mem_append.2 (.inl hy)⟩
    · obtain ⟨g', t', cs', f', p', k1, k2, k3, k4, k5⟩ := laid_pick h5 e
      exact ⟨g', t', cs', f', p', k1, k2, k3, k4, fun y hy => List.mem_append.2 (.inr (k5 y hy))⟩
set_option maxRecDepth 100000 in
/-- One of them. -/
theorem laid_err {W : World} {laid : List (String × DataW Unit)} (h : laidMet Tryd.prog laid W) (k : Nat) (hk : k < 16) (hmem : (snm.getD k "", sdat k) ∈ laid) :
    ∃ a : Addr, W.cell? ⟨sg.getD k 0, 0, none⟩ = some (errAt a) ∧ W.cell? a = some (.string ⟨(stx.getD k []).toArray⟩) ∧ ∃ c t, W.heap[a.block]? = some (.cells c t (0, 0)) := by
  obtain ⟨ps, hv, _, hrows⟩ := h
  obtain ⟨g, t, cs, fuel, p, h1, h2, h3, h4, h5⟩ := laid_pick hv hmem
  obtain rfl := Option.some.inj ((snm_g k hk).symm.trans h1)
  obtain rfl := Option.some.inj ((snm_t k hk).symm.trans h2)
  obtain ⟨l⟩ := cs
  have ok : ∀ u v, l = [.iface u v] → Value.okWide Tryd.prog W .any 0 u v := fun u v e => by
    subst e
    exact (hrows (sg.getD k 0) 0 (h5 _ (by simp [MemPlace.row]))).2 u v (by simpa using World.var?_cell h1 h3 0)
  obtain ⟨a, s, hl, hc, hs, _, hp⟩ := errorString_of_trod Tryd.underlying33 row_err Tryd.underlying162 Tryd.underlying185 rfl rfl Tryd.underlying9 (by kernel_rfl) (by kernel_rfl) h4 ok
  subst hp
  replace hl : l = [.iface 162 (.pointer (some a))] := hl
  subst hl
  refine ⟨a, by simpa using World.var?_cell h1 h3 0, ?_, (hrows a.block a.off (h5 _ (by simp [MemPlace.row]))).1⟩
  rw [hc, ← hs]
set_option maxRecDepth 100000 in
/-- All of them. -/
theorem errs_of_laid {W : World} {laid : List (String × DataW Unit)} (h : laidMet Tryd.prog laid W) (hmem : ∀ k, k < 16 → (snm.getD k "", sdat k) ∈ laid) :
    ∃ ea : Nat → Addr, Sent W ea ∧ ∀ k, k < 16 → W.cell? (ea k) = some (.string ⟨(stx.getD k []).toArray⟩) := by
  obtain ⟨ea, hea⟩ := Classical.axiomOfChoice (r := fun (k : Nat) (a : Addr) => k < 16 → W.cell? ⟨sg.getD k 0, 0, none⟩ = some (errAt a) ∧ W.cell? a = some (.string ⟨(stx.getD k []).toArray⟩) ∧ ∃ c t, W.heap[a.block]? = some (.cells c t (0, 0)))
    (fun k => by
      by_cases hk : k < 16
      · obtain ⟨a, ha⟩ := laid_err h k hk (hmem k hk)
        exact ⟨a, fun _ => ha⟩
      · exact ⟨⟨0, 0, none⟩, fun h => absurd h hk⟩)
  refine ⟨ea, ⟨fun k hk => (hea k hk).1, fun k hk => World.block_lt_of_cell? W ⟨sg.getD k 0, 0, none⟩ (hea k hk).1, fun k hk => (hea k hk).2.2, fun k j hk hj e => ?_⟩, fun k hk => (hea k hk).2.1⟩
  have h1 := (hea k hk).2.1
  rw [e, (hea j hj).2.1] at h1
  simp only [Option.some.injEq, Value.string.injEq, ByteArray.mk.injEq] at h1
  exact (stx_inj j k hj hk (by simpa using h1)).symm
theorem gErrT : Tryd.prog.globalNamed "errors.errorType" = some 16 := by kernel_rfl
theorem rErrT : (Tryd.prog.cutTypes.find? (·.1 == "internal/reflectlite.rtype")).map (·.2) = some 147 := by kernel_rfl
theorem oErrT : ((List.range 197).filter fun t => Tryd.prog.rowNamed t [101, 114, 114, 111, 114]) = [33] := by kernel_rfl
theorem nErrT : Tryd.prog.types.size = 197 := by kernel_rfl
set_option maxRecDepth 100000 in
theorem errT_of_laid {W : World} (h : handlesMet Tryd.prog [("errors.errorType", Rows.laid_errors_errorType)] W) : ErrT W := by
  obtain ⟨name, u, ty, e1, e2, e3, e4, e5⟩ := h _ (List.mem_singleton.2 rfl)
  have en : name = [101, 114, 114, 111, 114] := (Option.some.inj e1).symm
  subst en
  obtain rfl := Option.some.inj (rErrT.symm.trans e2)
  have hm : ty ∈ (List.range 197).filter fun t => Tryd.prog.rowNamed t [101, 114, 114, 111, 114] := List.mem_filter.2 ⟨List.mem_range.2 (by rw [← nErrT]; exact e3), e4⟩
  rw [oErrT] at hm
  obtain rfl := List.mem_singleton.1 hm
  have hh : typeHandle Tryd.prog 33 = .pointer (some ⟨17, 33, none⟩) := by kernel_rfl
  rw [hh] at e5
  unfold ErrT
  simpa using World.var?_cell gErrT e5 0
end Go.Proofs.YtnmdfhnfheekgaaDoor
