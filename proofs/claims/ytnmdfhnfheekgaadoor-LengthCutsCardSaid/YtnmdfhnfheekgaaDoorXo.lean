/- From a row's condition to expressions in memory. -/
import Derived.Test.YtnmdfhnfheekgaaDoorXp
namespace Go.Proofs.YtnmdfhnfheekgaaDoor
open Go Go.ChangeShapes Go.WideShapes Go.ChangeAt Go.RowKit
theorem lten_of {α : Type} {l : List α} (h : l.length = 10) : ∃ x0 x1 x2 x3 x4 x5 x6 x7 x8 x9, l = [x0, x1, x2, x3, x4, x5, x6, x7, x8, x9] :=
  match l, h with
  | [x0, x1, x2, x3, x4, x5, x6, x7, x8, x9], _ => ⟨x0, x1, x2, x3, x4, x5, x6, x7, x8, x9, rfl⟩
theorem lseven_of {α : Type} {l : List α} (h : l.length = 7) : ∃ x0 x1 x2 x3 x4 x5 x6, l = [x0, x1, x2, x3, x4, x5, x6] :=
  match l, h with
  | [x0, x1, x2, x3, x4, x5, x6], _ => ⟨x0, x1, x2, x3, x4, x5, x6, rfl⟩
theorem i64_of {n : Int} (h : (Lit.int .i64 n).wf = true) : I64 n := by
  simp only [Lit.wf, IntKind.min, IntKind.max, IntKind.signed, IntKind.bits, Bool.and_eq_true] at h
  simp at h
  unfold I64
  omega
section
variable {H : Type} {enc : TypeId × Value → H} {w : World}
theorem open_xp : ∀ (fuel : Nat) (cs : List Value) (y : DataW H × List MemPlace), DataW.trod enc Tryd.prog w 0 (fun _ => true) true fuel 28 cs = some y → ∃ x a c, cs = xcs x a c ∧ Xok x ∧ Xat w w.heap.size a c x.args := by
  intro fuel
  induction fuel using Nat.strongRecOn with
  | ind fuel ih =>
  intro cs y h
  have c10 : Tryd.prog.cellsOf 28 = 10 := by kernel_rfl
  have c1 : Tryd.prog.cellsOf 3 = 1 := by kernel_rfl
  have c4 : Tryd.prog.cellsOf 26 = 4 := by kernel_rfl
  have cs1 : Tryd.prog.cellsOf 9 = 1 := by kernel_rfl
  have cl1 : Tryd.prog.cellsOf 22 = 1 := by kernel_rfl
  obtain ⟨xs, n, hn, hx, hl, hlen, hf⟩ := DataW.trod_struct Tryd.underlying28 h
  rw [c10] at hl
  obtain ⟨v0, v1, v2, v3, v4, v5, v6, v7, v8, v9, rfl⟩ := lten_of hl
  obtain ⟨y0, y1, y2, y3, y4, y5, y6, rfl⟩ := lseven_of hlen
  have e0 : DataW.trod enc Tryd.prog w 0 (fun _ => true) true n 3 (([v0, v1, v2, v3, v4, v5, v6, v7, v8, v9].drop 0).take (Tryd.prog.cellsOf 3)) = [y0, y1, y2, y3, y4, y5, y6][0]? := hf 0 _ rfl
  have e1 : DataW.trod enc Tryd.prog w 0 (fun _ => true) true n 3 (([v0, v1, v2, v3, v4, v5, v6, v7, v8, v9].drop 1).take (Tryd.prog.cellsOf 3)) = [y0, y1, y2, y3, y4, y5, y6][1]? := hf 1 _ rfl
  have e2 : DataW.trod enc Tryd.prog w 0 (fun _ => true) true n 26 (([v0, v1, v2, v3, v4, v5, v6, v7, v8, v9].drop 2).take (Tryd.prog.cellsOf 26)) = [y0, y1, y2, y3, y4, y5, y6][2]? := hf 2 _ rfl
  have e3 : DataW.trod enc Tryd.prog w 0 (fun _ => true) true n 9 (([v0, v1, v2, v3, v4, v5, v6, v7, v8, v9].drop 6).take (Tryd.prog.cellsOf 9)) = [y0, y1, y2, y3, y4, y5, y6][3]? := hf 3 _ rfl
  have e4 : DataW.trod enc Tryd.prog w 0 (fun _ => true) true n 3 (([v0, v1, v2, v3, v4, v5, v6, v7, v8, v9].drop 7).take (Tryd.prog.cellsOf 3)) = [y0, y1, y2, y3, y4, y5, y6][4]? := hf 4 _ rfl
  have e5 : DataW.trod enc Tryd.prog w 0 (fun _ => true) true n 3 (([v0, v1, v2, v3, v4, v5, v6, v7, v8, v9].drop 8).take (Tryd.prog.cellsOf 3)) = [y0, y1, y2, y3, y4, y5, y6][5]? := hf 5 _ rfl
  have e6 : DataW.trod enc Tryd.prog w 0 (fun _ => true) true n 22 (([v0, v1, v2, v3, v4, v5, v6, v7, v8, v9].drop 9).take (Tryd.prog.cellsOf 22)) = [y0, y1, y2, y3, y4, y5, y6][6]? := hf 6 _ rfl
  simp only [c1, c4, cs1, cl1, List.drop_zero, List.drop_succ_cons, List.take_succ_cons, List.take_zero, List.getElem?_cons_zero, List.getElem?_cons_succ] at e0 e1 e2 e3 e4 e5 e6
  obtain ⟨n0, f0, _, w0⟩ := DataW.trod_int Tryd.underlying3 e0
  obtain ⟨n1, f1, _, w1⟩ := DataW.trod_int Tryd.underlying3 e1
  obtain ⟨s, f2, _⟩ := set_trod e2
  obtain ⟨t, f3, _, w3⟩ := DataW.trod_string Tryd.underlying9 e3
  obtain ⟨n4, f4, _, w4⟩ := DataW.trod_int Tryd.underlying3 e4
  obtain ⟨n5, f5, _, w5⟩ := DataW.trod_int Tryd.underlying3 e5
  simp only [List.cons.injEq, and_true] at f0 f1 f2 f3 f4 f5
  obtain ⟨rfl, rfl, rfl, rfl⟩ := f2
  subst f0; subst f1; subst f3; subst f4; subst f5
  rcases DataW.trod_slice Tryd.underlying22 e6 with ⟨hcs, _⟩ | ⟨a, len, cap, elems, rest, m, hm, hcs, _, hb, hle, hcm, helen, hel, hsp, hns⟩
  · simp only [List.cons.injEq, and_true] at hcs
    subst hcs
    exact ⟨.mk n0 n1 s t n4 n5 [], none, 0, rfl, ⟨i64_of w0, i64_of w1, i64_of w4, i64_of w5, w3⟩, .nil _ _ (by unfold maxLen; omega)⟩
  · simp only [List.cons.injEq, and_true] at hcs
    subst hcs
    have hS : ∀ i, ∃ (x : Xp) (a' : Option Addr) (c' : Nat), i < len → (∀ j, j < 10 → w.cell? ((a.add (i * 10)).add j) = (xcs x a' c')[j]?) ∧ Xok x ∧ Xat w w.heap.size a' c' x.args := by
      intro i
      by_cases hi : i < len
      · have hi2 := hel i hi
        rw [List.getElem?_eq_getElem (by omega), c10] at hi2
        obtain ⟨cs', h1, h2⟩ := Option.bind_eq_some_iff.1 hi2
        obtain ⟨x, a', c', rfl, hk, hx⟩ := ih m (by omega) cs' _ h2
        obtain ⟨_, _, hc⟩ := World.cells?_some h1
        exact ⟨x, a', c', fun _ => ⟨fun j hj => hc j hj, hk, hx⟩⟩
      · exact ⟨.mk 0 0 0#256 .empty 0 0 [], none, 0, fun h => absurd h hi⟩
    obtain ⟨X, hX⟩ := Classical.axiomOfChoice hS
    obtain ⟨ga, hga⟩ := Classical.axiomOfChoice hX
    obtain ⟨gc, hgc⟩ := Classical.axiomOfChoice hga
    refine ⟨.mk n0 n1 s t n4 n5 ((List.range len).map X), some a, cap, by simp [xcs, Xp.args, Xp.op, Xp.at_, Xp.set, Xp.text, Xp.mn, Xp.mx], ⟨i64_of w0, i64_of w1, i64_of w4, i64_of w5, w3⟩, ?_⟩
    show Xat w w.heap.size (some a) cap ((List.range len).map X)
    by_cases h0 : len = 0
    · subst h0; exact .nil _ _ hcm
    · obtain ⟨b, off, spot⟩ := a
      have h00 := (hgc 0 (by omega)).1 0 (by decide)
      have hspot : spot = none := by
        have : (xcs (X 0) (ga 0) (gc 0))[0]? = some (.int .i64 (X 0).op) := rfl
        rw [this] at h00
        simpa [Addr.add] using World.cell?_spot h00
      subst hspot
      simp only [addr_add] at hgc h00
      refine .put b off cap _ ga gc (by simpa using hle) hcm (World.block_lt_of_cell? w (⟨b, off + 0 * 10 + 0, none⟩ : Addr) h00) (fun y hy => ?_) (fun i hi j hj => ?_) (fun i hi => ?_)
      · obtain ⟨i, hi, rfl⟩ := List.mem_map.1 hy
        exact (hgc i (List.mem_range.1 hi)).2.1
      · have hi' : i < len := by simpa using hi
        simp only [List.getElem_map, List.getElem_range]
        exact (hgc i hi').1 j hj
      · have hi' : i < len := by simpa using hi
        simp only [List.getElem_map, List.getElem_range]
        exact (hgc i hi').2.2
end
end Go.Proofs.YtnmdfhnfheekgaaDoor
