/- LengthTrails: a slice of one core that a region makes. -/
import Derived.Test.YtnmdfhnfheekgaaDoorLtp
import Derived.Test.YtnmdfhnfheekgaaDoorStabG
import Derived.Test.YtnmdfhnfheekgaaDoorCpx
import Derived.Test.YtnmdfhnfheekgaaDoorLlp
import Derived.Laws.Tables
import Derived.Great.BuildSlice
namespace Go.Proofs.YtnmdfhnfheekgaaDoor
open Go Go.RowKit
/-- A core is built. -/
theorem built_core (u0 u1 u2 u3 u4 u5 u6 u7 u8 u9 v0 v1 v2 v3 v4 v5 v6 v7 v8 v9 : Value) (b : Bool) :
    Tryd.prog.built 48 [(0, .agg #[u0, u1, u2, u3, u4, u5, u6, u7, u8, u9]), (1, .bool b), (2, .agg #[v0, v1, v2, v3, v4, v5, v6, v7, v8, v9])] = some #[u0, u1, u2, u3, u4, u5, u6, u7, u8, u9, .bool b, v0, v1, v2, v3, v4, v5, v6, v7, v8, v9] := by kernel_rfl
theorem wpList_core {ops : Array Oper} {rest : List Oper} {o : Oper} {a : Act} {w : World} {Q : Exit → Act → World → Prop} (hg : o.guard = none) (s x y : Operand) (ho : o.op = .build 48 #[(0, s), (1, x), (2, y)])
    (r : Cr) (a1 a2 : Option Addr) (c1 c2 : Nat) (hs : a.eval s = xv r.h a1 c1) (hx : a.eval x = .bool r.ht) (hy : a.eval y = xv r.t a2 c2)
    (h : wpList Tryd.prog ops Q rest (a.put o.dst (.agg (ccs r a1 c1 a2 c2).toArray)) w) : wpList Tryd.prog ops Q (o :: rest) a w := by
  refine wpList_plain hg fun _ hK => ?_
  unfold Oper.wp execOp
  have e : (#[(0, s), (1, x), (2, y)] : Array (Nat × Operand)).map (fun (i, x) => (i, a.eval x)) = #[(0, xv r.h a1 c1), (1, .bool r.ht), (2, xv r.t a2 c2)] := by simp [hs, hx, hy]
  simp only [ho]
  rw [e]
  rw [Sem.run_bind, run_build w _ _ ((ccs r a1 c1 a2 c2).toArray) (built_core _ _ _ _ _ _ _ _ _ _ _ _ _ _ _ _ _ _ _ _ _)]
  exact hK _ _ h
theorem fill_core (v0 v1 v2 v3 v4 v5 v6 v7 v8 v9 v10 v11 v12 v13 v14 v15 v16 v17 v18 v19 v20 : Value) (z : Value) (hz : z.cells = #[.int .i64 0, .int .i64 0, .int .u64 0, .int .u64 0, .int .u64 0, .int .u64 0, .string ⟨#[]⟩, .int .i64 0, .int .i64 0, .slice none 0 0, .bool false, .int .i64 0, .int .i64 0, .int .u64 0, .int .u64 0, .int .u64 0, .int .u64 0, .string ⟨#[]⟩, .int .i64 0, .int .i64 0, .slice none 0 0]) :
    Instr.fill (fun i => some (i * 21, 21)) ((Array.range (1 * 21)).map (z.cells[· % z.cells.size]!)) [(0, .agg #[v0, v1, v2, v3, v4, v5, v6, v7, v8, v9, v10, v11, v12, v13, v14, v15, v16, v17, v18, v19, v20])] = some #[v0, v1, v2, v3, v4, v5, v6, v7, v8, v9, v10, v11, v12, v13, v14, v15, v16, v17, v18, v19, v20] := by
  rw [hz]
  kernel_rfl
theorem core_row : (Tryd.prog.info? 48).map (fun i => (i.zero, i.size)) = some (some (.agg #[.int .i64 0, .int .i64 0, .int .u64 0, .int .u64 0, .int .u64 0, .int .u64 0, .string ⟨#[]⟩, .int .i64 0, .int .i64 0, .slice none 0 0, .bool false, .int .i64 0, .int .i64 0, .int .u64 0, .int .u64 0, .int .u64 0, .int .u64 0, .string ⟨#[]⟩, .int .i64 0, .int .i64 0, .slice none 0 0]), 21) := by kernel_rfl
theorem wpList_core1 {ops : Array Oper} {rest : List Oper} {o : Oper} {a : Act} {w : World} {Q : Exit → Act → World → Prop} (hg : o.guard = none) (s : Operand) (ho : o.op = .buildSlice 46 1 #[(0, s)])
    (r : Cr) (a1 a2 : Option Addr) (c1 c2 : Nat) (hs : a.eval s = .agg (ccs r a1 c1 a2 c2).toArray)
    (h : wpList Tryd.prog ops Q rest (a.put o.dst (.slice (some ⟨w.heap.size, 0, none⟩) 1 1)) (w.alloc (.cells (ccs r a1 c1 a2 c2).toArray 48))) : wpList Tryd.prog ops Q (o :: rest) a w := by
  have hrow := core_row
  cases hi : Tryd.prog.info? 48 with
  | none => rw [hi] at hrow; cases hrow
  | some ie =>
    rw [hi] at hrow
    simp only [Option.map_some, Option.some.injEq, Prod.mk.injEq] at hrow
    have e : ((#[(0, s)] : Array (Nat × Operand)).map (fun (i, x) => (i, a.eval x))).toList = [(0, .agg (ccs r a1 c1 a2 c2).toArray)] := by simp [hs]
    refine wpList_buildSlice hg 46 48 1 #[(0, s)] ho _ ie _ Tryd.underlying46 hi hrow.1 (by rw [hrow.2]; decide) (by rw [hrow.2]; decide) ?_ h
    rw [e, hrow.2]
    exact fill_core _ _ _ _ _ _ _ _ _ _ _ _ _ _ _ _ _ _ _ _ _ _ rfl
/-- A slice of one, in a block of its own. -/
def OneQ (B : Nat) (q : Qd) (v : Value) (w : World) : Prop := ∃ b, v = .slice (some ⟨b, 0, none⟩) 1 1 ∧ B ≤ b ∧ b < w.heap.size ∧ Blk w b (qcs q).toArray 48
theorem OneQ_mono (B : Nat) (q : Qd) : G.Mono Ext (OneQ B q) := fun _ _ _ hx ⟨b, h1, h2, h3, h4⟩ => ⟨b, h1, h2, Nat.lt_of_lt_of_le h3 hx.size, h4.ext hx⟩
def RsQ (B : Nat) (q : Qd) : Nat → Option (Value → World → Prop) := fun j => if j = 12 then some (OneQ B q) else none
theorem RsQ_mono (B : Nat) (q : Qd) : G.RsMono Ext (RsQ B q) := by
  intro j R h
  unfold RsQ at h
  split at h
  · cases h; exact OneQ_mono B q
  · cases h
end Go.Proofs.YtnmdfhnfheekgaaDoor
