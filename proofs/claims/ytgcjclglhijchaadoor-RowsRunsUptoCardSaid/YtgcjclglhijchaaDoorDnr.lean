/- From a row's condition to numbers, rows and automata in memory. -/
import Derived.Test.YtgcjclglhijchaaDoorDen
import Derived.Test.YtgcjclglhijchaaDoorRows
import Derived.Test.YtgcjclglhijchaaDoorTie
import Derived.Test.YtgcjclglhijchaaDoorCards
import Derived.SevenTiedAt
import Derived.Deep.Slices
import Derived.OpenShut
import Derived.ProofKit
import Derived.Deep.DeepWitnessRowRef
import Derived.Deep.DeepHandedRow
namespace Go.Proofs.YtgcjclglhijchaaDoor
open Go Go.ChangeShapes Go.WideShapes Go.ChangeAt Go.RowKit
theorem addr_addq (b off i : Nat) : (⟨b, off, none⟩ : Addr).add i = ⟨b, off + i, none⟩ := by unfold Addr.add; split <;> simp_all
theorem two_ofq {α : Type} {l : List α} (h : l.length = 2) : ∃ a b, l = [a, b] :=
  match l, h with
  | [a, b], _ => ⟨a, b, rfl⟩
theorem weights_allq {H : Type} {P : Program} {e : TypeId} : ∀ {l : List (DataW H)} {d : DataW H}, d ∈ l → ∀ n ∈ d.weights P e, n ∈ DataW.weightsAll P e l
  | [], _, h, _, _ => by cases h
  | x :: l, d, h, n, hn => by
    simp only [DataW.weightsAll, List.mem_append]
    rcases List.mem_cons.1 h with rfl | h
    · exact .inl hn
    · exact .inr (weights_allq h n hn)
theorem i64_ofq {n : Int} (h : (Lit.int .i64 n).wf = true) : -9223372036854775808 ≤ n ∧ n ≤ 9223372036854775807 := by
  simp only [Lit.wf, IntKind.min, IntKind.max, IntKind.signed, IntKind.bits, Bool.and_eq_true] at h
  simp at h
  omega
section
variable {H : Type} {enc : TypeId × Value → H} {w : World}
theorem open_ints8 {k : Nat} {v : Value} {y : DataW H × List MemPlace} (h : DataW.trod enc Tryd.prog w 0 (fun _ => true) true k 26 [v] = some y) (hw : ∀ n ∈ y.1.weights Tryd.prog 26, n ≤ reachBytes) : ∃ L, Ints w v L ∧ L.length * 8 ≤ 140737488355328 := by
  have c1 : Tryd.prog.cellsOf 3 = 1 := by kernel_rfl
  have b8 : Tryd.prog.bytesOf 3 = 8 := by kernel_rfl
  rcases DataW.trod_slice Tryd.underlying26 h with ⟨hcs, _⟩ | ⟨a, len, cap, elems, rest, m, hm, hcs, hxe, hb, hle, hcm, helen, hel, hsp, hns⟩
  · simp only [List.cons.injEq, and_true] at hcs
    subst hcs
    exact ⟨[], ⟨Slc.nil w, fun x hx => by cases hx⟩, by simp⟩
  · simp only [List.cons.injEq, and_true] at hcs
    subst hcs
    have hS : ∀ i, ∃ n : Int, i < len → w.cell? (a.add i) = some (.int .i64 n) ∧ -9223372036854775808 ≤ n ∧ n ≤ 9223372036854775807 := by
      intro i
      by_cases hi : i < len
      · have hi2 := hel i hi
        rw [List.getElem?_eq_getElem (by omega), c1] at hi2
        obtain ⟨cs', h1, h2⟩ := Option.bind_eq_some_iff.1 hi2
        obtain ⟨n, rfl, _, hn⟩ := DataW.trod_int Tryd.underlying3 h2
        obtain ⟨_, _, hc⟩ := World.cells?_some h1
        have := hc 0 (by omega)
        exact ⟨n, fun _ => ⟨by simpa [Addr.add] using this, i64_ofq hn⟩⟩
      · exact ⟨0, fun h => absurd h hi⟩
    obtain ⟨X, hX⟩ := Classical.axiomOfChoice hS
    have hwl := hw ((elems.length + rest.length) * 8) (by rw [hxe]; simp [DataW.weights, Tryd.underlying26, b8])
    simp only [reachBytes] at hwl
    refine ⟨(List.range len).map X, ⟨⟨some a, cap, by simp, by simpa using hle, ⟨by simp; omega, hcm⟩, ?_⟩, fun x hx => ?_⟩, by simp; omega⟩
    · by_cases h0 : len = 0
      · subst h0; exact .inl rfl
      · obtain ⟨b, off, spot⟩ := a
        have h00 := (hX 0 (by omega)).1
        have hspot : spot = none := by simpa [Addr.add] using World.cell?_spot h00
        subst hspot
        simp only [addr_addq] at hX h00
        refine .inr ⟨b, off, rfl, World.block_lt_of_cell? w (⟨b, off + 0, none⟩ : Addr) h00, fun i hi => ?_⟩
        have hi' : i < len := by simpa using hi
        rw [(hX i hi').1]
        simp [hi']
    · obtain ⟨i, hi, rfl⟩ := List.mem_map.1 hx
      exact (hX i (List.mem_range.1 hi)).2
theorem open_intsq {k : Nat} {v : Value} {y : DataW H × List MemPlace} (h : DataW.trod enc Tryd.prog w 0 (fun _ => true) true k 26 [v] = some y) (hw : ∀ n ∈ y.1.weights Tryd.prog 26, n ≤ reachBytes) : ∃ L, Ints w v L := by
  obtain ⟨L, hL, _⟩ := open_ints8 h hw
  exact ⟨L, hL⟩
theorem open_rows8 {k : Nat} {v : Value} {y : DataW H × List MemPlace} (h : DataW.trod enc Tryd.prog w 0 (fun _ => true) true k 27 [v] = some y) (hw : ∀ n ∈ y.1.weights Tryd.prog 27, n ≤ reachBytes) : ∃ R, Rws w v R ∧ (∀ L ∈ R, L.length * 8 ≤ 140737488355328) ∧ R.length * 24 ≤ 140737488355328 := by
  have c1 : Tryd.prog.cellsOf 26 = 1 := by kernel_rfl
  have b8 : Tryd.prog.bytesOf 26 = 24 := by kernel_rfl
  rcases DataW.trod_slice Tryd.underlying27 h with ⟨hcs, _⟩ | ⟨a, len, cap, elems, rest, m, hm, hcs, hxe, hb, hle, hcm, helen, hel, hsp, hns⟩
  · simp only [List.cons.injEq, and_true] at hcs
    subst hcs
    exact ⟨[], ⟨[], rfl, Slc.nil w, fun i hi => by cases hi⟩, (fun L hL => by cases hL), by simp⟩
  · simp only [List.cons.injEq, and_true] at hcs
    subst hcs
    have hS : ∀ i, ∃ (u : Value) (L : List Int), i < len → w.cell? (a.add i) = some u ∧ Ints w u L ∧ L.length * 8 ≤ 140737488355328 := by
      intro i
      by_cases hi : i < len
      · have hi2 := hel i hi
        rw [List.getElem?_eq_getElem (by omega), c1] at hi2
        obtain ⟨cs', h1, h2⟩ := Option.bind_eq_some_iff.1 hi2
        obtain ⟨hlen, _, hc⟩ := World.cells?_some h1
        match cs', hlen with
        | [u], _ =>
          obtain ⟨L, hL, h8⟩ := open_ints8 h2 fun n hn => hw n (by
            rw [hxe]
            simp only [DataW.weights, Tryd.underlying27, List.mem_cons, List.mem_append]
            exact .inr (.inl (weights_allq (List.mem_map.2 ⟨elems[i], List.getElem_mem _, rfl⟩) n hn)))
          have := hc 0 (by omega)
          exact ⟨u, L, fun _ => ⟨by simpa [Addr.add] using this, hL, h8⟩⟩
      · exact ⟨.slice none 0 0, [], fun h => absurd h hi⟩
    obtain ⟨X, hX⟩ := Classical.axiomOfChoice hS
    obtain ⟨Z, hX⟩ := Classical.axiomOfChoice hX
    have hwl := hw ((elems.length + rest.length) * 24) (by rw [hxe]; simp [DataW.weights, Tryd.underlying27, b8])
    simp only [reachBytes] at hwl
    refine ⟨(List.range len).map Z, ⟨(List.range len).map X, by simp, ⟨some a, cap, by simp, by simpa using hle, ⟨by simp; omega, hcm⟩, ?_⟩, fun i hi => ?_⟩, fun L hL => ?_, by simp; omega⟩
    · by_cases h0 : len = 0
      · subst h0; exact .inl rfl
      · obtain ⟨b, off, spot⟩ := a
        have h00 := (hX 0 (by omega)).1
        have hspot : spot = none := by simpa [Addr.add] using World.cell?_spot h00
        subst hspot
        simp only [addr_addq] at hX h00
        refine .inr ⟨b, off, rfl, World.block_lt_of_cell? w (⟨b, off + 0, none⟩ : Addr) h00, fun i hi => ?_⟩
        have hi' : i < len := by simpa using hi
        rw [(hX i hi').1]
        simp [hi']
    · have hi' : i < len := by simpa using hi
      exact ⟨X i, by simp [hi'], by simpa using (hX i hi').2.1⟩
    · obtain ⟨i, hi, rfl⟩ := List.mem_map.1 hL
      exact (hX i (List.mem_range.1 hi)).2.2
theorem open_rowsq {k : Nat} {v : Value} {y : DataW H × List MemPlace} (h : DataW.trod enc Tryd.prog w 0 (fun _ => true) true k 27 [v] = some y) (hw : ∀ n ∈ y.1.weights Tryd.prog 27, n ≤ reachBytes) : ∃ R, Rws w v R := by
  obtain ⟨R, hR, _⟩ := open_rows8 h hw
  exact ⟨R, hR⟩
/-- An automaton that is not beyond the reach. -/
def Wee (d : Dd) : Prop := d.lb.length * 8 ≤ 140737488355328 ∧ (∀ L ∈ d.nx, L.length * 8 ≤ 140737488355328) ∧ d.nx.length * 24 ≤ 140737488355328
theorem open_dense8 {k : Nat} {cs : List Value} {y : DataW H × List MemPlace} (h : DataW.trod enc Tryd.prog w 0 (fun _ => true) true k 62 cs = some y) (hw : ∀ n ∈ y.1.weights Tryd.prog 62, n ≤ reachBytes) : ∃ (a b : Value) (d : Dd), cs = [a, b] ∧ Rws w a d.nx ∧ Ints w b d.lb ∧ Wee d := by
  have c1a : Tryd.prog.cellsOf 27 = 1 := by kernel_rfl
  have c1b : Tryd.prog.cellsOf 26 = 1 := by kernel_rfl
  have c2 : Tryd.prog.cellsOf 62 = 2 := by kernel_rfl
  obtain ⟨z0, z1, m, hx0, hl0, g0, g1⟩ := trod_struct2 Tryd.underlying62 h
  rw [c2] at hl0
  obtain ⟨x0, x1, rfl⟩ := two_ofq hl0
  simp only [c1a, c1b, List.drop_zero, List.drop_succ_cons, List.take_succ_cons, List.take_zero] at g0 g1
  have hww : ∀ (j : Nat) (t : TypeId) (d : DataW H), [27, 26][j]? = some t → [z0.1, z1.1][j]? = some d → ∀ m ∈ d.weights Tryd.prog t, m ≤ reachBytes := by
    intro j t d ht hd m hm
    refine hw m ?_
    rw [hx0]
    simp only [DataW.weights, Tryd.underlying62]
    exact DataW.weights_mem_each (ts := [27, 26]) (ds := [z0.1, z1.1]) ht hd m hm
  obtain ⟨R, hR, h2, h3⟩ := open_rows8 g0 (hww 0 _ _ rfl rfl)
  obtain ⟨L, hL, h1⟩ := open_ints8 g1 (hww 1 _ _ rfl rfl)
  exact ⟨x0, x1, ⟨R, L⟩, rfl, hR, hL, h1, h2, h3⟩
theorem open_dense {k : Nat} {cs : List Value} {y : DataW H × List MemPlace} (h : DataW.trod enc Tryd.prog w 0 (fun _ => true) true k 62 cs = some y) (hw : ∀ n ∈ y.1.weights Tryd.prog 62, n ≤ reachBytes) : ∃ (a b : Value) (d : Dd), cs = [a, b] ∧ Rws w a d.nx ∧ Ints w b d.lb := by
  obtain ⟨a, b, d, e, h1, h2, _⟩ := open_dense8 h hw
  exact ⟨a, b, d, e, h1, h2⟩
theorem open_denses {k : Nat} {v : Value} {y : DataW H × List MemPlace} (h : DataW.trod enc Tryd.prog w 0 (fun _ => true) true k 24 [v] = some y) (hw : ∀ n ∈ y.1.weights Tryd.prog 24, n ≤ reachBytes) :
    ∃ a c L, v = .slice a (L : List Dd).length c ∧ L.length ≤ 140737488355328 ∧ (L = [] ∨ ∃ b o, a = some ⟨b, o, none⟩ ∧ b < w.heap.size ∧ ∀ i (h : i < L.length), ∃ p q, w.cell? ⟨b, o + i * 2, none⟩ = some p ∧ w.cell? ⟨b, o + i * 2 + 1, none⟩ = some q ∧ Rws w p L[i].nx ∧ Ints w q L[i].lb) ∧ ∀ d ∈ L, Wee d := by
  have c2 : Tryd.prog.cellsOf 62 = 2 := by kernel_rfl
  have b48 : Tryd.prog.bytesOf 62 = 48 := by kernel_rfl
  rcases DataW.trod_slice Tryd.underlying24 h with ⟨hcs, _⟩ | ⟨a, len, cap, elems, rest, m, hm, hcs, hxe, hb, hle, hcm, helen, hel, hsp, hns⟩
  · simp only [List.cons.injEq, and_true] at hcs
    subst hcs
    exact ⟨none, 0, [], rfl, by simp, .inl rfl, fun d hd => by cases hd⟩
  · simp only [List.cons.injEq, and_true] at hcs
    subst hcs
    have hS : ∀ i, ∃ (p q : Value) (d : Dd), i < len → (∀ j, j < 2 → w.cell? ((a.add (i * 2)).add j) = [p, q][j]?) ∧ Rws w p d.nx ∧ Ints w q d.lb ∧ Wee d := by
      intro i
      by_cases hi : i < len
      · have hi2 := hel i hi
        rw [List.getElem?_eq_getElem (by omega), c2] at hi2
        obtain ⟨cs', h1, h2⟩ := Option.bind_eq_some_iff.1 hi2
        obtain ⟨p, q, d, rfl, hp, hq, hwe⟩ := open_dense8 h2 fun n hn => hw n (by
          rw [hxe]
          simp only [DataW.weights, Tryd.underlying24, List.mem_cons, List.mem_append]
          exact .inr (.inl (weights_allq (List.mem_map.2 ⟨elems[i], List.getElem_mem _, rfl⟩) n hn)))
        obtain ⟨_, _, hc⟩ := World.cells?_some h1
        exact ⟨p, q, d, fun _ => ⟨fun j hj => hc j hj, hp, hq, hwe⟩⟩
      · exact ⟨.slice none 0 0, .slice none 0 0, ⟨[], []⟩, fun h => absurd h hi⟩
    obtain ⟨P, hX⟩ := Classical.axiomOfChoice hS
    obtain ⟨Q, hX⟩ := Classical.axiomOfChoice hX
    obtain ⟨D, hX⟩ := Classical.axiomOfChoice hX
    have hwl := hw ((elems.length + rest.length) * 48) (by rw [hxe]; simp [DataW.weights, Tryd.underlying24, b48])
    simp only [reachBytes] at hwl
    refine ⟨some a, cap, (List.range len).map D, by simp, by simp; omega, ?_, fun d hd => by
      obtain ⟨i, hi, rfl⟩ := List.mem_map.1 hd
      exact (hX i (List.mem_range.1 hi)).2.2.2⟩
    by_cases h0 : len = 0
    · subst h0; exact .inl rfl
    · obtain ⟨b, off, spot⟩ := a
      have h00 := (hX 0 (by omega)).1 0 (by decide)
      have hspot : spot = none := by
        have : ([P 0, Q 0] : List Value)[0]? = some (P 0) := rfl
        rw [this] at h00
        simpa [Addr.add] using World.cell?_spot h00
      subst hspot
      simp only [addr_addq] at hX h00
      refine .inr ⟨b, off, rfl, World.block_lt_of_cell? w (⟨b, off + 0 * 2 + 0, none⟩ : Addr) h00, fun i hi => ?_⟩
      have hi' : i < len := by simpa using hi
      obtain ⟨h1, h2, h3, _⟩ := hX i hi'
      have e0 := h1 0 (by decide)
      have e1 := h1 1 (by decide)
      simp only [List.getElem_map, List.getElem_range]
      exact ⟨P i, Q i, by simpa using e0, by simpa using e1, h2, h3⟩
end
end Go.Proofs.YtgcjclglhijchaaDoor
