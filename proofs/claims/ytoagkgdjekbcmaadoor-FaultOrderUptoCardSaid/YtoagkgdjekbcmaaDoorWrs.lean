/- What came in: an error's code, its own text, its wrappers. -/
import Derived.Test.YtoagkgdjekbcmaaDoorSent
import Derived.Deep.Strs
import Derived.Deep.SlicePairs
import Derived.SizedLaws
namespace Go.Proofs.YtoagkgdjekbcmaaDoor
open Go Go.ChangeShapes Go.WideShapes Go.ChangeAt Go.RowKit
theorem addr_add (b off i : Nat) : (⟨b, off, none⟩ : Addr).add i = ⟨b, off + i, none⟩ := by unfold Addr.add; split <;> simp_all
theorem weights_all {H : Type} {P : Program} {e : TypeId} : ∀ {l : List (DataW H)} {d : DataW H}, d ∈ l → ∀ n ∈ d.weights P e, n ∈ DataW.weightsAll P e l
  | [], _, h, _, _ => by cases h
  | x :: l, d, h, n, hn => by
    simp only [DataW.weightsAll, List.mem_append]
    rcases List.mem_cons.1 h with rfl | h
    · exact .inl hn
    · exact .inr (weights_all h n hn)
/-- One wrapper that came in: its kind, its number, its names. -/
abbrev WD := Int × Int × List ByteArray
def wd0 : WD := (0, 0, [])
def Wrap1 (w : World) (b o : Nat) (d : WD) : Prop := w.cell? ⟨b, o, none⟩ = some (.int .i64 d.1) ∧ w.cell? ⟨b, o + 1, none⟩ = some (.int .i64 d.2.1) ∧ ∃ x, w.cell? ⟨b, o + 2, none⟩ = some x ∧ Texts w x d.2.2
def Wrs (w : World) (v : Value) (l : List WD) : Prop := l.length ≤ 140737488355328 ∧ ((v = .slice none 0 0 ∧ l = []) ∨
  ∃ a cap, v = .slice (some a) l.length cap ∧ l.length ≤ cap ∧ cap ≤ maxLen ∧ (l = [] ∨ ∃ b o, a = ⟨b, o, none⟩ ∧ b < w.heap.size ∧ ∀ i, i < l.length → Wrap1 w b (o + i * 3) (l.getD i wd0)))
section
variable {w w' : World}
theorem Wrap1.ext {b o : Nat} {d : WD} (h : Wrap1 w b o d) (hb : b < w.heap.size) (hx : Ext w w') : Wrap1 w' b o d := by
  obtain ⟨h1, h2, x, h3, h4⟩ := h
  exact ⟨by rw [hx.cell (p := ⟨b, o, none⟩) hb]; exact h1, by rw [hx.cell (p := ⟨b, o + 1, none⟩) hb]; exact h2, x, by rw [hx.cell (p := ⟨b, o + 2, none⟩) hb]; exact h3, h4.ext hx⟩
theorem Wrs.ext {v : Value} {l : List WD} (h : Wrs w v l) (hx : Ext w w') : Wrs w' v l := by
  obtain ⟨h0, h | ⟨a, cap, hv, h1, h2, h⟩⟩ := h
  · exact ⟨h0, .inl h⟩
  · refine ⟨h0, .inr ⟨a, cap, hv, h1, h2, ?_⟩⟩
    rcases h with h | ⟨b, o, ha, hb, h⟩
    · exact .inl h
    · exact .inr ⟨b, o, ha, Nat.lt_of_lt_of_le hb hx.size, fun i hi => (h i hi).ext hb hx⟩
theorem Wrs.slice {v : Value} {l : List WD} (h : Wrs w v l) : ∃ ao cap, v = .slice ao l.length cap := by
  obtain ⟨_, ⟨h, rfl⟩ | ⟨x, cap, h, _⟩⟩ := h
  · exact ⟨_, _, h⟩
  · exact ⟨_, _, h⟩
end
section
variable {H : Type} {enc : TypeId × Value → H} {w : World}
theorem open_texts {k : Nat} {c : Value} {y : DataW H × List MemPlace} (h : DataW.trod enc Tryd.prog w 0 (fun _ => true) true k 32 [c] = some y) (hw : ∀ n ∈ y.1.weights Tryd.prog 32, n ≤ reachBytes) : ∃ l, Texts w c l := by
  have hby : Tryd.prog.bytesOf 9 = 16 := by kernel_rfl
  rcases Deep.open_strs Tryd.underlying32 Tryd.underlying9 (by kernel_rfl) h with ⟨hcs, _⟩ | ⟨a, len, cap, m, Sx, hcs, _, hl, hm, hmm, hx, hel⟩
  · simp only [List.cons.injEq, and_true] at hcs
    subst hcs
    exact ⟨[], Texts.nil w⟩
  · simp only [List.cons.injEq, and_true] at hcs
    subst hcs
    have hlm : len ≤ m := by rw [hmm]; split <;> omega
    have hr := hw ((((List.range len).map fun i => (DataW.lit (H := H) (.string (Sx i).data.toList))).length + ((List.range (m - len)).map fun j => (DataW.lit (H := H) (.string (Sx (len + j)).data.toList))).length) * 16) (by rw [hx]; simp [DataW.weights, Tryd.underlying32, hby])
    simp only [List.length_map, List.length_range, reachBytes] at hr
    refine ⟨(List.range len).map Sx, by simp; omega, .inr ⟨a, cap, by simp, by simpa using hl, hm, ?_⟩⟩
    by_cases h0 : len = 0
    · subst h0; exact .inl rfl
    · obtain ⟨b, off, spot⟩ := a
      have hspot : spot = none := by simpa [Addr.add] using World.cell?_spot (hel 0 (by omega)).1
      subst hspot
      refine .inr ⟨b, off, rfl, World.block_lt_of_cell? w (⟨b, off, none⟩ : Addr) (by have := (hel 0 (by omega)).1; rw [addr_add] at this; exact this), fun i hi => ?_⟩
      have hi' : i < len := by simpa using hi
      have := (hel i (by omega)).1
      rw [addr_add] at this
      rw [this]
      simp [tx, List.getD_eq_getElem?_getD, hi']
theorem three_of {α : Type} {l : List α} (h : l.length = 3) : ∃ a b c, l = [a, b, c] :=
  match l, h with
  | [a, b, c], _ => ⟨a, b, c, rfl⟩
/-- A wrapper's three cells. -/
theorem open_wrap {k : Nat} {cs : List Value} {y : DataW H × List MemPlace} (h : DataW.trod enc Tryd.prog w 0 (fun _ => true) true k 34 cs = some y) (hw : ∀ n ∈ y.1.weights Tryd.prog 34, n ≤ reachBytes) :
    ∃ (a b : Int) (x : Value) (l : List ByteArray), cs = [.int .i64 a, .int .i64 b, x] ∧ Texts w x l := by
  have c1 : Tryd.prog.cellsOf 3 = 1 := by kernel_rfl
  have c2 : Tryd.prog.cellsOf 32 = 1 := by kernel_rfl
  have c3 : Tryd.prog.cellsOf 34 = 3 := by kernel_rfl
  obtain ⟨y0, y1, y2, n, hx, hl, h0, h1, h2⟩ := Deep.trod_struct3 Tryd.underlying34 h
  rw [c3] at hl
  obtain ⟨x0, x1, x2, rfl⟩ := three_of hl
  simp only [c1, c2, List.drop_zero, List.drop_succ_cons, List.take_succ_cons, List.take_zero] at h0 h1 h2
  obtain ⟨a, ea, _, _⟩ := DataW.trod_int Tryd.underlying3 h0
  obtain ⟨b, eb, _, _⟩ := DataW.trod_int Tryd.underlying3 h1
  simp only [List.cons.injEq, and_true] at ea eb
  subst ea; subst eb
  obtain ⟨l, hl2⟩ := open_texts h2 (fun m hm => hw m (by
    rw [hx]
    simp only [DataW.weights, Tryd.underlying34]
    exact DataW.weights_mem_each (ts := [3, 3, 32]) (ds := [y0.1, y1.1, y2.1]) (j := 2) rfl rfl m hm))
  exact ⟨a, b, x2, l, rfl, hl2⟩
theorem open_wraps {k : Nat} {c : Value} {y : DataW H × List MemPlace} (h : DataW.trod enc Tryd.prog w 0 (fun _ => true) true k 22 [c] = some y) (hw : ∀ n ∈ y.1.weights Tryd.prog 22, n ≤ reachBytes) : ∃ l, Wrs w c l := by
  have c3 : Tryd.prog.cellsOf 34 = 3 := by kernel_rfl
  have hby : 1 ≤ Tryd.prog.bytesOf 34 := by decide +kernel
  rcases Deep.open_slice Tryd.underlying22 h with ⟨hcs, _⟩ | ⟨a, len, cap, m, n, D, Pl, hcs, _, hl, hm, hmm, hx, hel⟩
  · simp only [List.cons.injEq, and_true] at hcs
    subst hcs
    exact ⟨[], by simp, .inl ⟨rfl, rfl⟩⟩
  · simp only [List.cons.injEq, and_true] at hcs
    subst hcs
    rw [c3] at hel
    have hlm : len ≤ m := by rw [hmm]; split <;> omega
    have hr := hw ((((List.range len).map D).length + ((List.range (m - len)).map fun j => D (len + j)).length) * Tryd.prog.bytesOf 34) (by rw [hx]; simp [DataW.weights, Tryd.underlying22])
    simp only [List.length_map, List.length_range, reachBytes] at hr
    have hr2 : len + (m - len) ≤ (len + (m - len)) * Tryd.prog.bytesOf 34 := Nat.le_mul_of_pos_right _ hby
    have each : ∀ i, ∃ d : WD, i < len → ∃ b o, a = ⟨b, o, none⟩ ∧ b < w.heap.size ∧ Wrap1 w b (o + i * 3) d := fun i => by
      by_cases hi : i < len
      · obtain ⟨cs, hc, ht⟩ := hel i (by omega)
        obtain ⟨p, q, x, l, rfl, hl2⟩ := open_wrap ht (fun z hz => hw z (by
          rw [hx]
          simp only [DataW.weights, Tryd.underlying22, List.mem_cons, List.mem_append]
          exact .inr (.inl (weights_all (List.mem_map.2 ⟨i, List.mem_range.2 hi, rfl⟩) z hz))))
        obtain ⟨_, hlen, hcell⟩ := World.cells?_some hc
        obtain ⟨b, off, spot⟩ := a
        obtain ⟨cs0, hc0, _⟩ := hel 0 (by omega)
        obtain ⟨_, hlen0, hcell0⟩ := World.cells?_some hc0
        have h00 := hcell0 0 (by omega)
        rw [Deep.add_add] at h00
        obtain ⟨u, hu⟩ : ∃ u, cs0[0]? = some u := ⟨_, List.getElem?_eq_getElem (by omega)⟩
        rw [hu] at h00
        have h01 : w.cell? (⟨b, off, spot⟩ : Addr) = some u := h00
        have hspot : spot = none := World.cell?_spot h01
        subst hspot
        have hadd : ∀ j, ((⟨b, off, none⟩ : Addr).add (i * 3)).add j = ⟨b, off + i * 3 + j, none⟩ := fun j => by rw [addr_add, addr_add]
        have e0 := hcell 0 (by simp)
        have e1 := hcell 1 (by simp)
        have e2 := hcell 2 (by simp)
        rw [hadd] at e0 e1 e2
        exact ⟨(p, q, l), fun _ => ⟨b, off, rfl, World.block_lt_of_cell? w (⟨b, off + i * 3 + 0, none⟩ : Addr) e0, e0, e1, x, e2, hl2⟩⟩
      · exact ⟨wd0, fun h => absurd h hi⟩
    obtain ⟨W, hW⟩ := Classical.axiomOfChoice each
    refine ⟨(List.range len).map W, by simp; omega, .inr ⟨a, cap, by simp, by simpa using hl, hm, ?_⟩⟩
    by_cases h0 : len = 0
    · subst h0; exact .inl rfl
    · obtain ⟨b, o, rfl, hb, _⟩ := hW 0 (by omega)
      refine .inr ⟨b, o, rfl, hb, fun i hi => ?_⟩
      have hi' : i < len := by simpa using hi
      obtain ⟨b', o', e, _, h3⟩ := hW i hi'
      cases e
      have : ((List.range len).map W).getD i wd0 = W i := by simp [List.getD_eq_getElem?_getD, hi']
      rw [this]
      exact h3
/-- An error's three cells. -/
theorem open_err {k : Nat} {cs : List Value} {y : DataW H × List MemPlace} (h : DataW.trod enc Tryd.prog w 0 (fun _ => true) true k 24 cs = some y) (hw : ∀ n ∈ y.1.weights Tryd.prog 24, n ≤ reachBytes) :
    ∃ (c : Int) (s : ByteArray) (x : Value) (l : List WD), cs = [.int .i64 c, .string s, x] ∧ (-9223372036854775808 ≤ c ∧ c ≤ 9223372036854775807) ∧ s.size ≤ maxLen ∧ Wrs w x l := by
  have c1 : Tryd.prog.cellsOf 3 = 1 := by kernel_rfl
  have c0 : Tryd.prog.cellsOf 9 = 1 := by kernel_rfl
  have c2 : Tryd.prog.cellsOf 22 = 1 := by kernel_rfl
  have c3 : Tryd.prog.cellsOf 24 = 3 := by kernel_rfl
  obtain ⟨y0, y1, y2, n, hx, hl, h0, h1, h2⟩ := Deep.trod_struct3 Tryd.underlying24 h
  rw [c3] at hl
  obtain ⟨x0, x1, x2, rfl⟩ := three_of hl
  simp only [c0, c1, c2, List.drop_zero, List.drop_succ_cons, List.take_succ_cons, List.take_zero] at h0 h1 h2
  obtain ⟨a, ea, _, hwf⟩ := DataW.trod_int Tryd.underlying3 h0
  obtain ⟨s, es, _, hs⟩ := DataW.trod_string Tryd.underlying9 h1
  simp only [List.cons.injEq, and_true] at ea es
  subst ea; subst es
  obtain ⟨l, hl2⟩ := open_wraps h2 (fun m hm => hw m (by
    rw [hx]
    simp only [DataW.weights, Tryd.underlying24]
    exact DataW.weights_mem_each (ts := [3, 9, 22]) (ds := [y0.1, y1.1, y2.1]) (j := 2) rfl rfl m hm))
  refine ⟨a, s, x2, l, rfl, ?_, hs, hl2⟩
  simp only [Lit.wf, IntKind.min, IntKind.max, IntKind.signed, IntKind.bits, Bool.and_eq_true] at hwf
  simp at hwf
  omega
end
end Go.Proofs.YtoagkgdjekbcmaaDoor
