/- What comes in: lists of bytes, of spans, inside a list of pairs. -/
import Derived.Test.YtkhmkcaocacfhaaDoorRow
import Derived.Test.YtkhmkcaocacfhaaDoorLks
import Derived.Deep.SlicePairs
import Derived.SizedLaws
namespace Go.Proofs.YtkhmkcaocacfhaaDoor
open Go Go.ChangeShapes Go.WideShapes Go.ChangeAt Go.RowKit
theorem addr_add (b off i : Nat) : (⟨b, off, none⟩ : Addr).add i = ⟨b, off + i, none⟩ := by unfold Addr.add; split <;> simp_all
def b8 (v : Value) : UInt8 := UInt8.ofNat (intOf v).toNat
theorem ub_b8 {H : Type} {enc : TypeId × Value → H} {w : World} {base : Nat} {sp : Nat → Bool} {held : Bool} {n : Nat} {v : Value} {x : DataW H × List MemPlace} (h : DataW.trod enc Tryd.prog w base sp held n 5 [v] = some x) : v = ub (b8 v) := by
  obtain ⟨k, f, _, hw⟩ := DataW.trod_int Tryd.underlying5 h
  simp only [List.cons.injEq, and_true] at f
  subst f
  simp only [Lit.wf, IntKind.min, IntKind.max, IntKind.signed, IntKind.bits, Bool.and_eq_true] at hw
  simp at hw
  simp only [ub, b8, intOf]
  rw [u8n _ (by omega)]
  congr 1
  omega
theorem open_spans {H : Type} {enc : TypeId × Value → H} {w : World} {d : DataW H} {p : List MemPlace} {v : Value} (hv : ∃ a len cap, v = .slice a len cap) (h : DataW.Trod enc Tryd.prog w 0 (fun _ => true) true 27 v d p) :
    ∃ a n cap, v = .slice a n cap ∧ n ≤ maxLen ∧ (n ≤ 140737488355328 → ∃ l, Spans w v l ∧ l.length = n) := by
  obtain ⟨a0, n0, cap0, rfl⟩ := hv
  obtain ⟨fuel, hf⟩ := h
  rcases Deep.open_slice_pairs Tryd.underlying27 Tryd.underlying39 (by kernel_rfl) rfl rfl (by kernel_rfl) (by kernel_rfl) hf with ⟨hcs, hx⟩ | ⟨a, len, cap, m, n, V0, V1, D0, D1, P0, P1, hcs, _, hl, hm, hmm, hx, hel⟩
  · simp [Value.cells] at hcs
    obtain ⟨rfl, rfl, rfl⟩ := hcs
    exact ⟨none, 0, 0, rfl, by unfold maxLen; omega, fun _ => ⟨[], Slc.nil w, rfl⟩⟩
  · simp [Value.cells] at hcs
    obtain ⟨rfl, rfl, rfl⟩ := hcs
    refine ⟨some a, n0, cap0, rfl, by omega, fun hn => ?_⟩
    simp only [if_true] at hmm
    refine ⟨(List.range n0).map fun i => (b8 (V0 i), b8 (V1 i)), ?_, by simp⟩
    unfold Spans
    rw [List.length_map, List.length_range]
    refine ⟨some a, cap0, rfl, hl, ⟨hn, hm⟩, ?_⟩
    by_cases h0 : n0 = 0
    · subst h0; exact .inl rfl
    · obtain ⟨b, off, spot⟩ := a
      have hspot : spot = none := by simpa [Addr.add] using World.cell?_spot (hel 0 (by omega)).1
      subst hspot
      have hadd := addr_add b off
      refine .inr ⟨b, off, rfl, World.block_lt_of_cell? w (⟨b, off, none⟩ : Addr) (by simpa [hadd] using (hel 0 (by omega)).1), fun i hi => ?_⟩
      have hlen : (scells ((List.range n0).map fun i => (b8 (V0 i), b8 (V1 i)))).length = 2 * n0 := by rw [scells_len]; simp
      rw [hlen] at hi
      have hat := scells_at ((List.range n0).map fun i => (b8 (V0 i), b8 (V1 i))) (i / 2) (by simp; omega)
      obtain ⟨e0, e1, t0, t1⟩ := hel (i / 2) (by omega)
      rw [hadd] at e0 e1
      have hg : ((List.range n0).map fun i => (b8 (V0 i), b8 (V1 i)))[i / 2]? = some (b8 (V0 (i / 2)), b8 (V1 (i / 2))) := by
        rw [List.getElem?_map, List.getElem?_range (by omega)]; rfl
      simp only [slo, shi, List.getD_eq_getElem?_getD, hg, Option.getD_some] at hat
      rw [← ub_b8 t0, ← ub_b8 t1] at hat
      by_cases hp : i % 2 = 0
      · have e : i = 2 * (i / 2) := by omega
        rw [e, hat.1, show off + 2 * (i / 2) = off + i / 2 * 2 by omega]
        exact e0
      · have e : i = 2 * (i / 2) + 1 := by omega
        rw [e, hat.2, show off + (2 * (i / 2) + 1) = off + (i / 2 * 2 + 1) by omega]
        exact e1
theorem weights_all {H : Type} {P : Program} {e : TypeId} : ∀ {l : List (DataW H)} {d : DataW H}, d ∈ l → ∀ n ∈ d.weights P e, n ∈ DataW.weightsAll P e l
  | [], _, h, _, _ => by cases h
  | x :: l, d, h, n, hn => by
    simp only [DataW.weightsAll, List.mem_append]
    rcases List.mem_cons.1 h with rfl | h
    · exact .inl hn
    · exact .inr (weights_all h n hn)
theorem open_bytes {H : Type} {enc : TypeId × Value → H} {w : World} {k : Nat} {c : Value} {y : DataW H × List MemPlace} (h : DataW.trod enc Tryd.prog w 0 (fun _ => true) true k 26 [c] = some y) (hw : ∀ n ∈ y.1.weights Tryd.prog 26, n ≤ reachBytes) :
    ∃ bs, Bytes w c bs ∧ (∀ n m, c = .slice none n m → m = 0) := by
  have hu : Tryd.prog.underlying 5 = some (.int .u8) := by kernel_rfl
  have hby : Tryd.prog.bytesOf 5 = 1 := by kernel_rfl
  rcases open_ints Tryd.underlying26 hu (by kernel_rfl) h with ⟨hcs, hx⟩ | ⟨a, len, cap, zs, hcs, _, hl, hm, hz, hx, hcell, hwf⟩
  · simp only [List.cons.injEq, and_true] at hcs
    subst hcs
    exact ⟨[], Slc.nil w, fun n m e => by cases e; rfl⟩
  · simp only [List.cons.injEq, and_true] at hcs
    subst hcs
    simp only [if_true] at hz
    have hr := hw ((zs.take len).length + (zs.drop len).length) (by rw [hx]; simp [DataW.weights, Tryd.underlying26, lits, hby])
    have hcap : len ≤ 140737488355328 := by
      simp only [List.length_take, List.length_drop, reachBytes] at hr
      omega
    have hval : ∀ i, i < zs.length → zs.getD i 0 = ((UInt8.ofNat (zs.getD i 0).toNat).toNat : Int) := fun i hi => by
      have h1 := hwf (zs.getD i 0) (by rw [List.getD_eq_getElem?_getD, List.getElem?_eq_getElem hi]; exact List.getElem_mem hi)
      generalize zs.getD i 0 = z at *
      simp only [Lit.wf, IntKind.min, IntKind.max, IntKind.signed, IntKind.bits, Bool.and_eq_true] at h1
      simp at h1
      rw [u8n _ (by omega)]
      omega
    refine ⟨(List.range len).map fun i => UInt8.ofNat (zs.getD i 0).toNat, ?_, fun n m e => by cases e⟩
    unfold Bytes
    rw [List.length_map, List.length_range]
    refine ⟨some a, cap, rfl, hl, ⟨hcap, hm⟩, ?_⟩
    by_cases h0 : len = 0
    · subst h0; exact .inl rfl
    · obtain ⟨b, off, spot⟩ := a
      have hspot : spot = none := by simpa [Addr.add] using World.cell?_spot (hcell 0 (by omega))
      subst hspot
      have hadd := addr_add b off
      have h00 := hcell 0 (by omega)
      rw [hadd] at h00
      refine .inr ⟨b, off, rfl, World.block_lt_of_cell? w (⟨b, off + 0, none⟩ : Addr) h00, fun i hi => ?_⟩
      have hi' : i < len := by simpa using hi
      have := hcell i (by omega)
      rw [hadd] at this
      rw [this, List.getElem?_map, List.getElem?_map, List.getElem?_range hi']
      simp only [Option.map_some, ub]
      rw [← hval i (by omega)]
theorem ten_of {l : List Value} (h : l.length = 10) : ∃ x0 x1 x2 x3 x4 x5 x6 x7 x8 x9, l = [x0, x1, x2, x3, x4, x5, x6, x7, x8, x9] :=
  match l, h with
  | [x0, x1, x2, x3, x4, x5, x6, x7, x8, x9], _ => ⟨x0, x1, x2, x3, x4, x5, x6, x7, x8, x9, rfl⟩
end Go.Proofs.YtkhmkcaocacfhaaDoor
