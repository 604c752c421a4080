/- From a row's condition to texts, and to an automaton with texts. -/
import Derived.Test.YtgcjclglhijchaaDoorDnr
import Derived.Test.YtgcjclglhijchaaDoorRns15
namespace Go.Proofs.YtgcjclglhijchaaDoor
open Go Go.ChangeShapes Go.WideShapes Go.ChangeAt Go.RowKit
theorem three_ofq {α : Type} {l : List α} (h : l.length = 3) : ∃ a b c, l = [a, b, c] :=
  match l, h with
  | [a, b, c], _ => ⟨a, b, c, rfl⟩
theorem u8_ofq {n : Int} (h : (Lit.int .u8 n).wf = true) : 0 ≤ n ∧ n ≤ 255 := by
  simp only [Lit.wf, IntKind.min, IntKind.max, IntKind.signed, IntKind.bits, Bool.and_eq_true] at h
  simp at h
  omega
section
variable {H : Type} {enc : TypeId × Value → H} {w : World}
theorem open_bytesq {k : Nat} {v : Value} {y : DataW H × List MemPlace} (h : DataW.trod enc Tryd.prog w 0 (fun _ => true) true k 47 [v] = some y) (hw : ∀ n ∈ y.1.weights Tryd.prog 47, n ≤ reachBytes) : ∃ L, Bytes w v L := by
  have c1 : Tryd.prog.cellsOf 5 = 1 := by kernel_rfl
  have b1 : Tryd.prog.bytesOf 5 = 1 := by kernel_rfl
  rcases DataW.trod_slice Tryd.underlying47 h with ⟨hcs, _⟩ | ⟨a, len, cap, elems, rest, m, hm, hcs, hxe, hb, hle, hcm, helen, hel, hsp, hns⟩
  · simp only [List.cons.injEq, and_true] at hcs
    subst hcs
    exact ⟨[], Slc.nil w⟩
  · simp only [List.cons.injEq, and_true] at hcs
    subst hcs
    have hS : ∀ i, ∃ n : UInt8, i < len → w.cell? (a.add i) = some (ub n) := by
      intro i
      by_cases hi : i < len
      · have hi2 := hel i hi
        rw [List.getElem?_eq_getElem (by omega), c1] at hi2
        obtain ⟨cs', h1, h2⟩ := Option.bind_eq_some_iff.1 hi2
        obtain ⟨n, rfl, _, hn⟩ := DataW.trod_int Tryd.underlying5 h2
        obtain ⟨_, _, hc⟩ := World.cells?_some h1
        have := hc 0 (by omega)
        have hn2 := u8_ofq hn
        refine ⟨UInt8.ofNat n.toNat, fun _ => ?_⟩
        have e : ((UInt8.ofNat n.toNat).toNat : Int) = n := by simp; omega
        show w.cell? (a.add i) = some (.int .u8 ((UInt8.ofNat n.toNat).toNat : Int))
        rw [e]; simpa [Addr.add] using this
      · exact ⟨0, fun h => absurd h hi⟩
    obtain ⟨X, hX⟩ := Classical.axiomOfChoice hS
    have hwl := hw ((elems.length + rest.length) * 1) (by rw [hxe]; simp [DataW.weights, Tryd.underlying47, b1])
    simp only [reachBytes] at hwl
    refine ⟨(List.range len).map X, some a, cap, by simp, by simpa using hle, ⟨by simp; omega, hcm⟩, ?_⟩
    by_cases h0 : len = 0
    · subst h0; exact .inl rfl
    · obtain ⟨b, off, spot⟩ := a
      have h00 := hX 0 (by omega)
      have hspot : spot = none := by simpa [Addr.add] using World.cell?_spot h00
      subst hspot
      simp only [addr_addq] at hX h00
      refine .inr ⟨b, off, rfl, World.block_lt_of_cell? w (⟨b, off + 0, none⟩ : Addr) h00, fun i hi => ?_⟩
      have hi' : i < len := by simpa using hi
      rw [hX i hi']
      simp [hi']
theorem open_txsq {k : Nat} {v : Value} {y : DataW H × List MemPlace} (h : DataW.trod enc Tryd.prog w 0 (fun _ => true) true k 56 [v] = some y) (hw : ∀ n ∈ y.1.weights Tryd.prog 56, n ≤ reachBytes) : ∃ R, Txs w v R := by
  have c1 : Tryd.prog.cellsOf 47 = 1 := by kernel_rfl
  have b8 : Tryd.prog.bytesOf 47 = 24 := by kernel_rfl
  rcases DataW.trod_slice Tryd.underlying56 h with ⟨hcs, _⟩ | ⟨a, len, cap, elems, rest, m, hm, hcs, hxe, hb, hle, hcm, helen, hel, hsp, hns⟩
  · simp only [List.cons.injEq, and_true] at hcs
    subst hcs
    exact ⟨[], [], rfl, Slc.nil w, fun i hi => by cases hi⟩
  · simp only [List.cons.injEq, and_true] at hcs
    subst hcs
    have hS : ∀ i, ∃ (u : Value) (L : List UInt8), i < len → w.cell? (a.add i) = some u ∧ Bytes w u L := by
      intro i
      by_cases hi : i < len
      · have hi2 := hel i hi
        rw [List.getElem?_eq_getElem (by omega), c1] at hi2
        obtain ⟨cs', h1, h2⟩ := Option.bind_eq_some_iff.1 hi2
        obtain ⟨hlen, _, hc⟩ := World.cells?_some h1
        match cs', hlen with
        | [u], _ =>
          obtain ⟨L, hL⟩ := open_bytesq h2 fun n hn => hw n (by
            rw [hxe]
            simp only [DataW.weights, Tryd.underlying56, List.mem_cons, List.mem_append]
            exact .inr (.inl (weights_allq (List.mem_map.2 ⟨elems[i], List.getElem_mem _, rfl⟩) n hn)))
          have := hc 0 (by omega)
          exact ⟨u, L, fun _ => ⟨by simpa [Addr.add] using this, hL⟩⟩
      · exact ⟨.slice none 0 0, [], fun h => absurd h hi⟩
    obtain ⟨X, hX⟩ := Classical.axiomOfChoice hS
    obtain ⟨Z, hX⟩ := Classical.axiomOfChoice hX
    have hwl := hw ((elems.length + rest.length) * 24) (by rw [hxe]; simp [DataW.weights, Tryd.underlying56, b8])
    simp only [reachBytes] at hwl
    refine ⟨(List.range len).map Z, (List.range len).map X, by simp, ⟨some a, cap, by simp, by simpa using hle, ⟨by simp; omega, hcm⟩, ?_⟩, fun i hi => ?_⟩
    · by_cases h0 : len = 0
      · subst h0; exact .inl rfl
      · obtain ⟨b, off, spot⟩ := a
        have h00 := (hX 0 (by omega)).1
        have hspot : spot = none := by simpa [Addr.add] using World.cell?_spot h00
        subst hspot
        simp only [addr_addq] at hX h00
        refine .inr ⟨b, off, rfl, World.block_lt_of_cell? w (⟨b, off + 0, none⟩ : Addr) h00, fun i hi => ?_⟩
        have hi' : i < len := by simpa using hi
        rw [(hX i hi').1]
        simp [hi']
    · have hi' : i < len := by simpa using hi
      exact ⟨X i, by simp [hi'], by simpa using (hX i hi').2⟩
end
end Go.Proofs.YtgcjclglhijchaaDoor
