/- Two lists of lexemes held against each other. -/
import Derived.Test.YtnecafokkhhhhaaDoorLw
import Derived.BigQuiet
namespace Go.Proofs.YtnecafokkhhhhaaDoor
open Go Go.RowKit
/-- A slice's place holds these lexemes. -/
def Lxv (w : World) (a : Option Addr) (L : List Lxm) : Prop := 0 < L.length → ∃ g, a = some ⟨g, 0, none⟩ ∧ Lms w g L
theorem Lxv.ext {w w' : World} {a : Option Addr} {L : List Lxm} (h : Lxv w a L) (hx : Ext w w') : Lxv w' a L := fun hl => by
  obtain ⟨g, e, hg⟩ := h hl
  exact ⟨g, e, hg.ext hx⟩
theorem Lms.take {w : World} {g : Nat} {L : List Lxm} (h : Lms w g L) (n : Nat) : Lms w g (L.take n) :=
  ⟨h.1, fun i hi f hf => by
    rw [List.length_take] at hi
    rw [h.2 i (by omega) f hf, List.getElem_take]⟩
theorem Lxv.take {w : World} {a : Option Addr} {L : List Lxm} (h : Lxv w a L) (n : Nat) : Lxv w a (L.take n) := fun hl => by
  rw [List.length_take] at hl
  obtain ⟨g, e, hg⟩ := h (by omega)
  exact ⟨g, e, hg.take n⟩
set_option maxHeartbeats 1000000 in
set_option maxRecDepth 20000 in
theorem eqlex_any (a b : Option Addr) (c1 c2 : Nat) (L : List Lxm) (w : World) (h1 : Lxv w a L) (h2 : Lxv w b L) (hl : L.length ≤ 9223372036854775806) :
    Calls Tryd.prog 9 #[.slice a L.length c1, .slice b L.length c2] w fun e w' => e = .returned (.bool true) ∧ Ext w w' := by
  have H1 := Lib.hid h1
  have H2 := Lib.hid h2
  clear h1 h2
  go_enter Tryd.func9, Tryd.ntmps9
  go_wp2_with fail
  go_loopw [5] (fun i wr => ∃ k : Nat, k ≤ L.length ∧ i = .int .i64 k ∧ Hid (Ext w wr)) (fun i _ => L.length - (intOf i).toNat)
  case atStart => exact ⟨0, Nat.zero_le _, rfl, Lib.hid (Below.refl _ _)⟩
  case round =>
    obtain ⟨k, hk, rfl, hEr⟩ := hrel
    by_cases hkl : k < L.length
    · have d1 : decide ((k : Int) < (L.length : Int)) = true := by simp; omega
      obtain ⟨g, rfl, hg⟩ := H1.out (by omega)
      obtain ⟨g2, rfl, hg2⟩ := H2.out (by omega)
      obtain ⟨y, hy⟩ : ∃ y, L[k] = y := ⟨_, rfl⟩
      have hLc := fun f hf => (hg.ext hEr.out).2 k hkl f hf
      have hMc := fun f hf => (hg2.ext hEr.out).2 k hkl f hf
      rw [hy] at hLc hMc
      have c0 : wr.cell? ⟨g, k * 9, none⟩ = some (.int .i64 (y.kind : Int)) := hLc 0 (by decide)
      have c1 : wr.cell? ⟨g, k * 9 + 1, none⟩ = some (.int .i64 (y.a : Int)) := hLc 1 (by decide)
      have c2 : wr.cell? ⟨g, k * 9 + 2, none⟩ = some (.int .i64 (y.e : Int)) := hLc 2 (by decide)
      have c3 : wr.cell? ⟨g, k * 9 + 3, none⟩ = some (.string ⟨y.t.toArray⟩) := hLc 3 (by decide)
      have c4 : wr.cell? ⟨g, k * 9 + 4, none⟩ = some (.int .i64 (y.n : Int)) := hLc 4 (by decide)
      have c5 : wr.cell? ⟨g, k * 9 + 5, none⟩ = some (.int .u64 (wd y.S 0)) := hLc 5 (by decide)
      have c6 : wr.cell? ⟨g, k * 9 + 6, none⟩ = some (.int .u64 (wd y.S 1)) := hLc 6 (by decide)
      have c7 : wr.cell? ⟨g, k * 9 + 7, none⟩ = some (.int .u64 (wd y.S 2)) := hLc 7 (by decide)
      have c8 : wr.cell? ⟨g, k * 9 + 8, none⟩ = some (.int .u64 (wd y.S 3)) := hLc 8 (by decide)
      have m0 : wr.cell? ⟨g2, k * 9, none⟩ = some (.int .i64 (y.kind : Int)) := hMc 0 (by decide)
      have m1 : wr.cell? ⟨g2, k * 9 + 1, none⟩ = some (.int .i64 (y.a : Int)) := hMc 1 (by decide)
      have m2 : wr.cell? ⟨g2, k * 9 + 2, none⟩ = some (.int .i64 (y.e : Int)) := hMc 2 (by decide)
      have m3 : wr.cell? ⟨g2, k * 9 + 3, none⟩ = some (.string ⟨y.t.toArray⟩) := hMc 3 (by decide)
      have m4 : wr.cell? ⟨g2, k * 9 + 4, none⟩ = some (.int .i64 (y.n : Int)) := hMc 4 (by decide)
      have m5 : wr.cell? ⟨g2, k * 9 + 5, none⟩ = some (.int .u64 (wd y.S 0)) := hMc 5 (by decide)
      have m6 : wr.cell? ⟨g2, k * 9 + 6, none⟩ = some (.int .u64 (wd y.S 1)) := hMc 6 (by decide)
      have m7 : wr.cell? ⟨g2, k * 9 + 7, none⟩ = some (.int .u64 (wd y.S 2)) := hMc 7 (by decide)
      have m8 : wr.cell? ⟨g2, k * 9 + 8, none⟩ = some (.int .u64 (wd y.S 3)) := hMc 8 (by decide)
      have hse := fun w => lx_same (y.kind : Int) (y.a : Int) (y.e : Int) ⟨y.t.toArray⟩ (y.n : Int) y.S w
      have i0 : (0 : Int) ≤ (k : Int) := by omega
      have i1 : (k : Int) < (L.length : Int) := by omega
      clear hLc hMc hy hg hg2
      go_wp2_with fail
      go_quiet (fail)
      go_wp2_with fail
      go_roundw
      case rel => exact ⟨k + 1, by omega, by go_num, Lib.hid (bel_call hEr.out (drew_ext _ _))⟩
      case measure => simp [intOf]; omega
    · have d1 : decide ((k : Int) < (L.length : Int)) = false := by simp; omega
      go_wp2_with fail
      go_ret
      exact ⟨rfl, hEr.out⟩
theorem add_zero (g j : Nat) : (⟨g, 0, none⟩ : Addr).add j = ⟨g, j, none⟩ := by unfold Addr.add; split <;> simp_all
/-- Where a list lies: nowhere, or from a block's beginning on. -/
def Lyf (w : World) (a : Option Addr) (cap : Nat) (L : List Lxm) : Prop := (a = none ∧ L = [] ∧ cap = 0) ∨ ∃ g, a = some ⟨g, 0, none⟩ ∧ g < w.heap.size ∧ ∀ j u, (L.flatMap lcl)[j]? = some u → w.cell? ((⟨g, 0, none⟩ : Addr).add j) = some u
theorem Lyf.ext {w w' : World} {a : Option Addr} {cap : Nat} {L : List Lxm} (h : Lyf w a cap L) (hx : Ext w w') : Lyf w' a cap L := by
  rcases h with h | ⟨g, e, hg, h⟩
  · exact .inl h
  · exact .inr ⟨g, e, Nat.lt_of_lt_of_le hg hx.size, fun j u hu => by rw [add_zero, hx.cell (p := ⟨g, j, none⟩) hg, ← add_zero]; exact h j u hu⟩
theorem own_none (w : World) (t : TypeId) : (w.alloc (.cells #[] t)).ownsRow w.heap.size t 9 (.slice (some ⟨w.heap.size, 0, none⟩) 0 0) 0 [] :=
  ⟨rfl, .inr ⟨w.heap.size, 0, #[], rfl, Nat.le_refl _, Blk.new w #[] t, Nat.le_refl _, by decide, rfl, rfl⟩⟩
theorem lcl_one (y : Lxm) : ∀ u ∈ lcl y, u.oneCell' = true := by
  intro u hu
  simp [lcl] at hu
  rcases hu with rfl | rfl | rfl | rfl | rfl | rfl | rfl | rfl | rfl <;> rfl
theorem lcl_ones (L : List Lxm) : ∀ u ∈ L.flatMap lcl, u.oneCell' = true := by
  intro u hu
  obtain ⟨y, _, h⟩ := List.mem_flatMap.1 hu
  exact lcl_one y u h
/-- What append lays lies above. -/
theorem ext_grown {w w1 w2 : World} {v : Value} {e : TypeId} {n : Nat} {xs : List Value} (h : Ext w w1) (hg : w1.grownBy w2 v.ownBlock) (ho : w1.ownsRow w.heap.size e 9 v n xs) : Ext w w2 :=
  ⟨hg.os.trans h.os, hg.tape.trans h.tape, hg.output.trans h.output, Nat.le_trans h.size hg.size, fun j hj => (hg.block j (Nat.lt_of_lt_of_le hj h.size) (fun e => by have := (ho.lt j e.symm).1; omega)).trans (h.block j hj)⟩
/-- A list that was told: where it lies. -/
theorem own_list {w : World} {base : Nat} {e : TypeId} {v : Value} {L : List Lxm} (h : w.ownsRow base e 9 v L.length (L.flatMap lcl)) :
    ∃ a cap, v = .slice a L.length cap ∧ Lxv w a L ∧ L.length ≤ cap ∧ Lyf w a cap L := by
  have h' := h
  obtain ⟨hl, ⟨rfl, h0⟩ | ⟨g, cap, cur, rfl, hb, hg, h1, h2, h3, h4⟩⟩ := h
  · have hL : L = [] := List.length_eq_zero_iff.1 h0
    subst hL
    exact ⟨none, 0, rfl, fun hp => by simp at hp, Nat.zero_le _, .inl ⟨rfl, rfl, rfl⟩⟩
  · refine ⟨some ⟨g, 0, none⟩, cap, rfl, fun hp => ?_, h1, .inr ⟨g, rfl, (Array.getElem?_eq_some_iff.1 hg).1, h'.cells (g := g) rfl⟩⟩
    obtain ⟨g', cap', e1, _, _, _, hm⟩ := (lms_of_own h').2 hp
    cases e1
    exact ⟨g, rfl, hm⟩
end Go.Proofs.YtnecafokkhhhhaaDoor
