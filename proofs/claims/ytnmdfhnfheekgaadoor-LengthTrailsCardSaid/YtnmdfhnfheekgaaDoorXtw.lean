/- Pairs of expressions in memory (LengthTrails' argument), and their opening from a row's condition. -/
import Derived.Test.YtnmdfhnfheekgaaDoorXo
namespace Go.Proofs.YtnmdfhnfheekgaaDoor
open Go Go.ChangeShapes Go.WideShapes Go.ChangeAt Go.RowKit
structure TwoC (w : World) (B b o : Nat) (p : Xp × Xp) (a1 : Option Addr) (c1 : Nat) (a2 : Option Addr) (c2 : Nat) : Prop where
  lo : ∀ j, j < 10 → w.cell? ⟨b, o + j, none⟩ = (xcs p.1 a1 c1)[j]?
  hi : ∀ j, j < 10 → w.cell? ⟨b, o + (10 + j), none⟩ = (xcs p.2 a2 c2)[j]?
  ok1 : Xok p.1
  ok2 : Xok p.2
  at1 : Xat w B a1 c1 p.1.args
  at2 : Xat w B a2 c2 p.2.args
structure Twos (w : World) (B b off : Nat) (L : List (Xp × Xp)) : Prop where
  one : ∀ i (h : i < L.length), ∃ a1 c1 a2 c2, TwoC w B b (off + i * 20) L[i] a1 c1 a2 c2
  low : b < B
theorem open_two {H : Type} {enc : TypeId × Value → H} {w : World} {k : Nat} {cs : List Value} {y : DataW H × List MemPlace} (h : DataW.trod enc Tryd.prog w 0 (fun _ => true) true k 59 cs = some y) : ∃ p a1 c1 a2 c2, cs = xcs (Prod.fst (α := Xp) (β := Xp) p) a1 c1 ++ xcs p.2 a2 c2 ∧ Xok p.1 ∧ Xok p.2 ∧ Xat w w.heap.size a1 c1 p.1.args ∧ Xat w w.heap.size a2 c2 p.2.args := by
  have c10 : Tryd.prog.cellsOf 28 = 10 := by kernel_rfl
  have c20 : Tryd.prog.cellsOf 59 = 20 := by kernel_rfl
  obtain ⟨xs, n, hn, hx, hl, hlen, hf⟩ := DataW.trod_struct Tryd.underlying59 h
  rw [c20] at hl
  have e0 : ∃ y0, DataW.trod enc Tryd.prog w 0 (fun _ => true) true n 28 ((cs.drop 0).take (Tryd.prog.cellsOf 28)) = some y0 := by
    have := hf 0 _ rfl
    rw [List.getElem?_eq_getElem (by rw [hlen]; decide)] at this
    exact ⟨_, this⟩
  have e1 : ∃ y1, DataW.trod enc Tryd.prog w 0 (fun _ => true) true n 28 ((cs.drop 10).take (Tryd.prog.cellsOf 28)) = some y1 := by
    have := hf 1 _ rfl
    rw [List.getElem?_eq_getElem (by rw [hlen]; decide)] at this
    exact ⟨_, this⟩
  obtain ⟨y0, e0⟩ := e0
  obtain ⟨y1, e1⟩ := e1
  rw [c10] at e0 e1
  obtain ⟨x1, a1, c1, h1, k1, t1⟩ := open_xp n _ _ e0
  obtain ⟨x2, a2, c2, h2, k2, t2⟩ := open_xp n _ _ e1
  refine ⟨(x1, x2), a1, c1, a2, c2, ?_, k1, k2, t1, t2⟩
  have h3 : cs = (cs.drop 0).take 10 ++ (cs.drop 10).take 10 := by
    rw [List.drop_zero, List.take_of_length_le (l := cs.drop 10) (by simp [hl]), List.take_append_drop]
  rw [h3, h1, h2]
theorem open_twos {H : Type} {enc : TypeId × Value → H} {w : World} {k : Nat} {v : Value} {y : DataW H × List MemPlace} (h : DataW.trod enc Tryd.prog w 0 (fun _ => true) true k 62 [v] = some y) : (∃ a c, v = .slice a 0 c) ∨ ∃ b off c L, v = .slice (some ⟨b, off, none⟩) (L : List (Xp × Xp)).length c ∧ L.length ≤ c ∧ c ≤ maxLen ∧ Twos w w.heap.size b off L := by
  have c20 : Tryd.prog.cellsOf 59 = 20 := by kernel_rfl
  rcases DataW.trod_slice Tryd.underlying62 h with ⟨hcs, _⟩ | ⟨a, len, cap, elems, rest, m, hm, hcs, _, hb, hle, hcm, helen, hel, hsp, hns⟩
  · simp only [List.cons.injEq, and_true] at hcs
    subst hcs
    exact .inl ⟨none, 0, rfl⟩
  · simp only [List.cons.injEq, and_true] at hcs
    subst hcs
    by_cases h0 : len = 0
    · subst h0; exact .inl ⟨_, _, rfl⟩
    right
    have hS : ∀ i, ∃ (p : Xp × Xp), i < len → ∃ a1 c1 a2 c2, (∀ j, j < 20 → w.cell? ((a.add (i * 20)).add j) = (xcs p.1 a1 c1 ++ xcs p.2 a2 c2)[j]?) ∧ Xok p.1 ∧ Xok p.2 ∧ Xat w w.heap.size a1 c1 p.1.args ∧ Xat w w.heap.size a2 c2 p.2.args := by
      intro i
      by_cases hi : i < len
      · have hi2 := hel i hi
        rw [List.getElem?_eq_getElem (by omega), c20] at hi2
        obtain ⟨cs', h1, h2⟩ := Option.bind_eq_some_iff.1 hi2
        obtain ⟨p, a1, c1, a2, c2, rfl, hk, hk2, hx, hx2⟩ := open_two h2
        obtain ⟨_, _, hc⟩ := World.cells?_some h1
        exact ⟨p, fun _ => ⟨a1, c1, a2, c2, fun j hj => hc j hj, hk, hk2, hx, hx2⟩⟩
      · exact ⟨(.mk 0 0 0#256 .empty 0 0 [], .mk 0 0 0#256 .empty 0 0 []), fun h => absurd h hi⟩
    obtain ⟨X, hX⟩ := Classical.axiomOfChoice hS
    obtain ⟨b, off, spot⟩ := a
    have h00 : ∃ v, w.cell? ((⟨b, off, spot⟩ : Addr).add (0 * 20) |>.add 0) = some v := by
      obtain ⟨a1, c1, a2, c2, hc, _⟩ := hX 0 (by omega)
      exact ⟨_, hc 0 (by decide)⟩
    obtain ⟨v0, h00⟩ := h00
    have hspot : spot = none := by
      simpa [Addr.add] using World.cell?_spot h00
    subst hspot
    simp only [addr_add] at hX h00
    refine ⟨b, off, cap, (List.range len).map X, by simp, by simpa using hle, hcm, ⟨fun i hi => ?_, World.block_lt_of_cell? w (⟨b, off + 0 * 20 + 0, none⟩ : Addr) h00⟩⟩
    have hi' : i < len := by simpa using hi
    obtain ⟨a1, c1, a2, c2, hc, k1, k2, t1, t2⟩ := hX i hi'
    simp only [List.getElem_map, List.getElem_range]
    refine ⟨a1, c1, a2, c2, ⟨fun j hj => ?_, fun j hj => ?_, k1, k2, t1, t2⟩⟩
    · rw [hc j (by omega), List.getElem?_append_left (by simpa [xcs] using hj)]
    · rw [hc (10 + j) (by omega), List.getElem?_append_right (by simp [xcs])]
      simp [xcs]
/-- A list of pairs, where its slice says. -/
def Tat (w : World) (B : Nat) (a : Option Addr) (L : List (Xp × Xp)) : Prop := L = [] ∨ ∃ b o, a = some ⟨b, o, none⟩ ∧ Twos w B b o L
theorem TwoC.blw {w w' : World} {B b o : Nat} {p : Xp × Xp} {a1 : Option Addr} {c1 : Nat} {a2 : Option Addr} {c2 : Nat} (h : TwoC w B b o p a1 c1 a2 c2) (hb : b < B) (hx : Below B w w') : TwoC w' B b o p a1 c1 a2 c2 :=
  ⟨fun j hj => by rw [hx.cell (p := ⟨b, o + j, none⟩) hb]; exact h.lo j hj, fun j hj => by rw [hx.cell (p := ⟨b, o + (10 + j), none⟩) hb]; exact h.hi j hj, h.ok1, h.ok2, h.at1.blw hx, h.at2.blw hx⟩
theorem Tat.blw {w w' : World} {B : Nat} {a : Option Addr} {L : List (Xp × Xp)} (h : Tat w B a L) (hx : Below B w w') : Tat w' B a L := by
  rcases h with h | ⟨b, o, ha, h⟩
  · exact .inl h
  · refine .inr ⟨b, o, ha, ⟨fun i hi => ?_, h.low⟩⟩
    obtain ⟨a1, c1, a2, c2, hc⟩ := h.one i hi
    exact ⟨a1, c1, a2, c2, hc.blw h.low hx⟩
def PrC (w : World) (b o k : Nat) (x y : Xp) (a1 : Option Addr) (c1 : Nat) (a2 : Option Addr) (c2 : Nat) : Prop :=
  w.cell? ⟨b, o + k * 20, none⟩ = some (.int .i64 x.op) ∧ w.cell? ⟨b, o + k * 20 + 1, none⟩ = some (.int .i64 x.at_) ∧ w.cell? ⟨b, o + k * 20 + 2, none⟩ = some (.int .u64 (wd x.set 0)) ∧ w.cell? ⟨b, o + k * 20 + 3, none⟩ = some (.int .u64 (wd x.set 1)) ∧ w.cell? ⟨b, o + k * 20 + 4, none⟩ = some (.int .u64 (wd x.set 2)) ∧ w.cell? ⟨b, o + k * 20 + 5, none⟩ = some (.int .u64 (wd x.set 3)) ∧ w.cell? ⟨b, o + k * 20 + 6, none⟩ = some (.string x.text) ∧ w.cell? ⟨b, o + k * 20 + 7, none⟩ = some (.int .i64 x.mn) ∧ w.cell? ⟨b, o + k * 20 + 8, none⟩ = some (.int .i64 x.mx) ∧ w.cell? ⟨b, o + k * 20 + 9, none⟩ = some (.slice a1 x.args.length c1) ∧
  w.cell? ⟨b, o + k * 20 + 10, none⟩ = some (.int .i64 y.op) ∧ w.cell? ⟨b, o + k * 20 + 11, none⟩ = some (.int .i64 y.at_) ∧ w.cell? ⟨b, o + k * 20 + 12, none⟩ = some (.int .u64 (wd y.set 0)) ∧ w.cell? ⟨b, o + k * 20 + 13, none⟩ = some (.int .u64 (wd y.set 1)) ∧ w.cell? ⟨b, o + k * 20 + 14, none⟩ = some (.int .u64 (wd y.set 2)) ∧ w.cell? ⟨b, o + k * 20 + 15, none⟩ = some (.int .u64 (wd y.set 3)) ∧ w.cell? ⟨b, o + k * 20 + 16, none⟩ = some (.string y.text) ∧ w.cell? ⟨b, o + k * 20 + 17, none⟩ = some (.int .i64 y.mn) ∧ w.cell? ⟨b, o + k * 20 + 18, none⟩ = some (.int .i64 y.mx) ∧ w.cell? ⟨b, o + k * 20 + 19, none⟩ = some (.slice a2 y.args.length c2)
theorem Tat.cells {w : World} {B : Nat} {a : Option Addr} {L : List (Xp × Xp)} (h : Tat w B a L) {k : Nat} (hk : k < L.length) : ∃ b o, a = some ⟨b, o, none⟩ ∧ b < B ∧ ∃ x y a1 c1 a2 c2, L[k] = (x, y) ∧ Xok x ∧ Xok y ∧ Xat w B a1 c1 x.args ∧ Xat w B a2 c2 y.args ∧ PrC w b o k x y a1 c1 a2 c2 := by
  rcases h with h | ⟨b, o, ha, h⟩
  · subst h; simp at hk
  · obtain ⟨a1, c1, a2, c2, hc⟩ := h.one k hk
    exact ⟨b, o, ha, h.low, L[k].1, L[k].2, a1, c1, a2, c2, rfl, hc.ok1, hc.ok2, hc.at1, hc.at2, hc.lo 0 (by decide), hc.lo 1 (by decide), hc.lo 2 (by decide), hc.lo 3 (by decide), hc.lo 4 (by decide), hc.lo 5 (by decide), hc.lo 6 (by decide), hc.lo 7 (by decide), hc.lo 8 (by decide), hc.lo 9 (by decide), hc.hi 0 (by decide), hc.hi 1 (by decide), hc.hi 2 (by decide), hc.hi 3 (by decide), hc.hi 4 (by decide), hc.hi 5 (by decide), hc.hi 6 (by decide), hc.hi 7 (by decide), hc.hi 8 (by decide), hc.hi 9 (by decide)⟩
theorem PrC.ext {w w' : World} {b o k : Nat} {x y : Xp} {a1 : Option Addr} {c1 : Nat} {a2 : Option Addr} {c2 : Nat} (h : PrC w b o k x y a1 c1 a2 c2) (hb : b < w.heap.size) (hx : Ext w w') : PrC w' b o k x y a1 c1 a2 c2 := by
  have e : ∀ n, w'.cell? ⟨b, n, none⟩ = w.cell? ⟨b, n, none⟩ := fun n => Below.cell hx (p := ⟨b, n, none⟩) hb
  unfold PrC at *
  simp only [e]
  exact h
end Go.Proofs.YtnmdfhnfheekgaaDoor
