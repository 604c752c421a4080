/- ClassReads returns true for every list of texts with places, and leaves what it read as it was: on the conditions that the errors, the tables and the type that errors.As asks for, which the card ties to the program's text, stand in their variables when the call begins. -/
import Derived.Test.YtecjodcaeldidaaGreatDoorBse
import Derived.Test.YtecjodcaeldidaaGreatDoorReaC
import Derived.Test.YtecjodcaeldidaaGreatDoorTxt
import Derived.Test.YtecjodcaeldidaaGreatDoorReaD
import Derived.BigRegion
namespace Go.Proofs.YtecjodcaeldidaaGreatDoor
open Go Go.RowKit
/-- A list of texts with places that came in. -/
def PlcIn (w : World) (v : Value) (L : List (ByteArray × Int)) : Prop :=
  ∃ a cap, v = .slice a L.length cap ∧ L.length ≤ cap ∧ cap ≤ maxLen ∧ (L = [] ∨ ∃ b o, a = some ⟨b, o, none⟩ ∧ b < w.heap.size ∧ ∀ i (h : i < L.length), w.cell? ⟨b, o + i * 2, none⟩ = some (.string L[i].1) ∧ w.cell? ⟨b, o + i * 2 + 1, none⟩ = some (.int .i64 L[i].2))
theorem PlcIn.ext {w w' : World} {v : Value} {L : List (ByteArray × Int)} (h : PlcIn w v L) (hx : Ext w w') : PlcIn w' v L := by
  obtain ⟨a, cap, hv, h1, h2, h⟩ := h
  refine ⟨a, cap, hv, h1, h2, ?_⟩
  rcases h with h | ⟨b, o, ha, hb, h⟩
  · exact .inl h
  · exact .inr ⟨b, o, ha, Nat.lt_of_lt_of_le hb hx.size, fun i hi => ⟨(hx.cell (p := ⟨b, _, none⟩) hb).trans (h i hi).1, (hx.cell (p := ⟨b, _, none⟩) hb).trans (h i hi).2⟩⟩
theorem PlcIn.cells {w : World} {va : Option Addr} {n cap : Nat} {L : List (ByteArray × Int)} (h : PlcIn w (.slice va n cap) L) {k : Nat} (hk : k < L.length) :
    ∃ b o, va = some ⟨b, o, none⟩ ∧ b < w.heap.size ∧ ∀ i (h : i < L.length), w.cell? ⟨b, o + i * 2, none⟩ = some (.string L[i].1) ∧ w.cell? ⟨b, o + i * 2 + 1, none⟩ = some (.int .i64 L[i].2) := by
  obtain ⟨a', c', h1, _, _, h | ⟨b, o, ha, hb, h⟩⟩ := h
  · subst h; exact absurd hk (by simp)
  · cases h1
    exact ⟨b, o, ha, hb, h⟩
abbrev mvA : ByteArray := ⟨#[91, 34, 97]⟩
theorem pos_three (s : ByteArray) : pos (mvA ++ s) 3 = 3 := by
  unfold pos
  have h3 : mvA.size = 3 := rfl
  rw [if_neg (by simp only [ByteArray.size_append, h3]; omega)]
  rfl
theorem rest_three (s : ByteArray) : rest (mvA ++ s) 3 = s.data.toList := by
  unfold rest
  rw [data_append]
  rfl
theorem pos_zero (s : ByteArray) : pos s 0 = 0 := by
  unfold pos
  split
  · omega
  · rfl
theorem prs_three (s : ByteArray) : prs (mvA ++ s) 3 = shf 3 (prs s 0) := by
  unfold prs
  rw [pos_three, rest_three, pos_zero]
  show cls unq (s.data.toList.length + 1) 0 s.data.toList (0 + 3) = shf 3 (cls unq (s.data.toList.length + 1) 0 s.data.toList 0)
  exact (cls_shf unq 3 _).1 0 _ 0
theorem uqs_three (s : ByteArray) : uqs (mvA ++ s) 3 = shq 3 (uqs s 0) := by
  unfold uqs
  rw [pos_three, rest_three, pos_zero]
  show quq unq s.data.toList (0 + 3) = shq 3 (quq unq s.data.toList 0)
  exact quq_shf unq 3 _ 0
theorem pE_shf (x : Sum (Bool × Nat) (BitVec 256 × Nat)) : pE (shf 3 x) = (pE x).map fun y => (y.1, y.2 + 3) := by
  cases x with
  | inl x => obtain ⟨b, q⟩ := x; simp only [shf, pE, Option.map]; congr 2
  | inr x => rfl
theorem uE_shq (x : Sum Nat (List UInt8 × Nat)) : uE (shq 3 x) = (uE x).map fun y => (y.1, y.2 + 3) := by
  cases x with
  | inl q => simp only [shq, uE, Option.map]; congr 2
  | inr x => rfl
theorem pS_shf (x : Sum (Bool × Nat) (BitVec 256 × Nat)) : pS (shf 3 x) = pS x := by cases x <;> rfl
theorem uS_shq (x : Sum Nat (List UInt8 × Nat)) : uS (shq 3 x) = uS x := by cases x <;> rfl
theorem pN_shf (x : Sum (Bool × Nat) (BitVec 256 × Nat)) (h : pE x = none) : pN (shf 3 x) = pN x + 3 := by
  cases x with
  | inl x => cases h
  | inr x => obtain ⟨S, m⟩ := x; simp only [shf, pN]; omega
theorem uN_shq (x : Sum Nat (List UInt8 × Nat)) (h : uE x = none) : uN (shq 3 x) = uN x + 3 := by
  cases x with
  | inl x => cases h
  | inr x => obtain ⟨S, m⟩ := x; simp only [shq, uN]; omega
theorem pA_le (s : ByteArray) (hs : s.size ≤ 4000) : (0 ≤ erA (pE (prs s 0)) ∧ erA (pE (prs s 0)) ≤ 1000000000000) ∧ 0 ≤ pN (prs s 0) ∧ pN (prs s 0) ≤ 1000000000000 := by
  have h := prs_len s 0
  cases hx : prs s 0 with
  | inl x =>
    obtain ⟨b, q⟩ := x
    have := h.1 b q hx
    simp only [pE, erA, pN]; omega
  | inr x =>
    obtain ⟨S, m⟩ := x
    have := h.2 S m hx
    simp only [pE, erA, pN]; omega
theorem uA_le (s : ByteArray) (hs : s.size ≤ 4000) : (0 ≤ erA (uE (uqs s 0)) ∧ erA (uE (uqs s 0)) ≤ 1000000000000) ∧ 0 ≤ uN (uqs s 0) ∧ uN (uqs s 0) ≤ 1000000000000 := by
  have h := uqs_len s 0
  cases hx : uqs s 0 with
  | inl q =>
    have := h.1 q hx
    simp only [uE, erA, uN]; omega
  | inr x =>
    obtain ⟨S, m⟩ := x
    have := h.2 S m hx
    simp only [uE, erA, uN]; omega
theorem er_nil {w : World} {ea : Nat → Addr} {v : Value} {d : Option (Nat × Int)} (h : Er w ea v d) : (v = .nilIface ∧ d = none) ∨ ∃ T x, v = .iface T x := by
  cases d with
  | none => exact .inl ⟨h, rfl⟩
  | some x => exact .inr h.iface
end Go.Proofs.YtecjodcaeldidaaGreatDoor
namespace Go.Proofs.YtecjodcaeldidaaGreatDoor
open Go Go.RowKit
theorem Tn.store5 {B b : Nat} {w : World} {z0 z1 z2 z3 z4 y0 y1 y2 y3 y4 : Value} {ty : TypeId} (hb : B ≤ b) (h : Bz (.cells #[z0, z1, z2, z3, z4] ty) (.cells #[y0, y1, y2, y3, y4] ty) w b) :
    Tn B (.cells #[z0, z1, z2, z3, z4] ty) (.cells #[y0, y1, y2, y3, y4] ty) w (((((w.setCell ⟨b, 0, none⟩ y0).setCell ⟨b, 1, none⟩ y1).setCell ⟨b, 2, none⟩ y2).setCell ⟨b, 3, none⟩ y3).setCell ⟨b, 4, none⟩ y4)
      ∧ Bt (.cells #[y0, y1, y2, y3, y4] ty) (((((w.setCell ⟨b, 0, none⟩ y0).setCell ⟨b, 1, none⟩ y1).setCell ⟨b, 2, none⟩ y2).setCell ⟨b, 3, none⟩ y3).setCell ⟨b, 4, none⟩ y4) b := by
  have hg : w.grownBy (((((w.setCell ⟨b, 0, none⟩ y0).setCell ⟨b, 1, none⟩ y1).setCell ⟨b, 2, none⟩ y2).setCell ⟨b, 3, none⟩ y3).setCell ⟨b, 4, none⟩ y4) (some b) := grown_trans (grown_set4 w b y0 y1 y2 y3) (grown_set _ _ _ _)
  have hs : Blk (((((w.setCell ⟨b, 0, none⟩ y0).setCell ⟨b, 1, none⟩ y1).setCell ⟨b, 2, none⟩ y2).setCell ⟨b, 3, none⟩ y3).setCell ⟨b, 4, none⟩ y4) b #[y0, y1, y2, y3, y4] ty := by
    rcases h with h | h
    · exact (((((show Blk w b #[z0, z1, z2, z3, z4] ty from h).set 0 y0).set 1 y1).set 2 y2).set 3 y3).set 4 y4
    · exact (((((show Blk w b #[y0, y1, y2, y3, y4] ty from h).set 0 y0).set 1 y1).set 2 y2).set 3 y3).set 4 y4
  refine ⟨⟨⟨hg.os, hg.tape, hg.output, hg.size, fun k hk => hg.block k (by have := h.lt; omega) (by simp; omega)⟩, fun k hk => ?_⟩, hs⟩
  by_cases e : k = b
  · subst e
    rcases h with h | h
    · exact .inr ⟨h, hs⟩
    · exact .inl (Eq.trans hs h.symm)
  · exact .inl (hg.block k hk (by simpa using e))
theorem Bz.cells5 {w : World} {b : Nat} {z0 z1 z2 z3 z4 y0 y1 y2 y3 y4 : Value} {ty : TypeId} (h : Bz (.cells #[z0, z1, z2, z3, z4] ty) (.cells #[y0, y1, y2, y3, y4] ty) w b) :
    ∃ x0 x1 x2 x3 x4, Blk w b #[x0, x1, x2, x3, x4] ty ∧ w.cell? ⟨b, 0, none⟩ = some x0 ∧ w.cell? ⟨b, 1, none⟩ = some x1 ∧ w.cell? ⟨b, 2, none⟩ = some x2 ∧ w.cell? ⟨b, 3, none⟩ = some x3 ∧ w.cell? ⟨b, 4, none⟩ = some x4 := by
  rcases h with h | h
  · have hb : Blk w b #[z0, z1, z2, z3, z4] ty := h
    exact ⟨z0, z1, z2, z3, z4, hb, hb.cells5⟩
  · have hb : Blk w b #[y0, y1, y2, y3, y4] ty := h
    exact ⟨y0, y1, y2, y3, y4, hb, hb.cells5⟩
end Go.Proofs.YtecjodcaeldidaaGreatDoor
namespace Go.Proofs.YtecjodcaeldidaaGreatDoor
open Go Go.RowKit
abbrev oS (a : Array Value) : Obj := .cells a 27
abbrev oF (a : Array Value) : Obj := .cells a 34
def Tn2 (B : Nat) (a1 c1 a2 c2 : Array Value) (w w' : World) : Prop :=
  Below B w w' ∧ ∀ k, k < w.heap.size → w'.heap[k]? = w.heap[k]? ∨ (w.heap[k]? = some (oS a1) ∧ w'.heap[k]? = some (oS c1)) ∨ (w.heap[k]? = some (oF a2) ∧ w'.heap[k]? = some (oF c2))
theorem oSF {a b : Array Value} (h : some (oS a) = some (oF b)) : False := by
  simp only [Option.some.injEq, Obj.cells.injEq] at h
  exact absurd h.2.1 (by decide)
instance (B : Nat) (a1 c1 a2 c2 : Array Value) : G.GOK (Tn2 B a1 c1 a2 c2) where
  refl w := ⟨Below.refl _ _, fun _ _ => .inl rfl⟩
  trans := fun h k => ⟨h.1.trans k.1, fun i hi => by
    have hi2 := Nat.lt_of_lt_of_le hi h.1.size
    rcases h.2 i hi with e | ⟨e1, e2⟩ | ⟨e1, e2⟩ <;> rcases k.2 i hi2 with f | ⟨f1, f2⟩ | ⟨f1, f2⟩
    · exact .inl (f.trans e)
    · exact .inr (.inl ⟨e.symm.trans f1, f2⟩)
    · exact .inr (.inr ⟨e.symm.trans f1, f2⟩)
    · exact .inr (.inl ⟨e1, f.trans e2⟩)
    · exact .inr (.inl ⟨e1, f2⟩)
    · exact (oSF (e2.symm.trans f1)).elim
    · exact .inr (.inr ⟨e1, f.trans e2⟩)
    · exact (oSF (f1.symm.trans e2)).elim
    · exact .inr (.inr ⟨e1, f2⟩)⟩
  draw w := ⟨⟨rfl, rfl, rfl, Nat.le_refl _, fun _ _ => rfl⟩, fun _ _ => .inl rfl⟩
theorem Tn2.of_ext {B : Nat} {a1 c1 a2 c2 : Array Value} {w w' : World} (h : Ext w w') (hB : B ≤ w.heap.size) : Tn2 B a1 c1 a2 c2 w w' := ⟨h.mono hB, fun k hk => .inl (h.block k hk)⟩
theorem Tn2.of1 {B : Nat} {a1 c1 a2 c2 : Array Value} {w w' : World} (h : Tn B (oS a1) (oS c1) w w') : Tn2 B a1 c1 a2 c2 w w' := ⟨h.1, fun k hk => (h.2 k hk).imp_right .inl⟩
theorem Tn2.of2 {B : Nat} {a1 c1 a2 c2 : Array Value} {w w' : World} (h : Tn B (oF a2) (oF c2) w w') : Tn2 B a1 c1 a2 c2 w w' := ⟨h.1, fun k hk => (h.2 k hk).imp_right .inr⟩
theorem Bt.tn2s {B : Nat} {a1 c1 a2 c2 : Array Value} {w w' : World} {b : Nat} (h : Bt (oS c1) w b) (hx : Tn2 B a1 c1 a2 c2 w w') : Bt (oS c1) w' b := by
  rcases hx.2 b (blk_lt h) with e | ⟨_, e⟩ | ⟨e1, e⟩
  · exact e.trans h
  · exact e
  · exact (oSF (h.symm.trans e1)).elim
theorem Bz.tn2s {B : Nat} {a1 c1 a2 c2 : Array Value} {w w' : World} {b : Nat} (h : Bz (oS a1) (oS c1) w b) (hx : Tn2 B a1 c1 a2 c2 w w') : Bz (oS a1) (oS c1) w' b := by
  rcases hx.2 b h.lt with e | ⟨_, e⟩ | ⟨e1, e⟩
  · exact h.elim (fun h => .inl (e.trans h)) (fun h => .inr (e.trans h))
  · exact .inr e
  · exact h.elim (fun h => (oSF (h.symm.trans e1)).elim) (fun h => (oSF (h.symm.trans e1)).elim)
theorem Bt.tn2f {B : Nat} {a1 c1 a2 c2 : Array Value} {w w' : World} {b : Nat} (h : Bt (oF c2) w b) (hx : Tn2 B a1 c1 a2 c2 w w') : Bt (oF c2) w' b := by
  rcases hx.2 b (blk_lt h) with e | ⟨e1, e⟩ | ⟨_, e⟩
  · exact e.trans h
  · exact (oSF (e1.symm.trans h)).elim
  · exact e
theorem Bz.tn2f {B : Nat} {a1 c1 a2 c2 : Array Value} {w w' : World} {b : Nat} (h : Bz (oF a2) (oF c2) w b) (hx : Tn2 B a1 c1 a2 c2 w w') : Bz (oF a2) (oF c2) w' b := by
  rcases hx.2 b h.lt with e | ⟨e1, e⟩ | ⟨_, e⟩
  · exact h.elim (fun h => .inl (e.trans h)) (fun h => .inr (e.trans h))
  · exact h.elim (fun h => (oSF (e1.symm.trans h)).elim) (fun h => (oSF (e1.symm.trans h)).elim)
  · exact .inr e
/-- Operations j1, j2 make the blocks, k1, k2 store into them through slots s1, s2. -/
def RsT2 (j1 k1 s1 j2 k2 s2 B : Nat) (a1 c1 a2 c2 : Array Value) : H.RsT := fun j =>
  if j = j1 then some (none, RMade B (oS a1) (oS c1)) else if j = j2 then some (none, RMade B (oF a2) (oF c2)) else if j = k1 then some (some (.tmp s1), RSet B (oS c1)) else if j = k2 then some (some (.tmp s2), RSet B (oF c2)) else none
theorem RsT2_mono (j1 k1 s1 j2 k2 s2 B : Nat) (a1 c1 a2 c2 : Array Value) : H.RsMono (Tn2 B a1 c1 a2 c2) (RsT2 j1 k1 s1 j2 k2 s2 B a1 c1 a2 c2) := by
  intro j x R h u v w w' hx hR
  unfold RsT2 at h
  split at h
  · cases h
    obtain ⟨b, hv, hb, hB⟩ := hR
    exact ⟨b, hv, hb, hB.tn2s hx⟩
  · split at h
    · cases h
      obtain ⟨b, hv, hb, hB⟩ := hR
      exact ⟨b, hv, hb, hB.tn2f hx⟩
    · split at h
      · cases h
        obtain ⟨b, hv, hb, hB⟩ := hR
        exact ⟨b, hv, hb, hB.tn2s hx⟩
      · split at h
        · cases h
          obtain ⟨b, hv, hb, hB⟩ := hR
          exact ⟨b, hv, hb, hB.tn2f hx⟩
        · cases h
/-- An error that a reader told, as data, by its block alone. -/
def EPl (w : World) (ea : Nat → Addr) (v : Value) : Option (Nat × Int) → Prop
  | none => v = .nilIface
  | some (j, q) => j < 16 ∧ Placed w v (ea j) q
theorem EPl.tn {B : Nat} {a1 c1 : Array Value} {w w' : World} {ea : Nat → Addr} {v : Value} {d : Option (Nat × Int)} (h1 : a1.size = 4) (h : EPl w ea v d) (hx : Tn B (oS a1) (oS c1) w w') : EPl w' ea v d := by
  cases d with
  | none => exact h
  | some x =>
    obtain ⟨hj, p, t, hv, hb, hlp⟩ := h
    refine ⟨hj, p, t, hv, ?_, hlp⟩
    rcases hx.2 p hb.lt with e | ⟨e1, _⟩
    · exact e.trans hb
    · exfalso
      have h2 := hb.symm.trans e1
      simp only [Option.some.injEq, Obj.cells.injEq] at h2
      rw [← h2.1] at h1
      simp at h1
theorem EPl.ext {w w' : World} {ea : Nat → Addr} {v : Value} {d : Option (Nat × Int)} (h : EPl w ea v d) (hx : Ext w w') : EPl w' ea v d := by
  cases d with
  | none => exact h
  | some x => exact ⟨h.1, h.2.ext hx⟩
theorem EPl.er {w : World} {ea : Nat → Addr} {v : Value} {d : Option (Nat × Int)} (hK : Sent w ea) (h : EPl w ea v d) : Er w ea v d := by
  cases d with
  | none => exact h
  | some x => exact er_placed hK h.1 h.2
theorem parse_pl (ea : Nat → Addr) (s : ByteArray) (a : Int) (hs : s.size ≤ 4294967000) (w : World) (hK : Kg w ea) (x : Sum (Bool × Nat) (BitVec 256 × Nat)) (hx : prs s a = x) :
    Calls Tryz.prog 8 #[.string s, .int .i64 a] w fun e w' => ∃ v, e = .returned (.tuple #[sv (pS x), .int .i64 (pN x), v]) ∧ EPl w' ea v (pE x) ∧ Ext w w' := by
  refine (parse_any s a (ea 1) (ea 2) hs w hK.kn x hx).mono ?_
  rintro e w' h
  cases x with
  | inl x =>
    obtain ⟨b, q⟩ := x
    obtain ⟨v, rfl, hP, hE⟩ := h
    refine ⟨v, by simp only [pS, pN, sv_zero], ?_, hE⟩
    cases b with
    | true => exact ⟨by decide, hP⟩
    | false => exact ⟨by decide, hP⟩
  | inr x =>
    obtain ⟨S, m⟩ := x
    obtain ⟨rfl, hE⟩ := h
    exact ⟨_, rfl, rfl, hE⟩
/-- What Parse hands over. -/
def RPl (ea : Nat → Addr) (S : BitVec 256) (n : Int) (d : Option (Nat × Int)) : Value → Value → World → Prop := fun _ v w => ∃ y, v = .tuple #[sv S, .int .i64 n, y] ∧ EPl w ea y d
def RsPl (jc ja js s B : Nat) (z t : Array Value) (ea : Nat → Addr) (S : BitVec 256) (n : Int) (d : Option (Nat × Int)) : H.RsT := fun j =>
  if j = jc then some (none, RPl ea S n d) else RsT1 ja js s B (oS z) (oS t) j
theorem RsPl_mono (jc ja js s B : Nat) (z t : Array Value) (hz : z.size = 4) (ea : Nat → Addr) (S : BitVec 256) (n : Int) (d : Option (Nat × Int)) : H.RsMono (Tn B (oS z) (oS t)) (RsPl jc ja js s B z t ea S n d) := by
  intro j x R h u v w w' hx hR
  unfold RsPl at h
  split at h
  · cases h
    obtain ⟨y, hv, hy⟩ := hR
    exact ⟨y, hv, hy.tn hz hx⟩
  · exact RsT1_mono ja js s B (oS z) (oS t) j x R h u v w w' hx hR
end Go.Proofs.YtecjodcaeldidaaGreatDoor
namespace Go.Proofs.YtecjodcaeldidaaGreatDoor
open Go Go.RowKit
abbrev fzer : Array Value := #[.int .i64 0, .int .i64 0, .int .i64 0, .int .i64 0, .slice none 0 0]
abbrev fcs (c q : Int) : Array Value := #[.int .i64 c, .int .i64 0, .int .i64 0, .int .i64 q, .slice none 0 0]
abbrev fag (c q : Int) : Value := .agg #[.int .i64 c, .int .i64 0, .int .i64 0, .int .i64 q, .slice none 0 0]
theorem ext_set4 {w w' : World} (h : Ext w w') {b : Nat} (hb : w.heap.size ≤ b) (y0 y1 y2 y3 : Value) : Ext w ((((w'.setCell ⟨b, 0, none⟩ y0).setCell ⟨b, 1, none⟩ y1).setCell ⟨b, 2, none⟩ y2).setCell ⟨b, 3, none⟩ y3) :=
  (((h.setCell (p := ⟨b, 0, none⟩) hb _).setCell (p := ⟨b, 1, none⟩) hb _).setCell (p := ⟨b, 2, none⟩) hb _).setCell (p := ⟨b, 3, none⟩) hb _
theorem ext_set5 {w w' : World} (h : Ext w w') {b : Nat} (hb : w.heap.size ≤ b) (y0 y1 y2 y3 y4 : Value) : Ext w (((((w'.setCell ⟨b, 0, none⟩ y0).setCell ⟨b, 1, none⟩ y1).setCell ⟨b, 2, none⟩ y2).setCell ⟨b, 3, none⟩ y3).setCell ⟨b, 4, none⟩ y4) :=
  (ext_set4 h hb y0 y1 y2 y3).setCell (p := ⟨b, 4, none⟩) hb _
theorem Blk.store5 {w : World} {b : Nat} {t : TypeId} {x0 x1 x2 x3 x4 : Value} (h : Blk w b #[x0, x1, x2, x3, x4] t) (y0 y1 y2 y3 y4 : Value) : Blk (((((w.setCell ⟨b, 0, none⟩ y0).setCell ⟨b, 1, none⟩ y1).setCell ⟨b, 2, none⟩ y2).setCell ⟨b, 3, none⟩ y3).setCell ⟨b, 4, none⟩ y4) b #[y0, y1, y2, y3, y4] t :=
  ((((h.set 0 y0).set 1 y1).set 2 y2).set 3 y3).set 4 y4
theorem Blk.other5 {w : World} {b c : Nat} {t : TypeId} {vs : Array Value} (h : Blk w c vs t) (hb : b ≠ c) (y0 y1 y2 y3 y4 : Value) : Blk (((((w.setCell ⟨b, 0, none⟩ y0).setCell ⟨b, 1, none⟩ y1).setCell ⟨b, 2, none⟩ y2).setCell ⟨b, 3, none⟩ y3).setCell ⟨b, 4, none⟩ y4) c vs t :=
  (h.other4 hb y0 y1 y2 y3).set_other (a := ⟨b, 4, none⟩) hb y4
theorem ext_of_grown {w w' : World} {r : Nat} (h : w.grownBy w' (some r)) (hr : w.heap.size ≤ r) : Ext w w' := ⟨h.os, h.tape, h.output, h.size, fun k hk => h.block k hk (by simp; omega)⟩
set_option maxHeartbeats 2000000 in
set_option maxRecDepth 20000 in
theorem rparse_no (s : ByteArray) (a : Int) (ha : a < 0 ∨ (s.size : Int) ≤ a) (w : World) :
    Calls Tryz.prog 9 #[.string s, .int .i64 a] w fun e w' => e = .returned (.tuple #[sv0, .int .i64 0, fag 3 (s.size : Int)]) ∧ Ext w w' := by
  have hx0 : Ext w ((w.alloc (.cells zer 27)).alloc (.cells fzer 34)) := by (repeat' (first | (with_reducible exact Below.refl _ _) | (with_reducible assumption) | (with_reducible refine below_drewN ?_ _) | (with_reducible refine Below.alloc ?_ ?_ _) | (with_reducible refine Below.drew ?_) | (with_reducible refine Below.setCell ?_ ?_ _) | (with_reducible refine Below.trans ?_ (Below.mono (by with_reducible assumption) ?_)) | go_size))
  have HE := Lib.hid hx0
  have HB := Lib.hid ((Blk.new w zer 27).alloc (.cells fzer 34))
  have HF := Lib.hid (show Blk ((w.alloc (.cells zer 27)).alloc (.cells fzer 34)) (w.heap.size + 1) fzer 34 from by
    have := Blk.new (w.alloc (.cells zer 27)) fzer 34
    simp only [World.size_alloc] at this
    exact this)
  clear hx0
  by_cases h0 : a < 0
  · have d1 : decide (a < 0) = true := decide_eq_true h0
    clear ha h0
    go_enter Tryz.func9, Tryz.ntmps9
    go_wp2_with fail
    refine (rat_any 3 (s.size : Int) _).mono ?_
    rintro e w2 ⟨rfl, hE2⟩
    have B2 := HB.out.ext hE2
    have F2 := HF.out.ext hE2
    have E2 := Lib.hid (bel_call HE.out hE2)
    obtain ⟨z0, z1, z2, z3⟩ := B2.cells4
    have f0 := B2.free 0
    have f1 := B2.free 1
    have f2 := B2.free 2
    have f3 := B2.free 3
    have hlt := B2.lt
    have b2 := B2.store4 (.int .u64 0) (.int .u64 0) (.int .u64 0) (.int .u64 0)
    have g2 := F2.other4 (b := w.heap.size) (by omega) (.int .u64 0) (.int .u64 0) (.int .u64 0) (.int .u64 0)
    obtain ⟨q0, q1, q2, q3, q4⟩ := g2.cells5
    have g0 := g2.free 0
    have g1 := g2.free 1
    have gg2 := g2.free 2
    have g3 := g2.free 3
    have g4 := g2.free 4
    have hlt2 := g2.lt
    obtain ⟨y0, y1, y2, y3⟩ := (b2.other5 (b := w.heap.size + 1) (by omega) (.int .i64 3) (.int .i64 0) (.int .i64 0) (.int .i64 (s.size : Int)) (.slice none 0 0)).cells4
    obtain ⟨x0, x1, x2, x3, x4⟩ := (g2.store5 (.int .i64 3) (.int .i64 0) (.int .i64 0) (.int .i64 (s.size : Int)) (.slice none 0 0)).cells5
    have EZ := Lib.hid (ext_set5 (ext_set4 E2.out (Nat.le_refl _) (.int .u64 0) (.int .u64 0) (.int .u64 0) (.int .u64 0)) (b := w.heap.size + 1) (by omega) (.int .i64 3) (.int .i64 0) (.int .i64 0) (.int .i64 (s.size : Int)) (.slice none 0 0))
    clear B2 F2 b2 g2 hE2 HE HB HF
    go_wp2_with fail
    refine bodyPost_ret (v := .tuple #[sv0, .int .i64 0, fag 3 (s.size : Int)]) ?_ rfl ⟨rfl, EZ.out⟩
    simp [results, Tryz.results9, go_sem, x0, x1, x2, x3, x4, y0, y1, y2, y3]
  · have d1 : decide (a < 0) = false := decide_eq_false h0
    have d2 : decide ((s.size : Int) ≤ a) = true := by simp; omega
    clear ha h0
    go_enter Tryz.func9, Tryz.ntmps9
    go_wp2_with fail
    refine (rat_any 3 (s.size : Int) _).mono ?_
    rintro e w2 ⟨rfl, hE2⟩
    have B2 := HB.out.ext hE2
    have F2 := HF.out.ext hE2
    have E2 := Lib.hid (bel_call HE.out hE2)
    obtain ⟨z0, z1, z2, z3⟩ := B2.cells4
    have f0 := B2.free 0
    have f1 := B2.free 1
    have f2 := B2.free 2
    have f3 := B2.free 3
    have hlt := B2.lt
    have b2 := B2.store4 (.int .u64 0) (.int .u64 0) (.int .u64 0) (.int .u64 0)
    have g2 := F2.other4 (b := w.heap.size) (by omega) (.int .u64 0) (.int .u64 0) (.int .u64 0) (.int .u64 0)
    obtain ⟨q0, q1, q2, q3, q4⟩ := g2.cells5
    have g0 := g2.free 0
    have g1 := g2.free 1
    have gg2 := g2.free 2
    have g3 := g2.free 3
    have g4 := g2.free 4
    have hlt2 := g2.lt
    obtain ⟨y0, y1, y2, y3⟩ := (b2.other5 (b := w.heap.size + 1) (by omega) (.int .i64 3) (.int .i64 0) (.int .i64 0) (.int .i64 (s.size : Int)) (.slice none 0 0)).cells4
    obtain ⟨x0, x1, x2, x3, x4⟩ := (g2.store5 (.int .i64 3) (.int .i64 0) (.int .i64 0) (.int .i64 (s.size : Int)) (.slice none 0 0)).cells5
    have EZ := Lib.hid (ext_set5 (ext_set4 E2.out (Nat.le_refl _) (.int .u64 0) (.int .u64 0) (.int .u64 0) (.int .u64 0)) (b := w.heap.size + 1) (by omega) (.int .i64 3) (.int .i64 0) (.int .i64 0) (.int .i64 (s.size : Int)) (.slice none 0 0))
    clear B2 F2 b2 g2 hE2 HE HB HF
    go_wp2_with fail
    refine bodyPost_ret (v := .tuple #[sv0, .int .i64 0, fag 3 (s.size : Int)]) ?_ rfl ⟨rfl, EZ.out⟩
    simp [results, Tryz.results9, go_sem, x0, x1, x2, x3, x4, y0, y1, y2, y3]
set_option maxHeartbeats 2000000 in
set_option maxRecDepth 20000 in
theorem rparse_at (s : ByteArray) (i : Nat) (hs : s.size ≤ 4294967000) (hi : i < s.size) (x : Sum (Bool × Nat) (BitVec 256 × Nat)) (hx : cls unq ((rest s i).length + 1) 0 (rest s i) i = x) (w : World) :
    Calls Tryz.prog 9 #[.string s, .int .i64 (i : Int)] w fun e w' => e = .returned (.tuple #[sv (pS x), .int .i64 (pN x), fag (erC (pE x)) (erA (pE x))]) ∧ Ext w w' := by
  have hx0 : Ext w (((w.alloc (.cells zer 27)).alloc (.cells fzer 34)).alloc (.cells (rcs s i 0 0 0) 66)) := by (repeat' (first | (with_reducible exact Below.refl _ _) | (with_reducible assumption) | (with_reducible refine below_drewN ?_ _) | (with_reducible refine Below.alloc ?_ ?_ _) | (with_reducible refine Below.drew ?_) | (with_reducible refine Below.setCell ?_ ?_ _) | (with_reducible refine Below.trans ?_ (Below.mono (by with_reducible assumption) ?_)) | go_size))
  have HE := Lib.hid hx0
  have HB := Lib.hid (((Blk.new w zer 27).alloc (.cells fzer 34)).alloc (.cells (rcs s i 0 0 0) 66))
  have HF := Lib.hid (show Blk (((w.alloc (.cells zer 27)).alloc (.cells fzer 34)).alloc (.cells (rcs s i 0 0 0) 66)) (w.heap.size + 1) fzer 34 from by
    have := (Blk.new (w.alloc (.cells zer 27)) fzer 34).alloc (.cells (rcs s i 0 0 0) 66)
    simp only [World.size_alloc] at this
    exact this)
  have HR := Lib.hid (show RR (((w.alloc (.cells zer 27)).alloc (.cells fzer 34)).alloc (.cells (rcs s i 0 0 0) 66)) (w.heap.size + 2) s i 0 0 0 from ⟨by
    have := Blk.new ((w.alloc (.cells zer 27)).alloc (.cells fzer 34)) (rcs s i 0 0 0) 66
    simp only [World.size_alloc] at this
    exact this, hs⟩)
  have HCL := Lib.hid (fun w1 h => rclass_ok ((rest s i).length + 1) _ (Nat.le_refl _) (w.heap.size + 2) s i w1 0 x h (by omega) (by omega) (Nat.lt_succ_self _) hx)
  have d1 : decide ((i : Int) < 0) = false := by simp
  have d2 : decide ((s.size : Int) ≤ (i : Int)) = false := by simp; omega
  have d2n : decide (s.size ≤ i) = false := by simp; omega
  clear hx0
  go_enter Tryz.func9, Tryz.ntmps9
  go_wp2_with fail
  generalize ((w.alloc (.cells zer 27)).alloc (.cells fzer 34)).alloc (.cells (rcs s i 0 0 0) 66) = w1 at HE HB HF HR ⊢
  refine (HCL.out _ HR.out).mono ?_
  rintro e w2 hce
  clear HCL hx d1 d2 d2n
  cases x with
  | inl bq =>
    obtain ⟨b, q⟩ := bq
    obtain ⟨T, j, hj, rfl, hG, hR⟩ := hce
    have hx3 : Ext w2 (w2.alloc (.cells (svs T) 27)) := by (repeat' (first | (with_reducible exact Below.refl _ _) | (with_reducible assumption) | (with_reducible refine below_drewN ?_ _) | (with_reducible refine Below.alloc ?_ ?_ _) | (with_reducible refine Below.drew ?_) | (with_reducible refine Below.setCell ?_ ?_ _) | (with_reducible refine Below.trans ?_ (Below.mono (by with_reducible assumption) ?_)) | go_size))
    have B3 := Lib.hid ((HB.out.grown hG (by simp)).ext hx3)
    have F3 := Lib.hid ((HF.out.grown hG (by simp)).ext hx3)
    have R3 := Lib.hid (hR.ext hx3)
    have E3 := Lib.hid (bel_call (ext_of_grown (grown_trans (grown_of_ext HE.out) hG) (by omega)) hx3)
    have hok := rok_any (w.heap.size + 2) s j 0 (if b = true then 4 else 3) q _ R3.out false (by cases b <;> decide)
    clear hG hR HE HB HF HR hx3
    go_wp2_with fail
    refine hok.mono ?_
    rintro e w4 ⟨rfl, hE4⟩
    have B4 := Lib.hid (B3.out.ext hE4)
    have F4 := Lib.hid (F3.out.ext hE4)
    have R4 := Lib.hid (R3.out.ext hE4)
    have E4 := Lib.hid (bel_call E3.out hE4)
    clear hE4 hok B3 F3 R3 E3
    obtain ⟨C, hC⟩ : ∃ C : Int, (if b = true then (4 : Int) else 3) = C := ⟨_, rfl⟩
    rw [hC] at R4
    have HC := Lib.hid (show erC (pE (.inl (b, q))) = C ∧ erA (pE (.inl (b, q))) = (q : Int) from ⟨by rw [← hC]; cases b <;> rfl, rfl⟩)
    clear hC
    have k3 := R4.out.blk.cell 3
    have k4 := R4.out.blk.cell 4
    have k5 := R4.out.blk.cell 5
    have k6 := R4.out.blk.cell 6
    have k7 := R4.out.blk.cell 7
    have B2 := B4.out
    have F2 := F4.out
    obtain ⟨z0, z1, z2, z3⟩ := B2.cells4
    have f0 := B2.free 0
    have f1 := B2.free 1
    have f2 := B2.free 2
    have f3 := B2.free 3
    have hlt := B2.lt
    have g0 := F2.free 0
    have g1 := F2.free 1
    have gg2 := F2.free 2
    have g3 := F2.free 3
    have g4 := F2.free 4
    obtain ⟨q0, q1, q2, q3, q4⟩ := F2.cells5
    have hlt2 := F2.lt
    clear B2 F2
    go_wp2_with fail
    go_region
    have b2 := B4.out.store4 (.int .u64 0) (.int .u64 0) (.int .u64 0) (.int .u64 0)
    have g2 := F4.out.other4 (b := w.heap.size) (by omega) (.int .u64 0) (.int .u64 0) (.int .u64 0) (.int .u64 0)
    obtain ⟨y0, y1, y2, y3⟩ := (b2.other5 (b := w.heap.size + 1) (by omega) (.int .i64 C) (.int .i64 0) (.int .i64 0) (.int .i64 (q : Int)) (.slice none 0 0)).drew.cells4
    obtain ⟨x0, x1, x2, x3, x4⟩ := (g2.store5 (.int .i64 C) (.int .i64 0) (.int .i64 0) (.int .i64 (q : Int)) (.slice none 0 0)).drew.cells5
    have EZ := Lib.hid (Below.drew (ext_set5 (ext_set4 E4.out (Nat.le_refl _) (.int .u64 0) (.int .u64 0) (.int .u64 0) (.int .u64 0)) (b := w.heap.size + 1) (by omega) (.int .i64 C) (.int .i64 0) (.int .i64 0) (.int .i64 (q : Int)) (.slice none 0 0)))
    clear b2 g2 B4 F4 z0 z1 z2 z3 q0 q1 q2 q3 q4
    go_wp2_with fail
    refine bodyPost_ret (v := .tuple #[sv0, .int .i64 0, fag C (q : Int)]) ?_ rfl ⟨by rw [HC.out.1, HC.out.2]; simp only [pS, pN, sv_zero], EZ.out⟩
    simp [results, Tryz.results9, go_sem, x0, x1, x2, x3, x4, y0, y1, y2, y3]
  | inr Tm =>
    obtain ⟨T, m⟩ := Tm
    obtain ⟨rfl, hm, hG, hR⟩ := hce
    have hx3 : Ext w2 (w2.alloc (.cells (svs T) 27)) := by (repeat' (first | (with_reducible exact Below.refl _ _) | (with_reducible assumption) | (with_reducible refine below_drewN ?_ _) | (with_reducible refine Below.alloc ?_ ?_ _) | (with_reducible refine Below.drew ?_) | (with_reducible refine Below.setCell ?_ ?_ _) | (with_reducible refine Below.trans ?_ (Below.mono (by with_reducible assumption) ?_)) | go_size))
    have B3 := Lib.hid ((HB.out.grown hG (by simp)).ext hx3)
    have F3 := Lib.hid ((HF.out.grown hG (by simp)).ext hx3)
    have R3 := Lib.hid (hR.ext hx3)
    have T3 := Lib.hid (Blk.new w2 (svs T) 27)
    have E3 := Lib.hid (bel_call (ext_of_grown (grown_trans (grown_of_ext HE.out) hG) (by omega)) hx3)
    have hok := rok_any (w.heap.size + 2) s m 0 0 0 _ R3.out true (by decide)
    clear hG hR HE HB HF HR hx3
    go_wp2_with fail
    refine hok.mono ?_
    rintro e w4 ⟨rfl, hE4⟩
    have B4 := Lib.hid (B3.out.ext hE4)
    have F4 := Lib.hid (F3.out.ext hE4)
    have R4 := Lib.hid (R3.out.ext hE4)
    have T4 := Lib.hid (T3.out.ext hE4)
    have E4 := Lib.hid (bel_call E3.out hE4)
    clear hE4 hok B3 F3 R3 E3 T3
    have k1 := R4.out.blk.cell 1
    obtain ⟨t0, t1, t2, t3⟩ := T4.out.cells4
    have B2 := B4.out
    have F2 := F4.out
    obtain ⟨z0, z1, z2, z3⟩ := B2.cells4
    have f0 := B2.free 0
    have f1 := B2.free 1
    have f2 := B2.free 2
    have f3 := B2.free 3
    have hlt := B2.lt
    have g0 := F2.free 0
    have g1 := F2.free 1
    have gg2 := F2.free 2
    have g3 := F2.free 3
    have g4 := F2.free 4
    obtain ⟨q0, q1, q2, q3, q4⟩ := F2.cells5
    have hlt2 := F2.lt
    clear B2 F2
    go_wp2_with fail
    go_region
    have b2 := B4.out.store4 (.int .u64 (wd T 0)) (.int .u64 (wd T 1)) (.int .u64 (wd T 2)) (.int .u64 (wd T 3))
    have g2 := F4.out.other4 (b := w.heap.size) (by omega) (.int .u64 (wd T 0)) (.int .u64 (wd T 1)) (.int .u64 (wd T 2)) (.int .u64 (wd T 3))
    obtain ⟨y0, y1, y2, y3⟩ := (b2.other5 (b := w.heap.size + 1) (by omega) (.int .i64 0) (.int .i64 0) (.int .i64 0) (.int .i64 0) (.slice none 0 0)).drew.cells4
    obtain ⟨x0, x1, x2, x3, x4⟩ := (g2.store5 (.int .i64 0) (.int .i64 0) (.int .i64 0) (.int .i64 0) (.slice none 0 0)).drew.cells5
    have EZ := Lib.hid (Below.drew (ext_set5 (ext_set4 E4.out (Nat.le_refl _) (.int .u64 (wd T 0)) (.int .u64 (wd T 1)) (.int .u64 (wd T 2)) (.int .u64 (wd T 3))) (b := w.heap.size + 1) (by omega) (.int .i64 0) (.int .i64 0) (.int .i64 0) (.int .i64 0) (.slice none 0 0)))
    clear b2 g2 B4 F4 z0 z1 z2 z3 q0 q1 q2 q3 q4
    go_wp2_with fail
    refine bodyPost_ret (v := .tuple #[sv T, .int .i64 (m : Int), fag 0 0]) ?_ rfl ⟨rfl, EZ.out⟩
    simp [results, Tryz.results9, go_sem, x0, x1, x2, x3, x4, y0, y1, y2, y3]
theorem rparse_any (s : ByteArray) (a : Int) (hs : s.size ≤ 4294967000) (x : Sum (Bool × Nat) (BitVec 256 × Nat)) (hx : prs s a = x) (w : World) :
    Calls Tryz.prog 9 #[.string s, .int .i64 a] w fun e w' => e = .returned (.tuple #[sv (pS x), .int .i64 (pN x), fag (erC (pE x)) (erA (pE x))]) ∧ Ext w w' := by
  by_cases ha : a < 0 ∨ (s.size : Int) ≤ a
  · have hp : pos s a = s.size := by
      unfold pos
      split
      · rfl
      · rename_i h2
        simp only [not_or, Int.not_lt] at h2
        omega
    unfold prs at hx
    rw [hp, rest_end s _ (Nat.le_refl _)] at hx
    have e : x = .inl (false, s.size) := by rw [← hx]; rfl
    subst e
    refine (rparse_no s a ha w).mono ?_
    rintro e w' ⟨rfl, hE⟩
    exact ⟨by simp only [pS, pN, sv_zero]; rfl, hE⟩
  · obtain ⟨i, rfl⟩ : ∃ i : Nat, a = (i : Int) := ⟨a.toNat, by omega⟩
    have hp : pos s i = i := by
      unfold pos
      rw [if_neg (by omega)]; omega
    unfold prs at hx
    rw [hp] at hx
    exact rparse_at s i hs (by omega) x hx w
end Go.Proofs.YtecjodcaeldidaaGreatDoor
namespace Go.Proofs.YtecjodcaeldidaaGreatDoor
open Go Go.RowKit
set_option maxHeartbeats 4000000 in
set_option maxRecDepth 20000 in
theorem reads_any (v : Value) (L : List (ByteArray × Int)) (ea : Nat → Addr) (w : World) (hv : PlcIn w v L) (hK : Kg w ea) :
    Calls Tryz.prog 3 #[v] w fun e w' => e = .returned (.bool true) ∧ Below w.heap.size w w' := by
  have HV := Lib.hid hv
  have HK := Lib.hid hK
  obtain ⟨va, vc, rfl, hc1, hc2, _⟩ := hv
  clear hK
  have hL63 : L.length ≤ 9223372036854775807 := by unfold maxLen at hc2; omega
  go_enter Tryz.func3, Tryz.ntmps3
  go_wp2_with fail
  go_loopw [3] (fun i wr => ∃ k : Nat, k ≤ 20 ∧ k ≤ L.length ∧ i = .int .i64 k ∧ Hid (Ext w wr)) (fun i _ => 20 - (intOf i).toNat)
  case atStart => exact ⟨0, by omega, by omega, rfl, Lib.hid (Below.refl _ _)⟩
  case round =>
    obtain ⟨k, hk20, hkl, rfl, hE⟩ := hrel
    by_cases hkn : k < L.length
    · have hd1 : decide ((k : Int) < (L.length : Int)) = true := by simp; omega
      by_cases hk : k < 20
      · have hd2 : decide ((k : Int) < 20) = true := by simp; omega
        obtain ⟨b, o, rfl, hb, hcell⟩ := (HV.out.ext hE.out).cells hkn
        obtain ⟨⟨S, N⟩, hS⟩ : ∃ S, L[k] = S := ⟨_, rfl⟩
        have HCL := Lib.hid (show ∀ w', Ext w w' → w'.cell? ⟨b, o + k * 2, none⟩ = some (.string S) ∧ w'.cell? ⟨b, o + k * 2 + 1, none⟩ = some (.int .i64 N) from fun w' hx => by
          obtain ⟨b', o', e1, hb', hc'⟩ := (HV.out.ext hx).cells hkn
          cases e1
          have := hc' k hkn
          rw [hS] at this
          exact this)
        obtain ⟨a0, a1⟩ := HCL.out wr hE.out
        clear hcell hS
        by_cases hsl : 4000 < S.size
        · have hd3 : decide ((4000 : Int) < (S.size : Int)) = true := by simp; omega
          go_wp2_with fail
          go_roundw
          case rel => first | exact ⟨k + 1, by omega, by omega, by go_num, hE⟩ | ((repeat apply Exists.intro); exact ⟨⟨k + 1, by omega, by omega, by go_num, hE⟩, rfl⟩)
          case measure => simp [intOf]; omega
        · have hd3 : decide ((4000 : Int) < (S.size : Int)) = false := by simp; omega
          obtain ⟨y, hy⟩ : ∃ y, prs S N = y := ⟨_, rfl⟩
          have HU := Lib.hid (fun w hK => parse_pl ea S N (by omega) w hK y hy)
          have HR := Lib.hid (fun w => rparse_any S N (by omega) y hy w)
          obtain ⟨U, hU⟩ : ∃ U, pS y = U := ⟨_, rfl⟩
          obtain ⟨n, hn⟩ : ∃ n, pN y = n := ⟨_, rfl⟩
          obtain ⟨d, hd⟩ : ∃ d, pE y = d := ⟨_, rfl⟩
          rw [hU, hn, hd] at HU HR
          clear hy hU hn hd hsl y
          obtain ⟨C, hC⟩ : ∃ C, erC d = C := ⟨_, rfl⟩
          obtain ⟨Q, hQ⟩ : ∃ Q, erA d = Q := ⟨_, rfl⟩
          have HCQ := Lib.hid (And.intro hC hQ)
          rw [hC, hQ] at HR
          clear hC hQ
          go_wp2_with fail
          refine H.wp_region_stab (G := Tn wr.heap.size (oS zer) (oS (svs U))) (RsPl 10 15 16 4 wr.heap.size zer (svs U) ea U n d) (by kernel_rfl) (by kernel_rfl) (RsPl_mono _ _ _ _ _ _ _ rfl _ _ _ _) (fun hex => ?_)
          iterate 10
            (refine H.wpS_one (A := ?_) hex rfl rfl (by simp) ?_ ?_ ?_
             rotate_left 2
             · intro w' hC K hK
               obtain ⟨a0, a1⟩ := HCL.out _ (bel_call hE.out hC.1.1)
               go_wp2_with (fail)
               refine hK _ ?_
               first | exact G.GOK.refl _ | exact Tn.of_ext (by assumption) hC.1.1.size | exact Tn2.of_ext (by assumption) hC.1.1.size | (refine Tn.of_ext ?_ hC.1.1.size; (repeat' (first | (with_reducible exact Below.refl _ _) | (with_reducible assumption) | (with_reducible refine below_drewN ?_ _) | (with_reducible refine Below.alloc ?_ ?_ _) | (with_reducible refine Below.drew ?_) | (with_reducible refine Below.setCell ?_ ?_ _) | (with_reducible refine Below.trans ?_ (Below.mono (by with_reducible assumption) ?_)) | go_size))) | (refine Tn2.of_ext ?_ hC.1.1.size; (repeat' (first | (with_reducible exact Below.refl _ _) | (with_reducible assumption) | (with_reducible refine below_drewN ?_ _) | (with_reducible refine Below.alloc ?_ ?_ _) | (with_reducible refine Below.drew ?_) | (with_reducible refine Below.setCell ?_ ?_ _) | (with_reducible refine Below.trans ?_ (Below.mono (by with_reducible assumption) ?_)) | go_size)))
             rotate_left 1
             · rfl
             clear hex; intro hex)
          refine H.wpS_rel none (RPl ea U n d) rfl (fun _ h => by cases h) rfl (by simp) (by first | rfl | (simp [Region.wanted, yielded]; done)) ?_ ?_
          · intro w' hC K hK
            simp only [Act.put, List.setIfInBounds_toArray, List.set_cons_succ, List.set_cons_zero] at hK
            go_wp2_with (refine (HU.out _ (HK.out.ext (bel_call hE.out hC.1.1))).mono ?_; rintro e wq ⟨yv, rfl, hy, hEq⟩)
            exact hK _ _ (Tn.of_ext hEq hC.1.1.size) ⟨_, rfl, hy⟩
          clear hex
          intro v1 w' hex hv1
          replace hex := Exists.intro w' hex
          obtain ⟨y1, rfl, hy1⟩ := hv1
          clear hy1
          simp only [Act.put, List.setIfInBounds_toArray, List.set_cons_succ, List.set_cons_zero]
          iterate 4
            (refine H.wpS_one (A := ?_) hex rfl rfl (by simp) ?_ ?_ ?_
             rotate_left 2
             · intro w' hC K hK
               go_wp2_with (fail)
               refine hK _ ?_
               first | exact G.GOK.refl _ | exact Tn.of_ext (by assumption) hC.1.1.size | exact Tn2.of_ext (by assumption) hC.1.1.size | (refine Tn.of_ext ?_ hC.1.1.size; (repeat' (first | (with_reducible exact Below.refl _ _) | (with_reducible assumption) | (with_reducible refine below_drewN ?_ _) | (with_reducible refine Below.alloc ?_ ?_ _) | (with_reducible refine Below.drew ?_) | (with_reducible refine Below.setCell ?_ ?_ _) | (with_reducible refine Below.trans ?_ (Below.mono (by with_reducible assumption) ?_)) | go_size))) | (refine Tn2.of_ext ?_ hC.1.1.size; (repeat' (first | (with_reducible exact Below.refl _ _) | (with_reducible assumption) | (with_reducible refine below_drewN ?_ _) | (with_reducible refine Below.alloc ?_ ?_ _) | (with_reducible refine Below.drew ?_) | (with_reducible refine Below.setCell ?_ ?_ _) | (with_reducible refine Below.trans ?_ (Below.mono (by with_reducible assumption) ?_)) | go_size)))
             rotate_left 1
             · rfl
             clear hex; intro hex)
          refine H.wpS_rel none (RMade (wr.heap.size) (oS zer) (oS (svs U))) rfl (fun _ h => by cases h) rfl (by simp) (by first | rfl | (simp [Region.wanted, yielded]; done)) ?_ ?_
          · intro w' hC K hK
            simp only [Act.put, List.setIfInBounds_toArray, List.set_cons_succ, List.set_cons_zero] at hK
            go_wp2_with fail
            refine hK _ _ ?_ ⟨_, rfl, hC.1.1.size, .inl (Blk.new _ _ _)⟩
            first | exact G.GOK.refl _ | exact Tn.of_ext (by assumption) hC.1.1.size | exact Tn2.of_ext (by assumption) hC.1.1.size | (refine Tn.of_ext ?_ hC.1.1.size; (repeat' (first | (with_reducible exact Below.refl _ _) | (with_reducible assumption) | (with_reducible refine below_drewN ?_ _) | (with_reducible refine Below.alloc ?_ ?_ _) | (with_reducible refine Below.drew ?_) | (with_reducible refine Below.setCell ?_ ?_ _) | (with_reducible refine Below.trans ?_ (Below.mono (by with_reducible assumption) ?_)) | go_size))) | (refine Tn2.of_ext ?_ hC.1.1.size; (repeat' (first | (with_reducible exact Below.refl _ _) | (with_reducible assumption) | (with_reducible refine below_drewN ?_ _) | (with_reducible refine Below.alloc ?_ ?_ _) | (with_reducible refine Below.drew ?_) | (with_reducible refine Below.setCell ?_ ?_ _) | (with_reducible refine Below.trans ?_ (Below.mono (by with_reducible assumption) ?_)) | go_size)))
          clear hex
          intro v w' hex hv
          obtain ⟨bq, rfl, hbq, hBz⟩ := hv
          clear hBz
          replace hex := Exists.intro w' hex
          simp only [Act.put, List.setIfInBounds_toArray, List.set_cons_succ, List.set_cons_zero]
          refine H.wpS_said (some (.tmp 4)) (RSet (wr.heap.size) (oS (svs U))) rfl (by intro y h; cases h; simp [Op.operands]) rfl (by first | rfl | (simp [Region.wanted, yielded]; done)) (fun _ _ _ _ h => h) ?_ ?_
          · intro w' hC K hK
            obtain ⟨b', e', hb', hBz⟩ := (hC.2 15 (by simp [Region.binds])).1 rfl
            cases e'
            obtain ⟨x0, x1, x2, x3, hbk, z0, z1, z2, z3⟩ := hBz.cells4
            have f0 := hbk.free 0
            have f1 := hbk.free 1
            have f2 := hbk.free 2
            have f3 := hbk.free 3
            have hlt := hbk.lt
            have HST := Lib.hid (And.intro hb' hBz)
            clear hbk hBz
            go_wp2_with fail
            exact hK _ (Tn.store4 HST.out.1 HST.out.2).1 ⟨bq, rfl, HST.out.1, (Tn.store4 HST.out.1 HST.out.2).2⟩
          clear hex
          intro hex
          iterate 2
            (refine H.wpS_one (A := ?_) hex rfl rfl (by simp) ?_ ?_ ?_
             rotate_left 2
             · intro w' hC K hK
               go_wp2_with (fail)
               refine hK _ ?_
               first | exact G.GOK.refl _ | exact Tn.of_ext (by assumption) hC.1.1.size | exact Tn2.of_ext (by assumption) hC.1.1.size | (refine Tn.of_ext ?_ hC.1.1.size; (repeat' (first | (with_reducible exact Below.refl _ _) | (with_reducible assumption) | (with_reducible refine below_drewN ?_ _) | (with_reducible refine Below.alloc ?_ ?_ _) | (with_reducible refine Below.drew ?_) | (with_reducible refine Below.setCell ?_ ?_ _) | (with_reducible refine Below.trans ?_ (Below.mono (by with_reducible assumption) ?_)) | go_size))) | (refine Tn2.of_ext ?_ hC.1.1.size; (repeat' (first | (with_reducible exact Below.refl _ _) | (with_reducible assumption) | (with_reducible refine below_drewN ?_ _) | (with_reducible refine Below.alloc ?_ ?_ _) | (with_reducible refine Below.drew ?_) | (with_reducible refine Below.setCell ?_ ?_ _) | (with_reducible refine Below.trans ?_ (Below.mono (by with_reducible assumption) ?_)) | go_size)))
             rotate_left 1
             · rfl
             clear hex; intro hex)
          refine H.wpS_nil fun w1 hAll => ?_
          obtain ⟨bq', eq', hbq', hBt⟩ := (hAll.2 16).1 rfl
          cases eq'
          obtain ⟨y2, e2, hy2⟩ := (hAll.2 10).2.2.1 rfl
          cases e2
          have HE1 := Lib.hid (bel_call hE.out hAll.1.1)
          have HV1 := Lib.hid hy2
          have HB1 := Lib.hid (show Blk w1 bq (svs U) 27 from hBt)
          clear hy2 hAll hex HU a0 a1 hE hBt
          go_wp2_with fail
          refine H.wp_region_stab (G := Tn2 w1.heap.size zer (svs U) fzer (fcs C Q)) (RsT2 15 17 7 16 19 9 w1.heap.size zer (svs U) fzer (fcs C Q)) (by kernel_rfl) (by kernel_rfl) (RsT2_mono _ _ _ _ _ _ _ _ _ _ _) (fun hex => ?_)
          iterate 10
            (refine H.wpS_one (A := ?_) hex rfl rfl (by simp) ?_ ?_ ?_
             rotate_left 2
             · intro w' hC K hK
               obtain ⟨a0, a1⟩ := HCL.out _ (bel_call HE1.out hC.1.1)
               go_wp2_with (fail)
               refine hK _ ?_
               first | exact G.GOK.refl _ | exact Tn.of_ext (by assumption) hC.1.1.size | exact Tn2.of_ext (by assumption) hC.1.1.size | (refine Tn.of_ext ?_ hC.1.1.size; (repeat' (first | (with_reducible exact Below.refl _ _) | (with_reducible assumption) | (with_reducible refine below_drewN ?_ _) | (with_reducible refine Below.alloc ?_ ?_ _) | (with_reducible refine Below.drew ?_) | (with_reducible refine Below.setCell ?_ ?_ _) | (with_reducible refine Below.trans ?_ (Below.mono (by with_reducible assumption) ?_)) | go_size))) | (refine Tn2.of_ext ?_ hC.1.1.size; (repeat' (first | (with_reducible exact Below.refl _ _) | (with_reducible assumption) | (with_reducible refine below_drewN ?_ _) | (with_reducible refine Below.alloc ?_ ?_ _) | (with_reducible refine Below.drew ?_) | (with_reducible refine Below.setCell ?_ ?_ _) | (with_reducible refine Below.trans ?_ (Below.mono (by with_reducible assumption) ?_)) | go_size)))
             rotate_left 1
             · rfl
             clear hex; intro hex)
          refine H.wpS_one (A := ?_) hex rfl rfl (by simp) ?_ ?_ ?_
          rotate_left 2
          · intro w' hC K hK
            go_wp2_with (refine (HR.out _).mono ?_; rintro e wq ⟨rfl, hEq⟩)
            refine hK _ ?_
            first | exact G.GOK.refl _ | exact Tn.of_ext (by assumption) hC.1.1.size | exact Tn2.of_ext (by assumption) hC.1.1.size | (refine Tn.of_ext ?_ hC.1.1.size; (repeat' (first | (with_reducible exact Below.refl _ _) | (with_reducible assumption) | (with_reducible refine below_drewN ?_ _) | (with_reducible refine Below.alloc ?_ ?_ _) | (with_reducible refine Below.drew ?_) | (with_reducible refine Below.setCell ?_ ?_ _) | (with_reducible refine Below.trans ?_ (Below.mono (by with_reducible assumption) ?_)) | go_size))) | (refine Tn2.of_ext ?_ hC.1.1.size; (repeat' (first | (with_reducible exact Below.refl _ _) | (with_reducible assumption) | (with_reducible refine below_drewN ?_ _) | (with_reducible refine Below.alloc ?_ ?_ _) | (with_reducible refine Below.drew ?_) | (with_reducible refine Below.setCell ?_ ?_ _) | (with_reducible refine Below.trans ?_ (Below.mono (by with_reducible assumption) ?_)) | go_size)))
          rotate_left 1
          · rfl
          clear hex; intro hex
          iterate 4
            (refine H.wpS_one (A := ?_) hex rfl rfl (by simp) ?_ ?_ ?_
             rotate_left 2
             · intro w' hC K hK
               go_wp2_with (fail)
               refine hK _ ?_
               first | exact G.GOK.refl _ | exact Tn.of_ext (by assumption) hC.1.1.size | exact Tn2.of_ext (by assumption) hC.1.1.size | (refine Tn.of_ext ?_ hC.1.1.size; (repeat' (first | (with_reducible exact Below.refl _ _) | (with_reducible assumption) | (with_reducible refine below_drewN ?_ _) | (with_reducible refine Below.alloc ?_ ?_ _) | (with_reducible refine Below.drew ?_) | (with_reducible refine Below.setCell ?_ ?_ _) | (with_reducible refine Below.trans ?_ (Below.mono (by with_reducible assumption) ?_)) | go_size))) | (refine Tn2.of_ext ?_ hC.1.1.size; (repeat' (first | (with_reducible exact Below.refl _ _) | (with_reducible assumption) | (with_reducible refine below_drewN ?_ _) | (with_reducible refine Below.alloc ?_ ?_ _) | (with_reducible refine Below.drew ?_) | (with_reducible refine Below.setCell ?_ ?_ _) | (with_reducible refine Below.trans ?_ (Below.mono (by with_reducible assumption) ?_)) | go_size)))
             rotate_left 1
             · rfl
             clear hex; intro hex)
          refine H.wpS_rel none (RMade (w1.heap.size) (oS zer) (oS (svs U))) rfl (fun _ h => by cases h) rfl (by simp) (by first | rfl | (simp [Region.wanted, yielded]; done)) ?_ ?_
          · intro w' hC K hK
            simp only [Act.put, List.setIfInBounds_toArray, List.set_cons_succ, List.set_cons_zero] at hK
            go_wp2_with fail
            refine hK _ _ ?_ ⟨_, rfl, hC.1.1.size, .inl (Blk.new _ _ _)⟩
            first | exact G.GOK.refl _ | exact Tn.of_ext (by assumption) hC.1.1.size | exact Tn2.of_ext (by assumption) hC.1.1.size | (refine Tn.of_ext ?_ hC.1.1.size; (repeat' (first | (with_reducible exact Below.refl _ _) | (with_reducible assumption) | (with_reducible refine below_drewN ?_ _) | (with_reducible refine Below.alloc ?_ ?_ _) | (with_reducible refine Below.drew ?_) | (with_reducible refine Below.setCell ?_ ?_ _) | (with_reducible refine Below.trans ?_ (Below.mono (by with_reducible assumption) ?_)) | go_size))) | (refine Tn2.of_ext ?_ hC.1.1.size; (repeat' (first | (with_reducible exact Below.refl _ _) | (with_reducible assumption) | (with_reducible refine below_drewN ?_ _) | (with_reducible refine Below.alloc ?_ ?_ _) | (with_reducible refine Below.drew ?_) | (with_reducible refine Below.setCell ?_ ?_ _) | (with_reducible refine Below.trans ?_ (Below.mono (by with_reducible assumption) ?_)) | go_size)))
          clear hex
          intro v w' hex hv
          obtain ⟨bs, rfl, hbs, hBz⟩ := hv
          clear hBz
          replace hex := Exists.intro w' hex
          simp only [Act.put, List.setIfInBounds_toArray, List.set_cons_succ, List.set_cons_zero]
          refine H.wpS_rel none (RMade (w1.heap.size) (oF fzer) (oF (fcs C Q))) rfl (fun _ h => by cases h) rfl (by simp) (by first | rfl | (simp [Region.wanted, yielded]; done)) ?_ ?_
          · intro w' hC K hK
            simp only [Act.put, List.setIfInBounds_toArray, List.set_cons_succ, List.set_cons_zero] at hK
            go_wp2_with fail
            refine hK _ _ ?_ ⟨_, rfl, hC.1.1.size, .inl (Blk.new _ _ _)⟩
            first | exact G.GOK.refl _ | exact Tn.of_ext (by assumption) hC.1.1.size | exact Tn2.of_ext (by assumption) hC.1.1.size | (refine Tn.of_ext ?_ hC.1.1.size; (repeat' (first | (with_reducible exact Below.refl _ _) | (with_reducible assumption) | (with_reducible refine below_drewN ?_ _) | (with_reducible refine Below.alloc ?_ ?_ _) | (with_reducible refine Below.drew ?_) | (with_reducible refine Below.setCell ?_ ?_ _) | (with_reducible refine Below.trans ?_ (Below.mono (by with_reducible assumption) ?_)) | go_size))) | (refine Tn2.of_ext ?_ hC.1.1.size; (repeat' (first | (with_reducible exact Below.refl _ _) | (with_reducible assumption) | (with_reducible refine below_drewN ?_ _) | (with_reducible refine Below.alloc ?_ ?_ _) | (with_reducible refine Below.drew ?_) | (with_reducible refine Below.setCell ?_ ?_ _) | (with_reducible refine Below.trans ?_ (Below.mono (by with_reducible assumption) ?_)) | go_size)))
          clear hex
          intro v w' hex hv
          obtain ⟨bf, rfl, hbf, hBz⟩ := hv
          clear hBz
          replace hex := Exists.intro w' hex
          simp only [Act.put, List.setIfInBounds_toArray, List.set_cons_succ, List.set_cons_zero]
          refine H.wpS_said (some (.tmp 7)) (RSet w1.heap.size (oS (svs U))) rfl (by intro y h; cases h; simp [Op.operands]) rfl (by first | rfl | (simp [Region.wanted, yielded]; done)) (fun _ _ _ _ h => h) ?_ ?_
          · intro w' hC K hK
            obtain ⟨b', e', hb', hBz⟩ := (hC.2 15 (by simp [Region.binds])).2.1 rfl
            cases e'
            obtain ⟨x0, x1, x2, x3, hbk, z0, z1, z2, z3⟩ := hBz.cells4
            have f0 := hbk.free 0
            have f1 := hbk.free 1
            have f2 := hbk.free 2
            have f3 := hbk.free 3
            have hlt := hbk.lt
            have HST := Lib.hid (And.intro hb' hBz)
            clear hbk hBz
            go_wp2_with fail
            exact hK _ (Tn2.of1 (Tn.store4 HST.out.1 HST.out.2).1) ⟨bs, rfl, HST.out.1, (Tn.store4 HST.out.1 HST.out.2).2⟩
          clear hex
          intro hex
          refine H.wpS_one (A := ?_) hex rfl rfl (by simp) ?_ ?_ ?_
          rotate_left 2
          · intro w' hC K hK
            go_wp2_with (fail)
            refine hK _ ?_
            first | exact G.GOK.refl _ | exact Tn.of_ext (by assumption) hC.1.1.size | exact Tn2.of_ext (by assumption) hC.1.1.size | (refine Tn.of_ext ?_ hC.1.1.size; (repeat' (first | (with_reducible exact Below.refl _ _) | (with_reducible assumption) | (with_reducible refine below_drewN ?_ _) | (with_reducible refine Below.alloc ?_ ?_ _) | (with_reducible refine Below.drew ?_) | (with_reducible refine Below.setCell ?_ ?_ _) | (with_reducible refine Below.trans ?_ (Below.mono (by with_reducible assumption) ?_)) | go_size))) | (refine Tn2.of_ext ?_ hC.1.1.size; (repeat' (first | (with_reducible exact Below.refl _ _) | (with_reducible assumption) | (with_reducible refine below_drewN ?_ _) | (with_reducible refine Below.alloc ?_ ?_ _) | (with_reducible refine Below.drew ?_) | (with_reducible refine Below.setCell ?_ ?_ _) | (with_reducible refine Below.trans ?_ (Below.mono (by with_reducible assumption) ?_)) | go_size)))
          rotate_left 1
          · rfl
          clear hex; intro hex
          refine H.wpS_said (some (.tmp 9)) (RSet w1.heap.size (oF (fcs C Q))) rfl (by intro y h; cases h; simp [Op.operands]) rfl (by first | rfl | (simp [Region.wanted, yielded]; done)) (fun _ _ _ _ h => h) ?_ ?_
          · intro w' hC K hK
            obtain ⟨b', e', hb', hBz⟩ := (hC.2 16 (by simp [Region.binds])).2.1 rfl
            cases e'
            obtain ⟨x0, x1, x2, x3, x4, hbk, z0, z1, z2, z3, z4⟩ := hBz.cells5
            have f0 := hbk.free 0
            have f1 := hbk.free 1
            have f2 := hbk.free 2
            have f3 := hbk.free 3
            have f4 := hbk.free 4
            have hlt := hbk.lt
            have HST := Lib.hid (And.intro hb' hBz)
            clear hbk hBz
            go_wp2_with fail
            exact hK _ (Tn2.of2 (Tn.store5 HST.out.1 HST.out.2).1) ⟨bf, rfl, HST.out.1, (Tn.store5 HST.out.1 HST.out.2).2⟩
          clear hex
          intro hex
          refine H.wpS_nil fun w2 hAll => ?_
          obtain ⟨bs', es', _, hBs⟩ := (hAll.2 17).2.1 rfl
          cases es'
          obtain ⟨bf', ef', _, hBf⟩ := (hAll.2 19).1 rfl
          cases ef'
          have HV2 := Lib.hid (HV1.out.ext hAll.1.1)
          have HE2 := Lib.hid (bel_call HE1.out hAll.1.1)
          have HB2 := Lib.hid (HB1.out.ext hAll.1.1)
          have HS2 := Lib.hid (show Blk w2 bs (svs U) 27 from hBs)
          have HF2 := Lib.hid (show Blk w2 bf (fcs C Q) 34 from hBf)
          obtain ⟨p0, p1, p2, p3⟩ := HB2.out.cells4
          obtain ⟨r0, r1, r2, r3⟩ := HS2.out.cells4
          obtain ⟨q0, q1, q2, q3, q4⟩ := HF2.out.cells5
          have hse : ∀ w, (Op.equalIn 10000 27 (sv U) (sv U)).run Tryz.prog w = .ok true w := fun w => by rw [set_eq]; simp
          have HS := Lib.hid (same_er ea y1 (fag C Q) d w2 (HK.out.ext HE2.out) (HV2.out.er (HK.out.ext HE2.out).sent) (by rw [HCQ.out.1, HCQ.out.2]; exact ⟨_, rfl, Texts.nil _⟩))
          clear hAll hBs hBf hex HR HV1 HE1 HB1 HB2 HV2 HCQ
          go_wp2_with fail
          refine HS.out.mono ?_
          rintro e w3 ⟨rfl, hx3⟩
          have HE3 := Lib.hid (bel_call HE2.out hx3)
          clear hx3 HS HE2 q0 q1 q2 q3 q4 p0 p1 p2 p3 r0 r1 r2 r3 hse
          go_wp2_with fail
          go_roundw
          case rel => first | exact ⟨k + 1, by omega, by omega, by go_num, HE3⟩ | ((repeat apply Exists.intro); exact ⟨⟨k + 1, by omega, by omega, by go_num, HE3⟩, rfl⟩)
          case measure => simp [intOf]; omega
      · obtain rfl : k = 20 := by omega
        have hd1 : decide (((20 : Nat) : Int) < (L.length : Int)) = true := by simp; omega
        have hw := wakes_any (ea 1) (ea 2) wr (HK.out.ext hE.out).tab (HK.out.ext hE.out).kn
        go_wp2_with fail
        refine hw.mono ?_
        rintro e w1 ⟨rfl, hx⟩
        have HX := Lib.hid (bel_call hE.out hx)
        clear hx hw
        go_wp2_with fail
        go_ret
        exact ⟨rfl, HX.out⟩
    · have hd1 : decide ((k : Int) < (L.length : Int)) = false := by simp; omega
      have hw := wakes_any (ea 1) (ea 2) wr (HK.out.ext hE.out).tab (HK.out.ext hE.out).kn
      go_wp2_with fail
      refine hw.mono ?_
      rintro e w1 ⟨rfl, hx⟩
      have HX := Lib.hid (bel_call hE.out hx)
      clear hx hw
      go_wp2_with fail
      go_ret
      exact ⟨rfl, HX.out⟩
end Go.Proofs.YtecjodcaeldidaaGreatDoor
namespace Go.Proofs.YtecjodcaeldidaaGreatDoor
open Go Go.ChangeShapes Go.WideShapes Go.ChangeAt Go.RowKit
theorem two_of {α : Type} {l : List α} (h : l.length = 2) : ∃ a b, l = [a, b] :=
  match l, h with
  | [a, b], _ => ⟨a, b, rfl⟩
theorem open_place {H : Type} {enc : TypeId × Value → H} {w : World} {k : Nat} {cs : List Value} {y : DataW H × List MemPlace} (h : DataW.trod enc Tryz.prog w 0 (fun _ => true) true k 24 cs = some y) :
    ∃ (s : ByteArray) (n : Int), cs = [.string s, .int .i64 n] := by
  have c2 : Tryz.prog.cellsOf 24 = 2 := by kernel_rfl
  have c1 : Tryz.prog.cellsOf 9 = 1 := by kernel_rfl
  have c1' : Tryz.prog.cellsOf 3 = 1 := by kernel_rfl
  obtain ⟨y0, y1, n, hx, hl, h0, h1⟩ := trod_struct2 Tryz.underlying24 h
  rw [c2] at hl
  obtain ⟨x0, x1, rfl⟩ := two_of hl
  simp only [c1, c1', List.drop_zero, List.drop_succ_cons, List.take_succ_cons, List.take_zero] at h0 h1
  obtain ⟨s, e0, _, _⟩ := DataW.trod_string Tryz.underlying9 h0
  obtain ⟨m, e1, _, _⟩ := DataW.trod_int Tryz.underlying3 h1
  simp only [List.cons.injEq, and_true] at e0 e1
  subst e0 e1
  exact ⟨s, m, rfl⟩
theorem open_places {H : Type} {enc : TypeId × Value → H} {w : World} {k : Nat} {c : Value} {y : DataW H × List MemPlace} (h : DataW.trod enc Tryz.prog w 0 (fun _ => true) true k 22 [c] = some y) : ∃ L, PlcIn w c L := by
  have c2 : Tryz.prog.cellsOf 24 = 2 := by kernel_rfl
  rcases Deep.open_slice Tryz.underlying22 h with ⟨hcs, _⟩ | ⟨a, len, cap, m, n, D, Pl, hcs, _, hl, hm, hmm, hx, hel⟩
  · simp only [List.cons.injEq, and_true] at hcs
    subst hcs
    exact ⟨[], none, 0, rfl, Nat.le_refl _, by unfold maxLen; omega, .inl rfl⟩
  · simp only [List.cons.injEq, and_true] at hcs
    subst hcs
    simp only [if_true] at hmm
    rw [c2] at hel
    have hS : ∀ i, ∃ s : ByteArray × Int, i < len → w.cell? ((a.add (i * 2)).add 0) = some (.string s.1) ∧ w.cell? ((a.add (i * 2)).add 1) = some (.int .i64 s.2) := by
      intro i
      by_cases hi : i < len
      · obtain ⟨cs', h1, h2⟩ := hel i (by omega)
        obtain ⟨s, q, rfl⟩ := open_place h2
        obtain ⟨_, _, hc⟩ := World.cells?_some h1
        exact ⟨(s, q), fun _ => ⟨hc 0 (by omega), hc 1 (by omega)⟩⟩
      · exact ⟨(.empty, 0), fun h => absurd h hi⟩
    obtain ⟨S, hS'⟩ := Classical.axiomOfChoice hS
    clear hS
    refine ⟨(List.range len).map S, some a, cap, by simp, by simpa using hl, hm, ?_⟩
    by_cases h0 : len = 0
    · subst h0; exact .inl rfl
    · obtain ⟨b, off, spot⟩ := a
      have hspot : spot = none := by simpa [Addr.add] using World.cell?_spot (hS' 0 (by omega)).1
      subst hspot
      simp only [addr_add] at hS'
      refine .inr ⟨b, off, rfl, World.block_lt_of_cell? w (⟨b, off + 0 * 2 + 0, none⟩ : Addr) (hS' 0 (by omega)).1, fun i hi => ?_⟩
      have hi' : i < len := by simpa using hi
      have := hS' i hi'
      simp only [Nat.add_zero] at this
      simp only [List.getElem_map, List.getElem_range]
      exact this
end Go.Proofs.YtecjodcaeldidaaGreatDoor
namespace Go.Proofs.YtecjodcaeldidaaGreatDoor
open Go Go.ChangeShapes Go.WideShapes Go.ChangeAt Go.RowKit
theorem classReads_met (os : Os) (args : Array Value) : laidMetH Tryz.prog Rows.classReadsRow.laid ((World.doorLaid Tryz.prog 400 os).forCall (fun _ _ => 0) ⟨#[], args, []⟩).memory :=
  laidMetH_of_parts (laidMet_of_run' 8 (by kernel_rfl) (by kernel_rfl)) (by kernel_rfl)
set_option maxRecDepth 100000 in
theorem classReads_contract {H : Type} {enc : TypeId × Value → H} (F : Stop.Interp) (W : World) (base : Nat) (args : Array Value) (ds gs : List (DataW H)) (before : List MemPlace)
    (hval0 : ∀ (j : Nat) t v, Tryz.f3.params[j]? = some t → args[j]? = some v → Value.okWide Tryz.prog W .any base t v)
    (hW : DataW.Whole enc Tryz.prog Tryz.f3.params.toList (OpenSpec.ofChange Rows.classReadsSpec).vars false W args.toList ds gs before)
    (hsz : (DataW.weightsEach Tryz.prog (Tryz.f3.params.toList ++ (OpenSpec.ofChange Rows.classReadsSpec).bare.plain.varTypes Tryz.prog) (ds ++ gs)).all (· ≤ reachBytes) = true)
    (hL : laidMetH Tryz.prog Rows.classReadsRow.laid W) (hsh : W.ShapedOpen Tryz.prog) :
    Calls Tryz.prog 3 args W fun e W' => ∃ v, e = .returned v ∧ ((OpenSpec.ofChange Rows.classReadsSpec).at F).post enc Tryz.prog Tryz.f3 false true false false W args v W' := by
  have hval : ∀ (j : Nat) t v, Tryz.f3.params[j]? = some t → args[j]? = some v → Value.okWide Tryz.prog W .any base t v := hval0
  have hW' := hW
  obtain ⟨p, q, hA0, hV, rfl, hfz, hnd⟩ := hW
  have hA : DataW.TrodAll enc Tryz.prog W 0 (fun _ => true) true Tryz.f3.params.toList args.toList ds p := hA0
  rw [Tryz.params3] at hA hval
  obtain ⟨v0, d0, rfl, rfl, h0⟩ := trodAll_one hA
  obtain ⟨rfl, rfl⟩ := trodVars_none hV
  have hlt : ∀ x ∈ p, x.block < W.heap.size := fun x hx => hW'.lt x (by simp [hx])
  have hwt : ∀ n ∈ d0.weights Tryz.prog 22, n ≤ reachBytes := fun n hn => by simpa using List.all_eq_true.1 hsz n (DataW.weights_mem_each (j := 0) rfl rfl n hn)
  obtain ⟨ea, hK⟩ := known_classReads hL hsh
  obtain ⟨a0, n0, c0, rfl⟩ := okWide_slice Tryz.underlying22 (hval 0 _ v0 rfl rfl); obtain ⟨L, hin⟩ : ∃ L, PlcIn W (.slice a0 n0 c0) L := (by obtain ⟨fuel, hf⟩ := h0; exact open_places hf)
  refine (reads_any _ L ea W hin hK).mono fun e W' ⟨he, hB⟩ => ?_
  subst he
  have e1 : ((OpenSpec.ofChange Rows.classReadsSpec).at F).fn H ([d0] ++ []) = { results := [.lit (.bool true)], args := [d0] } := rfl
  refine ⟨_, rfl, _, _, _, [], p, [], hW', ?_, ?_, ?_, hB.frame _, fun h => by cases h⟩
  · rw [e1]; exact trodAll_mk1 (shut_bool Tryz.underlying4 true)
  · rw [e1]; exact trodAll_mk1 (Below.trod laidOut (by kernel_rfl) (of_decide_eq_true (by kernel_rfl)) h0 hB hlt)
  · rw [e1]; rfl
set_option maxRecDepth 100000 in
theorem classReads_lifted (os : Os) (started : os.Started) (H : Type) (enc : TypeId × Value → H) (F : Stop.Interp) :
    ReturnsInHanded {} Tryz.checked os 3 .any ((OpenSpec.ofChange Rows.classReadsSpec).preRow enc Tryz.prog Tryz.f3 Rows.classReadsRow.domain false Rows.classReadsRow.laid) (((OpenSpec.ofChange Rows.classReadsSpec).at F).post enc Tryz.prog Tryz.f3 false true false false) := by
  have hx : DataW.whole enc Tryz.prog ((World.doorLaid Tryz.prog 400 os).forCall (fun _ _ => 0) ⟨#[], #[.slice none 0 0], []⟩).memory Tryz.f3.params.toList (OpenSpec.ofChange Rows.classReadsSpec).vars false (#[.slice none 0 0] : Array Value).toList 8 = some ([.nil], [], []) := by kernel_rfl
  refine returnsInHanded_of_row (C := Tryz.checked) (s := OpenSpec.ofChange Rows.classReadsSpec) own started (by kernel_rfl) Tryz.func3
    (witness_row_atRef (enc := enc) (C := Tryz.checked) false (World.doorLaid Tryz.prog 400 os) #[.slice none 0 0] rfl (by kernel_rfl) (by kernel_rfl) (by kernel_rfl)
      (OpenSpec.preRow_of_cond 8 hx (by kernel_rfl) (fun k hk => by cases hk) (by kernel_rfl) (classReads_met os _))) ?_
  intro W base args ds gs before hval hW _ _ hsz hL hsh _
  exact classReads_contract F W base args ds gs before hval hW hsz hL hsh
theorem classReads_row : Rows.ClassReadsSaid :=
  OpenClaim.holds_of_cond 3 Tryz.f3 rfl rfl rfl rfl rfl rfl rfl ⟨rfl, rfl, rfl, rfl, rfl⟩ rfl rfl rfl rfl rfl (by kernel_rfl) Tryz.func3 (by kernel_rfl)
    (of_decide_eq_true (by kernel_rfl)) (by unfold Func.isWrapper; rw [if_neg (of_decide_eq_false (by kernel_rfl))]; exact ⟨rfl, rfl⟩)
    (fun os started H enc _ F => by rw [OpenClaim.pre_eq_preRow]; exact classReads_lifted os started H enc F)
theorem classReads_holds : Rows.ClassReadsCardSaid :=
  Claim7.holds_tied_plain_at .later [] _ _ Rows.classReadsCard.stood.harness Rows.classReadsCard.stood.looks
    classReads_row (fun _ h => by cases h) (by kernel_rfl) (fun _ h => by cases h) classReads_row_tie rfl ⟨rfl, rfl⟩ (by kernel_rfl) rfl
    (fun f fn hf hfn => by
      obtain rfl : f = 3 := Option.some.inj ((show Tryz.prog.funcNamed Rows.classReadsRow.func = some 3 by kernel_rfl).symm.trans hf) |>.symm
      obtain rfl : fn = Tryz.f3 := (Option.some.inj (Tryz.func3.symm.trans hfn)).symm
      exact ⟨by kernel_rfl, fun j t ht => by
        rw [Tryz.params3] at ht
        have hm : t ∈ [22] := by simpa using Array.mem_of_getElem? ht
        have hall : ([22].all fun u => !Tryz.prog.wantsStandIn u) = true := by kernel_rfl
        exact (show Tryz.prog.wantsStandIn t = false by simpa using List.all_eq_true.1 hall t hm)⟩)
    (by kernel_rfl)
#print axioms classReads_holds
end Go.Proofs.YtecjodcaeldidaaGreatDoor
