/- The refiner's block, what it holds, and what may turn while states are parted. -/
import Derived.Test.YtniamfaiamgncaaDoorWhl
import Derived.Test.YtniamfaiamgncaaDoorDfa
namespace Go.Proofs.YtniamfaiamgncaaDoor
open Go Go.RowKit
theorem drn_ext (w : World) (n : Nat) : Ext w (w.drewN n) := ⟨rfl, rfl, rfl, Nat.le_refl _, fun _ _ => rfl⟩
instance : G.GOK Ext := ⟨fun w => Below.refl _ w, fun h k => bel_call h k, fun _ => ⟨rfl, rfl, rfl, Nat.le_refl _, fun _ _ => rfl⟩⟩
/-- Only blocks of S turn. -/
def Fr (S : Nat → Prop) (w w' : World) : Prop := w'.os = w.os ∧ w'.tape = w.tape ∧ w'.output = w.output ∧ w.heap.size ≤ w'.heap.size ∧ ∀ k, k < w.heap.size → ¬ S k → w'.heap[k]? = w.heap[k]?
section
variable {S S' : Nat → Prop} {w w' w2 : World}
theorem Fr.refl (S : Nat → Prop) (w : World) : Fr S w w := ⟨rfl, rfl, rfl, Nat.le_refl _, fun _ _ _ => rfl⟩
theorem Fr.trans (h : Fr S w w') (k : Fr S' w' w2) (hs : ∀ k, k < w.heap.size → S' k → S k) : Fr S w w2 :=
  ⟨k.1.trans h.1, k.2.1.trans h.2.1, k.2.2.1.trans h.2.2.1, Nat.le_trans h.2.2.2.1 k.2.2.2.1, fun i hi hn => (k.2.2.2.2 i (Nat.lt_of_lt_of_le hi h.2.2.2.1) (fun q => hn (hs i hi q))).trans (h.2.2.2.2 i hi hn)⟩
theorem Fr.mono (h : Fr S w w') (hs : ∀ k, k < w.heap.size → S k → S' k) : Fr S' w w' := ⟨h.1, h.2.1, h.2.2.1, h.2.2.2.1, fun i hi hn => h.2.2.2.2 i hi (fun q => hn (hs i hi q))⟩
theorem Fr.of_ext (h : Ext w w') : Fr S w w' := ⟨h.os, h.tape, h.output, h.size, fun k hk _ => h.block k hk⟩
theorem Fr.of_grown {row : Option Nat} (h : w.grownBy w' row) (hs : ∀ k, row = some k → S k) : Fr S w w' := ⟨h.os, h.tape, h.output, h.size, fun k hk hn => h.block k hk (fun e => hn (hs k e.symm))⟩
theorem Fr.set (h : Fr S w w') {b i : Nat} (hb : S b ∨ w.heap.size ≤ b) (u : Value) : Fr S w (w'.setCell ⟨b, i, none⟩ u) :=
  ⟨h.1, h.2.1, h.2.2.1, by simpa [World.setCell] using h.2.2.2.1, fun k hk hn => by
    rw [Below.heap_setCell _ _ _ _ (show k ≠ (⟨b, i, none⟩ : Addr).block from fun e => by
      have e : k = b := e
      subst e
      rcases hb with q | q
      · exact hn q
      · omega)]
    exact h.2.2.2.2 k hk hn⟩
theorem Fr.below {B : Nat} (h : Fr S w w') (hB : B ≤ w.heap.size) (hs : ∀ k, k < B → ¬ S k) : Below B w w' := ⟨h.1, h.2.1, h.2.2.1, h.2.2.2.1, fun k hk => h.2.2.2.2 k (by omega) (hs k hk)⟩
theorem Fr.blk {b : Nat} {vs : Array Value} {t : TypeId} (h : Fr S w w') (hb : Blk w b vs t) (hn : ¬ S b) : Blk w' b vs t := by
  have := hb.lt
  unfold Blk at *
  rw [h.2.2.2.2 b this hn]; exact hb
theorem Fr.cell {b o : Nat} {v : Value} (h : Fr S w w') (hv : w.cell? ⟨b, o, none⟩ = some v) (hn : ¬ S b) : w'.cell? ⟨b, o, none⟩ = some v := by
  rw [World.cell?_of_block (w := w) (h.2.2.2.2 b (World.block_lt_of_cell? w (⟨b, o, none⟩ : Addr) hv) hn)]; exact hv
theorem Fr.own {B e sz n : Nat} {v : Value} {xs : List Value} (h : Fr S w w') (ho : w.ownsRow B e sz v n xs) (hn : ∀ k, v.ownBlock = some k → ¬ S k) : w'.ownsRow B e sz v n xs := by
  obtain ⟨h1, h2 | ⟨g, cap, cur, hv, hb, hh, rest⟩⟩ := ho
  · exact ⟨h1, .inl h2⟩
  · exact ⟨h1, .inr ⟨g, cap, cur, hv, hb, by rw [h.2.2.2.2 g (Array.getElem?_eq_some_iff.1 hh).1 (hn g (by rw [hv]; rfl))]; exact hh, rest⟩⟩
end
/-- A slice whose cells lie in a block of Q. -/
def SlcQ (Q : Nat → Prop) (w : World) (v : Value) (n : Nat) (cs : List Value) : Prop :=
  ∃ a cap, v = .slice a n cap ∧ n ≤ cap ∧ cap ≤ maxLen ∧ (cs = [] ∨ ∃ b o, a = some ⟨b, o, none⟩ ∧ Q b ∧ b < w.heap.size ∧ ∀ i, i < cs.length → w.cell? ⟨b, o + i, none⟩ = cs[i]?)
def Nats (Q : Nat → Prop) (w : World) (v : Value) (L : List Nat) : Prop := SlcQ Q w v L.length (L.map nv)
theorem SlcQ.fr {Q S : Nat → Prop} {w w' : World} {v : Value} {n : Nat} {cs : List Value} (h : SlcQ Q w v n cs) (hx : Fr S w w') (hq : ∀ k, k < w.heap.size → Q k → ¬ S k) : SlcQ Q w' v n cs := by
  obtain ⟨a, cap, e, h1, h2, h | ⟨b, o, ha, hQ, hb, h⟩⟩ := h
  · exact ⟨a, cap, e, h1, h2, .inl h⟩
  · refine ⟨a, cap, e, h1, h2, .inr ⟨b, o, ha, hQ, Nat.lt_of_lt_of_le hb hx.2.2.2.1, fun i hi => ?_⟩⟩
    rw [World.cell?_of_block (w := w) (hx.2.2.2.2 b hb (hq b hb hQ))]; exact h i hi
theorem SlcQ.ext {Q : Nat → Prop} {w w' : World} {v : Value} {n : Nat} {cs : List Value} (h : SlcQ Q w v n cs) (hx : Ext w w') : SlcQ Q w' v n cs := h.fr (Fr.of_ext (S := fun _ => False) hx) (fun _ _ _ q => q)
theorem SlcQ.imp {Q Q' : Nat → Prop} {w : World} {v : Value} {n : Nat} {cs : List Value} (h : SlcQ Q w v n cs) (hq : ∀ k, k < w.heap.size → Q k → Q' k) : SlcQ Q' w v n cs := by
  obtain ⟨a, cap, e, h1, h2, h | ⟨b, o, ha, hQ, hb, h⟩⟩ := h
  · exact ⟨a, cap, e, h1, h2, .inl h⟩
  · exact ⟨a, cap, e, h1, h2, .inr ⟨b, o, ha, hq b hb hQ, hb, h⟩⟩
theorem Nats.shape {Q : Nat → Prop} {w : World} {v : Value} {L : List Nat} (h : Nats Q w v L) : ∃ a cap, v = .slice a L.length cap := by
  obtain ⟨a, cap, e, _⟩ := h
  exact ⟨a, cap, e⟩
theorem Nats.cell {Q : Nat → Prop} {w : World} {a : Option Addr} {n cap : Nat} {L : List Nat} (h : Nats Q w (.slice a n cap) L) {k : Nat} (hk : k < L.length) : ∃ b o, a = some ⟨b, o, none⟩ ∧ Q b ∧ b < w.heap.size ∧ w.cell? ⟨b, o + k, none⟩ = some (.int .i64 ((L[k] : Nat) : Int)) := by
  obtain ⟨a', cap', e, h1, h2, h⟩ := h
  cases e
  rcases h with h | ⟨b, o, rfl, hQ, hb, h⟩
  · have := congrArg List.length h; rw [List.length_map, List.length_nil] at this; omega
  · refine ⟨b, o, rfl, hQ, hb, ?_⟩
    rw [h k (by simpa using hk)]
    simp [List.getElem?_eq_getElem hk]
/-- What a call owns is such a slice. -/
theorem SlcQ.of_own {w : World} {base e size : Nat} {v : Value} {n : Nat} {xs : List Value} (h : w.ownsRow base e size v n xs) : SlcQ (fun k => base ≤ k ∧ v.ownBlock = some k) w v n xs := by
  obtain ⟨hl, ⟨rfl, rfl⟩ | ⟨g, cap, cur, rfl, hb, hg, h1, h2, h3, h4⟩⟩ := h
  · exact ⟨none, 0, rfl, Nat.le_refl _, by unfold maxLen; omega, .inl (by simpa using hl)⟩
  · refine ⟨_, cap, rfl, h1, h2, .inr ⟨g, 0, rfl, ⟨hb, rfl⟩, (Array.getElem?_eq_some_iff.1 hg).1, fun i hi => ?_⟩⟩
    have : i < n * size := by omega
    simp only [World.cell?, hg, Nat.zero_add]
    rw [← h4, List.getElem?_take_of_lt this]
    simp
/-- The refiner's cells. -/
def rfb (v1 v2 v3 v4 vl vm : Value) (F : List Value) : Array Value := (v1 :: v2 :: v3 :: v4 :: vl :: vm :: F).toArray
theorem rfb_set3 (v1 v2 v3 v4 vl vm u : Value) (F : List Value) : (rfb v1 v2 v3 v4 vl vm F).setIfInBounds 3 u = rfb v1 v2 v3 u vl vm F := by simp [rfb]
theorem rfb_set4 (v1 v2 v3 v4 vl vm u : Value) (F : List Value) : (rfb v1 v2 v3 v4 vl vm F).setIfInBounds 4 u = rfb v1 v2 v3 v4 u vm F := by simp [rfb]
section
variable {w : World} {b t : Nat} {v1 v2 v3 v4 vl vm : Value} {F : List Value}
theorem rfb_cells (h : Blk w b (rfb v1 v2 v3 v4 vl vm F) t) : w.cell? ⟨b, 0, none⟩ = some v1 ∧ w.cell? ⟨b, 1, none⟩ = some v2 ∧ w.cell? ⟨b, 2, none⟩ = some v3 ∧ w.cell? ⟨b, 3, none⟩ = some v4 ∧ w.cell? ⟨b, 4, none⟩ = some vl ∧ w.cell? ⟨b, 5, none⟩ = some vm :=
  ⟨h.cell 0, h.cell 1, h.cell 2, h.cell 3, h.cell 4, h.cell 5⟩
theorem rfb_from (h : Blk w b (rfb v1 v2 v3 v4 vl vm F) t) (c : Nat) : w.cell? ⟨b, 6 + c, none⟩ = F[c]? := by
  rw [h.cell]; show (v1 :: v2 :: v3 :: v4 :: vl :: vm :: F).toArray[6 + c]? = _
  rw [show 6 + c = c + 1 + 1 + 1 + 1 + 1 + 1 by omega]; simp
end
/-- The parting in the refiner's block. -/
structure PtR (w : World) (b B n : Nat) (v1 v2 v3 v4 vl vm : Value) (F : List Value) (p : Pt) : Prop where
  blk : Blk w b (rfb v1 v2 v3 v4 vl vm F) 173
  pt : PtW w B v1 v2 v3 v4 p
  ok : p.Ok n
  few : n ≤ 600
  lo : B ≤ b
theorem PtW.fr {w w' : World} {B : Nat} {v1 v2 v3 v4 : Value} {p : Pt} {S : Nat → Prop} (h : PtW w B v1 v2 v3 v4 p) (hx : Fr S w w') (h1 : ∀ k, v1.ownBlock = some k → ¬ S k) (h2 : ∀ k, v2.ownBlock = some k → ¬ S k) (h3 : ∀ k, v3.ownBlock = some k → ¬ S k) (h4 : ∀ k, v4.ownBlock = some k → ¬ S k) : PtW w' B v1 v2 v3 v4 p :=
  ⟨hx.own h.o1 h1, hx.own h.o2 h2, hx.own h.o3 h3, hx.own h.o4 h4, h.d12, h.d13, h.d23⟩
theorem PtW.ext {w w' : World} {B : Nat} {v1 v2 v3 v4 : Value} {p : Pt} (h : PtW w B v1 v2 v3 v4 p) (hx : Ext w w') : PtW w' B v1 v2 v3 v4 p :=
  h.fr (Fr.of_ext (S := fun _ => False) hx) (fun _ _ q => q) (fun _ _ q => q) (fun _ _ q => q) (fun _ _ q => q)
theorem PtR.ext {w w' : World} {b B n : Nat} {v1 v2 v3 v4 vl vm : Value} {F : List Value} {p : Pt} (h : PtR w b B n v1 v2 v3 v4 vl vm F p) (hx : Ext w w') : PtR w' b B n v1 v2 v3 v4 vl vm F p := ⟨h.blk.ext hx, h.pt.ext hx, h.ok, h.few, h.lo⟩
/-- What parting writes. -/
def Sp (v1 v2 v3 v4 : Value) (b k : Nat) : Prop := v1.ownBlock = some k ∨ v2.ownBlock = some k ∨ v3.ownBlock = some k ∨ v4.ownBlock = some k ∨ k = b
theorem PtR.fr {w w' : World} {b B n : Nat} {v1 v2 v3 v4 vl vm : Value} {F : List Value} {p : Pt} {S : Nat → Prop} (h : PtR w b B n v1 v2 v3 v4 vl vm F p) (hx : Fr S w w') (hn : ∀ k, Sp v1 v2 v3 v4 b k → ¬ S k) : PtR w' b B n v1 v2 v3 v4 vl vm F p :=
  ⟨hx.blk h.blk (hn b (.inr (.inr (.inr (.inr rfl))))), h.pt.fr hx (fun k q => hn k (.inl q)) (fun k q => hn k (.inr (.inl q))) (fun k q => hn k (.inr (.inr (.inl q)))) (fun k q => hn k (.inr (.inr (.inr (.inl q))))), h.ok, h.few, h.lo⟩
theorem PtR.lt {w : World} {b B n : Nat} {v1 v2 v3 v4 vl vm : Value} {F : List Value} {p : Pt} (h : PtR w b B n v1 v2 v3 v4 vl vm F p) : ∀ k, Sp v1 v2 v3 v4 b k → k < w.heap.size := fun k q => by
  rcases q with q | q | q | q | rfl
  · exact (h.pt.o1.lt k q).2
  · exact (h.pt.o2.lt k q).2
  · exact (h.pt.o3.lt k q).2
  · exact (h.pt.o4.lt k q).2
  · exact h.blk.lt
theorem own_some {w : World} {B e sz n : Nat} {v : Value} {xs : List Value} (h : w.ownsRow B e sz v n xs) (hn : 0 < n) : ∃ g cap, v = .slice (some ⟨g, 0, none⟩) n cap ∧ n ≤ cap ∧ B ≤ g ∧ g < w.heap.size ∧ cap ≤ maxLen := by
  obtain ⟨_, ⟨_, h2⟩ | ⟨g, cap, cur, hv, hb, hh, h3, h4, _⟩⟩ := h
  · omega
  · exact ⟨g, cap, hv, h3, hb, (Array.getElem?_eq_some_iff.1 hh).1, h4⟩
theorem sp_len (sp : List (Nat × Nat × Nat)) : (sp.flatMap sp3).length = sp.length * 3 := by
  induction sp with
  | nil => rfl
  | cons x l ih => rw [List.flatMap_cons, List.length_append, ih]; simp [sp3]; omega
theorem sp_get : ∀ (sp : List (Nat × Nat × Nat)) (k : Nat), k < sp.length → (sp.flatMap sp3)[k * 3]? = some (nv (sp.getD k (0, 0, 0)).1) ∧ (sp.flatMap sp3)[k * 3 + 1]? = some (nv (sp.getD k (0, 0, 0)).2.1) ∧ (sp.flatMap sp3)[k * 3 + 2]? = some (nv (sp.getD k (0, 0, 0)).2.2)
  | [], k, h => by simp at h
  | x :: l, 0, _ => ⟨rfl, rfl, rfl⟩
  | x :: l, k + 1, h => by
    have ih := sp_get l k (by simpa using h)
    rw [List.flatMap_cons]
    have e : ∀ j, (sp3 x ++ l.flatMap sp3)[(k + 1) * 3 + j]? = (l.flatMap sp3)[k * 3 + j]? := fun j => by
      rw [List.getElem?_append_right (by simp [sp3]; omega)]
      congr 1; simp [sp3]; omega
    have e0 := e 0
    rw [Nat.add_zero, Nat.add_zero] at e0
    rw [e0, e 1, e 2]
    simpa using ih
theorem sp_set : ∀ (sp : List (Nat × Nat × Nat)) (k : Nat) (x : Nat × Nat × Nat), k < sp.length → (((sp.flatMap sp3).set (k * 3) (nv x.1)).set (k * 3 + 1) (nv x.2.1)).set (k * 3 + 2) (nv x.2.2) = (sp.set k x).flatMap sp3
  | [], k, _, h => by simp at h
  | y :: l, 0, x, _ => by simp [sp3]
  | y :: l, k + 1, x, h => by
    have ih := sp_set l k x (by simpa using h)
    rw [List.flatMap_cons, List.set_cons_succ, List.flatMap_cons, ← ih]
    have e : ∀ (M : List Value) j u, (sp3 y ++ M).set ((k + 1) * 3 + j) u = sp3 y ++ M.set (k * 3 + j) u := fun M j u => by
      rw [List.set_append_right _ _ (by simp [sp3]; omega)]
      congr 2; simp [sp3]; omega
    have e0 := fun M u => e M 0 u
    simp only [Nat.add_zero] at e0
    rw [e0, e, e]
theorem sp_set1 (sp : List (Nat × Nat × Nat)) (k m : Nat) (h : k < sp.length) : (sp.flatMap sp3).set (k * 3 + 1) (nv m) = (sp.set k ((sp.getD k (0, 0, 0)).1, m, (sp.getD k (0, 0, 0)).2.2)).flatMap sp3 := by
  rw [← sp_set sp k _ h]
  obtain ⟨g0, _, g2⟩ := sp_get sp k h
  have l := sp_len sp
  simp only
  have s0 : (sp.flatMap sp3).set (k * 3) (nv (sp.getD k (0, 0, 0)).1) = sp.flatMap sp3 := by
    apply List.ext_getElem?
    intro i
    rw [List.getElem?_set]
    split
    · rename_i e; rw [if_pos (by omega), ← e, g0]
    · rfl
  rw [s0]
  apply List.ext_getElem?
  intro i
  rw [List.getElem?_set (i := k * 3 + 2)]
  split
  · rename_i e
    rw [if_pos (by rw [List.length_set]; omega), ← e, List.getElem?_set_ne (by omega), g2]
  · rfl
end Go.Proofs.YtniamfaiamgncaaDoor
