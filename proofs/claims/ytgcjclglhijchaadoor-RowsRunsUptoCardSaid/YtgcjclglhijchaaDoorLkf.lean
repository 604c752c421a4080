/- Worlds that grow, some blocks of whose cells may turn to what is said: several appends onto lists of one's own in a region whose order is open. -/
import Derived.Test.YtgcjclglhijchaaDoorStabY
import Derived.Test.YtgcjclglhijchaaDoorLko
namespace Go.Proofs.YtgcjclglhijchaaDoor
open Go Go.RowKit
abbrev Kf := Nat → Option (Nat × (Nat → Option Value))
/-- w' is w grown, but that of a block g the first N cells may have turned to T, where K says so. -/
def LkF (K : Kf) (w w' : World) : Prop :=
  (w'.os = w.os ∧ w'.tape = w.tape ∧ w'.output = w.output ∧ w.heap.size ≤ w'.heap.size) ∧ (∀ k, k < w.heap.size → K k = none → w'.heap[k]? = w.heap[k]?) ∧
  ∀ g N T, K g = some (N, T) → ∀ c t f, w.heap[g]? = some (.cells c t f) → ∃ c', w'.heap[g]? = some (.cells c' t f) ∧ c'.size = c.size ∧ ∀ i, i < N → c'[i]? = c[i]? ∨ c'[i]? = T i
section
variable {K : Kf} {w w' : World}
theorem LkF.of_ext (h : Ext w w') : LkF K w w' :=
  ⟨⟨h.os, h.tape, h.output, h.size⟩, fun k hk _ => h.block k hk, fun g _ _ _ c t f hc => ⟨c, by rw [h.block g (Array.getElem?_eq_some_iff.1 hc).1]; exact hc, rfl, fun _ _ => .inl rfl⟩⟩
theorem LkF.refl (u : World) : LkF K u u := LkF.of_ext (Below.refl _ u)
theorem LkF.trans {a b c : World} (h : LkF K a b) (k : LkF K b c) : LkF K a c := by
  obtain ⟨⟨h1, h2, h3, h4⟩, h5, h6⟩ := h
  obtain ⟨⟨k1, k2, k3, k4⟩, k5, k6⟩ := k
  refine ⟨⟨k1.trans h1, k2.trans h2, k3.trans h3, Nat.le_trans h4 k4⟩, fun i hi hg => (k5 i (Nat.lt_of_lt_of_le hi h4) hg).trans (h5 i hi hg), fun g N T hg c t f hc => ?_⟩
  obtain ⟨c1, e1, e2, e3⟩ := h6 g N T hg c t f hc
  obtain ⟨c2, f1, f2, f3⟩ := k6 g N T hg c1 t f e1
  refine ⟨c2, f1, f2.trans e2, fun i hi => ?_⟩
  rcases f3 i hi with h | h
  · rw [h]; exact e3 i hi
  · exact .inr h
instance : G.GOK (LkF K) := ⟨LkF.refl, LkF.trans, fun _ => LkF.of_ext ⟨rfl, rfl, rfl, Nat.le_refl _, fun _ _ => rfl⟩⟩
theorem LkF.of_lko {X : Option Nat} {N : Nat} {T : Nat → Option Value} (h : LkO X N T w w') (hK : ∀ g, X = some g → K g = some (N, T)) : LkF K w w' := by
  refine ⟨h.1, fun k hk hn => h.2.1 k hk (fun e => by rw [hK k e] at hn; cases hn), fun g N' T' hg c t f hc => ?_⟩
  by_cases e : X = some g
  · have := hK g e
    rw [hg] at this
    simp only [Option.some.injEq, Prod.mk.injEq] at this
    obtain ⟨rfl, rfl⟩ := this
    exact h.2.2 g e c t f hc
  · exact ⟨c, by rw [h.2.1 g (Array.getElem?_eq_some_iff.1 hc).1 e]; exact hc, rfl, fun _ _ => .inl rfl⟩
theorem LkF.blk {b : Nat} {vs : Array Value} {t : TypeId} (h : LkF K w w') (hb : Blk w b vs t) (hg : K b = none) : Blk w' b vs t := by
  have := hb.lt
  unfold Blk at *
  rw [h.2.1 b this hg]; exact hb
theorem own_lkf {b e sz m : Nat} {v : Value} {ys : List Value} (h : w.ownsRow b e sz v m ys) (hx : LkF K w w') (hT : ∀ g N T, v.ownBlock = some g → K g = some (N, T) → ∀ i, i < ys.length → i < N ∧ T i = ys[i]?) : w'.ownsRow b e sz v m ys := by
  obtain ⟨h1, h2 | ⟨g', cap, cur, hv, hg, hh, h3, h4, h5, h6⟩⟩ := h
  · exact ⟨h1, .inl h2⟩
  · cases e1 : K g' with
    | some NT =>
      obtain ⟨N, T⟩ := NT
      obtain ⟨c', k1, k2, k3⟩ := hx.2.2 g' N T e1 cur _ _ hh
      refine ⟨h1, .inr ⟨g', cap, c', hv, hg, k1, h3, h4, k2.trans h5, ?_⟩⟩
      apply List.ext_getElem?
      intro i
      rw [List.getElem?_take]
      by_cases hi : i < ys.length
      · rw [if_pos (by omega)]
        have e2 : cur[i]? = ys[i]? := by
          rw [← h6, List.getElem?_take, if_pos (by omega)]; simp
        have hTi := hT g' N T (by rw [hv]; rfl) e1 i hi
        have e3 := k3 i hTi.1
        rw [e2, hTi.2] at e3
        rw [Array.getElem?_toList]
        rcases e3 with e3 | e3 <;> exact e3
      · rw [if_neg (by omega), List.getElem?_eq_none (by omega)]
    | none => exact ⟨h1, .inr ⟨g', cap, cur, hv, hg, by rw [hx.2.1 g' (Array.getElem?_eq_some_iff.1 hh).1 e1]; exact hh, h3, h4, h5, h6⟩⟩
theorem lkf_cell {b o : Nat} (h : LkF K w w') (ha : K b = none) {v : Value} (hv : w.cell? ⟨b, o, none⟩ = some v) : w'.cell? ⟨b, o, none⟩ = some v := by
  rw [World.cell?_of_block (w := w) (h.2.1 b (World.block_lt_of_cell? w (⟨b, o, none⟩ : Addr) hv) ha)]; exact hv
theorem LkF.below {B : Nat} (h : LkF K w w') (hB : B ≤ w.heap.size) (hK : ∀ k, k < B → K k = none) : Below B w w' :=
  ⟨h.1.1, h.1.2.1, h.1.2.2.1, h.1.2.2.2, fun k hk => h.2.1 k (by omega) (hK k hk)⟩
end
theorem AppR_lkf {K : Kf} (H base e size n : Nat) (X : Option Nat) (ys : List Value) (h : ∀ g, X = some g ∨ H ≤ g → ∀ N T, K g = some (N, T) → ∀ i, i < ys.length → i < N ∧ T i = ys[i]?) : G.Mono (LkF K) (AppR H base e size n X ys) := fun _ _ _ hx ⟨g, cap, h1, h2, h3, h4⟩ =>
  ⟨g, cap, h1, own_lkf h2 hx (fun g' N T hg hK => by
    rw [h1] at hg
    have : g = g' := Option.some.inj hg
    subst this
    exact h g h3 N T hK), h3, Nat.lt_of_lt_of_le h4 hx.1.2.2.2⟩
/-- A new slice of one. -/
def OneV (H : Nat) (t : TypeId) (xs : List Value) (v : Value) (w : World) : Prop := ∃ b, v = .slice (some ⟨b, 0, none⟩) 1 1 ∧ Blk w b xs.toArray t ∧ H ≤ b
theorem OneV_lkf {K : Kf} (H : Nat) (hK : ∀ k, H ≤ k → K k = none) (t : TypeId) (xs : List Value) : G.Mono (LkF K) (OneV H t xs) := fun _ _ _ hx ⟨b, h1, h2, h3⟩ => ⟨b, h1, hx.blk h2 (hK b h3), h3⟩
/-- Two lists of one's own. -/
def kf2 (X1 : Option Nat) (ys1 : List Value) (X2 : Option Nat) (ys2 : List Value) : Kf := fun g =>
  if X1 = some g then some (ys1.length, fun j => ys1[j]?) else if X2 = some g then some (ys2.length, fun j => ys2[j]?) else none
theorem kf2_one {X1 X2 : Option Nat} {ys1 ys2 : List Value} : ∀ g, X1 = some g → kf2 X1 ys1 X2 ys2 g = some (ys1.length, fun j => ys1[j]?) := fun g h => by unfold kf2; rw [if_pos h]
theorem kf2_two {X1 X2 : Option Nat} {ys1 ys2 : List Value} (hne : ∀ g, X1 = some g → X2 ≠ some g) : ∀ g, X2 = some g → kf2 X1 ys1 X2 ys2 g = some (ys2.length, fun j => ys2[j]?) := fun g h => by
  unfold kf2; rw [if_neg (fun q => hne g q h), if_pos h]
theorem kf2_none {X1 X2 : Option Nat} {ys1 ys2 : List Value} {g : Nat} (h1 : X1 ≠ some g) (h2 : X2 ≠ some g) : kf2 X1 ys1 X2 ys2 g = none := by unfold kf2; rw [if_neg h1, if_neg h2]
theorem kf2_app1 {X1 X2 : Option Nat} {ys1 ys2 : List Value} {H : Nat} (hl1 : ∀ g, X1 = some g → g < H) (hl2 : ∀ g, X2 = some g → g < H) : ∀ g, X1 = some g ∨ H ≤ g → ∀ N T, kf2 X1 ys1 X2 ys2 g = some (N, T) → ∀ i, i < ys1.length → i < N ∧ T i = ys1[i]? := by
  intro g hg N T hK i hi
  rcases hg with hg | hg
  · rw [kf2_one g hg] at hK
    cases hK
    exact ⟨hi, rfl⟩
  · rw [kf2_none (fun q => by have := hl1 g q; omega) (fun q => by have := hl2 g q; omega)] at hK
    cases hK
theorem kf2_app2 {X1 X2 : Option Nat} {ys1 ys2 : List Value} {H : Nat} (hne : ∀ g, X1 = some g → X2 ≠ some g) (hl1 : ∀ g, X1 = some g → g < H) (hl2 : ∀ g, X2 = some g → g < H) : ∀ g, X2 = some g ∨ H ≤ g → ∀ N T, kf2 X1 ys1 X2 ys2 g = some (N, T) → ∀ i, i < ys2.length → i < N ∧ T i = ys2[i]? := by
  intro g hg N T hK i hi
  rcases hg with hg | hg
  · rw [kf2_two hne g hg] at hK
    cases hK
    exact ⟨hi, rfl⟩
  · rw [kf2_none (fun q => by have := hl1 g q; omega) (fun q => by have := hl2 g q; omega)] at hK
    cases hK
def RsL (a b c d : Nat) (R1 R2 R3 R4 : Value → World → Prop) : Nat → Option (Value → World → Prop) := fun j => if j = a then some R1 else if j = b then some R2 else if j = c then some R3 else if j = d then some R4 else none
theorem RsL_mono {Z : World → World → Prop} {a b c d : Nat} {R1 R2 R3 R4 : Value → World → Prop} (h1 : G.Mono Z R1) (h2 : G.Mono Z R2) (h3 : G.Mono Z R3) (h4 : G.Mono Z R4) : G.RsMono Z (RsL a b c d R1 R2 R3 R4) := by
  intro j R h
  unfold RsL at h
  split at h
  · cases h; exact h1
  · split at h
    · cases h; exact h2
    · split at h
      · cases h; exact h3
      · split at h
        · cases h; exact h4
        · cases h
def wtdB (ops : Array Oper) (o : Oper) (d : Tmp) : Bool := o.after.any fun e => Region.binds .any e && (List.range ops.size).all fun j => j == e.on || (match ops[j]? with | some oj => decide (oj.dst ≠ some d) | none => true)
theorem wtd_of {ops : Array Oper} {o : Oper} {d : Tmp} (h : wtdB ops o d = true) : Y.Wtd ops o (.tmp d) := by
  obtain ⟨e, he, hb⟩ := Array.any_eq_true'.1 h
  simp only [Bool.and_eq_true, List.all_eq_true, List.mem_range, Bool.or_eq_true, beq_iff_eq] at hb
  refine ⟨e, he, hb.1, d, rfl, fun j oj hj hd => ?_⟩
  have h1 := hb.2 j (Array.getElem?_eq_some_iff.1 hj).1
  rw [hj] at h1
  simp only [decide_eq_true_eq] at h1
  exact h1.resolve_right (fun q => q hd)
/-- The same, where the last one may speak of another's value. -/
def RsY (a b c d : Nat) (R1 R2 R3 : Value → World → Prop) (x : Option Operand) (R4 : Value → Value → World → Prop) : Y.RsT := fun j => if j = a then some (none, fun _ => R1) else if j = b then some (none, fun _ => R2) else if j = c then some (none, fun _ => R3) else if j = d then some (x, R4) else none
theorem RsY_mono {Z : World → World → Prop} {a b c d : Nat} {R1 R2 R3 : Value → World → Prop} {x : Option Operand} {R4 : Value → Value → World → Prop} (h1 : G.Mono Z R1) (h2 : G.Mono Z R2) (h3 : G.Mono Z R3) (h4 : ∀ u, G.Mono Z (R4 u)) : Y.RsMono Z (RsY a b c d R1 R2 R3 x R4) := by
  intro j y R h
  unfold RsY at h
  split at h
  · cases h; exact fun _ => h1
  · split at h
    · cases h; exact fun _ => h2
    · split at h
      · cases h; exact fun _ => h3
      · split at h
        · cases h; exact h4
        · cases h
/-- .. and lies elsewhere than what was told ahead. -/
def AppN (H base e size n : Nat) (X : Option Nat) (ys : List Value) (u v : Value) (w : World) : Prop := ∃ g cap, v = .slice (some ⟨g, 0, none⟩) n cap ∧ w.ownsRow base e size v n ys ∧ (X = some g ∨ H ≤ g) ∧ g < w.heap.size ∧ u.ownBlock ≠ some g
theorem AppN_lkf {K : Kf} (H base e size n : Nat) (X : Option Nat) (ys : List Value) (h : ∀ g, X = some g ∨ H ≤ g → ∀ N T, K g = some (N, T) → ∀ i, i < ys.length → i < N ∧ T i = ys[i]?) (u : Value) : G.Mono (LkF K) (AppN H base e size n X ys u) := fun _ _ _ hx ⟨g, cap, h1, h2, h3, h4, h5⟩ =>
  ⟨g, cap, h1, own_lkf h2 hx (fun g' N T hg hK => by
    rw [h1] at hg
    have : g = g' := Option.some.inj hg
    subst this
    exact h g h3 N T hK), h3, Nat.lt_of_lt_of_le h4 hx.1.2.2.2, h5⟩
end Go.Proofs.YtgcjclglhijchaaDoor
