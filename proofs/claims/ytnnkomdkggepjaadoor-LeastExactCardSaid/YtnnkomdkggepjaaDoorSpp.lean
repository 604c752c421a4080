/- bolterref12.split: classes by their least states, parted till nothing parts them (plain). -/
import Derived.Test.YtnnkomdkggepjaaDoorCnl
namespace Go.Proofs.YtnnkomdkggepjaaDoor
structure Eqv (n : Nat) (R : Nat → Nat → Prop) : Prop where
  refl : ∀ a, a < n → R a a
  symm : ∀ a b, a < n → b < n → R a b → R b a
  trans : ∀ a b c, a < n → b < n → c < n → R a b → R b c → R a c
/-- States so far stand for their classes' least ones. -/
structure Grw (n : Nat) (R : Nat → Nat → Prop) (C : List Nat) (i : Nat) : Prop where
  len : C.length = n
  le : ∀ a, a < i → C.getD a 0 ≤ a
  idem : ∀ a, a < i → C.getD (C.getD a 0) 0 = C.getD a 0
  eq : ∀ a b, a < i → b < i → (C.getD a 0 = C.getD b 0 ↔ R a b)
theorem getD_setn {L : List Nat} {i j x : Nat} (hi : i < L.length) : (L.set i x).getD j 0 = if j = i then x else L.getD j 0 := by
  rw [List.getD_eq_getElem?_getD, List.getElem?_set]
  by_cases e : i = j
  · subst e; simp [hi]
  · rw [if_neg e, if_neg (fun q => e q.symm), ← List.getD_eq_getElem?_getD]
section
variable {n : Nat} {R : Nat → Nat → Prop} {C : List Nat} {i k : Nat}
theorem Grw.start (hl : C.length = n) : Grw n R C 0 := ⟨hl, fun a h => absurd h (by omega), fun a h => absurd h (by omega), fun a b h => absurd h (by omega)⟩
theorem Grw.old (h : Grw n R C i) (hR : Eqv n R) (hi : i < n) (hk : k < i) (hr : R k i) {v : Nat} (hv : v = C.getD k 0) : Grw n R (C.set i v) (i + 1) := by
  subst hv
  have hl := h.len
  have g : ∀ a, a < i → (C.set i (C.getD k 0)).getD a 0 = C.getD a 0 := fun a ha => by rw [getD_setn (by omega), if_neg (by omega)]
  have gi : (C.set i (C.getD k 0)).getD i 0 = C.getD k 0 := by rw [getD_setn (by omega), if_pos rfl]
  have hle := h.le k hk
  refine ⟨by rw [List.length_set]; exact hl, fun a ha => ?_, fun a ha => ?_, fun a b ha hb => ?_⟩
  · by_cases e : a = i
    · subst e; rw [gi]; omega
    · rw [g a (by omega)]; exact h.le a (by omega)
  · by_cases e : a = i
    · subst e; rw [gi, g _ (by omega)]; exact h.idem k hk
    · have := h.le a (by omega)
      rw [g a (by omega), g _ (by omega)]; exact h.idem a (by omega)
  · by_cases e : a = i
    · subst e
      by_cases e2 : b = a
      · subst e2; exact ⟨fun _ => hR.refl _ hi, fun _ => rfl⟩
      · rw [gi, g b (by omega), h.eq k b hk (by omega)]
        exact ⟨fun q => hR.trans _ _ _ hi (by omega) (by omega) (hR.symm _ _ (by omega) hi hr) q, fun q => hR.trans _ _ _ (by omega) hi (by omega) hr q⟩
    · by_cases e2 : b = i
      · subst e2
        rw [gi, g a (by omega), h.eq a k (by omega) hk]
        exact ⟨fun q => hR.trans _ _ _ (by omega) (by omega) hi q hr, fun q => hR.trans _ _ _ (by omega) hi (by omega) q (hR.symm _ _ (by omega) hi hr)⟩
      · rw [g a (by omega), g b (by omega)]; exact h.eq a b (by omega) (by omega)
theorem Grw.new (h : Grw n R C i) (hR : Eqv n R) (hi : i < n) (hno : ∀ b, b < i → ¬ R b i) : Grw n R (C.set i i) (i + 1) := by
  have hl := h.len
  have g : ∀ a, a < i → (C.set i i).getD a 0 = C.getD a 0 := fun a ha => by rw [getD_setn (by omega), if_neg (by omega)]
  have gi : (C.set i i).getD i 0 = i := by rw [getD_setn (by omega), if_pos rfl]
  refine ⟨by rw [List.length_set]; exact hl, fun a ha => ?_, fun a ha => ?_, fun a b ha hb => ?_⟩
  · by_cases e : a = i
    · subst e; rw [gi]; exact Nat.le_refl _
    · rw [g a (by omega)]; exact h.le a (by omega)
  · by_cases e : a = i
    · subst e; rw [gi, gi]
    · have := h.le a (by omega)
      rw [g a (by omega), g _ (by omega)]; exact h.idem a (by omega)
  · by_cases e : a = i
    · subst e
      by_cases e2 : b = a
      · subst e2; exact ⟨fun _ => hR.refl _ hi, fun _ => rfl⟩
      · have := h.le b (by omega)
        rw [gi, g b (by omega)]
        exact ⟨fun q => by omega, fun q => absurd (hR.symm _ _ hi (by omega) q) (hno b (by omega))⟩
    · by_cases e2 : b = i
      · subst e2
        have := h.le a (by omega)
        rw [gi, g a (by omega)]
        exact ⟨fun q => by omega, fun q => absurd q (hno a (by omega))⟩
      · rw [g a (by omega), g b (by omega)]; exact h.eq a b (by omega) (by omega)
theorem Grw.none (h : Grw n R C i) (hR : Eqv n R) (hi : i < n) (hno : ∀ k, k < i → ¬ (C.getD k 0 = k ∧ R k i)) : ∀ b, b < i → ¬ R b i := fun b hb q => by
  have h1 := h.le b hb
  have h2 := h.idem b hb
  refine hno _ (Nat.lt_of_le_of_lt h1 hb) ⟨h2, ?_⟩
  exact hR.trans _ b _ (by omega) (by omega) hi ((h.eq _ b (Nat.lt_of_le_of_lt h1 hb) hb).1 h2) q
theorem Grw.same {C' : List Nat} (h : Grw n R C i) (hl : C'.length = n) (he : ∀ a, a < i → C'.getD a 0 = C.getD a 0) : Grw n R C' i :=
  ⟨hl, fun a ha => by rw [he a ha]; exact h.le a ha, fun a ha => by have := h.le a ha; rw [he a ha, he _ (by omega)]; exact h.idem a ha, fun a b ha hb => by rw [he a ha, he b hb]; exact h.eq a b ha hb⟩
end
def RLab (d : Dd) (a b : Nat) : Prop := d.lab a = d.lab b
theorem RLab_eqv (d : Dd) (n : Nat) : Eqv n (RLab d) := ⟨fun _ _ => rfl, fun _ _ _ _ h => h.symm, fun _ _ _ _ _ _ h k => h.trans k⟩
def RNx (d : Dd) (C : List Nat) (a b : Nat) : Prop := C.getD a 0 = C.getD b 0 ∧ ∀ c, c < 256 → C.getD (d.to a c) 0 = C.getD (d.to b c) 0
theorem RNx_eqv (d : Dd) (C : List Nat) (n : Nat) : Eqv n (RNx d C) :=
  ⟨fun _ _ => ⟨rfl, fun _ _ => rfl⟩, fun _ _ _ _ h => ⟨h.1.symm, fun c hc => (h.2 c hc).symm⟩, fun _ _ _ _ _ _ h k => ⟨h.1.trans k.1, fun c hc => (h.2 c hc).trans (k.2 c hc)⟩⟩
/-- Classes that part labels and part nothing that is alike. -/
structure Spm (d : Dd) (n : Nat) (C : List Nat) : Prop where
  len : C.length = n
  le : ∀ a, a < n → C.getD a 0 ≤ a
  idem : ∀ a, a < n → C.getD (C.getD a 0) 0 = C.getD a 0
  lab : ∀ a b, a < n → b < n → C.getD a 0 = C.getD b 0 → d.lab a = d.lab b
  beq : ∀ a b, a < n → b < n → Beq (d.beh a) (d.beh b) → C.getD a 0 = C.getD b 0
theorem Spm.first {d : Dd} {n : Nat} {C : List Nat} (h : Grw n (RLab d) C n) : Spm d n C :=
  ⟨h.len, h.le, h.idem, fun a b ha hb q => (h.eq a b ha hb).1 q, fun a b ha hb q => (h.eq a b ha hb).2 q.lab⟩
theorem Spm.next {d : Dd} {n : Nat} {C C' : List Nat} (hd : d.Ok) (hn : d.nx.length = n) (h : Spm d n C) (h' : Grw n (RNx d C) C' n) : Spm d n C' :=
  ⟨h'.len, h'.le, h'.idem, fun a b ha hb q => h.lab a b ha hb ((h'.eq a b ha hb).1 q).1, fun a b ha hb q => (h'.eq a b ha hb).2 ⟨h.beq a b ha hb q, fun c hc =>
    h.beq _ _ (by rw [← hn]; exact hd.to (by omega) hc) (by rw [← hn]; exact hd.to (by omega) hc) (q.step hc)⟩⟩
/-- The classes of equal behaviour, by their least states. -/
structure Fin12 (d : Dd) (n : Nat) (C : List Nat) : Prop where
  len : C.length = n
  le : ∀ a, a < n → C.getD a 0 ≤ a
  idem : ∀ a, a < n → C.getD (C.getD a 0) 0 = C.getD a 0
  eq : ∀ a b, a < n → b < n → (C.getD a 0 = C.getD b 0 ↔ Beq (d.beh a) (d.beh b))
theorem Spm.fin {d : Dd} {n : Nat} {C C' : List Nat} (hd : d.Ok) (hn : d.nx.length = n) (h : Spm d n C) (h' : Grw n (RNx d C) C' n) (he : ∀ a, a < n → C'.getD a 0 = C.getD a 0) : Fin12 d n C :=
  ⟨h.len, h.le, h.idem, fun a b ha hb => ⟨fun q => beq_of_cong (fun s t => s < n ∧ t < n ∧ C.getD s 0 = C.getD t 0) (fun s t ⟨h1, h2, h3⟩ => h.lab s t h1 h2 h3)
    (fun s t c ⟨h1, h2, h3⟩ hc => ⟨by rw [← hn]; exact hd.to (by omega) hc, by rw [← hn]; exact hd.to (by omega) hc, ((h'.eq s t h1 h2).1 (by rw [he s h1, he t h2]; exact h3)).2 c hc⟩) a b ⟨ha, hb, q⟩, h.beq a b ha hb⟩⟩
/-- How many stand for themselves. -/
def fxc (n : Nat) (C : List Nat) : Nat := (List.range n).countP fun i => C.getD i 0 == i
theorem countP_lt {α : Type} {p q : α → Bool} : ∀ {l : List α}, (∀ x ∈ l, p x = true → q x = true) → (∃ x ∈ l, q x = true ∧ p x = false) → l.countP p < l.countP q
  | [], _, ⟨x, hx, _⟩ => by cases hx
  | y :: l, h, ⟨x, hx, h1, h2⟩ => by
    rw [List.countP_cons, List.countP_cons]
    have hle : l.countP p ≤ l.countP q := List.countP_mono_left fun z hz => h z (by simp [hz])
    rcases List.mem_cons.1 hx with rfl | hx
    · rw [h1, h2]; simp; omega
    · have := countP_lt (p := p) (q := q) (l := l) (fun z hz => h z (by simp [hz])) ⟨x, hx, h1, h2⟩
      have hy := h y (by simp)
      cases hp : p y
      · cases q y <;> simp <;> omega
      · rw [hy hp]; simp; omega
theorem fxc_le (n : Nat) (C : List Nat) : fxc n C ≤ n := by
  have := List.countP_le_length (p := fun i => C.getD i 0 == i) (l := List.range n)
  rw [List.length_range] at this; exact this
theorem Spm.more {d : Dd} {n : Nat} {C C' : List Nat} (h : Spm d n C) (h' : Grw n (RNx d C) C' n) {i : Nat} (hi : i < n) (hne : C'.getD i 0 ≠ C.getD i 0) : fxc n C < fxc n C' := by
  refine countP_lt (fun a ha q => ?_) ⟨C'.getD i 0, List.mem_range.2 (Nat.lt_of_le_of_lt (h'.le i hi) hi), ?_, ?_⟩
  · have ha := List.mem_range.1 ha
    rw [beq_iff_eq] at q ⊢
    have h1 := h'.le a ha
    have h2 := h'.idem a ha
    have h3 := ((h'.eq _ a (Nat.lt_of_le_of_lt h1 ha) ha).1 h2).1
    have h4 := h.le (C'.getD a 0) (Nat.lt_of_le_of_lt h1 ha)
    rw [h3, q] at h4
    omega
  · rw [beq_iff_eq]; exact h'.idem i hi
  · have h1 := h'.le i hi
    have h3 := ((h'.eq _ i (Nat.lt_of_le_of_lt h1 hi) hi).1 (h'.idem i hi)).1
    rw [beq_eq_false_iff_ne]
    intro q
    rw [h3] at q
    exact hne q.symm
end Go.Proofs.YtnnkomdkggepjaaDoor
