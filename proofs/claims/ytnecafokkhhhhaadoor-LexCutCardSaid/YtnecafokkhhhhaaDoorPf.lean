/- What a class, a quoted text and a lexeme hang on: the bytes that they take. -/
import Derived.Test.YtnecafokkhhhhaaDoorLk
import Derived.Test.YtnecafokkhhhhaaDoorNml
namespace Go.Proofs.YtnecafokkhhhhaaDoor
open Go Go.RowKit
/-- Two texts agree on their first m bytes. -/
def Sm (m : Nat) (l l' : List UInt8) : Prop := ∀ j, j < m → l'[j]? = l[j]?
theorem Sm.mono {m n : Nat} {l l' : List UInt8} (h : Sm m l l') (hn : n ≤ m) : Sm n l l' := fun j hj => h j (by omega)
theorem Sm.drop {m : Nat} {l l' : List UInt8} (h : Sm m l l') (d : Nat) : Sm (m - d) (l.drop d) (l'.drop d) := fun j hj => by
  rw [List.getElem?_drop, List.getElem?_drop]; exact h (d + j) (by omega)
theorem Sm.head {m : Nat} {c : UInt8} {t l' : List UInt8} (h : Sm m (c :: t) l') (hm : 0 < m) : ∃ t', l' = c :: t' ∧ Sm (m - 1) t t' := by
  have h0 := h 0 hm
  cases l' with
  | nil => simp at h0
  | cons d t' =>
    simp at h0
    subst h0
    exact ⟨t', rfl, fun j hj => by have := h (j + 1) (by omega); simpa using this⟩
theorem pfx_iff (l p : List UInt8) : Lib.hasPrefix l p = true ↔ ∀ j, j < p.length → l[j]? = p[j]? := by
  constructor
  · intro h j hj
    exact pfx_get h j hj
  · intro h
    refine List.isPrefixOf_iff_prefix.2 (List.prefix_iff_eq_take.2 ?_)
    apply List.ext_getElem?
    intro j
    by_cases hj : j < p.length
    · rw [List.getElem?_take_of_lt hj, h j hj]
    · rw [List.getElem?_eq_none (by omega), List.getElem?_eq_none (by rw [List.length_take]; omega)]
theorem Sm.pfx {m : Nat} {l l' p : List UInt8} (h : Sm m l l') (hp : p.length ≤ m) : Lib.hasPrefix l' p = Lib.hasPrefix l p := by
  rw [Bool.eq_iff_iff, pfx_iff, pfx_iff]
  constructor
  · intro g j hj; rw [← h j (by omega)]; exact g j hj
  · intro g j hj; rw [h j (by omega)]; exact g j hj
theorem hexOf_pf {t t' : List UInt8} {b n : Nat} (h : hexOf t = (b, n + 1)) (hs : Sm (n + 1) t t') : hexOf t' = (b, n + 1) := by
  unfold hexOf at h
  split at h
  · rename_i a x y r
    split at h
    · rename_i m k h1 h2
      simp only [Prod.mk.injEq] at h
      obtain ⟨t1, rfl, s1⟩ := hs.head (by omega)
      obtain ⟨t2, rfl, s2⟩ := s1.head (by omega)
      obtain ⟨t3, rfl, s3⟩ := s2.head (by omega)
      unfold hexOf
      simp only [h1, h2]
      simp only [Prod.mk.injEq]
      omega
    · simp at h
  · simp at h
theorem unq_pf {t t' : List UInt8} {b n : Nat} (h : unq t = (b, n + 1)) (hs : Sm (n + 1) t t') : unq t' = (b, n + 1) := by
  cases t with
  | nil => simp [unq] at h
  | cons c t =>
    obtain ⟨t1, rfl, s1⟩ := hs.head (by omega)
    by_cases h120 : c = 120
    · subst h120
      have e : ∀ l, unq (120 :: l) = hexOf (120 :: l) := fun l => rfl
      rw [e] at h ⊢
      exact hexOf_pf h hs
    · unfold unq at h ⊢
      simp only [h120, if_false] at h ⊢
      exact h
theorem chr_cons (M : List UInt8) (c : UInt8) (t : List UInt8) : chr unq M (c :: t) = if c = 92 then (if (unq t).2 = 0 then none else some ((unq t).1, (unq t).2 + 1)) else if c ∈ M then none else some (c.toNat, 1) := rfl
theorem chr_pf {M l l' : List UInt8} {b n : Nat} (h : chr unq M l = some (b, n)) (hs : Sm n l l') : chr unq M l' = some (b, n) := by
  cases l with
  | nil => cases h
  | cons c t =>
    rw [chr_cons] at h
    by_cases hc : c = 92
    · rw [if_pos hc] at h
      by_cases h0 : (unq t).2 = 0
      · rw [if_pos h0] at h; cases h
      · rw [if_neg h0] at h
        simp only [Option.some.injEq, Prod.mk.injEq] at h
        obtain ⟨h1, h2⟩ := h
        obtain ⟨t1, rfl, s1⟩ := hs.head (by omega)
        obtain ⟨m, hm⟩ : ∃ m, (unq t).2 = m + 1 := ⟨(unq t).2 - 1, by omega⟩
        have hu : unq t = ((unq t).1, m + 1) := by rw [← hm]
        have hu' := unq_pf hu (s1.mono (by omega))
        rw [chr_cons, if_pos hc, hu', if_neg (by simp)]
        simp only [Option.some.injEq, Prod.mk.injEq]
        omega
    · rw [if_neg hc] at h
      by_cases hm : c ∈ M
      · rw [if_pos hm] at h; cases h
      · rw [if_neg hm] at h
        simp only [Option.some.injEq, Prod.mk.injEq] at h
        obtain ⟨t1, rfl, s1⟩ := hs.head (by omega)
        rw [chr_cons, if_neg hc, if_neg hm]
        simp only [Option.some.injEq, Prod.mk.injEq]
        exact h
theorem nmq_inr {l : List UInt8} {S : BitVec 256} {n : Nat} (h : nmq l = .inr (S, n)) : ∃ j, n = j + 4 ∧ Lib.hasPrefix ((l.drop 2).drop j) [58, 93] = true ∧ nmd ((l.drop 2).take j) = some S := by
  unfold nmq at h
  generalize l.drop 2 = m at h ⊢
  split at h
  · cases h
  · rename_i U hU
    split at h
    · rename_i hc
      simp only [Sum.inr.injEq, Prod.mk.injEq] at h
      obtain ⟨rfl, rfl⟩ := h
      rcases Lib.index_spec m [58, 93] with ⟨h1, _⟩ | ⟨i, h1, h2, h3, _⟩
      · unfold Lib.cut at hc
        rw [h1, if_neg (by omega)] at hc
        cases hc
      · have hcut : (Lib.cut m [58, 93]).1 = m.take i := by
          unfold Lib.cut
          rw [h1, if_pos (by omega)]
          rfl
        rw [hcut] at hU ⊢
        exact ⟨i, by rw [List.length_take, Nat.min_eq_left h2], h3, hU⟩
    · cases h
theorem nmq_pf {l l' : List UInt8} {S : BitVec 256} {n : Nat} (h : nmq l = .inr (S, n)) (hs : Sm n l l') : nmq l' = .inr (S, n) := by
  obtain ⟨j, rfl, h1, h2⟩ := nmq_inr h
  have s2 := hs.drop 2
  refine nmq_hit l' j S ?_ ?_
  · rw [(s2.drop j).pfx (by simp)]; exact h1
  · rw [← h2]
    congr 1
    apply List.ext_getElem?
    intro i
    by_cases hi : i < j
    · rw [List.getElem?_take_of_lt hi, List.getElem?_take_of_lt hi]; exact s2 i (by omega)
    · rw [List.getElem?_eq_none (by rw [List.length_take]; omega), List.getElem?_eq_none (by rw [List.length_take]; omega)]
/-- A class's item hangs on its bytes, and on whether '-' stands behind it. -/
theorem spq_pf {l l' : List UInt8} {S : BitVec 256} {n : Nat} (h : spq unq l = .inr (S, n)) (hs : Sm (n + 1) l l') (hd : Sm (n + 2) l l' ∨ l[n]? ≠ some 45) : spq unq l' = .inr (S, n) := by
  unfold spq at h ⊢
  cases hc : chr unq marks.data.toList l with
  | none => rw [hc] at h; cases h
  | some bk =>
    obtain ⟨b, k⟩ := bk
    rw [hc] at h
    simp only at h
    have hk := chr_lt unq_len unq_byte hc
    split at h
    · rename_i hq
      simp only [Sum.inr.injEq, Prod.mk.injEq] at h
      obtain ⟨rfl, rfl⟩ := h
      rw [chr_pf hc (hs.mono (by omega))]
      simp only
      rw [if_pos]
      rcases hd with hd | hd
      · have sd := hd.drop k
        rw [sd.pfx (p := [45, 45]) (by simp), sd.pfx (p := [45]) (by simp)]
        exact hq
      · right
        have sd := hs.drop k
        rw [sd.pfx (p := [45]) (by simp)]
        cases hp : Lib.hasPrefix (l.drop k) [45] with
        | false => rfl
        | true =>
          exfalso
          apply hd
          have := pfx_get hp 0 (by decide)
          rw [List.getElem?_drop] at this
          simpa using this
    · rename_i hq
      cases hc2 : chr unq marks.data.toList (l.drop (k + 1)) with
      | none => rw [hc2] at h; cases h
      | some cm =>
        obtain ⟨c, m⟩ := cm
        rw [hc2] at h
        simp only at h
        split at h
        · cases h
        · rename_i hcb
          simp only [Sum.inr.injEq, Prod.mk.injEq] at h
          obtain ⟨rfl, rfl⟩ := h
          have hm := chr_lt unq_len unq_byte hc2
          rw [chr_pf hc (hs.mono (by omega))]
          simp only
          have sd := hs.drop k
          rw [if_neg (by rw [sd.pfx (p := [45, 45]) (by simp; omega), sd.pfx (p := [45]) (by simp; omega)]; exact hq), chr_pf hc2 ((hs.drop (k + 1)).mono (by omega))]
          simp only
          rw [if_neg hcb]
theorem itm_pf {l l' : List UInt8} {S : BitVec 256} {n : Nat} (h : itm unq l = .inr (S, n)) (hs : Sm (n + 1) l l') (hd : Sm (n + 2) l l' ∨ l[n]? ≠ some 45) : itm unq l' = .inr (S, n) := by
  have hn := (itm_len l).2 S n h
  have hp : Lib.hasPrefix l' [91, 58] = Lib.hasPrefix l [91, 58] := hs.pfx (by simp; omega)
  unfold itm at h ⊢
  rw [hp]
  split at h
  · rename_i hq
    rw [if_pos hq]
    exact nmq_pf h (hs.mono (by omega))
  · rename_i hq
    rw [if_neg hq]
    exact spq_pf h hs hd
theorem stp_pf {l l' : List UInt8} (hs : Sm 1 l l') (hd : Sm 2 l l' ∨ l[0]? = some 93) : stp l' = stp l := by
  unfold stp
  rcases hd with hd | hd
  · rw [hd.pfx (p := [45, 45]) (by simp), hd.pfx (p := [38, 38]) (by simp), hd.pfx (p := [93]) (by simp)]
  · have h1 : Lib.hasPrefix l [93] = true := by
      rw [pfx_iff]
      intro j hj
      have : j = 0 := by simpa using hj
      subst this
      exact hd
    have h2 : Lib.hasPrefix l' [93] = true := by rw [hs.pfx (p := [93]) (by simp)]; exact h1
    rw [h1, h2]
    simp
theorem ims_pf : ∀ (g : Nat) (l : List UInt8) (S : BitVec 256) (k : Nat) (T : BitVec 256) (m : Nat), ims unq g l S k = .inr (T, m) →
    ∀ (g' : Nat) (l' : List UInt8), l'.length < g' → Sm (m - k + 1) l l' → (Sm (m - k + 2) l l' ∨ l[m - k]? = some 93) → ims unq g' l' S k = .inr (T, m)
  | 0, _, _, _, _, _, h => by simp [ims] at h
  | g + 1, l, S, k, T, m, h => by
    intro g' l' hl hs hd
    obtain ⟨g', rfl⟩ : ∃ x, g' = x + 1 := ⟨g' - 1, by omega⟩
    rw [ims] at h ⊢
    by_cases hst : stp l = true
    · rw [if_pos hst] at h
      simp only [Sum.inr.injEq, Prod.mk.injEq] at h
      obtain ⟨rfl, rfl⟩ := h
      rw [Nat.sub_self] at hs hd
      rw [if_pos (by rw [stp_pf hs hd]; exact hst)]
    · rw [if_neg hst] at h
      cases hi : itm unq l with
      | inl d => rw [hi] at h; cases h
      | inr x =>
        obtain ⟨U, d⟩ := x
        rw [hi] at h
        simp only at h
        have hle := (ims_len g (l.drop d) (S ||| U) (k + d)).2 T m h
        have hdp := (itm_len l).2 U d hi
        have hst' : ¬ stp l' = true := by rw [stp_pf (hs.mono (by omega)) (.inl (hs.mono (by omega)))]; exact hst
        rw [if_neg hst']
        have hd2 : Sm (d + 2) l l' ∨ l[d]? ≠ some 45 := by
          by_cases e : m = k + d
          · rcases hd with hd | hd
            · exact .inl (hd.mono (by omega))
            · right
              rw [show m - k = d by omega] at hd
              rw [hd]
              decide
          · exact .inl (hs.mono (by omega))
        rw [itm_pf hi (hs.mono (by omega)) hd2]
        simp only
        have hll : 0 < l'.length := by
          cases l' with
          | nil =>
            have h0 := hs 0 (by omega)
            have : l ≠ [] := by intro e; subst e; simp at hdp; omega
            cases l with
            | nil => exact absurd rfl this
            | cons c t => simp at h0
          | cons c t => simp
        refine ims_pf g (l.drop d) (S ||| U) (k + d) T m h g' (l'.drop d) (by rw [List.length_drop]; omega) ((hs.drop d).mono (by omega)) ?_
        rcases hd with hd | hd
        · exact .inl ((hd.drop d).mono (by omega))
        · right
          rw [List.getElem?_drop, show d + (m - (k + d)) = m - k by omega]
          exact hd
theorem tls_first {n o k m : Nat} {S T : BitVec 256} {l : List UInt8} (h : tls unq n o S l k = .inr (T, m)) : l[0]? = some 93 ∨ k + 2 < m := by
  cases n with
  | zero => simp [tls] at h
  | succ n =>
    rw [tls] at h
    split at h
    · rename_i hp
      exact .inl (pfx_get hp 0 (by decide))
    · right
      split at h
      · split at h
        · cases h
        · rename_i U d hc
          have h1 := (((cls_len n).1 o (l.drop 2) (k + 2)).2 U d hc).1
          have h2 := (((cls_len n).2 o _ _ d).2 T m h).1
          omega
      · split at h
        · split at h
          · cases h
          · rename_i U d hc
            have h1 := (((cls_len n).1 o (l.drop 2) (k + 2)).2 U d hc).1
            have h2 := (((cls_len n).2 o _ _ d).2 T m h).1
            omega
        · cases h
theorem ims_then {l l' : List UInt8} {S U T R : BitVec 256} {m d k q n o : Nat} (hi : ims unq (l.length + 1) (l.drop d) U 0 = .inr (S, m)) (ht : tls unq n o T (l.drop (d + m)) (k + d + m) = .inr (R, q)) (hs : Sm (q - k) l l') : ims unq (l'.length + 1) (l'.drop d) U 0 = .inr (S, m) := by
  have hq := (((cls_len n).2 o T (l.drop (d + m)) (k + d + m)).2 R q ht).1
  refine ims_pf _ _ _ _ _ _ hi _ _ (by rw [List.length_drop]; omega) ((hs.drop d).mono (by omega)) ?_
  rcases tls_first ht with h | h
  · right
    rw [List.getElem?_drop] at h ⊢
    rw [← h]
    congr 1
  · exact .inl ((hs.drop d).mono (by omega))
theorem Sm.pos {m : Nat} {l l' : List UInt8} (h : Sm m l l') (j : Nat) (hj : j < m) (c : UInt8) (hc : l[j]? = some c) : j < l'.length := by
  rw [← h j hj] at hc
  exact (List.getElem?_eq_some_iff.1 hc).1
theorem one_get {l : List UInt8} {c : UInt8} (h : l[0]? = some c) : ∀ j, j < [c].length → l[j]? = [c][j]? := by
  intro j hj
  have e : j = 0 := by simpa using hj
  subst e
  exact h
theorem cls_pf : ∀ n, (∀ o l k S m, cls unq n o l k = .inr (S, m) → ∀ n' l', l'.length < n' → Sm (m - k) l l' → cls unq n' o l' k = .inr (S, m)) ∧
    (∀ o T l k S m, tls unq n o T l k = .inr (S, m) → ∀ n' l', l'.length < n' → Sm (m - k) l l' → tls unq n' o T l' k = .inr (S, m))
  | 0 => ⟨fun o l k S m h => by simp [cls] at h, fun o T l k S m h => by simp [tls] at h⟩
  | n + 1 => by
    obtain ⟨ih1, ih2⟩ := cls_pf n
    have hlen := cls_len n
    refine ⟨fun o l k S m h n' l' hn hs => ?_, fun o T l k S m h n' l' hn hs => ?_⟩
    · obtain ⟨n', rfl⟩ : ∃ x, n' = x + 1 := ⟨n' - 1, by omega⟩
      rw [cls] at h ⊢
      split at h
      · cases h
      · rename_i h0
        split at h
        · cases h
        · rename_i h40
          have h91 : Lib.hasPrefix l [91] = true := by simpa using h0
          have hl0 : l[0]? = some 91 := pfx_get h91 0 (by decide)
          have rest : ∀ (d j : Nat) (S0 T0 : BitVec 256), 1 ≤ d → ims unq (l.length + 1) (l.drop d) 0#256 0 = .inr (S0, j) → tls unq n (o + 1) T0 (l.drop (d + j)) (k + d + j) = .inr (S, m) →
              ims unq (l'.length + 1) (l'.drop d) 0#256 0 = .inr (S0, j) ∧ tls unq n' (o + 1) T0 (l'.drop (d + j)) (k + d + j) = .inr (S, m) ∧ Sm (d + 1) l l' := by
            intro d j S0 T0 hd hi ht
            have hq := ((hlen.2 (o + 1) T0 (l.drop (d + j)) (k + d + j)).2 S m ht).1
            have hp := hs.pos 0 (by omega) 91 hl0
            exact ⟨ims_then hi ht hs, ih2 _ _ _ _ _ _ ht _ _ (by rw [List.length_drop]; omega) ((hs.drop (d + j)).mono (by omega)), hs.mono (by omega)⟩
          split at h
          · rename_i h94
            split at h
            · cases h
            · rename_i S0 j hi
              obtain ⟨a, b, c⟩ := rest 2 j S0 _ (by omega) hi h
              rw [if_neg (by rw [c.pfx (p := [91]) (by simp)]; exact h0), if_neg h40, if_pos (by rw [(c.drop 1).pfx (p := [94]) (by simp)]; exact h94), a]
              exact b
          · rename_i h94
            split at h
            · cases h
            · rename_i S0 j hi
              obtain ⟨a, b, c⟩ := rest 1 j S0 _ (by omega) hi h
              rw [if_neg (by rw [c.pfx (p := [91]) (by simp)]; exact h0), if_neg h40, if_neg (by rw [(c.drop 1).pfx (p := [94]) (by simp)]; exact h94), a]
              exact b
    · obtain ⟨n', rfl⟩ : ∃ x, n' = x + 1 := ⟨n' - 1, by omega⟩
      have hst := tls_first h
      rw [tls] at h ⊢
      by_cases h0 : Lib.hasPrefix l [93] = true
      · rw [if_pos h0] at h
        simp only [Sum.inr.injEq, Prod.mk.injEq] at h
        obtain ⟨rfl, rfl⟩ := h
        rw [if_pos (by rw [hs.pfx (p := [93]) (by simp)]; exact h0)]
      · rw [if_neg h0] at h
        have hm : k + 2 < m := by
          rcases hst with e | e
          · exact absurd ((pfx_iff l [93]).2 (one_get e)) h0
          · exact e
        have rest : ∀ (p : List UInt8) (g : BitVec 256 → BitVec 256) (U : BitVec 256) (d : Nat), p.length = 2 → Lib.hasPrefix l p = true → cls unq n o (l.drop 2) (k + 2) = .inr (U, d) → tls unq n o (g U) (l.drop (d - k)) d = .inr (S, m) →
            cls unq n' o (l'.drop 2) (k + 2) = .inr (U, d) ∧ tls unq n' o (g U) (l'.drop (d - k)) d = .inr (S, m) := by
          intro p g U d hp hpp hc ht
          have h1 := ((hlen.1 o (l.drop 2) (k + 2)).2 U d hc).1
          have h2 := ((hlen.2 o (g U) (l.drop (d - k)) d).2 S m ht).1
          have hl0 := pfx_get hpp 0 (by omega)
          have hl : 0 < l'.length := by
            cases p with
            | nil => simp at hp
            | cons c p' => exact hs.pos 0 (by omega) c hl0
          exact ⟨ih1 _ _ _ _ _ hc _ _ (by rw [List.length_drop]; omega) ((hs.drop 2).mono (by omega)), ih2 _ _ _ _ _ _ ht _ _ (by rw [List.length_drop]; omega) ((hs.drop (d - k)).mono (by omega))⟩
        rw [if_neg (by rw [hs.pfx (p := [93]) (by simp; omega)]; exact h0)]
        rw [hs.pfx (p := [45, 45]) (by simp; omega), hs.pfx (p := [38, 38]) (by simp; omega)]
        split at h
        · rename_i h1
          rw [if_pos h1]
          split at h
          · cases h
          · rename_i U d hc
            obtain ⟨a, b⟩ := rest [45, 45] (fun U => T &&& ~~~U) U d rfl h1 hc h
            rw [a]
            exact b
        · rename_i h1
          rw [if_neg h1]
          split at h
          · rename_i h2
            rw [if_pos h2]
            split at h
            · cases h
            · rename_i U d hc
              obtain ⟨a, b⟩ := rest [38, 38] (fun U => T &&& U) U d rfl h2 hc h
              rw [a]
              exact b
          · cases h
theorem quo_pf : ∀ (g : Nat) (l A : List UInt8) (k : Nat) (B : List UInt8) (m : Nat), quo unq g l A k = .inr (B, m) → ∀ (g' : Nat) (l' : List UInt8), l'.length < g' → Sm (m - k) l l' → quo unq g' l' A k = .inr (B, m)
  | 0, _, _, _, _, _, h => by simp [quo] at h
  | g + 1, l, A, k, B, m, h => by
    intro g' l' hl hs
    obtain ⟨g', rfl⟩ : ∃ x, g' = x + 1 := ⟨g' - 1, by omega⟩
    have hkm := (quo_last _ _ _ _ _ _ h).1
    unfold quo at h ⊢
    rw [hs.pfx (p := [34]) (by simp; omega)]
    split at h
    · rename_i h0
      rw [if_pos h0]
      exact h
    · rename_i h0
      rw [if_neg h0]
      split at h
      · cases h
      · rename_i b d hc
        have hd := chr_lt unq_len unq_byte hc
        have hm := (quo_last _ _ _ _ _ _ h).1
        have hl0 : 0 < l'.length := by
          cases l with
          | nil => simp at hd; omega
          | cons c t => exact hs.pos 0 (by omega) c rfl
        rw [chr_pf hc (hs.mono (by omega))]
        exact quo_pf g _ _ _ _ _ h _ _ (by rw [List.length_drop]; omega) ((hs.drop d).mono (by omega))
theorem quq_pf {l l' : List UInt8} {k : Nat} {A : List UInt8} {m : Nat} (h : quq unq l k = .inr (A, m)) (hs : Sm (m - k) l l') : quq unq l' k = .inr (A, m) := by
  have hkm := (quq_last h).1
  unfold quq at h ⊢
  rw [hs.pfx (p := [34]) (by simp; omega)]
  split at h
  · rename_i h0
    rw [if_pos h0]
    exact quo_pf _ _ _ _ _ _ h _ _ (by rw [List.length_drop]; omega) ((hs.drop 1).mono (by omega))
  · cases h
end Go.Proofs.YtnecafokkhhhhaaDoor
