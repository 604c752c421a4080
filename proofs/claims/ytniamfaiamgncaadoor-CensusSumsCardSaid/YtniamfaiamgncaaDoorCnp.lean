/- How many words there are, plain: counts, places, ranks. -/
import Derived.Test.YtniamfaiamgncaaDoorDfa
namespace Go.Proofs.YtniamfaiamgncaaDoor
/-- The sum over the first b. -/
def sumB (f : Nat → Nat) : Nat → Nat
  | 0 => 0
  | b + 1 => sumB f b + f b
section
variable {f g : Nat → Nat} {b c : Nat}
theorem sumB_congr : ∀ {b : Nat}, (∀ i, i < b → f i = g i) → sumB f b = sumB g b
  | 0, _ => rfl
  | b + 1, h => by rw [sumB, sumB, sumB_congr (fun i hi => h i (by omega)), h b (by omega)]
theorem sumB_mono (h : b ≤ c) : sumB f b ≤ sumB f c := by
  induction h with
  | refl => exact Nat.le_refl _
  | step _ ih => exact Nat.le_trans ih (Nat.le_add_right _ _)
theorem sumB_le (h : ∀ i, i < b → f i ≤ g i) : sumB f b ≤ sumB g b := by
  induction b with
  | zero => exact Nat.le_refl _
  | succ b ih => exact Nat.add_le_add (ih fun i hi => h i (by omega)) (h b (by omega))
theorem sumB_const (k : Nat) : ∀ b, sumB (fun _ => k) b = b * k
  | 0 => by rw [sumB, Nat.zero_mul]
  | b + 1 => by rw [sumB, sumB_const k b, Nat.succ_mul]
theorem sumB_add : ∀ b, sumB (fun i => f i + g i) b = sumB f b + sumB g b
  | 0 => rfl
  | b + 1 => by rw [sumB, sumB, sumB, sumB_add b]; omega
end
section
variable (dl : Nat → Nat → Nat) (lab : Nat → Int) (x : Int)
/-- How many words of n bytes lead from s to the label. -/
def cnt : Nat → Nat → Nat
  | 0, s => if lab s = x then 1 else 0
  | n + 1, s => sumB (fun c => cnt n (dl s c)) 256
/-- How many of them are shorter than n bytes. -/
def below (n : Nat) : Nat := sumB (fun l => cnt dl lab x l 0) n
/-- How many words of as many bytes stand ahead. -/
def rankS : Nat → List Nat → Nat
  | _, [] => 0
  | s, c :: l => sumB (fun b => cnt dl lab x l.length (dl s b)) c + rankS (dl s c) l
def rankW (l : List Nat) : Nat := below dl lab x l.length + rankS dl lab x 0 l
/-- The least byte at which a place lies, and the place from there on: of the bytes from b on. -/
def findB (f : Nat → Nat) : Nat → Nat → Nat → Nat × Nat
  | 0, b, k => (b, k)
  | n + 1, b, k => if k < f b then (b, k) else findB f n (b + 1) (k - f b)
/-- The word at a place. -/
def wordS : Nat → Nat → Nat → List Nat
  | 0, _, _ => []
  | n + 1, s, k => let z := findB (fun c => cnt dl lab x n (dl s c)) 256 0 k; z.1 :: wordS n (dl s z.1) z.2
/-- The least length at which a place lies, from n on; how many lengths are left. -/
def findN : Nat → Nat → Nat → Option (Nat × Nat)
  | 0, _, _ => none
  | m + 1, n, k => if k < cnt dl lab x n 0 then some (n, k) else findN m (n + 1) (k - cnt dl lab x n 0)
def nthW (k : Nat) : Option (List Nat) := (findN dl lab x 65 0 k).map fun z => wordS dl lab x z.1 0 z.2
end
section
variable {dl : Nat → Nat → Nat} {lab : Nat → Int} {x : Int}
theorem cnt_beh {dl' : Nat → Nat → Nat} {lab' : Nat → Int} : ∀ (n s s' : Nat), Beq (behA dl lab s) (behA dl' lab' s') → cnt dl lab x n s = cnt dl' lab' x n s'
  | 0, s, s', h => by rw [cnt, cnt, h.lab]
  | n + 1, s, s', h => by
    rw [cnt, cnt]
    exact sumB_congr fun c hc => cnt_beh n _ _ (h.step hc)
theorem cnt_le : ∀ (n s : Nat), cnt dl lab x n s ≤ 256 ^ n
  | 0, s => by
    rw [cnt]
    split <;> simp
  | n + 1, s => by
    rw [cnt]
    refine Nat.le_trans (sumB_le (g := fun _ => 256 ^ n) fun c _ => cnt_le n _) ?_
    rw [sumB_const, Nat.pow_succ, Nat.mul_comm]
    exact Nat.le_refl _
theorem findB_spec (f : Nat → Nat) : ∀ (n b k : Nat), k < sumB (fun i => f (b + i)) n → ∃ c, b ≤ c ∧ c < b + n ∧ (findB f n b k).1 = c ∧ (findB f n b k).2 < f c ∧ k = sumB (fun i => f (b + i)) (c - b) + (findB f n b k).2
  | 0, b, k, h => by simp [sumB] at h
  | n + 1, b, k, h => by
    rw [findB]
    by_cases q : k < f b
    · rw [if_pos q]
      exact ⟨b, Nat.le_refl _, by omega, rfl, q, by simp [sumB]⟩
    · rw [if_neg q]
      have hs : ∀ m, sumB (fun i => f (b + i)) (m + 1) = f b + sumB (fun i => f (b + 1 + i)) m := by
        intro m
        induction m with
        | zero => simp [sumB]
        | succ m ih => rw [sumB, ih, sumB, show b + (m + 1) = b + 1 + m by omega]; omega
      rw [hs n] at h
      obtain ⟨c, h1, h2, h3, h4, h5⟩ := findB_spec f n (b + 1) (k - f b) (by omega)
      refine ⟨c, by omega, by omega, h3, h4, ?_⟩
      rw [show c - b = (c - (b + 1)) + 1 by omega, hs]
      omega
theorem wordS_spec : ∀ (n s k : Nat), k < cnt dl lab x n s → (wordS dl lab x n s k).length = n ∧ (∀ c ∈ wordS dl lab x n s k, c < 256) ∧ lab (runA dl s (wordS dl lab x n s k)) = x ∧ rankS dl lab x s (wordS dl lab x n s k) = k
  | 0, s, k, h => by
    rw [cnt] at h
    split at h
    · refine ⟨rfl, (fun c hc => by cases hc), by assumption, ?_⟩
      simp [wordS, rankS]; omega
    · omega
  | n + 1, s, k, h => by
    rw [cnt] at h
    obtain ⟨c, h1, h2, h3, h4, h5⟩ := findB_spec (fun c => cnt dl lab x n (dl s c)) 256 0 k (by simpa using h)
    have ih := wordS_spec n (dl s c) _ h4
    have e : wordS dl lab x (n + 1) s k = c :: wordS dl lab x n (dl s c) (findB (fun c => cnt dl lab x n (dl s c)) 256 0 k).2 := by
      show (findB _ 256 0 k).1 :: wordS dl lab x n (dl s (findB _ 256 0 k).1) _ = _
      rw [h3]
    rw [e]
    refine ⟨by rw [List.length_cons, ih.1], fun y hy => ?_, ih.2.2.1, ?_⟩
    · rcases List.mem_cons.1 hy with rfl | hy
      · omega
      · exact ih.2.1 y hy
    · rw [rankS, ih.1, ih.2.2.2]
      simp only [Nat.zero_add, Nat.sub_zero] at h5
      omega
theorem findN_spec : ∀ (m n k j r : Nat), findN dl lab x m n k = some (j, r) → n ≤ j ∧ j < n + m ∧ r < cnt dl lab x j 0 ∧ k + below dl lab x n = below dl lab x j + r
  | 0, _, _, _, _, h => by cases h
  | m + 1, n, k, j, r, h => by
    rw [findN] at h
    split at h
    · cases h; exact ⟨Nat.le_refl _, by omega, by assumption, by omega⟩
    · rename_i q
      obtain ⟨h1, h2, h3, h4⟩ := findN_spec m (n + 1) _ j r h
      refine ⟨by omega, by omega, h3, ?_⟩
      have : below dl lab x (n + 1) = below dl lab x n + cnt dl lab x n 0 := rfl
      omega
theorem findN_some : ∀ (m n k : Nat), k + below dl lab x n < below dl lab x (n + m) → ∃ z, findN dl lab x m n k = some z
  | 0, n, k, h => by
    have h : k + below dl lab x n < below dl lab x n := h
    omega
  | m + 1, n, k, h => by
    rw [findN]
    split
    · exact ⟨_, rfl⟩
    · have : below dl lab x (n + 1) = below dl lab x n + cnt dl lab x n 0 := rfl
      exact findN_some m (n + 1) _ (by rw [show n + 1 + m = n + (m + 1) by omega]; omega)
/-- The word at a place has the label, that place, and no more than 64 bytes. -/
theorem nth_spec {k : Nat} {w : List Nat} (h : nthW dl lab x k = some w) : w.length ≤ 64 ∧ (∀ c ∈ w, c < 256) ∧ lab (runA dl 0 w) = x ∧ rankW dl lab x w = k := by
  unfold nthW at h
  obtain ⟨z, hz, e⟩ := Option.map_eq_some_iff.1 h
  obtain ⟨j, r⟩ := z
  obtain ⟨h1, h2, h3, h4⟩ := findN_spec 65 0 k j r hz
  obtain ⟨s1, s2, s3, s4⟩ := wordS_spec j 0 r h3
  have e : wordS dl lab x j 0 r = w := e
  rw [e] at s1 s2 s3 s4
  refine ⟨by omega, s2, s3, ?_⟩
  unfold rankW
  rw [s1, s4]
  have : below dl lab x 0 = 0 := rfl
  omega
/-- What a word, with those ahead of it, is at most. -/
theorem rankS_lt : ∀ (l : List Nat) (s : Nat), (∀ c ∈ l, c < 256) → lab (runA dl s l) = x → rankS dl lab x s l < cnt dl lab x l.length s
  | [], s, _, h => by
    have h : lab s = x := h
    rw [rankS, List.length_nil, cnt, if_pos h]; omega
  | c :: l, s, hl, h => by
    rw [rankS, List.length_cons, cnt]
    have h1 := rankS_lt l (dl s c) (fun y hy => hl y (List.mem_cons_of_mem _ hy)) h
    have h2 : sumB (fun b => cnt dl lab x l.length (dl s b)) (c + 1) ≤ sumB (fun b => cnt dl lab x l.length (dl s b)) 256 := sumB_mono (by have := hl c (List.mem_cons_self ..); omega)
    rw [sumB] at h2
    omega
theorem rankS_le : ∀ (l : List Nat) (s : Nat), (∀ c ∈ l, c < 256) → rankS dl lab x s l ≤ cnt dl lab x l.length s
  | [], s, _ => by rw [rankS]; omega
  | c :: l, s, hl => by
    rw [rankS, List.length_cons, cnt]
    have h1 := rankS_le l (dl s c) (fun y hy => hl y (List.mem_cons_of_mem _ hy))
    have h2 : sumB (fun b => cnt dl lab x l.length (dl s b)) (c + 1) ≤ sumB (fun b => cnt dl lab x l.length (dl s b)) 256 := sumB_mono (by have := hl c (List.mem_cons_self ..); omega)
    rw [sumB] at h2
    omega
/-- Does a word stand ahead of another one of as many bytes? -/
def lexB : List Nat → List Nat → Bool
  | a :: l, b :: m => if a = b then lexB l m else decide (a < b)
  | _, _ => false
theorem rankS_lex : ∀ (l m : List Nat) (s : Nat), l.length = m.length → (∀ c ∈ l, c < 256) → (∀ c ∈ m, c < 256) → lexB l m = true → rankS dl lab x s l ≤ rankS dl lab x s m ∧ (lab (runA dl s l) = x → rankS dl lab x s l < rankS dl lab x s m)
  | [], _, _, _, _, _, h => by cases h
  | _ :: _, [], _, hl, _, _, _ => by simp at hl
  | a :: l, b :: m, s, hl, h1, h2, h => by
    have hlm : l.length = m.length := by simpa using hl
    rw [lexB] at h
    by_cases q : a = b
    · subst q
      rw [if_pos rfl] at h
      obtain ⟨i1, i2⟩ := rankS_lex l m (dl s a) hlm (fun y hy => h1 y (List.mem_cons_of_mem _ hy)) (fun y hy => h2 y (List.mem_cons_of_mem _ hy)) h
      rw [rankS, rankS, hlm]
      exact ⟨by omega, fun e => by have := i2 e; omega⟩
    · rw [if_neg q] at h
      have hab := of_decide_eq_true h
      rw [rankS, rankS, hlm]
      have k1 := rankS_le (dl := dl) (lab := lab) (x := x) l (dl s a) (fun y hy => h1 y (List.mem_cons_of_mem _ hy))
      have k2 : sumB (fun b => cnt dl lab x m.length (dl s b)) (a + 1) ≤ sumB (fun b => cnt dl lab x m.length (dl s b)) b := sumB_mono (by omega)
      rw [sumB] at k2
      rw [hlm] at k1
      refine ⟨by omega, fun e => ?_⟩
      have k3 := rankS_lt (dl := dl) (lab := lab) (x := x) l (dl s a) (fun y hy => h1 y (List.mem_cons_of_mem _ hy)) e
      rw [hlm] at k3
      omega
theorem lexB_total : ∀ (l m : List Nat), l.length = m.length → lexB l m = true ∨ l = m ∨ lexB m l = true
  | [], [], _ => .inr (.inl rfl)
  | [], _ :: _, h => by simp at h
  | _ :: _, [], h => by simp at h
  | a :: l, b :: m, h => by
    have hlm : l.length = m.length := by simpa using h
    rw [lexB, lexB]
    by_cases q : a = b
    · subst q
      rw [if_pos rfl, if_pos rfl]
      rcases lexB_total l m hlm with i | i | i
      · exact .inl i
      · exact .inr (.inl (by rw [i]))
      · exact .inr (.inr i)
    · rw [if_neg q, if_neg (fun e => q e.symm), decide_eq_true_eq, decide_eq_true_eq]
      omega
/-- Does a word stand ahead of another one? -/
def aheadB (l m : List Nat) : Bool := if l.length = m.length then lexB l m else decide (l.length < m.length)
theorem below_mono {n m : Nat} (h : n ≤ m) : below dl lab x n ≤ below dl lab x m := sumB_mono h
theorem ahead_of_rank {l m : List Nat} (h1 : ∀ c ∈ l, c < 256) (h2 : ∀ c ∈ m, c < 256) (k2 : lab (runA dl 0 m) = x) (h : rankW dl lab x l < rankW dl lab x m) : aheadB l m = true := by
  unfold aheadB
  unfold rankW at h
  by_cases q : l.length = m.length
  · rw [if_pos q]
    rw [q] at h
    rcases lexB_total l m q with i | i | i
    · exact i
    · subst i; omega
    · have := (rankS_lex (dl := dl) (lab := lab) (x := x) m l 0 q.symm h2 h1 i).1
      omega
  · rw [if_neg q, decide_eq_true_eq]
    rcases Nat.lt_or_ge m.length l.length with p | p
    · have a1 := rankS_lt (dl := dl) m 0 h2 k2
      have a2 : below dl lab x (m.length + 1) ≤ below dl lab x l.length := below_mono (by omega)
      have a3 : below dl lab x (m.length + 1) = below dl lab x m.length + cnt dl lab x m.length 0 := rfl
      omega
    · omega
/-- The next word of as many bytes: none, if all are 255. -/
def succL : List Nat → Option (List Nat)
  | [] => none
  | c :: l => match succL l with
    | some m => some (c :: m)
    | none => if c < 255 then some ((c + 1) :: List.replicate l.length 0) else none
theorem succL_len : ∀ {l m : List Nat}, succL l = some m → m.length = l.length
  | [], _, h => by cases h
  | c :: l, m, h => by
    rw [succL] at h
    cases q : succL l with
    | some m' => rw [q] at h; cases h; rw [List.length_cons, List.length_cons, succL_len q]
    | none =>
      rw [q] at h
      simp only at h
      split at h
      · cases h; simp
      · cases h
theorem rankS_zero : ∀ (n s : Nat), rankS dl lab x s (List.replicate n 0) = 0
  | 0, _ => rfl
  | n + 1, s => by rw [List.replicate_succ, rankS, sumB, rankS_zero n]
theorem rankS_none : ∀ (l : List Nat) (s : Nat), (∀ c ∈ l, c < 256) → succL l = none → lab (runA dl s l) = x → rankS dl lab x s l + 1 = cnt dl lab x l.length s
  | [], s, _, _, h => by
    have h : lab s = x := h
    rw [rankS, List.length_nil, cnt, if_pos h]
  | c :: l, s, hl, h, k => by
    rw [succL] at h
    cases q : succL l with
    | some m' => rw [q] at h; cases h
    | none =>
      rw [q] at h
      simp only at h
      split at h
      · cases h
      · have hc := hl c (List.mem_cons_self ..)
        obtain rfl : c = 255 := by omega
        have ih := rankS_none l (dl s 255) (fun y hy => hl y (List.mem_cons_of_mem _ hy)) q k
        rw [rankS, List.length_cons, cnt]
        have : sumB (fun b => cnt dl lab x l.length (dl s b)) 256 = sumB (fun b => cnt dl lab x l.length (dl s b)) 255 + cnt dl lab x l.length (dl s 255) := rfl
        omega
theorem rankS_succ : ∀ (l m : List Nat) (s : Nat), (∀ c ∈ l, c < 256) → succL l = some m → lab (runA dl s l) = x → rankS dl lab x s m = rankS dl lab x s l + 1
  | [], _, _, _, h, _ => by cases h
  | c :: l, m, s, hl, h, k => by
    rw [succL] at h
    cases q : succL l with
    | some m' =>
      rw [q] at h; cases h
      have ih := rankS_succ l m' (dl s c) (fun y hy => hl y (List.mem_cons_of_mem _ hy)) q k
      rw [rankS, rankS, succL_len q]
      omega
    | none =>
      rw [q] at h
      simp only at h
      split at h
      · cases h
        have ih := rankS_none l (dl s c) (fun y hy => hl y (List.mem_cons_of_mem _ hy)) q k
        rw [rankS, rankS, rankS_zero, List.length_replicate, sumB]
        omega
      · cases h
/-- No word with the label lies between one and the next place's one: the next one of as many bytes is that, or has not the label. -/
theorem between_ok {l m v : List Nat} (h1 : ∀ c ∈ l, c < 256) (h2 : ∀ c ∈ m, c < 256) (h3 : ∀ c ∈ v, c < 256) (hs : succL l = some m) (hl : lab (runA dl 0 l) = x) (hv : lab (runA dl 0 v) = x) (hlen : v.length = l.length)
    (hr : rankW dl lab x v = rankW dl lab x l + 1) (hm : lab (runA dl 0 m) = x) : m = v := by
  have e1 := rankS_succ l m 0 h1 hs hl
  have e2 := succL_len hs
  unfold rankW at hr
  rw [hlen] at hr
  rcases lexB_total m v (by omega) with i | i | i
  · have := (rankS_lex (dl := dl) (lab := lab) (x := x) m v 0 (by omega) h2 h3 i).2 hm
    omega
  · exact i
  · have := (rankS_lex (dl := dl) (lab := lab) (x := x) v m 0 (by omega) h3 h2 i).2 hv
    omega
end
end Go.Proofs.YtniamfaiamgncaaDoor
