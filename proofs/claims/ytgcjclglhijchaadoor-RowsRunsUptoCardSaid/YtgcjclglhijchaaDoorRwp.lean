/- Rows, plain: which states are alive; all automata's states as one table; byte classes. -/
import Derived.Test.YtgcjclglhijchaaDoorDfa
namespace Go.Proofs.YtgcjclglhijchaaDoor
namespace Dd
def lvK (d : Dd) : Nat → Nat → Bool
  | 0, s => decide (0 ≤ d.lab s)
  | k + 1, s => lvK d k s || (List.range 256).any fun c => lvK d k (d.to s c)
def lv (d : Dd) (s : Nat) : Bool := d.lvK d.nx.length s
theorem lvK_mono {d : Dd} {k s : Nat} (h : d.lvK k s = true) : d.lvK (k + 1) s = true := by
  unfold lvK; rw [h]; rfl
theorem lvK_le {d : Dd} {s : Nat} {j k : Nat} (hjk : j ≤ k) (h : d.lvK j s = true) : d.lvK k s = true := by
  induction hjk with
  | refl => exact h
  | step _ ih => exact lvK_mono ih
theorem lvK_succ {d : Dd} {k s : Nat} : d.lvK (k + 1) s = true ↔ d.lvK k s = true ∨ ∃ c, c < 256 ∧ d.lvK k (d.to s c) = true := by
  show (d.lvK k s || (List.range 256).any fun c => d.lvK k (d.to s c)) = true ↔ _
  rw [Bool.or_eq_true, List.any_eq_true]
  simp only [List.mem_range]
theorem lvK_ind {d : Dd} (hd : d.Ok) (P : Nat → Prop) (h0 : ∀ s, s < d.nx.length → 0 ≤ d.lab s → P s) (h1 : ∀ s c, s < d.nx.length → c < 256 → P (d.to s c) → P s) : ∀ k s, s < d.nx.length → d.lvK k s = true → P s
  | 0, s, hs, h => h0 s hs (by simpa [lvK] using h)
  | k + 1, s, hs, h => by
    rcases lvK_succ.1 h with h | ⟨c, hc, h⟩
    · exact lvK_ind hd P h0 h1 k s hs h
    · exact h1 s c hs hc (lvK_ind hd P h0 h1 k _ (hd.to hs hc) h)
theorem count_lt {P Q : Nat → Bool} : ∀ (l : List Nat), (∀ x ∈ l, P x = true → Q x = true) → (∃ x ∈ l, Q x = true ∧ P x = false) → (l.filter P).length < (l.filter Q).length
  | [], _, ⟨x, hx, _⟩ => by cases hx
  | y :: l, hl, ⟨x, hx, hq, hp⟩ => by
    have hle : (l.filter P).length ≤ (l.filter Q).length := count_le l (fun z hz => hl z (List.mem_cons_of_mem _ hz))
    rw [List.filter_cons, List.filter_cons]
    rcases List.mem_cons.1 hx with rfl | hx
    · rw [if_pos hq, hp]; simp; omega
    · have ih := count_lt l (fun z hz => hl z (List.mem_cons_of_mem _ hz)) ⟨x, hx, hq, hp⟩
      by_cases hy : P y = true
      · rw [if_pos hy, if_pos (hl y List.mem_cons_self hy)]; simp; omega
      · rw [if_neg hy]
        split
        · simp; omega
        · exact ih
where
  count_le : ∀ (l : List Nat), (∀ x ∈ l, P x = true → Q x = true) → (l.filter P).length ≤ (l.filter Q).length
  | [], _ => Nat.le_refl _
  | y :: l, hl => by
    have ih := count_le l (fun z hz => hl z (List.mem_cons_of_mem _ hz))
    rw [List.filter_cons, List.filter_cons]
    by_cases hy : P y = true
    · rw [if_pos hy, if_pos (hl y List.mem_cons_self hy)]; simp; omega
    · rw [if_neg hy]
      split
      · simp; omega
      · exact ih
def stb (d : Dd) (k : Nat) : Prop := ∀ s, s < d.nx.length → d.lvK (k + 1) s = true → d.lvK k s = true
theorem stb_up {d : Dd} (hd : d.Ok) {k : Nat} (h : d.stb k) : d.stb (k + 1) := by
  intro s hs hq
  rcases lvK_succ.1 hq with hq | ⟨c, hc, hq⟩
  · exact hq
  · exact lvK_succ.2 (.inr ⟨c, hc, h _ (hd.to hs hc) hq⟩)
theorem stb_le {d : Dd} (hd : d.Ok) {j k : Nat} (hjk : j ≤ k) (h : d.stb j) : d.stb k := by
  induction hjk with
  | refl => exact h
  | step _ ih => exact stb_up hd ih
theorem stb_or (d : Dd) : ∀ k, (∃ j, j < k ∧ d.stb j) ∨ k ≤ ((List.range d.nx.length).filter (d.lvK k)).length
  | 0 => .inr (Nat.zero_le _)
  | k + 1 => by
    rcases stb_or d k with ⟨j, h1, h2⟩ | h
    · exact .inl ⟨j, by omega, h2⟩
    · by_cases hs : d.stb k
      · exact .inl ⟨k, by omega, hs⟩
      · right
        unfold stb at hs
        simp only [Classical.not_forall] at hs
        obtain ⟨s, hs, h1, h2⟩ := hs
        have := count_lt (P := d.lvK k) (Q := d.lvK (k + 1)) (List.range d.nx.length) (fun x _ hx => lvK_mono hx) ⟨s, List.mem_range.2 hs, h1, by simpa using h2⟩
        omega
theorem stb_all {d : Dd} (hd : d.Ok) : d.stb d.nx.length := by
  rcases stb_or d (d.nx.length + 1) with ⟨j, h1, h2⟩ | h
  · exact stb_le hd (by omega) h2
  · have := List.length_filter_le (d.lvK (d.nx.length + 1)) (List.range d.nx.length)
    rw [List.length_range] at this
    omega
theorem lv_lab {d : Dd} {s : Nat} (h : 0 ≤ d.lab s) : d.lv s = true := lvK_le (Nat.zero_le _) (by simpa [lvK] using h)
theorem lv_step {d : Dd} (hd : d.Ok) {s c : Nat} (hs : s < d.nx.length) (hc : c < 256) (h : d.lv (d.to s c) = true) : d.lv s = true :=
  stb_all hd s hs (lvK_succ.2 (.inr ⟨c, hc, h⟩))
theorem lv_ind {d : Dd} (hd : d.Ok) (P : Nat → Prop) (h0 : ∀ s, s < d.nx.length → 0 ≤ d.lab s → P s) (h1 : ∀ s c, s < d.nx.length → c < 256 → P (d.to s c) → P s) {s : Nat} (hs : s < d.nx.length) (h : d.lv s = true) : P s :=
  lvK_ind hd P h0 h1 _ s hs h
/-- What is closed, and has nothing but what is alive, is what is alive. -/
theorem lv_of {d : Dd} (hd : d.Ok) {B : Nat → Bool} (h1 : ∀ s, s < d.nx.length → B s = true → d.lv s = true) (h2 : ∀ s, s < d.nx.length → 0 ≤ d.lab s → B s = true) (h3 : ∀ s c, s < d.nx.length → c < 256 → B (d.to s c) = true → B s = true) : ∀ s, s < d.nx.length → B s = d.lv s := by
  intro s hs
  rw [Bool.eq_iff_iff]
  exact ⟨h1 s hs, fun h => lv_ind hd (fun s => B s = true) h2 h3 hs h⟩
def kp (d : Dd) (s : Nat) : Bool := s == 0 || d.lv s
/-- How many of the first s states have a row. -/
def rk (d : Dd) (s : Nat) : Nat := ((List.range s).filter d.kp).length
def kept (d : Dd) : List Nat := (List.range d.nx.length).filter d.kp
def num (d : Dd) (b s : Nat) : Int := if d.lv s then ((b + d.rk s : Nat) : Int) else -1
def wrow (d : Dd) (b s : Nat) : List Int := (List.range 256).map fun c => d.num b (d.to s c)
def wnx (d : Dd) (b : Nat) : List (List Int) := d.kept.map (d.wrow b)
def wlb (d : Dd) : List Int := d.kept.map d.lab
theorem rk_succ (d : Dd) (s : Nat) : d.rk (s + 1) = d.rk s + (if d.kp s then 1 else 0) := by
  unfold rk
  rw [List.range_succ, List.filter_append, List.length_append]
  by_cases h : d.kp s = true
  · simp [h]
  · simp [h]
theorem rk_mono (d : Dd) {s t : Nat} (h : s ≤ t) : d.rk s ≤ d.rk t := by
  induction h with
  | refl => exact Nat.le_refl _
  | step _ ih => rw [rk_succ]; omega
theorem rk_lt {d : Dd} {s t : Nat} (h : s < t) (hk : d.kp s = true) : d.rk s < d.rk t := by
  have := rk_succ d s
  rw [if_pos hk] at this
  have := rk_mono d (show s + 1 ≤ t from h)
  omega
theorem kept_len (d : Dd) : d.kept.length = d.rk d.nx.length := rfl
theorem rk_le (d : Dd) (s : Nat) : d.rk s ≤ s := by
  unfold rk
  exact Nat.le_trans (List.length_filter_le _ _) (by simp)
theorem kept_get {d : Dd} : ∀ {n s : Nat}, s < n → d.kp s = true → ((List.range n).filter d.kp)[d.rk s]? = some s
  | 0, _, h, _ => absurd h (by omega)
  | n + 1, s, h, hk => by
    rw [List.range_succ, List.filter_append]
    by_cases e : s = n
    · subst e
      show ((List.range s).filter d.kp ++ (List.filter d.kp [s]))[((List.range s).filter d.kp).length]? = some s
      rw [List.getElem?_append_right (Nat.le_refl _)]
      simp [hk]
    · have ih := kept_get (d := d) (n := n) (s := s) (by omega) hk
      rw [List.getElem?_append_left (by have := (List.getElem?_eq_some_iff.1 ih).1; exact this)]
      exact ih
theorem rk_kept {d : Dd} {j : Nat} (h : j < d.kept.length) : d.kept[j] < d.nx.length ∧ d.kp d.kept[j] = true ∧ d.rk d.kept[j] = j := by
  have hm : d.kept[j] ∈ d.kept := List.getElem_mem h
  have h1 : d.kept[j] < d.nx.length ∧ d.kp d.kept[j] = true := by
    have := List.mem_filter.1 hm
    exact ⟨List.mem_range.1 this.1, this.2⟩
  refine ⟨h1.1, h1.2, ?_⟩
  have h2 : d.kept[d.rk d.kept[j]]? = some d.kept[j] := kept_get h1.1 h1.2
  obtain ⟨h3, h4⟩ := List.getElem?_eq_some_iff.1 h2
  have hn : d.kept.Pairwise (· < ·) := List.Pairwise.filter _ List.pairwise_lt_range
  rcases Nat.lt_trichotomy (d.rk d.kept[j]) j with q | q | q
  · have := List.pairwise_iff_getElem.1 hn _ _ h3 h q; omega
  · exact q
  · have := List.pairwise_iff_getElem.1 hn _ _ h h3 q; omega
theorem kp_zero (d : Dd) : d.kp 0 = true := rfl
theorem rk_zero (d : Dd) : d.rk 0 = 0 := rfl
theorem kept_pos {d : Dd} (h : 0 < d.nx.length) : 0 < d.kept.length := by
  rw [kept_len]
  have := rk_lt (d := d) h (kp_zero d)
  omega
theorem kp_lv {d : Dd} {s : Nat} (h : d.lv s = true) : d.kp s = true := by unfold kp; rw [h]; simp
theorem num_lt {d : Dd} {b s : Nat} (hs : s < d.nx.length) : d.num b s = -1 ∧ d.lv s = false ∨ d.lv s = true ∧ d.num b s = ((b + d.rk s : Nat) : Int) ∧ d.rk s < d.kept.length := by
  unfold num
  by_cases h : d.lv s = true
  · rw [if_pos h]
    exact .inr ⟨h, rfl, by rw [kept_len]; exact rk_lt hs (kp_lv h)⟩
  · rw [if_neg h]
    exact .inl ⟨rfl, by simpa using h⟩
end Dd
/-- All automata's states, with an entry for each byte. -/
structure Wd where
  st : List Int
  nx : List (List Int)
  lb : List Int
def Wd.put (w : Wd) (d : Dd) : Wd := ⟨w.st ++ [(w.nx.length : Int)], w.nx ++ d.wnx w.nx.length, w.lb ++ d.wlb⟩
def wideOf (L : List Dd) : Wd := L.foldl Wd.put ⟨[], [], []⟩
theorem wideOf_take {L : List Dd} {k : Nat} (h : k < L.length) : wideOf (L.take (k + 1)) = (wideOf (L.take k)).put L[k] := by
  unfold wideOf
  rw [List.take_succ_eq_append_getElem h, List.foldl_append]
  rfl
/-- Are two bytes' columns equal? -/
def alike (nx : List (List Int)) (a b : Nat) : Bool := nx.all fun r => r.getD a 0 == r.getD b 0
theorem alike_iff {nx : List (List Int)} {a b : Nat} : alike nx a b = true ↔ ∀ r ∈ nx, r.getD a 0 = r.getD b 0 := by
  unfold alike; rw [List.all_eq_true]; simp
theorem alike_refl (nx : List (List Int)) (a : Nat) : alike nx a a = true := alike_iff.2 fun _ _ => rfl
theorem alike_symm {nx : List (List Int)} {a b : Nat} (h : alike nx a b = true) : alike nx b a = true := alike_iff.2 fun r hr => (alike_iff.1 h r hr).symm
theorem alike_trans {nx : List (List Int)} {a b c : Nat} (h : alike nx a b = true) (h' : alike nx b c = true) : alike nx a c = true := alike_iff.2 fun r hr => (alike_iff.1 h r hr).trans (alike_iff.1 h' r hr)
/-- The classes' numbers and their first bytes, by an equality. -/
def cstep (E : Nat → Nat → Bool) (z : List Int × List Nat) (c : Nat) : List Int × List Nat :=
  (z.1 ++ [((z.2.findIdx fun f => E f c : Nat) : Int)], if z.2.findIdx (fun f => E f c) = z.2.length then z.2 ++ [c] else z.2)
def clsN (E : Nat → Nat → Bool) : Nat → List Int × List Nat
  | 0 => ([], [])
  | k + 1 => cstep E (clsN E k) k
section
variable {E : Nat → Nat → Bool}
theorem clsN_len (k : Nat) : (clsN E k).1.length = k := by
  induction k with
  | zero => rfl
  | succ k ih => simp [clsN, cstep, ih]
theorem clsN_fst_le (k : Nat) : (clsN E k).2.length ≤ k ∧ ∀ f ∈ (clsN E k).2, f < k := by
  induction k with
  | zero => exact ⟨Nat.le_refl _, fun f h => by cases h⟩
  | succ k ih =>
    simp only [clsN, cstep]
    split
    · refine ⟨by simp; omega, fun f hf => ?_⟩
      rcases List.mem_append.1 hf with hf | hf
      · have := ih.2 f hf; omega
      · simp at hf; omega
    · exact ⟨by omega, fun f hf => by have := ih.2 f hf; omega⟩
theorem clsN_pre {j k : Nat} (h : j ≤ k) : ∃ l, (clsN E k).2 = (clsN E j).2 ++ l := by
  induction h with
  | refl => exact ⟨[], by simp⟩
  | @step k _ ih =>
    obtain ⟨l, hl⟩ := ih
    simp only [clsN, cstep]
    split
    · exact ⟨l ++ [k], by rw [hl, List.append_assoc]⟩
    · exact ⟨l, hl⟩
theorem findIdx_app {p : Nat → Bool} {l m : List Nat} (h : l.findIdx p < l.length) : (l ++ m).findIdx p = l.findIdx p := by
  rw [List.findIdx_append, if_pos h]
/-- A byte's class: the first of the first bytes that is alike. -/
theorem clsN_get (hr : ∀ a, E a a = true) {c k : Nat} (h : c < k) : (clsN E k).1.getD c 0 = (((clsN E k).2.findIdx fun f => E f c : Nat) : Int) ∧ ((clsN E k).2.findIdx fun f => E f c) < (clsN E k).2.length := by
  induction k with
  | zero => omega
  | succ k ih =>
    have hl := clsN_len (E := E) k
    have hle : ((clsN E k).2.findIdx fun f => E f k) ≤ (clsN E k).2.length := List.findIdx_le_length
    by_cases e : c = k
    · subst e
      simp only [clsN, cstep]
      split
      · rename_i hq
        have h2 : ((clsN E c).2 ++ [c]).findIdx (fun f => E f c) = (clsN E c).2.length := by
          rw [List.findIdx_append, if_neg (by omega)]
          simp [List.findIdx_cons, hr]
        rw [h2]
        refine ⟨?_, by simp⟩
        rw [List.getD_eq_getElem?_getD, List.getElem?_append_right (by omega), hl, hq]; simp
      · rename_i hq
        refine ⟨?_, by omega⟩
        rw [List.getD_eq_getElem?_getD, List.getElem?_append_right (by omega), hl]; simp
    · obtain ⟨h1, h2⟩ := ih (by omega)
      have h3 : (clsN E (k + 1)).1.getD c 0 = (clsN E k).1.getD c 0 := by
        simp only [clsN, cstep]
        rw [List.getD_eq_getElem?_getD, List.getD_eq_getElem?_getD, List.getElem?_append_left (by omega)]
      obtain ⟨l, h4⟩ := clsN_pre (E := E) (show k ≤ k + 1 by omega)
      rw [h3, h1, h4, findIdx_app h2, List.length_append]
      exact ⟨rfl, by omega⟩
theorem clsN_hit (hr : ∀ a, E a a = true) {c k : Nat} (h : c < k) : ∃ j f, (clsN E k).1.getD c 0 = ((j : Nat) : Int) ∧ (clsN E k).2[j]? = some f ∧ E f c = true := by
  obtain ⟨h1, h2⟩ := clsN_get hr h
  exact ⟨_, _, h1, List.getElem?_eq_getElem h2, List.findIdx_getElem (w := h2)⟩
theorem clsN_eq (hr : ∀ a, E a a = true) (hs : ∀ {a b}, E a b = true → E b a = true) (ht : ∀ {a b c}, E a b = true → E b c = true → E a c = true) {a b k : Nat} (ha : a < k) (hb : b < k) : (clsN E k).1.getD a 0 = (clsN E k).1.getD b 0 ↔ E a b = true := by
  constructor
  · intro h
    obtain ⟨j, f, h1, h2, h3⟩ := clsN_hit hr ha
    obtain ⟨j', f', h1', h2', h3'⟩ := clsN_hit hr hb
    rw [h1, h1'] at h
    have : j = j' := by omega
    subst this
    rw [h2] at h2'
    cases h2'
    exact ht (hs h3) h3'
  · intro h
    rw [(clsN_get hr ha).1, (clsN_get hr hb).1]
    have : (fun f => E f a) = fun f => E f b := by
      funext f
      rw [Bool.eq_iff_iff]
      exact ⟨fun q => ht q h, fun q => ht q (hs h)⟩
    rw [this]
end
/-- A table by byte classes. -/
structure Tb where
  cl : List Int
  cn : Int
  st : List Int
  nx : List (List Int)
  lb : List Int
def narrowR (F : List Nat) (r : List Int) : List Int := F.map fun b => r.getD b 0
def Wd.tb (w : Wd) : Tb := ⟨(clsN (alike w.nx) 256).1, (((clsN (alike w.nx) 256).2.length : Nat) : Int), w.st, w.nx.map (narrowR (clsN (alike w.nx) 256).2), w.lb⟩
def tabOf (L : List Dd) : Tb := (wideOf L).tb
end Go.Proofs.YtgcjclglhijchaaDoor
