/- Rows, plain: whether a table may be; each table that is built may be; its entries, automaton by automaton. -/
import Derived.Test.YtgcjclglhijchaaDoorRwp
namespace Go.Proofs.YtgcjclglhijchaaDoor
/-- Classes, in the order of their first bytes: how many. -/
def clsK : Int → List Int → Option Int
  | n, [] => some n
  | n, x :: l => if x < 0 ∨ n < x then none else clsK (if x = n then n + 1 else n) l
theorem clsK_app (l : List Int) (x : Int) : ∀ n, clsK n (l ++ [x]) = (clsK n l).bind fun m => if x < 0 ∨ m < x then none else some (if x = m then m + 1 else m) := by
  induction l with
  | nil => intro n; show clsK n [x] = _; simp [clsK]
  | cons y l ih =>
    intro n
    show clsK n (y :: (l ++ [x])) = _
    unfold clsK
    split
    · rfl
    · exact ih _
theorem clsK_take {L : List Int} {k : Nat} (h : k < L.length) (n : Int) : clsK n (L.take (k + 1)) = (clsK n (L.take k)).bind fun m => if L[k] < 0 ∨ m < L[k] then none else some (if L[k] = m then m + 1 else m) := by
  rw [List.take_succ_eq_append_getElem h, clsK_app]
theorem clsK_none (l : List Int) : ∀ (m : List Int) (n : Int), clsK n l = none → clsK n (l ++ m) = none := by
  induction l with
  | nil => intro m n h; cases h
  | cons y l ih =>
    intro m n h
    show clsK n (y :: (l ++ m)) = none
    unfold clsK at h ⊢
    split
    · rfl
    · rename_i hq
      rw [if_neg hq] at h
      exact ih _ _ h
theorem clsK_no {L : List Int} {k : Nat} (h : k < L.length) {n m : Int} (hm : clsK n (L.take k) = some m) (hx : L[k] < 0 ∨ m < L[k]) : clsK n L = none := by
  have h1 : clsK n (L.take (k + 1)) = none := by rw [clsK_take h, hm]; exact if_pos hx
  have := clsK_none _ (L.drop (k + 1)) n h1
  rwa [List.take_append_drop] at this
theorem clsK_le (l : List Int) : ∀ n m, clsK n l = some m → n ≤ m ∧ m ≤ n + l.length := by
  induction l with
  | nil => intro n m h; cases h; simp
  | cons y l ih =>
    intro n m h
    unfold clsK at h
    split at h
    · cases h
    · have := ih _ _ h
      simp only [List.length_cons]
      split at this <;> omega
def cntsB (t : Tb) : Bool := decide (1 ≤ t.nx.length) && (decide (t.nx.length ≤ 600) && (decide (t.lb.length = t.nx.length) && (decide (1 ≤ t.st.length) && (decide (t.st.length ≤ 16) && decide (t.cl.length = 256)))))
def clsB (t : Tb) : Bool := decide (clsK 0 t.cl = some t.cn)
def stsB (t : Tb) : Bool := t.st.all fun x => decide (0 ≤ x ∧ x < (t.nx.length : Int))
def rwB (n cn : Int) (L : List Int) : Bool := decide ((L.length : Int) = cn) && L.all fun x => decide (-1 ≤ x ∧ x < n)
def nxsB (t : Tb) : Bool := t.nx.all (rwB t.nx.length t.cn)
def lbsB (t : Tb) : Bool := t.lb.all fun x => decide (-1 ≤ x ∧ x < 200)
def mayT (t : Tb) : Bool := cntsB t && (clsB t && (stsB t && (nxsB t && lbsB t)))
/-- What a table that may be has. -/
structure Tb.Ok (t : Tb) : Prop where
  pos : 1 ≤ t.nx.length
  le : t.nx.length ≤ 600
  lbl : t.lb.length = t.nx.length
  sp : 1 ≤ t.st.length
  sl : t.st.length ≤ 16
  cl : t.cl.length = 256
  cn : clsK 0 t.cl = some t.cn
  st : ∀ x ∈ t.st, 0 ≤ x ∧ x < (t.nx.length : Int)
  row : ∀ L ∈ t.nx, (L.length : Int) = t.cn ∧ ∀ x ∈ L, -1 ≤ x ∧ x < (t.nx.length : Int)
  lb : ∀ x ∈ t.lb, -1 ≤ x ∧ x < 200
theorem mayT_ok {t : Tb} : mayT t = true ↔ t.Ok := by
  unfold mayT cntsB clsB stsB nxsB lbsB rwB
  simp only [Bool.and_eq_true, decide_eq_true_eq, List.all_eq_true]
  constructor
  · rintro ⟨⟨h1, h2, h3, h4, h5, h6⟩, h7, h8, h9, h10⟩
    exact ⟨h1, h2, h3, h4, h5, h6, h7, h8, h9, h10⟩
  · intro h
    exact ⟨⟨h.pos, h.le, h.lbl, h.sp, h.sl, h.cl⟩, h.cn, h.st, h.row, h.lb⟩
theorem clsK_get (l : List Int) : ∀ n m, 0 ≤ n → clsK n l = some m → ∀ x ∈ l, 0 ≤ x ∧ x < m := by
  induction l with
  | nil => intro n m _ _ x h; cases h
  | cons y l ih =>
    intro n m hn h x hx
    unfold clsK at h
    split at h
    · cases h
    · rename_i hq
      have hle := clsK_le _ _ _ h
      rcases List.mem_cons.1 hx with rfl | hx
      · constructor
        · omega
        · split at hle <;> omega
      · exact ih _ _ (by split <;> omega) h x hx
theorem clsN_k {E : Nat → Nat → Bool} (k : Nat) : clsK 0 (clsN E k).1 = some (((clsN E k).2.length : Nat) : Int) := by
  induction k with
  | zero => rfl
  | succ k ih =>
    have hle : ((clsN E k).2.findIdx fun f => E f k) ≤ (clsN E k).2.length := List.findIdx_le_length
    simp only [clsN, cstep]
    rw [clsK_app, ih]
    show (if _ then none else _) = _
    rw [if_neg (by omega)]
    by_cases h : ((clsN E k).2.findIdx fun f => E f k) = (clsN E k).2.length
    · rw [if_pos h, if_pos (by omega)]; simp
    · rw [if_neg h, if_neg (by omega)]
/-- What is made of automata that may be. -/
structure Wd.Ok (w : Wd) : Prop where
  row : ∀ r ∈ w.nx, r.length = 256 ∧ ∀ x ∈ r, -1 ≤ x ∧ x < (w.nx.length : Int)
  lbl : w.lb.length = w.nx.length
  lb : ∀ x ∈ w.lb, -1 ≤ x ∧ x < 200
  st : ∀ x ∈ w.st, 0 ≤ x ∧ x < (w.nx.length : Int)
theorem wnx_len (d : Dd) (b : Nat) : (d.wnx b).length = d.kept.length := by simp [Dd.wnx]
theorem wlb_len (d : Dd) : d.wlb.length = d.kept.length := by simp [Dd.wlb]
theorem kept_le (d : Dd) : d.kept.length ≤ d.nx.length := by rw [Dd.kept_len]; exact Dd.rk_le d _
theorem Wd.Ok.put {w : Wd} (h : w.Ok) {d : Dd} (hd : d.Ok) : (w.put d).Ok := by
  have hl : (w.put d).nx.length = w.nx.length + d.kept.length := by simp [Wd.put, Dd.wnx]
  refine ⟨fun r hr => ?_, ?_, fun x hx => ?_, fun x hx => ?_⟩
  · rcases List.mem_append.1 hr with hr | hr
    · obtain ⟨h1, h2⟩ := h.row r hr
      exact ⟨h1, fun x hx => by have := h2 x hx; rw [hl]; omega⟩
    · obtain ⟨s, hs, rfl⟩ := List.mem_map.1 hr
      have hs' : s < d.nx.length := List.mem_range.1 (List.mem_filter.1 hs).1
      refine ⟨by simp [Dd.wrow], fun x hx => ?_⟩
      obtain ⟨c, hc, rfl⟩ := List.mem_map.1 hx
      have := Dd.num_lt (d := d) (b := w.nx.length) (hd.to hs' (List.mem_range.1 hc))
      rw [hl]; omega
  · simp [Wd.put, Dd.wnx, Dd.wlb, h.lbl]
  · rcases List.mem_append.1 hx with hx | hx
    · exact h.lb x hx
    · obtain ⟨s, hs, rfl⟩ := List.mem_map.1 hx
      exact hd.lab s (List.mem_range.1 (List.mem_filter.1 hs).1)
  · have := Dd.kept_pos (d := d) hd.pos
    rw [hl]
    rcases List.mem_append.1 hx with hx | hx
    · have := h.st x hx; omega
    · simp at hx; omega
theorem wide_ok {L : List Dd} (hL : ∀ d ∈ L, d.Ok) : ∀ k, k ≤ L.length → (wideOf (L.take k)).Ok
  | 0, _ => ⟨fun r hr => by simp [wideOf] at hr, rfl, fun x hx => by simp [wideOf] at hx, fun x hx => by simp [wideOf] at hx⟩
  | k + 1, hk => by
    rw [wideOf_take (show k < L.length by omega)]
    exact (wide_ok hL k (by omega)).put (hL _ (List.getElem_mem _))
def sumN (L : List Dd) : Nat := (L.map fun d => d.nx.length).sum
theorem wide_len {L : List Dd} : ∀ k, k ≤ L.length → (wideOf (L.take k)).st.length = k ∧ (wideOf (L.take k)).nx.length ≤ sumN (L.take k)
  | 0, _ => ⟨rfl, Nat.le_refl _⟩
  | k + 1, hk => by
    obtain ⟨h1, h2⟩ := wide_len (L := L) k (by omega)
    rw [wideOf_take (show k < L.length by omega)]
    refine ⟨by simp [Wd.put, h1], ?_⟩
    have e : sumN (L.take (k + 1)) = sumN (L.take k) + L[k].nx.length := by
      unfold sumN
      rw [List.take_succ_eq_append_getElem (show k < L.length by omega), List.map_append, List.sum_append]
      simp
    have := kept_le L[k]
    rw [e]
    simp [Wd.put, Dd.wnx]
    omega
theorem take_all {α : Type} (L : List α) : L.take L.length = L := List.take_length
theorem wide_pos {L : List Dd} (hL : ∀ d ∈ L, d.Ok) (h1 : 1 ≤ L.length) : 1 ≤ (wideOf L).nx.length := by
  have h := (wideOf_take (L := L) (k := L.length - 1) (by omega))
  rw [show L.length - 1 + 1 = L.length by omega, take_all] at h
  rw [h]
  have := Dd.kept_pos (d := L[L.length - 1]) (hL _ (List.getElem_mem _)).pos
  simp [Wd.put, Dd.wnx]
  omega
theorem narrow_mem {F : List Nat} {r : List Int} {x : Int} (hF : ∀ f ∈ F, f < 256) (hr : r.length = 256) (h : x ∈ narrowR F r) : x ∈ r := by
  obtain ⟨b, hb, rfl⟩ := List.mem_map.1 h
  have := hF b hb
  rw [getD_get (show b < r.length by omega)]
  exact List.getElem_mem _
/-- A table that is built of automata that may be, may be. -/
theorem tab_ok {L : List Dd} (hL : ∀ d ∈ L, d.Ok) (h1 : 1 ≤ L.length) (h2 : L.length ≤ 16) (h3 : sumN L ≤ 600) : (tabOf L).Ok := by
  have ho := wide_ok hL L.length (Nat.le_refl _)
  obtain ⟨l1, l2⟩ := wide_len (L := L) L.length (Nat.le_refl _)
  rw [take_all] at ho l1 l2
  have hp := wide_pos hL h1
  unfold tabOf Wd.tb
  refine ⟨by simpa using hp, by simp; omega, by simpa using ho.lbl, by simp; omega, by simp; omega, clsN_len _, clsN_k _, fun x hx => by simpa using ho.st x hx, fun r hr => ?_, ho.lb⟩
  obtain ⟨r0, hr0, rfl⟩ := List.mem_map.1 hr
  refine ⟨by simp [narrowR], fun x hx => ?_⟩
  have := (ho.row r0 hr0).2 x (narrow_mem (fun f hf => (clsN_fst_le 256).2 f hf) (ho.row r0 hr0).1 hx)
  simpa using this
/-- The entry of a class is that of each of its bytes. -/
theorem narrow_get {nx : List (List Int)} {r : List Int} (hr : r ∈ nx) {c : Nat} (hc : c < 256) : (narrowR (clsN (alike nx) 256).2 r).getD ((clsN (alike nx) 256).1.getD c 0).toNat 0 = r.getD c 0 := by
  obtain ⟨j, f, h1, h2, h3⟩ := clsN_hit (alike_refl nx) hc
  rw [h1]
  simp only [Int.toNat_natCast]
  unfold narrowR
  rw [List.getD_eq_getElem?_getD, List.getElem?_map, h2]
  exact alike_iff.1 h3 r hr
def Tb.ent (t : Tb) (s c : Nat) : Int := (t.nx.getD s []).getD (t.cl.getD c 0).toNat 0
theorem tb_ent {w : Wd} {s c : Nat} (hs : s < w.nx.length) (hc : c < 256) : w.tb.ent s c = (w.nx.getD s []).getD c 0 := by
  unfold Tb.ent Wd.tb
  simp only
  rw [getD_get (show s < (w.nx.map _).length by simpa using hs), List.getElem_map, getD_get hs]
  exact narrow_get (List.getElem_mem _) hc
theorem wide_pre {L : List Dd} {k : Nat} : ∀ j, k + j ≤ L.length → ∃ a b c, wideOf (L.take (k + j)) = ⟨(wideOf (L.take k)).st ++ a, (wideOf (L.take k)).nx ++ b, (wideOf (L.take k)).lb ++ c⟩
  | 0, _ => ⟨[], [], [], by simp⟩
  | j + 1, h => by
    obtain ⟨a, b, c, e⟩ := wide_pre (L := L) (k := k) j (by omega)
    rw [show k + (j + 1) = k + j + 1 by omega, wideOf_take (show k + j < L.length by omega), e]
    exact ⟨a ++ [_], b ++ _, c ++ _, by unfold Wd.put; simp only [List.append_assoc]; rfl⟩
/-- Where automaton m begins. -/
def bas (L : List Dd) (m : Nat) : Nat := (wideOf (L.take m)).nx.length
theorem bas_zero (L : List Dd) : bas L 0 = 0 := rfl
theorem bas_succ {L : List Dd} {m : Nat} (h : m < L.length) : bas L (m + 1) = bas L m + L[m].kept.length := by
  unfold bas
  rw [wideOf_take h]
  simp [Wd.put, Dd.wnx]
theorem bas_all (L : List Dd) : bas L L.length = (wideOf L).nx.length := by unfold bas; rw [take_all]
theorem bas_mono {L : List Dd} {m j : Nat} (h : m + j ≤ L.length) : bas L m ≤ bas L (m + j) := by
  obtain ⟨a, b, c, e⟩ := wide_pre (L := L) (k := m) j h
  unfold bas
  rw [e]
  simp
/-- Each automaton's starts, rows and labels. -/
theorem wide_get {L : List Dd} (hL : ∀ d ∈ L, d.Ok) {m : Nat} (hm : m < L.length) : (wideOf L).st.getD m 0 = (bas L m : Int) ∧ ∀ j (hj : j < L[m].kept.length), bas L m + j < (wideOf L).nx.length ∧ (wideOf L).nx.getD (bas L m + j) [] = L[m].wrow (bas L m) L[m].kept[j] ∧ (wideOf L).lb.getD (bas L m + j) 0 = L[m].lab L[m].kept[j] := by
  obtain ⟨a, b, c, e⟩ := wide_pre (L := L) (k := m + 1) (L.length - (m + 1)) (by omega)
  rw [show m + 1 + (L.length - (m + 1)) = L.length by omega, take_all, wideOf_take hm] at e
  have h1 := (wide_len (L := L) m (by omega)).1
  have h2 := (wide_ok hL m (by omega)).lbl
  have hb : bas L m = (wideOf (L.take m)).nx.length := rfl
  rw [e]
  unfold Wd.put
  simp only
  refine ⟨?_, fun j hj => ⟨?_, ?_, ?_⟩⟩
  · rw [List.getD_eq_getElem?_getD, List.getElem?_append_left (by simp; omega), List.getElem?_append_right (by omega), h1]; simp [hb]
  · simp [Dd.wnx]; omega
  · rw [List.getD_eq_getElem?_getD, List.getElem?_append_left (by simp [Dd.wnx]; omega), List.getElem?_append_right (by omega), hb, Nat.add_sub_cancel_left]
    simp [Dd.wnx, hj]
  · rw [List.getD_eq_getElem?_getD, List.getElem?_append_left (by simp [Dd.wlb]; omega), List.getElem?_append_right (by omega), hb, h2, Nat.add_sub_cancel_left]
    simp [Dd.wlb, hj]
theorem wrow_get {d : Dd} {b s c : Nat} (hc : c < 256) : (d.wrow b s).getD c 0 = d.num b (d.to s c) := by
  unfold Dd.wrow
  rw [List.getD_eq_getElem?_getD, List.getElem?_map, List.getElem?_range hc]
  rfl
/-- The table's entry, in the automaton's own words. -/
theorem tab_ent {L : List Dd} (hL : ∀ d ∈ L, d.Ok) {m : Nat} (hm : m < L.length) {j c : Nat} (hj : j < L[m].kept.length) (hc : c < 256) : (tabOf L).ent (bas L m + j) c = L[m].num (bas L m) (L[m].to L[m].kept[j] c) := by
  obtain ⟨h1, h2, _⟩ := (wide_get hL hm).2 j hj
  unfold tabOf
  rw [tb_ent h1 hc, h2, wrow_get hc]
theorem tab_one_kept {d : Dd} : (tabOf [d]).nx.length = d.kept.length ∧ bas [d] 0 = 0 := by
  refine ⟨?_, rfl⟩
  unfold tabOf Wd.tb
  simp [wideOf, Wd.put, Dd.wnx]
theorem num_moved (d : Dd) (b s : Nat) : (d.num 0 s < 0 → d.num b s = -1) ∧ (0 ≤ d.num 0 s → d.num b s = d.num 0 s + b) := by
  unfold Dd.num
  split
  · exact ⟨fun h => by omega, fun _ => by omega⟩
  · exact ⟨fun _ => rfl, fun h => by omega⟩
end Go.Proofs.YtgcjclglhijchaaDoor
