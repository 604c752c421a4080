/- Cores in a list that a loop makes, and what the lengths tell of their cuts (plain). -/
import Derived.Test.YtnmdfhnfheekgaaDoorCs
namespace Go.Proofs.YtnmdfhnfheekgaaDoor
open Go Go.RowKit
abbrev Qd := Cr × (Option Addr × Nat) × (Option Addr × Nat)
def qcs (t : Qd) : List Value := ccs t.1 t.2.1.1 t.2.1.2 t.2.2.1 t.2.2.2
def crl (T : List Qd) : List Value := T.flatMap qcs
theorem qcs_len (t : Qd) : (qcs t).length = 21 := rfl
theorem crl_len : ∀ T : List Qd, (crl T).length = T.length * 21
  | [] => rfl
  | t :: T => by
    have := crl_len T
    unfold crl at *
    rw [List.flatMap_cons, List.length_append, this, qcs_len, List.length_cons]
    omega
theorem crl_get : ∀ (T : List Qd) (i : Nat) (h : i < T.length) (f : Nat), f < 21 → (crl T)[i * 21 + f]? = (qcs T[i])[f]?
  | [], i, h, f, hf => by simp at h
  | y :: L, 0, h, f, hf => by
    unfold crl
    rw [List.flatMap_cons, Nat.zero_mul, Nat.zero_add, List.getElem?_append_left (by rw [qcs_len]; exact hf)]
    rfl
  | y :: L, i + 1, h, f, hf => by
    have := crl_get L i (by simpa using h) f hf
    unfold crl at *
    rw [List.flatMap_cons, List.getElem?_append_right (by rw [qcs_len]; omega), qcs_len]
    rw [show (i + 1) * 21 + f - 21 = i * 21 + f by omega, this]
    rfl
theorem crl_app (T : List Qd) (t : Qd) : crl (T ++ [t]) = crl T ++ qcs t := by simp [crl]
theorem qcs_one (t : Qd) : ∀ u ∈ qcs t, u.oneCell' = true := by
  intro u hu
  simp [qcs, ccs] at hu
  rcases hu with rfl | rfl | rfl | rfl | rfl | rfl | rfl | rfl | rfl | rfl | rfl | rfl | rfl | rfl | rfl | rfl | rfl | rfl | rfl | rfl | rfl <;> rfl
structure QdOk (w : World) (B : Nat) (t : Qd) : Prop where
  ok1 : Xok t.1.h
  ok2 : Xok t.1.t
  at1 : Xat w B t.2.1.1 t.2.1.2 t.1.h.args
  at2 : Xat w B t.2.2.1 t.2.2.2 t.1.t.args
theorem QdOk.blw {w w' : World} {B : Nat} {t : Qd} (h : QdOk w B t) (hx : Below B w w') : QdOk w' B t := ⟨h.ok1, h.ok2, h.at1.blw hx, h.at2.blw hx⟩
theorem QdOk.mono {w : World} {B D : Nat} {t : Qd} (h : QdOk w B t) (hB : B ≤ D) : QdOk w D t := ⟨h.ok1, h.ok2, h.at1.mono hB, h.at2.mono hB⟩
theorem QdOk.ext {w w' : World} {t : Qd} (h : QdOk w w.heap.size t) (hx : Ext w w') : QdOk w' w'.heap.size t := (h.blw hx).mono hx.size
/-- The list that was made, from its k-th core on, lies as a list of cores. -/
theorem cat_own {w : World} {base g cap n : Nat} {T : List Qd} (h : w.ownsRow base 48 21 (.slice (some ⟨g, 0, none⟩) n cap) n (crl T)) (hn : T.length = n) (hel : ∀ t ∈ T, QdOk w w.heap.size t) (k : Nat) (hk : k ≤ n) : Cat w w.heap.size (some ⟨g, k * 21, none⟩) (cap - k) ((T.drop k).map (·.1)) := by
  have hcl := h.cells (g := g) rfl
  obtain ⟨_, ⟨hv, h0⟩ | ⟨g', cap', cur, hv, hgb, hg, hg1, hg2, hg3, hg4⟩⟩ := h
  · cases hv
  · cases hv
    refine ⟨by simp; omega, by omega, ?_⟩
    refine .inr ⟨g, k * 21, rfl, (Array.getElem?_eq_some_iff.1 hg).1, fun i => ((T.drop k).getD i (⟨.mk 0 0 0#256 .empty 0 0 [], true, .mk 0 0 0#256 .empty 0 0 []⟩, (none, 0), (none, 0))).2.1.1, fun i => ((T.drop k).getD i (⟨.mk 0 0 0#256 .empty 0 0 [], true, .mk 0 0 0#256 .empty 0 0 []⟩, (none, 0), (none, 0))).2.1.2, fun i => ((T.drop k).getD i (⟨.mk 0 0 0#256 .empty 0 0 [], true, .mk 0 0 0#256 .empty 0 0 []⟩, (none, 0), (none, 0))).2.2.1, fun i => ((T.drop k).getD i (⟨.mk 0 0 0#256 .empty 0 0 [], true, .mk 0 0 0#256 .empty 0 0 []⟩, (none, 0), (none, 0))).2.2.2, fun i hi => ?_⟩
    have hi1 : i < (T.drop k).length := by simpa using hi
    have hi2 : k + i < T.length := by simp at hi1; omega
    have hd : ∀ z, (T.drop k).getD i z = T[k + i] := fun z => by simp [List.getD_eq_getElem?_getD, hi2]
    have ha : ((T.drop k).map (·.1))[i] = T[k + i].1 := by simp
    have hq := hel T[k + i] (List.getElem_mem hi2)
    simp only [hd, ha]
    refine ⟨hq.ok1, hq.ok2, fun j hj => ?_, hq.at1, hq.at2⟩
    have hc := crl_get T (k + i) hi2 j hj
    have hlt : (k + i) * 21 + j < (crl T).length := by rw [crl_len]; omega
    have := hcl ((k + i) * 21 + j) (crl T)[(k + i) * 21 + j] (List.getElem?_eq_getElem hlt)
    rw [show (⟨g, 0, none⟩ : Addr).add ((k + i) * 21 + j) = ⟨g, (k + i) * 21 + j, none⟩ by unfold Addr.add; split <;> simp_all] at this
    rw [show k * 21 + i * 21 + j = (k + i) * 21 + j by omega, this, ← List.getElem?_eq_getElem hlt, hc]
    rfl
/-- Lengths as the law reads them. -/
def Wv.ln : Wv → Bool
  | .none => true
  | _ => false
def Wv.ll : Wv → Int
  | .none => 0
  | .bounded l _ => l
  | .endless l => l
def Wv.lm : Wv → Int
  | .none => 0
  | .bounded _ m => m
  | .endless _ => -1
theorem Wv.lv_eq (v : Wv) : v.lv = .agg #[.bool v.ln, .int .i64 v.ll, .int .i64 v.lm] := by cases v <;> rfl
theorem Wv.ol_eq (v : Wv) : v.ol.2 = (v.ln || decide (v.ll = v.lm)) := by
  cases v with
  | none => rfl
  | bounded l m =>
    show (l == m) = (false || decide ((l : Int) = (m : Int)))
    rw [Bool.false_or, Bool.eq_iff_iff, beq_iff_eq, decide_eq_true_iff]
    omega
  | endless l =>
    show false = (false || decide ((l : Int) = -1))
    rw [Bool.false_or, decide_eq_false (by omega)]
theorem Wv.emp_eq (v : Wv) : v.emp = (!v.ln && decide (v.ll = 0)) := by
  cases v with
  | none => rfl
  | bounded l m => simp only [Wv.emp, Wv.ln, Wv.ll, Bool.not_false, Bool.true_and]; rw [Bool.eq_iff_iff]; simp
  | endless l => simp only [Wv.emp, Wv.ln, Wv.ll, Bool.not_false, Bool.true_and]; rw [Bool.eq_iff_iff]; simp
theorem Wv.ol1 {v : Wv} (h : v.ln = false) (h2 : v.ol.2 = true) : (v.ol.1 : Int) = v.ll := by
  cases v with
  | none => cases h
  | bounded l m => rfl
  | endless l => cases h2
def tb (x y : Xp) : Bool := (wo x).emp || (!(wo x).ol.2 && !(wo y).ol.2)
/-- Whether a rule with a trail may have no cut. -/
theorem cut1_none (x y : Xp) : cut1 ⟨x, true, y⟩ = none ↔ tb x y = true := by
  unfold cut1 tb
  simp only [Bool.true_eq_false, if_false]
  cases (wo x).emp <;> cases (wo y).ol.2 <;> cases (wo x).ol.2 <;> simp
/-- The first that has none, counted from 1; 0: each has one. -/
def Bd (L : List Cr) (n : Nat) : Prop := (n = 0 ∧ ∀ i (h : i < L.length), cut1 L[i] ≠ none) ∨ (0 < n ∧ ∃ h : n - 1 < L.length, cut1 L[n - 1] = none ∧ ∀ j (h : j < L.length), j < n - 1 → cut1 L[j] ≠ none)
theorem Bd.nil : Bd [] 0 := .inl ⟨rfl, fun i h => by simp at h⟩
theorem Bd.put {L : List Cr} {n : Nat} (h : Bd L n) (r : Cr) : Bd (L ++ [r]) (if n = 0 ∧ cut1 r = none then L.length + 1 else n) := by
  have hg : ∀ i (h : i < (L ++ [r]).length) (h2 : i < L.length), (L ++ [r])[i] = L[i] := fun i h h2 => List.getElem_append_left h2
  rcases h with ⟨rfl, h⟩ | ⟨h0, h1, h2, h3⟩
  · by_cases hr : cut1 r = none
    · rw [if_pos ⟨rfl, hr⟩]
      refine .inr ⟨by omega, by simp, by simpa using hr, fun j hj hlt => ?_⟩
      rw [hg j hj (by omega)]
      exact h j (by omega)
    · rw [if_neg (fun h => hr h.2)]
      refine .inl ⟨rfl, fun i hi => ?_⟩
      by_cases hl : i < L.length
      · rw [hg i hi hl]; exact h i hl
      · obtain rfl : i = L.length := by simp at hi; omega
        simpa using hr
  · rw [if_neg (fun h => by omega)]
    refine .inr ⟨h0, by simp; omega, by rw [hg _ _ h1]; exact h2, fun j hj hlt => ?_⟩
    rw [hg j hj (by omega)]
    exact h3 j (by omega) hlt
end Go.Proofs.YtnmdfhnfheekgaaDoor
