/- bolterlaw14.begun. -/
import Derived.Test.YtniamfaiamgncaaDoorCpe
namespace Go.Proofs.YtniamfaiamgncaaDoor
open Go Go.RowKit
def swz (s i : Nat) : Nat := if i = 0 then s else if i = s then 0 else i
def swI (s : Nat) (e : Int) : Int := if e = 0 then (s : Int) else if e = (s : Int) then 0 else e
theorem swz_swz (s i : Nat) : swz s (swz s i) = i := by
  unfold swz; split <;> (try split) <;> (try split) <;> (try split) <;> omega
theorem swz_lt {n s i : Nat} (hs : s < n) (hi : i < n) : swz s i < n := by
  unfold swz; split <;> (try split) <;> omega
theorem swz_inj {s i j : Nat} (h : swz s i = swz s j) : i = j := by rw [← swz_swz s i, h, swz_swz]
theorem swI_nat (s e : Nat) : swI s (e : Int) = (swz s e : Int) := by
  unfold swI swz; split <;> (try split) <;> (try split) <;> (try split) <;> omega
/-- Rows, changed up to a place. -/
def mps (s c : Nat) (L : List Int) : List Int := (L.take c).map (swI s) ++ L.drop c
theorem mps_len (s c : Nat) (L : List Int) : (mps s c L).length = L.length := by
  unfold mps; rw [List.length_append, List.length_map, List.length_take, List.length_drop]; omega
theorem mps_get {s c : Nat} {L : List Int} (hc : c < L.length) : (mps s c L).getD c 0 = L.getD c 0 := by
  unfold mps
  rw [List.getD_eq_getElem?_getD, List.getElem?_append_right (by simp; omega), List.length_map, List.length_take, Nat.min_eq_left (by omega), Nat.sub_self, List.getElem?_drop, Nat.add_zero, ← List.getD_eq_getElem?_getD]
theorem mps_set {s c : Nat} {L : List Int} (hc : c < L.length) : (mps s c L).set c (swI s (L.getD c 0)) = mps s (c + 1) L := by
  unfold mps
  have hl : ((L.take c).map (swI s)).length = c := by simp; omega
  rw [List.set_append_right _ _ (by omega), hl, Nat.sub_self, List.drop_eq_getElem_cons hc, List.set_cons_zero, List.take_succ_eq_append_getElem hc, List.map_append, List.append_assoc]
  congr 1
  simp [List.getD_eq_getElem?_getD, List.getElem?_eq_getElem hc]
theorem mps_zero (s : Nat) (L : List Int) : mps s 0 L = L := by simp [mps]
theorem mps_all {s c : Nat} {L : List Int} (h : L.length ≤ c) : mps s c L = L.map (swI s) := by
  unfold mps; rw [List.take_of_length_le h, List.drop_eq_nil_of_le h, List.append_nil]
/-- All rows: those ahead of i changed, row i up to c. -/
def mpr (s i c : Nat) (R : List (List Int)) : List (List Int) := (List.range R.length).map fun j => mps s (if j < i then 256 else if j = i then c else 0) (R.getD j [])
theorem mpr_len (s i c : Nat) (R : List (List Int)) : (mpr s i c R).length = R.length := by simp [mpr]
theorem mpr_get {s i c j : Nat} {R : List (List Int)} (hj : j < R.length) : (mpr s i c R).getD j [] = mps s (if j < i then 256 else if j = i then c else 0) (R.getD j []) := by
  rw [List.getD_eq_getElem?_getD, mpr, List.getElem?_map, List.getElem?_range hj]; rfl
theorem mpr_here {s i c : Nat} {R : List (List Int)} (hj : i < R.length) : (mpr s i c R).getD i [] = mps s c (R.getD i []) := by
  rw [mpr_get hj, if_neg (by omega), if_pos rfl]
theorem mpr_ext {s i c i' c' : Nat} {R : List (List Int)} (h : ∀ j, j < R.length → mps s (if j < i then 256 else if j = i then c else 0) (R.getD j []) = mps s (if j < i' then 256 else if j = i' then c' else 0) (R.getD j [])) : mpr s i c R = mpr s i' c' R := by
  unfold mpr
  exact List.map_congr_left fun j hj => h j (List.mem_range.1 hj)
theorem mpr_zero (s : Nat) (R : List (List Int)) : mpr s 0 0 R = R := by
  apply List.ext_getElem (mpr_len _ _ _ _)
  intro j h1 h2
  have := mpr_get (s := s) (i := 0) (c := 0) h2
  rw [show (if j < 0 then 256 else if j = 0 then 0 else 0) = 0 by split <;> (try split) <;> omega, mps_zero] at this
  rw [getD_get h1, getD_get h2] at this
  exact this
theorem mpr_next (s i : Nat) (R : List (List Int)) : mpr s i 256 R = mpr s (i + 1) 0 R :=
  mpr_ext fun j _ => by
    congr 1
    split <;> (try split) <;> (try split) <;> (try split) <;> omega
theorem mpr_set {s i c : Nat} {R : List (List Int)} (hc : c < (R.getD i []).length) : (mpr s i c R).set i ((mps s c (R.getD i [])).set c (swI s ((R.getD i []).getD c 0))) = mpr s i (c + 1) R := by
  rw [mps_set hc]
  apply List.ext_getElem (by rw [List.length_set, mpr_len, mpr_len])
  intro j h1 h2
  have hj : j < R.length := by rw [mpr_len] at h2; exact h2
  have e := mpr_get (s := s) (i := i) (c := c + 1) hj
  rw [getD_get h2] at e
  rw [e, List.getElem_set]
  by_cases q : i = j
  · subst q; rw [if_pos rfl, if_neg (by omega), if_pos rfl]
  · rw [if_neg q]
    have e2 := mpr_get (s := s) (i := i) (c := c) hj
    rw [getD_get (by rw [mpr_len]; exact hj)] at e2
    rw [e2]
    by_cases q2 : j < i
    · rw [if_pos q2, if_pos q2]
    · rw [if_neg q2, if_neg (by omega), if_neg q2, if_neg (by omega)]
theorem mpr_same {s i c : Nat} {R : List (List Int)} (hi : i < R.length) (hc : c < (R.getD i []).length) (he : swI s ((R.getD i []).getD c 0) = (R.getD i []).getD c 0) : mpr s i (c + 1) R = mpr s i c R := by
  rw [← mpr_set hc, he, ← mps_get (s := s) hc, ← mpr_here (s := s) (c := c) hi]
  apply List.ext_getElem (by rw [List.length_set])
  intro j h1 h2
  rw [List.getElem_set]
  split
  · rename_i q; subst q
    rw [getD_get h2]
    apply List.ext_getElem (by rw [List.length_set])
    intro k k1 k2
    rw [List.getElem_set]
    split
    · rename_i q; subst q; rw [getD_get k2]
    · rfl
  · rfl
/-- The rows and labels, two of them in each other's place. -/
def swl {α : Type} (s : Nat) (d : α) (L : List α) : List α := (L.set 0 (L.getD s d)).set s (L.getD 0 d)
theorem swl_len {α : Type} (s : Nat) (d : α) (L : List α) : (swl s d L).length = L.length := by simp [swl]
theorem swl_get {α : Type} {s j : Nat} {d : α} {L : List α} (hs : s < L.length) (hj : j < L.length) : (swl s d L).getD j d = L.getD (swz s j) d := by
  unfold swl swz
  rw [List.getD_eq_getElem?_getD, List.getElem?_set]
  by_cases q : s = j
  · subst q
    rw [if_pos rfl, if_pos (by rw [List.length_set]; exact hs)]
    by_cases q0 : s = 0
    · rw [if_pos q0, q0]; rfl
    · rw [if_neg q0, if_pos rfl]; rfl
  · rw [if_neg q, List.getElem?_set]
    by_cases q0 : 0 = j
    · subst q0; rw [if_pos rfl, if_pos hj, if_pos rfl]; rfl
    · rw [if_neg q0, if_neg (fun x => q0 x.symm), if_neg (fun x => q x.symm), ← List.getD_eq_getElem?_getD]
def bgn (d : Dd) (s : Nat) : Dd := ⟨mpr s d.nx.length 0 (swl s [] d.nx), swl s 0 d.lb⟩
theorem bgn_row {d : Dd} {s i : Nat} (hd : d.Ok) (hs : s < d.nx.length) (hi : i < d.nx.length) : (bgn d s).nx.getD i [] = (d.nx.getD (swz s i) []).map (swI s) := by
  unfold bgn
  show (mpr s d.nx.length 0 (swl s [] d.nx)).getD i [] = _
  rw [mpr_get (by rw [swl_len]; exact hi), if_pos hi, swl_get hs hi, mps_all (by rw [hd.row _ (swz_lt hs hi)]; exact Nat.le_refl _)]
theorem bgn_n {d : Dd} (s : Nat) : (bgn d s).nx.length = d.nx.length := by unfold bgn; show (mpr s d.nx.length 0 (swl s [] d.nx)).length = _; rw [mpr_len, swl_len]
theorem bgn_to {d : Dd} {s i c : Nat} (hd : d.Ok) (hs : s < d.nx.length) (hi : i < d.nx.length) (hc : c < 256) : (bgn d s).ent i c = (swz s (d.to (swz s i) c) : Int) := by
  unfold Dd.ent
  rw [bgn_row hd hs hi]
  have hw := swz_lt hs hi
  have hr := hd.row _ hw
  have hcl : c < (d.nx.getD (swz s i) []).length := by rw [hr]; exact hc
  rw [List.getD_eq_getElem?_getD, List.getElem?_map, List.getElem?_eq_getElem hcl]
  show swI s _ = _
  have he := hd.ent _ c hw hc
  have e1 : d.ent (swz s i) c = (d.nx.getD (swz s i) [])[c] := by unfold Dd.ent; rw [getD_get hcl]
  have e2 : ((d.nx.getD (swz s i) [])[c]) = ((d.to (swz s i) c : Nat) : Int) := by rw [← e1]; unfold Dd.to; omega
  rw [e2, swI_nat]
theorem bgn_lab {d : Dd} {s i : Nat} (hd : d.Ok) (hs : s < d.nx.length) (hi : i < d.nx.length) : (bgn d s).lab i = d.lab (swz s i) := by
  have hl := hd.lbl
  unfold Dd.lab bgn
  exact swl_get (by omega) (by omega)
theorem bgn_ok {d : Dd} {s : Nat} (hd : d.Ok) (hs : s < d.nx.length) : (bgn d s).Ok := by
  refine ⟨by rw [bgn_n]; exact hd.pos, by rw [bgn_n]; exact hd.le, ?_, fun i hi => ?_, fun i c hi hc => ?_, fun i hi => ?_⟩
  · rw [bgn_n]; show (swl s 0 d.lb).length = _; rw [swl_len]; exact hd.lbl
  · rw [bgn_n] at hi
    rw [bgn_row hd hs hi, List.length_map]; exact hd.row _ (swz_lt hs hi)
  · rw [bgn_n] at hi ⊢
    rw [bgn_to hd hs hi hc]
    have := swz_lt hs (hd.to (swz_lt hs hi) hc)
    omega
  · rw [bgn_n] at hi
    rw [bgn_lab hd hs hi]; exact hd.lab _ (swz_lt hs hi)
theorem bgn_beh {d : Dd} {s : Nat} (hd : d.Ok) (hs : s < d.nx.length) : Beq ((bgn d s).beh 0) (d.beh s) :=
  beq_of_cong (fun i j => i < d.nx.length ∧ j = swz s i) (fun i j ⟨hi, e⟩ => by rw [e, bgn_lab hd hs hi]) (fun i j c ⟨hi, e⟩ hc => by
    subst e
    have h1 := bgn_to hd hs hi hc
    have h2 : (bgn d s).to i c = swz s (d.to (swz s i) c) := by unfold Dd.to at h1 ⊢; rw [h1]; omega
    rw [h2]
    exact ⟨swz_lt hs (hd.to (swz_lt hs hi) hc), (swz_swz _ _).symm⟩) 0 s ⟨by omega, by simp [swz]⟩
end Go.Proofs.YtniamfaiamgncaaDoor
namespace Go.Proofs.YtniamfaiamgncaaDoor
open Go Go.RowKit
theorem getD_set_at {α : Type} {L : List α} {i j : Nat} {x d : α} (hi : i < L.length) : (L.set i x).getD j d = if j = i then x else L.getD j d := by
  rw [List.getD_eq_getElem?_getD, List.getElem?_set]
  by_cases e : i = j
  · subst e; simp [hi]
  · rw [if_neg e, if_neg (fun q => e q.symm), ← List.getD_eq_getElem?_getD]
theorem OwnD.setc {w : World} {B : Nat} {vN vL : Value} {vs : List Value} {m : Dd} (h : OwnD w B vN vL vs m) {i c g l cap : Nat} (hi : i < m.nx.length) (hv : vs.getD i nilS = .slice (some ⟨g, 0, none⟩) l cap) (x : Int) :
    OwnD (w.setCell ⟨g, c, none⟩ (iv x)) B vN vL vs ⟨m.nx.set i ((m.nx.getD i []).set c x), m.lb⟩ := by
  have hb : (vs.getD i nilS).ownBlock = some g := by rw [hv]; rfl
  refine ⟨?_, own_set h.rl (fun q => h.dl i hi g q hb), fun j hj => ?_, fun j hj => h.dl j (by simpa using hj), fun j k hj hk => h.dd j k (by simpa using hj) (by simpa using hk)⟩
  · have := own_set (b := g) (i := c) (u := iv x) h.rn (own_ne_own h.rn (h.en i hi) (by decide) g hb)
    simpa using this
  · have hj' : j < m.nx.length := by simpa using hj
    clear hj
    have hj := hj'
    show (w.setCell ⟨g, c, none⟩ (iv x)).ownsRow B 3 1 (vs.getD j nilS) ((m.nx.set i ((m.nx.getD i []).set c x)).getD j []).length (((m.nx.set i ((m.nx.getD i []).set c x)).getD j []).map iv)
    rw [getD_set_at hi]
    by_cases e : j = i
    · subst e
      rw [if_pos rfl, List.length_set, List.map_set]
      have he := h.en j hj
      have hl : (m.nx.getD j []).length = l := by
        obtain ⟨a, c2, e2⟩ := own_shp he
        rw [hv] at e2; cases e2; rfl
      rw [hv, hl] at he ⊢
      exact (he.stored c (iv x)).1
    · rw [if_neg e]
      exact own_set (h.en j hj) (fun q => h.dd j i hj hi e g q hb)
theorem cell_drew (w : World) (a : Addr) : w.drew.cell? a = w.cell? a := rfl
theorem frz_drew (w : World) (a : Addr) : w.drew.frozen? a = w.frozen? a := rfl
theorem own_swap {w : World} {B e n g cap s : Nat} {xs : List Value} {d : Value} (h : w.ownsRow B e 1 (.slice (some ⟨g, 0, none⟩) n cap) n xs) :
    ((w.setCell ⟨g, 0, none⟩ (xs.getD s d)).setCell ⟨g, s, none⟩ (xs.getD 0 d)).ownsRow B e 1 (.slice (some ⟨g, 0, none⟩) n cap) n (swl s d xs) :=
  ((h.stored 0 (xs.getD s d)).1.stored s (xs.getD 0 d)).1
theorem OwnD.swapR {w : World} {B n g cap s : Nat} {vL : Value} {vs : List Value} {m : Dd} (h : OwnD w B (.slice (some ⟨g, 0, none⟩) n cap) vL vs m) (hn : m.nx.length = n) (hs : s < n) :
    OwnD ((w.setCell ⟨g, 0, none⟩ (vs.getD s nilS)).setCell ⟨g, s, none⟩ (vs.getD 0 nilS)) B (.slice (some ⟨g, 0, none⟩) n cap) vL (swl s nilS vs) ⟨swl s [] m.nx, m.lb⟩ := by
  have hrn := h.rn
  have hvl : vs.length = n := by have := h.rn.1; omega
  rw [hn] at hrn
  have hb : (Value.slice (some ⟨g, 0, none⟩) n cap).ownBlock = some g := rfl
  have hg : ∀ j, j < n → (swl s nilS vs).getD j nilS = vs.getD (swz s j) nilS := fun j hj => swl_get (by omega) (by omega)
  have hr : ∀ j, j < n → (swl s [] m.nx).getD j [] = m.nx.getD (swz s j) [] := fun j hj => swl_get (by omega) (by omega)
  have hz : ∀ j, j < n → swz s j < m.nx.length := fun j hj => by rw [hn]; exact swz_lt hs hj
  have hne : ∀ {k : Nat} {v : Value} {xs : List Value} , w.ownsRow B 3 1 v k xs → v.ownBlock ≠ some g := fun {k v xs} hk => own_ne_own hk hrn (by decide) g hb
  refine ⟨?_, own_set (own_set h.rl (hne h.rl)) (hne h.rl), fun j hj => ?_, fun j hj => ?_, fun j k hj hk hjk => ?_⟩
  · show _root_.Go.World.ownsRow _ _ _ _ _ (swl s [] m.nx).length _
    rw [swl_len, hn]; exact own_swap hrn
  · have hj : j < n := by have : j < (swl s [] m.nx).length := hj; rw [swl_len, hn] at this; exact this
    show _root_.Go.World.ownsRow _ _ _ _ ((swl s nilS vs).getD j nilS) ((swl s [] m.nx).getD j []).length (((swl s [] m.nx).getD j []).map iv)
    rw [hg j hj, hr j hj]
    have he := h.en _ (hz j hj)
    exact own_set (own_set he (hne he)) (hne he)
  · have hj : j < n := by have : j < (swl s [] m.nx).length := hj; rw [swl_len, hn] at this; exact this
    rw [hg j hj]; exact h.dl _ (hz j hj)
  · have hj : j < n := by have : j < (swl s [] m.nx).length := hj; rw [swl_len, hn] at this; exact this
    have hk : k < n := by have : k < (swl s [] m.nx).length := hk; rw [swl_len, hn] at this; exact this
    rw [hg j hj, hg k hk]
    exact h.dd _ _ (hz j hj) (hz k hk) (fun q => hjk (swz_inj q))
theorem OwnD.swapL {w : World} {B n g cap s : Nat} {vN : Value} {vs : List Value} {m : Dd} (h : OwnD w B vN (.slice (some ⟨g, 0, none⟩) n cap) vs m) (hn : m.lb.length = n) :
    OwnD ((w.setCell ⟨g, 0, none⟩ (iv (m.lb.getD s 0))).setCell ⟨g, s, none⟩ (iv (m.lb.getD 0 0))) B vN (.slice (some ⟨g, 0, none⟩) n cap) vs ⟨m.nx, swl s 0 m.lb⟩ := by
  have hrl := h.rl
  rw [hn] at hrl
  have hb : (Value.slice (some ⟨g, 0, none⟩) n cap).ownBlock = some g := rfl
  have hN : vN.ownBlock ≠ some g := own_ne_own h.rn hrl (by decide) g hb
  have hE : ∀ j, j < m.nx.length → (vs.getD j nilS).ownBlock ≠ some g := fun j hj => h.dl j hj g hb
  refine ⟨own_set (own_set h.rn hN) hN, ?_, fun j hj => own_set (own_set (h.en j hj) (hE j hj)) (hE j hj), h.dl, h.dd⟩
  show _root_.Go.World.ownsRow _ _ _ _ _ (swl s 0 m.lb).length ((swl s 0 m.lb).map iv)
  rw [swl_len, hn]
  have e : (swl s 0 m.lb).map iv = swl s (iv 0) (m.lb.map iv) := by
    unfold swl
    rw [List.map_set, List.map_set]
    have h0 : (m.lb.map iv).getD 0 (iv 0) = iv (m.lb.getD 0 0) := by simp [List.getD_eq_getElem?_getD]
    have h1 : (m.lb.map iv).getD s (iv 0) = iv (m.lb.getD s 0) := by simp [List.getD_eq_getElem?_getD]
    rw [h0, h1]
  rw [e]
  have h0 : (m.lb.map iv).getD 0 (iv 0) = iv (m.lb.getD 0 0) := by simp [List.getD_eq_getElem?_getD]
  have h1 : (m.lb.map iv).getD s (iv 0) = iv (m.lb.getD s 0) := by simp [List.getD_eq_getElem?_getD]
  rw [← h0, ← h1]
  exact own_swap hrl
theorem OwnD.cellN {w : World} {B g n cap i : Nat} {vL : Value} {vs : List Value} {m : Dd} (h : OwnD w B (.slice (some ⟨g, 0, none⟩) n cap) vL vs m) (hi : i < m.nx.length) : w.cell? ⟨g, i, none⟩ = some (vs.getD i nilS) := by
  have hr := h.rn
  obtain ⟨a, c, e⟩ := own_shp hr
  cases e
  have hvl := hr.1
  rw [hr.cellAt i (by omega), getD_get (by omega)]
  exact List.getElem?_eq_getElem _
theorem OwnD.cellE {w : World} {B g l cap i c : Nat} {vN vL : Value} {vs : List Value} {m : Dd} (h : OwnD w B vN vL vs m) (hi : i < m.nx.length) (hv : vs.getD i nilS = .slice (some ⟨g, 0, none⟩) l cap) (hc : c < (m.nx.getD i []).length) :
    w.cell? ⟨g, c, none⟩ = some (iv ((m.nx.getD i []).getD c 0)) ∧ w.frozen? ⟨g, c, none⟩ = false := by
  have he := h.en i hi
  rw [hv] at he
  obtain ⟨a, c2, e⟩ := own_shp he
  cases e
  refine ⟨?_, he.frozenAt c⟩
  rw [he.cellAt c (by omega), List.getElem?_map, List.getElem?_eq_getElem hc, getD_get hc]
  rfl
set_option maxHeartbeats 4000000 in
set_option maxRecDepth 20000 in
theorem begun_ok (d : Dd) (s : Nat) (v : Value) (w : World) (hd : d.Ok) (hs : s < d.nx.length) (h : Dns w v d) :
    Calls Tryd.prog 40 #[v, .int .i64 s] w fun e w' => ∃ vN vL vs, e = .returned (.agg #[vN, vL]) ∧ OwnD w' w.heap.size vN vL vs (bgn d s) ∧ Ext w w' := by
  obtain ⟨a, b, rfl, h1, h2⟩ := h
  obtain ⟨p, cap, rfl, _⟩ := h1.shape
  obtain ⟨p2, cap2, rfl, _⟩ := h2.shape
  obtain ⟨n, hn⟩ : ∃ n, d.nx.length = n := ⟨_, rfl⟩
  have hl : d.lb.length = n := by rw [hd.lbl, hn]
  have hdd : Dns w (.agg #[.slice p d.nx.length cap, .slice p2 d.lb.length cap2]) d := ⟨_, _, rfl, h1, h2⟩
  have h6 := hd.le
  rw [hn] at h6 hs
  rw [hn, hl] at hdd ⊢
  have hfew : d.Few := ⟨by omega, fun L hL => by obtain ⟨j, hj, rfl⟩ := List.getElem_of_mem hL; have := hd.row j hj; rw [getD_get hj] at this; omega, by omega⟩
  have hx : Ext w ((w.alloc (.cells #[.slice p n cap, .slice p2 n cap2] 25)).alloc (.cells #[.slice none 0 0, .slice none 0 0] 25)) := by go_grown
  have HR := Lib.hid (Blk.new (w.alloc (.cells #[.slice p n cap, .slice p2 n cap2] 25)) #[.slice none 0 0, .slice none 0 0] 25)
  rw [show (w.alloc (.cells #[.slice p n cap, .slice p2 n cap2] 25)).heap.size = w.heap.size + 1 by simp] at HR
  have C1 := Lib.hid (copyd_any d _ _ (hdd.ext hx) hfew)
  have HE := Lib.hid hx
  have HO := Lib.hid hd
  have HN := Lib.hid hn
  have HL := Lib.hid hl
  clear h1 h2 hd hdd hfew hx hn hl
  have z0 := ((Blk.new w #[.slice p n cap, .slice p2 n cap2] 25).alloc (.cells #[.slice none 0 0, .slice none 0 0] 25)).cell 0
  have z1 := ((Blk.new w #[.slice p n cap, .slice p2 n cap2] 25).alloc (.cells #[.slice none 0 0, .slice none 0 0] 25)).cell 1
  go_enter Tryd.func40, Tryd.ntmps40
  go_wp2_with fail
  refine C1.out.mono ?_; rintro e w1 ⟨vN, vL, vs, rfl, od, e1⟩
  have hrn := od.rn
  have hrl := od.rl
  rw [HN.out] at hrn
  rw [HL.out] at hrl
  obtain ⟨gN, cN, rfl, hcN, hgN, hgN', hmN⟩ := own_some hrn (by omega)
  obtain ⟨gL, cL, rfl, hcL, hgL, hgL', hmL⟩ := own_some hrl (by omega)
  have HR1 := Lib.hid (HR.out.ext e1)
  have hsz : w.heap.size + 1 < w1.heap.size := HR1.out.lt
  have hE1 := bel_call HE.out e1
  have hx1 : Ext w1 (w1.alloc (.cells #[.slice (some ⟨gN, 0, none⟩) n cN, .slice (some ⟨gL, 0, none⟩) n cL] 25)) := by go_grown
  have HB2 := Lib.hid (Blk.new w1 #[.slice (some ⟨gN, 0, none⟩) n cN, .slice (some ⟨gL, 0, none⟩) n cL] 25)
  have OD2 := Lib.hid ((od.ext hx1).mono (show w.heap.size + 2 ≤ _ by simp))
  have HR2 := Lib.hid (HR1.out.ext hx1)
  have E2 := Lib.hid (bel_call hE1 hx1)
  have HG := Lib.hid (show (w.heap.size + 2 ≤ gN ∧ gN < w1.heap.size) ∧ (w.heap.size + 2 ≤ gL ∧ gL < w1.heap.size) from ⟨⟨by simp at hgN; omega, hgN'⟩, ⟨by simp at hgL; omega, hgL'⟩⟩)
  clear od hrn hrl HR HR1 hE1 hx1 HE e1 z0 z1 C1 hgN hgL hgN' hgL'
  go_upto_region 2 with fail
  generalize w1.alloc (.cells #[.slice (some ⟨gN, 0, none⟩) n cN, .slice (some ⟨gL, 0, none⟩) n cL] 25) = w2 at *
  obtain ⟨lb, hlb⟩ : ∃ b, w1.heap.size = b := ⟨_, rfl⟩
  simp only [hlb] at HB2 HG hsz ⊢
  clear hlb
  obtain ⟨aS, cS, has⟩ := own_shp (OD2.out.en s (by rw [HN.out]; exact hs))
  obtain ⟨a0, c0, ha0⟩ := own_shp (OD2.out.en 0 (by rw [HN.out]; omega))
  have hrn := OD2.out.rn
  rw [HN.out] at hrn
  have hvl : vs.length = n := by have := hrn.1; omega
  have y0 := hrn.cellAt 0 (by omega)
  have y1 := hrn.cellAt s (by omega)
  have y2 := hrn.frozenAt 0
  have y3 := hrn.frozenAt s
  have hst := (hrn.stored 0 (vs.getD s nilS)).1
  rw [has, HO.out.row s (by rw [HN.out]; exact hs)] at hst
  obtain ⟨u4, y4⟩ : ∃ u, ((w2.setCell ⟨gN, 0, none⟩ (.slice aS 256 cS)).drew).cell? ⟨gN, s, none⟩ = some u := ⟨_, (cell_drew _ _).trans ((hst.cellAt s (by omega)).trans (List.getElem?_eq_getElem (by rw [List.length_set]; omega)))⟩
  have y5 : ((w2.setCell ⟨gN, 0, none⟩ (.slice aS 256 cS)).drew).frozen? ⟨gN, s, none⟩ = false := (frz_drew _ _).trans (hst.frozenAt s)
  have hv0 : vs[0]? = some (vs.getD 0 nilS) := by rw [getD_get (by omega)]; exact List.getElem?_eq_getElem _
  have hvs : vs[s]? = some (vs.getD s nilS) := by rw [getD_get (by omega)]; exact List.getElem?_eq_getElem _
  rw [hv0, ha0, HO.out.row 0 (by rw [HN.out]; omega)] at y0
  rw [hvs, has, HO.out.row s (by rw [HN.out]; exact hs)] at y1
  have ODs := Lib.hid (OD2.out.swapR HN.out hs)
  rw [ha0, has, HO.out.row 0 (by rw [HN.out]; omega), HO.out.row s (by rw [HN.out]; exact hs)] at ODs
  have z0 := HB2.out.cell 0
  have z1 := HB2.out.cell 1
  have hne : gN ≠ lb := by have := HG.out.1; omega
  have z2 : ((w2.setCell ⟨gN, 0, none⟩ (.slice aS 256 cS)).drew).cell? ⟨lb, 0, none⟩ = some (.slice (some ⟨gN, 0, none⟩) n cN) := (cell_drew _ _).trans ((HB2.out.set_other (a := ⟨gN, 0, none⟩) hne _).cell 0)
  clear hrn hvl hv0 hvs ha0 has hst
  go_region
  have OD3 := Lib.hid (ODs.out.ext (drew_ext _))
  have HB3 := Lib.hid (((HB2.out.set_other (a := ⟨gN, 0, none⟩) hne (.slice aS 256 cS)).set_other (a := ⟨gN, s, none⟩) hne (.slice a0 256 c0)).ext (drew_ext _))
  have HR3 := Lib.hid (((HR2.out.set_other (a := ⟨gN, 0, none⟩) (show gN ≠ w.heap.size + 1 by have := HG.out.1; omega) (.slice aS 256 cS)).set_other (a := ⟨gN, s, none⟩) (show gN ≠ w.heap.size + 1 by have := HG.out.1; omega) (.slice a0 256 c0)).ext (drew_ext _))
  have E3 := Lib.hid (bel_call ((E2.out.setCell (p := ⟨gN, 0, none⟩) (by show w.heap.size ≤ gN; have := HG.out.1; omega) (.slice aS 256 cS)).setCell (p := ⟨gN, s, none⟩) (by show w.heap.size ≤ gN; have := HG.out.1; omega) (.slice a0 256 c0)) (drew_ext _))
  clear OD2 ODs HB2 HR2 E2 y0 y1 y2 y3 y4 y5 z0 z1 z2
  generalize ((w2.setCell ⟨gN, 0, none⟩ (.slice aS 256 cS)).setCell ⟨gN, s, none⟩ (.slice a0 256 c0)).drew = w3 at *
  as_aux_lemma =>
    go_upto_region 3 with fail
    have hrl := OD3.out.rl
    have e3 : (Dd.mk (swl s [] d.nx) d.lb).lb.length = n := HL.out
    rw [e3] at hrl
    have hvl : (d.lb.map iv).length = n := by rw [List.length_map]; exact HL.out
    have y0 := hrl.cellAt 0 (by omega)
    have y1 := hrl.cellAt s (by omega)
    have y2 := hrl.frozenAt 0
    have y3 := hrl.frozenAt s
    have hv0 : ((Dd.mk (swl s [] d.nx) d.lb).lb.map iv)[0]? = some (iv (d.lb.getD 0 0)) := by
      show (d.lb.map iv)[0]? = _
      rw [List.getElem?_map, List.getElem?_eq_getElem (by rw [HL.out]; omega), getD_get (by rw [HL.out]; omega)]; rfl
    have hvs : ((Dd.mk (swl s [] d.nx) d.lb).lb.map iv)[s]? = some (iv (d.lb.getD s 0)) := by
      show (d.lb.map iv)[s]? = _
      rw [List.getElem?_map, List.getElem?_eq_getElem (by rw [HL.out]; omega), getD_get (by rw [HL.out]; omega)]; rfl
    rw [hv0] at y0
    rw [hvs] at y1
    have ODs := Lib.hid (OD3.out.swapL (s := s) HL.out)
    have hst := (hrl.stored 0 (iv (d.lb.getD s 0))).1
    obtain ⟨u4, y4⟩ : ∃ u, ((w3.setCell ⟨gL, 0, none⟩ (iv (d.lb.getD s 0))).drew).cell? ⟨gL, s, none⟩ = some u := ⟨_, (cell_drew _ _).trans ((hst.cellAt s (by omega)).trans (List.getElem?_eq_getElem (by rw [List.length_set]; show s < (d.lb.map iv).length; omega)))⟩
    have y5 : ((w3.setCell ⟨gL, 0, none⟩ (iv (d.lb.getD s 0))).drew).frozen? ⟨gL, s, none⟩ = false := (frz_drew _ _).trans (hst.frozenAt s)
    have hneL : gL ≠ lb := by have := HG.out.2; omega
    have z1 := HB3.out.cell 1
    have z2 : ((w3.setCell ⟨gL, 0, none⟩ (iv (d.lb.getD s 0))).drew).cell? ⟨lb, 1, none⟩ = some (.slice (some ⟨gL, 0, none⟩) n cL) := (cell_drew _ _).trans ((HB3.out.set_other (a := ⟨gL, 0, none⟩) hneL _).cell 1)
    have ODs : Hid (OwnD _ _ _ _ _ ⟨swl s [] d.nx, swl s 0 d.lb⟩) := ODs
    obtain ⟨x0, hx0⟩ : ∃ x, d.lb.getD 0 0 = x := ⟨_, rfl⟩
    obtain ⟨xs, hxs⟩ : ∃ x, d.lb.getD s 0 = x := ⟨_, rfl⟩
    have hq : Hid (OwnD ((w3.setCell ⟨gL, 0, none⟩ (iv xs)).setCell ⟨gL, s, none⟩ (iv x0)) (w.heap.size + 2) (.slice (some ⟨gN, 0, none⟩) n cN) (.slice (some ⟨gL, 0, none⟩) n cL) (swl s nilS vs) ⟨swl s [] d.nx, swl s 0 d.lb⟩) := by
      have := ODs.out
      rw [← hx0, ← hxs]
      exact this
    rw [hx0] at y0
    rw [hxs] at y1 y4 y5 z2
    clear hrl hvl hv0 hvs hst e3 hx0 hxs ODs
    go_region
    as_aux_lemma =>
      have OD4 := Lib.hid (hq.out.ext (drew_ext _))
      have HB4 := Lib.hid (((HB3.out.set_other (a := ⟨gL, 0, none⟩) hneL (iv xs)).set_other (a := ⟨gL, s, none⟩) hneL (iv x0)).ext (drew_ext _))
      have HR4 := Lib.hid (((HR3.out.set_other (a := ⟨gL, 0, none⟩) (show gL ≠ w.heap.size + 1 by have := HG.out.2; omega) (iv xs)).set_other (a := ⟨gL, s, none⟩) (show gL ≠ w.heap.size + 1 by have := HG.out.2; omega) (iv x0)).ext (drew_ext _))
      have E4 := Lib.hid (bel_call ((E3.out.setCell (p := ⟨gL, 0, none⟩) (by show w.heap.size ≤ gL; have := HG.out.2; omega) (iv xs)).setCell (p := ⟨gL, s, none⟩) (by show w.heap.size ≤ gL; have := HG.out.2; omega) (iv x0)) (drew_ext _))
      clear OD3 hq HB3 HR3 E3 y0 y1 y2 y3 y4 y5 z1 z2
      generalize ((w3.setCell ⟨gL, 0, none⟩ (.int .i64 xs)).setCell ⟨gL, s, none⟩ (.int .i64 x0)).drew = w4 at *
      have HBN := Lib.hid (show bgn d s = ⟨mpr s n 0 (swl s [] d.nx), swl s 0 d.lb⟩ by unfold bgn; rw [HN.out])
      have HRL := Lib.hid (show (swl s [] d.nx).length = n by rw [swl_len]; exact HN.out)
      have HRR := Lib.hid (show ∀ j, j < n → ((swl s [] d.nx).getD j []).length = 256 from fun j hj => by
        rw [swl_get (by rw [HN.out]; exact hs) (by rw [HN.out]; exact hj)]; exact HO.out.row _ (by rw [HN.out]; exact swz_lt hs hj))
      have HRE := Lib.hid (show ∀ j c, j < n → c < 256 → 0 ≤ ((swl s [] d.nx).getD j []).getD c 0 ∧ ((swl s [] d.nx).getD j []).getD c 0 < n from fun j c hj hc => by
        rw [swl_get (by rw [HN.out]; exact hs) (by rw [HN.out]; exact hj)]
        have := HO.out.ent (swz s j) c (by rw [HN.out]; exact swz_lt hs hj) hc
        rw [HN.out] at this
        exact this)
      have HLL := Lib.hid (show (swl s 0 d.lb).length = n by rw [swl_len]; exact HL.out)
      generalize swl s 0 d.lb = L0 at *
      generalize hR0 : swl s [] d.nx = R0 at *
      generalize hVS : swl s nilS vs = vz at *
      clear hR0 hVS
      have z0 := HB4.out.cell 0
      go_wp2_with fail
      go_loopw [6] (fun s6 wr => ∃ i : Nat, i ≤ n ∧ s6 = .int .i64 i ∧ Hid (OwnD wr (w.heap.size + 2) (.slice (some ⟨gN, 0, none⟩) n cN) (.slice (some ⟨gL, 0, none⟩) n cL) vz ⟨mpr s i 0 R0, L0⟩) ∧ Hid (Blk wr lb #[.slice (some ⟨gN, 0, none⟩) n cN, .slice (some ⟨gL, 0, none⟩) n cL] 25) ∧ Hid (Blk wr (w.heap.size + 1) #[.slice none 0 0, .slice none 0 0] 25) ∧ Hid (Ext w wr)) (fun s6 _ => n - (intOf s6).toNat)
      case atStart => exact ⟨0, Nat.zero_le _, rfl, by rw [mpr_zero]; exact OD4, HB4, HR4, E4⟩
      case round =>
        clear OD4 HB4 HR4 E4 z0
        obtain ⟨i, hi, rfl, hO, hB, hR, hE⟩ := hrel
        by_cases hin : i < n
        · have z0 := hB.out.cell 0
          go_wp2_with fail
          go_loopw [7] (fun s7 wr => ∃ c : Nat, c ≤ 256 ∧ s7 = .int .i64 c ∧ Hid (OwnD wr (w.heap.size + 2) (.slice (some ⟨gN, 0, none⟩) n cN) (.slice (some ⟨gL, 0, none⟩) n cL) vz ⟨mpr s i c R0, L0⟩) ∧ Hid (Blk wr lb #[.slice (some ⟨gN, 0, none⟩) n cN, .slice (some ⟨gL, 0, none⟩) n cL] 25) ∧ Hid (Blk wr (w.heap.size + 1) #[.slice none 0 0, .slice none 0 0] 25) ∧ Hid (Ext w wr)) (fun s7 _ => 256 - (intOf s7).toNat)
          case atStart => exact ⟨0, Nat.zero_le _, rfl, hO, hB, hR, hE⟩
          case round =>
            clear hO hB hR hE z0
            obtain ⟨c, hc, rfl, hO, hB, hR, hE⟩ := hrel
            by_cases hcn : c < 256
            · have hi1 : i < R0.length := by rw [HRL.out]; exact hin
              have hi2 : i < (Dd.mk (mpr s i c R0) L0).nx.length := by show i < (mpr s i c R0).length; rw [mpr_len]; exact hi1
              have hc1 : c < (R0.getD i []).length := by rw [HRR.out i hin]; exact hcn
              have hlen : ((Dd.mk (mpr s i c R0) L0).nx.getD i []).length = 256 := by
                show ((mpr s i c R0).getD i []).length = 256
                rw [mpr_here hi1, mps_len]; exact HRR.out i hin
              have hent : ((Dd.mk (mpr s i c R0) L0).nx.getD i []).getD c 0 = (R0.getD i []).getD c 0 := by
                show ((mpr s i c R0).getD i []).getD c 0 = _
                rw [mpr_here hi1]; exact mps_get hc1
              have hen := hO.out.en i hi2
              rw [hlen] at hen
              obtain ⟨g, cg, hv, _, hgB, _, _⟩ := own_some hen (by omega)
              have y0 := hO.out.cellN hi2
              rw [hv] at y0
              obtain ⟨y1, y2⟩ := hO.out.cellE hi2 hv (c := c) (by rw [hlen]; exact hcn)
              rw [hent] at y1
              have hgl : g ≠ lb := fun q => own_ne_blk hen hB.out (by decide) (by rw [hv, q]; rfl)
              have hgr : g ≠ w.heap.size + 1 := by omega
              have HV := Lib.hid hv
              have z0 := hB.out.cell 0
              have hre := HRE.out i c hin hcn
              have HSET := Lib.hid (fun x (hx : x = swI s ((R0.getD i []).getD c 0)) => show OwnD (wr.setCell ⟨g, c, none⟩ (iv x)) (w.heap.size + 2) (.slice (some ⟨gN, 0, none⟩) n cN) (.slice (some ⟨gL, 0, none⟩) n cL) vz ⟨mpr s i (c + 1) R0, L0⟩ by
                have := hO.out.setc (c := c) hi2 hv x
                have e : (mpr s i c R0).set i (((mpr s i c R0).getD i []).set c x) = mpr s i (c + 1) R0 := by rw [mpr_here hi1, hx]; exact mpr_set hc1
                rw [← e]; exact this)
              have HSAME := Lib.hid (fun (hx : swI s ((R0.getD i []).getD c 0) = (R0.getD i []).getD c 0) => (mpr_same hi1 hc1 hx).symm)
              obtain ⟨e, he⟩ : ∃ e, (R0.getD i []).getD c 0 = e := ⟨_, rfl⟩
              rw [he] at y1 hre HSET HSAME
              clear hen hv hlen hent hi1 hi2 hc1 he
              by_cases q0 : e = 0
              · subst q0
                have O9 := Lib.hid (HSET.out s (by simp [swI]))
                have B9 := Lib.hid (hB.out.set_other (a := ⟨g, c, none⟩) hgl (iv s))
                have R9 := Lib.hid (hR.out.set_other (a := ⟨g, c, none⟩) hgr (iv s))
                have E9 := Lib.hid (hE.out.setCell (p := ⟨g, c, none⟩) (by show w.heap.size ≤ g; omega) (iv s))
                clear HSET HSAME hO hB hR hE
                go_wp2_with fail
                go_roundw
                case rel => exact ⟨c + 1, by omega, by go_num, O9, B9, R9, E9⟩
                case measure => simp [intOf]; omega
              · have t1 : (e == 0) = false := by simpa using q0
                by_cases q1 : e = s
                · subst q1
                  have O9 := Lib.hid (HSET.out 0 (by unfold swI; rw [if_neg q0, if_pos rfl]))
                  have B9 := Lib.hid (hB.out.set_other (a := ⟨g, c, none⟩) hgl (iv 0))
                  have R9 := Lib.hid (hR.out.set_other (a := ⟨g, c, none⟩) hgr (iv 0))
                  have E9 := Lib.hid (hE.out.setCell (p := ⟨g, c, none⟩) (by show w.heap.size ≤ g; omega) (iv 0))
                  clear HSET HSAME hO hB hR hE q0
                  go_wp2_with fail
                  go_roundw
                  case rel => exact ⟨c + 1, by omega, by go_num, O9, B9, R9, E9⟩
                  case measure => simp [intOf]; omega
                · have t2 : (e == (s : Int)) = false := by simpa using q1
                  have e9 := HSAME.out (by unfold swI; rw [if_neg q0, if_neg q1])
                  have O9 := hO.out
                  rw [e9] at O9
                  have O9 := Lib.hid O9
                  clear HSET HSAME hO e9 q0 q1
                  go_wp2_with fail
                  go_roundw
                  case rel => exact ⟨c + 1, by omega, by go_num, O9, hB, hR, hE⟩
                  case measure => simp [intOf]; omega
            · obtain rfl : c = 256 := by omega
              have O9 := hO.out
              rw [mpr_next] at O9
              have O9 := Lib.hid O9
              clear hO
              go_wp2_with fail
              go_roundw
              case rel => exact ⟨i + 1, by omega, by go_num, O9, hB, hR, hE⟩
              case measure => simp [intOf]; omega
        · obtain rfl : n = i := by omega
          have O9 := hO.out
          rw [← HBN.out] at O9
          have z0 := hB.out.cell 0
          have z1 := hB.out.cell 1
          have f0 := hR.out.free 0
          have p0 := hR.out.cell 0
          have p1 := (hR.out.set 0 (.slice (some ⟨gN, 0, none⟩) n cN)).cell 1
          have f1 := (hR.out.set 0 (.slice (some ⟨gN, 0, none⟩) n cN)).free 1
          have BF := (hR.out.set 0 (.slice (some ⟨gN, 0, none⟩) n cN)).set 1 (.slice (some ⟨gL, 0, none⟩) n cL)
          have r0 := BF.cell 0
          have r1 := BF.cell 1
          have OD9 := Lib.hid (((O9.put (k := 0) (u := .slice (some ⟨gN, 0, none⟩) n cN) (show w.heap.size + 1 < w.heap.size + 2 by omega)).put (k := 1) (u := .slice (some ⟨gL, 0, none⟩) n cL) (show w.heap.size + 1 < w.heap.size + 2 by omega)).mono (show w.heap.size ≤ w.heap.size + 2 by omega))
          have EX9 := Lib.hid (show Ext w ((wr.setCell ⟨w.heap.size + 1, 0, none⟩ (.slice (some ⟨gN, 0, none⟩) n cN)).setCell ⟨w.heap.size + 1, 1, none⟩ (.slice (some ⟨gL, 0, none⟩) n cL)) from
            ((hE.out).setCell (p := ⟨w.heap.size + 1, 0, none⟩) (by show w.heap.size ≤ w.heap.size + 1; omega) _).setCell (p := ⟨w.heap.size + 1, 1, none⟩) (by show w.heap.size ≤ w.heap.size + 1; omega) _)
          clear hO O9 BF hB hR hE
          go_wp2_with fail
          refine bodyPost_ret (v := .agg #[.slice (some ⟨gN, 0, none⟩) n cN, .slice (some ⟨gL, 0, none⟩) n cL]) (by simp [results, Tryd.results40, go_sem, r0, r1]) rfl ⟨_, _, _, rfl, OD9.out, EX9.out⟩
end Go.Proofs.YtniamfaiamgncaaDoor
