/- rows' columns: pieces held against each other; a column made; two columns held against each other. -/
import Derived.Test.YtgcjclglhijchaaDoorGn
import Derived.Test.YtgcjclglhijchaaDoorRwq
import Derived.Test.YtgcjclglhijchaaDoorChm
import Derived.ChangeKeysEq
namespace Go.Proofs.YtgcjclglhijchaaDoor
open Go Go.RowKit
theorem int_size1 : (Tryd.prog.info? 3).map (fun i => i.size) = some 1 := by kernel_rfl
theorem pc_part (x0 x1 x2 x3 x4 x5 x6 x7 : Int) (w : World) : ∀ i, i < 8 → (part 3 #[Value.int .i64 x0, Value.int .i64 x1, Value.int .i64 x2, Value.int .i64 x3, Value.int .i64 x4, Value.int .i64 x5, Value.int .i64 x6, Value.int .i64 x7] (i * 1)).run Tryd.prog w = .ok (#[Value.int .i64 x0, Value.int .i64 x1, Value.int .i64 x2, Value.int .i64 x3, Value.int .i64 x4, Value.int .i64 x5, Value.int .i64 x6, Value.int .i64 x7].getD i undef) w
  | 0, _ => by kernel_rfl
  | 1, _ => by kernel_rfl
  | 2, _ => by kernel_rfl
  | 3, _ => by kernel_rfl
  | 4, _ => by kernel_rfl
  | 5, _ => by kernel_rfl
  | 6, _ => by kernel_rfl
  | 7, _ => by kernel_rfl
  | n + 8, h => by omega
theorem i64_equal (d : Nat) (x y : Int) (w : World) : (Op.equalIn (d + 1) 3 (.int .i64 x) (.int .i64 y)).run Tryd.prog w = .ok (x == y) w := by
  have hu : Tryd.prog.underlying 3 = some (.int .i64) := by kernel_rfl
  simp [Op.equalIn, run_underlying hu]
theorem pc_step (d : Nat) (x0 x1 x2 x3 x4 x5 x6 x7 y0 y1 y2 y3 y4 y5 y6 y7 : Int) (w : World) (i : Nat) (is : List Nat) (hi : i < 8) (x y : Int)
    (hx : #[Value.int .i64 x0, Value.int .i64 x1, Value.int .i64 x2, Value.int .i64 x3, Value.int .i64 x4, Value.int .i64 x5, Value.int .i64 x6, Value.int .i64 x7].getD i undef = .int .i64 x) (hy : #[Value.int .i64 y0, Value.int .i64 y1, Value.int .i64 y2, Value.int .i64 y3, Value.int .i64 y4, Value.int .i64 y5, Value.int .i64 y6, Value.int .i64 y7].getD i undef = .int .i64 y) :
    (Op.eqItems (d + 1) 3 1 #[Value.int .i64 x0, Value.int .i64 x1, Value.int .i64 x2, Value.int .i64 x3, Value.int .i64 x4, Value.int .i64 x5, Value.int .i64 x6, Value.int .i64 x7] #[Value.int .i64 y0, Value.int .i64 y1, Value.int .i64 y2, Value.int .i64 y3, Value.int .i64 y4, Value.int .i64 y5, Value.int .i64 y6, Value.int .i64 y7] (i :: is)).run Tryd.prog w =
      if x = y then (Op.eqItems (d + 1) 3 1 #[Value.int .i64 x0, Value.int .i64 x1, Value.int .i64 x2, Value.int .i64 x3, Value.int .i64 x4, Value.int .i64 x5, Value.int .i64 x6, Value.int .i64 x7] #[Value.int .i64 y0, Value.int .i64 y1, Value.int .i64 y2, Value.int .i64 y3, Value.int .i64 y4, Value.int .i64 y5, Value.int .i64 y6, Value.int .i64 y7] is).run Tryd.prog w else .ok false w := by
  rw [Op.eqItems, Sem.run_bind, pc_part _ _ _ _ _ _ _ _ _ i hi, Result.andThen_ok, Sem.run_bind, pc_part _ _ _ _ _ _ _ _ _ i hi, Result.andThen_ok, Sem.run_bind, hx, hy, i64_equal, Result.andThen_ok]
  by_cases h : x = y
  · simp [h]
  · have : (x == y) = false := by simpa using h
    simp [h]
theorem pc_equal8 (d : Nat) (x0 x1 x2 x3 x4 x5 x6 x7 y0 y1 y2 y3 y4 y5 y6 y7 : Int) (w : World) : (Op.equalIn (d + 2) 91 (.agg #[Value.int .i64 x0, Value.int .i64 x1, Value.int .i64 x2, Value.int .i64 x3, Value.int .i64 x4, Value.int .i64 x5, Value.int .i64 x6, Value.int .i64 x7]) (.agg #[Value.int .i64 y0, Value.int .i64 y1, Value.int .i64 y2, Value.int .i64 y3, Value.int .i64 y4, Value.int .i64 y5, Value.int .i64 y6, Value.int .i64 y7])).run Tryd.prog w = .ok (decide ([x0, x1, x2, x3, x4, x5, x6, x7] = [y0, y1, y2, y3, y4, y5, y6, y7])) w := by
  obtain ⟨i, hi, _⟩ : ∃ i, Tryd.prog.info? 3 = some i ∧ i.size = 1 := by
    have := int_size1
    cases h : Tryd.prog.info? 3 with
    | none => rw [h] at this; cases this
    | some i => rw [h] at this; exact ⟨i, rfl, by simpa using this⟩
  have hu : Tryd.prog.underlying 91 = some (.array 8 3) := by kernel_rfl
  have hc : Tryd.prog.cellsOf 3 = 1 := by kernel_rfl
  rw [run_equalIn_array _ (d + 1) _ _ hu hi, hc]
  have hr : List.range 8 = [0, 1, 2, 3, 4, 5, 6, 7] := by decide
  rw [hr, pc_step d _ _ _ _ _ _ _ _ _ _ _ _ _ _ _ _ w 0 _ (by omega) _ _ rfl rfl, pc_step d _ _ _ _ _ _ _ _ _ _ _ _ _ _ _ _ w 1 _ (by omega) _ _ rfl rfl, pc_step d _ _ _ _ _ _ _ _ _ _ _ _ _ _ _ _ w 2 _ (by omega) _ _ rfl rfl, pc_step d _ _ _ _ _ _ _ _ _ _ _ _ _ _ _ _ w 3 _ (by omega) _ _ rfl rfl, pc_step d _ _ _ _ _ _ _ _ _ _ _ _ _ _ _ _ w 4 _ (by omega) _ _ rfl rfl, pc_step d _ _ _ _ _ _ _ _ _ _ _ _ _ _ _ _ w 5 _ (by omega) _ _ rfl rfl, pc_step d _ _ _ _ _ _ _ _ _ _ _ _ _ _ _ _ w 6 _ (by omega) _ _ rfl rfl, pc_step d _ _ _ _ _ _ _ _ _ _ _ _ _ _ _ _ w 7 _ (by omega) _ _ rfl rfl]
  have hn : (Op.eqItems (d + 1) 3 1 #[Value.int .i64 x0, Value.int .i64 x1, Value.int .i64 x2, Value.int .i64 x3, Value.int .i64 x4, Value.int .i64 x5, Value.int .i64 x6, Value.int .i64 x7] #[Value.int .i64 y0, Value.int .i64 y1, Value.int .i64 y2, Value.int .i64 y3, Value.int .i64 y4, Value.int .i64 y5, Value.int .i64 y6, Value.int .i64 y7] []).run Tryd.prog w = .ok true w := rfl
  rw [hn]
  by_cases h : [x0, x1, x2, x3, x4, x5, x6, x7] = [y0, y1, y2, y3, y4, y5, y6, y7]
  · simp only [List.cons.injEq, and_true] at h
    obtain ⟨rfl, rfl, rfl, rfl, rfl, rfl, rfl, rfl⟩ := h
    simp
  · rw [decide_eq_false h]
    simp only [List.cons.injEq, and_true, not_and] at h
    repeat' split
    all_goals first | rfl | (exfalso; exact h (by assumption) (by assumption) (by assumption) (by assumption) (by assumption) (by assumption) (by assumption) (by assumption))
def colL (R : List (List Int)) (b : Nat) : List Int := R.map fun r => r.getD b 0
abbrev pc0 : Value := .agg #[.int .i64 0, .int .i64 0, .int .i64 0, .int .i64 0, .int .i64 0, .int .i64 0, .int .i64 0, .int .i64 0]
theorem info_pc : (Tryd.prog.info? 91).map (fun i => (i.zero, i.size, i.bytes)) = some (some pc0, 8, 64) := by kernel_rfl
theorem made_pc (N : Nat) : (madeCells pc0.cells N).toList = List.replicate N (.int .i64 0) := by
  apply List.ext_getElem
  · simp [size_madeCells]
  · intro j h1 h2
    have hj : j % 8 < 8 := Nat.mod_lt _ (by decide)
    simp only [madeCells, Array.getElem_toList, Array.getElem_map, Array.getElem_range, List.getElem_replicate]
    show (#[Value.int .i64 0, Value.int .i64 0, Value.int .i64 0, Value.int .i64 0, Value.int .i64 0, Value.int .i64 0, Value.int .i64 0, Value.int .i64 0] : Array Value)[j % 8]! = _
    generalize j % 8 = q at hj
    match q, hj with
    | 0, _ => rfl
    | 1, _ => rfl
    | 2, _ => rfl
    | 3, _ => rfl
    | 4, _ => rfl
    | 5, _ => rfl
    | 6, _ => rfl
    | 7, _ => rfl
    | q + 8, h => omega
def cfil (R : List (List Int)) (b p k : Nat) : List Int := colL (R.take k) b ++ List.replicate (p * 8 - k) 0
theorem cfil_zero (R : List (List Int)) (b p : Nat) : cfil R b p 0 = List.replicate (p * 8) 0 := rfl
theorem cfil_set {R : List (List Int)} {b p k : Nat} (hk : k < R.length) (hp : R.length ≤ p * 8) : (cfil R b p k).set k (R[k].getD b 0) = cfil R b p (k + 1) := by
  unfold cfil colL
  have h1 : ((R.take k).map fun r => r.getD b 0).length = k := by rw [List.length_map, List.length_take]; omega
  rw [List.set_append_right _ _ (by omega), h1, Nat.sub_self, show p * 8 - k = (p * 8 - (k + 1)) + 1 by omega, List.replicate_succ, List.set_cons_zero, List.take_succ_eq_append_getElem hk, List.map_append, List.append_assoc]
  rfl
theorem cfil_len (R : List (List Int)) (b p : Nat) {k : Nat} (hk : k ≤ R.length) (hp : R.length ≤ p * 8) : (cfil R b p k).length = p * 8 := by
  unfold cfil colL
  rw [List.length_append, List.length_map, List.length_take, List.length_replicate]; omega
theorem cfil_get (R : List (List Int)) (b p j : Nat) (hj : j < p * 8) (hp : R.length ≤ p * 8) : (cfil R b p R.length)[j]? = some ((colL R b).getD j 0) := by
  unfold cfil
  rw [List.take_length]
  have hl : (colL R b).length = R.length := by simp [colL]
  by_cases h : j < R.length
  · rw [List.getElem?_append_left (by omega), getD_get (by omega), List.getElem?_eq_getElem]
  · rw [List.getElem?_append_right (by omega), List.getElem?_replicate, if_pos (by omega), List.getD_eq_getElem?_getD, List.getElem?_eq_none (by omega)]; rfl
/-- A column in memory: its numbers, and behind them noughts. -/
def Cown (w : World) (B : Nat) (v : Value) (p : Nat) (X : List Int) : Prop := ∃ g, v = .slice (some ⟨g, 0, none⟩) p p ∧ w.ownsRow B 91 8 v p (X.map iv)
theorem Cown.ext {w w' : World} {B : Nat} {v : Value} {p : Nat} {X : List Int} (h : Cown w B v p X) (hx : Ext w w') : Cown w' B v p X := by
  obtain ⟨g, e, hc⟩ := h
  exact ⟨g, e, own_ex hc hx⟩
def cfull (R : List (List Int)) (p b : Nat) : List Int := cfil R b p R.length
set_option maxHeartbeats 2000000 in
set_option maxRecDepth 20000 in
theorem col_any (R : List (List Int)) (b : Nat) (v : Value) (w : World) (h : Rws w v R) (hr : ∀ r ∈ R, r.length = 256) (hb : b < 256) (hn : R.length ≤ 600) :
    Calls Tryd.prog 69 #[v, .int .i64 (b : Int)] w fun e w' => ∃ u, e = .returned u ∧ Cown w' w.heap.size u ((R.length + 7) / 8) (cfull R ((R.length + 7) / 8) b) ∧ Ext w w' := by
  obtain ⟨i0, hi, hz0, hz1, hz2⟩ := info_parts info_pc
  obtain ⟨a, cap, rfl, _⟩ := h.shape
  have H := Lib.hid h
  have HR := Lib.hid hr
  obtain ⟨n, hn2⟩ : ∃ n, R.length = n := ⟨_, rfl⟩
  rw [hn2] at H hn ⊢
  have HN := Lib.hid hn2
  clear h hr hn2
  go_enter Tryd.func69, Tryd.ntmps69
  obtain ⟨p, hp⟩ : ∃ p, (n + 7) / 8 = p := ⟨_, rfl⟩
  have hpi : ((n : Int) + 8 - 1) / 8 = (p : Int) := by omega
  have hp8 : n ≤ p * 8 := by omega
  have hp6 : p ≤ 76 := by omega
  have HP := Lib.hid hp
  clear hp
  go_wp2_with (at_make; refine wpList_make_full _ rfl _ _ 86 rfl w.heap.size 91 i0 pc0 8 Tryd.underlying86 hi hz0 hz1 .i64 .i64 _ _ p rfl rfl (by omega) (by omega) (by rw [hz2]; omega) (by unfold maxLen; omega) (by omega) ?_; intro wm hown hgm)
  clear hpi
  have hown2 : wm.ownsRow w.heap.size 91 8 (.slice (some ⟨w.heap.size, 0, none⟩) p p) p ((cfil R b p 0).map iv) := by
    rw [cfil_zero, List.map_replicate, show iv 0 = Value.int .i64 0 from rfl, ← made_pc]; exact hown
  have HO := Lib.hid hown2
  have HE := Lib.hid (show Ext w wm from ⟨hgm.os, hgm.tape, hgm.output, hgm.size, fun k hk => hgm.block k hk (by simp)⟩)
  obtain ⟨g, hg⟩ : ∃ g, w.heap.size = g := ⟨_, rfl⟩
  have HG := Lib.hid hg
  simp only [hg] at HO ⊢
  clear hown hown2 hgm hg
  go_loopw [16] (fun i wr => ∃ k : Nat, k ≤ n ∧ i = .int .i64 k ∧ Hid (wr.ownsRow g 91 8 (.slice (some ⟨g, 0, none⟩) p p) p ((cfil R b p k).map iv)) ∧ Hid (Ext w wr)) (fun i _ => n - (intOf i).toNat)
  case atStart => exact ⟨0, Nat.zero_le _, rfl, HO, HE⟩
  case round =>
    clear HO HE
    obtain ⟨k, hk, rfl, hO, hE⟩ := hrel
    by_cases hkl : k < n
    · have hkR : k < R.length := by rw [HN.out]; exact hkl
      obtain ⟨bR, oR, aR, cR, rfl, hbR, hcR, hIR, -⟩ := (H.out.ext hE.out).cell hkR
      have hrl : R[k].length = 256 := HR.out _ (List.getElem_mem hkR)
      rw [hrl] at hcR hIR
      obtain ⟨bE, oE, rfl, hbE, hcE, -, -⟩ := hIR.cell (show b < R[k].length by omega)
      have hq : R[k].getD b 0 = R[k][b] := getD_get (by omega)
      have HS := cfil_set (b := b) (p := p) hkR (by rw [HN.out]; exact hp8)
      rw [hq] at HS
      obtain ⟨y, hy⟩ : ∃ y, R[k][b]'(by omega) = y := ⟨_, rfl⟩
      rw [hy] at hcE HS
      obtain ⟨q, r, hqr, hr8⟩ : ∃ q r, k = q * 8 + r ∧ r < 8 := ⟨k / 8, k % 8, by omega, by omega⟩
      have hq1 : (k : Int) / 8 = (q : Int) := by omega
      have hr1 : (k : Int) % 8 = (r : Int) := by omega
      have hqp : q < p := by omega
      have HCE := Lib.hid hcE
      have HQR := Lib.hid hqr
      have HSS := Lib.hid HS
      clear hq HS hy hIR hrl hqr
      go_upto_region 5 with fail
      refine G.wp_region_tail (G := Ext) (fun _ => none) 11 (by kernel_rfl) (by kernel_rfl) (fun _ _ h => by cases h) (fun hex => ?_)
      simp only [List.take_succ_cons, List.take_zero, List.drop_succ_cons, List.drop_zero]
      iterate 11
        (refine G.wpS_one (A := ?_) hex rfl rfl (by simp) ?_ ?_ ?_
         rotate_left 2
         · intro w' hC K hK
           have z1 := (hC.1.cell (p := ⟨bE, oE + b, none⟩) hbE).trans HCE.out
           go_wp2_with (fail)
           refine hK _ ?_
           first | exact Below.refl _ _ | assumption | ((repeat' (first | (with_reducible exact Below.refl _ _) | (with_reducible assumption) | (with_reducible refine below_drewN ?_ _) | (with_reducible refine Below.alloc ?_ ?_ _) | (with_reducible refine Below.drew ?_) | (with_reducible refine Below.setCell ?_ ?_ _) | (with_reducible refine Below.trans ?_ (Below.mono (by with_reducible assumption) ?_)) | go_size)))
         rotate_left 1
         · rfl
         clear hex; intro hex)
      refine G.wpS_nil fun w6 hAll => ?_
      have hO6 := own_ex hO.out hAll.1
      obtain ⟨y0, y1⟩ : ∃ u, w6.cell? ⟨g, q * 8 + r, none⟩ = some u := ⟨_, by rw [← HQR.out, hO6.cellAt k (by omega)]; exact List.getElem?_eq_getElem (by rw [hO6.1]; omega)⟩
      have O9 := (hO6.stored (q * 8 + r) (iv y)).1
      rw [← HQR.out, ← List.map_set, HSS.out, HQR.out] at O9
      have O9 := Lib.hid O9
      have hfz := hO6.frozenAt (q * 8 + r)
      have E9 := Lib.hid ((bel_call hE.out hAll.1).setCell (p := ⟨g, q * 8 + r, none⟩) (by show w.heap.size ≤ g; have := HG.out; omega) (iv y))
      clear hAll hex hO6
      go_wp2_with fail
      go_roundw
      case rel => exact ⟨k + 1, by omega, by go_num, Lib.hid (by rw [HQR.out]; exact O9.out), E9⟩
      case measure => simp [intOf]; omega
    · have ek : k = n := by omega
      have HEK := Lib.hid ek
      clear ek
      go_wp2_with fail
      go_ret
      refine ⟨_, rfl, ⟨g, by rw [HP.out]; rfl, ?_⟩, hE.out⟩
      have := hO.out
      rw [HEK.out] at this
      rw [HP.out, HG.out]
      unfold cfull
      rw [HN.out]
      exact this
theorem cfull_len (R : List (List Int)) {p : Nat} (b : Nat) (hp : R.length ≤ p * 8) : (cfull R p b).length = p * 8 := cfil_len R b p (Nat.le_refl _) hp
theorem cfull_eq (R : List (List Int)) {p : Nat} (a b : Nat) (hp : R.length ≤ p * 8) : decide (cfull R p a = cfull R p b) = alike R a b := by
  rw [Bool.eq_iff_iff, decide_eq_true_eq, alike_iff]
  constructor
  · intro h r hr
    obtain ⟨j, hj, rfl⟩ := List.getElem_of_mem hr
    have h1 := congrArg (fun l => l[j]?) h
    simp only [cfull] at h1
    rw [cfil_get R a p j (by omega) hp, cfil_get R b p j (by omega) hp] at h1
    have h1 := Option.some.inj h1
    unfold colL at h1
    rw [getD_get (by simpa using hj), getD_get (by simpa using hj), List.getElem_map, List.getElem_map] at h1
    exact h1
  · intro h
    unfold cfull cfil
    have : colL (R.take R.length) a = colL (R.take R.length) b := by
      rw [List.take_length]
      exact List.map_congr_left h
    rw [this]
theorem piece_no {X Y : List Int} {q : Nat} (hx : q * 8 + 8 ≤ X.length) (hy : q * 8 + 8 ≤ Y.length) (h : ¬ ([X[q * 8], X[q * 8 + 1], X[q * 8 + 2], X[q * 8 + 3], X[q * 8 + 4], X[q * 8 + 5], X[q * 8 + 6], X[q * 8 + 7]] = [Y[q * 8], Y[q * 8 + 1], Y[q * 8 + 2], Y[q * 8 + 3], Y[q * 8 + 4], Y[q * 8 + 5], Y[q * 8 + 6], Y[q * 8 + 7]])) : decide (X = Y) = false := by
  rw [decide_eq_false_iff_not]
  rintro rfl
  exact h rfl
theorem piece_yes {X Y : List Int} {q : Nat} (hx : q * 8 + 8 ≤ X.length) (hy : q * 8 + 8 ≤ Y.length) (h : [X[q * 8], X[q * 8 + 1], X[q * 8 + 2], X[q * 8 + 3], X[q * 8 + 4], X[q * 8 + 5], X[q * 8 + 6], X[q * 8 + 7]] = [Y[q * 8], Y[q * 8 + 1], Y[q * 8 + 2], Y[q * 8 + 3], Y[q * 8 + 4], Y[q * 8 + 5], Y[q * 8 + 6], Y[q * 8 + 7]]) (h0 : ∀ j, j < q * 8 → X[j]? = Y[j]?) : ∀ j, j < (q + 1) * 8 → X[j]? = Y[j]? := by
  intro j hj
  simp only [List.cons.injEq, and_true] at h
  obtain ⟨e0, e1, e2, e3, e4, e5, e6, e7⟩ := h
  by_cases hlt : j < q * 8
  · exact h0 j hlt
  · rw [List.getElem?_eq_getElem (by omega), List.getElem?_eq_getElem (by omega)]
    obtain ⟨r, rfl⟩ : ∃ r, j = q * 8 + r := ⟨j - q * 8, by omega⟩
    have hr : r < 8 := by omega
    match r, hr with
    | 0, _ => exact congrArg some e0
    | 1, _ => exact congrArg some e1
    | 2, _ => exact congrArg some e2
    | 3, _ => exact congrArg some e3
    | 4, _ => exact congrArg some e4
    | 5, _ => exact congrArg some e5
    | 6, _ => exact congrArg some e6
    | 7, _ => exact congrArg some e7
    | r + 8, h => omega
set_option maxHeartbeats 4000000 in
set_option maxRecDepth 20000 in
theorem eqcol_any (X Y : List Int) (p B1 B2 : Nat) (v u : Value) (w : World) (h : Cown w B1 v p X) (h' : Cown w B2 u p Y) (hx : X.length = p * 8) (hy : Y.length = p * 8) (hp : p ≤ 76) :
    Calls Tryd.prog 52 #[v, u] w fun e w' => e = .returned (.bool (decide (X = Y))) ∧ Ext w w' := by
  obtain ⟨g1, rfl, o1⟩ := h
  obtain ⟨g2, rfl, o2⟩ := h'
  have HO1 := Lib.hid o1
  have HO2 := Lib.hid o2
  have HXL := Lib.hid hx
  have HYL := Lib.hid hy
  clear o1 o2 hx hy
  go_enter Tryd.func52, Tryd.ntmps52
  go_wp2_with fail
  go_loopw [13] (fun i wr => ∃ q : Nat, q ≤ p ∧ i = .int .i64 q ∧ Hid (∀ j, j < q * 8 → X[j]? = Y[j]?) ∧ Hid (Ext w wr)) (fun i _ => p - (intOf i).toNat)
  case atStart => exact ⟨0, Nat.zero_le _, rfl, Lib.hid (fun j h => by omega), Lib.hid (Below.refl _ _)⟩
  case round =>
    obtain ⟨q, hq, rfl, hall, hE⟩ := hrel
    by_cases hqp : q < p
    · have hX8 : q * 8 + 8 ≤ X.length := by rw [HXL.out]; omega
      have hY8 : q * 8 + 8 ≤ Y.length := by rw [HYL.out]; omega
      have cx : ∀ r (hr : r < 8), w.cell? ⟨g1, q * 8 + r, none⟩ = some (.int .i64 (X[q * 8 + r]'(by omega))) := fun r hr => by
        rw [HO1.out.cellAt (q * 8 + r) (by omega), List.getElem?_map, List.getElem?_eq_getElem (by omega)]; rfl
      have cy : ∀ r (hr : r < 8), w.cell? ⟨g2, q * 8 + r, none⟩ = some (.int .i64 (Y[q * 8 + r]'(by omega))) := fun r hr => by
        rw [HO2.out.cellAt (q * 8 + r) (by omega), List.getElem?_map, List.getElem?_eq_getElem (by omega)]; rfl
      have CX := Lib.hid (fun r (hr : r < 8) => (hE.out.cell (p := ⟨g1, q * 8 + r, none⟩) (HO1.out.lt g1 rfl).2).trans (cx r hr))
      have CY := Lib.hid (fun r (hr : r < 8) => (hE.out.cell (p := ⟨g2, q * 8 + r, none⟩) (HO2.out.lt g2 rfl).2).trans (cy r hr))
      have HNO := Lib.hid (piece_no hX8 hY8)
      have HYE := Lib.hid (piece_yes hX8 hY8)
      have HEQ := Lib.hid (pc_equal8 9998 (X[q * 8]'(by omega)) (X[q * 8 + 1]'(by omega)) (X[q * 8 + 2]'(by omega)) (X[q * 8 + 3]'(by omega)) (X[q * 8 + 4]'(by omega)) (X[q * 8 + 5]'(by omega)) (X[q * 8 + 6]'(by omega)) (X[q * 8 + 7]'(by omega)) (Y[q * 8]'(by omega)) (Y[q * 8 + 1]'(by omega)) (Y[q * 8 + 2]'(by omega)) (Y[q * 8 + 3]'(by omega)) (Y[q * 8 + 4]'(by omega)) (Y[q * 8 + 5]'(by omega)) (Y[q * 8 + 6]'(by omega)) (Y[q * 8 + 7]'(by omega)))
      have HC8 := Lib.hid (fun w' (hx : Ext wr w') => And.intro ((hx.cell (p := ⟨g1, q * 8, none⟩) (by have := (HO1.out.lt g1 rfl).2; have := hE.out.size; show g1 < wr.heap.size; omega)).trans (CX.out 0 (by omega))) (And.intro ((hx.cell (p := ⟨g1, q * 8 + 1, none⟩) (by have := (HO1.out.lt g1 rfl).2; have := hE.out.size; show g1 < wr.heap.size; omega)).trans (CX.out 1 (by omega))) (And.intro ((hx.cell (p := ⟨g1, q * 8 + 2, none⟩) (by have := (HO1.out.lt g1 rfl).2; have := hE.out.size; show g1 < wr.heap.size; omega)).trans (CX.out 2 (by omega))) (And.intro ((hx.cell (p := ⟨g1, q * 8 + 3, none⟩) (by have := (HO1.out.lt g1 rfl).2; have := hE.out.size; show g1 < wr.heap.size; omega)).trans (CX.out 3 (by omega))) (And.intro ((hx.cell (p := ⟨g1, q * 8 + 4, none⟩) (by have := (HO1.out.lt g1 rfl).2; have := hE.out.size; show g1 < wr.heap.size; omega)).trans (CX.out 4 (by omega))) (And.intro ((hx.cell (p := ⟨g1, q * 8 + 5, none⟩) (by have := (HO1.out.lt g1 rfl).2; have := hE.out.size; show g1 < wr.heap.size; omega)).trans (CX.out 5 (by omega))) (And.intro ((hx.cell (p := ⟨g1, q * 8 + 6, none⟩) (by have := (HO1.out.lt g1 rfl).2; have := hE.out.size; show g1 < wr.heap.size; omega)).trans (CX.out 6 (by omega))) (And.intro ((hx.cell (p := ⟨g1, q * 8 + 7, none⟩) (by have := (HO1.out.lt g1 rfl).2; have := hE.out.size; show g1 < wr.heap.size; omega)).trans (CX.out 7 (by omega))) (And.intro ((hx.cell (p := ⟨g2, q * 8, none⟩) (by have := (HO2.out.lt g2 rfl).2; have := hE.out.size; show g2 < wr.heap.size; omega)).trans (CY.out 0 (by omega))) (And.intro ((hx.cell (p := ⟨g2, q * 8 + 1, none⟩) (by have := (HO2.out.lt g2 rfl).2; have := hE.out.size; show g2 < wr.heap.size; omega)).trans (CY.out 1 (by omega))) (And.intro ((hx.cell (p := ⟨g2, q * 8 + 2, none⟩) (by have := (HO2.out.lt g2 rfl).2; have := hE.out.size; show g2 < wr.heap.size; omega)).trans (CY.out 2 (by omega))) (And.intro ((hx.cell (p := ⟨g2, q * 8 + 3, none⟩) (by have := (HO2.out.lt g2 rfl).2; have := hE.out.size; show g2 < wr.heap.size; omega)).trans (CY.out 3 (by omega))) (And.intro ((hx.cell (p := ⟨g2, q * 8 + 4, none⟩) (by have := (HO2.out.lt g2 rfl).2; have := hE.out.size; show g2 < wr.heap.size; omega)).trans (CY.out 4 (by omega))) (And.intro ((hx.cell (p := ⟨g2, q * 8 + 5, none⟩) (by have := (HO2.out.lt g2 rfl).2; have := hE.out.size; show g2 < wr.heap.size; omega)).trans (CY.out 5 (by omega))) (And.intro ((hx.cell (p := ⟨g2, q * 8 + 6, none⟩) (by have := (HO2.out.lt g2 rfl).2; have := hE.out.size; show g2 < wr.heap.size; omega)).trans (CY.out 6 (by omega))) ((hx.cell (p := ⟨g2, q * 8 + 7, none⟩) (by have := (HO2.out.lt g2 rfl).2; have := hE.out.size; show g2 < wr.heap.size; omega)).trans (CY.out 7 (by omega))))))))))))))))))
      obtain ⟨a0, ha0⟩ : ∃ z, X[q * 8]'(by omega) = z := ⟨_, rfl⟩
      obtain ⟨b0, hb0⟩ : ∃ z, Y[q * 8]'(by omega) = z := ⟨_, rfl⟩
      obtain ⟨a1, ha1⟩ : ∃ z, X[q * 8 + 1]'(by omega) = z := ⟨_, rfl⟩
      obtain ⟨b1, hb1⟩ : ∃ z, Y[q * 8 + 1]'(by omega) = z := ⟨_, rfl⟩
      obtain ⟨a2, ha2⟩ : ∃ z, X[q * 8 + 2]'(by omega) = z := ⟨_, rfl⟩
      obtain ⟨b2, hb2⟩ : ∃ z, Y[q * 8 + 2]'(by omega) = z := ⟨_, rfl⟩
      obtain ⟨a3, ha3⟩ : ∃ z, X[q * 8 + 3]'(by omega) = z := ⟨_, rfl⟩
      obtain ⟨b3, hb3⟩ : ∃ z, Y[q * 8 + 3]'(by omega) = z := ⟨_, rfl⟩
      obtain ⟨a4, ha4⟩ : ∃ z, X[q * 8 + 4]'(by omega) = z := ⟨_, rfl⟩
      obtain ⟨b4, hb4⟩ : ∃ z, Y[q * 8 + 4]'(by omega) = z := ⟨_, rfl⟩
      obtain ⟨a5, ha5⟩ : ∃ z, X[q * 8 + 5]'(by omega) = z := ⟨_, rfl⟩
      obtain ⟨b5, hb5⟩ : ∃ z, Y[q * 8 + 5]'(by omega) = z := ⟨_, rfl⟩
      obtain ⟨a6, ha6⟩ : ∃ z, X[q * 8 + 6]'(by omega) = z := ⟨_, rfl⟩
      obtain ⟨b6, hb6⟩ : ∃ z, Y[q * 8 + 6]'(by omega) = z := ⟨_, rfl⟩
      obtain ⟨a7, ha7⟩ : ∃ z, X[q * 8 + 7]'(by omega) = z := ⟨_, rfl⟩
      obtain ⟨b7, hb7⟩ : ∃ z, Y[q * 8 + 7]'(by omega) = z := ⟨_, rfl⟩
      simp only [Nat.add_zero, ha0, hb0, ha1, hb1, ha2, hb2, ha3, hb3, ha4, hb4, ha5, hb5, ha6, hb6, ha7, hb7] at HC8 HNO HYE HEQ
      clear CX CY cx cy ha0 hb0 ha1 hb1 ha2 hb2 ha3 hb3 ha4 hb4 ha5 hb5 ha6 hb6 ha7 hb7
      obtain ⟨bb, hbb⟩ : ∃ bb, decide ([a0, a1, a2, a3, a4, a5, a6, a7] = [b0, b1, b2, b3, b4, b5, b6, b7]) = bb := ⟨_, rfl⟩
      rw [hbb] at HEQ
      have HBB := Lib.hid hbb
      clear hbb
      go_upto_region 6 with fail
      refine G.wp_region_stab (G := Ext) (fun _ => none) (by kernel_rfl) (by kernel_rfl) (fun _ _ h => by cases h) (fun hex => ?_)
      iterate 9
        (refine G.wpS_one (A := ?_) hex rfl rfl (by simp) ?_ ?_ ?_
         rotate_left 2
         · intro w' hC K hK
           obtain ⟨x0, x1, x2, x3, x4, x5, x6, x7, y0, y1, y2, y3, y4, y5, y6, y7⟩ := HC8.out w' hC.1; have heq := HEQ.out
           go_wp2_with (fail)
           refine hK _ ?_
           first | exact Below.refl _ _ | assumption | ((repeat' (first | (with_reducible exact Below.refl _ _) | (with_reducible assumption) | (with_reducible refine below_drewN ?_ _) | (with_reducible refine Below.alloc ?_ ?_ _) | (with_reducible refine Below.drew ?_) | (with_reducible refine Below.setCell ?_ ?_ _) | (with_reducible refine Below.trans ?_ (Below.mono (by with_reducible assumption) ?_)) | go_size)))
         rotate_left 1
         · rfl
         clear hex; intro hex)
      refine G.wpS_nil fun w6 hAll => ?_
      have E6 := Lib.hid (bel_call hE.out hAll.1)
      clear hAll hex
      cases bb
      · have HF := Lib.hid (HNO.out (of_decide_eq_false HBB.out))
        go_wp2_with fail
        go_ret
        exact ⟨ret_bool HF.out.symm, E6.out⟩
      · have HT := Lib.hid (HYE.out (of_decide_eq_true HBB.out) hall.out)
        go_wp2_with fail
        go_roundw
        case rel => exact ⟨q + 1, by omega, by go_num, HT, E6⟩
        case measure => simp [intOf]; omega
    · have HT := Lib.hid (show decide (X = Y) = true by
        rw [decide_eq_true_eq]
        apply List.ext_getElem?
        intro j
        by_cases hj : j < q * 8
        · exact hall.out j hj
        · rw [List.getElem?_eq_none (by rw [HXL.out]; omega), List.getElem?_eq_none (by rw [HYL.out]; omega)])
      go_wp2_with fail
      go_ret
      exact ⟨ret_bool HT.out.symm, hE.out⟩
end Go.Proofs.YtgcjclglhijchaaDoor
