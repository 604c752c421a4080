/- bolterref0.CopyDense: a copy of one's own. -/
import Derived.Test.YtgcjclglhijchaaDoorGn
import Derived.Laws.AppendOwnNone
namespace Go.Proofs.YtgcjclglhijchaaDoor
open Go Go.RowKit
theorem run_append_noneq {P : Program} {w : World} (base : Nat) (t ty e : TypeId) (i : TypeInfo) (size : Nat) (ht : P.underlying t = some (.slice e)) (hi : P.info? e = some i)
    (v : Value) (n : Nat) (xs : List Value) (hown : w.ownsRow base e size v n xs) (c : Nat) : (Builtin.append_ #[t, t] ty #[v, .slice none 0 c]).run P w = .ok v w := by
  rcases hown.2 with ⟨rfl, rfl⟩ | ⟨g, cap, cur, rfl, _, _, hnc, _⟩
  · simp [Builtin.append_, run_underlying ht, sizeOf, typeInfo, hi, Builtin.lenOf, Builtin.firstCells]
  · simp [Builtin.append_, run_underlying ht, sizeOf, typeInfo, hi, Builtin.lenOf, Builtin.firstCells, hnc, storeCells]
theorem wpList_append_noneq {P : Program} {w : World} {ops : Array Oper} {rest : List Oper} {o : Oper} {a : Act} {Q : Exit → Act → World → Prop} (hgd : o.guard = none) (s x : Operand) (t : TypeId)
    (ho : o.op = .call { callee := .builtin .append, args := #[s, x], argTypes := #[t, t] })
    (base : Nat) (e : TypeId) (i : TypeInfo) (size : Nat) (ht : P.underlying t = some (.slice e)) (hi : P.info? e = some i)
    (v : Value) (n : Nat) (xs : List Value) (hs : a.eval s = v) (hown : w.ownsRow base e size v n xs) (c : Nat) (hx : a.eval x = .slice none 0 c)
    (h : wpList P ops Q rest (a.put o.dst v) w) : wpList P ops Q (o :: rest) a w := by
  refine wpList_plain hgd fun K hK => ?_
  have hrun := run_append_noneq (P := P) (w := w) base t o.type e i size ht hi v n xs hown c
  unfold Oper.wp
  simp [execOp, ho, resolve, invoke, builtin, hs, hx, hrun, Result.andThen]
  exact hK _ _ h
theorem iv_ones (L : List Int) : ∀ u ∈ L.map iv, u.oneCell' = true := by
  intro u hu
  obtain ⟨x, _, rfl⟩ := List.mem_map.1 hu
  rfl
set_option maxRecDepth 20000 in
theorem copyi_any (L : List Int) (v : Value) (w : World) (h : Ints w v L) (h8 : L.length * 8 ≤ 140737488355328) :
    Calls Tryd.prog 38 #[v] w fun e w' => ∃ v', e = .returned v' ∧ w'.ownsRow w.heap.size 3 1 v' L.length (L.map iv) ∧ Ext w w' := by
  obtain ⟨i0, hi, hz0, hz1, hz2⟩ := info_parts info_int
  have hown : w.ownsRow w.heap.size 3 1 (.slice none 0 0) 0 [] := own_nil _ _ _ _
  obtain ⟨⟨a, cap, rfl, _, _, hc⟩, hr⟩ := h
  have HR := Lib.hid hr
  clear hr
  cases a with
  | none =>
    have : L = [] := by
      rcases hc with hc | ⟨b, o, e, _⟩
      · simpa using hc
      · cases e
    subst this
    go_enter Tryd.func38, Tryd.ntmps38
    go_wp2_with (at_builtin; refine wpList_append_noneq rfl _ _ 26 rfl w.heap.size 3 i0 1 Tryd.underlying26 hi _ 0 [] rfl hown cap rfl ?_)
    go_ret
    exact ⟨_, rfl, hown, Below.refl _ _⟩
  | some a =>
    have hcs : ∀ j u, (L.map iv)[j]? = some u → w.cell? (a.add j) = some u := by
      intro j u hu
      have hj := (List.getElem?_eq_some_iff.1 hu).1
      rcases hc with hc | ⟨b, o, e, _, hc⟩
      · rw [hc] at hj; simp at hj
      · cases e
        rw [show (⟨b, o, none⟩ : Addr).add j = ⟨b, o + j, none⟩ by unfold Addr.add; split <;> simp_all, hc j hj, hu]
    clear hc
    go_enter Tryd.func38, Tryd.ntmps38
    go_wp2_with (at_builtin; refine wpList_append_own _ rfl _ _ 26 rfl w.heap.size 3 i0 (.int .i64 0) 1 8 Tryd.underlying26 hi hz0 hz1 hz2 rfl (by decide) _ 0 [] rfl hown a L.length cap (L.map iv) rfl (by simp) hcs (iv_ones L) (by unfold maxLen; omega) (by omega) (Nat.le_refl _) ?_; intro v' w2 hown2 hgrow2 _)
    go_ret
    exact ⟨_, rfl, by simpa using hown2, (Below.refl _ _).grown hgrow2 (Nat.le_refl _) (fun j hj => by cases hj)⟩
/-- Rows of one's own. -/
structure OwnR (w : World) (B : Nat) (v : Value) (vs : List Value) (R : List (List Int)) : Prop where
  rn : w.ownsRow B 26 1 v R.length vs
  en : ∀ j, j < R.length → w.ownsRow B 3 1 (vs.getD j nilS) (R.getD j []).length ((R.getD j []).map iv)
  dd : ∀ j k, j < R.length → k < R.length → j ≠ k → Dj (vs.getD j nilS) (vs.getD k nilS)
theorem OwnR.ext {w w' : World} {B : Nat} {v : Value} {vs : List Value} {R : List (List Int)} (h : OwnR w B v vs R) (hx : Ext w w') : OwnR w' B v vs R :=
  ⟨own_ex h.rn hx, fun j hj => own_ex (h.en j hj) hx, h.dd⟩
theorem OwnR.nil (w : World) (B : Nat) : OwnR w B (.slice none 0 0) [] [] := ⟨own_nil _ _ _ _, fun j hj => absurd hj (by simp), fun j k hj => absurd hj (by simp)⟩
theorem own_lo {w : World} {B e sz n : Nat} {v : Value} {xs : List Value} (h : w.ownsRow B e sz v n xs) : ∀ g, v.ownBlock = some g → B ≤ g ∧ g < w.heap.size := h.lt
theorem getD_app_l {α : Type} {l r : List α} {d : α} {j : Nat} (h : j < l.length) : (l ++ r).getD j d = l.getD j d := by
  rw [List.getD_eq_getElem?_getD, List.getD_eq_getElem?_getD, List.getElem?_append_left h]
theorem getD_app_r {α : Type} {l : List α} {x d : α} {j : Nat} (h : j = l.length) : (l ++ [x]).getD j d = x := by
  subst h; rw [List.getD_eq_getElem?_getD, List.getElem?_append_right (Nat.le_refl _), Nat.sub_self]; rfl
/-- One row more: made behind the rows that there are. -/
theorem OwnR.more {w w1 w2 : World} {B : Nat} {v v2 u : Value} {vs : List Value} {R : List (List Int)} {L : List Int} {t : TypeId} {c : Array Value}
    (h : OwnR w B v vs R) (hx : Ext w w1) (hu : w1.ownsRow w.heap.size 3 1 u L.length (L.map iv)) (hB : B ≤ w.heap.size)
    (hg : (w1.alloc (.cells c t)).grownBy w2 v.ownBlock) (ho : w2.ownsRow B 26 1 v2 (R.length + 1) (vs ++ [u])) : OwnR w2 B v2 (vs ++ [u]) (R ++ [L]) := by
  have hvl := h.rn.1
  have hx1 : Ext w1 (w1.alloc (.cells c t)) := by go_grown
  have hk : ∀ {B' n : Nat} {x : Value} {xs : List Value}, w1.ownsRow B' 3 1 x n xs → w2.ownsRow B' 3 1 x n xs := fun {B' n x xs} k =>
    (own_ex k hx1).kept hg (by
      cases hq : x.ownBlock with
      | none => exact .inl rfl
      | some g => exact .inr (fun q => own_ne_own (own_ex (own_ex h.rn hx) hx1) (own_ex k hx1) (by decide) g hq q.symm))
  refine ⟨by rw [List.length_append]; exact ho, fun j hj => ?_, fun j k hj hk2 hne => ?_⟩
  · by_cases e : j < R.length
    · rw [getD_app_l (by omega), getD_app_l e]
      exact hk (own_ex (h.en j e) hx)
    · have e : j = R.length := by simp at hj; omega
      rw [getD_app_r (by omega), getD_app_r e]
      exact (hk hu).mono hB
  · by_cases e : j < R.length
    · by_cases e2 : k < R.length
      · rw [getD_app_l (by omega), getD_app_l (by omega)]; exact h.dd j k e e2 hne
      · have e2 : k = R.length := by simp at hk2; omega
        rw [getD_app_l (by omega), getD_app_r (by omega)]
        intro g q q2
        have := (own_lo (h.en j e) g q).2
        have := (own_lo hu g q2).1
        omega
    · have e : j = R.length := by simp at hj; omega
      have e2 : k < R.length := by simp at hk2; omega
      rw [getD_app_r (by omega), getD_app_l (by omega)]
      intro g q q2
      have := (own_lo (h.en k e2) g q2).2
      have := (own_lo hu g q).1
      omega
theorem take_snoc {α : Type} {R : List α} {k : Nat} (hk : k < R.length) : R.take (k + 1) = R.take k ++ [R[k]] := List.take_succ_eq_append_getElem hk
theorem nil_ones (u : Value) (h : ∃ a n c, u = .slice a n c) : ∀ x ∈ [u], x.oneCell' = true := by
  intro x hx
  obtain ⟨a, n, c, rfl⟩ := h
  rw [List.mem_singleton.1 hx]; rfl
set_option maxHeartbeats 2000000 in
set_option maxRecDepth 20000 in
theorem copyr_any (R : List (List Int)) (v : Value) (w : World) (h : Rws w v R) (h8 : ∀ L ∈ R, L.length * 8 ≤ 140737488355328) (h24 : R.length * 24 ≤ 140737488355328) :
    Calls Tryd.prog 39 #[v] w fun e w' => ∃ v' vs, e = .returned v' ∧ OwnR w' w.heap.size v' vs R ∧ Ext w w' := by
  obtain ⟨j0, hj, hy0, hy1, hy2⟩ := info_parts info_sli
  obtain ⟨p, cap, rfl, _⟩ := h.shape
  have H := Lib.hid h
  have H8 := Lib.hid h8
  obtain ⟨n, hn⟩ : ∃ n, R.length = n := ⟨_, rfl⟩
  rw [hn] at H h24 ⊢
  have HN := Lib.hid hn
  clear h h8 hn
  go_enter Tryd.func39, Tryd.ntmps39
  go_wp2_with fail
  go_loopw [3, 4] (fun s3 s4 wr => ∃ (k : Nat) (vs : List Value), k ≤ n ∧ s4 = .int .i64 k ∧ Hid (OwnR wr w.heap.size s3 vs (R.take k)) ∧ Hid (Ext w wr)) (fun _ s4 _ => n - (intOf s4).toNat)
  case atStart => exact ⟨0, [], Nat.zero_le _, rfl, Lib.hid (OwnR.nil _ _), Lib.hid (Below.refl _ _)⟩
  case round =>
    obtain ⟨k, vs, hk, rfl, hO, hE⟩ := hrel
    have htk : (R.take k).length = k := by rw [List.length_take]; have := HN.out; omega
    obtain ⟨a3, c3, e3⟩ := own_shp hO.out.rn
    rw [htk] at e3
    subst e3
    have HTK := Lib.hid htk
    clear htk
    by_cases hkl : k < n
    · have k1 : k < R.length := by rw [HN.out]; exact hkl
      obtain ⟨bR, oR, aR, cR, rfl, hbR, hcR, hIR, -⟩ := (H.out.ext hE.out).cell k1
      have HC := Lib.hid (copyi_any R[k] _ wr hIR (H8.out _ (List.getElem_mem k1)))
      have HSN := Lib.hid (take_snoc k1)
      generalize R[k] = L at *
      obtain ⟨l9, hl9⟩ : ∃ l, L.length = l := ⟨_, rfl⟩
      rw [hl9] at HC hcR
      have HL9 := Lib.hid hl9
      clear hIR hl9
      go_wp2_with fail
      refine HC.out.mono ?_; rintro e w1 ⟨u, rfl, ou, eu⟩
      obtain ⟨au, cu, rfl⟩ := own_shp ou
      have EU := Lib.hid (bel_call hE.out eu)
      have O1 := Lib.hid (own_ex hO.out.rn eu)
      have O1' := O1.out
      rw [HTK.out] at O1'
      have O2 := Lib.hid O1'
      have OU := Lib.hid ou
      have EX1 := Lib.hid eu
      have hs1 := EU.out.size
      clear ou O1' eu O1
      go_wp2_with (at_builtin; refine wpList_append_own _ rfl _ _ 27 rfl w.heap.size 26 j0 nilS 1 24 Tryd.underlying27 hj hy0 hy1 hy2 rfl (by decide) _ _ _ rfl (O2.out.alloc _) ⟨_, 0, none⟩ 1 1 [.slice au l9 cu] rfl rfl (cell_nwb _ [.slice au l9 cu] _ _ (by simp)) (nil_ones _ ⟨_, _, _, rfl⟩) (by unfold maxLen; omega) (by omega) (by simp; omega) ?_; intro v1 w4 hown1 hgrow1 hnil1)
      have O9 := Lib.hid (show OwnR w4 w.heap.size v1 (vs ++ [.slice au l9 cu]) (R.take (k + 1)) by
        rw [HSN.out]
        refine OwnR.more hO.out EX1.out ?_ hE.out.size hgrow1 ?_
        · rw [HL9.out]; exact OU.out
        · rw [HTK.out]; exact hown1)
      have E9 := Lib.hid (ext_gr (bel_call EU.out (by go_grown)) hgrow1 (O2.out.alloc _) (Nat.le_refl _))
      clear hown1 hgrow1 hnil1
      go_wp2_with fail
      go_roundw
      case rel => exact ⟨k + 1, _, by omega, by go_num, O9, E9⟩
      case measure => simp [intOf]; omega
    · obtain rfl : n = k := by omega
      have O9 := hO.out
      rw [List.take_of_length_le (by rw [HN.out]; exact Nat.le_refl _)] at O9
      have O9 := Lib.hid O9
      clear hO
      go_wp2_with fail
      go_ret
      exact ⟨_, _, rfl, O9.out, hE.out⟩
end Go.Proofs.YtgcjclglhijchaaDoor
namespace Go.Proofs.YtgcjclglhijchaaDoor
open Go Go.RowKit
/-- What is said of operations, by their numbers, one of another (StabY). -/
def RsYF (l : List (Nat × (Option Operand × (Value → Value → World → Prop)))) : Y.RsT := fun j => (l.find? fun p => p.1 == j).map fun p => p.2
theorem RsYF_mono {Z : World → World → Prop} {l : List (Nat × (Option Operand × (Value → Value → World → Prop)))} (h : ∀ p ∈ l, ∀ u, G.Mono Z (p.2.2 u)) : Y.RsMono Z (RsYF l) := by
  intro j x R hj
  unfold RsYF at hj
  obtain ⟨p, hp, e⟩ := Option.map_eq_some_iff.1 hj
  have := h p (List.mem_of_find?_eq_some hp)
  rw [e] at this
  exact this
def RW2 (B : Nat) (R : List (List Int)) (v : Value) (w : World) : Prop := ∃ vs, OwnR w B v vs R
def RW5 (B : Nat) (d : Dd) (u v : Value) (w : World) : Prop := ∃ vs, OwnR w B u vs d.nx ∧ w.ownsRow B 3 1 v d.lb.length (d.lb.map iv) ∧ ∀ j, j < d.nx.length → Dj v (vs.getD j nilS)
theorem RW2_ext (B : Nat) (R : List (List Int)) : G.Mono Ext (RW2 B R) := fun _ _ _ hx ⟨vs, h⟩ => ⟨vs, h.ext hx⟩
theorem RW5_ext (B : Nat) (d : Dd) (u : Value) : G.Mono Ext (RW5 B d u) := fun _ _ _ hx ⟨vs, h1, h2, h3⟩ => ⟨vs, h1.ext hx, own_ex h2 hx, h3⟩
/-- What may be copied. -/
structure Dd.Few (d : Dd) : Prop where
  lb : d.lb.length * 8 ≤ 140737488355328
  rw : ∀ L ∈ d.nx, L.length * 8 ≤ 140737488355328
  nx : d.nx.length * 24 ≤ 140737488355328
theorem OwnR.mono {w : World} {B B' : Nat} {v : Value} {vs : List Value} {R : List (List Int)} (h : OwnR w B v vs R) (hb : B' ≤ B) : OwnR w B' v vs R := ⟨h.rn.mono hb, fun j hj => (h.en j hj).mono hb, h.dd⟩
theorem OwnR.lo {w : World} {B : Nat} {v : Value} {vs : List Value} {R : List (List Int)} (h : OwnR w B v vs R) {j : Nat} (hj : j < R.length) : ∀ g, (vs.getD j nilS).ownBlock = some g → g < w.heap.size := fun g q => (own_lo (h.en j hj) g q).2
set_option maxHeartbeats 2000000 in
set_option maxRecDepth 20000 in
theorem copyd_any (d : Dd) (v : Value) (w : World) (h : Dns w v d) (hf : d.Few) :
    Calls Tryd.prog 26 #[v] w fun e w' => ∃ vN vL vs, e = .returned (.agg #[vN, vL]) ∧ OwnD w' w.heap.size vN vL vs d ∧ Ext w w' := by
  obtain ⟨a, b, rfl, h1, h2⟩ := h
  obtain ⟨p, cap, rfl, _⟩ := h1.shape
  obtain ⟨p2, cap2, rfl, _⟩ := h2.shape
  obtain ⟨n1, hn1⟩ : ∃ n, d.nx.length = n := ⟨_, rfl⟩
  obtain ⟨n2, hn2⟩ : ∃ n, d.lb.length = n := ⟨_, rfl⟩
  rw [hn1] at h1 ⊢
  rw [hn2] at h2 ⊢
  have HN1 := Lib.hid hn1
  have HN2 := Lib.hid hn2
  clear hn1 hn2
  have HE := Lib.hid (show Ext w ((w.alloc (.cells #[.slice p n1 cap, .slice p2 n2 cap2] 62)).alloc (.cells #[.slice none 0 0, .slice none 0 0] 62)) by go_grown)
  have HBX := Lib.hid ((Blk.new w #[.slice p n1 cap, .slice p2 n2 cap2] 62).alloc (.cells #[.slice none 0 0, .slice none 0 0] 62))
  have HR := Lib.hid (Blk.new (w.alloc (.cells #[.slice p n1 cap, .slice p2 n2 cap2] 62)) #[.slice none 0 0, .slice none 0 0] 62)
  rw [show (w.alloc (.cells #[.slice p n1 cap, .slice p2 n2 cap2] 62)).heap.size = w.heap.size + 1 by simp] at HR
  have H1 := Lib.hid (h1.ext HE.out)
  have H2 := Lib.hid (h2.ext HE.out)
  have HF := Lib.hid hf
  clear h1 h2 hf
  go_enter Tryd.func26, Tryd.ntmps26
  generalize hw1 : (w.alloc (.cells #[.slice p n1 cap, .slice p2 n2 cap2] 62)).alloc (.cells #[.slice none 0 0, .slice none 0 0] 62) = w1 at HE HBX HR H1 H2
  have h8 := HE.out.size
  go_upto_region 1 with fail
  refine Y.wp_region_tail (G := Ext) (RsYF [(2, (none, fun _ => RW2 w1.heap.size d.nx)), (5, (some (.tmp 5), RW5 w1.heap.size d))]) 7 (by kernel_rfl) (by kernel_rfl) (RsYF_mono (by simp only [List.forall_mem_cons, List.not_mem_nil, false_implies, implies_true, and_true]; exact ⟨fun _ => RW2_ext _ _, fun u => RW5_ext _ _ u⟩)) (fun hex => ?_)
  simp only [List.take_succ_cons, List.take_zero, List.drop_succ_cons, List.drop_zero]
  iterate 2
    (refine Y.wpS_one (A := ?_) hex rfl rfl (by simp) ?_ ?_ ?_
     rotate_left 2
     · intro w' hC K hK
       have z0 := (HBX.out.ext hC.1).cell 0; have z1 := (HBX.out.ext hC.1).cell 1
       go_wp2_with (fail)
       refine hK _ ?_
       first | exact Below.refl _ _ | exact bel_call (Below.refl _ _) (by assumption) | assumption | (repeat' (first | (with_reducible exact Below.refl _ _) | (with_reducible assumption) | (with_reducible refine below_drewN ?_ _) | (with_reducible refine Below.alloc ?_ ?_ _) | (with_reducible refine Below.drew ?_) | (with_reducible refine Below.setCell ?_ ?_ _) | (with_reducible refine Below.trans ?_ (Below.mono (by with_reducible assumption) ?_)) | go_size))
     rotate_left 1
     · rfl
     clear hex; intro hex)
  refine Y.wpS_rel (none) (fun _ => RW2 w1.heap.size d.nx) rfl (fun _ h => nomatch h) rfl (by simp) (by first | rfl | (simp [Region.wanted, yielded]; done)) ?_ ?_
  · intro w' hC K hK
    simp only [Act.put, List.setIfInBounds_toArray, List.set_cons_succ, List.set_cons_zero] at hK
    have hCx := hC.1
    go_wp2_with (go_at_call 39; refine (copyr_any d.nx _ w' (H1.out.ext hCx) HF.out.rw HF.out.nx).mono ?_; rintro e w9 ⟨v9, vs9, rfl, o9, x9⟩)
    refine hK _ _ ?_ ?_
    · first | exact Below.refl _ _ | assumption | ((repeat' (first | (with_reducible exact Below.refl _ _) | (with_reducible assumption) | (with_reducible refine below_drewN ?_ _) | (with_reducible refine Below.alloc ?_ ?_ _) | (with_reducible refine Below.drew ?_) | (with_reducible refine Below.setCell ?_ ?_ _) | (with_reducible refine Below.trans ?_ (Below.mono (by with_reducible assumption) ?_)) | go_size)))
    · exact ⟨vs9, o9.mono hCx.size⟩
  clear hex
  intro v2 w' hex hv2
  replace hex := Exists.intro w' hex
  simp only [Act.put, List.setIfInBounds_toArray, List.set_cons_succ, List.set_cons_zero]
  obtain ⟨vs2, o2⟩ := hv2
  obtain ⟨a2, c2, rfl⟩ := own_shp o2.rn
  clear o2
  rw [HN1.out] at hex ⊢
  iterate 2
    (refine Y.wpS_one (A := ?_) hex rfl rfl (by simp) ?_ ?_ ?_
     rotate_left 2
     · intro w' hC K hK
       have z0 := (HBX.out.ext hC.1).cell 0; have z1 := (HBX.out.ext hC.1).cell 1
       go_wp2_with (fail)
       refine hK _ ?_
       first | exact Below.refl _ _ | exact bel_call (Below.refl _ _) (by assumption) | assumption | (repeat' (first | (with_reducible exact Below.refl _ _) | (with_reducible assumption) | (with_reducible refine below_drewN ?_ _) | (with_reducible refine Below.alloc ?_ ?_ _) | (with_reducible refine Below.drew ?_) | (with_reducible refine Below.setCell ?_ ?_ _) | (with_reducible refine Below.trans ?_ (Below.mono (by with_reducible assumption) ?_)) | go_size))
     rotate_left 1
     · rfl
     clear hex; intro hex)
  refine Y.wpS_rel (some (.tmp 5)) (RW5 w1.heap.size d) rfl (fun y h => by cases h; exact .inr (wtd_of (by kernel_rfl))) rfl (by simp) (by first | rfl | (simp [Region.wanted, yielded]; done)) ?_ ?_
  · intro w' hC K hK
    simp only [Act.put, List.setIfInBounds_toArray, List.set_cons_succ, List.set_cons_zero] at hK
    have hCx := hC.1; obtain ⟨vs5, o5⟩ := (hC.2 2 (by simp [Region.binds])).1 rfl
    go_wp2_with (go_at_call 38; refine (copyi_any d.lb _ w' (H2.out.ext hCx) HF.out.lb).mono ?_; rintro e w9 ⟨v9, rfl, o9, x9⟩)
    refine hK _ _ ?_ ?_
    · first | exact Below.refl _ _ | assumption | ((repeat' (first | (with_reducible exact Below.refl _ _) | (with_reducible assumption) | (with_reducible refine below_drewN ?_ _) | (with_reducible refine Below.alloc ?_ ?_ _) | (with_reducible refine Below.drew ?_) | (with_reducible refine Below.setCell ?_ ?_ _) | (with_reducible refine Below.trans ?_ (Below.mono (by with_reducible assumption) ?_)) | go_size)))
    · exact ⟨vs5, o5.ext x9, o9.mono hCx.size, fun j hj g q q2 => by have h1 := (own_lo o9 g q).1; have h2 := o5.lo hj g q2; omega⟩
  clear hex
  intro v5 w' hex hv5
  replace hex := Exists.intro w' hex
  simp only [Act.put, List.setIfInBounds_toArray, List.set_cons_succ, List.set_cons_zero]
  obtain ⟨vs5, _, o5, _⟩ := hv5
  obtain ⟨a5, c5, rfl⟩ := own_shp o5
  clear o5
  rw [HN2.out] at hex ⊢
  refine Y.wpS_one (A := ?_) hex rfl rfl (by simp) ?_ ?_ ?_
  rotate_left 2
  · intro w' hC K hK
    go_wp2_with (fail)
    refine hK _ ?_
    first | exact Below.refl _ _ | exact bel_call (Below.refl _ _) (by assumption) | assumption | (repeat' (first | (with_reducible exact Below.refl _ _) | (with_reducible assumption) | (with_reducible refine below_drewN ?_ _) | (with_reducible refine Below.alloc ?_ ?_ _) | (with_reducible refine Below.drew ?_) | (with_reducible refine Below.setCell ?_ ?_ _) | (with_reducible refine Below.trans ?_ (Below.mono (by with_reducible assumption) ?_)) | go_size))
  rotate_left 1
  · rfl
  clear hex; intro hex
  refine Y.wpS_nil fun w8 hAll => ?_
  obtain ⟨vs, o2, o5, dj⟩ := (hAll.2 5).1 rfl
  have BR := HR.out.ext hAll.1
  have f0 := BR.free 0
  have p0 := BR.cell 0
  have p1 := (BR.set 0 (.slice a2 n1 c2)).cell 1
  have f1 := (BR.set 0 (.slice a2 n1 c2)).free 1
  have BF := (BR.set 0 (.slice a2 n1 c2)).set 1 (.slice a5 n2 c5)
  have r0 := BF.cell 0
  have r1 := BF.cell 1
  have hsz : w.heap.size + 1 < w1.heap.size := HR.out.lt
  have OD : OwnD w8 w1.heap.size (.slice a2 n1 c2) (.slice a5 n2 c5) vs d := ⟨o2.rn, o5, o2.en, dj, o2.dd⟩
  have OD9 := Lib.hid (((OD.put (k := 0) (u := .slice a2 n1 c2) hsz).put (k := 1) (u := .slice a5 n2 c5) hsz).mono (show w.heap.size ≤ w1.heap.size by omega))
  have EX9 := Lib.hid (show Ext w ((w8.setCell ⟨w.heap.size + 1, 0, none⟩ (.slice a2 n1 c2)).setCell ⟨w.heap.size + 1, 1, none⟩ (.slice a5 n2 c5)) from
    ((bel_call HE.out hAll.1).setCell (p := ⟨w.heap.size + 1, 0, none⟩) (by show w.heap.size ≤ w.heap.size + 1; omega) _).setCell (p := ⟨w.heap.size + 1, 1, none⟩) (by show w.heap.size ≤ w.heap.size + 1; omega) _)
  clear hAll hex BR BF o2 o5 dj OD
  go_wp2_with fail
  refine bodyPost_ret (v := .agg #[.slice a2 n1 c2, .slice a5 n2 c5]) (by simp [results, Tryd.results26, go_sem, r0, r1]) rfl ⟨_, _, _, rfl, OD9.out, EX9.out⟩
end Go.Proofs.YtgcjclglhijchaaDoor
