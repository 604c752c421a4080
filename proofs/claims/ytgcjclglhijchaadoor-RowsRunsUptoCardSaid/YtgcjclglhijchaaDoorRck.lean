/- rows.Check: whether a table may be. -/
import Derived.Test.YtgcjclglhijchaaDoorChm
import Derived.Test.YtgcjclglhijchaaDoorRwq
import Derived.Test.YtgcjclglhijchaaDoorGn
namespace Go.Proofs.YtgcjclglhijchaaDoor
open Go Go.RowKit
/-- A table in memory. -/
def Tbm (w : World) (v : Value) (t : Tb) : Prop := ∃ a b c d, v = .agg #[a, .int .i64 t.cn, b, c, d] ∧ Ints w a t.cl ∧ Ints w b t.st ∧ Rws w c t.nx ∧ Ints w d t.lb ∧ -9223372036854775808 ≤ t.cn ∧ t.cn ≤ 9223372036854775807
theorem Tbm.ext {w w' : World} {v : Value} {t : Tb} (h : Tbm w v t) (hx : Ext w w') : Tbm w' v t := by
  obtain ⟨a, b, c, d, e, h1, h2, h3, h4, h5⟩ := h
  exact ⟨a, b, c, d, e, h1.ext hx, h2.ext hx, h3.ext hx, h4.ext hx, h5⟩
def stB (n : Nat) (x : Int) : Bool := decide (0 ≤ x) && decide (x < (n : Int))
theorem stB_iff {n : Nat} {x : Int} : stB n x = true ↔ 0 ≤ x ∧ x < (n : Int) := by unfold stB; simp
set_option maxHeartbeats 1000000 in
set_option maxRecDepth 20000 in
theorem isstate_any (t : Tb) (x : Int) (v : Value) (w : World) (h : Tbm w v t) :
    Calls Tryd.prog 46 #[v, .int .i64 x] w fun e w' => e = .returned (.bool (stB t.nx.length x)) ∧ Ext w w' := by
  obtain ⟨a, b, c, d, rfl, h1, h2, h3, h4, -, -⟩ := h
  obtain ⟨p1, k1, rfl, _⟩ := h1.shape
  obtain ⟨p2, k2, rfl, _⟩ := h2.shape
  obtain ⟨p3, k3, rfl, _, hl3, _⟩ := h3.shape
  obtain ⟨p4, k4, rfl, _⟩ := h4.shape
  clear h1 h2 h3 h4
  generalize t.cl.length = n1 at *
  generalize t.st.length = n2 at *
  generalize t.lb.length = n4 at *
  generalize t.nx.length = n at *
  generalize t.cn = cn at *
  have HE := Lib.hid (show Ext w (w.alloc (.cells #[.slice p1 n1 k1, .int .i64 cn, .slice p2 n2 k2, .slice p3 n k3, .slice p4 n4 k4] 29)) by go_grown)
  by_cases q1 : 0 ≤ x
  · have HB := Lib.hid (show decide (x < (n : Int)) = stB n x by unfold stB; simp [q1])
    have t1 : decide (0 ≤ x) = true := decide_eq_true q1
    clear q1
    generalize stB n x = bb at *
    have t2 := HB.out
    go_enter Tryd.func46, Tryd.ntmps46
    go_wp2
    go_ret
    exact ⟨rfl, HE.out⟩
  · have HB := Lib.hid (show stB n x = false by unfold stB; simp [q1])
    have t1 : decide (0 ≤ x) = false := decide_eq_false q1
    clear q1
    go_enter Tryd.func46, Tryd.ntmps46
    go_wp2
    go_ret
    exact ⟨ret_bool HB.out.symm, HE.out⟩
theorem stsB_no {t : Tb} {k : Nat} (hk : k < t.st.length) (h : stB t.nx.length t.st[k] = false) : stsB t = false := by
  unfold stsB
  rw [List.all_eq_false]
  refine ⟨t.st[k], List.getElem_mem hk, ?_⟩
  intro q
  have := stB_iff.2 (by simpa using q : 0 ≤ t.st[k] ∧ t.st[k] < (t.nx.length : Int))
  rw [h] at this; cases this
theorem stsB_yes {t : Tb} (h : ∀ j (hj : j < t.st.length), stB t.nx.length t.st[j] = true) : stsB t = true := by
  unfold stsB
  rw [List.all_eq_true]
  exact fun x hx => by obtain ⟨j, hj, rfl⟩ := List.getElem_of_mem hx; simpa using stB_iff.1 (h j hj)
def tblk (a : Value) (cn : Int) (b c d : Value) : Array Value := #[a, .int .i64 cn, b, c, d]
theorem Tbm.box {w : World} {v : Value} {t : Tb} (h : Tbm w v t) : ∃ p1 k1 p2 k2 p3 k3 p4 k4, v = .agg #[.slice p1 t.cl.length k1, .int .i64 t.cn, .slice p2 t.st.length k2, .slice p3 t.nx.length k3, .slice p4 t.lb.length k4] ∧ Ints w (.slice p1 t.cl.length k1) t.cl ∧ Ints w (.slice p2 t.st.length k2) t.st ∧ Rws w (.slice p3 t.nx.length k3) t.nx ∧ Ints w (.slice p4 t.lb.length k4) t.lb ∧ (t.cl.length ≤ 140737488355328 ∧ t.st.length ≤ 140737488355328 ∧ t.nx.length ≤ 140737488355328 ∧ t.lb.length ≤ 140737488355328) := by
  obtain ⟨a, b, c, d, rfl, h1, h2, h3, h4, -, -⟩ := h
  obtain ⟨p1, k1, rfl, _, l1, _⟩ := h1.shape
  obtain ⟨p2, k2, rfl, _, l2, _⟩ := h2.shape
  obtain ⟨p3, k3, rfl, _, l3, _⟩ := h3.shape
  obtain ⟨p4, k4, rfl, _, l4, _⟩ := h4.shape
  exact ⟨p1, k1, p2, k2, p3, k3, p4, k4, rfl, h1, h2, h3, h4, l1, l2, l3, l4⟩
theorem ext_bx5 (w : World) (a b c d e : Value) (t : TypeId) : Ext w (w.alloc (.cells #[a, b, c, d, e] t)) := by go_grown
set_option maxHeartbeats 2000000 in
set_option maxRecDepth 20000 in
theorem starts_any (t : Tb) (v : Value) (w : World) (h : Tbm w v t) :
    Calls Tryd.prog 43 #[v] w fun e w' => e = .returned (.bool (stsB t)) ∧ Ext w w' := by
  have h0 := h
  obtain ⟨p1, k1, p2, k2, p3, k3, p4, k4, rfl, h1, h2, h3, h4, l1, l2, l3, l4⟩ := h.box
  have hE := ext_bx5 w (.slice p1 t.cl.length k1) (.int .i64 t.cn) (.slice p2 t.st.length k2) (.slice p3 t.nx.length k3) (.slice p4 t.lb.length k4) 29
  have HBX := Lib.hid (Blk.new w #[.slice p1 t.cl.length k1, .int .i64 t.cn, .slice p2 t.st.length k2, .slice p3 t.nx.length k3, .slice p4 t.lb.length k4] 29)
  have H := Lib.hid (h0.ext hE)
  have H2 := Lib.hid (h2.ext hE)
  have HE := Lib.hid hE
  clear h h0 h1 h2 h3 h4 l1 l3 l4 hE
  go_enter Tryd.func43, Tryd.ntmps43
  go_wp2_with fail
  go_loopw [8] (fun i wr => ∃ k : Nat, k ≤ t.st.length ∧ i = .int .i64 k ∧ Hid (∀ j (hj : j < t.st.length), j < k → stB t.nx.length t.st[j] = true) ∧ Hid (Ext (w.alloc (.cells #[.slice p1 t.cl.length k1, .int .i64 t.cn, .slice p2 t.st.length k2, .slice p3 t.nx.length k3, .slice p4 t.lb.length k4] 29)) wr)) (fun i _ => t.st.length - (intOf i).toNat)
  case atStart => exact ⟨0, Nat.zero_le _, rfl, Lib.hid (fun j _ h => by omega), Lib.hid (Below.refl _ _)⟩
  case round =>
    obtain ⟨k, hk, rfl, hall, hX⟩ := hrel
    have z0 := (HBX.out.ext hX.out).cell 0
    have z1 := (HBX.out.ext hX.out).cell 1
    have z2 := (HBX.out.ext hX.out).cell 2
    have z3 := (HBX.out.ext hX.out).cell 3
    have z4 := (HBX.out.ext hX.out).cell 4
    by_cases hkl : k < t.st.length
    · obtain ⟨b, o, rfl, hb, hc, -, -⟩ := (H2.out.ext hX.out).cell hkl
      have HC := Lib.hid (isstate_any t t.st[k] _ _ (H.out.ext hX.out))
      cases hq : stB t.nx.length t.st[k]
      · have HB := Lib.hid (stsB_no hkl hq)
        rw [hq] at HC
        clear hq
        go_wp2_with (refine HC.out.mono ?_; rintro e w' ⟨rfl, hx9⟩; have hX9 := Lib.hid (bel_call hX.out hx9); clear hx9)
        go_ret
        exact ⟨ret_bool HB.out.symm, bel_call HE.out hX9.out⟩
      · have HQ := Lib.hid hq
        rw [hq] at HC
        clear hq
        go_wp2_with (refine HC.out.mono ?_; rintro e w' ⟨rfl, hx9⟩; have hX9 := Lib.hid (bel_call hX.out hx9); clear hx9)
        go_roundw
        case rel => exact ⟨k + 1, by omega, by go_num, Lib.hid (fun j hj hjk => by
          by_cases e : j = k
          · subst e; exact HQ.out
          · exact hall.out j hj (by omega)), hX9⟩
        case measure => simp [intOf]; omega
    · have HB := Lib.hid (stsB_yes (fun j hj => hall.out j hj (by omega)))
      go_wp2_with fail
      go_ret
      exact ⟨ret_bool HB.out.symm, bel_call HE.out hX.out⟩
theorem lbsB_no {t : Tb} {k : Nat} (hk : k < t.lb.length) (h : ¬ (-1 ≤ t.lb[k] ∧ t.lb[k] < 200)) : lbsB t = false := by
  unfold lbsB
  rw [List.all_eq_false]
  exact ⟨t.lb[k], List.getElem_mem hk, by simpa using h⟩
theorem lbsB_yes {t : Tb} (h : ∀ j (hj : j < t.lb.length), -1 ≤ t.lb[j] ∧ t.lb[j] < 200) : lbsB t = true := by
  unfold lbsB
  rw [List.all_eq_true]
  exact fun x hx => by obtain ⟨j, hj, rfl⟩ := List.getElem_of_mem hx; simpa using h j hj
set_option maxHeartbeats 2000000 in
set_option maxRecDepth 20000 in
theorem labels_any (t : Tb) (v : Value) (w : World) (h : Tbm w v t) :
    Calls Tryd.prog 45 #[v] w fun e w' => e = .returned (.bool (lbsB t)) ∧ Ext w w' := by
  have h0 := h
  obtain ⟨p1, k1, p2, k2, p3, k3, p4, k4, rfl, h1, h2, h3, h4, l1, l2, l3, l4⟩ := h.box
  have hE := ext_bx5 w (.slice p1 t.cl.length k1) (.int .i64 t.cn) (.slice p2 t.st.length k2) (.slice p3 t.nx.length k3) (.slice p4 t.lb.length k4) 29
  have HBX := Lib.hid (Blk.new w #[.slice p1 t.cl.length k1, .int .i64 t.cn, .slice p2 t.st.length k2, .slice p3 t.nx.length k3, .slice p4 t.lb.length k4] 29)
  have H := Lib.hid (h0.ext hE)
  have H4 := Lib.hid (h4.ext hE)
  have HE := Lib.hid hE
  clear h h0 h1 h2 h3 h4 l1 l2 l3 hE
  go_enter Tryd.func45, Tryd.ntmps45
  go_wp2_with fail
  go_loop [8] (fun i => ∃ k : Nat, k ≤ t.lb.length ∧ i = .int .i64 k ∧ Hid (∀ j (hj : j < t.lb.length), j < k → -1 ≤ t.lb[j] ∧ t.lb[j] < 200)) (fun i => t.lb.length - (intOf i).toNat)
  case atStart => exact ⟨0, Nat.zero_le _, rfl, Lib.hid (fun j _ h => by omega)⟩
  case round =>
    obtain ⟨k, hk, rfl, hall⟩ := hrel
    by_cases hkl : k < t.lb.length
    · obtain ⟨b, o, rfl, hb, hc, r1, r2⟩ := H4.out.cell hkl
      by_cases hg : -1 ≤ t.lb[k] ∧ t.lb[k] < 200
      · obtain ⟨g1, g2⟩ := hg
        obtain ⟨x, hx⟩ : ∃ x, t.lb[k] = x := ⟨_, rfl⟩
        rw [hx] at hc g1 g2
        have HX := Lib.hid hx
        have G1 := Lib.hid g1
        have G2 := Lib.hid g2
        clear hx r1 r2
        have t1 : decide (x < -1) = false := by simp; omega
        have t2 : decide (200 ≤ x) = false := by simp; omega
        go_wp2
        go_round
        case rel => exact ⟨k + 1, by omega, by go_num, Lib.hid (fun j hj hjk => by
          by_cases e : j = k
          · subst e; rw [HX.out]; exact ⟨G1.out, G2.out⟩
          · exact hall.out j hj (by omega))⟩
        case measure => simp [intOf]; omega
      · have HB := Lib.hid (lbsB_no hkl hg)
        obtain ⟨x, hx⟩ : ∃ x, t.lb[k] = x := ⟨_, rfl⟩
        rw [hx] at hc hg r1 r2
        clear hx
        by_cases h0 : x < -1
        · have t1 : decide (x < -1) = true := by simpa using h0
          go_wp2
          go_ret
          exact ⟨ret_bool HB.out.symm, HE.out⟩
        · have t1 : decide (x < -1) = false := by simpa using h0
          have t2 : decide (200 ≤ x) = true := by simp; omega
          clear hg
          go_wp2
          go_ret
          exact ⟨ret_bool HB.out.symm, HE.out⟩
    · have HB := Lib.hid (lbsB_yes (fun j hj => hall.out j hj (by omega)))
      go_wp2
      go_ret
      exact ⟨ret_bool HB.out.symm, HE.out⟩
theorem rwB_no {n cn : Int} {L : List Int} {k : Nat} (hk : k < L.length) (h : ¬ (-1 ≤ L[k] ∧ L[k] < n)) : rwB n cn L = false := by
  unfold rwB
  rw [Bool.and_eq_false_iff]
  right
  rw [List.all_eq_false]
  exact ⟨L[k], List.getElem_mem hk, by simpa using h⟩
theorem rwB_yes {n cn : Int} {L : List Int} (hl : (L.length : Int) = cn) (h : ∀ j (hj : j < L.length), -1 ≤ L[j] ∧ L[j] < n) : rwB n cn L = true := by
  unfold rwB
  rw [Bool.and_eq_true, List.all_eq_true]
  exact ⟨by simp [hl], fun x hx => by obtain ⟨j, hj, rfl⟩ := List.getElem_of_mem hx; simpa using h j hj⟩
set_option maxHeartbeats 2000000 in
set_option maxRecDepth 20000 in
theorem rowt_any (t : Tb) (v u : Value) (L : List Int) (w : World) (h : Tbm w v t) (hL : Ints w u L) :
    Calls Tryd.prog 61 #[v, u] w fun e w' => e = .returned (.bool (rwB t.nx.length t.cn L)) ∧ Ext w w' := by
  have h0 := h
  obtain ⟨p1, k1, p2, k2, p3, k3, p4, k4, rfl, h1, h2, h3, h4, l1, l2, l3, l4⟩ := h.box
  have hE := ext_bx5 w (.slice p1 t.cl.length k1) (.int .i64 t.cn) (.slice p2 t.st.length k2) (.slice p3 t.nx.length k3) (.slice p4 t.lb.length k4) 29
  have HBX := Lib.hid (Blk.new w #[.slice p1 t.cl.length k1, .int .i64 t.cn, .slice p2 t.st.length k2, .slice p3 t.nx.length k3, .slice p4 t.lb.length k4] 29)
  have H := Lib.hid (h0.ext hE)
  obtain ⟨p5, k5, rfl, _, l5, _⟩ := hL.shape
  have H5 := Lib.hid (hL.ext hE)
  have HE := Lib.hid hE
  clear h h0 h1 h2 h3 h4 l1 l2 l3 l4 hE hL
  by_cases hlc : (L.length : Int) = t.cn
  rotate_left
  · have HB := Lib.hid (show rwB t.nx.length t.cn L = false by unfold rwB; simp [hlc])
    have d2 : ((L.length : Int) == t.cn) = false := by simpa using hlc
    have d1 : ((L.length : Int) != t.cn) = true := by simpa using hlc
    have z1 := HBX.out.cell 1
    clear hlc
    go_enter Tryd.func61, Tryd.ntmps61
    go_wp2_with fail
    go_ret
    exact ⟨ret_bool HB.out.symm, HE.out⟩
  · have d1 : ((L.length : Int) != t.cn) = false := by simpa using hlc
    have d2 : ((L.length : Int) == t.cn) = true := by simpa using hlc
    have HLC := Lib.hid hlc
    have z1 := HBX.out.cell 1
    clear hlc
    go_enter Tryd.func61, Tryd.ntmps61
    go_wp2_with fail
    clear z1 d1 d2
    go_loopw [14] (fun i wr => ∃ k : Nat, k ≤ L.length ∧ i = .int .i64 k ∧ Hid (∀ j (hj : j < L.length), j < k → -1 ≤ L[j] ∧ L[j] < (t.nx.length : Int)) ∧ Hid (Ext (w.alloc (.cells #[.slice p1 t.cl.length k1, .int .i64 t.cn, .slice p2 t.st.length k2, .slice p3 t.nx.length k3, .slice p4 t.lb.length k4] 29)) wr)) (fun i _ => L.length - (intOf i).toNat)
    case atStart => exact ⟨0, Nat.zero_le _, rfl, Lib.hid (fun j _ h => by omega), Lib.hid (Below.refl _ _)⟩
    case round =>
      obtain ⟨k, hk, rfl, hall, hX⟩ := hrel
      have z0 := (HBX.out.ext hX.out).cell 0
      have z1 := (HBX.out.ext hX.out).cell 1
      have z2 := (HBX.out.ext hX.out).cell 2
      have z3 := (HBX.out.ext hX.out).cell 3
      have z4 := (HBX.out.ext hX.out).cell 4
      by_cases hkl : k < L.length
      · obtain ⟨b, o, rfl, hb, hc, -, -⟩ := (H5.out.ext hX.out).cell hkl
        have HNO := Lib.hid (rwB_no (n := (t.nx.length : Int)) (cn := t.cn) hkl)
        obtain ⟨x, hx⟩ : ∃ x, L[k] = x := ⟨_, rfl⟩
        rw [hx] at hc HNO
        have HX := Lib.hid hx
        clear hx
        by_cases hm : x = -1
        · subst hm
          have HG := Lib.hid (show -1 ≤ (-1 : Int) ∧ (-1 : Int) < (t.nx.length : Int) from ⟨by omega, by omega⟩)
          go_wp2_with fail
          go_roundw
          case rel => exact ⟨k + 1, by omega, by go_num, Lib.hid (fun j hj hjk => by
            by_cases e : j = k
            · subst e; rw [HX.out]; exact HG.out
            · exact hall.out j hj (by omega)), hX⟩
          case measure => simp [intOf]; omega
        · have e1 : (x == -1) = false := by simpa using hm
          have e2 : (x != -1) = true := by simpa using hm
          have HC := Lib.hid (isstate_any t x _ _ (H.out.ext hX.out))
          have HM := Lib.hid hm
          clear hm
          cases hq : stB t.nx.length x
          · have HB := Lib.hid (HNO.out (fun g => by
              have hm := HM.out
              have : stB t.nx.length x = true := stB_iff.2 ⟨by omega, g.2⟩
              rw [hq] at this; cases this))
            rw [hq] at HC
            clear hq
            go_wp2_with (refine HC.out.mono ?_; rintro e w' ⟨rfl, hx9⟩; have hX9 := Lib.hid (bel_call hX.out hx9); clear hx9)
            go_ret
            exact ⟨ret_bool HB.out.symm, bel_call HE.out hX9.out⟩
          · have HQ := Lib.hid (stB_iff.1 hq)
            rw [hq] at HC
            clear hq
            go_wp2_with (refine HC.out.mono ?_; rintro e w' ⟨rfl, hx9⟩; have hX9 := Lib.hid (bel_call hX.out hx9); clear hx9)
            go_roundw
            case rel => exact ⟨k + 1, by omega, by go_num, Lib.hid (fun j hj hjk => by
              by_cases e : j = k
              · subst e; rw [HX.out]; exact ⟨by have := HQ.out.1; omega, HQ.out.2⟩
              · exact hall.out j hj (by omega)), hX9⟩
            case measure => simp [intOf]; omega
      · have HB := Lib.hid (rwB_yes (n := (t.nx.length : Int)) HLC.out (fun j hj => hall.out j hj (by omega)))
        go_wp2_with fail
        go_ret
        exact ⟨ret_bool HB.out.symm, bel_call HE.out hX.out⟩
theorem nxsB_no {t : Tb} {k : Nat} (hk : k < t.nx.length) (h : rwB t.nx.length t.cn t.nx[k] = false) : nxsB t = false := by
  unfold nxsB
  rw [List.all_eq_false]
  exact ⟨t.nx[k], List.getElem_mem hk, by simp [h]⟩
theorem nxsB_yes {t : Tb} (h : ∀ j (hj : j < t.nx.length), rwB t.nx.length t.cn t.nx[j] = true) : nxsB t = true := by
  unfold nxsB
  rw [List.all_eq_true]
  exact fun x hx => by obtain ⟨j, hj, rfl⟩ := List.getElem_of_mem hx; exact h j hj
set_option maxHeartbeats 2000000 in
set_option maxRecDepth 20000 in
theorem entries_any (t : Tb) (v : Value) (w : World) (h : Tbm w v t) :
    Calls Tryd.prog 44 #[v] w fun e w' => e = .returned (.bool (nxsB t)) ∧ Ext w w' := by
  have h0 := h
  obtain ⟨p1, k1, p2, k2, p3, k3, p4, k4, rfl, h1, h2, h3, h4, l1, l2, l3, l4⟩ := h.box
  have hE := ext_bx5 w (.slice p1 t.cl.length k1) (.int .i64 t.cn) (.slice p2 t.st.length k2) (.slice p3 t.nx.length k3) (.slice p4 t.lb.length k4) 29
  have HBX := Lib.hid (Blk.new w #[.slice p1 t.cl.length k1, .int .i64 t.cn, .slice p2 t.st.length k2, .slice p3 t.nx.length k3, .slice p4 t.lb.length k4] 29)
  have H := Lib.hid (h0.ext hE)
  have H3 := Lib.hid (h3.ext hE)
  have HE := Lib.hid hE
  clear h h0 h1 h2 h3 h4 l1 l2 l4 hE
  go_enter Tryd.func44, Tryd.ntmps44
  go_wp2_with fail
  go_loopw [8] (fun i wr => ∃ k : Nat, k ≤ t.nx.length ∧ i = .int .i64 k ∧ Hid (∀ j (hj : j < t.nx.length), j < k → rwB t.nx.length t.cn t.nx[j] = true) ∧ Hid (Ext (w.alloc (.cells #[.slice p1 t.cl.length k1, .int .i64 t.cn, .slice p2 t.st.length k2, .slice p3 t.nx.length k3, .slice p4 t.lb.length k4] 29)) wr)) (fun i _ => t.nx.length - (intOf i).toNat)
  case atStart => exact ⟨0, Nat.zero_le _, rfl, Lib.hid (fun j _ h => by omega), Lib.hid (Below.refl _ _)⟩
  case round =>
    obtain ⟨k, hk, rfl, hall, hX⟩ := hrel
    have z0 := (HBX.out.ext hX.out).cell 0
    have z1 := (HBX.out.ext hX.out).cell 1
    have z2 := (HBX.out.ext hX.out).cell 2
    have z3 := (HBX.out.ext hX.out).cell 3
    have z4 := (HBX.out.ext hX.out).cell 4
    by_cases hkl : k < t.nx.length
    · obtain ⟨b, o, a2, c2, rfl, hb, hc, hI, _⟩ := (H3.out.ext hX.out).cell hkl
      have HC := Lib.hid (rowt_any t _ _ t.nx[k] _ (H.out.ext hX.out) hI)
      clear hI
      cases hq : rwB t.nx.length t.cn t.nx[k]
      · have HB := Lib.hid (nxsB_no hkl hq)
        rw [hq] at HC
        clear hq
        go_wp2_with (refine HC.out.mono ?_; rintro e w' ⟨rfl, hx9⟩; have hX9 := Lib.hid (bel_call hX.out hx9); clear hx9)
        go_ret
        exact ⟨ret_bool HB.out.symm, bel_call HE.out hX9.out⟩
      · have HQ := Lib.hid hq
        rw [hq] at HC
        clear hq
        go_wp2_with (refine HC.out.mono ?_; rintro e w' ⟨rfl, hx9⟩; have hX9 := Lib.hid (bel_call hX.out hx9); clear hx9)
        go_roundw
        case rel => exact ⟨k + 1, by omega, by go_num, Lib.hid (fun j hj hjk => by
          by_cases e : j = k
          · subst e; exact HQ.out
          · exact hall.out j hj (by omega)), hX9⟩
        case measure => simp [intOf]; omega
    · have HB := Lib.hid (nxsB_yes (fun j hj => hall.out j hj (by omega)))
      go_wp2_with fail
      go_ret
      exact ⟨ret_bool HB.out.symm, bel_call HE.out hX.out⟩
set_option maxHeartbeats 2000000 in
set_option maxRecDepth 20000 in
theorem classes_any15 (t : Tb) (v : Value) (w : World) (h : Tbm w v t) :
    Calls Tryd.prog 42 #[v] w fun e w' => e = .returned (.bool (clsB t)) ∧ Ext w w' := by
  have h0 := h
  obtain ⟨p1, k1, p2, k2, p3, k3, p4, k4, rfl, h1, h2, h3, h4, l1, l2, l3, l4⟩ := h.box
  have hE := ext_bx5 w (.slice p1 t.cl.length k1) (.int .i64 t.cn) (.slice p2 t.st.length k2) (.slice p3 t.nx.length k3) (.slice p4 t.lb.length k4) 29
  have HBX := Lib.hid (Blk.new w #[.slice p1 t.cl.length k1, .int .i64 t.cn, .slice p2 t.st.length k2, .slice p3 t.nx.length k3, .slice p4 t.lb.length k4] 29)
  have H := Lib.hid (h0.ext hE)
  have H1 := Lib.hid (h1.ext hE)
  have HE := Lib.hid hE
  have z1 := HBX.out.cell 1
  clear h h0 h1 h2 h3 h4 l2 l3 l4 hE
  go_enter Tryd.func42, Tryd.ntmps42
  go_wp2_with fail
  go_loop [9, 3] (fun i f => ∃ k : Nat, k ≤ t.cl.length ∧ i = .int .i64 k ∧ ∃ m : Int, f = .int .i64 m ∧ 0 ≤ m ∧ m ≤ 140737488355328 ∧ Hid (clsK 0 (t.cl.take k) = some m)) (fun i _ => t.cl.length - (intOf i).toNat)
  case atStart => exact ⟨0, Nat.zero_le _, rfl, 0, rfl, by omega, by omega, Lib.hid rfl⟩
  case round =>
    obtain ⟨k, hk, rfl, m, rfl, m0, m1, hK⟩ := hrel
    by_cases hkl : k < t.cl.length
    · obtain ⟨b, o, rfl, hb, hc, r1, r2⟩ := H1.out.cell hkl
      have HST := Lib.hid (clsK_take hkl 0)
      have HNO := Lib.hid (clsK_no hkl hK.out)
      have hle := (clsK_le _ _ _ hK.out).2
      have hml : m ≤ k := by rw [List.length_take] at hle; omega
      obtain ⟨x, hx⟩ : ∃ x, t.cl[k] = x := ⟨_, rfl⟩
      rw [hx] at hc HNO HST r1 r2
      clear hx hle
      by_cases g0 : x < 0
      · have HB := Lib.hid (show clsB t = false by unfold clsB; rw [HNO.out (.inl g0)]; rfl)
        have t1 : decide (x < 0) = true := decide_eq_true g0
        clear g0
        go_wp2
        go_ret
        exact ⟨ret_bool HB.out.symm, HE.out⟩
      · by_cases g1 : m < x
        · have HB := Lib.hid (show clsB t = false by unfold clsB; rw [HNO.out (.inr g1)]; rfl)
          have t1 : decide (x < 0) = false := decide_eq_false g0
          have t2 : decide (m < x) = true := decide_eq_true g1
          clear g0 g1
          go_wp2
          go_ret
          exact ⟨ret_bool HB.out.symm, HE.out⟩
        · have t1 : decide (x < 0) = false := decide_eq_false g0
          have t2 : decide (m < x) = false := decide_eq_false g1
          have HS := Lib.hid (show clsK 0 (t.cl.take (k + 1)) = some (if x = m then m + 1 else m) by rw [HST.out, hK.out]; show (if _ then none else _) = _; rw [if_neg (by omega)])
          have hl1 := l1
          by_cases g2 : x = m
          · rw [if_pos g2] at HS
            subst g2
            clear g1
            go_wp2
            go_round
            case rel => exact ⟨k + 1, by omega, by go_num, x + 1, rfl, by omega, by omega, HS⟩
            case measure => simp [intOf]; omega
          · rw [if_neg g2] at HS
            go_wp2
            go_round
            case rel => exact ⟨k + 1, by omega, by go_num, m, rfl, by omega, by omega, HS⟩
            case measure => simp [intOf]; omega
    · have e : k = t.cl.length := by omega
      subst e
      have hK2 := hK.out
      rw [List.take_length] at hK2
      have HB := Lib.hid (show (m == t.cn) = clsB t by unfold clsB; rw [hK2, Bool.eq_iff_iff, beq_iff_eq, decide_eq_true_eq, Option.some.injEq])
      clear hK2
      obtain ⟨bb, hbb⟩ : ∃ bb, clsB t = bb := ⟨_, rfl⟩
      have t3 := HB.out
      rw [hbb] at t3
      have HBB := Lib.hid hbb
      clear hbb
      go_wp2
      go_ret
      exact ⟨ret_bool HBB.out.symm, HE.out⟩
theorem counts_aux {n n1 n2 n4 : Nat} (h : ¬ (1 ≤ n ∧ n ≤ 600 ∧ n4 = n ∧ 1 ≤ n2 ∧ n2 ≤ 16)) : (decide (1 ≤ n) && (decide (n ≤ 600) && (decide (n4 = n) && (decide (1 ≤ n2) && (decide (n2 ≤ 16) && decide (n1 = 256)))))) = false := by
  rw [Bool.eq_false_iff]
  intro q
  simp only [Bool.and_eq_true, decide_eq_true_eq] at q
  exact h ⟨q.1, q.2.1, q.2.2.1, q.2.2.2.1, q.2.2.2.2.1⟩
set_option maxHeartbeats 2000000 in
set_option maxRecDepth 20000 in
theorem counts_any (t : Tb) (v : Value) (w : World) (h : Tbm w v t) :
    Calls Tryd.prog 41 #[v] w fun e w' => e = .returned (.bool (cntsB t)) ∧ Ext w w' := by
  obtain ⟨p1, k1, p2, k2, p3, k3, p4, k4, rfl, h1, h2, h3, h4, l1, l2, l3, l4⟩ := h.box
  have HE := Lib.hid (ext_bx5 w (.slice p1 t.cl.length k1) (.int .i64 t.cn) (.slice p2 t.st.length k2) (.slice p3 t.nx.length k3) (.slice p4 t.lb.length k4) 29)
  have HBX := Lib.hid (Blk.new w #[.slice p1 t.cl.length k1, .int .i64 t.cn, .slice p2 t.st.length k2, .slice p3 t.nx.length k3, .slice p4 t.lb.length k4] 29)
  have HC : Hid (cntsB t = (decide (1 ≤ t.nx.length) && (decide (t.nx.length ≤ 600) && (decide (t.lb.length = t.nx.length) && (decide (1 ≤ t.st.length) && (decide (t.st.length ≤ 16) && decide (t.cl.length = 256))))))) := Lib.hid rfl
  clear h h1 h2 h3 h4
  generalize cntsB t = bb at *
  generalize t.cl.length = n1 at *
  generalize t.st.length = n2 at *
  generalize t.lb.length = n4 at *
  generalize t.nx.length = n at *
  generalize t.cn = cn at *
  by_cases g0 : 1 ≤ n
  rotate_left
  · have HF := Lib.hid (HC.out.trans (counts_aux (n1 := n1) (fun q => g0 q.1)))
    have t0 : decide ((1 : Int) ≤ (n : Int)) = false := by simp; omega
    clear g0
    go_enter Tryd.func41, Tryd.ntmps41
    go_upto_region 1 with fail
    refine G.wp_region_stab (G := Ext) (fun _ => none) (by kernel_rfl) (by kernel_rfl) (fun _ _ h => by cases h) (fun hex => ?_)
    iterate 8
      (refine G.wpS_one (A := ?_) hex rfl rfl (by simp) ?_ ?_ ?_
       rotate_left 2
       · intro w' hC K hK
         have z2 := (HBX.out.ext hC.1).cell 2; have z3 := (HBX.out.ext hC.1).cell 3
         go_wp2_with (fail)
         refine hK _ ?_
         first | exact Below.refl _ _ | assumption | ((repeat' (first | (with_reducible exact Below.refl _ _) | (with_reducible assumption) | (with_reducible refine below_drewN ?_ _) | (with_reducible refine Below.alloc ?_ ?_ _) | (with_reducible refine Below.drew ?_) | (with_reducible refine Below.setCell ?_ ?_ _) | (with_reducible refine Below.trans ?_ (Below.mono (by with_reducible assumption) ?_)) | go_size)))
       rotate_left 1
       · rfl
       clear hex; intro hex)
    refine G.wpS_nil fun w6 hAll => ?_
    have E6 := Lib.hid (bel_call HE.out hAll.1)
    have z4 := (HBX.out.ext hAll.1).cell 4
    have z0 := (HBX.out.ext hAll.1).cell 0
    clear hAll hex
    go_wp2_with fail
    go_ret
    exact ⟨ret_bool HF.out.symm, E6.out⟩
  by_cases g1 : n ≤ 600
  rotate_left
  · have HF := Lib.hid (HC.out.trans (counts_aux (n1 := n1) (fun q => g1 q.2.1)))
    have t0 : decide ((1 : Int) ≤ (n : Int)) = true := by simp; omega
    have t1 : decide ((n : Int) ≤ 600) = false := by simp; omega
    clear g0 g1
    go_enter Tryd.func41, Tryd.ntmps41
    go_upto_region 1 with fail
    refine G.wp_region_stab (G := Ext) (fun _ => none) (by kernel_rfl) (by kernel_rfl) (fun _ _ h => by cases h) (fun hex => ?_)
    iterate 8
      (refine G.wpS_one (A := ?_) hex rfl rfl (by simp) ?_ ?_ ?_
       rotate_left 2
       · intro w' hC K hK
         have z2 := (HBX.out.ext hC.1).cell 2; have z3 := (HBX.out.ext hC.1).cell 3
         go_wp2_with (fail)
         refine hK _ ?_
         first | exact Below.refl _ _ | assumption | ((repeat' (first | (with_reducible exact Below.refl _ _) | (with_reducible assumption) | (with_reducible refine below_drewN ?_ _) | (with_reducible refine Below.alloc ?_ ?_ _) | (with_reducible refine Below.drew ?_) | (with_reducible refine Below.setCell ?_ ?_ _) | (with_reducible refine Below.trans ?_ (Below.mono (by with_reducible assumption) ?_)) | go_size)))
       rotate_left 1
       · rfl
       clear hex; intro hex)
    refine G.wpS_nil fun w6 hAll => ?_
    have E6 := Lib.hid (bel_call HE.out hAll.1)
    have z4 := (HBX.out.ext hAll.1).cell 4
    have z0 := (HBX.out.ext hAll.1).cell 0
    clear hAll hex
    go_wp2_with fail
    go_ret
    exact ⟨ret_bool HF.out.symm, E6.out⟩
  by_cases g2 : n4 = n
  rotate_left
  · have HF := Lib.hid (HC.out.trans (counts_aux (n1 := n1) (fun q => g2 q.2.2.1)))
    have t0 : decide ((1 : Int) ≤ (n : Int)) = true := by simp; omega
    have t1 : decide ((n : Int) ≤ 600) = true := by simp; omega
    have t2 : ((n4 : Int) == (n : Int)) = false := by simp; omega
    clear g0 g1 g2
    go_enter Tryd.func41, Tryd.ntmps41
    go_upto_region 1 with fail
    refine G.wp_region_stab (G := Ext) (fun _ => none) (by kernel_rfl) (by kernel_rfl) (fun _ _ h => by cases h) (fun hex => ?_)
    iterate 8
      (refine G.wpS_one (A := ?_) hex rfl rfl (by simp) ?_ ?_ ?_
       rotate_left 2
       · intro w' hC K hK
         have z2 := (HBX.out.ext hC.1).cell 2; have z3 := (HBX.out.ext hC.1).cell 3
         go_wp2_with (fail)
         refine hK _ ?_
         first | exact Below.refl _ _ | assumption | ((repeat' (first | (with_reducible exact Below.refl _ _) | (with_reducible assumption) | (with_reducible refine below_drewN ?_ _) | (with_reducible refine Below.alloc ?_ ?_ _) | (with_reducible refine Below.drew ?_) | (with_reducible refine Below.setCell ?_ ?_ _) | (with_reducible refine Below.trans ?_ (Below.mono (by with_reducible assumption) ?_)) | go_size)))
       rotate_left 1
       · rfl
       clear hex; intro hex)
    refine G.wpS_nil fun w6 hAll => ?_
    have E6 := Lib.hid (bel_call HE.out hAll.1)
    have z4 := (HBX.out.ext hAll.1).cell 4
    have z0 := (HBX.out.ext hAll.1).cell 0
    clear hAll hex
    go_wp2_with fail
    go_ret
    exact ⟨ret_bool HF.out.symm, E6.out⟩
  by_cases g3 : 1 ≤ n2
  rotate_left
  · have HF := Lib.hid (HC.out.trans (counts_aux (n1 := n1) (fun q => g3 q.2.2.2.1)))
    have t0 : decide ((1 : Int) ≤ (n : Int)) = true := by simp; omega
    have t1 : decide ((n : Int) ≤ 600) = true := by simp; omega
    have t2 : ((n4 : Int) == (n : Int)) = true := by simp; omega
    have t3 : decide ((1 : Int) ≤ (n2 : Int)) = false := by simp; omega
    clear g0 g1 g2 g3
    go_enter Tryd.func41, Tryd.ntmps41
    go_upto_region 1 with fail
    refine G.wp_region_stab (G := Ext) (fun _ => none) (by kernel_rfl) (by kernel_rfl) (fun _ _ h => by cases h) (fun hex => ?_)
    iterate 8
      (refine G.wpS_one (A := ?_) hex rfl rfl (by simp) ?_ ?_ ?_
       rotate_left 2
       · intro w' hC K hK
         have z2 := (HBX.out.ext hC.1).cell 2; have z3 := (HBX.out.ext hC.1).cell 3
         go_wp2_with (fail)
         refine hK _ ?_
         first | exact Below.refl _ _ | assumption | ((repeat' (first | (with_reducible exact Below.refl _ _) | (with_reducible assumption) | (with_reducible refine below_drewN ?_ _) | (with_reducible refine Below.alloc ?_ ?_ _) | (with_reducible refine Below.drew ?_) | (with_reducible refine Below.setCell ?_ ?_ _) | (with_reducible refine Below.trans ?_ (Below.mono (by with_reducible assumption) ?_)) | go_size)))
       rotate_left 1
       · rfl
       clear hex; intro hex)
    refine G.wpS_nil fun w6 hAll => ?_
    have E6 := Lib.hid (bel_call HE.out hAll.1)
    have z4 := (HBX.out.ext hAll.1).cell 4
    have z0 := (HBX.out.ext hAll.1).cell 0
    clear hAll hex
    go_wp2_with fail
    go_ret
    exact ⟨ret_bool HF.out.symm, E6.out⟩
  by_cases g4 : n2 ≤ 16
  rotate_left
  · have HF := Lib.hid (HC.out.trans (counts_aux (n1 := n1) (fun q => g4 q.2.2.2.2)))
    have t0 : decide ((1 : Int) ≤ (n : Int)) = true := by simp; omega
    have t1 : decide ((n : Int) ≤ 600) = true := by simp; omega
    have t2 : ((n4 : Int) == (n : Int)) = true := by simp; omega
    have t3 : decide ((1 : Int) ≤ (n2 : Int)) = true := by simp; omega
    have t4 : decide ((n2 : Int) ≤ 16) = false := by simp; omega
    clear g0 g1 g2 g3 g4
    go_enter Tryd.func41, Tryd.ntmps41
    go_upto_region 1 with fail
    refine G.wp_region_stab (G := Ext) (fun _ => none) (by kernel_rfl) (by kernel_rfl) (fun _ _ h => by cases h) (fun hex => ?_)
    iterate 8
      (refine G.wpS_one (A := ?_) hex rfl rfl (by simp) ?_ ?_ ?_
       rotate_left 2
       · intro w' hC K hK
         have z2 := (HBX.out.ext hC.1).cell 2; have z3 := (HBX.out.ext hC.1).cell 3
         go_wp2_with (fail)
         refine hK _ ?_
         first | exact Below.refl _ _ | assumption | ((repeat' (first | (with_reducible exact Below.refl _ _) | (with_reducible assumption) | (with_reducible refine below_drewN ?_ _) | (with_reducible refine Below.alloc ?_ ?_ _) | (with_reducible refine Below.drew ?_) | (with_reducible refine Below.setCell ?_ ?_ _) | (with_reducible refine Below.trans ?_ (Below.mono (by with_reducible assumption) ?_)) | go_size)))
       rotate_left 1
       · rfl
       clear hex; intro hex)
    refine G.wpS_nil fun w6 hAll => ?_
    have E6 := Lib.hid (bel_call HE.out hAll.1)
    have z4 := (HBX.out.ext hAll.1).cell 4
    have z0 := (HBX.out.ext hAll.1).cell 0
    clear hAll hex
    go_wp2_with fail
    go_ret
    exact ⟨ret_bool HF.out.symm, E6.out⟩
  have t0 : decide ((1 : Int) ≤ (n : Int)) = true := by simp; omega
  have t1 : decide ((n : Int) ≤ 600) = true := by simp; omega
  have t2 : ((n4 : Int) == (n : Int)) = true := by simp; omega
  have t3 : decide ((1 : Int) ≤ (n2 : Int)) = true := by simp; omega
  have t4 : decide ((n2 : Int) ≤ 16) = true := by simp; omega
  obtain ⟨q, hq⟩ : ∃ q, decide (n1 = 256) = q := ⟨_, rfl⟩
  have t5 : ((n1 : Int) == 256) = q := by rw [← hq, Bool.eq_iff_iff, beq_iff_eq, decide_eq_true_eq]; omega
  have HF := Lib.hid (show bb = q by rw [HC.out, hq]; simp [g0, g1, g2, g3, g4])
  clear hq g0 g1 g2 g3 g4
  go_enter Tryd.func41, Tryd.ntmps41
  go_upto_region 1 with fail
  refine G.wp_region_stab (G := Ext) (fun _ => none) (by kernel_rfl) (by kernel_rfl) (fun _ _ h => by cases h) (fun hex => ?_)
  iterate 8
    (refine G.wpS_one (A := ?_) hex rfl rfl (by simp) ?_ ?_ ?_
     rotate_left 2
     · intro w' hC K hK
       have z2 := (HBX.out.ext hC.1).cell 2; have z3 := (HBX.out.ext hC.1).cell 3
       go_wp2_with (fail)
       refine hK _ ?_
       first | exact Below.refl _ _ | assumption | ((repeat' (first | (with_reducible exact Below.refl _ _) | (with_reducible assumption) | (with_reducible refine below_drewN ?_ _) | (with_reducible refine Below.alloc ?_ ?_ _) | (with_reducible refine Below.drew ?_) | (with_reducible refine Below.setCell ?_ ?_ _) | (with_reducible refine Below.trans ?_ (Below.mono (by with_reducible assumption) ?_)) | go_size)))
     rotate_left 1
     · rfl
     clear hex; intro hex)
  refine G.wpS_nil fun w6 hAll => ?_
  have E6 := Lib.hid (bel_call HE.out hAll.1)
  have z4 := (HBX.out.ext hAll.1).cell 4
  have z0 := (HBX.out.ext hAll.1).cell 0
  clear hAll hex
  go_wp2_with fail
  go_ret
  exact ⟨ret_bool HF.out.symm, E6.out⟩
set_option maxHeartbeats 2000000 in
set_option maxRecDepth 20000 in
theorem checkt_any (t : Tb) (v : Value) (w : World) (h : Tbm w v t) :
    Calls Tryd.prog 20 #[v] w fun e w' => e = .returned (.bool (mayT t)) ∧ Ext w w' := by
  have h0 := h
  obtain ⟨p1, k1, p2, k2, p3, k3, p4, k4, rfl, h1, h2, h3, h4, l1, l2, l3, l4⟩ := h.box
  have hE := ext_bx5 w (.slice p1 t.cl.length k1) (.int .i64 t.cn) (.slice p2 t.st.length k2) (.slice p3 t.nx.length k3) (.slice p4 t.lb.length k4) 29
  have HBX := Lib.hid (Blk.new w #[.slice p1 t.cl.length k1, .int .i64 t.cn, .slice p2 t.st.length k2, .slice p3 t.nx.length k3, .slice p4 t.lb.length k4] 29)
  have H := Lib.hid (h0.ext hE)
  have HE := Lib.hid hE
  clear h h0 h1 h2 h3 h4 l1 l2 l3 l4 hE
  by_cases q0 : cntsB t = true
  rotate_left
  · have Q0 := Lib.hid (show cntsB t = false by simpa using q0)
    have HB := Lib.hid (show mayT t = false by unfold mayT; rw [Q0.out]; rfl)
    clear q0
    go_enter Tryd.func20, Tryd.ntmps20
    have C0 := counts_any t _ _ (H.out.ext (Below.refl _ _))
    rw [show cntsB t = false from Q0.out] at C0
    have C0 := Lib.hid C0
    have z0 := (HBX.out.ext (Below.refl _ _)).cell 0; have z1 := (HBX.out.ext (Below.refl _ _)).cell 1; have z2 := (HBX.out.ext (Below.refl _ _)).cell 2; have z3 := (HBX.out.ext (Below.refl _ _)).cell 3; have z4 := (HBX.out.ext (Below.refl _ _)).cell 4
    go_wp2_with fail
    refine C0.out.mono ?_; rintro e w0 ⟨rfl, x0⟩
    have X0 := Lib.hid (bel_call (Below.refl _ _) x0)
    clear x0 z0 z1 z2 z3 z4
    go_wp2_with fail
    go_ret
    exact ⟨ret_bool HB.out.symm, bel_call HE.out X0.out⟩
  have Q0 := Lib.hid q0
  clear q0
  by_cases q1 : clsB t = true
  rotate_left
  · have Q1 := Lib.hid (show clsB t = false by simpa using q1)
    have HB := Lib.hid (show mayT t = false by unfold mayT; rw [Q0.out, Q1.out]; rfl)
    clear q1
    go_enter Tryd.func20, Tryd.ntmps20
    have C0 := counts_any t _ _ (H.out.ext (Below.refl _ _))
    rw [show cntsB t = true from Q0.out] at C0
    have C0 := Lib.hid C0
    have z0 := (HBX.out.ext (Below.refl _ _)).cell 0; have z1 := (HBX.out.ext (Below.refl _ _)).cell 1; have z2 := (HBX.out.ext (Below.refl _ _)).cell 2; have z3 := (HBX.out.ext (Below.refl _ _)).cell 3; have z4 := (HBX.out.ext (Below.refl _ _)).cell 4
    go_wp2_with fail
    refine C0.out.mono ?_; rintro e w0 ⟨rfl, x0⟩
    have X0 := Lib.hid (bel_call (Below.refl _ _) x0)
    clear x0 z0 z1 z2 z3 z4
    have C1 := classes_any15 t _ _ (H.out.ext X0.out)
    rw [show clsB t = false from Q1.out] at C1
    have C1 := Lib.hid C1
    have z0 := (HBX.out.ext X0.out).cell 0; have z1 := (HBX.out.ext X0.out).cell 1; have z2 := (HBX.out.ext X0.out).cell 2; have z3 := (HBX.out.ext X0.out).cell 3; have z4 := (HBX.out.ext X0.out).cell 4
    go_wp2_with fail
    refine C1.out.mono ?_; rintro e w1 ⟨rfl, x1⟩
    have X1 := Lib.hid (bel_call X0.out x1)
    clear x1 z0 z1 z2 z3 z4
    go_wp2_with fail
    go_ret
    exact ⟨ret_bool HB.out.symm, bel_call HE.out X1.out⟩
  have Q1 := Lib.hid q1
  clear q1
  by_cases q2 : stsB t = true
  rotate_left
  · have Q2 := Lib.hid (show stsB t = false by simpa using q2)
    have HB := Lib.hid (show mayT t = false by unfold mayT; rw [Q0.out, Q1.out, Q2.out]; rfl)
    clear q2
    go_enter Tryd.func20, Tryd.ntmps20
    have C0 := counts_any t _ _ (H.out.ext (Below.refl _ _))
    rw [show cntsB t = true from Q0.out] at C0
    have C0 := Lib.hid C0
    have z0 := (HBX.out.ext (Below.refl _ _)).cell 0; have z1 := (HBX.out.ext (Below.refl _ _)).cell 1; have z2 := (HBX.out.ext (Below.refl _ _)).cell 2; have z3 := (HBX.out.ext (Below.refl _ _)).cell 3; have z4 := (HBX.out.ext (Below.refl _ _)).cell 4
    go_wp2_with fail
    refine C0.out.mono ?_; rintro e w0 ⟨rfl, x0⟩
    have X0 := Lib.hid (bel_call (Below.refl _ _) x0)
    clear x0 z0 z1 z2 z3 z4
    have C1 := classes_any15 t _ _ (H.out.ext X0.out)
    rw [show clsB t = true from Q1.out] at C1
    have C1 := Lib.hid C1
    have z0 := (HBX.out.ext X0.out).cell 0; have z1 := (HBX.out.ext X0.out).cell 1; have z2 := (HBX.out.ext X0.out).cell 2; have z3 := (HBX.out.ext X0.out).cell 3; have z4 := (HBX.out.ext X0.out).cell 4
    go_wp2_with fail
    refine C1.out.mono ?_; rintro e w1 ⟨rfl, x1⟩
    have X1 := Lib.hid (bel_call X0.out x1)
    clear x1 z0 z1 z2 z3 z4
    have C2 := starts_any t _ _ (H.out.ext X1.out)
    rw [show stsB t = false from Q2.out] at C2
    have C2 := Lib.hid C2
    have z0 := (HBX.out.ext X1.out).cell 0; have z1 := (HBX.out.ext X1.out).cell 1; have z2 := (HBX.out.ext X1.out).cell 2; have z3 := (HBX.out.ext X1.out).cell 3; have z4 := (HBX.out.ext X1.out).cell 4
    go_wp2_with fail
    refine C2.out.mono ?_; rintro e w2 ⟨rfl, x2⟩
    have X2 := Lib.hid (bel_call X1.out x2)
    clear x2 z0 z1 z2 z3 z4
    go_wp2_with fail
    go_ret
    exact ⟨ret_bool HB.out.symm, bel_call HE.out X2.out⟩
  have Q2 := Lib.hid q2
  clear q2
  by_cases q3 : nxsB t = true
  rotate_left
  · have Q3 := Lib.hid (show nxsB t = false by simpa using q3)
    have HB := Lib.hid (show mayT t = false by unfold mayT; rw [Q0.out, Q1.out, Q2.out, Q3.out]; rfl)
    clear q3
    go_enter Tryd.func20, Tryd.ntmps20
    have C0 := counts_any t _ _ (H.out.ext (Below.refl _ _))
    rw [show cntsB t = true from Q0.out] at C0
    have C0 := Lib.hid C0
    have z0 := (HBX.out.ext (Below.refl _ _)).cell 0; have z1 := (HBX.out.ext (Below.refl _ _)).cell 1; have z2 := (HBX.out.ext (Below.refl _ _)).cell 2; have z3 := (HBX.out.ext (Below.refl _ _)).cell 3; have z4 := (HBX.out.ext (Below.refl _ _)).cell 4
    go_wp2_with fail
    refine C0.out.mono ?_; rintro e w0 ⟨rfl, x0⟩
    have X0 := Lib.hid (bel_call (Below.refl _ _) x0)
    clear x0 z0 z1 z2 z3 z4
    have C1 := classes_any15 t _ _ (H.out.ext X0.out)
    rw [show clsB t = true from Q1.out] at C1
    have C1 := Lib.hid C1
    have z0 := (HBX.out.ext X0.out).cell 0; have z1 := (HBX.out.ext X0.out).cell 1; have z2 := (HBX.out.ext X0.out).cell 2; have z3 := (HBX.out.ext X0.out).cell 3; have z4 := (HBX.out.ext X0.out).cell 4
    go_wp2_with fail
    refine C1.out.mono ?_; rintro e w1 ⟨rfl, x1⟩
    have X1 := Lib.hid (bel_call X0.out x1)
    clear x1 z0 z1 z2 z3 z4
    have C2 := starts_any t _ _ (H.out.ext X1.out)
    rw [show stsB t = true from Q2.out] at C2
    have C2 := Lib.hid C2
    have z0 := (HBX.out.ext X1.out).cell 0; have z1 := (HBX.out.ext X1.out).cell 1; have z2 := (HBX.out.ext X1.out).cell 2; have z3 := (HBX.out.ext X1.out).cell 3; have z4 := (HBX.out.ext X1.out).cell 4
    go_wp2_with fail
    refine C2.out.mono ?_; rintro e w2 ⟨rfl, x2⟩
    have X2 := Lib.hid (bel_call X1.out x2)
    clear x2 z0 z1 z2 z3 z4
    have C3 := entries_any t _ _ (H.out.ext X2.out)
    rw [show nxsB t = false from Q3.out] at C3
    have C3 := Lib.hid C3
    have z0 := (HBX.out.ext X2.out).cell 0; have z1 := (HBX.out.ext X2.out).cell 1; have z2 := (HBX.out.ext X2.out).cell 2; have z3 := (HBX.out.ext X2.out).cell 3; have z4 := (HBX.out.ext X2.out).cell 4
    go_wp2_with fail
    refine C3.out.mono ?_; rintro e w3 ⟨rfl, x3⟩
    have X3 := Lib.hid (bel_call X2.out x3)
    clear x3 z0 z1 z2 z3 z4
    go_wp2_with fail
    go_ret
    exact ⟨ret_bool HB.out.symm, bel_call HE.out X3.out⟩
  have Q3 := Lib.hid q3
  clear q3
  by_cases q4 : lbsB t = true
  rotate_left
  · have Q4 := Lib.hid (show lbsB t = false by simpa using q4)
    have HB := Lib.hid (show mayT t = false by unfold mayT; rw [Q0.out, Q1.out, Q2.out, Q3.out, Q4.out]; rfl)
    clear q4
    go_enter Tryd.func20, Tryd.ntmps20
    have C0 := counts_any t _ _ (H.out.ext (Below.refl _ _))
    rw [show cntsB t = true from Q0.out] at C0
    have C0 := Lib.hid C0
    have z0 := (HBX.out.ext (Below.refl _ _)).cell 0; have z1 := (HBX.out.ext (Below.refl _ _)).cell 1; have z2 := (HBX.out.ext (Below.refl _ _)).cell 2; have z3 := (HBX.out.ext (Below.refl _ _)).cell 3; have z4 := (HBX.out.ext (Below.refl _ _)).cell 4
    go_wp2_with fail
    refine C0.out.mono ?_; rintro e w0 ⟨rfl, x0⟩
    have X0 := Lib.hid (bel_call (Below.refl _ _) x0)
    clear x0 z0 z1 z2 z3 z4
    have C1 := classes_any15 t _ _ (H.out.ext X0.out)
    rw [show clsB t = true from Q1.out] at C1
    have C1 := Lib.hid C1
    have z0 := (HBX.out.ext X0.out).cell 0; have z1 := (HBX.out.ext X0.out).cell 1; have z2 := (HBX.out.ext X0.out).cell 2; have z3 := (HBX.out.ext X0.out).cell 3; have z4 := (HBX.out.ext X0.out).cell 4
    go_wp2_with fail
    refine C1.out.mono ?_; rintro e w1 ⟨rfl, x1⟩
    have X1 := Lib.hid (bel_call X0.out x1)
    clear x1 z0 z1 z2 z3 z4
    have C2 := starts_any t _ _ (H.out.ext X1.out)
    rw [show stsB t = true from Q2.out] at C2
    have C2 := Lib.hid C2
    have z0 := (HBX.out.ext X1.out).cell 0; have z1 := (HBX.out.ext X1.out).cell 1; have z2 := (HBX.out.ext X1.out).cell 2; have z3 := (HBX.out.ext X1.out).cell 3; have z4 := (HBX.out.ext X1.out).cell 4
    go_wp2_with fail
    refine C2.out.mono ?_; rintro e w2 ⟨rfl, x2⟩
    have X2 := Lib.hid (bel_call X1.out x2)
    clear x2 z0 z1 z2 z3 z4
    have C3 := entries_any t _ _ (H.out.ext X2.out)
    rw [show nxsB t = true from Q3.out] at C3
    have C3 := Lib.hid C3
    have z0 := (HBX.out.ext X2.out).cell 0; have z1 := (HBX.out.ext X2.out).cell 1; have z2 := (HBX.out.ext X2.out).cell 2; have z3 := (HBX.out.ext X2.out).cell 3; have z4 := (HBX.out.ext X2.out).cell 4
    go_wp2_with fail
    refine C3.out.mono ?_; rintro e w3 ⟨rfl, x3⟩
    have X3 := Lib.hid (bel_call X2.out x3)
    clear x3 z0 z1 z2 z3 z4
    have C4 := labels_any t _ _ (H.out.ext X3.out)
    rw [show lbsB t = false from Q4.out] at C4
    have C4 := Lib.hid C4
    have z0 := (HBX.out.ext X3.out).cell 0; have z1 := (HBX.out.ext X3.out).cell 1; have z2 := (HBX.out.ext X3.out).cell 2; have z3 := (HBX.out.ext X3.out).cell 3; have z4 := (HBX.out.ext X3.out).cell 4
    go_wp2_with fail
    refine C4.out.mono ?_; rintro e w4 ⟨rfl, x4⟩
    have X4 := Lib.hid (bel_call X3.out x4)
    clear x4 z0 z1 z2 z3 z4
    go_wp2_with fail
    go_ret
    exact ⟨ret_bool HB.out.symm, bel_call HE.out X4.out⟩
  have Q4 := Lib.hid q4
  clear q4
  have HB := Lib.hid (show mayT t = true by unfold mayT; rw [Q0.out, Q1.out, Q2.out, Q3.out, Q4.out]; rfl)
  go_enter Tryd.func20, Tryd.ntmps20
  have C0 := counts_any t _ _ (H.out.ext (Below.refl _ _))
  rw [show cntsB t = true from Q0.out] at C0
  have C0 := Lib.hid C0
  have z0 := (HBX.out.ext (Below.refl _ _)).cell 0; have z1 := (HBX.out.ext (Below.refl _ _)).cell 1; have z2 := (HBX.out.ext (Below.refl _ _)).cell 2; have z3 := (HBX.out.ext (Below.refl _ _)).cell 3; have z4 := (HBX.out.ext (Below.refl _ _)).cell 4
  go_wp2_with fail
  refine C0.out.mono ?_; rintro e w0 ⟨rfl, x0⟩
  have X0 := Lib.hid (bel_call (Below.refl _ _) x0)
  clear x0 z0 z1 z2 z3 z4
  have C1 := classes_any15 t _ _ (H.out.ext X0.out)
  rw [show clsB t = true from Q1.out] at C1
  have C1 := Lib.hid C1
  have z0 := (HBX.out.ext X0.out).cell 0; have z1 := (HBX.out.ext X0.out).cell 1; have z2 := (HBX.out.ext X0.out).cell 2; have z3 := (HBX.out.ext X0.out).cell 3; have z4 := (HBX.out.ext X0.out).cell 4
  go_wp2_with fail
  refine C1.out.mono ?_; rintro e w1 ⟨rfl, x1⟩
  have X1 := Lib.hid (bel_call X0.out x1)
  clear x1 z0 z1 z2 z3 z4
  have C2 := starts_any t _ _ (H.out.ext X1.out)
  rw [show stsB t = true from Q2.out] at C2
  have C2 := Lib.hid C2
  have z0 := (HBX.out.ext X1.out).cell 0; have z1 := (HBX.out.ext X1.out).cell 1; have z2 := (HBX.out.ext X1.out).cell 2; have z3 := (HBX.out.ext X1.out).cell 3; have z4 := (HBX.out.ext X1.out).cell 4
  go_wp2_with fail
  refine C2.out.mono ?_; rintro e w2 ⟨rfl, x2⟩
  have X2 := Lib.hid (bel_call X1.out x2)
  clear x2 z0 z1 z2 z3 z4
  have C3 := entries_any t _ _ (H.out.ext X2.out)
  rw [show nxsB t = true from Q3.out] at C3
  have C3 := Lib.hid C3
  have z0 := (HBX.out.ext X2.out).cell 0; have z1 := (HBX.out.ext X2.out).cell 1; have z2 := (HBX.out.ext X2.out).cell 2; have z3 := (HBX.out.ext X2.out).cell 3; have z4 := (HBX.out.ext X2.out).cell 4
  go_wp2_with fail
  refine C3.out.mono ?_; rintro e w3 ⟨rfl, x3⟩
  have X3 := Lib.hid (bel_call X2.out x3)
  clear x3 z0 z1 z2 z3 z4
  have C4 := labels_any t _ _ (H.out.ext X3.out)
  rw [show lbsB t = true from Q4.out] at C4
  have C4 := Lib.hid C4
  have z0 := (HBX.out.ext X3.out).cell 0; have z1 := (HBX.out.ext X3.out).cell 1; have z2 := (HBX.out.ext X3.out).cell 2; have z3 := (HBX.out.ext X3.out).cell 3; have z4 := (HBX.out.ext X3.out).cell 4
  go_wp2_with fail
  refine C4.out.mono ?_; rintro e w4 ⟨rfl, x4⟩
  have X4 := Lib.hid (bel_call X3.out x4)
  clear x4 z0 z1 z2 z3 z4
  go_wp2_with fail
  go_ret
  exact ⟨ret_bool HB.out.symm, bel_call HE.out X4.out⟩
end Go.Proofs.YtgcjclglhijchaaDoor
