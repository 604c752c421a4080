/- bolterlaw12.parted, of an automaton whose states are told apart. -/
import Derived.Test.YtmhgpdjlomcjoaaDoorCnl
import Derived.Test.YtmhgpdjlomcjoaaDoorDdq
namespace Go.Proofs.YtmhgpdjlomcjoaaDoor
def cf (M : List Bool) : Nat := M.countP fun b => !b
theorem cf_set {M : List Bool} {j : Nat} (h : j < M.length) (hM : M.getD j false = false) : cf (M.set j true) < cf M := by
  have hM' : M[j] = false := by rw [List.getD_eq_getElem?_getD, List.getElem?_eq_getElem h] at hM; exact hM
  unfold cf
  rw [List.countP_set h, hM']
  have : 0 < M.countP fun b => !b := List.countP_pos_iff.2 ⟨M[j], List.getElem_mem h, by rw [hM']; rfl⟩
  simp; omega
theorem gb_set {M : List Bool} {j q : Nat} {b : Bool} (h : j < M.length) : (M.set j b).getD q false = if q = j then b else M.getD q false := by
  rw [List.getD_eq_getElem?_getD, List.getElem?_set]
  by_cases e : j = q
  · subst e; simp [h]
  · rw [if_neg e, if_neg (fun x => e x.symm), ← List.getD_eq_getElem?_getD]
theorem pair_lt {n i k : Nat} (hi : i < n) (hk : k < n) : i * n + k < n * n := by
  have : (i + 1) * n ≤ n * n := Nat.mul_le_mul_right n hi
  rw [Nat.add_mul, Nat.one_mul] at this
  omega
theorem pair_inj {n i k i' k' : Nat} (hk : k < n) (hk' : k' < n) (h : i * n + k = i' * n + k') : i = i' ∧ k = k' := by
  have e1 : (i * n + k) / n = i := by rw [Nat.mul_comm, Nat.mul_add_div (by omega), Nat.div_eq_of_lt hk, Nat.add_zero]
  have e2 : (i' * n + k') / n = i' := by rw [Nat.mul_comm, Nat.mul_add_div (by omega), Nat.div_eq_of_lt hk', Nat.add_zero]
  have : i = i' := by rw [← e1, ← e2, h]
  subst this
  exact ⟨rfl, by omega⟩
/-- Marks of pairs: unlike labels are marked. -/
structure Pm (m : Dd) (n : Nat) (M : List Bool) : Prop where
  len : M.length = n * n
  lab : ∀ i k, i < n → k < n → m.lab i ≠ m.lab k → M.getD (i * n + k) false = true
/-- While the labels are gone through. -/
structure Pl (m : Dd) (n : Nat) (M : List Bool) (i k : Nat) : Prop where
  len : M.length = n * n
  lab : ∀ i' k', i' < n → k' < n → (i' < i ∨ i' = i ∧ k' < k) → m.lab i' ≠ m.lab k' → M.getD (i' * n + k') false = true
theorem Pl.step {m : Dd} {n : Nat} {M : List Bool} {i k : Nat} (h : Pl m n M i k) (hi : i < n) (hk : k < n) : Pl m n (M.set (i * n + k) (m.lab i != m.lab k)) i (k + 1) := by
  refine ⟨by rw [List.length_set]; exact h.len, fun i' k' hi' hk' ho hl => ?_⟩
  rw [gb_set (by rw [h.len]; exact pair_lt hi hk)]
  split
  · rename_i e
    obtain ⟨rfl, rfl⟩ := pair_inj hk' hk e
    simpa using hl
  · rename_i e
    refine h.lab i' k' hi' hk' ?_ hl
    rcases ho with ho | ⟨rfl, ho⟩
    · exact .inl ho
    · refine .inr ⟨rfl, ?_⟩
      by_cases q : k' = k
      · subst q; exact absurd rfl e
      · omega
theorem Pl.next {m : Dd} {n : Nat} {M : List Bool} {i : Nat} (h : Pl m n M i n) : Pl m n M (i + 1) 0 :=
  ⟨h.len, fun i' k' hi' hk' ho hl => h.lab i' k' hi' hk' (by omega) hl⟩
theorem Pl.done {m : Dd} {n : Nat} {M : List Bool} (h : Pl m n M n 0) : Pm m n M := ⟨h.len, fun i k hi hk hl => h.lab i k hi hk (.inl hi) hl⟩
theorem Pl.start (m : Dd) (n : Nat) : Pl m n (List.replicate (n * n) false) 0 0 := ⟨List.length_replicate, fun i' k' _ _ ho => by omega⟩
theorem Pm.set {m : Dd} {n : Nat} {M : List Bool} {j : Nat} (h : Pm m n M) (hj : j < n * n) : Pm m n (M.set j true) :=
  ⟨by rw [List.length_set]; exact h.len, fun i k hi hk hl => by
    rw [gb_set (by rw [h.len]; exact hj)]
    split
    · rfl
    · exact h.lab i k hi hk hl⟩
/-- In a round: the marks, whether some are new, which pairs were gone through. -/
structure Rd (m : Dd) (n : Nat) (M0 M : List Bool) (b : Bool) (i k c : Nat) : Prop where
  pm : Pm m n M
  lt : b = true → cf M < cf M0
  eq : b = false → M = M0
  dn : b = false → ∀ i' k' c', c' < 256 → k' < n → (i' < i ∨ (i' = i ∧ (k' < k ∨ (k' = k ∧ c' < c)))) → M.getD (i' * n + k') false = false → M.getD (m.to i' c' * n + m.to k' c') false = false
theorem Rd.start {m : Dd} {n : Nat} {M : List Bool} (h : Pm m n M) : Rd m n M M false 0 0 0 := ⟨h, (fun e => by cases e), fun _ => rfl, fun _ i' k' c' _ _ ho => by omega⟩
theorem Rd.mark {m : Dd} {n : Nat} {M0 M : List Bool} {b : Bool} {i k c c' : Nat} (h : Rd m n M0 M b i k c) (hi : i < n) (hk : k < n) (hM : M.getD (i * n + k) false = false) : Rd m n M0 (M.set (i * n + k) true) true i k c' := by
  have hj := pair_lt hi hk
  have := cf_set (M := M) (j := i * n + k) (by rw [h.pm.len]; exact hj) hM
  refine ⟨h.pm.set hj, fun _ => ?_, (fun e => by cases e), (fun e => by cases e)⟩
  cases b with
  | true => have := h.lt rfl; omega
  | false => rw [← h.eq rfl]; exact this
theorem Rd.pass {m : Dd} {n : Nat} {M0 M : List Bool} {b : Bool} {i k c : Nat} (h : Rd m n M0 M b i k c) (hM : M.getD (m.to i c * n + m.to k c) false = false) : Rd m n M0 M b i k (c + 1) :=
  ⟨h.pm, h.lt, h.eq, fun e i' k' c' hc hk ho hm => by
    by_cases q : i' = i ∧ k' = k ∧ c' = c
    · obtain ⟨rfl, rfl, rfl⟩ := q; exact hM
    · exact h.dn e i' k' c' hc hk (by omega) hm⟩
theorem Rd.out {m : Dd} {n : Nat} {M0 M : List Bool} {b : Bool} {i k c : Nat} (h : Rd m n M0 M b i k c) (hM : c = 256 ∨ M.getD (i * n + k) false = true) : Rd m n M0 M b i (k + 1) 0 :=
  ⟨h.pm, h.lt, h.eq, fun e i' k' c' hc hk ho hm => by
    by_cases q : i' = i ∧ k' = k
    · obtain ⟨rfl, rfl⟩ := q
      rcases hM with hM | hM
      · exact h.dn e i' k' c' hc hk (by omega) hm
      · rw [hM] at hm; cases hm
    · exact h.dn e i' k' c' hc hk (by omega) hm⟩
theorem Rd.row {m : Dd} {n : Nat} {M0 M : List Bool} {b : Bool} {i : Nat} (h : Rd m n M0 M b i n 0) : Rd m n M0 M b (i + 1) 0 0 :=
  ⟨h.pm, h.lt, h.eq, fun e i' k' c' hc hk ho hm => h.dn e i' k' c' hc hk (by omega) hm⟩
/-- Nothing is new. -/
def Fx (m : Dd) (n : Nat) (M : List Bool) : Prop := ∀ i k c, i < n → k < n → c < 256 → M.getD (i * n + k) false = false → M.getD (m.to i c * n + m.to k c) false = false
theorem Rd.fix {m : Dd} {n : Nat} {M0 M : List Bool} (h : Rd m n M0 M false n 0 0) : Fx m n M := fun i k c hi hk hc hm => h.dn rfl i k c hc hk (.inl hi) hm
theorem fix_apart {m : Dd} {n : Nat} {M : List Bool} (hm : m.Ok) (hn : m.nx.length = n) (h : Pm m n M) (hf : Fx m n M) (ha : ∀ i j, i < m.nx.length → j < m.nx.length → Beq (m.beh i) (m.beh j) → i = j) {i k : Nat} (hi : i < n) (hk : k < n) (hne : i ≠ k) : M.getD (i * n + k) false = true := by
  cases q : M.getD (i * n + k) false with
  | true => rfl
  | false =>
    refine absurd (ha i k (by omega) (by omega) ?_) hne
    refine beq_of_cong (fun s t => s < n ∧ t < n ∧ M.getD (s * n + t) false = false) (fun s t ⟨h1, h2, h3⟩ => ?_) (fun s t c ⟨h1, h2, h3⟩ hc => ?_) i k ⟨hi, hk, q⟩
    · by_cases e : m.lab s = m.lab t
      · exact e
      · rw [h.lab s t h1 h2 e] at h3; cases h3
    · have t1 := hm.to (s := s) (c := c) (by omega) hc
      have t2 := hm.to (s := t) (c := c) (by omega) hc
      exact ⟨by omega, by omega, hf s t c h1 h2 hc h3⟩
end Go.Proofs.YtmhgpdjlomcjoaaDoor
namespace Go.Proofs.YtmhgpdjlomcjoaaDoor
open Go Go.RowKit
theorem info_bool : (Tryd.prog.info? 4).map (fun i => (i.zero, i.size, i.bytes)) = some (some (.bool false), 1, 1) := by kernel_rfl
abbrev bv (b : Bool) : Value := .bool b
theorem mk_set0 {w : World} {g N q : Nat} {M : List Bool} {b : Bool} (h : w.ownsRow g 4 1 (.slice (some ⟨g, 0, none⟩) N N) N (M.map bv)) : (w.setCell ⟨g, q, none⟩ (.bool b)).ownsRow g 4 1 (.slice (some ⟨g, 0, none⟩) N N) N ((M.set q b).map bv) := by
  have := (h.stored q (bv b)).1
  rwa [← List.map_set] at this
theorem mk_set {w : World} {g N q : Nat} {M : List Bool} {b : Bool} (h : w.ownsRow g 4 1 (.slice (some ⟨g, 0, none⟩) N N) N (M.map bv)) : (w.setCell ⟨g, q, none⟩ (.bool b)).drew.ownsRow g 4 1 (.slice (some ⟨g, 0, none⟩) N N) N ((M.set q b).map bv) :=
  own_ex (mk_set0 h) (drew_ext _)
theorem mk_ext0 {w0 w : World} {g q : Nat} {b : Bool} (hg : w0.heap.size ≤ g) (h : Ext w0 w) : Ext w0 (w.setCell ⟨g, q, none⟩ (.bool b)) := h.setCell (p := ⟨g, q, none⟩) hg _
theorem mk_ext {w0 w : World} {g q : Nat} {b : Bool} (hg : w0.heap.size ≤ g) (h : Ext w0 w) : Ext w0 (w.setCell ⟨g, q, none⟩ (.bool b)).drew := bel_call (mk_ext0 hg h) (drew_ext _)
def isF : Value → Bool
  | .bool b => !b
  | _ => false
def mcf (w : World) (g : Nat) : Nat := match w.heap[g]? with
  | some (.cells cur _ _) => cur.toList.countP isF
  | _ => 0
def bfn : Value → Nat
  | .bool true => 1
  | _ => 0
theorem cf_map : ∀ M : List Bool, (M.map bv).countP isF = cf M
  | [] => rfl
  | b :: M => by
    have := cf_map M
    unfold cf at this ⊢
    rw [List.map_cons, List.countP_cons, List.countP_cons, this]; rfl
theorem mcf_of {w : World} {g N : Nat} {M : List Bool} (h : w.ownsRow g 4 1 (.slice (some ⟨g, 0, none⟩) N N) N (M.map bv)) : mcf w g = cf M := by
  obtain ⟨h1, h | ⟨g', cap, cur, e, _, hg, _, _, hs, ht⟩⟩ := h
  · cases h.1
  · cases e
    unfold mcf
    rw [hg, ← cf_map M, ← ht]
    show cur.toList.countP isF = _
    rw [List.take_of_length_le (by rw [Array.length_toList]; omega)]
theorem mk_get {w : World} {g N q : Nat} {M : List Bool} (h : w.ownsRow g 4 1 (.slice (some ⟨g, 0, none⟩) N N) N (M.map bv)) (hq : q < N) : w.cell? ⟨g, q, none⟩ = some (.bool (M.getD q false)) := by
  have hl := h.1
  rw [List.length_map] at hl
  rw [h.cellAt q (by omega), List.getElem?_map, List.getD_eq_getElem?_getD, List.getElem?_eq_getElem (by omega)]
  rfl
set_option maxHeartbeats 4000000 in
set_option maxRecDepth 20000 in
theorem parted_ok (m : Dd) (v : Value) (w : World) (hm : m.Ok) (h60 : m.nx.length ≤ 60) (ha : ∀ i j, i < m.nx.length → j < m.nx.length → Beq (m.beh i) (m.beh j) → i = j) (h : Dns w v m) :
    Calls Tryd.prog 21 #[v] w fun e w' => e = .returned (.bool true) ∧ Ext w w' := by
  obtain ⟨a, b, rfl, h1, h2⟩ := h
  obtain ⟨n, hn⟩ : ∃ n, m.nx.length = n := ⟨_, rfl⟩
  have hl : m.lb.length = n := by rw [hm.lbl, hn]
  have h0 := hm.pos
  rw [hn] at h0 h60
  obtain ⟨p, cap, rfl, _⟩ := h1.shape
  obtain ⟨p2, cap2, rfl, _⟩ := h2.shape
  rw [hn] at h1 ⊢
  rw [hl] at h2 ⊢
  have HEB := Lib.hid (ext_box w #[.slice p n cap, .slice p2 n cap2] 26)
  have HBX := Lib.hid (Blk.new w #[.slice p n cap, .slice p2 n cap2] 26)
  have H1 := Lib.hid (h1.ext HEB.out)
  have H2 := Lib.hid (h2.ext HEB.out)
  have HO := Lib.hid hm
  have HA := Lib.hid ha
  have HN := Lib.hid hn
  have HL := Lib.hid hl
  clear h1 h2 hm hn hl ha
  obtain ⟨N, hN⟩ : ∃ N, n * n = N := ⟨_, rfl⟩
  have hN3 : N ≤ 3600 := by rw [← hN]; exact Nat.mul_le_mul h60 h60
  have hNI : (n : Int) * (n : Int) = (N : Int) := by rw [← hN]; simp
  have HNN := Lib.hid hN
  clear hN
  obtain ⟨i0, hi, hz0, hz1, hz2⟩ := info_parts info_bool
  go_enter Tryd.func21, Tryd.ntmps21
  generalize hw0 : w.alloc (.cells #[.slice p n cap, .slice p2 n cap2] 26) = w0 at H1 H2 HBX HEB
  have z0 := HBX.out.cell 0
  have z1 := HBX.out.cell 1
  go_wp2_with (at_make; refine wpList_make_full _ rfl _ _ 72 rfl w0.heap.size 4 i0 (.bool false) 1 Tryd.underlying72 hi hz0 hz1 .i64 .i64 _ _ N rfl rfl rfl rfl (by rw [hz2]; omega) (by unfold maxLen; omega) (by omega) ?_; intro wm hown hgm)
  have z3 := toList_madeCells_one (.bool false) N
  have hown2 : wm.ownsRow w0.heap.size 4 1 (.slice (some ⟨w0.heap.size, 0, none⟩) N N) N ((List.replicate N false).map bv) := by
    rw [List.map_replicate, show bv false = Value.bool false from rfl, ← z3]; simpa [Value.cells] using hown
  have HO1 := Lib.hid hown2
  have HE1 := Lib.hid (show Ext w0 wm from ⟨hgm.os, hgm.tape, hgm.output, hgm.size, fun k hk => hgm.block k hk (by simp)⟩)
  have HP1 := Lib.hid (show Pl m n (List.replicate N false) 0 0 by rw [← HNN.out]; exact Pl.start m n)
  obtain ⟨g, hg⟩ : ∃ g, w0.heap.size = g := ⟨_, rfl⟩
  have HG := Lib.hid (Nat.le_of_eq hg)
  simp only [hg] at HO1 ⊢
  clear hown hown2 hgm z3 hg hi hz0 hz1 hz2 z0 z1
  go_loopw [5] (fun i wr => ∃ (k : Nat) (M : List Bool), k ≤ n ∧ i = .int .i64 k ∧ Hid (Pl m n M k 0) ∧ Hid (wr.ownsRow g 4 1 (.slice (some ⟨g, 0, none⟩) N N) N (M.map bv)) ∧ Hid (Ext w0 wr)) (fun i _ => n - (intOf i).toNat)
  case atStart => exact ⟨0, _, Nat.zero_le _, rfl, HP1, HO1, HE1⟩
  case round =>
    clear HP1 HO1 HE1
    obtain ⟨i, M, hi, rfl, hP, hO, hE⟩ := hrel
    by_cases hin : i < n
    · have z0 := (HBX.out.ext hE.out).cell 0
      go_wp2_with fail
      obtain ⟨wo, rfl⟩ : ∃ wo : World, wo = wr := ⟨_, rfl⟩
      go_loopw [6] (fun j wr => ∃ (k : Nat) (M : List Bool), k ≤ n ∧ j = .int .i64 k ∧ Hid (Pl m n M i k) ∧ Hid (wr.ownsRow g 4 1 (.slice (some ⟨g, 0, none⟩) N N) N (M.map bv)) ∧ Hid (Ext w0 wr)) (fun j _ => n - (intOf j).toNat)
      case atStart => exact ⟨0, M, Nat.zero_le _, rfl, hP, hO, hE⟩
      case round =>
        clear hP hO hE
        obtain ⟨k, M, hk, rfl, hP, hO, hE⟩ := hrel
        by_cases hkn : k < n
        · have z0 := (HBX.out.ext hE.out).cell 0
          have z1 := (HBX.out.ext hE.out).cell 1
          have k1 : i < m.lb.length := by rw [HL.out]; exact hin
          have k2 : k < m.lb.length := by rw [HL.out]; exact hkn
          obtain ⟨b1, o1, rfl, hb1, hc1, r1, r2⟩ := (H2.out.ext hE.out).cell k1
          obtain ⟨b2, o2, e2, hb2, hc2, r3, r4⟩ := (H2.out.ext hE.out).cell k2
          cases e2
          obtain ⟨x, hx⟩ : ∃ x, m.lb[i] = x := ⟨_, rfl⟩
          obtain ⟨y, hy⟩ : ∃ y, m.lb[k] = y := ⟨_, rfl⟩
          have HX := Lib.hid (show (m.lab i != m.lab k) = (x != y) by unfold Dd.lab; rw [getD_get k1, getD_get k2, hx, hy])
          rw [hx] at hc1
          rw [hy] at hc2
          obtain ⟨q, hq⟩ : ∃ q, i * n + k = q := ⟨_, rfl⟩
          have hqN : q < N := by rw [← HNN.out, ← hq]; exact pair_lt hin hkn
          have hqI : (i : Int) * (n : Int) + (k : Int) = (q : Int) := by rw [← hq]; simp
          have hin0 : 0 ≤ (i : Int) * (n : Int) := Int.mul_nonneg (by omega) (by omega)
          have hin1 : (i : Int) * (n : Int) ≤ 3600 := by omega
          have HQ := Lib.hid hq
          obtain ⟨u0, y0⟩ : ∃ u, wr.cell? ⟨g, q, none⟩ = some u := ⟨_, by rw [hO.out.cellAt q (by omega)]; exact List.getElem?_eq_getElem (by rw [hO.out.1]; omega)⟩
          have y2 := hO.out.frozenAt q
          clear hx hy hq r1 r2 r3 r4
          go_wp2_with fail
          go_region
          have O9 := Lib.hid (mk_set (q := q) (b := x != y) hO.out)
          have E9 := Lib.hid (mk_ext (q := q) (b := x != y) HG.out hE.out)
          have P9 := hP.out.step hin hkn
          rw [HX.out, HQ.out] at P9
          have P9 := Lib.hid P9
          clear hP hO hE y0 y2
          generalize (wr.setCell ⟨g, q, none⟩ (.bool (x != y))).drew = w9 at *
          go_wp2_with fail
          go_roundw
          case rel => exact ⟨k + 1, _, by omega, by go_num, P9, O9, E9⟩
          case measure => simp [intOf]; omega
        · obtain rfl : k = n := by omega
          have P9 := Lib.hid hP.out.next
          go_wp2_with fail
          go_roundw
          case rel => exact ⟨i + 1, M, by omega, by go_num, P9, hO, hE⟩
          case measure => simp [intOf]; omega
    · obtain rfl : n = i := by omega
      have HP2 := Lib.hid hP.out.done
      clear hP
      go_wp2_with fail
      go_loopw [7] (fun s7 wr => ∃ (M : List Bool) (b : Bool), s7 = .bool b ∧ Hid (Pm m n M) ∧ Hid (b = false → Fx m n M) ∧ Hid (wr.ownsRow g 4 1 (.slice (some ⟨g, 0, none⟩) N N) N (M.map bv)) ∧ Hid (Ext w0 wr)) (fun s7 wr => 2 * mcf wr g + bfn s7)
      case atStart => exact ⟨M, true, rfl, HP2, Lib.hid (fun e => by cases e), hO, hE⟩
      case round =>
        clear hO hE HP2
        obtain ⟨M0, b, rfl, hP0, hF, hO, hE⟩ := hrel
        cases b
        · have HF := Lib.hid (hF.out rfl)
          clear hF
          go_wp2_with fail
          obtain ⟨wt, rfl⟩ : ∃ wo : World, wo = wr := ⟨_, rfl⟩
          go_loopw [11] (fun s11 wr => ∃ i : Nat, i ≤ n ∧ s11 = .int .i64 i ∧ Hid (wt = wr)) (fun s11 _ => n - (intOf s11).toNat)
          case atStart => exact ⟨0, Nat.zero_le _, rfl, Lib.hid rfl⟩
          case round =>
            obtain ⟨i, hi, rfl, hw⟩ := hrel
            obtain rfl := hw.out
            by_cases hin : i < n
            · go_wp2_with fail
              go_loopw [12] (fun s12 wr => ∃ k : Nat, k ≤ i ∧ s12 = .int .i64 k ∧ Hid (wt = wr)) (fun s12 _ => i - (intOf s12).toNat)
              case atStart => exact ⟨0, Nat.zero_le _, rfl, Lib.hid rfl⟩
              case round =>
                obtain ⟨k, hk, rfl, hw⟩ := hrel
                obtain rfl := hw.out
                by_cases hki : k < i
                · obtain ⟨q, hq⟩ : ∃ q, i * n + k = q := ⟨_, rfl⟩
                  have hqN : q < N := by rw [← HNN.out, ← hq]; exact pair_lt hin (by omega)
                  have hqI : (i : Int) * (n : Int) + (k : Int) = (q : Int) := by rw [← hq]; simp
                  have hin0 : 0 ≤ (i : Int) * (n : Int) := Int.mul_nonneg (by omega) (by omega)
                  have hin1 : (i : Int) * (n : Int) ≤ 3600 := by omega
                  have y0 := mk_get hO.out hqN
                  have hT := fix_apart HO.out HN.out hP0.out HF.out HA.out hin (show k < n by omega) (show i ≠ k by omega)
                  rw [hq] at hT
                  rw [hT] at y0
                  clear hT hq
                  go_wp2_with fail
                  go_roundw
                  case rel => exact ⟨k + 1, by omega, by go_num, Lib.hid trivial⟩
                  case measure => simp [intOf]; omega
                · obtain rfl : i = k := by omega
                  go_wp2_with fail
                  go_roundw
                  case rel => exact ⟨i + 1, by omega, by go_num, Lib.hid trivial⟩
                  case measure => simp [intOf]; omega
            · obtain rfl : n = i := by omega
              go_wp2_with fail
              go_ret
              exact ⟨rfl, bel_call HEB.out hE.out⟩
        · clear hF
          have HM0 := Lib.hid (mcf_of hO.out)
          go_wp2_with fail
          obtain ⟨wt, rfl⟩ : ∃ wo : World, wo = wr := ⟨_, rfl⟩
          go_loopw [7, 8] (fun s7 s8 wr => ∃ (M : List Bool) (b : Bool) (i : Nat), s7 = .bool b ∧ i ≤ n ∧ s8 = .int .i64 i ∧ Hid (Rd m n M0 M b i 0 0) ∧ Hid (wr.ownsRow g 4 1 (.slice (some ⟨g, 0, none⟩) N N) N (M.map bv)) ∧ Hid (Ext w0 wr)) (fun _ s8 _ => n - (intOf s8).toNat)
          case atStart => exact ⟨M0, false, 0, rfl, Nat.zero_le _, rfl, Lib.hid (Rd.start hP0.out), hO, hE⟩
          case round =>
            clear hO hE
            obtain ⟨M, b, i, rfl, hi, rfl, hR, hO, hE⟩ := hrel
            by_cases hin : i < n
            · go_wp2_with fail
              go_loopw [7, 9] (fun s7 s9 wr => ∃ (M : List Bool) (b : Bool) (k : Nat), s7 = .bool b ∧ k ≤ n ∧ s9 = .int .i64 k ∧ Hid (Rd m n M0 M b i k 0) ∧ Hid (wr.ownsRow g 4 1 (.slice (some ⟨g, 0, none⟩) N N) N (M.map bv)) ∧ Hid (Ext w0 wr)) (fun _ s9 _ => n - (intOf s9).toNat)
              case atStart => exact ⟨M, b, 0, rfl, Nat.zero_le _, rfl, hR, hO, hE⟩
              case round =>
                clear hO hE hR
                obtain ⟨M, b, k, rfl, hk, rfl, hR, hO, hE⟩ := hrel
                by_cases hkn : k < n
                · obtain ⟨q, hq⟩ : ∃ q, i * n + k = q := ⟨_, rfl⟩
                  have hqN : q < N := by rw [← HNN.out, ← hq]; exact pair_lt hin hkn
                  have hqI : (i : Int) * (n : Int) + (k : Int) = (q : Int) := by rw [← hq]; simp
                  have hin0 : 0 ≤ (i : Int) * (n : Int) := Int.mul_nonneg (by omega) (by omega)
                  have hin1 : (i : Int) * (n : Int) ≤ 3600 := by omega
                  have HQ := Lib.hid hq
                  clear hq
                  go_wp2_with fail
                  go_loopw [7, 10] (fun s7 s10 wr => ∃ (M : List Bool) (b : Bool) (c : Nat), s7 = .bool b ∧ c ≤ 256 ∧ s10 = .int .i64 c ∧ Hid (Rd m n M0 M b i k c) ∧ Hid (wr.ownsRow g 4 1 (.slice (some ⟨g, 0, none⟩) N N) N (M.map bv)) ∧ Hid (Ext w0 wr)) (fun _ s10 _ => 256 - (intOf s10).toNat)
                  case atStart => exact ⟨M, b, 0, rfl, Nat.zero_le _, rfl, hR, hO, hE⟩
                  case round =>
                    clear hO hE hR
                    obtain ⟨M, b, c, rfl, hc, rfl, hR, hO, hE⟩ := hrel
                    by_cases hcn : c < 256
                    · have y0 := mk_get hO.out hqN
                      cases hM : M.getD q false
                      · rw [hM] at y0
                        have hM' : M.getD (i * n + k) false = false := by rw [HQ.out]; exact hM
                        have HMM := Lib.hid hM'
                        clear hM hM'
                        have z0 := (HBX.out.ext hE.out).cell 0
                        have z1 := (HBX.out.ext hE.out).cell 1
                        have i1 : i < m.nx.length := by rw [HN.out]; exact hin
                        have k1 : k < m.nx.length := by rw [HN.out]; exact hkn
                        obtain ⟨bR, oR, aR, cR, rfl, hbR, hcR, hIR, -⟩ := (H1.out.ext hE.out).cell i1
                        obtain ⟨bR2, oR2, aR2, cR2, e2, hbR2, hcR2, hIR2, -⟩ := (H1.out.ext hE.out).cell k1
                        cases e2
                        have hr1 : m.nx[i].length = 256 := by have := HO.out.row i i1; rwa [getD_get i1] at this
                        have hr2 : m.nx[k].length = 256 := by have := HO.out.row k k1; rwa [getD_get k1] at this
                        obtain ⟨bE, oE, rfl, hbE, hcE, -⟩ := hIR.cell (k := c) (by omega)
                        obtain ⟨bE2, oE2, rfl, hbE2, hcE2, -⟩ := hIR2.cell (k := c) (by omega)
                        rw [dd_ent HO.out i1 hcn] at hcE
                        rw [dd_ent HO.out k1 hcn] at hcE2
                        rw [hr1] at hcR
                        rw [hr2] at hcR2
                        have l1 := HO.out.to i1 hcn
                        have l2 := HO.out.to k1 hcn
                        obtain ⟨t1, ht1⟩ : ∃ x, m.to i c = x := ⟨_, rfl⟩
                        obtain ⟨t2, ht2⟩ : ∃ x, m.to k c = x := ⟨_, rfl⟩
                        rw [ht1] at hcE l1
                        rw [ht2] at hcE2 l2
                        rw [HN.out] at l1 l2
                        have HT := Lib.hid (And.intro ht1 ht2)
                        clear hIR hIR2 hr1 hr2 ht1 ht2
                        obtain ⟨q2, hq2⟩ : ∃ q, t1 * n + t2 = q := ⟨_, rfl⟩
                        have hqN2 : q2 < N := by rw [← HNN.out, ← hq2]; exact pair_lt l1 l2
                        have hqI2 : (t1 : Int) * (n : Int) + (t2 : Int) = (q2 : Int) := by rw [← hq2]; simp
                        have hin2 : 0 ≤ (t1 : Int) * (n : Int) := Int.mul_nonneg (by omega) (by omega)
                        have hin3 : (t1 : Int) * (n : Int) ≤ 3600 := by omega
                        have y2 := mk_get hO.out hqN2
                        have HQ2 := Lib.hid hq2
                        clear hq2
                        cases hM2 : M.getD q2 false
                        · rw [hM2] at y2
                          have R9 := Lib.hid (hR.out.pass (by rw [HT.out.1, HT.out.2, HQ2.out]; exact hM2))
                          clear hM2
                          go_wp2_with fail
                          go_region
                          have O9 := Lib.hid (own_ex hO.out (drew_ext wr))
                          have E9 := Lib.hid (bel_call hE.out (drew_ext wr))
                          clear hO hE y0 y2 z0 z1 hcR hcR2 hcE hcE2
                          generalize wr.drew = w9 at *
                          go_wp2_with fail
                          go_roundw
                          case rel => exact ⟨M, b, c + 1, rfl, by omega, by go_num, R9, O9, E9⟩
                          case measure => simp [intOf]; omega
                        · rw [hM2] at y2
                          have R9 := hR.out.mark (c' := c + 1) hin hkn HMM.out
                          rw [HQ.out] at R9
                          have R9 := Lib.hid R9
                          clear hM2
                          go_wp2_with fail
                          go_region
                          have O8 := own_ex hO.out (drew_ext wr)
                          have E8 := Lib.hid (bel_call hE.out (drew_ext wr))
                          clear hO hE y0 y2 z0 z1 hcR hcR2 hcE hcE2
                          generalize wr.drew = w8 at *
                          have y0 := mk_get O8 hqN
                          have y3 := O8.frozenAt q
                          have O9 := Lib.hid (mk_set0 (q := q) (b := true) O8)
                          have E9 := Lib.hid (mk_ext0 (q := q) (b := true) HG.out E8.out)
                          clear O8 E8
                          go_wp2_with fail
                          go_roundw
                          case rel => exact ⟨M.set q true, true, c + 1, rfl, by omega, by go_num, R9, O9, E9⟩
                          case measure => simp [intOf]; omega
                      · rw [hM] at y0
                        have R9 := Lib.hid (hR.out.out (.inr (by rw [HQ.out]; exact hM)))
                        clear hM
                        go_wp2_with fail
                        go_roundw
                        case rel => exact ⟨M, b, k + 1, rfl, by omega, by go_num, R9, hO, hE⟩
                        case measure => simp [intOf]; omega
                    · obtain rfl : c = 256 := by omega
                      have R9 := Lib.hid (hR.out.out (.inl rfl))
                      go_wp2_with fail
                      go_roundw
                      case rel => exact ⟨M, b, k + 1, rfl, by omega, by go_num, R9, hO, hE⟩
                      case measure => simp [intOf]; omega
                · obtain rfl : n = k := by omega
                  have R9 := Lib.hid hR.out.row
                  go_wp2_with fail
                  go_roundw
                  case rel => exact ⟨M, b, i + 1, rfl, by omega, by go_num, R9, hO, hE⟩
                  case measure => simp [intOf]; omega
            · obtain rfl : n = i := by omega
              have HM9 := Lib.hid (mcf_of hO.out)
              go_wp2_with fail
              go_roundw
              case rel => exact ⟨M, b, rfl, Lib.hid hR.out.pm, Lib.hid (fun e => by subst e; exact hR.out.fix), hO, hE⟩
              case measure =>
                rw [HM9.out, HM0.out]
                cases b
                · have := hR.out.eq rfl; subst this; simp [bfn]
                · have := hR.out.lt rfl; simp [bfn]; omega
end Go.Proofs.YtmhgpdjlomcjoaaDoor
