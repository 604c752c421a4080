/- LeastOne: how the other automaton lies while it is filled. -/
import Derived.Test.YtmhgpdjlomcjoaaDoorCnl
import Derived.Test.YtmhgpdjlomcjoaaDoorCpe
import Derived.Test.YtmhgpdjlomcjoaaDoorBgn
namespace Go.Proofs.YtmhgpdjlomcjoaaDoor
/-- Two places changed. -/
def swq (a b i : Nat) : Nat := if i = b then a else if i = a then b else i
theorem swq_inj {a b i j : Nat} (h : swq a b i = swq a b j) : i = j := by
  unfold swq at h
  split at h <;> split at h <;> (try split at h) <;> (try split at h) <;> omega
theorem swq_lt {n a b i : Nat} (ha : a < n) (hb : b < n) (hi : i < n) : swq a b i < n := by
  unfold swq; split <;> (try split) <;> omega
/-- Where states go: each elsewhere, the first stays. -/
structure Nmb (n : Nat) (num : List Nat) : Prop where
  len : num.length = n
  lt : ∀ i, i < n → num.getD i 0 < n
  inj : ∀ i j, i < n → j < n → num.getD i 0 = num.getD j 0 → i = j
  z : num.getD 0 0 = 0
theorem Nmb.start {n : Nat} (h : 0 < n) : Nmb n (List.range n) := by
  have g : ∀ i, i < n → (List.range n).getD i 0 = i := fun i hi => by rw [List.getD_eq_getElem?_getD, List.getElem?_range hi]; rfl
  exact ⟨List.length_range, fun i hi => by rw [g i hi]; exact hi, fun i j hi hj e => by rwa [g i hi, g j hj] at e, g 0 h⟩
theorem getD_setq {L : List Nat} {i j x : Nat} (hi : i < L.length) : (L.set i x).getD j 0 = if j = i then x else L.getD j 0 := by
  rw [List.getD_eq_getElem?_getD, List.getElem?_set]
  by_cases e : i = j
  · subst e; simp [hi]
  · rw [if_neg e, if_neg (fun q => e q.symm), ← List.getD_eq_getElem?_getD]
theorem Nmb.swap {n : Nat} {num : List Nat} (h : Nmb n num) {a b : Nat} (ha : 0 < a) (hb : 0 < b) (ha2 : a < n) (hb2 : b < n) : Nmb n ((num.set a (num.getD b 0)).set b (num.getD a 0)) := by
  have hl := h.len
  have g : ∀ i, ((num.set a (num.getD b 0)).set b (num.getD a 0)).getD i 0 = num.getD (swq a b i) 0 := fun i => by
    rw [getD_setq (by rw [List.length_set]; omega), getD_setq (by omega)]
    unfold swq
    split
    · rfl
    · split <;> rfl
  refine ⟨by rw [List.length_set, List.length_set]; exact hl, fun i hi => by rw [g]; exact h.lt _ (swq_lt ha2 hb2 hi), fun i j hi hj e => ?_, ?_⟩
  · rw [g, g] at e
    exact swq_inj (h.inj _ _ (swq_lt ha2 hb2 hi) (swq_lt ha2 hb2 hj) e)
  · rw [g]
    unfold swq
    rw [if_neg (by omega), if_neg (by omega)]
    exact h.z
theorem Nmb.onto {n : Nat} {num : List Nat} (h : Nmb n num) {t : Nat} (ht : t < n) : ∃ i, i < n ∧ num.getD i 0 = t := by
  refine Classical.byContradiction fun hn => ?_
  have hne : ∀ i, i < n → num.getD i 0 ≠ t := fun i hi e => hn ⟨i, hi, e⟩
  have := nodup_lt n (t :: (List.range n).map fun i => num.getD i 0) ?_ ?_
  · simp at this; omega
  · rw [List.nodup_cons]
    refine ⟨fun q => ?_, List.pairwise_map.2 (List.Pairwise.imp_of_mem ?_ (List.nodup_range (n := n)))⟩
    · obtain ⟨i, hi, e⟩ := List.mem_map.1 q
      exact hne i (List.mem_range.1 hi) e
    · intro i j hi hj hij e
      exact hij (h.inj i j (List.mem_range.1 hi) (List.mem_range.1 hj) e)
  · intro x hx
    rcases List.mem_cons.1 hx with rfl | hx
    · exact ht
    · obtain ⟨i, hi, rfl⟩ := List.mem_map.1 hx
      exact h.lt i (List.mem_range.1 hi)
/-- A state of the other automaton stands for one of the first. -/
def Rel (n : Nat) (num cp : List Nat) (t e : Nat) : Prop := (e < n ∧ num.getD e 0 = t) ∨ ∃ k, k < cp.length ∧ t = n + k ∧ cp.getD k 0 = e
/-- A row by the new numbers. -/
def Trn (n : Nat) (num cp : List Nat) (L out : List Int) : Prop := out.length = 256 ∧ ∀ c, c < 256 → ∃ t : Nat, out.getD c 0 = (t : Int) ∧ Rel n num cp t (L.getD c 0).toNat
/-- While the other one is filled: i states, k copies. -/
structure Fil (d : Dd) (n : Nat) (num cp : List Nat) (x : Dd) (i k : Nat) : Prop where
  len : x.nx.length = n + cp.length
  ll : x.lb.length = n + cp.length
  st : ∀ j, j < i → Trn n num cp (d.nx.getD j []) (x.nx.getD (num.getD j 0) []) ∧ x.lb.getD (num.getD j 0) 0 = d.lab j
  cp : ∀ j, j < k → Trn n num cp (d.nx.getD (cp.getD j 0) []) (x.nx.getD (n + j) []) ∧ x.lb.getD (n + j) 0 = d.lab (cp.getD j 0)
theorem getD_setr {α : Type} {L : List α} {i j : Nat} {x d : α} (hi : i < L.length) : (L.set i x).getD j d = if j = i then x else L.getD j d := by
  rw [List.getD_eq_getElem?_getD, List.getElem?_set]
  by_cases e : i = j
  · subst e; simp [hi]
  · rw [if_neg e, if_neg (fun q => e q.symm), ← List.getD_eq_getElem?_getD]
theorem Fil.state {d : Dd} {n : Nat} {num cp : List Nat} {x : Dd} {i : Nat} (h : Fil d n num cp x i 0) (hn : Nmb n num) (hi : i < n) {out : List Int} (ho : Trn n num cp (d.nx.getD i []) out) :
    Fil d n num cp ⟨x.nx.set (num.getD i 0) out, x.lb.set (num.getD i 0) (d.lab i)⟩ (i + 1) 0 := by
  have hl := hn.lt i hi
  have h1 := h.len
  have h2 := h.ll
  refine ⟨by show (x.nx.set _ _).length = _; rw [List.length_set]; exact h1, by show (x.lb.set _ _).length = _; rw [List.length_set]; exact h2, fun j hj => ?_, fun j hj => absurd hj (by omega)⟩
  show Trn n num cp _ ((x.nx.set (num.getD i 0) out).getD (num.getD j 0) []) ∧ (x.lb.set (num.getD i 0) (d.lab i)).getD (num.getD j 0) 0 = _
  rw [getD_setr (by omega), getD_setr (by omega)]
  by_cases e : j = i
  · subst e; rw [if_pos rfl, if_pos rfl]; exact ⟨ho, rfl⟩
  · have hne : num.getD j 0 ≠ num.getD i 0 := fun q => e (hn.inj j i (by omega) hi q)
    rw [if_neg hne, if_neg hne]; exact h.st j (by omega)
theorem Fil.copy {d : Dd} {n : Nat} {num cp : List Nat} {x : Dd} {k : Nat} (h : Fil d n num cp x n k) (hn : Nmb n num) (hk : k < cp.length) {out : List Int} (ho : Trn n num cp (d.nx.getD (cp.getD k 0) []) out) :
    Fil d n num cp ⟨x.nx.set (n + k) out, x.lb.set (n + k) (d.lab (cp.getD k 0))⟩ n (k + 1) := by
  have h1 := h.len
  have h2 := h.ll
  refine ⟨by show (x.nx.set _ _).length = _; rw [List.length_set]; exact h1, by show (x.lb.set _ _).length = _; rw [List.length_set]; exact h2, fun j hj => ?_, fun j hj => ?_⟩
  · have hl := hn.lt j hj
    show Trn n num cp _ ((x.nx.set (n + k) out).getD (num.getD j 0) []) ∧ (x.lb.set (n + k) (d.lab (cp.getD k 0))).getD (num.getD j 0) 0 = _
    rw [getD_setr (by omega), getD_setr (by omega), if_neg (by omega), if_neg (by omega)]
    exact h.st j hj
  · show Trn n num cp _ ((x.nx.set (n + k) out).getD (n + j) []) ∧ (x.lb.set (n + k) (d.lab (cp.getD k 0))).getD (n + j) 0 = _
    rw [getD_setr (by omega), getD_setr (by omega)]
    by_cases e : j = k
    · subst e; rw [if_pos rfl, if_pos rfl]; exact ⟨ho, rfl⟩
    · rw [if_neg (by omega), if_neg (by omega)]; exact h.cp j (by omega)
section
variable {d : Dd} {n : Nat} {num cp : List Nat} {x : Dd}
theorem Fil.rel (h : Fil d n num cp x n cp.length) {t e : Nat} (hr : Rel n num cp t e) : Trn n num cp (d.nx.getD e []) (x.nx.getD t []) ∧ x.lb.getD t 0 = d.lab e := by
  rcases hr with ⟨h1, rfl⟩ | ⟨k, h1, rfl, rfl⟩
  · exact h.st e h1
  · exact h.cp k h1
theorem rel_lt (hn : Nmb n num) (hc : ∀ k, k < cp.length → cp.getD k 0 < n) {t e : Nat} (hr : Rel n num cp t e) : t < n + cp.length ∧ e < n := by
  rcases hr with ⟨h1, rfl⟩ | ⟨k, h1, rfl, rfl⟩
  · have := hn.lt e h1; omega
  · have := hc k h1; omega
theorem rel_some (hn : Nmb n num) {t : Nat} (ht : t < n + cp.length) : ∃ e, Rel n num cp t e := by
  by_cases q : t < n
  · obtain ⟨i, hi, e⟩ := hn.onto q
    exact ⟨i, .inl ⟨hi, e⟩⟩
  · exact ⟨_, .inr ⟨t - n, by omega, by omega, rfl⟩⟩
theorem Fil.to (h : Fil d n num cp x n cp.length) {t e c : Nat} (hr : Rel n num cp t e) (hc : c < 256) : x.ent t c = (x.to t c : Int) ∧ Rel n num cp (x.to t c) (d.to e c) := by
  obtain ⟨⟨_, h1⟩, _⟩ := h.rel hr
  obtain ⟨t', e1, e2⟩ := h1 c hc
  have e3 : x.ent t c = (t' : Int) := e1
  have e4 : x.to t c = t' := by unfold Dd.to; rw [e3]; omega
  exact ⟨by rw [e4, e3], by rw [e4]; exact e2⟩
theorem Fil.ok (h : Fil d n num cp x n cp.length) (hd : d.Ok) (hdn : d.nx.length = n) (hn : Nmb n num) (hc : ∀ k, k < cp.length → cp.getD k 0 < n) (h6 : n + cp.length ≤ 600) : x.Ok := by
  have hp := hd.pos
  refine ⟨by rw [h.len]; omega, by rw [h.len]; exact h6, by rw [h.len, h.ll], fun t ht => ?_, fun t c ht hc2 => ?_, fun t ht => ?_⟩
  · rw [h.len] at ht
    obtain ⟨e, he⟩ := rel_some (cp := cp) hn ht
    exact (h.rel he).1.1
  · rw [h.len] at ht ⊢
    obtain ⟨e, he⟩ := rel_some (cp := cp) hn ht
    obtain ⟨h1, h2⟩ := h.to he hc2
    have := (rel_lt hn hc h2).1
    omega
  · rw [h.len] at ht
    obtain ⟨e, he⟩ := rel_some (cp := cp) hn ht
    have := hd.lab e (by rw [hdn]; exact (rel_lt hn hc he).2)
    unfold Dd.lab at *
    rw [(h.rel he).2]
    exact this
theorem Fil.beh (h : Fil d n num cp x n cp.length) (hn : Nmb n num) (hp : 0 < n) : Beq (x.beh 0) (d.beh 0) :=
  beq_of_cong (Rel n num cp) (fun _ _ hr => (h.rel hr).2) (fun _ _ _ hr hc => (h.to hr hc).2) 0 0 (.inl ⟨hp, hn.z⟩)
end
end Go.Proofs.YtmhgpdjlomcjoaaDoor
namespace Go.Proofs.YtmhgpdjlomcjoaaDoor
open Go Go.RowKit
theorem tmod_in (x : Int) {n : Nat} (hn : 0 < n) : -(n : Int) < x.tmod n ∧ x.tmod n < n := by
  refine ⟨?_, Int.tmod_lt_of_pos x (by omega)⟩
  have := Int.lt_tmod_of_pos x (show 0 < (n : Int) by omega)
  omega
set_option maxRecDepth 20000 in
theorem within_any (x : Int) (n : Nat) (w : World) (hn : 0 < n) (h1 : -9223372036854775808 ≤ x) (h2 : x ≤ 9223372036854775807) (hn2 : n ≤ 100000) :
    Calls Tryd.prog 22 #[.int .i64 x, .int .i64 n] w fun e w' => ∃ r : Nat, r < n ∧ e = .returned (.int .i64 r) ∧ w = w' := by
  have hm := tmod_in x hn
  have hn1 : (1 : Int) ≤ (n : Int) := by omega
  by_cases hx : 0 ≤ x
  · have hm0 : 0 ≤ x % (n : Int) ∧ x % (n : Int) < n := ⟨Int.emod_nonneg _ (by omega), Int.emod_lt_of_pos _ (by omega)⟩
    obtain ⟨r, hr⟩ : ∃ r, x % (n : Int) = r := ⟨_, rfl⟩
    have hm1 := hm0.1
    have hm2 := hm0.2
    rw [hr] at hm1 hm2
    clear hm hm0
    have t1 : decide (r < 0) = false := by simpa using hm1
    go_enter Tryd.func22, Tryd.ntmps22
    go_wp2_with fail
    go_ret
    refine ⟨r.toNat, by omega, ?_, rfl⟩
    rw [Int.toNat_of_nonneg (by omega), ← hr]; rfl
  · obtain ⟨r, hr⟩ : ∃ r, x.tmod (n : Int) = r := ⟨_, rfl⟩
    rw [hr] at hm
    by_cases hr0 : r < 0
    · have t1 : decide (r < 0) = true := by simpa using hr0
      have hm1 := hm.1
      clear hm
      go_enter Tryd.func22, Tryd.ntmps22
      go_wp2_with fail
      go_ret
      refine ⟨(r + n).toNat, by omega, ?_, rfl⟩
      rw [Int.toNat_of_nonneg (by omega)]; rfl
    · have t1 : decide (r < 0) = false := by simpa using hr0
      have hm1 := hm.2
      clear hm
      go_enter Tryd.func22, Tryd.ntmps22
      go_wp2_with fail
      go_ret
      refine ⟨r.toNat, by omega, ?_, rfl⟩
      rw [Int.toNat_of_nonneg (by omega)]; rfl
def ni (L : List Nat) : List Int := L.map fun (x : Nat) => (x : Int)
theorem ni_len (L : List Nat) : (ni L).length = L.length := by simp [ni]
theorem ni_get {L : List Nat} {i : Nat} (h : i < (ni L).length) : (ni L)[i] = ((L.getD i 0 : Nat) : Int) := by
  rw [ni_len] at h
  simp [ni, List.getD_eq_getElem?_getD, List.getElem?_eq_getElem h]
/-- A row by the new numbers, up to a byte. -/
structure Tro (n : Nat) (num cp : List Nat) (L O : List Int) (c : Nat) : Prop where
  len : O.length = c
  rel : ∀ j, j < c → ∃ t : Nat, O.getD j 0 = (t : Int) ∧ Rel n num cp t (L.getD j 0).toNat
theorem Tro.more {n : Nat} {num cp : List Nat} {L O : List Int} {c t : Nat} (h : Tro n num cp L O c) (ht : Rel n num cp t (L.getD c 0).toNat) : Tro n num cp L (O ++ [(t : Int)]) (c + 1) := by
  have hl := h.len
  refine ⟨by simp [hl], fun j hj => ?_⟩
  by_cases e : j < c
  · rw [getD_app_l (by omega)]; exact h.rel j e
  · have e : j = c := by omega
    subst e
    rw [getD_app_r hl.symm]
    exact ⟨t, rfl, ht⟩
set_option maxHeartbeats 2000000 in
set_option maxRecDepth 20000 in
theorem turned_ok {n : Nat} {num cp : List Nat} {L : List Int} (vl vn vc : Value) (salt : Nat) (w : World) (hL : Ints w vl L) (hN : Ints w vn (ni num)) (hC : Ints w vc (ni cp)) (hl : L.length = 256) (he : ∀ c, c < 256 → 0 ≤ L.getD c 0 ∧ L.getD c 0 < n)
    (hnl : num.length = n) (hlt : ∀ i, i < n → num.getD i 0 < n) (hcl : cp.length ≤ 10) (hs : salt ≤ 1000) (hn : n ≤ 1000) :
    Calls Tryd.prog 23 #[vl, vn, vc, .int .i64 n, .int .i64 salt] w fun e w' => ∃ v O, e = .returned v ∧ w'.ownsRow w.heap.size 3 1 v 256 (O.map iv) ∧ Trn n num cp L O ∧ Ext w w' := by
  obtain ⟨i0, hi, hz0, hz1, hz2⟩ := info_parts info_int
  obtain ⟨p, cap, rfl, _⟩ := hL.shape
  obtain ⟨p2, cap2, rfl, _⟩ := hN.shape
  obtain ⟨p3, cap3, rfl, _⟩ := hC.shape
  obtain ⟨m, hm⟩ : ∃ m, cp.length = m := ⟨_, rfl⟩
  have hn2 : (ni num).length = n := by rw [ni_len, hnl]
  have hm2 : (ni cp).length = m := by rw [ni_len, hm]
  rw [hl] at hL ⊢
  rw [hn2] at hN ⊢
  rw [hm2] at hC ⊢
  rw [hm] at hcl
  have HL := Lib.hid hL
  have HN := Lib.hid hN
  have HC := Lib.hid hC
  have HLL := Lib.hid hl
  have HE := Lib.hid he
  have HN2 := Lib.hid hn2
  have HM2 := Lib.hid hm2
  have HM := Lib.hid hm
  clear hL hN hC hl he hn2 hm2 hm hnl
  go_enter Tryd.func23, Tryd.ntmps23
  go_wp2_with fail
  go_loopw [11, 12] (fun s11 s12 wr => ∃ (c : Nat) (O : List Int), c ≤ 256 ∧ s12 = .int .i64 c ∧ Hid (Tro n num cp L O c) ∧ Hid (wr.ownsRow w.heap.size 3 1 s11 c (O.map iv)) ∧ Hid (Ext w wr)) (fun _ s12 _ => 256 - (intOf s12).toNat)
  case atStart => exact ⟨0, [], Nat.zero_le _, rfl, Lib.hid ⟨rfl, fun j hj => absurd hj (by omega)⟩, Lib.hid (own_nil _ _ _ _), Lib.hid (Below.refl _ _)⟩
  case round =>
    obtain ⟨c, O, hc, rfl, hT, hO, hE⟩ := hrel
    obtain ⟨a11, c11, rfl⟩ := own_shp hO.out
    by_cases hcn : c < 256
    · obtain ⟨e, he⟩ : ∃ e, (L.getD c 0).toNat = e := ⟨_, rfl⟩
      have hle := HE.out c hcn
      have hen : e < n := by omega
      have cl : c < L.length := by rw [HLL.out]; exact hcn
      have nl : e < (ni num).length := by rw [HN2.out]; exact hen
      obtain ⟨bL, oL, rfl, hbL, hcL, -⟩ := (HL.out.ext hE.out).cell cl
      obtain ⟨bN, oN, rfl, hbN, hcN, -⟩ := (HN.out.ext hE.out).cell nl
      have hLe : L[c] = (e : Int) := by rw [← getD_get (d := 0) cl]; omega
      rw [hLe] at hcL
      rw [ni_get nl] at hcN
      have HR0 := Lib.hid (show Rel n num cp (num.getD e 0) e from .inl ⟨hen, rfl⟩)
      have HEE := Lib.hid he
      have ht0 := hlt e hen
      generalize num.getD e 0 = t0 at hcN HR0 ht0
      clear hLe he hle
      go_wp2_with fail
      obtain ⟨wo, rfl⟩ : ∃ wo : World, wo = wr := ⟨_, rfl⟩
      go_loopw [13, 14] (fun s13 s14 wr => ∃ (k t : Nat), k ≤ m ∧ t ≤ 2000 ∧ s14 = .int .i64 k ∧ s13 = .int .i64 t ∧ Hid (Rel n num cp t e) ∧ Hid (Ext wo wr)) (fun _ s14 _ => m - (intOf s14).toNat)
      case atStart => exact ⟨0, t0, Nat.zero_le _, by omega, rfl, rfl, HR0, Lib.hid (Below.refl _ _)⟩
      case round =>
        clear HR0 ht0 hcN
        obtain ⟨k, t, hk, ht, rfl, rfl, hR, hE2⟩ := hrel
        by_cases hkm : k < m
        · have kl : k < (ni cp).length := by rw [HM2.out]; exact hkm
          obtain ⟨bC, oC, rfl, hbC, hcC, -⟩ := (HC.out.ext (bel_call hE.out hE2.out)).cell kl
          have hcL2 := (hE2.out.cell (p := ⟨bL, oL + c, none⟩) hbL).trans hcL
          rw [ni_get kl] at hcC
          obtain ⟨y, hy⟩ : ∃ y, cp.getD k 0 = y := ⟨_, rfl⟩
          rw [hy] at hcC
          by_cases q : y = e
          · subst q
            have HR9 := Lib.hid (show Rel n num cp (n + k) y from .inr ⟨k, by rw [HM.out]; exact hkm, rfl, hy⟩)
            cases hq : ((c : Int) + (salt : Int)) % 3 == (k : Int) % 3
            · go_wp2_with fail
              go_region
              have E9 := Lib.hid (bel_call hE2.out (drew_ext wr))
              clear hE2 hcL2 hcC
              generalize wr.drew = w9 at *
              go_wp2_with fail
              go_roundw
              case rel => exact ⟨k + 1, t, by omega, ht, by go_num, rfl, hR, E9⟩
              case measure => simp [intOf]; omega
            · go_wp2_with fail
              go_region
              have E9 := Lib.hid (bel_call hE2.out (drew_ext wr))
              clear hE2 hcL2 hcC
              generalize wr.drew = w9 at *
              go_wp2_with fail
              go_roundw
              case rel => exact ⟨k + 1, n + k, by omega, by omega, by go_num, by go_num, HR9, E9⟩
              case measure => simp [intOf]; omega
          · have t1 : ((y : Int) == (e : Int)) = false := by simp; omega
            have t1' : (y == e) = false := by simp; omega
            clear hy
            go_wp2_with fail
            go_region
            have E9 := Lib.hid (bel_call hE2.out (drew_ext wr))
            clear hE2 hcL2 hcC
            generalize wr.drew = w9 at *
            go_wp2_with fail
            go_roundw
            case rel => exact ⟨k + 1, t, by omega, ht, by go_num, rfl, hR, E9⟩
            case measure => simp [intOf]; omega
        · obtain rfl : m = k := by omega
          have T9 := Lib.hid (hT.out.more (by rw [HEE.out]; exact hR.out))
          have O9 := Lib.hid (own_ex hO.out hE2.out)
          have E9 := Lib.hid (bel_call hE.out hE2.out)
          have hs9 := E9.out.size
          clear hT hO hE hE2 hcL
          go_wp2_with (at_builtin; refine wpList_append_own _ rfl _ _ 24 rfl w.heap.size 3 i0 (.int .i64 0) 1 8 Tryd.underlying24 hi hz0 hz1 hz2 rfl (by decide) _ _ _ rfl (O9.out.alloc _) ⟨_, 0, none⟩ 1 1 [iv t] rfl rfl (cell_nwb _ [iv t] _ _ (by simp)) (iv_one _) (by unfold maxLen; omega) (by omega) (by simp; omega) ?_; intro v1 w4 hown1 hgrow1 hnil1)
          have O10 := Lib.hid (show w4.ownsRow w.heap.size 3 1 v1 (c + 1) ((O ++ [(t : Int)]).map iv) by rw [List.map_append]; exact hown1)
          have E10 := Lib.hid (ext_gr (bel_call E9.out (by go_grown)) hgrow1 (O9.out.alloc _) (Nat.le_refl _))
          clear hown1 hgrow1 hnil1
          go_wp2_with fail
          go_roundw
          case rel => exact ⟨c + 1, _, by omega, by go_num, T9, O10, E10⟩
          case measure => simp [intOf]; omega
    · obtain rfl : c = 256 := by omega
      go_wp2_with fail
      go_ret
      exact ⟨_, O, rfl, hO.out, ⟨hT.out.len, hT.out.rel⟩, hE.out⟩
end Go.Proofs.YtmhgpdjlomcjoaaDoor
namespace Go.Proofs.YtmhgpdjlomcjoaaDoor
open Go Go.RowKit
/-- A row is put into its place. -/
theorem OwnD.setr {w w1 : World} {B g N cap t : Nat} {vL u : Value} {vs : List Value} {m : Dd} {O : List Int} (h : OwnD w B (.slice (some ⟨g, 0, none⟩) N cap) vL vs m) (hx : Ext w w1) (hu : w1.ownsRow w.heap.size 3 1 u O.length (O.map iv)) (hB : B ≤ w.heap.size)
    (hn : m.nx.length = N) (ht : t < N) : OwnD (w1.setCell ⟨g, t, none⟩ u) B (.slice (some ⟨g, 0, none⟩) N cap) vL (vs.set t u) ⟨m.nx.set t O, m.lb⟩ := by
  have h1 := h.ext hx
  have hrn := h1.rn
  rw [hn] at hrn
  have hvl : vs.length = N := by have := hrn.1; omega
  have hb : (Value.slice (some ⟨g, 0, none⟩) N cap).ownBlock = some g := rfl
  have hne : ∀ {k b : Nat} {v : Value} {xs : List Value}, w1.ownsRow b 3 1 v k xs → v.ownBlock ≠ some g := fun {k b v xs} hk => own_ne_own hk hrn (by decide) g hb
  have hfr : ∀ k, u.ownBlock = some k → w.heap.size ≤ k := fun k q => (own_lo hu k q).1
  refine ⟨?_, own_set h1.rl (hne h1.rl), fun j hj => ?_, fun j hj => ?_, fun j k hj hk hjk => ?_⟩
  · show World.ownsRow _ _ _ _ _ (m.nx.set t O).length _
    rw [List.length_set, hn]
    exact (hrn.stored t u).1
  · have hj : j < m.nx.length := by have : j < (m.nx.set t O).length := hj; rwa [List.length_set] at this
    show World.ownsRow _ _ _ _ ((vs.set t u).getD j nilS) ((m.nx.set t O).getD j []).length (((m.nx.set t O).getD j []).map iv)
    rw [getD_set_at (by omega), getD_set_at (by omega)]
    by_cases e : j = t
    · rw [if_pos e, if_pos e]; exact own_set (hu.mono hB) (hne hu)
    · rw [if_neg e, if_neg e]; exact own_set (h1.en j hj) (hne (h1.en j hj))
  · have hj : j < m.nx.length := by have : j < (m.nx.set t O).length := hj; rwa [List.length_set] at this
    rw [getD_set_at (by omega)]
    by_cases e : j = t
    · rw [if_pos e]
      intro k q q2
      have := (own_lo h.rl k q).2
      have := hfr k q2
      omega
    · rw [if_neg e]; exact h.dl j hj
  · have hj : j < m.nx.length := by have : j < (m.nx.set t O).length := hj; rwa [List.length_set] at this
    have hk : k < m.nx.length := by have : k < (m.nx.set t O).length := hk; rwa [List.length_set] at this
    rw [getD_set_at (by omega), getD_set_at (by omega)]
    by_cases e : j = t
    · rw [if_pos e, if_neg (by omega)]
      intro x q q2
      have := (own_lo (h.en k hk) x q2).2
      have := hfr x q
      omega
    · rw [if_neg e]
      by_cases e2 : k = t
      · rw [if_pos e2]
        intro x q q2
        have := (own_lo (h.en j hj) x q).2
        have := hfr x q2
        omega
      · rw [if_neg e2]; exact h.dd j k hj hk hjk
theorem OwnD.setl {w : World} {B g N cap t : Nat} {vN : Value} {vs : List Value} {m : Dd} (h : OwnD w B vN (.slice (some ⟨g, 0, none⟩) N cap) vs m) (hn : m.lb.length = N) (y : Int) :
    OwnD (w.setCell ⟨g, t, none⟩ (iv y)) B vN (.slice (some ⟨g, 0, none⟩) N cap) vs ⟨m.nx, m.lb.set t y⟩ := by
  have hrl := h.rl
  rw [hn] at hrl
  have hb : (Value.slice (some ⟨g, 0, none⟩) N cap).ownBlock = some g := rfl
  have hN : vN.ownBlock ≠ some g := own_ne_own h.rn hrl (by decide) g hb
  have hE : ∀ j, j < m.nx.length → (vs.getD j nilS).ownBlock ≠ some g := fun j hj => h.dl j hj g hb
  refine ⟨own_set h.rn hN, ?_, fun j hj => own_set (h.en j hj) (hE j hj), h.dl, h.dd⟩
  show World.ownsRow _ _ _ _ _ (m.lb.set t y).length ((m.lb.set t y).map iv)
  rw [List.length_set, hn, List.map_set]
  exact (hrl.stored t (iv y)).1
theorem OwnD.blank {w : World} {B N : Nat} {vN vL : Value} (h1 : w.ownsRow B 24 1 vN N (List.replicate N nilS)) (h2 : w.ownsRow B 3 1 vL N (List.replicate N (iv 0))) :
    OwnD w B vN vL (List.replicate N nilS) ⟨List.replicate N [], List.replicate N 0⟩ := by
  have g1 : ∀ j, (List.replicate N nilS).getD j nilS = nilS := fun j => by
    rw [List.getD_eq_getElem?_getD, List.getElem?_replicate]; split <;> rfl
  have g2 : ∀ j, (List.replicate N ([] : List Int)).getD j [] = [] := fun j => by
    rw [List.getD_eq_getElem?_getD, List.getElem?_replicate]; split <;> rfl
  refine ⟨?_, ?_, fun j _ => ?_, fun j _ => ?_, fun j k _ _ _ => ?_⟩
  · show World.ownsRow _ _ _ _ _ (List.replicate N ([] : List Int)).length _
    rw [List.length_replicate]; exact h1
  · show World.ownsRow _ _ _ _ _ (List.replicate N (0 : Int)).length ((List.replicate N (0 : Int)).map iv)
    rw [List.length_replicate, List.map_replicate]; exact h2
  · show World.ownsRow _ _ _ _ ((List.replicate N nilS).getD j nilS) ((List.replicate N ([] : List Int)).getD j []).length (((List.replicate N ([] : List Int)).getD j []).map iv)
    rw [g1, g2]; exact own_nil _ _ _ _
  · show Dj _ ((List.replicate N nilS).getD j nilS)
    rw [g1]; exact fun g _ q => by cases q
  · show Dj ((List.replicate N nilS).getD j nilS) _
    rw [g1]; exact fun g q => by cases q
/-- What is said while room is made for the other automaton. -/
def RMk (B e N : Nat) (z : Value) (v : Value) (w : World) : Prop := ∃ g, v = .slice (some ⟨g, 0, none⟩) N N ∧ w.ownsRow B e 1 v N (List.replicate N z)
theorem RMk_ext (B e N : Nat) (z : Value) : G.Mono Ext (RMk B e N z) := fun _ _ _ hx ⟨g, h1, h2⟩ => ⟨g, h1, own_ex h2 hx⟩
def RBk (B : Nat) (cs : Array Value) (t : TypeId) (v : Value) (w : World) : Prop := ∃ b, v = .pointer (some ⟨b, 0, none⟩) ∧ Blk w b cs t ∧ B ≤ b
theorem RBk_ext (B : Nat) (cs : Array Value) (t : TypeId) : G.Mono Ext (RBk B cs t) := fun _ _ _ hx ⟨b, h1, h2, h3⟩ => ⟨b, h1, h2.ext hx, h3⟩
/-- How all that lies while the other automaton is filled. -/
structure Lo (w1 wr : World) (g n : Nat) (num cp : List Nat) (vC : Value) (B0 B gX gY N lk : Nat) (vs : List Value) (x : Dd) : Prop where
  nw : wr.ownsRow g 3 1 (.slice (some ⟨g, 0, none⟩) n n) n ((ni num).map iv)
  cw : wr.ownsRow B0 3 1 vC cp.length ((ni cp).map iv)
  od : OwnD wr B (.slice (some ⟨gX, 0, none⟩) N N) (.slice (some ⟨gY, 0, none⟩) N N) vs x
  bk : Blk wr lk #[.slice (some ⟨gX, 0, none⟩) N N, .slice (some ⟨gY, 0, none⟩) N N] 26
  ex : Ext w1 wr
  lo : w1.heap.size ≤ B ∧ g < B ∧ (∀ k, vC.ownBlock = some k → k < B)
section
variable {w1 wr w2 : World} {g n : Nat} {num cp : List Nat} {vC : Value} {B0 B gX gY N lk t : Nat} {vs : List Value} {x : Dd}
theorem Lo.ext (h : Lo w1 wr g n num cp vC B0 B gX gY N lk vs x) (hx : Ext wr w2) : Lo w1 w2 g n num cp vC B0 B gX gY N lk vs x :=
  ⟨own_ex h.nw hx, own_ex h.cw hx, h.od.ext hx, h.bk.ext hx, bel_call h.ex hx, h.lo⟩
theorem Lo.row {u : Value} {O : List Int} (h : Lo w1 wr g n num cp vC B0 B gX gY N lk vs x) (hx : Ext wr w2) (hu : w2.ownsRow wr.heap.size 3 1 u O.length (O.map iv)) (hB : B ≤ wr.heap.size) (hn : x.nx.length = N) (ht : t < N) :
    Lo w1 (w2.setCell ⟨gX, t, none⟩ u) g n num cp vC B0 B gX gY N lk (vs.set t u) ⟨x.nx.set t O, x.lb⟩ := by
  have h2 := h.ext hx
  have hgB : B ≤ gX := (own_lo h2.od.rn gX rfl).1
  refine ⟨own_set h2.nw (fun q => ?_), own_set h2.cw (fun q => ?_), h.od.setr hx hu hB hn ht, h2.bk.set_other (fun q => ?_) _, h2.ex.setCell (p := ⟨gX, t, none⟩) (by show w1.heap.size ≤ gX; have := h.lo.1; omega) _, h.lo⟩
  · have q : g = gX := Option.some.inj q
    have := h.lo.2.1
    omega
  · have := h.lo.2.2 gX q
    omega
  · have q : gX = lk := q
    exact own_ne_blk h2.od.rn h2.bk (by decide) (by rw [← q]; rfl)
theorem Lo.lab (h : Lo w1 wr g n num cp vC B0 B gX gY N lk vs x) (hn : x.lb.length = N) (y : Int) :
    Lo w1 (wr.setCell ⟨gY, t, none⟩ (iv y)) g n num cp vC B0 B gX gY N lk vs ⟨x.nx, x.lb.set t y⟩ := by
  have hgB : B ≤ gY := (own_lo h.od.rl gY rfl).1
  refine ⟨own_set h.nw (fun q => ?_), own_set h.cw (fun q => ?_), h.od.setl hn y, h.bk.set_other (fun q => ?_) _, h.ex.setCell (p := ⟨gY, t, none⟩) (by show w1.heap.size ≤ gY; have := h.lo.1; omega) _, h.lo⟩
  · have q : g = gY := Option.some.inj q
    have := h.lo.2.1
    omega
  · have := h.lo.2.2 gY q
    omega
  · have q : gY = lk := q
    exact own_ne_blk h.od.rl h.bk (by decide) (by rw [← q]; rfl)
end
theorem OwnD.blkset {w : World} {B b i : Nat} {vN vL u : Value} {vs : List Value} {m : Dd} {cs : Array Value} (h : OwnD w B vN vL vs m) (hb : Blk w b cs 26) : OwnD (w.setCell ⟨b, i, none⟩ u) B vN vL vs m :=
  ⟨own_set h.rn (own_ne_blk h.rn hb (by decide)), own_set h.rl (own_ne_blk h.rl hb (by decide)), fun j hj => own_set (h.en j hj) (own_ne_blk (h.en j hj) hb (by decide)), h.dl, h.dd⟩
theorem Lo.start {w1 wc w8 : World} {g n : Nat} {num cp : List Nat} {vC : Value} {B0 gX gY N lk : Nat} (h1 : wc.ownsRow g 3 1 (.slice (some ⟨g, 0, none⟩) n n) n ((ni num).map iv)) (h2 : wc.ownsRow B0 3 1 vC cp.length ((ni cp).map iv)) (hx : Ext wc w8) (he : Ext w1 wc)
    (hX : w8.ownsRow wc.heap.size 24 1 (.slice (some ⟨gX, 0, none⟩) N N) N (List.replicate N nilS)) (hY : w8.ownsRow wc.heap.size 3 1 (.slice (some ⟨gY, 0, none⟩) N N) N (List.replicate N (iv 0))) (hb : Blk w8 lk #[nilS, nilS] 26) (hl : wc.heap.size ≤ lk) :
    Lo w1 ((w8.setCell ⟨lk, 0, none⟩ (.slice (some ⟨gX, 0, none⟩) N N)).setCell ⟨lk, 1, none⟩ (.slice (some ⟨gY, 0, none⟩) N N)) g n num cp vC B0 wc.heap.size gX gY N lk (List.replicate N nilS) ⟨List.replicate N [], List.replicate N 0⟩ := by
  have hb1 := hb.set 0 (.slice (some ⟨gX, 0, none⟩) N N)
  have hb2 := hb1.set 1 (.slice (some ⟨gY, 0, none⟩) N N)
  have k1 := own_ex h1 hx
  have k2 := own_ex h2 hx
  refine ⟨own_set (own_set k1 (own_ne_blk k1 hb (by decide))) (own_ne_blk k1 hb (by decide)), own_set (own_set k2 (own_ne_blk k2 hb (by decide))) (own_ne_blk k2 hb (by decide)), ((OwnD.blank hX hY).blkset hb).blkset hb1, hb2, ?_, he.size, (own_lo h1 g rfl).2, fun k q => (own_lo h2 k q).2⟩
  have := he.size
  exact ((bel_call he hx).setCell (p := ⟨lk, 0, none⟩) (by show w1.heap.size ≤ lk; omega) _).setCell (p := ⟨lk, 1, none⟩) (by show w1.heap.size ≤ lk; omega) _
theorem Fil.start (d : Dd) {n N : Nat} {num cp : List Nat} (h : n + cp.length = N) : Fil d n num cp ⟨List.replicate N [], List.replicate N 0⟩ 0 0 :=
  ⟨by simp [h], by simp [h], fun j hj => absurd hj (by omega), fun j hj => absurd hj (by omega)⟩
theorem Lo.cpi {w1 wr : World} {g n m : Nat} {num cp : List Nat} {aC : Option Addr} {cC B0 B gX gY N lk : Nat} {vs : List Value} {x : Dd} (h : Lo w1 wr g n num cp (.slice aC m cC) B0 B gX gY N lk vs x) (hl : cp.length ≤ 10) (hn : n ≤ 1000) (hc : ∀ k, k < cp.length → cp.getD k 0 < n) : Ints wr (.slice aC m cC) (ni cp) := by
  have hcw := h.cw
  refine ⟨?_, fun y hy => ?_⟩
  · rw [ni_len]
    exact Slc.of_own hcw (by omega)
  · obtain ⟨k, hk, rfl⟩ := List.getElem_of_mem hy
    rw [ni_get hk]
    have := hc k (by rw [ni_len] at hk; exact hk)
    omega
/-- What turned tells. -/
def RTr (B n : Nat) (num cp : List Nat) (L : List Int) (v : Value) (w : World) : Prop := ∃ O, w.ownsRow B 3 1 v 256 (O.map iv) ∧ Trn n num cp L O
theorem RTr_ext (B n : Nat) (num cp : List Nat) (L : List Int) : G.Mono Ext (RTr B n num cp L) := fun _ _ _ hx ⟨O, h1, h2⟩ => ⟨O, own_ex h1 hx, h2⟩
end Go.Proofs.YtmhgpdjlomcjoaaDoor
