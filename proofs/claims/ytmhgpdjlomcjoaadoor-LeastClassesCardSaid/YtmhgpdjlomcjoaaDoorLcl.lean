/- LeastClasses: states have one class just if their least automata are the same; classes are numbered by their least states. -/
import Derived.Test.YtmhgpdjlomcjoaaDoorLpa
import Derived.Test.YtmhgpdjlomcjoaaDoorBgn
namespace Go.Proofs.YtmhgpdjlomcjoaaDoor
open Go Go.RowKit
theorem info_dn3 : (Tryd.prog.info? 26).map (fun i => (i.zero, i.size, i.bytes)) = some (some (.agg #[nilS, nilS]), 2, 48) := by kernel_rfl
/-- An automaton of one's own, with where it lies. -/
structure Lq4 where
  n : Value
  l : Value
  s : List Value
  m : Dd
def fl2 (L : List Lq4) : List Value := L.flatMap fun q => [q.n, q.l]
theorem fl2_len (L : List Lq4) : (fl2 L).length = L.length * 2 := by
  induction L with
  | nil => rfl
  | cons q L ih => show (q.n :: q.l :: fl2 L).length = _; simp only [List.length_cons, ih]; omega
theorem fl2_get : ∀ (L : List Lq4) (j : Nat) (h : j < L.length), (fl2 L)[j * 2]? = some L[j].n ∧ (fl2 L)[j * 2 + 1]? = some L[j].l
  | q :: L, 0, _ => ⟨rfl, rfl⟩
  | q :: L, j + 1, h => by
    have := fl2_get L j (by simpa using h)
    rw [show (j + 1) * 2 = j * 2 + 2 by omega]
    exact this
/-- What is known of the least automata that were told so far. -/
structure Frm (w : World) (B : Nat) (d : Dd) (v : Value) (L : List Lq4) : Prop where
  rn : w.ownsRow B 26 2 v L.length (fl2 L)
  od : ∀ j (h : j < L.length), OwnD w B L[j].n L[j].l L[j].s L[j].m ∧ Canon L[j].m (d.beh j)
theorem Frm.ext {w w' : World} {B : Nat} {d : Dd} {v : Value} {L : List Lq4} (h : Frm w B d v L) (hx : Ext w w') : Frm w' B d v L := ⟨own_ex h.rn hx, fun j hj => ⟨(h.od j hj).1.ext hx, (h.od j hj).2⟩⟩
theorem OwnD.grown {w w' : World} {B B' sz k : Nat} {vN vL v : Value} {vs xs : List Value} {m : Dd} (h : OwnD w B vN vL vs m) (ho : w.ownsRow B' 26 sz v k xs) (hg : w.grownBy w' v.ownBlock) : OwnD w' B vN vL vs m := by
  have key : ∀ {e b n : Nat} {x : Value} {ys : List Value}, w.ownsRow b e 1 x n ys → e ≠ 26 → w'.ownsRow b e 1 x n ys := fun {e b n x ys} hk hne =>
    hk.kept hg (by
      cases hq : x.ownBlock with
      | none => exact .inl rfl
      | some g => exact .inr (fun q => own_ne_own ho hk (fun q => hne q.symm) g hq q.symm))
  exact ⟨key h.rn (by decide), key h.rl (by decide), fun j hj => key (h.en j hj) (by decide), h.dl, h.dd⟩
theorem Frm.nil (w : World) (B : Nat) (d : Dd) : Frm w B d (.slice none 0 0) [] := ⟨own_nil _ _ _ _, fun j hj => absurd hj (by simp)⟩
theorem Frm.more {w w1 w2 : World} {B : Nat} {d : Dd} {v v2 : Value} {L : List Lq4} {q : Lq4} (h : Frm w B d v L) (hx : Ext w w1) (hq : OwnD w1 B q.n q.l q.s q.m) (hc : Canon q.m (d.beh L.length)) (hg : w1.grownBy w2 v.ownBlock)
    (ho : w2.ownsRow B 26 2 v2 (L.length + 1) (fl2 L ++ [q.n, q.l])) : Frm w2 B d v2 (L ++ [q]) := by
  have h1 := h.ext hx
  refine ⟨by rw [List.length_append, show fl2 (L ++ [q]) = fl2 L ++ [q.n, q.l] by simp [fl2]]; exact ho, fun j hj => ?_⟩
  by_cases e : j < L.length
  · rw [List.getElem_append_left e]
    exact ⟨(h1.od j e).1.grown h1.rn hg, (h1.od j e).2⟩
  · have e : j = L.length := by simp at hj; omega
    subst e
    rw [List.getElem_append_right (Nat.le_refl _)]
    simp only [Nat.sub_self, List.getElem_cons_zero]
    exact ⟨hq.grown h1.rn hg, hc⟩
theorem agg_one {a b : Value} (ha : ∃ x n c, a = .slice x n c) (hb : ∃ x n c, b = .slice x n c) : ∀ u ∈ [a, b], u.oneCell' = true := by
  intro u hu
  obtain ⟨x, n, c, rfl⟩ := ha
  obtain ⟨y, m, e, rfl⟩ := hb
  rcases List.mem_cons.1 hu with rfl | hu
  · rfl
  · rw [List.mem_singleton.1 hu]; rfl
/-- Numbers so far. -/
def Nxt (c : List Int) (i nx : Nat) : Prop := ∀ x : Int, x ∈ c.take i ↔ 0 ≤ x ∧ x < nx
theorem Nxt.step {c : List Int} {i nx : Nat} (h : Nxt c i nx) (hn : NC c) (hi : i < c.length) : 0 ≤ c[i] ∧ c[i] ≤ nx ∧ Nxt c (i + 1) (if c[i] = (nx : Int) then nx + 1 else nx) := by
  obtain ⟨h0, hm⟩ := hn i hi
  have hle : c[i] ≤ nx := by
    by_cases q : c[i] ≤ (nx : Int)
    · exact q
    · have := (h nx).1 (hm nx (by omega) (by omega))
      omega
  refine ⟨h0, hle, fun x => ?_⟩
  rw [List.take_succ_eq_append_getElem hi, List.mem_append, List.mem_singleton, h x]
  split <;> constructor
  · rintro (q | q) <;> omega
  · intro q
    by_cases e : x = c[i]
    · exact .inr e
    · exact .inl (by omega)
  · rintro (q | q) <;> omega
  · intro q; exact .inl q
theorem canon_eq {d m m' : Dd} {i k : Nat} (h : Canon m (d.beh i)) (h' : Canon m' (d.beh k)) : eqdB m m' = true ↔ Beq (d.beh i) (d.beh k) := by
  rw [eqdB_iff]
  constructor
  · rintro rfl; exact h.start.symm.trans h'.start
  · exact h.uniq h'
set_option maxHeartbeats 4000000 in
set_option maxRecDepth 20000 in
theorem classes_any (d : Dd) (a b : Value) (w : World) (h1 : Rws w a d.nx) (h2 : Ints w b d.lb) :
    Calls Tryd.prog 7 #[.agg #[a, b]] w fun e w' => e = .returned (.bool true) ∧ Ext w w' := by
  obtain ⟨p, cap, rfl, _⟩ := h1.shape
  obtain ⟨p2, cap2, rfl, _⟩ := h2.shape
  obtain ⟨n, hn⟩ : ∃ n, d.nx.length = n := ⟨_, rfl⟩
  rw [hn] at h1 ⊢
  generalize d.lb.length = n2 at *
  have HEB := Lib.hid (ext_box w #[.slice p n cap, .slice p2 n2 cap2] 26)
  have HBX := Lib.hid (Blk.new w #[.slice p n cap, .slice p2 n2 cap2] 26)
  have HD := Lib.hid ((Dns.agg h1 h2).ext HEB.out)
  have HN := Lib.hid hn
  clear h1 h2 hn
  by_cases q1 : 14 < n
  · have t1 : decide ((14 : Int) < n) = true := by simp; omega
    clear q1
    go_enter Tryd.func7, Tryd.ntmps7
    generalize hw0 : w.alloc (.cells #[.slice p n cap, .slice p2 n2 cap2] 26) = w0 at HEB HBX HD
    have z0 := HBX.out.cell 0
    go_wp2_with fail
    refine (wakes12_any _).mono ?_; rintro e w1 ⟨rfl, E1⟩
    have E1 := Lib.hid E1
    go_wp2_with fail
    go_ret
    exact ⟨rfl, bel_call HEB.out E1.out⟩
  have t1 : decide ((14 : Int) < n) = false := by simp; omega
  have C1 := may_any d _ _ HD.out
  by_cases hd : d.Ok
  rotate_left
  · rw [show okB d = false from by
      cases q : okB d with
      | false => rfl
      | true => exact absurd (okB_ok.1 q) hd] at C1
    have C1 := Lib.hid C1
    clear hd
    go_enter Tryd.func7, Tryd.ntmps7
    generalize hw0 : w.alloc (.cells #[.slice p n cap, .slice p2 n2 cap2] 26) = w0 at HEB HBX HD C1
    have z0 := HBX.out.cell 0
    have z1 := HBX.out.cell 1
    go_wp2_with fail
    refine C1.out.mono ?_; rintro e w1 ⟨rfl, E1⟩
    have E1 := Lib.hid E1
    go_wp2_with fail
    refine (wakes12_any _).mono ?_; rintro e w2 ⟨rfl, E2⟩
    have E2 := Lib.hid E2
    go_wp2_with fail
    go_ret
    exact ⟨rfl, bel_call HEB.out (bel_call E1.out E2.out)⟩
  rw [okB_ok.2 hd] at C1
  have C1 := Lib.hid C1
  have HO := Lib.hid hd
  have h14 : n ≤ 14 := by omega
  clear hd q1
  obtain ⟨i0, hi, hz0, hz1, hz2⟩ := info_parts info_dn3
  go_enter Tryd.func7, Tryd.ntmps7
  generalize hw0 : w.alloc (.cells #[.slice p n cap, .slice p2 n2 cap2] 26) = w0 at HEB HBX HD C1
  have z0 := HBX.out.cell 0
  have z1 := HBX.out.cell 1
  go_wp2_with fail
  refine C1.out.mono ?_; rintro e w1 ⟨rfl, E1⟩
  have HBX1 := Lib.hid (HBX.out.ext E1)
  have HD1 := Lib.hid (HD.out.ext E1)
  have E1' := Lib.hid (bel_call HEB.out E1)
  have z0 := HBX1.out.cell 0
  have z1 := HBX1.out.cell 1
  clear HEB C1 HBX HD E1
  go_wp2_with fail
  refine (classes_ok d _ _ HO.out HD1.out).mono ?_; rintro e w2 ⟨vc, c, rfl, oc, hc, hcb, e2⟩
  obtain ⟨aC, kC, rfl⟩ := own_shp oc
  have hcl : c.length = n := by rw [hc.len]; exact HN.out
  have IC := Lib.hid (show Ints w2 (.slice aC c.length kC) c from ⟨Slc.of_own oc (by omega), fun x hx => by have := hcb x hx; omega⟩)
  rw [hcl] at IC ⊢
  have HCL := Lib.hid hcl
  have HC := Lib.hid hc
  have HBX2 := Lib.hid (HBX1.out.ext e2)
  have HD2 := Lib.hid (HD1.out.ext e2)
  have E2 := Lib.hid (bel_call E1'.out e2)
  clear oc hc hcb hcl e2 HBX1 HD1 E1' z0 z1
  go_wp2_with fail
  have hw2 := E2.out.size
  go_loopw [6, 7, 8] (fun s6 s7 s8 wr => ∃ (i nx : Nat) (L : List Lq4), i ≤ n ∧ s8 = .int .i64 i ∧ s7 = .int .i64 nx ∧ nx ≤ i ∧ Hid (L.length = i) ∧ Hid (Nxt c i nx) ∧ Hid (Frm wr w2.heap.size d s6 L) ∧ Hid (Ext w2 wr)) (fun _ _ s8 _ => n - (intOf s8).toNat)
  case atStart => exact ⟨0, 0, [], Nat.zero_le _, rfl, rfl, Nat.le_refl _, Lib.hid rfl, Lib.hid (fun x => by simp; try omega), Lib.hid (Frm.nil _ _ _), Lib.hid (Below.refl _ _)⟩
  case round =>
    obtain ⟨i, nx, L, hi', rfl, rfl, hnx, hL, hX, hF, hE⟩ := hrel
    obtain ⟨a6, c6, e6⟩ := own_shp hF.out.rn
    rw [hL.out] at e6
    subst e6
    have z0 := (HBX2.out.ext hE.out).cell 0
    have z1 := (HBX2.out.ext hE.out).cell 1
    by_cases hin : i < n
    · have i1 : i < c.length := by rw [HCL.out]; exact hin
      obtain ⟨bC, oC, rfl, hbC, hcC, -⟩ := (IC.out.ext hE.out).cell i1
      obtain ⟨s1, s2, s3⟩ := hX.out.step HC.out.nc i1
      obtain ⟨x, hx⟩ : ∃ x, c[i] = x := ⟨_, rfl⟩
      rw [hx] at hcC s1 s2 s3
      have t2 : decide ((nx : Int) < x) = false := by simp; omega
      have t3 : decide (x < 0) = false := by simp; omega
      have t3' : decide (x < 0) = false := t3
      clear hx
      have HIC := Lib.hid (IC.out.ext hE.out)
      by_cases q : x = nx
      · subst q
        rw [if_pos rfl] at s3
        have X9 := Lib.hid s3
        clear s1 s2 s3 hX
        go_wp2_with fail
        refine (begun_ok d i _ wr HO.out (by rw [HN.out]; exact hin) (HD2.out.ext hE.out)).mono ?_; rintro e w3 ⟨vN, vL, vs, rfl, ob, e3⟩
        have DB := ob.dns (bgn_ok HO.out (by rw [HN.out]; exact hin))
        clear ob
        go_wp2_with fail
        refine (least_ok (bgn d i) _ w3 (bgn_ok HO.out (by rw [HN.out]; exact hin)) DB).mono ?_; rintro e w4 ⟨m, uN, uL, us, rfl, cm, om, e4⟩
        clear DB
        obtain ⟨aN, kN, rfl⟩ := own_shp om.rn
        obtain ⟨aL, kL, rfl⟩ := own_shp om.rl
        have CM : Canon m (d.beh i) := ⟨cm.ok, cm.start.trans (bgn_beh HO.out (by rw [HN.out]; exact hin)), cm.apart, cm.num, cm.found⟩
        have hx5 : Ext w4 (w4.alloc (.cells #[.slice aN m.nx.length kN, .slice aL m.lb.length kL] 26)) := by go_grown
        have hb5 := Blk.new w4 #[.slice aN m.nx.length kN, .slice aL m.lb.length kL] 26
        have hs2 := hE.out.size
        have E5 := Lib.hid (bel_call (bel_call (bel_call hE.out e3) e4) hx5)
        have hx0 := Lib.hid (bel_call (bel_call e3 e4) hx5)
        have HQ := Lib.hid ((om.ext hx5).mono (show w2.heap.size ≤ w3.heap.size by have := e3.size; omega))
        have HCM := Lib.hid CM
        have hF5 := hF.out.ext hx0.out
        go_upto_region 17 with fail
        generalize w4.alloc (.cells #[.slice aN m.nx.length kN, .slice aL m.lb.length kL] 26) = w5 at *
        generalize hs4 : w4.heap.size = s4 at *
        have HF5 := Lib.hid hF5
        have hrn5 := HF5.out.rn
        rw [hL.out] at hrn5
        have HRN := Lib.hid hrn5
        have y0 := hb5.cell 0
        have y1 := hb5.cell 1
        have hw5 := hx0.out.size
        clear cm CM hx5 om hF5 hrn5 hs4 e3 e4 z0 z1 hcC
        go_wp2_with (at_builtin; refine wpList_append_own _ rfl _ _ 22 rfl w2.heap.size 26 i0 (.agg #[nilS, nilS]) 2 48 Tryd.underlying22 hi hz0 hz1 hz2 rfl (by decide) _ _ _ rfl (HRN.out.alloc _) ⟨_, 0, none⟩ 1 1 [.slice aN m.nx.length kN, .slice aL m.lb.length kL] rfl rfl (cell_nwb _ [.slice aN m.nx.length kN, .slice aL m.lb.length kL] _ _ (by simp)) (agg_one ⟨_, _, _, rfl⟩ ⟨_, _, _, rfl⟩) (by unfold maxLen; omega) (by omega) (by simp; omega) ?_; intro v9 w9 hown9 hgrow9 hnil9)
        have hx6 : Ext w5 (w5.alloc (.cells #[.slice aN m.nx.length kN, .slice aL m.lb.length kL] 26)) := by go_grown
        have F9 := Lib.hid (HF5.out.more (q := ⟨.slice aN m.nx.length kN, .slice aL m.lb.length kL, us, m⟩) hx6 (HQ.out.ext hx6) (by rw [hL.out]; exact HCM.out) hgrow9 (by rw [hL.out]; exact hown9))
        have E9 := Lib.hid (ext_gr (bel_call E5.out hx6) hgrow9 (HRN.out.alloc _) (Nat.le_refl _))
        clear hown9 hgrow9 hnil9
        go_wp2_with fail
        go_roundw
        case rel => exact ⟨i + 1, nx + 1, _, by omega, by go_num, by go_num, by omega, Lib.hid (by rw [List.length_append, hL.out]; rfl), X9, F9, E9⟩
        case measure => simp [intOf]; omega
      · rw [if_neg q] at s3
        have X9 := Lib.hid s3
        have t4 : (x == (nx : Int)) = false := by simpa using q
        clear s1 s2 s3 hX
        go_wp2_with fail
        refine (begun_ok d i _ wr HO.out (by rw [HN.out]; exact hin) (HD2.out.ext hE.out)).mono ?_; rintro e w3 ⟨vN, vL, vs, rfl, ob, e3⟩
        have DB := ob.dns (bgn_ok HO.out (by rw [HN.out]; exact hin))
        clear ob
        go_wp2_with fail
        refine (least_ok (bgn d i) _ w3 (bgn_ok HO.out (by rw [HN.out]; exact hin)) DB).mono ?_; rintro e w4 ⟨m, uN, uL, us, rfl, cm, om, e4⟩
        clear DB
        obtain ⟨aN, kN, rfl⟩ := own_shp om.rn
        obtain ⟨aL, kL, rfl⟩ := own_shp om.rl
        have CM : Canon m (d.beh i) := ⟨cm.ok, cm.start.trans (bgn_beh HO.out (by rw [HN.out]; exact hin)), cm.apart, cm.num, cm.found⟩
        have hx5 : Ext w4 (w4.alloc (.cells #[.slice aN m.nx.length kN, .slice aL m.lb.length kL] 26)) := by go_grown
        have hb5 := Blk.new w4 #[.slice aN m.nx.length kN, .slice aL m.lb.length kL] 26
        have hs2 := hE.out.size
        have E5 := Lib.hid (bel_call (bel_call (bel_call hE.out e3) e4) hx5)
        have hx0 := Lib.hid (bel_call (bel_call e3 e4) hx5)
        have HQ := Lib.hid ((om.ext hx5).mono (show w2.heap.size ≤ w3.heap.size by have := e3.size; omega))
        have HCM := Lib.hid CM
        have hF5 := hF.out.ext hx0.out
        go_upto_region 17 with fail
        generalize w4.alloc (.cells #[.slice aN m.nx.length kN, .slice aL m.lb.length kL] 26) = w5 at *
        generalize hs4 : w4.heap.size = s4 at *
        have HF5 := Lib.hid hF5
        have hrn5 := HF5.out.rn
        rw [hL.out] at hrn5
        have HRN := Lib.hid hrn5
        have y0 := hb5.cell 0
        have y1 := hb5.cell 1
        have hw5 := hx0.out.size
        clear cm CM hx5 om hF5 hrn5 hs4 e3 e4 z0 z1 hcC
        go_wp2_with (at_builtin; refine wpList_append_own _ rfl _ _ 22 rfl w2.heap.size 26 i0 (.agg #[nilS, nilS]) 2 48 Tryd.underlying22 hi hz0 hz1 hz2 rfl (by decide) _ _ _ rfl (HRN.out.alloc _) ⟨_, 0, none⟩ 1 1 [.slice aN m.nx.length kN, .slice aL m.lb.length kL] rfl rfl (cell_nwb _ [.slice aN m.nx.length kN, .slice aL m.lb.length kL] _ _ (by simp)) (agg_one ⟨_, _, _, rfl⟩ ⟨_, _, _, rfl⟩) (by unfold maxLen; omega) (by omega) (by simp; omega) ?_; intro v9 w9 hown9 hgrow9 hnil9)
        have hx6 : Ext w5 (w5.alloc (.cells #[.slice aN m.nx.length kN, .slice aL m.lb.length kL] 26)) := by go_grown
        have F9 := Lib.hid (HF5.out.more (q := ⟨.slice aN m.nx.length kN, .slice aL m.lb.length kL, us, m⟩) hx6 (HQ.out.ext hx6) (by rw [hL.out]; exact HCM.out) hgrow9 (by rw [hL.out]; exact hown9))
        have E9 := Lib.hid (ext_gr (bel_call E5.out hx6) hgrow9 (HRN.out.alloc _) (Nat.le_refl _))
        clear hown9 hgrow9 hnil9
        go_wp2_with fail
        go_roundw
        case rel => exact ⟨i + 1, nx, _, by omega, by go_num, by go_num, by omega, Lib.hid (by rw [List.length_append, hL.out]; rfl), X9, F9, E9⟩
        case measure => simp [intOf]; omega
    · obtain rfl : n = i := by omega
      have HFF := Lib.hid hF.out
      have HIC := Lib.hid (IC.out.ext hE.out)
      have HE9 := Lib.hid (bel_call E2.out hE.out)
      clear hF hX z0 z1 hE
      go_wp2_with fail
      obtain ⟨wo, rfl⟩ : ∃ wo : World, wo = wr := ⟨_, rfl⟩
      go_loopw [11] (fun s11 wr => ∃ i : Nat, i ≤ n ∧ s11 = .int .i64 i ∧ Hid (Ext wo wr)) (fun s11 _ => n - (intOf s11).toNat)
      case atStart => exact ⟨0, Nat.zero_le _, rfl, Lib.hid (Below.refl _ _)⟩
      case round =>
        obtain ⟨i, hi1, rfl, hE⟩ := hrel
        by_cases hin : i < n
        · go_wp2_with fail
          go_loopw [12] (fun s12 wr => ∃ k : Nat, k ≤ i ∧ s12 = .int .i64 k ∧ Hid (Ext wo wr)) (fun s12 _ => i - (intOf s12).toNat)
          case atStart => exact ⟨0, Nat.zero_le _, rfl, hE⟩
          case round =>
            clear hE
            obtain ⟨k, hk1, rfl, hE⟩ := hrel
            by_cases hki : k < i
            · have hik : k < n := by omega
              have F1 := HFF.out.ext hE.out
              have I1 := HIC.out.ext hE.out
              have ci : i < c.length := by rw [HCL.out]; exact hin
              have ck : k < c.length := by rw [HCL.out]; exact hik
              have li : i < L.length := by rw [hL.out]; exact hin
              have lk : k < L.length := by rw [hL.out]; exact hik
              obtain ⟨bC, oC, rfl, hbC, hcC, -⟩ := I1.cell ci
              obtain ⟨bC2, oC2, e2, hbC2, hcC2, -⟩ := I1.cell ck
              cases e2
              have hrn := F1.rn
              rw [hL.out] at hrn
              obtain ⟨g, cg, e3, hcg, hgB, hgl, hmg⟩ := own_some hrn (by omega)
              cases e3
              obtain ⟨oi, mi⟩ := F1.od i li
              obtain ⟨ok, mk⟩ := F1.od k lk
              have f0 := (hrn.cellAt (i * 2) (by omega)).trans (fl2_get L i li).1
              have f1 := (hrn.cellAt (i * 2 + 1) (by omega)).trans (fl2_get L i li).2
              have f2 := (hrn.cellAt (k * 2) (by omega)).trans (fl2_get L k lk).1
              have f3 := (hrn.cellAt (k * 2 + 1) (by omega)).trans (fl2_get L k lk).2
              have DI := oi.dns mi.ok
              have DK := ok.dns mk.ok
              obtain ⟨aN, kN, eN⟩ := own_shp oi.rn
              obtain ⟨aL, kL, eL⟩ := own_shp oi.rl
              obtain ⟨bN, hN, eN2⟩ := own_shp ok.rn
              obtain ⟨bL, hL2, eL2⟩ := own_shp ok.rl
              have key := canon_eq mi mk
              have hcls := HC.out.eq i k (by rw [HN.out]; exact hin) (by rw [HN.out]; exact hik)
              rw [getD_get ci, getD_get ck, ← key] at hcls
              rw [eN] at f0 DI
              rw [eL] at f1 DI
              rw [eN2] at f2 DK
              rw [eL2] at f3 DK
              have HQ := fun w' (hx : Ext wr w') => eqd_any L[i].m L[k].m _ _ w' (DI.ext hx) (DK.ext hx)
              obtain ⟨q, hq⟩ : ∃ q, eqdB L[i].m L[k].m = q := ⟨_, rfl⟩
              rw [hq] at HQ hcls
              generalize L[i].m.nx.length = l1 at *
              generalize L[i].m.lb.length = l2 at *
              generalize L[k].m.nx.length = l3 at *
              generalize L[k].m.lb.length = l4 at *
              obtain ⟨x, hx⟩ : ∃ x, c[i] = x := ⟨_, rfl⟩
              obtain ⟨y, hy⟩ : ∃ y, c[k] = y := ⟨_, rfl⟩
              rw [hx, hy] at hcls
              rw [hx] at hcC
              rw [hy] at hcC2
              have HQ := Lib.hid HQ
              clear hq key oi ok mi mk eN eL eN2 eL2 DI DK hrn F1 I1 ci ck li lk hx hy
              have F0 := Lib.hid f0
              have F1 := Lib.hid f1
              have F2 := Lib.hid f2
              have F3 := Lib.hid f3
              have HG := Lib.hid hgl
              have HBC := Lib.hid hbC
              have HC1 := Lib.hid hcC
              have HC2 := Lib.hid hcC2
              clear f0 f1 f2 f3 hgl hbC hbC2 hcC hcC2
              have hEo := hE
              by_cases hxy : x = y
              · have hqt : q = true := hcls.1 hxy
                subst hqt
                subst hxy
                clear hcls
                go_upto_region 26 with fail
                refine wp_region_stab (fun _ => none) (by kernel_rfl) (by kernel_rfl) (fun _ _ h => by cases h) (fun hex => ?_)
                iterate 19
                  (refine wpS_one (A := ?_) hex rfl rfl (by simp) ?_ ?_ ?_
                   rotate_left 2
                   · intro w' hC K hK
                     obtain ⟨hcell, hfrz⟩ := bcell hC.1.ext
                     have hxC := hC.1.1; have z0 := (hxC.cell (p := ⟨g, i * 2, none⟩) HG.out).trans F0.out; have z1 := (hxC.cell (p := ⟨g, i * 2 + 1, none⟩) HG.out).trans F1.out; have z2 := (hxC.cell (p := ⟨g, k * 2, none⟩) HG.out).trans F2.out; have z3 := (hxC.cell (p := ⟨g, k * 2 + 1, none⟩) HG.out).trans F3.out; have z4 := (hxC.cell (p := ⟨bC, oC + i, none⟩) HBC.out).trans HC1.out; have z5 := (hxC.cell (p := ⟨bC, oC + k, none⟩) HBC.out).trans HC2.out
                     go_wp2_with (go_at_call 14; refine (HQ.out _ hxC).mono ?_; rintro e w9 ⟨rfl, hx9⟩)
                     refine hK _ ?_
                     first | exact Gr.refl _ _ | exact Gr.of_ext (by assumption) hC.1.1.size
                   rotate_left 1
                   · rfl
                   clear hex; intro hex)
                refine wpS_nil fun w9 hE => ?_
                replace hE := hE.1.ext
                obtain ⟨hcell_w9, hfrz_w9⟩ := bcell hE
                have hE2 := Lib.hid (bel_call hEo.out hE)
                clear hE hex hcell_w9 hfrz_w9
                go_wp2_with fail
                go_roundw
                case rel => exact ⟨k + 1, by omega, by go_num, hE2⟩
                case measure => simp [intOf]; omega
              · have hqt : q = false := by cases q with | false => rfl | true => exact absurd (hcls.2 rfl) hxy
                subst hqt
                have t9 : (x == y) = false := by simpa using hxy
                clear hcls hxy
                go_upto_region 26 with fail
                refine wp_region_stab (fun _ => none) (by kernel_rfl) (by kernel_rfl) (fun _ _ h => by cases h) (fun hex => ?_)
                iterate 19
                  (refine wpS_one (A := ?_) hex rfl rfl (by simp) ?_ ?_ ?_
                   rotate_left 2
                   · intro w' hC K hK
                     obtain ⟨hcell, hfrz⟩ := bcell hC.1.ext
                     have hxC := hC.1.1; have z0 := (hxC.cell (p := ⟨g, i * 2, none⟩) HG.out).trans F0.out; have z1 := (hxC.cell (p := ⟨g, i * 2 + 1, none⟩) HG.out).trans F1.out; have z2 := (hxC.cell (p := ⟨g, k * 2, none⟩) HG.out).trans F2.out; have z3 := (hxC.cell (p := ⟨g, k * 2 + 1, none⟩) HG.out).trans F3.out; have z4 := (hxC.cell (p := ⟨bC, oC + i, none⟩) HBC.out).trans HC1.out; have z5 := (hxC.cell (p := ⟨bC, oC + k, none⟩) HBC.out).trans HC2.out
                     go_wp2_with (go_at_call 14; refine (HQ.out _ hxC).mono ?_; rintro e w9 ⟨rfl, hx9⟩)
                     refine hK _ ?_
                     first | exact Gr.refl _ _ | exact Gr.of_ext (by assumption) hC.1.1.size
                   rotate_left 1
                   · rfl
                   clear hex; intro hex)
                refine wpS_nil fun w9 hE => ?_
                replace hE := hE.1.ext
                obtain ⟨hcell_w9, hfrz_w9⟩ := bcell hE
                have hE2 := Lib.hid (bel_call hEo.out hE)
                clear hE hex hcell_w9 hfrz_w9
                go_wp2_with fail
                go_roundw
                case rel => exact ⟨k + 1, by omega, by go_num, hE2⟩
                case measure => simp [intOf]; omega
            · obtain rfl : i = k := by omega
              go_wp2_with fail
              go_roundw
              case rel => exact ⟨i + 1, by omega, by go_num, hE⟩
              case measure => simp [intOf]; omega
        · obtain rfl : n = i := by omega
          go_wp2_with fail
          refine (wakes12_any _).mono ?_; rintro e w8 ⟨rfl, e8⟩
          have E8 := Lib.hid (bel_call (bel_call HE9.out hE.out) e8)
          clear e8
          go_wp2_with fail
          go_ret
          exact ⟨rfl, E8.out⟩
end Go.Proofs.YtmhgpdjlomcjoaaDoor
