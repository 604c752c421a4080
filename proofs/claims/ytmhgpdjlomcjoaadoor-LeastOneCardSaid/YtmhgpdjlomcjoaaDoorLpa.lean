/- LeastApart: the least automaton's states are reached in the order of their numbers, and told apart. -/
import Derived.Test.YtmhgpdjlomcjoaaDoorLla
import Derived.Test.YtmhgpdjlomcjoaaDoorPar
namespace Go.Proofs.YtmhgpdjlomcjoaaDoor
open Go Go.RowKit
theorem fnd_step (f : Nat → Nat → Nat) {i c : Nat} (hc : c < 256) : fnd f (256 * i + (c + 1)) = if f i c = fnd f (256 * i + c) then fnd f (256 * i + c) + 1 else fnd f (256 * i + c) := by
  rw [← Nat.add_assoc, fnd, show (256 * i + c) / 256 = i by omega, show (256 * i + c) % 256 = c by omega]
theorem Dns.rws {w : World} {a b : Value} {d : Dd} (h : Dns w (.agg #[a, b]) d) : Rws w a d.nx := by
  obtain ⟨x, y, e, h1, _⟩ := h
  cases e; exact h1
theorem Dns.ints {w : World} {a b : Value} {d : Dd} (h : Dns w (.agg #[a, b]) d) : Ints w b d.lb := by
  obtain ⟨x, y, e, _, h1⟩ := h
  cases e; exact h1
set_option maxHeartbeats 4000000 in
set_option maxRecDepth 20000 in
theorem apart_any (d : Dd) (a b : Value) (w : World) (h1 : Rws w a d.nx) (h2 : Ints w b d.lb) :
    Calls Tryd.prog 5 #[.agg #[a, b]] w fun e w' => e = .returned (.bool true) ∧ Ext w w' := by
  obtain ⟨p, cap, rfl, _⟩ := h1.shape
  obtain ⟨p2, cap2, rfl, _⟩ := h2.shape
  obtain ⟨n, hn⟩ : ∃ n, d.nx.length = n := ⟨_, rfl⟩
  rw [hn] at h1 ⊢
  generalize d.lb.length = n2 at *
  have HEB := Lib.hid (ext_box w #[.slice p n cap, .slice p2 n2 cap2] 26)
  have HBX := Lib.hid (Blk.new w #[.slice p n cap, .slice p2 n2 cap2] 26)
  have HD := Lib.hid ((Dns.agg h1 h2).ext HEB.out)
  have HN := Lib.hid hn
  clear h1 h2 hn
  by_cases q1 : 60 < n
  · have t1 : decide ((60 : Int) < n) = true := by simp; omega
    clear q1
    go_enter Tryd.func5, Tryd.ntmps5
    generalize hw0 : w.alloc (.cells #[.slice p n cap, .slice p2 n2 cap2] 26) = w0 at HEB HBX HD
    have z0 := HBX.out.cell 0
    go_wp2_with fail
    refine (wakes12_any _).mono ?_; rintro e w1 ⟨rfl, E1⟩
    have E1 := Lib.hid E1
    go_wp2_with fail
    go_ret
    exact ⟨rfl, bel_call HEB.out E1.out⟩
  have t1 : decide ((60 : Int) < n) = false := by simp; omega
  have C1 := may_any d _ _ HD.out
  by_cases hd : d.Ok
  rotate_left
  · rw [show okB d = false from by
      cases q : okB d with
      | false => rfl
      | true => exact absurd (okB_ok.1 q) hd] at C1
    have C1 := Lib.hid C1
    clear hd
    go_enter Tryd.func5, Tryd.ntmps5
    generalize hw0 : w.alloc (.cells #[.slice p n cap, .slice p2 n2 cap2] 26) = w0 at HEB HBX HD C1
    have z0 := HBX.out.cell 0
    have z1 := HBX.out.cell 1
    go_wp2_with fail
    refine C1.out.mono ?_; rintro e w1 ⟨rfl, E1⟩
    have E1 := Lib.hid E1
    go_wp2_with fail
    refine (wakes12_any _).mono ?_; rintro e w2 ⟨rfl, E2⟩
    have E2 := Lib.hid E2
    go_wp2_with fail
    go_ret
    exact ⟨rfl, bel_call HEB.out (bel_call E1.out E2.out)⟩
  rw [okB_ok.2 hd] at C1
  have C1 := Lib.hid C1
  have HO := Lib.hid hd
  have H60 := Lib.hid (show n ≤ 60 by omega)
  clear hd q1
  go_enter Tryd.func5, Tryd.ntmps5
  generalize hw0 : w.alloc (.cells #[.slice p n cap, .slice p2 n2 cap2] 26) = w0 at HEB HBX HD C1
  have z0 := HBX.out.cell 0
  have z1 := HBX.out.cell 1
  go_wp2_with fail
  refine C1.out.mono ?_; rintro e w1 ⟨rfl, E1⟩
  have HBX1 := Lib.hid (HBX.out.ext E1)
  have HD1 := Lib.hid (HD.out.ext E1)
  have E1' := Lib.hid (bel_call HEB.out E1)
  have z0 := HBX1.out.cell 0
  have z1 := HBX1.out.cell 1
  clear HEB C1 HBX HD E1
  go_wp2_with fail
  refine (least_ok d _ _ HO.out HD1.out).mono ?_; rintro e w2 ⟨m1, vN, vL, vs, rfl, c1, o1, e2⟩
  obtain ⟨aN, kN, rfl⟩ := own_shp o1.rn
  obtain ⟨aL, kL, rfl⟩ := own_shp o1.rl
  have dm := o1.dns c1.ok
  have CM := Lib.hid c1
  have hle := c1.le HO.out
  have hl1 := c1.ok.lbl
  obtain ⟨n1, hn1⟩ : ∃ n1, m1.nx.length = n1 := ⟨_, rfl⟩
  have h16 : n1 ≤ 60 := by have := H60.out; have := HN.out; omega
  rw [hn1] at hl1 dm
  rw [hl1] at dm
  rw [hn1, hl1]
  have hx2 : Ext w2 (w2.alloc (.cells #[.slice aN n1 kN, .slice aL n1 kL] 26)) := by go_grown
  have hb2 := Blk.new w2 #[.slice aN n1 kN, .slice aL n1 kL] 26
  have HB2 := Lib.hid hb2
  have DM2 := Lib.hid (dm.ext hx2)
  have E2 := Lib.hid (bel_call (bel_call E1'.out e2) hx2)
  have HN1 := Lib.hid hn1
  clear o1 dm c1 hn1 hl1 hx2 hb2 HBX1 HD1 E1' e2 z0 z1 hle
  go_upto_region 4 with fail
  generalize w2.alloc (.cells #[.slice aN n1 kN, .slice aL n1 kL] 26) = w3 at *
  generalize hs2 : w2.heap.size = s2 at *
  clear hs2
  have C3 := may_any m1 _ _ DM2.out
  rw [okB_ok.2 CM.out.ok] at C3
  have C3 := Lib.hid C3
  have z0 := HB2.out.cell 0
  have z1 := HB2.out.cell 1
  go_wp2_with fail
  refine C3.out.mono ?_; rintro e w4 ⟨rfl, e4⟩
  have HB4 := Lib.hid (HB2.out.ext e4)
  have DM4 := Lib.hid (DM2.out.ext e4)
  have E4 := Lib.hid (bel_call E2.out e4)
  clear C3 HB2 DM2 E2 e4 z0 z1
  have z0 := HB4.out.cell 0
  go_wp2_with fail
  go_loopw [5, 6] (fun s5 s6 wr => ∃ i : Nat, i ≤ n1 ∧ s6 = .int .i64 i ∧ s5 = .int .i64 ((fnd m1.to (256 * i) : Nat) : Int) ∧ Hid (w4 = wr)) (fun _ s6 _ => n1 - (intOf s6).toNat)
  case atStart => exact ⟨0, Nat.zero_le _, rfl, rfl, Lib.hid rfl⟩
  case round =>
    obtain ⟨i, hi, rfl, rfl, hw⟩ := hrel
    obtain rfl := hw.out
    clear hw
    by_cases hin : i < n1
    · have i1 : i < m1.nx.length := by rw [HN1.out]; exact hin
      have hf := CM.out.found i i1
      have hfl := fnd_le CM.out.ok (256 * i) (by omega)
      rw [HN1.out] at hfl
      obtain ⟨f0, hf0⟩ : ∃ f, fnd m1.to (256 * i) = f := ⟨_, rfl⟩
      rw [hf0] at hf hfl ⊢
      have HF0 := Lib.hid (show fnd m1.to (256 * i + 0) = f0 from hf0)
      have t2 : decide ((f0 : Int) ≤ (i : Int)) = false := by simp; omega
      have t2' : decide (f0 ≤ i) = false := by simp; omega
      clear hf0
      go_wp2_with fail
      go_loopw [5, 7] (fun s5 s7 wr => ∃ c f : Nat, c ≤ 256 ∧ s7 = .int .i64 c ∧ s5 = .int .i64 f ∧ Hid (fnd m1.to (256 * i + c) = f) ∧ Hid (w4 = wr)) (fun _ s7 _ => 256 - (intOf s7).toNat)
      case atStart => exact ⟨0, f0, Nat.zero_le _, rfl, rfl, HF0, Lib.hid rfl⟩
      case round =>
        clear HF0 t2 t2' hf hfl
        obtain ⟨c, f, hc, rfl, rfl, hf, hw⟩ := hrel
        obtain rfl := hw.out
        clear hw
        by_cases hcn : c < 256
        · obtain ⟨bR, oR, aR, cR, e2, hbR, hcR, hIR, -⟩ := (DM4.out.rws).cell i1
          cases e2
          have hr1 : m1.nx[i].length = 256 := by have := CM.out.ok.row i i1; rwa [getD_get i1] at this
          obtain ⟨bE, oE, rfl, hbE, hcE, -⟩ := hIR.cell (k := c) (by omega)
          rw [dd_ent CM.out.ok i1 hcn] at hcE
          rw [hr1] at hcR
          have hnum := CM.out.num (256 * i + c) (by omega)
          have hstp := fnd_step m1.to (i := i) hcn
          have hfl := fnd_le CM.out.ok (256 * i + c) (by omega)
          rw [hf.out, HN1.out] at hfl
          rw [hf.out, show (256 * i + c) / 256 = i by omega, show (256 * i + c) % 256 = c by omega] at hnum
          rw [hf.out] at hstp
          obtain ⟨x, hx⟩ : ∃ x, m1.to i c = x := ⟨_, rfl⟩
          rw [hx] at hcE hnum hstp
          have t3 : decide ((f : Int) < (x : Int)) = false := by simp; omega
          have t3' : decide (f < x) = false := by simp; omega
          clear hIR hr1 hx
          by_cases q : x = f
          · subst q
            rw [if_pos rfl] at hstp
            have HS := Lib.hid hstp
            clear hstp hnum
            go_wp2_with fail
            go_roundw
            case rel => exact ⟨c + 1, x + 1, by omega, by go_num, by go_num, HS, Lib.hid trivial⟩
            case measure => simp [intOf]; omega
          · rw [if_neg q] at hstp
            have HS := Lib.hid hstp
            have t4 : ((x : Int) == (f : Int)) = false := by simp; omega
            clear hstp hnum
            go_wp2_with fail
            go_roundw
            case rel => exact ⟨c + 1, f, by omega, by go_num, rfl, HS, Lib.hid trivial⟩
            case measure => simp [intOf]; omega
        · obtain rfl : c = 256 := by omega
          have HS := Lib.hid (show fnd m1.to (256 * (i + 1)) = f from hf.out)
          go_wp2_with fail
          go_roundw
          case rel => exact ⟨i + 1, by omega, by go_num, by rw [HS.out], Lib.hid trivial⟩
          case measure => simp [intOf]; omega
    · obtain rfl : n1 = i := by omega
      generalize fnd m1.to (256 * n1) = f9 at *
      have z1 := HB4.out.cell 1
      go_wp2_with fail
      refine (parted_ok m1 _ _ CM.out.ok (by rw [HN1.out]; exact h16) CM.out.apart DM4.out).mono ?_; rintro e w5 ⟨rfl, e5⟩
      have E5 := Lib.hid (bel_call E4.out e5)
      clear e5
      go_wp2_with fail
      refine (wakes12_any _).mono ?_; rintro e w6 ⟨rfl, e6⟩
      have E6 := Lib.hid (bel_call E5.out e6)
      clear e6
      go_wp2_with fail
      go_ret
      exact ⟨rfl, E6.out⟩
end Go.Proofs.YtmhgpdjlomcjoaaDoor
