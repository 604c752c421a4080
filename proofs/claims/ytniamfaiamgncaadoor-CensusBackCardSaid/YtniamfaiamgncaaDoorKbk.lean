/- CensusBack: the word at a place has that place, and the label; what stands at the next place stands right behind. -/
import Derived.Test.YtniamfaiamgncaaDoorKbw
import Derived.Test.YtniamfaiamgncaaDoorMay
namespace Go.Proofs.YtniamfaiamgncaaDoor
open Go Go.RowKit
theorem succL_lt : ∀ {l q : List Nat}, (∀ c ∈ l, c < 256) → succL l = some q → ∀ c ∈ q, c < 256
  | [], _, _, h => by cases h
  | c :: l, q, hl, h => by
    rw [succL] at h
    cases e : succL l with
    | some m =>
      rw [e] at h; cases h
      intro y hy
      rcases List.mem_cons.1 hy with rfl | hy
      · exact hl _ (List.mem_cons_self ..)
      · exact succL_lt (fun z hz => hl z (List.mem_cons_of_mem _ hz)) e y hy
    | none =>
      rw [e] at h
      simp only at h
      split at h
      · cases h
        intro y hy
        rcases List.mem_cons.1 hy with rfl | hy
        · omega
        · rw [List.eq_of_mem_replicate hy]; omega
      · cases h
/-- What stands at the next place, if it has as many bytes, comes by the next word of as many bytes or not. -/
theorem next_ok {dl : Nat → Nat → Nat} {lab : Nat → Int} {x : Int} {l v : List Nat} (h1 : ∀ c ∈ l, c < 256) (h3 : ∀ c ∈ v, c < 256) (hl : lab (runA dl 0 l) = x) (hv : lab (runA dl 0 v) = x) (hlen : v.length = l.length)
    (hr : rankW dl lab x v = rankW dl lab x l + 1) : ∃ q, succL l = some q ∧ (∀ c ∈ q, c < 256) ∧ (lab (runA dl 0 q) = x → q = v) := by
  cases e : succL l with
  | some q =>
    have hq := succL_lt h1 e
    exact ⟨q, rfl, hq, fun hm => between_ok h1 hq h3 e hl hv hlen hr hm⟩
  | none =>
    have a1 := rankS_none l 0 h1 e hl
    have a2 := rankS_lt (dl := dl) (lab := lab) (x := x) v 0 h3 hv
    unfold rankW at hr
    rw [hlen] at hr a2
    omega
theorem okB_no {d : Dd} (h : ¬ d.Ok) : okB d = false := by
  cases q : okB d with
  | false => rfl
  | true => exact absurd (okB_ok.1 q) h
abbrev u64v (x : Nat) : Value := .int .u64 (x : Int)
/-- A word that is there, as Nth tells it. -/
def RNth (n : Nat) (l : List UInt8) : Value → World → Prop := fun v w => ∃ a c, v = .tuple #[.slice a n c, .bool true, .nilIface] ∧ Bytes w (.slice a n c) l
theorem RNth_mono (n : Nat) (l : List UInt8) : G.Mono Ext (RNth n l) := fun _ _ _ hx ⟨a, c, e, hb⟩ => ⟨a, c, e, hb.ext hx⟩
theorem nth_there (d : Dd) (v : Value) (x ki : Int) (k lw : Nat) (W : List Nat) (w : World) (hki : ki = (k : Int)) (hlw : W.length = lw) (hd : d.Ok) (h : Dns w v d) (hx : -1 ≤ x) (hx2 : x ≤ 9223372036854775807) (hk : k < T64) (hn : nthW d.to d.lab x k = some W) :
    Calls Tryd.prog 35 #[v, .int .i64 x, .int .u64 ki] w fun e w' => ∃ a c, e = .returned (.tuple #[.slice a lw c, .bool true, .nilIface]) ∧ Bytes w' (.slice a lw c) (W.map UInt8.ofNat) ∧ Ext w w' := by
  subst hlw hki
  have H := nthc_ok d v x k w hd h hx hx2 hk
  obtain ⟨s1, s2, _⟩ := nth_spec hn
  rw [hn] at H
  refine H.mono ?_
  rintro e w' ⟨u, b, rfl, ⟨rfl, ho⟩, hE⟩
  have hb := own_bytes ho (by omega) s2
  obtain ⟨a, c, rfl⟩ := own_shp ho
  exact ⟨a, c, rfl, hb, hE⟩
theorem nth_not (d : Dd) (v : Value) (x ki : Int) (k : Nat) (w : World) (hki : ki = (k : Int)) (hd : d.Ok) (h : Dns w v d) (hx : -1 ≤ x) (hx2 : x ≤ 9223372036854775807) (hk : k < T64) (hn : nthW d.to d.lab x k = none) :
    Calls Tryd.prog 35 #[v, .int .i64 x, .int .u64 ki] w fun e w' => e = .returned (.tuple #[.slice none 0 0, .bool false, .nilIface]) ∧ Ext w w' := by
  subst hki
  have H := nthc_ok d v x k w hd h hx hx2 hk
  rw [hn] at H
  refine H.mono ?_
  rintro e w' ⟨u, b, rfl, ⟨rfl, rfl⟩, hE⟩
  exact ⟨rfl, hE⟩
theorem rank_back (d : Dd) (v t : Value) (x : Int) (k : Nat) (W : List Nat) (w : World) (hd : d.Ok) (h : Dns w v d) (hx : -1 ≤ x) (hx2 : x ≤ 9223372036854775807) (hk : k < T64) (hn : nthW d.to d.lab x k = some W) (ht : Bytes w t (W.map UInt8.ofNat)) :
    Calls Tryd.prog 36 #[v, .int .i64 x, t] w fun e w' => e = .returned (.tuple #[.int .u64 (k : Int), .bool true, .nilIface]) ∧ Ext w w' := by
  obtain ⟨s1, s2, s3, s4⟩ := nth_spec hn
  have H := rankc_ok d v t x _ w hd h hx hx2 ht (by rw [List.length_map]; exact s1)
  rw [txw_of s2, s3, s4] at H
  have hr : rkv k (decide (x = x)) = .tuple #[.int .u64 (k : Int), .bool true, .nilIface] := if_pos ⟨decide_eq_true rfl, hk⟩
  rw [hr] at H
  exact H
theorem lab_back (d : Dd) (v t : Value) (x : Int) (k : Nat) (W : List Nat) (w : World) (hd : d.Ok) (h : Dns w v d) (hn : nthW d.to d.lab x k = some W) (ht : Bytes w t (W.map UInt8.ofNat)) :
    Calls Tryd.prog 37 #[v, t] w fun e w' => e = .returned (.int .i64 x) ∧ Ext w w' := by
  obtain ⟨_, s2, s3, _⟩ := nth_spec hn
  have H := label14_any d v t _ w hd h ht
  rw [txw_of s2, s3] at H
  exact H
theorem ahead_back (d : Dd) (v u : Value) (x : Int) (k : Nat) (W V : List Nat) (w : World) (hn : nthW d.to d.lab x k = some W) (hn2 : nthW d.to d.lab x (k + 1) = some V) (hv : Bytes w v (W.map UInt8.ofNat)) (hu : Bytes w u (V.map UInt8.ofNat)) :
    Calls Tryd.prog 38 #[v, u] w fun e w' => e = .returned (.bool true) ∧ Ext w w' := by
  obtain ⟨_, s2, _, s4⟩ := nth_spec hn
  obtain ⟨_, r2, r3, r4⟩ := nth_spec hn2
  exact ahead_any v u _ _ w hv hu (by rw [txw_of s2, txw_of r2]; exact ahead_of_rank (dl := d.to) (lab := d.lab) (x := x) s2 r2 r3 (by omega))
theorem between_back (d : Dd) (a b kk v u : Value) (x : Int) (k : Nat) (W V : List Nat) (w : World) (hd : d.Ok) (h1 : Rws w a d.nx) (h2 : Ints w b d.lb) (hk : ∃ p n c, kk = .slice p n c) (hn : nthW d.to d.lab x k = some W) (hn2 : nthW d.to d.lab x (k + 1) = some V)
    (hv : Bytes w v (W.map UInt8.ofNat)) (hu : Bytes w u (V.map UInt8.ofNat)) (hlen : V.length = W.length) :
    Calls Tryd.prog 39 #[.agg #[a, b, .int .i64 x, kk], v, u] w fun e w' => e = .returned (.bool true) ∧ Ext w w' := by
  obtain ⟨s1, s2, s3, s4⟩ := nth_spec hn
  obtain ⟨_, r2, r3, r4⟩ := nth_spec hn2
  obtain ⟨q, q1, q2, q3⟩ := next_ok s2 r2 s3 r3 hlen (by omega)
  exact between_any d a b kk v u x _ _ q w hd h1 h2 hk hv hu (by rw [List.length_map]; exact s1) (by rw [txw_of s2]; exact q1) (by rw [txw_of r2]; exact q3) q2
theorem slc_cel {w : World} {a : Option Addr} {n cap i : Nat} {xs : List Value} (h : Slc w (.slice a n cap) n xs) (hi : i < xs.length) : ∃ b o, a = some ⟨b, o, none⟩ ∧ b < w.heap.size ∧ w.cell? ⟨b, o + i, none⟩ = some xs[i] := by
  obtain ⟨a', cap', e, h1, h2, h⟩ := h
  cases e
  rcases h with h | ⟨b, o, rfl, hb, h⟩
  · rw [h] at hi; simp at hi
  · exact ⟨b, o, rfl, hb, by rw [h i hi, List.getElem?_eq_getElem hi]⟩
set_option maxHeartbeats 8000000 in
set_option maxRecDepth 20000 in
theorem back_any (d : Dd) (a b kk : Value) (x : Int) (ks : List Nat) (w : World) (h1 : Rws w a d.nx) (h2 : Ints w b d.lb) (hk : Slc w kk ks.length (ks.map u64v)) (hk64 : ∀ k ∈ ks, k < T64) (hx2 : x ≤ 9223372036854775807) :
    Calls Tryd.prog 9 #[.agg #[a, b, .int .i64 x, kk]] w fun e w' => e = .returned (.bool true) ∧ Ext w w' := by
  obtain ⟨p, cap, rfl, _⟩ := h1.shape
  obtain ⟨p2, cap2, rfl, _⟩ := h2.shape
  have hk' := hk
  obtain ⟨p3, c3, rfl, _, hk1, _⟩ := hk'
  obtain ⟨n, hn⟩ : ∃ n, d.nx.length = n := ⟨_, rfl⟩
  obtain ⟨lk, hlk⟩ : ∃ n, ks.length = n := ⟨_, rfl⟩
  rw [hlk] at hk hk1 ⊢
  rw [hn] at h1 ⊢
  generalize d.lb.length = n2 at *
  have HE := Lib.hid (ext_box w #[.slice p n cap, .slice p2 n2 cap2, .int .i64 x, .slice p3 lk c3] 74)
  have HBX := Lib.hid (Blk.new w #[.slice p n cap, .slice p2 n2 cap2, .int .i64 x, .slice p3 lk c3] 74)
  have HR := Lib.hid (h1.ext HE.out)
  have HI := Lib.hid (h2.ext HE.out)
  have HD := Lib.hid ((show Dns w (.agg #[.slice p n cap, .slice p2 n2 cap2]) d from ⟨_, _, rfl, h1, h2⟩).ext HE.out)
  have HK := Lib.hid (hk.ext HE.out)
  have HN := Lib.hid hn
  have HLK := Lib.hid hlk
  have HK64 := Lib.hid hk64
  clear h1 h2 hk hn hlk hk64
  by_cases q1 : 40 < n
  · have t1 : decide ((40 : Int) < n) = true := by simp; omega
    clear q1
    go_enter Tryd.func9, Tryd.ntmps9
    generalize hw0 : w.alloc (.cells #[.slice p n cap, .slice p2 n2 cap2, .int .i64 x, .slice p3 lk c3] 74) = w0 at HE HBX HD
    have z0 := HBX.out.cell 0
    go_wp2_with fail
    refine (wakes14_any _).mono ?_; rintro e w1 ⟨rfl, E1⟩
    have E1 := Lib.hid E1
    go_wp2_with fail
    go_ret
    exact ⟨rfl, bel_call HE.out E1.out⟩
  have t1 : decide ((40 : Int) < n) = false := by simp; omega
  have C1 := may_any d _ _ HD.out
  by_cases hd : d.Ok
  rotate_left
  · rw [okB_no hd] at C1
    have C1 := Lib.hid C1
    clear hd
    go_enter Tryd.func9, Tryd.ntmps9
    generalize hw0 : w.alloc (.cells #[.slice p n cap, .slice p2 n2 cap2, .int .i64 x, .slice p3 lk c3] 74) = w0 at HE HBX HD C1
    have z0 := HBX.out.cell 0
    have z1 := HBX.out.cell 1
    go_wp2_with fail
    refine C1.out.mono ?_; rintro e w1 ⟨rfl, E1⟩
    have E1 := Lib.hid E1
    go_wp2_with fail
    refine (wakes14_any _).mono ?_; rintro e w2 ⟨rfl, E2⟩
    have E2 := Lib.hid E2
    go_wp2_with fail
    go_ret
    exact ⟨rfl, bel_call HE.out (bel_call E1.out E2.out)⟩
  rw [okB_ok.2 hd] at C1
  have C1 := Lib.hid C1
  have HO := Lib.hid hd
  clear hd q1
  by_cases qx : x < -1
  · have t2 : decide (x < -1) = true := decide_eq_true qx
    clear qx
    go_enter Tryd.func9, Tryd.ntmps9
    generalize hw0 : w.alloc (.cells #[.slice p n cap, .slice p2 n2 cap2, .int .i64 x, .slice p3 lk c3] 74) = w0 at HE HBX HD C1
    have z0 := HBX.out.cell 0
    have z1 := HBX.out.cell 1
    go_wp2_with fail
    refine C1.out.mono ?_; rintro e w1 ⟨rfl, E1⟩
    have z2 := (HBX.out.ext E1).cell 2
    have E1 := Lib.hid E1
    go_wp2_with fail
    refine (wakes14_any _).mono ?_; rintro e w2 ⟨rfl, E2⟩
    have E2 := Lib.hid E2
    go_wp2_with fail
    go_ret
    exact ⟨rfl, bel_call HE.out (bel_call E1.out E2.out)⟩
  have t2 : decide (x < -1) = false := decide_eq_false qx
  have hx1 : -1 ≤ x := by omega
  have HX := Lib.hid (And.intro hx1 hx2)
  clear qx hx1 hx2
  go_enter Tryd.func9, Tryd.ntmps9
  generalize hw0 : w.alloc (.cells #[.slice p n cap, .slice p2 n2 cap2, .int .i64 x, .slice p3 lk c3] 74) = w0 at HE HBX HD C1 HK HR HI
  have z0 := HBX.out.cell 0
  have z1 := HBX.out.cell 1
  go_wp2_with fail
  refine C1.out.mono ?_; rintro e w1 ⟨rfl, E1⟩
  have HBX1 := Lib.hid (HBX.out.ext E1)
  have HD1 := Lib.hid (HD.out.ext E1)
  have HK1 := Lib.hid (HK.out.ext E1)
  have HR1 := Lib.hid (HR.out.ext E1)
  have HI1 := Lib.hid (HI.out.ext E1)
  have E1' := Lib.hid (bel_call HE.out E1)
  have z2 := HBX1.out.cell 2
  clear HE C1 HBX HD HK E1 z0 z1 HR HI
  go_wp2_with fail
  clear z2
  go_loopw [3] (fun s3 wr => ∃ i : Nat, i ≤ lk ∧ i ≤ 4 ∧ s3 = .int .i64 (i : Int) ∧ Hid (Ext w1 wr)) (fun s3 _ => 4 - (intOf s3).toNat)
  case atStart => exact ⟨0, by omega, by omega, rfl, Lib.hid (Below.refl _ _)⟩
  case round =>
    obtain ⟨i, hi1, hi4, rfl, hEr⟩ := hrel
    have z3 := (HBX1.out.ext hEr.out).cell 3
    by_cases hil : i < lk
    rotate_left
    · have t7 : decide ((i : Int) < (lk : Int)) = false := by simp; omega
      go_wp2_with fail
      refine (wakes14_any _).mono ?_; rintro e w2 ⟨rfl, E2⟩
      have E2 := Lib.hid (bel_call (bel_call E1'.out hEr.out) E2)
      go_wp2_with fail
      go_ret
      exact ⟨rfl, E2.out⟩
    have t7 : decide ((i : Int) < (lk : Int)) = true := by simp; omega
    by_cases hi3 : i < 4
    rotate_left
    · have t8 : decide ((i : Int) < 4) = false := by simp; omega
      go_wp2_with fail
      refine (wakes14_any _).mono ?_; rintro e w2 ⟨rfl, E2⟩
      have E2 := Lib.hid (bel_call (bel_call E1'.out hEr.out) E2)
      go_wp2_with fail
      go_ret
      exact ⟨rfl, E2.out⟩
    have t8 : decide ((i : Int) < 4) = true := by simp; omega
    have hik : i < ks.length := by rw [HLK.out]; exact hil
    obtain ⟨bK, oK, rfl, hbK, hcK⟩ := slc_cel HK1.out (i := i) (by rw [List.length_map]; exact hik)
    rw [List.getElem_map] at hcK
    have hkt := HK64.out ks[i] (List.getElem_mem hik)
    obtain ⟨k, hkk⟩ : ∃ k, ks[i] = k := ⟨_, rfl⟩
    rw [hkk] at hcK hkt
    have HCK := Lib.hid hcK
    have HKT := Lib.hid hkt
    clear hik hkk hcK hkt
    have HBR := Lib.hid (HBX1.out.ext hEr.out)
    have HDR := Lib.hid (HD1.out.ext hEr.out)
    have HCR := Lib.hid ((hEr.out.cell (p := ⟨bK, oK + i, none⟩) hbK).trans HCK.out)
    have hbR : bK < wr.heap.size := Nat.lt_of_lt_of_le hbK hEr.out.size
    go_upto_region 6 with fail
    cases hW : nthW d.to d.lab x k with
    | none =>
      have CN := Lib.hid (fun (w' : World) (hx : Ext wr w') => nth_not d _ x (k : Int) k w' rfl HO.out (HDR.out.ext hx) HX.out.1 HX.out.2 HKT.out hW)
      clear hW
      refine G.wp_region_stab (G := Ext) (fun _ => none) (by kernel_rfl) (by kernel_rfl) (fun _ _ h => by cases h) (fun hex => ?_)
      iterate 17
        (refine G.wpS_one (A := ?_) hex rfl rfl (by simp) ?_ ?_ ?_
         rotate_left 2
         · intro w' hC K hK
           have hCx := hC.1; have z0 := (HBR.out.ext hCx).cell 0; have z1 := (HBR.out.ext hCx).cell 1; have z2 := (HBR.out.ext hCx).cell 2; have z3 := (HBR.out.ext hCx).cell 3; have c0 := (hCx.cell (p := ⟨bK, oK + i, none⟩) hbR).trans HCR.out
           go_wp2_with (go_at_call 35; with_reducible refine (CN.out w' hCx).mono ?_; rintro e w9 ⟨rfl, x9⟩)
           refine hK _ ?_
           first | exact Below.refl _ _ | assumption | ((repeat' (first | (with_reducible exact Below.refl _ _) | (with_reducible assumption) | (with_reducible refine below_drewN ?_ _) | (with_reducible refine Below.alloc ?_ ?_ _) | (with_reducible refine Below.drew ?_) | (with_reducible refine Below.setCell ?_ ?_ _) | (with_reducible refine Below.trans ?_ (Below.mono (by with_reducible assumption) ?_)) | go_size)))
         rotate_left 1
         · rfl
         clear hex; intro hex)
      refine G.wpS_nil fun w9 hAll => ?_
      have hE := hAll.1
      have E9 := Lib.hid (bel_call hEr.out hE)
      clear hAll hex hE CN
      go_wp2_with fail
      go_roundw
      case rel => exact ⟨i + 1, by omega, by omega, by go_num, E9⟩
      case measure => simp [intOf]; omega
    | some W =>
      obtain ⟨lw, hlw⟩ : ∃ n, W.length = n := ⟨_, rfl⟩
      have hl64 : lw ≤ 64 := by rw [← hlw]; exact (nth_spec hW).1
      have CN := Lib.hid (fun (w' : World) (hx : Ext wr w') => nth_there d _ x (k : Int) k lw W w' rfl hlw HO.out (HDR.out.ext hx) HX.out.1 HX.out.2 HKT.out hW)
      have HW := Lib.hid hW
      have HLW := Lib.hid hlw
      clear hW hlw
      refine G.wp_region_stab (G := Ext) (RsF4 [(9, RNth lw (W.map UInt8.ofNat))]) (by kernel_rfl) (by kernel_rfl) (RsF4_mono (by simp only [List.forall_mem_cons, List.not_mem_nil, false_implies, implies_true, and_true]; exact RNth_mono _ _)) (fun hex => ?_)
      iterate 9
        (refine G.wpS_one (A := ?_) hex rfl rfl (by simp) ?_ ?_ ?_
         rotate_left 2
         · intro w' hC K hK
           have hCx := hC.1; have z0 := (HBR.out.ext hCx).cell 0; have z1 := (HBR.out.ext hCx).cell 1; have z2 := (HBR.out.ext hCx).cell 2; have z3 := (HBR.out.ext hCx).cell 3; have c0 := (hCx.cell (p := ⟨bK, oK + i, none⟩) hbR).trans HCR.out
           go_wp2_with (fail)
           refine hK _ ?_
           first | exact Below.refl _ _ | assumption | ((repeat' (first | (with_reducible exact Below.refl _ _) | (with_reducible assumption) | (with_reducible refine below_drewN ?_ _) | (with_reducible refine Below.alloc ?_ ?_ _) | (with_reducible refine Below.drew ?_) | (with_reducible refine Below.setCell ?_ ?_ _) | (with_reducible refine Below.trans ?_ (Below.mono (by with_reducible assumption) ?_)) | go_size)))
         rotate_left 1
         · rfl
         clear hex; intro hex)
      refine G.wpS_rel (RNth lw (W.map UInt8.ofNat)) rfl rfl (by simp) (by first | rfl | (simp [Region.wanted, yielded]; done)) ?_ ?_
      · intro w' hC K hK
        simp only [Act.put, List.setIfInBounds_toArray, List.set_cons_succ, List.set_cons_zero] at hK
        have hCx := hC.1
        go_wp2_with (go_at_call 35; with_reducible refine (CN.out w' hCx).mono ?_; rintro e w9 ⟨a9, c9, rfl, hb9, x9⟩)
        refine hK _ _ ?_ ?_
        · first | exact Below.refl _ _ | assumption | ((repeat' (first | (with_reducible exact Below.refl _ _) | (with_reducible assumption) | (with_reducible refine below_drewN ?_ _) | (with_reducible refine Below.alloc ?_ ?_ _) | (with_reducible refine Below.drew ?_) | (with_reducible refine Below.setCell ?_ ?_ _) | (with_reducible refine Below.trans ?_ (Below.mono (by with_reducible assumption) ?_)) | go_size)))
        · exact ⟨a9, c9, rfl, hb9⟩
      clear hex
      intro v9 w' hex hv9
      replace hex := Exists.intro w' hex
      simp only [Act.put, List.setIfInBounds_toArray, List.set_cons_succ, List.set_cons_zero]
      obtain ⟨a9, c9, rfl, -⟩ := hv9
      iterate 7
        (refine G.wpS_one (A := ?_) hex rfl rfl (by simp) ?_ ?_ ?_
         rotate_left 2
         · intro w' hC K hK
           go_wp2_with (fail)
           refine hK _ ?_
           first | exact Below.refl _ _ | assumption | ((repeat' (first | (with_reducible exact Below.refl _ _) | (with_reducible assumption) | (with_reducible refine below_drewN ?_ _) | (with_reducible refine Below.alloc ?_ ?_ _) | (with_reducible refine Below.drew ?_) | (with_reducible refine Below.setCell ?_ ?_ _) | (with_reducible refine Below.trans ?_ (Below.mono (by with_reducible assumption) ?_)) | go_size)))
         rotate_left 1
         · rfl
         clear hex; intro hex)
      refine G.wpS_nil fun w9 hAll => ?_
      have hE := hAll.1
      obtain ⟨a8, c8, e8, hb8⟩ := (hAll.2 9).1 rfl
      cases e8
      have E9 := Lib.hid (bel_call hEr.out hE)
      have HB9 := Lib.hid (HBR.out.ext hE)
      have HD9 := Lib.hid (HDR.out.ext hE)
      have HC9 := Lib.hid ((hE.cell (p := ⟨bK, oK + i, none⟩) hbR).trans HCR.out)
      have HW9 := Lib.hid hb8
      have hb9 : bK < w9.heap.size := Nat.lt_of_lt_of_le hbR hE.size
      clear hAll hex hE CN hb8 z3 HBR HDR HCR hbR
      have z0 := HB9.out.cell 0
      have z1 := HB9.out.cell 1
      have z2 := HB9.out.cell 2
      go_wp2_with fail
      refine (rank_back d _ _ x k W w9 HO.out HD9.out HX.out.1 HX.out.2 HKT.out HW.out HW9.out).mono ?_
      rintro e w10 ⟨rfl, e10⟩
      have E10 := Lib.hid (bel_call E9.out e10)
      have HB10 := Lib.hid (HB9.out.ext e10)
      have HD10 := Lib.hid (HD9.out.ext e10)
      have HC10 := Lib.hid ((e10.cell (p := ⟨bK, oK + i, none⟩) hb9).trans HC9.out)
      have HW10 := Lib.hid (HW9.out.ext e10)
      have hb10 : bK < w10.heap.size := Nat.lt_of_lt_of_le hb9 e10.size
      have CL := Lib.hid (fun (w' : World) (hx : Ext w10 w') => lab_back d _ _ x k W w' HO.out (HD10.out.ext hx) HW.out (HW10.out.ext hx))
      have t9 : decide ((64 : Int) < lw) = false := by simp; omega
      clear z0 z1 z2 e10 E9 HB9 HD9 HC9 HW9 hb9
      go_upto_region 11 with fail
      refine G.wp_region_stab (G := Ext) (fun _ => none) (by kernel_rfl) (by kernel_rfl) (fun _ _ h => by cases h) (fun hex => ?_)
      iterate 29
        (refine G.wpS_one (A := ?_) hex rfl rfl (by simp) ?_ ?_ ?_
         rotate_left 2
         · intro w' hC K hK
           have hCx := hC.1; have z0 := (HB10.out.ext hCx).cell 0; have z1 := (HB10.out.ext hCx).cell 1; have z2 := (HB10.out.ext hCx).cell 2; have z3 := (HB10.out.ext hCx).cell 3; have c0 := (hCx.cell (p := ⟨bK, oK + i, none⟩) hb10).trans HC10.out
           go_wp2_with (go_at_call 37; with_reducible refine (CL.out w' hCx).mono ?_; rintro e w9 ⟨rfl, x9⟩)
           refine hK _ ?_
           first | exact Below.refl _ _ | assumption | ((repeat' (first | (with_reducible exact Below.refl _ _) | (with_reducible assumption) | (with_reducible refine below_drewN ?_ _) | (with_reducible refine Below.alloc ?_ ?_ _) | (with_reducible refine Below.drew ?_) | (with_reducible refine Below.setCell ?_ ?_ _) | (with_reducible refine Below.trans ?_ (Below.mono (by with_reducible assumption) ?_)) | go_size)))
         rotate_left 1
         · rfl
         clear hex; intro hex)
      refine G.wpS_nil fun w11 hAll => ?_
      have hE := hAll.1
      have E11 := Lib.hid (bel_call E10.out hE)
      have HB11 := Lib.hid (HB10.out.ext hE)
      have HD11 := Lib.hid (HD10.out.ext hE)
      have HC11 := Lib.hid ((hE.cell (p := ⟨bK, oK + i, none⟩) hb10).trans HC10.out)
      have HW11 := Lib.hid (HW10.out.ext hE)
      have hb11 : bK < w11.heap.size := Nat.lt_of_lt_of_le hb10 hE.size
      clear hAll hex hE CL E10 HB10 HD10 HC10 HW10 hb10 t9
      have z3 := HB11.out.cell 3
      have c0 := HC11.out
      by_cases hkl : k = 18446744073709551615
      · have t9 : ((k : Int) == 18446744073709551615) = true := by simp only [beq_iff_eq]; omega
        clear hkl
        go_wp2_with fail
        go_roundw
        case rel => exact ⟨i + 1, by omega, by omega, by go_num, E11⟩
        case measure => simp [intOf]; omega
      have t9 : ((k : Int) == 18446744073709551615) = false := by simp only [beq_eq_false_iff_ne, ne_eq]; omega
      have hk18 : k + 1 < 18446744073709551616 := by have := HKT.out; unfold T64 at this; omega
      have HK18 := Lib.hid (show k + 1 < T64 by unfold T64; exact hk18)
      clear hkl
      go_upto_region 14 with fail
      clear z3 c0 t9
      cases hV : nthW d.to d.lab x (k + 1) with
      | none =>
        have CN := Lib.hid (fun (w' : World) (hx : Ext w11 w') => nth_not d _ x ((k : Int) + 1) (k + 1) w' (by simp) HO.out (HD11.out.ext hx) HX.out.1 HX.out.2 HK18.out hV)
        clear hV
        refine G.wp_region_stab (G := Ext) (fun _ => none) (by kernel_rfl) (by kernel_rfl) (fun _ _ h => by cases h) (fun hex => ?_)
        iterate 18
          (refine G.wpS_one (A := ?_) hex rfl rfl (by simp) ?_ ?_ ?_
           rotate_left 2
           · intro w' hC K hK
             have hCx := hC.1; have z0 := (HB11.out.ext hCx).cell 0; have z1 := (HB11.out.ext hCx).cell 1; have z2 := (HB11.out.ext hCx).cell 2; have z3 := (HB11.out.ext hCx).cell 3; have c0 := (hCx.cell (p := ⟨bK, oK + i, none⟩) hb11).trans HC11.out
             go_wp2_with (go_at_call 35; with_reducible refine (CN.out w' hCx).mono ?_; rintro e w9 ⟨rfl, x9⟩)
             refine hK _ ?_
             first | exact Below.refl _ _ | assumption | ((repeat' (first | (with_reducible exact Below.refl _ _) | (with_reducible assumption) | (with_reducible refine below_drewN ?_ _) | (with_reducible refine Below.alloc ?_ ?_ _) | (with_reducible refine Below.drew ?_) | (with_reducible refine Below.setCell ?_ ?_ _) | (with_reducible refine Below.trans ?_ (Below.mono (by with_reducible assumption) ?_)) | go_size)))
           rotate_left 1
           · rfl
           clear hex; intro hex)
        refine G.wpS_nil fun w12 hAll => ?_
        have hE := hAll.1
        have E12 := Lib.hid (bel_call E11.out hE)
        clear hAll hex hE CN
        go_wp2_with fail
        go_roundw
        case rel => exact ⟨i + 1, by omega, by omega, by go_num, E12⟩
        case measure => simp [intOf]; omega
      | some V =>
        obtain ⟨lv, hlv⟩ : ∃ n, V.length = n := ⟨_, rfl⟩
        have hv64 : lv ≤ 64 := by rw [← hlv]; exact (nth_spec hV).1
        have CN := Lib.hid (fun (w' : World) (hx : Ext w11 w') => nth_there d _ x ((k : Int) + 1) (k + 1) lv V w' (by simp) hlv HO.out (HD11.out.ext hx) HX.out.1 HX.out.2 HK18.out hV)
        have HV := Lib.hid hV
        have HLV := Lib.hid hlv
        clear hV hlv
        refine G.wp_region_stab (G := Ext) (RsF4 [(10, RNth lv (V.map UInt8.ofNat))]) (by kernel_rfl) (by kernel_rfl) (RsF4_mono (by simp only [List.forall_mem_cons, List.not_mem_nil, false_implies, implies_true, and_true]; exact RNth_mono _ _)) (fun hex => ?_)
        iterate 10
          (refine G.wpS_one (A := ?_) hex rfl rfl (by simp) ?_ ?_ ?_
           rotate_left 2
           · intro w' hC K hK
             have hCx := hC.1; have z0 := (HB11.out.ext hCx).cell 0; have z1 := (HB11.out.ext hCx).cell 1; have z2 := (HB11.out.ext hCx).cell 2; have z3 := (HB11.out.ext hCx).cell 3; have c0 := (hCx.cell (p := ⟨bK, oK + i, none⟩) hb11).trans HC11.out
             go_wp2_with (fail)
             refine hK _ ?_
             first | exact Below.refl _ _ | assumption | ((repeat' (first | (with_reducible exact Below.refl _ _) | (with_reducible assumption) | (with_reducible refine below_drewN ?_ _) | (with_reducible refine Below.alloc ?_ ?_ _) | (with_reducible refine Below.drew ?_) | (with_reducible refine Below.setCell ?_ ?_ _) | (with_reducible refine Below.trans ?_ (Below.mono (by with_reducible assumption) ?_)) | go_size)))
           rotate_left 1
           · rfl
           clear hex; intro hex)
        refine G.wpS_rel (RNth lv (V.map UInt8.ofNat)) rfl rfl (by simp) (by first | rfl | (simp [Region.wanted, yielded]; done)) ?_ ?_
        · intro w' hC K hK
          simp only [Act.put, List.setIfInBounds_toArray, List.set_cons_succ, List.set_cons_zero] at hK
          have hCx := hC.1
          go_wp2_with (go_at_call 35; with_reducible refine (CN.out w' hCx).mono ?_; rintro e w9 ⟨a7, c7, rfl, hb7, x9⟩)
          refine hK _ _ ?_ ?_
          · first | exact Below.refl _ _ | assumption | ((repeat' (first | (with_reducible exact Below.refl _ _) | (with_reducible assumption) | (with_reducible refine below_drewN ?_ _) | (with_reducible refine Below.alloc ?_ ?_ _) | (with_reducible refine Below.drew ?_) | (with_reducible refine Below.setCell ?_ ?_ _) | (with_reducible refine Below.trans ?_ (Below.mono (by with_reducible assumption) ?_)) | go_size)))
          · exact ⟨a7, c7, rfl, hb7⟩
        clear hex
        intro v9 w' hex hv9
        replace hex := Exists.intro w' hex
        simp only [Act.put, List.setIfInBounds_toArray, List.set_cons_succ, List.set_cons_zero]
        obtain ⟨a7, c7, rfl, -⟩ := hv9
        iterate 7
          (refine G.wpS_one (A := ?_) hex rfl rfl (by simp) ?_ ?_ ?_
           rotate_left 2
           · intro w' hC K hK
             go_wp2_with (fail)
             refine hK _ ?_
             first | exact Below.refl _ _ | assumption | ((repeat' (first | (with_reducible exact Below.refl _ _) | (with_reducible assumption) | (with_reducible refine below_drewN ?_ _) | (with_reducible refine Below.alloc ?_ ?_ _) | (with_reducible refine Below.drew ?_) | (with_reducible refine Below.setCell ?_ ?_ _) | (with_reducible refine Below.trans ?_ (Below.mono (by with_reducible assumption) ?_)) | go_size)))
           rotate_left 1
           · rfl
           clear hex; intro hex)
        refine G.wpS_nil fun w12 hAll => ?_
        have hE := hAll.1
        obtain ⟨a6, c6, e6, hb6⟩ := (hAll.2 10).1 rfl
        cases e6
        have E12 := Lib.hid (bel_call E11.out hE)
        have HB12 := Lib.hid (HB11.out.ext hE)
        have HR12 := Lib.hid ((HR1.out.ext E11.out).ext hE)
        have HI12 := Lib.hid ((HI1.out.ext E11.out).ext hE)
        have HW12 := Lib.hid (HW11.out.ext hE)
        have HV12 := Lib.hid hb6
        clear hAll hex hE CN hb6 HB11 HD11 HC11 HW11 hb11 hk18
        go_wp2_with fail
        refine (ahead_back d _ _ x k W V w12 HW.out HV.out HW12.out HV12.out).mono ?_
        rintro e w13 ⟨rfl, e13⟩
        have E13 := Lib.hid (bel_call E12.out e13)
        have HB13 := HB12.out.ext e13
        have HR13 := Lib.hid (HR12.out.ext e13)
        have HI13 := Lib.hid (HI12.out.ext e13)
        have HW13 := Lib.hid (HW12.out.ext e13)
        have HV13 := Lib.hid (HV12.out.ext e13)
        have z0 := HB13.cell 0
        have z1 := HB13.cell 1
        have z2 := HB13.cell 2
        have z3 := HB13.cell 3
        clear e13 E12 HB12 HR12 HI12 HW12 HV12 HB13
        by_cases hll : lv = lw
        · have t10 : ((lv : Int) == (lw : Int)) = true := by simp only [beq_iff_eq]; omega
          have HLL := Lib.hid hll
          clear hll
          go_wp2_with fail
          refine (between_back d _ _ _ _ _ x k W V w13 HO.out HR13.out HI13.out ⟨_, _, _, rfl⟩ HW.out HV.out HW13.out HV13.out (by rw [HLV.out, HLW.out, HLL.out])).mono ?_
          rintro e w14 ⟨rfl, e14⟩
          have E14 := Lib.hid (bel_call E13.out e14)
          clear z0 z1 z2 z3 e14
          go_wp2_with fail
          go_roundw
          case rel => exact ⟨i + 1, by omega, by omega, by go_num, E14⟩
          case measure => simp [intOf]; omega
        · have t10 : ((lv : Int) == (lw : Int)) = false := by simp only [beq_eq_false_iff_ne, ne_eq]; omega
          clear hll
          go_wp2_with fail
          go_roundw
          case rel => exact ⟨i + 1, by omega, by omega, by go_num, E13⟩
          case measure => simp [intOf]; omega
end Go.Proofs.YtniamfaiamgncaaDoor
