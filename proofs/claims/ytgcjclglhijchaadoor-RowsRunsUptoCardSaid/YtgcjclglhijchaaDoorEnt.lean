/- rows.Entry. -/
import Derived.Test.YtgcjclglhijchaaDoorRck
import Derived.Test.YtgcjclglhijchaaDoorBud
namespace Go.Proofs.YtgcjclglhijchaaDoor
open Go Go.RowKit
set_option maxHeartbeats 2000000 in
set_option maxRecDepth 20000 in
theorem entry_ok (t : Tb) (s b : Nat) (v : Value) (w : World) (h : Tbm w v t) (ht : t.Ok) (hs : s < t.nx.length) (hb : b < 256) :
    Calls Tryd.prog 21 #[v, .int .i64 (s : Int), .int .u8 (b : Int)] w fun e w' => e = .returned (.tuple #[.int .i64 (t.ent s b), .nilIface]) ∧ Ext w w' := by
  have h0 := h
  obtain ⟨p1, k1, p2, k2, p3, k3, p4, k4, rfl, h1, h2, h3, h4, l1, l2, l3, l4⟩ := h.box
  have hE := ext_bx5 w (.slice p1 t.cl.length k1) (.int .i64 t.cn) (.slice p2 t.st.length k2) (.slice p3 t.nx.length k3) (.slice p4 t.lb.length k4) 29
  have HBX := Lib.hid (Blk.new w #[.slice p1 t.cl.length k1, .int .i64 t.cn, .slice p2 t.st.length k2, .slice p3 t.nx.length k3, .slice p4 t.lb.length k4] 29)
  have hcl : b < t.cl.length := by rw [ht.cl]; exact hb
  obtain ⟨b1, o1, rfl, hb1, hc1, -, -⟩ := h1.cell hcl
  have hrange := clsK_get _ _ _ (by omega) ht.cn _ (List.getElem_mem hcl)
  obtain ⟨b3, o3, a5, c5, rfl, hb3, hc3, hI5, -⟩ := h3.cell hs
  have hrow := (ht.row _ (List.getElem_mem hs)).1
  obtain ⟨j, hj⟩ : ∃ j : Nat, t.cl[b] = (j : Int) := ⟨t.cl[b].toNat, by omega⟩
  have hjl : j < t.nx[s].length := by omega
  obtain ⟨b5, o5, rfl, hb5, hc5, -, -⟩ := hI5.cell hjl
  have hent : t.ent s b = t.nx[s][j] := by
    unfold Tb.ent
    rw [getD_get hs, getD_get hcl, hj, Int.toNat_natCast, getD_get hjl]
  rw [hent]
  rw [hj] at hc1
  have C1 := checkt_any t _ _ (h0.ext hE)
  rw [mayT_ok.2 ht] at C1
  have C1 := Lib.hid C1
  have C2 := Lib.hid (fun w' (hx : Ext _ w') => isstate_any t (s : Int) _ w' ((h0.ext hE).ext hx))
  rw [show stB t.nx.length (s : Int) = true from stB_iff.2 ⟨by omega, by omega⟩] at C2
  have HC1 := Lib.hid hc1
  have HC3 := Lib.hid hc3
  have HC5 := Lib.hid hc5
  have HE := Lib.hid hE
  have hcl256 : t.cl.length = 256 := ht.cl
  rw [hcl256] at HBX HE C1 C2
  generalize t.nx[s][j] = y at *
  obtain ⟨nx, hnx⟩ : ∃ nx, t.nx.length = nx := ⟨_, rfl⟩
  obtain ⟨n5, hn5⟩ : ∃ n5, t.nx[s].length = n5 := ⟨_, rfl⟩
  rw [hnx] at HBX HE C1 C2
  rw [hn5] at HC3 hjl
  have hsn : s < nx := by rw [← hnx]; exact hs
  rw [hnx, hcl256]
  clear h h0 h1 h2 h3 h4 l1 l2 l3 l4 hE hrange hrow hj hent hc1 hc3 hc5 hI5 ht hcl256 hnx hn5 hs hcl
  go_enter Tryd.func21, Tryd.ntmps21
  have z0 := HBX.out.cell 0
  have z1 := HBX.out.cell 1
  have z2 := HBX.out.cell 2
  have z3 := HBX.out.cell 3
  have z4 := HBX.out.cell 4
  go_wp2_with fail
  refine C1.out.mono ?_
  rintro e w1 ⟨rfl, x1⟩
  have X1 := Lib.hid x1
  have D2 := Lib.hid (C2.out w1 x1)
  clear x1 z0 z1 z2 z3 z4 C1
  have z0 := (HBX.out.ext X1.out).cell 0
  have z1 := (HBX.out.ext X1.out).cell 1
  have z2 := (HBX.out.ext X1.out).cell 2
  have z3 := (HBX.out.ext X1.out).cell 3
  have z4 := (HBX.out.ext X1.out).cell 4
  go_wp2_with fail
  refine D2.out.mono ?_
  rintro e w2 ⟨rfl, x2⟩
  have X2 := Lib.hid (bel_call X1.out x2)
  clear x2 z0 z1 z2 z3 z4 D2
  go_upto_region 3 with fail
  refine G.wp_region_stab (G := Ext) (fun _ => none) (by kernel_rfl) (by kernel_rfl) (fun _ _ h => by cases h) (fun hex => ?_)
  iterate 14
    (refine G.wpS_one (A := ?_) hex rfl rfl (by simp) ?_ ?_ ?_
     rotate_left 2
     · intro w' hC K hK
       have hX := bel_call X2.out hC.1; have q0 := (HBX.out.ext hX).cell 0; have q3 := (HBX.out.ext hX).cell 3; have hX9 := bel_call HE.out hX; have q1 := (hX9.cell (p := ⟨b1, o1 + b, none⟩) hb1).trans HC1.out; have q5 := (hX9.cell (p := ⟨b3, o3 + s, none⟩) hb3).trans HC3.out; have q6 := (hX9.cell (p := ⟨b5, o5 + j, none⟩) hb5).trans HC5.out
       go_wp2_with (fail)
       refine hK _ ?_
       first | exact Below.refl _ _ | assumption | ((repeat' (first | (with_reducible exact Below.refl _ _) | (with_reducible assumption) | (with_reducible refine below_drewN ?_ _) | (with_reducible refine Below.alloc ?_ ?_ _) | (with_reducible refine Below.drew ?_) | (with_reducible refine Below.setCell ?_ ?_ _) | (with_reducible refine Below.trans ?_ (Below.mono (by with_reducible assumption) ?_)) | go_size)))
     rotate_left 1
     · rfl
     clear hex; intro hex)
  refine G.wpS_nil fun w6 hAll => ?_
  have E6 := Lib.hid (bel_call HE.out (bel_call X2.out hAll.1))
  clear hAll hex
  go_wp2_with fail
  go_ret2
  exact ⟨rfl, E6.out⟩
set_option maxHeartbeats 2000000 in
set_option maxRecDepth 20000 in
theorem entry_no (t : Tb) (s : Int) (b : Nat) (aA : Addr) (v : Value) (w : World) (h : Tbm w v t) (hn : (mayT t && stB t.nx.length s) = false) (hA : Arg w aA) :
    Calls Tryd.prog 21 #[v, .int .i64 s, .int .u8 (b : Int)] w fun e w' => e = .returned (.tuple #[.int .i64 0, errAt aA]) ∧ Ext w w' := by
  have h0 := h
  obtain ⟨p1, k1, p2, k2, p3, k3, p4, k4, rfl, h1, h2, h3, h4, l1, l2, l3, l4⟩ := h.box
  have hE := ext_bx5 w (.slice p1 t.cl.length k1) (.int .i64 t.cn) (.slice p2 t.st.length k2) (.slice p3 t.nx.length k3) (.slice p4 t.lb.length k4) 29
  have HBX := Lib.hid (Blk.new w #[.slice p1 t.cl.length k1, .int .i64 t.cn, .slice p2 t.st.length k2, .slice p3 t.nx.length k3, .slice p4 t.lb.length k4] 29)
  have C1 := checkt_any t _ _ (h0.ext hE)
  have C2 := fun w' (hx : Ext _ w') => isstate_any t s _ w' ((h0.ext hE).ext hx)
  have HAG := Lib.hid (hA.ext hE)
  have HE := Lib.hid hE
  clear h h0 h1 h2 h3 h4 l1 l2 l3 l4 hE hA
  generalize t.cl.length = n1 at *
  generalize t.st.length = n2 at *
  generalize t.lb.length = n4 at *
  generalize t.cn = cn at *
  cases hm : mayT t
  · rw [hm] at C1
    have C1 := Lib.hid C1
    generalize t.nx.length = n at *
    clear hn hm C2
    go_enter Tryd.func21, Tryd.ntmps21
    have z0 := HBX.out.cell 0
    have z1 := HBX.out.cell 1
    have z2 := HBX.out.cell 2
    have z3 := HBX.out.cell 3
    have z4 := HBX.out.cell 4
    go_wp2_with fail
    refine C1.out.mono ?_
    rintro e w1 ⟨rfl, x1⟩
    have X1 := Lib.hid x1
    clear x1 z0 z1 z2 z3 z4 C1
    go_upto_region 2 with fail
    refine G.wp_region_stab (G := Ext) (fun _ => none) (by kernel_rfl) (by kernel_rfl) (fun _ _ h => by cases h) (fun hex => ?_)
    iterate 3
      (refine G.wpS_one (A := ?_) hex rfl rfl (by simp) ?_ ?_ ?_
       rotate_left 2
       · intro w' hC K hK
         have za := (HAG.out.ext (bel_call (X1.out) hC.1)).arg
         go_wp2_with (fail)
         refine hK _ ?_
         first | exact Below.refl _ _ | assumption | ((repeat' (first | (with_reducible exact Below.refl _ _) | (with_reducible assumption) | (with_reducible refine below_drewN ?_ _) | (with_reducible refine Below.alloc ?_ ?_ _) | (with_reducible refine Below.drew ?_) | (with_reducible refine Below.setCell ?_ ?_ _) | (with_reducible refine Below.trans ?_ (Below.mono (by with_reducible assumption) ?_)) | go_size)))
       rotate_left 1
       · rfl
       clear hex; intro hex)
    refine G.wpS_nil fun w6 hAll => ?_
    have E6 := Lib.hid (bel_call HE.out (bel_call (X1.out) hAll.1))
    clear hAll hex
    go_wp2_with fail
    go_ret2
    exact ⟨rfl, E6.out⟩
  · rw [hm, Bool.true_and] at hn
    rw [hm] at C1
    rw [hn] at C2
    have C1 := Lib.hid C1
    have C2 := Lib.hid C2
    generalize t.nx.length = n at *
    clear hn hm
    go_enter Tryd.func21, Tryd.ntmps21
    have z0 := HBX.out.cell 0
    have z1 := HBX.out.cell 1
    have z2 := HBX.out.cell 2
    have z3 := HBX.out.cell 3
    have z4 := HBX.out.cell 4
    go_wp2_with fail
    refine C1.out.mono ?_
    rintro e w1 ⟨rfl, x1⟩
    have X1 := Lib.hid x1
    have D2 := Lib.hid (C2.out w1 x1)
    clear x1 z0 z1 z2 z3 z4 C1
    have z0 := (HBX.out.ext X1.out).cell 0
    have z1 := (HBX.out.ext X1.out).cell 1
    have z2 := (HBX.out.ext X1.out).cell 2
    have z3 := (HBX.out.ext X1.out).cell 3
    have z4 := (HBX.out.ext X1.out).cell 4
    go_wp2_with fail
    refine D2.out.mono ?_
    rintro e w2 ⟨rfl, x2⟩
    have X2 := Lib.hid (bel_call X1.out x2)
    clear x2 z0 z1 z2 z3 z4 D2
    go_upto_region 2 with fail
    refine G.wp_region_stab (G := Ext) (fun _ => none) (by kernel_rfl) (by kernel_rfl) (fun _ _ h => by cases h) (fun hex => ?_)
    iterate 3
      (refine G.wpS_one (A := ?_) hex rfl rfl (by simp) ?_ ?_ ?_
       rotate_left 2
       · intro w' hC K hK
         have za := (HAG.out.ext (bel_call (X2.out) hC.1)).arg
         go_wp2_with (fail)
         refine hK _ ?_
         first | exact Below.refl _ _ | assumption | ((repeat' (first | (with_reducible exact Below.refl _ _) | (with_reducible assumption) | (with_reducible refine below_drewN ?_ _) | (with_reducible refine Below.alloc ?_ ?_ _) | (with_reducible refine Below.drew ?_) | (with_reducible refine Below.setCell ?_ ?_ _) | (with_reducible refine Below.trans ?_ (Below.mono (by with_reducible assumption) ?_)) | go_size)))
       rotate_left 1
       · rfl
       clear hex; intro hex)
    refine G.wpS_nil fun w6 hAll => ?_
    have E6 := Lib.hid (bel_call HE.out (bel_call (X2.out) hAll.1))
    clear hAll hex
    go_wp2_with fail
    go_ret2
    exact ⟨rfl, E6.out⟩
end Go.Proofs.YtgcjclglhijchaaDoor
