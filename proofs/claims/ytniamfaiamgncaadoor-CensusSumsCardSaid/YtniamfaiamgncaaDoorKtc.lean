/- Package census: Count, Nth, Rank of what may be. -/
import Derived.Test.YtniamfaiamgncaaDoorKtb
namespace Go.Proofs.YtniamfaiamgncaaDoor
open Go Go.RowKit
set_option maxHeartbeats 1000000 in
set_option maxRecDepth 20000 in
theorem maybe_ok (d : Dd) (v : Value) (x : Int) (w : World) (hd : d.Ok) (h : Dns w v d) (hx : -1 ≤ x) :
    Calls Tryd.prog 73 #[v, .int .i64 x] w fun e w' => e = .returned (.bool true) ∧ Ext w w' := by
  obtain ⟨a, b, rfl, h1, h2⟩ := h
  have h0 : Dns w (.agg #[a, b]) d := ⟨a, b, rfl, h1, h2⟩
  obtain ⟨p, cap, rfl, _⟩ := h1.shape
  obtain ⟨p2, cap2, rfl, _⟩ := h2.shape
  have hE := ext_box w #[.slice p d.nx.length cap, .slice p2 d.lb.length cap2] 25
  have HE := Lib.hid hE
  have HBX := Lib.hid (Blk.new w #[.slice p d.nx.length cap, .slice p2 d.lb.length cap2] 25)
  have C1 := checkd_any d _ _ (h0.ext hE)
  rw [okB_ok.2 hd] at C1
  have C1 := Lib.hid C1
  have hq0 := HBX.out.cell 0
  have hq1 := HBX.out.cell 1
  clear h0 h1 h2 hd hE
  go_enter Tryd.func73, Tryd.ntmps73
  go_wp2_with fail
  refine C1.out.mono ?_; rintro e w1 ⟨rfl, E1⟩
  have E9 := Lib.hid (bel_call HE.out E1)
  clear hq0 hq1 C1 E1 HBX HE
  go_wp2_with fail
  go_ret
  exact ⟨rfl, E9.out⟩
set_option maxHeartbeats 1000000 in
set_option maxRecDepth 20000 in
theorem count_ok (d : Dd) (v : Value) (x : Int) (l : Nat) (w : World) (hd : d.Ok) (h : Dns w v d) (hx : -1 ≤ x) (hx2 : x ≤ 9223372036854775807) (hl : l ≤ 64) :
    Calls Tryd.prog 34 #[v, .int .i64 x, .int .i64 (l : Int)] w fun e w' => e = .returned (.tuple #[.int .u64 (sN (cnt d.to d.lab x l 0) : Nat), .bool (sB (cnt d.to d.lab x l 0)), .nilIface]) ∧ Ext w w' := by
  obtain ⟨a, b, rfl, h1, h2⟩ := h
  have h0 : Dns w (.agg #[a, b]) d := ⟨a, b, rfl, h1, h2⟩
  obtain ⟨p, cap, rfl, _⟩ := h1.shape
  obtain ⟨p2, cap2, rfl, _⟩ := h2.shape
  have hE := ext_box w #[.slice p d.nx.length cap, .slice p2 d.lb.length cap2] 25
  have HE := Lib.hid hE
  have HBX := Lib.hid (Blk.new w #[.slice p d.nx.length cap, .slice p2 d.lb.length cap2] 25)
  have HD := Lib.hid (h0.ext hE)
  have HO := Lib.hid hd
  have C1 := Lib.hid (maybe_ok d _ x _ hd (h0.ext hE) hx)
  have hq0 := HBX.out.cell 0
  have hq1 := HBX.out.cell 1
  clear h0 h1 h2 hd hE
  obtain ⟨cn, hcn⟩ : ∃ c, cnt d.to d.lab x l 0 = c := ⟨_, rfl⟩
  rw [hcn]
  have HCN := Lib.hid hcn
  clear hcn
  go_enter Tryd.func34, Tryd.ntmps34
  go_wp2_with fail
  refine C1.out.mono ?_; rintro e w1 ⟨rfl, E1⟩
  have HX1 := Lib.hid E1
  have hq0 := (HBX.out.ext E1).cell 0
  have hq1 := (HBX.out.ext E1).cell 1
  clear C1 E1
  go_wp2_with fail
  refine (tableof_any d _ x w1 HO.out (HD.out.ext HX1.out) (by omega) hx2).mono ?_
  rintro e w2 ⟨tb, gf, vN, rfl, ht⟩
  have HT := Lib.hid ht
  have HX2 := Lib.hid (bel_call HX1.out ht.ex)
  clear ht
  go_wp2_with fail
  refine (words_any (l := l) HT.out HO.out rfl hl (by omega)).mono ?_
  rintro e w3 ⟨k3, hk3, rfl, t3, f3⟩
  rw [HCN.out]
  have EX := Lib.hid (bel_call HE.out (bel_call HX1.out t3.ex))
  have x4 := ext_box w3 (cc cn) 117
  have B4 := Lib.hid (Blk.new w3 (cc cn) 117)
  have EX4 := Lib.hid (bel_call EX.out x4)
  clear t3 f3 hk3 HT HX2 HX1 EX x4 hq0 hq1
  go_upto_region 4 with fail
  show Code.wp _ _ _ _ (w3.alloc (.cells (cc cn) 117))
  generalize w3.alloc (.cells (cc cn) 117) = w4 at *
  have y0 := B4.out.cell 0
  have y1 := B4.out.cell 1
  refine G.wp_region_stab (G := Ext) (fun _ => none) (by kernel_rfl) (by kernel_rfl) (fun _ _ h => by cases h) (fun hex => ?_)
  iterate 7
    (refine G.wpS_one (A := ?_) hex rfl rfl (by simp) ?_ ?_ ?_
     rotate_left 2
     · intro w' hC K hK
       have y0 := (B4.out.ext hC.1).cell 0; have y1 := (B4.out.ext hC.1).cell 1
       go_wp2_with (fail)
       refine hK _ ?_
       first | exact Below.refl _ _ | assumption | ((repeat' (first | (with_reducible exact Below.refl _ _) | (with_reducible assumption) | (with_reducible refine below_drewN ?_ _) | (with_reducible refine Below.alloc ?_ ?_ _) | (with_reducible refine Below.drew ?_) | (with_reducible refine Below.setCell ?_ ?_ _) | (with_reducible refine Below.trans ?_ (Below.mono (by with_reducible assumption) ?_)) | go_size)))
     rotate_left 1
     · rfl
     clear hex; intro hex)
  refine G.wpS_nil fun w5 hAll => ?_
  have hE := hAll.1
  have EX5 := Lib.hid (bel_call EX4.out hE)
  clear hE hex hAll y0 y1 B4
  go_wp2_with fail
  refine bodyPost_ret (v := .tuple #[.int .u64 (sN cn : Nat), .bool (sB cn), .nilIface]) (by simp [results, Tryd.results34, go_sem]) rfl ⟨rfl, EX5.out⟩
theorem NthR.mono {w : World} {B B' : Nat} {v : Value} {b : Bool} {o : Option (List Nat)} (h : NthR w B v b o) (hb : B' ≤ B) : NthR w B' v b o := by
  cases o with
  | some l => exact ⟨h.1, World.ownsRow.mono h.2 hb⟩
  | none => exact h
theorem NthR.shp {w : World} {B : Nat} {v : Value} {b : Bool} {o : Option (List Nat)} (h : NthR w B v b o) : ∃ a n c, v = .slice a n c := by
  cases o with
  | some l => obtain ⟨a, c, e⟩ := own_shp h.2; exact ⟨a, _, c, e⟩
  | none => exact ⟨none, 0, 0, h.2⟩
set_option maxHeartbeats 1000000 in
set_option maxRecDepth 20000 in
theorem nthc_ok (d : Dd) (v : Value) (x : Int) (k : Nat) (w : World) (hd : d.Ok) (h : Dns w v d) (hx : -1 ≤ x) (hx2 : x ≤ 9223372036854775807) (hk : k < T64) :
    Calls Tryd.prog 35 #[v, .int .i64 x, .int .u64 (k : Int)] w fun e w' => ∃ u b, e = .returned (.tuple #[u, .bool b, .nilIface]) ∧ NthR w' w.heap.size u b (nthW d.to d.lab x k) ∧ Ext w w' := by
  obtain ⟨a, b, rfl, h1, h2⟩ := h
  have h0 : Dns w (.agg #[a, b]) d := ⟨a, b, rfl, h1, h2⟩
  obtain ⟨p, cap, rfl, _⟩ := h1.shape
  obtain ⟨p2, cap2, rfl, _⟩ := h2.shape
  have hE := ext_box w #[.slice p d.nx.length cap, .slice p2 d.lb.length cap2] 25
  have HE := Lib.hid hE
  have HBX := Lib.hid (Blk.new w #[.slice p d.nx.length cap, .slice p2 d.lb.length cap2] 25)
  have HD := Lib.hid (h0.ext hE)
  have HO := Lib.hid hd
  have C1 := Lib.hid (maybe_ok d _ x _ hd (h0.ext hE) hx)
  have hq0 := HBX.out.cell 0
  have hq1 := HBX.out.cell 1
  clear h0 h1 h2 hd hE
  generalize hR : nthW d.to d.lab x k = R
  have HR := Lib.hid hR
  clear hR
  go_enter Tryd.func35, Tryd.ntmps35
  go_wp2_with fail
  refine C1.out.mono ?_; rintro e w1 ⟨rfl, E1⟩
  have HX1 := Lib.hid E1
  have hq0 := (HBX.out.ext E1).cell 0
  have hq1 := (HBX.out.ext E1).cell 1
  clear C1 E1
  go_wp2_with fail
  refine (tableof_any d _ x w1 HO.out (HD.out.ext HX1.out) (by omega) hx2).mono ?_
  rintro e w2 ⟨tb, gf, vN, rfl, ht⟩
  have HT := Lib.hid ht
  clear ht
  go_wp2_with fail
  refine (nth_any HT.out HO.out rfl hk).mono ?_
  rintro e w3 ⟨u, b, rfl, hr, x3⟩
  rw [HR.out] at hr
  obtain ⟨ua, un, uc, rfl⟩ := hr.shp
  have RS := Lib.hid (hr.mono (show w.heap.size ≤ w1.heap.size from (bel_call HE.out HX1.out).size))
  have EX := Lib.hid (bel_call HE.out (bel_call HX1.out x3))
  clear hr x3 HT hq0 hq1
  go_wp2_with fail
  refine bodyPost_ret (v := .tuple #[.slice ua un uc, .bool b, .nilIface]) (by simp [results, Tryd.results35, go_sem]) rfl ⟨_, _, rfl, RS.out, EX.out⟩
/-- What Rank tells. -/
def rkv (r : Nat) (b : Bool) : Value := if b = true ∧ r < T64 then .tuple #[.int .u64 (r : Int), .bool true, .nilIface] else .tuple #[.int .u64 0, .bool false, .nilIface]
set_option maxHeartbeats 2000000 in
set_option maxRecDepth 20000 in
theorem rankc_ok (d : Dd) (v t : Value) (x : Int) (l : List UInt8) (w : World) (hd : d.Ok) (h : Dns w v d) (hx : -1 ≤ x) (hx2 : x ≤ 9223372036854775807) (ht : Bytes w t l) (hl : l.length ≤ 64) :
    Calls Tryd.prog 36 #[v, .int .i64 x, t] w fun e w' => e = .returned (rkv (rankW d.to d.lab x (txw l)) (decide (d.lab (runA d.to 0 (txw l)) = x))) ∧ Ext w w' := by
  obtain ⟨a, b, rfl, h1, h2⟩ := h
  have h0 : Dns w (.agg #[a, b]) d := ⟨a, b, rfl, h1, h2⟩
  obtain ⟨p, cap, rfl, _⟩ := h1.shape
  obtain ⟨p2, cap2, rfl, _⟩ := h2.shape
  have hE := ext_box w #[.slice p d.nx.length cap, .slice p2 d.lb.length cap2] 25
  have HE := Lib.hid hE
  have HBX := Lib.hid (Blk.new w #[.slice p d.nx.length cap, .slice p2 d.lb.length cap2] 25)
  have HD := Lib.hid (h0.ext hE)
  have HO := Lib.hid hd
  have C1 := Lib.hid (maybe_ok d _ x _ hd (h0.ext hE) hx)
  have hq0 := HBX.out.cell 0
  have hq1 := HBX.out.cell 1
  have HTB := Lib.hid (ht.ext hE)
  obtain ⟨pt, ct, rfl, _⟩ := ht.shp
  clear h0 h1 h2 hd hE ht
  obtain ⟨bb, hbb⟩ : ∃ b, decide (d.lab (runA d.to 0 (txw l)) = x) = b := ⟨_, rfl⟩
  obtain ⟨RW, hRW⟩ : ∃ r, rankW d.to d.lab x (txw l) = r := ⟨_, rfl⟩
  rw [hbb, hRW]
  have HQ := Lib.hid (And.intro hbb hRW)
  clear hbb hRW
  go_enter Tryd.func36, Tryd.ntmps36
  go_wp2_with fail
  refine C1.out.mono ?_; rintro e w1 ⟨rfl, E1⟩
  have HX1 := Lib.hid E1
  have hq0 := (HBX.out.ext E1).cell 0
  have hq1 := (HBX.out.ext E1).cell 1
  clear C1 E1
  go_wp2_with fail
  refine (tableof_any d _ x w1 HO.out (HD.out.ext HX1.out) (by omega) hx2).mono ?_
  rintro e w2 ⟨tb, gf, vN, rfl, ht⟩
  have HT := Lib.hid ht
  clear ht
  go_wp2_with fail
  refine (rank_any HT.out HO.out rfl (HTB.out.ext HX1.out) hl).mono ?_
  rintro e w3 ⟨rfl, x3⟩
  rw [HQ.out.1, HQ.out.2]
  have x4 := ext_box w3 (cc RW) 117
  have B4 := Lib.hid (Blk.new w3 (cc RW) 117)
  have EX4 := Lib.hid (bel_call (bel_call HE.out (bel_call HX1.out x3)) x4)
  clear x3 x4 HT hq0 hq1 HX1
  go_upto_region 4 with fail
  show Code.wp _ _ _ _ (w3.alloc (.cells (cc RW) 117))
  generalize w3.alloc (.cells (cc RW) 117) = w4 at *
  have y0 : w4.cell? ⟨w3.heap.size, 0, none⟩ = some (.int .u64 (sN RW : Nat)) := B4.out.cell 0
  have y1 : w4.cell? ⟨w3.heap.size, 1, none⟩ = some (.bool (sB RW)) := B4.out.cell 1
  cases bb with
  | false =>
    have hv : rkv RW false = .tuple #[.int .u64 0, .bool false, .nilIface] := if_neg (by simp)
    have HV := Lib.hid hv
    clear hv
    go_wp2_with fail
    refine bodyPost_ret (v := .tuple #[.int .u64 0, .bool false, .nilIface]) (by simp [results, Tryd.results36, go_sem]) rfl ⟨by rw [HV.out], EX4.out⟩
  | true =>
    by_cases q : RW < T64
    · have HV := Lib.hid (show rkv RW true = .tuple #[.int .u64 (RW : Int), .bool true, .nilIface] from if_pos ⟨rfl, q⟩)
      rw [sN_of q] at y0
      rw [sB_of q] at y1
      go_wp2_with fail
      refine bodyPost_ret (v := .tuple #[.int .u64 (RW : Int), .bool true, .nilIface]) (by simp [results, Tryd.results36, go_sem]) rfl ⟨by rw [HV.out], EX4.out⟩
    · have HV := Lib.hid (show rkv RW true = .tuple #[.int .u64 0, .bool false, .nilIface] from if_neg (fun e => q e.2))
      rw [sB_not q] at y1
      go_wp2_with fail
      refine bodyPost_ret (v := .tuple #[.int .u64 0, .bool false, .nilIface]) (by simp [results, Tryd.results36, go_sem]) rfl ⟨by rw [HV.out], EX4.out⟩
end Go.Proofs.YtniamfaiamgncaaDoor
