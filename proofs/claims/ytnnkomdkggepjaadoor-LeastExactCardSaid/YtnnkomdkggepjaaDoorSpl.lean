/- bolterref12.split. -/
import Derived.Test.YtnnkomdkggepjaaDoorAlk
import Derived.Test.YtnnkomdkggepjaaDoorWkk
namespace Go.Proofs.YtnnkomdkggepjaaDoor
open Go Go.RowKit
/-- A list of numbers of one's own, in block g. -/
def CW (w : World) (g n : Nat) (C : List Nat) : Prop := w.ownsRow g 3 1 (.slice (some ⟨g, 0, none⟩) n n) n ((nj C).map iv)
section
variable {w w' : World} {g n i x : Nat} {C : List Nat}
theorem CW.len (h : CW w g n C) : C.length = n := by
  have hl := h.1
  rw [List.length_map, nj_len] at hl
  omega
theorem CW.ext (h : CW w g n C) (hx : Ext w w') : CW w' g n C := own_ex h hx
theorem CW.lt (h : CW w g n C) : g < w.heap.size := (World.ownsRow.lt h g rfl).2
theorem CW.set (h : CW w g n C) : CW (w.setCell ⟨g, i, none⟩ (.int .i64 (x : Int))) g n (C.set i x) := by
  have := (World.ownsRow.stored h i (iv x)).1
  rw [← List.map_set, nj_set] at this
  exact this
theorem CW.get (h : CW w g n C) (hi : i < n) : w.cell? ⟨g, i, none⟩ = some (.int .i64 ((C.getD i 0 : Nat) : Int)) := by
  have hl := h.len
  have hi2 : i < (nj C).length := by rw [nj_len]; omega
  rw [World.ownsRow.cellAt h i (by omega), List.getElem?_map, List.getElem?_eq_getElem hi2, nj_get hi2]; rfl
theorem CW.frz (h : CW w g n C) (i : Nat) : w.frozen? ⟨g, i, none⟩ = false := World.ownsRow.frozenAt h i
theorem CW.other (h : CW w g n C) {b : Nat} (hb : g ≠ b) (u : Value) : CW (w.setCell ⟨b, i, none⟩ u) g n C := own_set h (fun q => hb (Option.some.inj q))
theorem CW.ints (h : CW w g n C) (hn : n ≤ 1000) (hlt : ∀ i, i < n → C.getD i 0 ≤ i) : Ints w (.slice (some ⟨g, 0, none⟩) n n) (nj C) := by
  have hl := h.len
  refine ⟨by rw [nj_len, hl]; exact Slc.of_own h (by omega), fun x hx => ?_⟩
  obtain ⟨i, hi, rfl⟩ := List.getElem_of_mem hx
  have := hlt i (by rw [nj_len] at hi; omega)
  have h3 : i < n := by rw [nj_len] at hi; omega
  rw [nj_get hi]; omega
end
/-- Whether anything has changed so far. -/
def Bch (b : Bool) (i : Nat) (D C : List Nat) : Prop := (b = false → ∀ a, a < i → D.getD a 0 = C.getD a 0) ∧ (b = true → ∃ a, a < i ∧ D.getD a 0 ≠ C.getD a 0)
theorem bool_of (p : Prop) : ∃ b : Bool, (b = true ↔ p) := by
  by_cases h : p
  · exact ⟨true, fun _ => h, fun _ => rfl⟩
  · exact ⟨false, (fun e => by cases e), fun e => absurd e h⟩
def isN : Option Value → Nat → Bool
  | some (.int _ x), i => x == (i : Int)
  | _, _ => false
def fxw (g : Nat) (w : World) (n : Nat) : Nat := (List.range n).countP fun i => isN (w.cell? ⟨g, i, none⟩) i
def fxv (v : Value) (w : World) (n : Nat) : Nat := match v with
  | .slice (some a) _ _ => fxw a.block w n
  | _ => 0
theorem fxw_of {w : World} {g n : Nat} {C : List Nat} (h : CW w g n C) : fxw g w n = fxc n C := by
  unfold fxw fxc
  refine List.countP_congr fun i hi => ?_
  rw [h.get (List.mem_range.1 hi)]
  simp [isN]
  omega
theorem zeros_own {w wm : World} {g n : Nat} (hg : w.heap.size = g) (hown : wm.ownsRow w.heap.size 3 1 (.slice (some ⟨w.heap.size, 0, none⟩) n n) n (List.replicate n (.int .i64 0))) : CW wm g n (List.replicate n 0) := by
  subst hg
  unfold CW nj
  rw [List.map_replicate, List.map_replicate]
  exact hown
set_option maxHeartbeats 8000000 in
set_option maxRecDepth 20000 in
theorem split_ok (d : Dd) (v : Value) (w : World) (hd : d.Ok) (h : Dns w v d) :
    Calls Tryd.prog 19 #[v] w fun e w' => ∃ g C, e = .returned (.slice (some ⟨g, 0, none⟩) d.nx.length d.nx.length) ∧ w.heap.size ≤ g ∧ CW w' g d.nx.length C ∧ Fin12 d d.nx.length C ∧ Ext w w' := by
  have h0 := h
  obtain ⟨a, b, rfl, h1, h2⟩ := h
  obtain ⟨p, cap, rfl, _⟩ := h1.shape
  obtain ⟨p2, cap2, rfl, _⟩ := h2.shape
  obtain ⟨n, hn⟩ : ∃ n, d.nx.length = n := ⟨_, rfl⟩
  have hl : d.lb.length = n := by rw [hd.lbl, hn]
  have h6 := hd.le
  have hp := hd.pos
  rw [hn] at h1 h0 h6 hp ⊢
  rw [hl] at h2 h0 ⊢
  have HEB := Lib.hid (ext_box w #[.slice p n cap, .slice p2 n cap2] 26)
  have HBX := Lib.hid (Blk.new w #[.slice p n cap, .slice p2 n cap2] 26)
  have HD := Lib.hid (h0.ext HEB.out)
  have H2 := Lib.hid (h2.ext HEB.out)
  have HO := Lib.hid hd
  have HN := Lib.hid hn
  have HL := Lib.hid hl
  clear h1 h2 h0 hd hn hl
  obtain ⟨i0, hi0, hz0, hz1, hz2⟩ := info_parts info_int
  go_enter Tryd.func19, Tryd.ntmps19
  generalize hw0 : w.alloc (.cells #[.slice p n cap, .slice p2 n cap2] 26) = w0 at HEB HBX HD H2
  have z0 := HBX.out.cell 0
  go_wp2_with (at_make; refine wpList_make_full _ rfl _ _ 24 rfl w0.heap.size 3 i0 (.int .i64 0) 1 Tryd.underlying24 hi0 hz0 hz1 .i64 .i64 _ _ n rfl rfl rfl rfl (by rw [hz2]; omega) (by unfold maxLen; omega) (by omega) ?_; intro wm hown hgm)
  have HE1 := Lib.hid (show Ext w0 wm from ⟨hgm.os, hgm.tape, hgm.output, hgm.size, fun k hk => hgm.block k hk (by simp)⟩)
  obtain ⟨g, hg⟩ : ∃ g, w0.heap.size = g := ⟨_, rfl⟩
  have HC1 := Lib.hid (zeros_own hg (by rw [← toList_madeCells_one]; simpa [Value.cells] using hown))
  have HG := Lib.hid (Nat.le_of_eq hg)
  have HS := Lib.hid (Grw.start (n := n) (R := RLab d) (C := List.replicate n 0) (by simp))
  simp only [hg]
  generalize List.replicate n 0 = Z at HC1 HS
  clear hown hgm hg z0
  go_loopw [5] (fun s5 wr => ∃ (i : Nat) (C : List Nat), i ≤ n ∧ s5 = .int .i64 i ∧ Hid (Grw n (RLab d) C i) ∧ Hid (CW wr g n C) ∧ Hid (Ext w0 wr)) (fun s5 _ => n - (intOf s5).toNat)
  case atStart => exact ⟨0, Z, Nat.zero_le _, rfl, HS, HC1, HE1⟩
  case round =>
    clear HS HC1 HE1
    obtain ⟨i, C, hi, rfl, hS, hC, hE⟩ := hrel
    by_cases hin : i < n
    · have y0 := hC.out.get hin
      have y1 := hC.out.frz i
      have O8 := Lib.hid (hC.out.set (i := i) (x := i))
      have E8 := Lib.hid (hE.out.setCell (p := ⟨g, i, none⟩) HG.out (.int .i64 (i : Int)))
      clear hC hE
      go_wp2_with fail
      generalize wr.setCell ⟨g, i, none⟩ (.int .i64 (i : Int)) = wb at *
      go_loopw [6] (fun s6 wr => ∃ k : Nat, k ≤ i ∧ s6 = .int .i64 k ∧ Hid (∀ b, b < k → ¬ RLab d b i) ∧ Hid (CW wr g n (C.set i i)) ∧ Hid (Ext w0 wr)) (fun s6 _ => i - (intOf s6).toNat)
      case atStart => exact ⟨0, Nat.zero_le _, rfl, Lib.hid (fun b h => absurd h (by omega)), O8, E8⟩
      case round =>
        clear O8 E8 y0 y1
        obtain ⟨k, hk, rfl, hno, hC, hE⟩ := hrel
        by_cases hki : k < i
        · have i2 : i < d.lb.length := by rw [HL.out]; exact hin
          have k2 : k < d.lb.length := by rw [HL.out]; omega
          have z1 := (HBX.out.ext hE.out).cell 1
          obtain ⟨b1, o1, rfl, hb1, hc1, -⟩ := (H2.out.ext hE.out).cell i2
          obtain ⟨b2, o2, e2, hb2, hc2, -⟩ := (H2.out.ext hE.out).cell k2
          cases e2
          have hx : d.lb[i] = d.lab i := by unfold Dd.lab; rw [getD_get i2]
          have hy : d.lb[k] = d.lab k := by unfold Dd.lab; rw [getD_get k2]
          rw [hx] at hc1
          rw [hy] at hc2
          clear hx hy
          obtain ⟨x, hx⟩ : ∃ x, d.lab i = x := ⟨_, rfl⟩
          obtain ⟨y, hy⟩ : ∃ y, d.lab k = y := ⟨_, rfl⟩
          rw [hx] at hc1
          rw [hy] at hc2
          have HXY := Lib.hid (And.intro hx hy)
          have C8 := Lib.hid (hC.out.ext (drewx wr))
          have E8 := Lib.hid (bel_call hE.out (drewx wr))
          clear hx hy
          by_cases q : y = x
          · have hrl : RLab d k i := by unfold RLab; rw [HXY.out.1, HXY.out.2, q]
            have HRL := Lib.hid hrl
            subst q
            clear hrl
            go_wp2_with fail
            go_region
            clear hC hE hc1 hc2 z1
            generalize wr.drew = w8 at *
            have y0 := C8.out.get (i := k) (by omega)
            have y1 := C8.out.get (i := i) hin
            have y2 := C8.out.frz i
            have O9 := C8.out.set (i := i) (x := (C.set i i).getD k 0)
            rw [List.set_set] at O9
            have hvk : (C.set i i).getD k 0 = C.getD k 0 := by rw [getD_setn (by rw [hS.out.len]; exact hin), if_neg (by omega)]
            rw [hvk] at y0 O9
            have O9 := Lib.hid O9
            have E9 := Lib.hid (E8.out.setCell (p := ⟨g, i, none⟩) HG.out (.int .i64 (C.getD k 0 : Nat)))
            have G9 := Lib.hid (hS.out.old (RLab_eqv d n) hin hki HRL.out rfl)
            clear C8 E8 hvk hno
            go_wp2_with fail
            go_roundw
            case rel => exact ⟨i + 1, _, by omega, by go_num, G9, O9, E9⟩
            case measure => simp [intOf]; omega
          · have t1 : (y == x) = false := by simpa using q
            have N9 := Lib.hid (show ∀ b, b < k + 1 → ¬ RLab d b i from fun b hb => by
              by_cases e : b = k
              · subst e; unfold RLab; rw [HXY.out.1, HXY.out.2]; exact q
              · exact hno.out b (by omega))
            clear q hno
            go_wp2_with fail
            go_region
            clear hC hE hc1 hc2 z1
            generalize wr.drew = w8 at *
            go_wp2_with fail
            go_roundw
            case rel => exact ⟨k + 1, by omega, by go_num, N9, C8, E8⟩
            case measure => simp [intOf]; omega
        · obtain rfl : i = k := by omega
          have G9 := Lib.hid (hS.out.new (RLab_eqv d n) hin hno.out)
          go_wp2_with fail
          go_roundw
          case rel => exact ⟨i + 1, _, by omega, by go_num, G9, hC, hE⟩
          case measure => simp [intOf]; omega
    · obtain rfl : n = i := by omega
      have HP := Lib.hid (Spm.first hS.out)
      clear hS
      go_wp2_with fail
      as_aux_lemma =>
        go_loopw [4] (fun s4 wr => ∃ (gc : Nat) (C : List Nat), s4 = .slice (some ⟨gc, 0, none⟩) n n ∧ g ≤ gc ∧ Hid (Spm d n C) ∧ Hid (CW wr gc n C) ∧ Hid (Ext w0 wr)) (fun s4 wr => n - fxv s4 wr n)
        case atStart => exact ⟨g, C, rfl, Nat.le_refl _, HP, hC, hE⟩
        case round =>
          clear hC hE HP
          obtain ⟨gc, C, rfl, hgc, hP, hC, hE⟩ := hrel
          have hgw := hE.out.size
          have HF0 := Lib.hid (fxw_of hC.out)
          go_wp2_with (at_make; refine wpList_make_full _ rfl _ _ 24 rfl wr.heap.size 3 i0 (.int .i64 0) 1 Tryd.underlying24 hi0 hz0 hz1 .i64 .i64 _ _ n rfl rfl rfl rfl (by rw [hz2]; omega) (by unfold maxLen; omega) (by omega) ?_; intro wm hown hgm)
          have hxm : Ext wr wm := ⟨hgm.os, hgm.tape, hgm.output, hgm.size, fun k hk => hgm.block k hk (by simp)⟩
          obtain ⟨gn, hgn⟩ : ∃ g, wr.heap.size = g := ⟨_, rfl⟩
          have HCn := Lib.hid (zeros_own hgn (by rw [← toList_madeCells_one]; simpa [Value.cells] using hown))
          have HCc := Lib.hid (hC.out.ext hxm)
          have HEm := Lib.hid (bel_call hE.out hxm)
          have hgl := hC.out.lt
          have HGN := Lib.hid (show w0.heap.size ≤ gn ∧ gc ≠ gn ∧ g ≤ gn from ⟨by omega, by omega, by omega⟩)
          have HS := Lib.hid (Grw.start (n := n) (R := RNx d C) (C := List.replicate n 0) (by simp))
          simp only [hgn]
          generalize List.replicate n 0 = Z at HCn HS
          clear hown hgm hgn hxm hC hE hgl
          obtain ⟨wt, rfl⟩ : ∃ wo : World, wo = wr := ⟨_, rfl⟩
          go_loopw [8, 9] (fun s8 s9 wr => ∃ (i : Nat) (b : Bool) (D : List Nat), i ≤ n ∧ s9 = .int .i64 i ∧ s8 = .bool b ∧ Hid (Grw n (RNx d C) D i) ∧ Hid (Bch b i D C) ∧ Hid (CW wr gn n D) ∧ Hid (CW wr gc n C) ∧ Hid (Ext w0 wr)) (fun _ s9 _ => n - (intOf s9).toNat)
          case atStart => exact ⟨0, false, Z, Nat.zero_le _, rfl, rfl, HS, Lib.hid ⟨fun _ a h => absurd h (by omega), fun e => by cases e⟩, HCn, HCc, HEm⟩
          case round =>
            clear HS HCn HCc HEm
            obtain ⟨i, b, D, hi, rfl, rfl, hS, hB, hD, hC, hE⟩ := hrel
            by_cases hin : i < n
            · have y0 := hD.out.get hin
              have y1 := hD.out.frz i
              have O8 := Lib.hid (hD.out.set (i := i) (x := i))
              have C8 := Lib.hid (hC.out.other (b := gn) (i := i) HGN.out.2.1 (.int .i64 (i : Int)))
              have E8 := Lib.hid (hE.out.setCell (p := ⟨gn, i, none⟩) HGN.out.1 (.int .i64 (i : Int)))
              clear hD hC hE
              go_wp2_with fail
              generalize wr.setCell ⟨gn, i, none⟩ (.int .i64 (i : Int)) = wb at *
              have hDl := hS.out.len
              have hDk : ∀ k, k < i → (D.set i i).getD k 0 = D.getD k 0 := fun k hk => by rw [getD_setn (by omega), if_neg (by omega)]
              have HDK := Lib.hid hDk
              clear hDk hDl
              go_loopw [10] (fun s10 wr => ∃ k : Nat, k ≤ i ∧ s10 = .int .i64 k ∧ Hid (∀ b, b < k → ¬ (D.getD b 0 = b ∧ RNx d C b i)) ∧ Hid (CW wr gn n (D.set i i)) ∧ Hid (CW wr gc n C) ∧ Hid (Ext w0 wr)) (fun s10 _ => i - (intOf s10).toNat)
              case atStart => exact ⟨0, Nat.zero_le _, rfl, Lib.hid (fun b h => absurd h (by omega)), O8, C8, E8⟩
              case round =>
                clear O8 C8 E8 y0 y1
                obtain ⟨k, hk, rfl, hno, hD, hC, hE⟩ := hrel
                by_cases hki : k < i
                · have z0 := (HBX.out.ext hE.out).cell 0
                  have z1 := (HBX.out.ext hE.out).cell 1
                  have ck := hC.out.get (i := k) (by omega)
                  have ci := hC.out.get (i := i) hin
                  have dk := hD.out.get (i := k) (by omega)
                  rw [HDK.out k hki] at dk
                  obtain ⟨x, hx⟩ : ∃ x, C.getD i 0 = x := ⟨_, rfl⟩
                  obtain ⟨y, hy⟩ : ∃ y, C.getD k 0 = y := ⟨_, rfl⟩
                  obtain ⟨q, hq⟩ : ∃ q, D.getD k 0 = q := ⟨_, rfl⟩
                  rw [hx] at ci
                  rw [hy] at ck
                  rw [hq] at dk
                  have HXY := Lib.hid (show C.getD i 0 = x ∧ C.getD k 0 = y ∧ D.getD k 0 = q from ⟨hx, hy, hq⟩)
                  have NO := Lib.hid (fun (hk2 : ¬ (D.getD k 0 = k ∧ RNx d C k i)) => show ∀ b, b < k + 1 → ¬ (D.getD b 0 = b ∧ RNx d C b i) from fun b hb => by
                    by_cases e : b = k
                    · subst e; exact hk2
                    · exact hno.out b (by omega))
                  clear hx hy hq hno
                  by_cases q1 : y = x
                  rotate_left
                  · have t1 : ((y : Int) == (x : Int)) = false := by simp; omega
                    have t1' : (y == x) = false := by simp; omega
                    have N9 := Lib.hid (NO.out (fun h => q1 (by have := h.2.1; rw [HXY.out.1, HXY.out.2.1] at this; exact this)))
                    have D9 := Lib.hid (hD.out.ext (drewx wr))
                    have C9 := Lib.hid (hC.out.ext (drewx wr))
                    have E9 := Lib.hid (bel_call hE.out (drewx wr))
                    clear hD hC hE q1
                    go_wp2_with fail
                    go_region
                    clear z0 z1 ck ci dk
                    generalize wr.drew = w9 at *
                    go_wp2_with fail
                    go_roundw
                    case rel => exact ⟨k + 1, by omega, by go_num, N9, D9, C9, E9⟩
                    case measure => simp [intOf]; omega
                  subst q1
                  by_cases q2 : q = k
                  rotate_left
                  · have t1 : ((q : Int) == (k : Int)) = false := by simp; omega
                    have t1' : (q == k) = false := by simp; omega
                    have N9 := Lib.hid (NO.out (fun h => q2 (by have := h.1; rw [HXY.out.2.2] at this; exact this)))
                    have D9 := Lib.hid (hD.out.ext (drewx wr))
                    have C9 := Lib.hid (hC.out.ext (drewx wr))
                    have E9 := Lib.hid (bel_call hE.out (drewx wr))
                    clear hD hC hE q2
                    go_wp2_with fail
                    go_region
                    clear z0 z1 ck ci dk
                    generalize wr.drew = w9 at *
                    go_wp2_with fail
                    go_roundw
                    case rel => exact ⟨k + 1, by omega, by go_num, N9, D9, C9, E9⟩
                    case measure => simp [intOf]; omega
                  subst q2
                  obtain ⟨bA, hbA⟩ : ∃ b : Bool, (b = true ↔ ∀ c, c < 256 → C.getD (d.to i c) 0 = C.getD (d.to q c) 0) := bool_of _
                  have HAL := Lib.hid (fun w' (hx : Ext wr w') => show Calls Tryd.prog 27 #[.agg #[.slice p n cap, .slice p2 n cap2], .slice (some ⟨gc, 0, none⟩) n n, .int .i64 i, .int .i64 q] w' fun e w'' => e = .returned (.bool bA) ∧ Ext w' w'' from
                    (alike_ok d C _ _ i q w' HO.out ((HD.out.ext hE.out).ext hx) ((hC.out.ints (by omega) hP.out.le).ext hx) (by rw [hP.out.len, HN.out]) (by rw [HN.out]; exact hin) (by rw [HN.out]; omega)).mono fun e w'' ⟨b, e1, e2, e3⟩ => ⟨by rw [e1, show b = bA from by rw [Bool.eq_iff_iff, e2, hbA]], e3⟩)
                  have HBA := Lib.hid hbA
                  have Z0 := Lib.hid z0
                  have Z1 := Lib.hid z1
                  have CK := Lib.hid ck
                  have CI := Lib.hid ci
                  have DK := Lib.hid dk
                  have LT := Lib.hid (show w.heap.size < wr.heap.size ∧ gc < wr.heap.size ∧ gn < wr.heap.size from ⟨(HBX.out.ext hE.out).lt, hC.out.lt, hD.out.lt⟩)
                  have hEo := hE
                  clear hbA z0 z1 ck ci dk
                  go_upto_region 21 with fail
                  refine wp_region_stab (fun _ => none) (by kernel_rfl) (by kernel_rfl) (fun _ _ h => by cases h) (fun hex => ?_)
                  iterate 24
                    (refine wpS_one (A := ?_) hex rfl rfl (by simp) ?_ ?_ ?_
                     rotate_left 2
                     · intro w' hC K hK
                       obtain ⟨hcell, hfrz⟩ := bcell hC.1.ext
                       have hxC := hC.1.1; have z0 := (hxC.cell (p := ⟨w.heap.size, 0, none⟩) LT.out.1).trans Z0.out; have z1 := (hxC.cell (p := ⟨w.heap.size, 1, none⟩) LT.out.1).trans Z1.out; have ck := (hxC.cell (p := ⟨gc, q, none⟩) LT.out.2.1).trans CK.out; have ci := (hxC.cell (p := ⟨gc, i, none⟩) LT.out.2.1).trans CI.out; have dk := (hxC.cell (p := ⟨gn, q, none⟩) LT.out.2.2).trans DK.out
                       go_wp2_with (go_at_call 27; with_reducible refine (HAL.out _ hxC).mono ?_; rintro e w9 ⟨rfl, hx9⟩)
                       refine hK _ ?_
                       first | exact Gr.refl _ _ | exact Gr.of_ext (by assumption) hC.1.1.size
                     rotate_left 1
                     · rfl
                     clear hex; intro hex)
                  refine wpS_nil fun w9 hE => ?_
                  replace hE := hE.1.ext
                  obtain ⟨hcell_w9, hfrz_w9⟩ := bcell hE
                  cases bA
                  · have N9 := Lib.hid (NO.out (fun h => by have := HBA.out.2 (fun c hc => (h.2.2 c hc).symm); cases this))
                    clear NO
                    have D9 := Lib.hid (hD.out.ext hE)
                    have C9 := Lib.hid (hC.out.ext hE)
                    have E9 := Lib.hid (bel_call hEo.out hE)
                    clear hE hex hcell_w9 hfrz_w9 hD hC hEo
                    go_wp2_with fail
                    go_roundw
                    case rel => exact ⟨q + 1, by omega, by go_num, N9, D9, C9, E9⟩
                    case measure => simp [intOf]; omega
                  · have hR : RNx d C q i := ⟨by rw [HXY.out.1, HXY.out.2.1], fun c hc => (HBA.out.1 rfl c hc).symm⟩
                    have G9 := hS.out.old (RNx_eqv d C n) hin hki hR (v := q) HXY.out.2.2.symm
                    have hDl := hS.out.len
                    have HDD := Lib.hid (show ∀ a, a < i → (D.set i q).getD a 0 = D.getD a 0 from fun a ha => by rw [getD_setn (by omega), if_neg (by omega)])
                    have G9 := Lib.hid G9
                    clear NO hR hDl
                    have D8 := hD.out.ext hE
                    have y0 := D8.get (i := i) hin
                    have y1 := D8.frz i
                    have O9 := D8.set (i := i) (x := q)
                    rw [List.set_set] at O9
                    have D9 := Lib.hid O9
                    have C9 := Lib.hid ((hC.out.ext hE).other (b := gn) (i := i) HGN.out.2.1 (.int .i64 (q : Int)))
                    have E9 := Lib.hid ((bel_call hEo.out hE).setCell (p := ⟨gn, i, none⟩) HGN.out.1 (.int .i64 (q : Int)))
                    clear hE hex hcell_w9 hfrz_w9 hD hC hEo D8 O9 HAL
                    go_upto_region 23 with fail
                    generalize w9.setCell ⟨gn, i, none⟩ (.int .i64 (q : Int)) = wx at *
                    clear y0 y1
                    cases b
                    · have e1 := D9.out.get (i := i) hin
                      have e2 := C9.out.get (i := i) hin
                      obtain ⟨x, hx⟩ : ∃ x, (D.set i q).getD i 0 = x := ⟨_, rfl⟩
                      obtain ⟨y, hy⟩ : ∃ y, C.getD i 0 = y := ⟨_, rfl⟩
                      rw [hx] at e1
                      rw [hy] at e2
                      have HXX := Lib.hid (show (D.set i q).getD i 0 = x ∧ C.getD i 0 = y from ⟨hx, hy⟩)
                      have D10 := Lib.hid (D9.out.ext (drewx wx))
                      have C10 := Lib.hid (C9.out.ext (drewx wx))
                      have E10 := Lib.hid (bel_call E9.out (drewx wx))
                      clear hx hy D9 C9 E9
                      by_cases qq : x = y
                      · have B9 := Lib.hid (show Bch false (i + 1) (D.set i q) C from ⟨fun _ a ha => by
                          by_cases e : a = i
                          · subst e; rw [HXX.out.1, HXX.out.2, qq]
                          · rw [HDD.out a (by omega)]; exact hB.out.1 rfl a (by omega), fun e => (by cases e)⟩)
                        subst qq
                        clear hB
                        go_wp2_with fail
                        go_region
                        clear e1 e2
                        generalize World.drew wx = w10 at *
                        go_wp2_with fail
                        go_roundw
                        case rel => exact ⟨i + 1, false, D.set i q, by omega, by go_num, rfl, G9, B9, D10, C10, E10⟩
                        case measure => simp [intOf]; omega
                      · have t9 : ((x : Int) == (y : Int)) = false := by simp; omega
                        have t9' : ((x : Int) != (y : Int)) = true := by simp; omega
                        have t9'' : (x == y) = false := by simp; omega
                        have B9 := Lib.hid (show Bch true (i + 1) (D.set i q) C from ⟨fun e => (by cases e), fun _ => ⟨i, by omega, by rw [HXX.out.1, HXX.out.2]; exact qq⟩⟩)
                        clear hB qq
                        go_wp2_with fail
                        go_region
                        clear e1 e2
                        generalize World.drew wx = w10 at *
                        go_wp2_with fail
                        go_roundw
                        case rel => exact ⟨i + 1, true, D.set i q, by omega, by go_num, rfl, G9, B9, D10, C10, E10⟩
                        case measure => simp [intOf]; omega
                    · have B9 := Lib.hid (show Bch true (i + 1) (D.set i q) C from ⟨fun e => (by cases e), fun _ => by
                        obtain ⟨a, ha, hne⟩ := hB.out.2 rfl
                        exact ⟨a, by omega, by rw [HDD.out a ha]; exact hne⟩⟩)
                      have D10 := Lib.hid (D9.out.ext (drewx wx))
                      have C10 := Lib.hid (C9.out.ext (drewx wx))
                      have E10 := Lib.hid (bel_call E9.out (drewx wx))
                      clear hB D9 C9 E9
                      go_wp2_with fail
                      go_region
                      generalize World.drew wx = w10 at *
                      go_wp2_with fail
                      go_roundw
                      case rel => exact ⟨i + 1, true, D.set i q, by omega, by go_num, rfl, G9, B9, D10, C10, E10⟩
                      case measure => simp [intOf]; omega
                · obtain rfl : i = k := by omega
                  have G9 := Lib.hid (hS.out.new (RNx_eqv d C n) hin (hS.out.none (RNx_eqv d C n) hin hno.out))
                  have HDD := HDK
                  have D9 := hD
                  have C9 := hC
                  have E9 := hE
                  clear hD hC hE hno
                  go_upto_region 23 with fail
                  cases b
                  · have e1 := D9.out.get (i := i) hin
                    have e2 := C9.out.get (i := i) hin
                    obtain ⟨x, hx⟩ : ∃ x, (D.set i i).getD i 0 = x := ⟨_, rfl⟩
                    obtain ⟨y, hy⟩ : ∃ y, C.getD i 0 = y := ⟨_, rfl⟩
                    rw [hx] at e1
                    rw [hy] at e2
                    have HXX := Lib.hid (show (D.set i i).getD i 0 = x ∧ C.getD i 0 = y from ⟨hx, hy⟩)
                    have D10 := Lib.hid (D9.out.ext (drewx wr))
                    have C10 := Lib.hid (C9.out.ext (drewx wr))
                    have E10 := Lib.hid (bel_call E9.out (drewx wr))
                    clear hx hy D9 C9 E9
                    by_cases qq : x = y
                    · have B9 := Lib.hid (show Bch false (i + 1) (D.set i i) C from ⟨fun _ a ha => by
                        by_cases e : a = i
                        · subst e; rw [HXX.out.1, HXX.out.2, qq]
                        · rw [HDD.out a (by omega)]; exact hB.out.1 rfl a (by omega), fun e => (by cases e)⟩)
                      subst qq
                      clear hB
                      go_wp2_with fail
                      go_region
                      clear e1 e2
                      generalize World.drew wr = w10 at *
                      go_wp2_with fail
                      go_roundw
                      case rel => exact ⟨i + 1, false, D.set i i, by omega, by go_num, rfl, G9, B9, D10, C10, E10⟩
                      case measure => simp [intOf]; omega
                    · have t9 : ((x : Int) == (y : Int)) = false := by simp; omega
                      have t9' : ((x : Int) != (y : Int)) = true := by simp; omega
                      have t9'' : (x == y) = false := by simp; omega
                      have B9 := Lib.hid (show Bch true (i + 1) (D.set i i) C from ⟨fun e => (by cases e), fun _ => ⟨i, by omega, by rw [HXX.out.1, HXX.out.2]; exact qq⟩⟩)
                      clear hB qq
                      go_wp2_with fail
                      go_region
                      clear e1 e2
                      generalize World.drew wr = w10 at *
                      go_wp2_with fail
                      go_roundw
                      case rel => exact ⟨i + 1, true, D.set i i, by omega, by go_num, rfl, G9, B9, D10, C10, E10⟩
                      case measure => simp [intOf]; omega
                  · have B9 := Lib.hid (show Bch true (i + 1) (D.set i i) C from ⟨fun e => (by cases e), fun _ => by
                      obtain ⟨a, ha, hne⟩ := hB.out.2 rfl
                      exact ⟨a, by omega, by rw [HDD.out a ha]; exact hne⟩⟩)
                    have D10 := Lib.hid (D9.out.ext (drewx wr))
                    have C10 := Lib.hid (C9.out.ext (drewx wr))
                    have E10 := Lib.hid (bel_call E9.out (drewx wr))
                    clear hB D9 C9 E9
                    go_wp2_with fail
                    go_region
                    generalize World.drew wr = w10 at *
                    go_wp2_with fail
                    go_roundw
                    case rel => exact ⟨i + 1, true, D.set i i, by omega, by go_num, rfl, G9, B9, D10, C10, E10⟩
                    case measure => simp [intOf]; omega
            · obtain rfl : n = i := by omega
              cases b
              · have HFI := Lib.hid (hP.out.fin HO.out HN.out hS.out (hB.out.1 rfl))
                clear hS hB
                go_wp2_with fail
                go_ret
                exact ⟨gc, C, rfl, by have := HEB.out.size; have := HG.out; omega, hC.out, HFI.out, bel_call HEB.out hE.out⟩
              · obtain ⟨a, ha, hne⟩ := hB.out.2 rfl
                have HMO := Lib.hid (hP.out.more hS.out ha hne)
                have P9 := Lib.hid (hP.out.next HO.out HN.out hS.out)
                have HF9 := Lib.hid (fxw_of hD.out)
                clear hS hB hne
                go_wp2_with fail
                go_roundw
                case rel => exact ⟨gn, D, rfl, HGN.out.2.2, P9, hD, hE⟩
                case measure =>
                  have := fxc_le n D
                  have := HMO.out
                  show n - fxw gn wr n < n - fxw gc wt n
                  rw [HF9.out, HF0.out]
                  omega
end Go.Proofs.YtnnkomdkggepjaaDoor
