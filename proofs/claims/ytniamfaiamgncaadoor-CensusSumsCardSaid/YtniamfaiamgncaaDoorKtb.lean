/- Package census: how many words stand ahead of one. -/
import Derived.Test.YtniamfaiamgncaaDoorKta
import Derived.Test.YtniamfaiamgncaaDoorCnl
namespace Go.Proofs.YtniamfaiamgncaaDoor
open Go Go.RowKit
def txw (l : List UInt8) : List Nat := l.map (·.toNat)
theorem txw_len (l : List UInt8) : (txw l).length = l.length := List.length_map _
theorem txw_lt (l : List UInt8) : ∀ c ∈ txw l, c < 256 := by
  intro c hc
  obtain ⟨x, _, rfl⟩ := List.mem_map.1 hc
  exact x.toNat_lt
theorem txw_get {l : List UInt8} {i : Nat} (h : i < l.length) {h2 : i < (txw l).length} : (txw l)[i] = l[i].toNat := List.getElem_map _
theorem Bytes.shp {w : World} {v : Value} {l : List UInt8} (h : Bytes w v l) : ∃ a cap, v = .slice a l.length cap ∧ l.length ≤ cap ∧ l.length ≤ 140737488355328 ∧ cap ≤ maxLen := by
  obtain ⟨a, cap, e, h1, h2, _⟩ := h
  exact ⟨a, cap, e, h1, h2.1, h2.2⟩
theorem Bytes.cel {w : World} {a : Option Addr} {n cap : Nat} {l : List UInt8} (h : Bytes w (.slice a n cap) l) {k : Nat} (hk : k < l.length) : ∃ b o, a = some ⟨b, o, none⟩ ∧ b < w.heap.size ∧ w.cell? ⟨b, o + k, none⟩ = some (.int .u8 (l[k].toNat : Int)) := by
  obtain ⟨a', cap', e, h1, h2, h⟩ := h
  cases e
  rcases h with h | ⟨b, o, rfl, hb, h⟩
  · have := congrArg List.length h; rw [List.length_map, List.length_nil] at this; omega
  · refine ⟨b, o, rfl, hb, ?_⟩
    rw [h k (by simpa using hk)]
    simp [List.getElem?_eq_getElem hk]
theorem rb_two {w w' : World} {rb t : Nat} {a b u v : Value} (h : Blk w rb #[a, b] t) (hx : LkF (kf2 (some rb) [u, v] none []) w w') : ∃ d0 d1, Blk w' rb #[d0, d1] t := by
  obtain ⟨c', e1, e2, _⟩ := hx.2.2 rb 2 _ (kf2_one rb rfl) _ _ _ h
  have e2 : c'.size = 2 := e2
  refine ⟨c'[0]'(by omega), c'[1]'(by omega), ?_⟩
  have : #[c'[0]'(by omega), c'[1]'(by omega)] = c' := by
    apply Array.ext
    · exact e2.symm
    · intro i hi hi2
      have hi3 : i < 2 := by omega
      match i, hi3 with
      | 0, _ => rfl
      | 1, _ => rfl
  unfold Blk
  rw [this]; exact e1
theorem lkf_put2 {w : World} {rb t : Nat} {d0 d1 u v : Value} (h : Blk w rb #[d0, d1] t) : LkF (kf2 (some rb) [u, v] none []) w ((w.setCell ⟨rb, 0, none⟩ u).setCell ⟨rb, 1, none⟩ v) := by
  have h2 := (h.set 0 u).set 1 v
  refine ⟨⟨rfl, rfl, rfl, by simp [World.setCell]⟩, fun k hk hn => ?_, fun g N T hg c t' f hc => ?_⟩
  · have hne : k ≠ rb := fun e => by subst e; rw [kf2_one _ rfl] at hn; cases hn
    rw [Below.heap_setCell _ _ _ _ (show k ≠ (⟨rb, 1, none⟩ : Addr).block from hne), Below.heap_setCell _ _ _ _ (show k ≠ (⟨rb, 0, none⟩ : Addr).block from hne)]
  · have hgr : rb = g := by
      unfold kf2 at hg
      by_cases q : some rb = some g
      · exact Option.some.inj q
      · rw [if_neg q, if_neg (by simp)] at hg; cases hg
    subst hgr
    rw [kf2_one _ rfl] at hg
    cases hg
    unfold Blk at h h2
    rw [h] at hc
    cases hc
    refine ⟨_, h2, rfl, fun i hi => .inr ?_⟩
    have hi : i < 2 := hi
    match i, hi with
    | 0, _ => rfl
    | 1, _ => rfl
theorem oN_some (y : Nat) : oN (some y) = ((sN y : Nat) : Int) := rfl
theorem oB_some (y : Nat) : oB (some y) = sB y := rfl
theorem Rsrk_mono (rb S : Nat) : Y.RsMono (LkF (kf2 (some rb) [.int .u64 (sN S : Nat), .bool (sB S)] none [])) (fun j => if j = 11 then some (none, fun _ _ w => Blk w rb (cc S) 117) else none) := by
  intro j y R h
  dsimp only at h
  split at h
  · cases h
    intro _ _ w w' hx hR
    obtain ⟨c', e1, e2, e3⟩ := hx.2.2 rb 2 _ (kf2_one rb rfl) _ _ _ hR
    have e2 : c'.size = 2 := e2
    have h0 := e3 0 (by omega)
    have h1 := e3 1 (by omega)
    have e0 : c'[0]? = some (.int .u64 (sN S : Nat)) := by rcases h0 with h | h <;> exact h
    have e4 : c'[1]? = some (.bool (sB S)) := by rcases h1 with h | h <;> exact h
    have : c' = cc S := by
      apply Array.ext
      · exact e2
      · intro i hi hi2
        have hi3 : i < 2 := by omega
        match i, hi3 with
        | 0, _ => exact Option.some.inj ((Array.getElem?_eq_getElem hi).symm.trans e0)
        | 1, _ => exact Option.some.inj ((Array.getElem?_eq_getElem hi).symm.trans e4)
    rw [this] at e1
    exact e1
  · cases h
theorem runA_app' (dl : Nat → Nat → Nat) : ∀ (l m : List Nat) (s : Nat), runA dl s (l ++ m) = runA dl (runA dl s l) m
  | [], _, _ => rfl
  | c :: l, m, s => runA_app' dl l m (dl s c)
set_option maxHeartbeats 4000000 in
set_option maxRecDepth 20000 in
theorem rank_any {w0 w : World} {tb gf n : Nat} {vN v : Value} {d : Dd} {x : Int} {l : List UInt8} (h : Tbl w0 w tb gf n 0 vN d (TT d.to d.lab x 0)) (hd : d.Ok) (hn : d.nx.length = n) (hb : Bytes w0 v l) (hl : l.length ≤ 64) :
    Calls Tryd.prog 77 #[.pointer (some ⟨tb, 0, none⟩), v] w fun e w' =>
      e = .returned (.tuple #[cv (rankW d.to d.lab x (txw l)), .bool (decide (d.lab (runA d.to 0 (txw l)) = x))]) ∧ Ext w0 w' := by
  obtain ⟨bN, oN, capN, rfl, hbN, hrow⟩ := h.rowAt hd hn
  have hp : 0 < n := by rw [← hn]; exact hd.pos
  have htl : ∀ s, s < n → ∀ c, c < 256 → d.to s c < n := fun s hs c hc => by have := hd.to (s := s) (by omega) hc; omega
  obtain ⟨av, cav, rfl, _⟩ := hb.shp
  obtain ⟨len, hlen⟩ : ∃ n, l.length = n := ⟨_, rfl⟩
  rw [hlen] at hb hl ⊢
  obtain ⟨bb, hbb⟩ : ∃ b, decide (d.lab (runA d.to 0 (txw l)) = x) = b := ⟨_, rfl⟩
  rw [hbb]
  have HBB := Lib.hid hbb
  obtain ⟨RW, hRW⟩ : ∃ r, rankW d.to d.lab x (txw l) = r := ⟨_, rfl⟩
  rw [hRW]
  have HRW := Lib.hid hRW
  clear hbb hRW
  have x1 := ext_box w #[.int .u64 0, .bool false] 117
  have HRB := Lib.hid (Blk.new w #[.int .u64 0, .bool false] 117)
  have HT := Lib.hid (h.ext x1)
  have HW0 := Lib.hid h.ex.size
  have HO := Lib.hid hd
  have HN := Lib.hid hn
  have HBy := Lib.hid hb
  have HTL := Lib.hid htl
  have HRow := Lib.hid hrow
  have HLN := Lib.hid hlen
  clear x1 h hd hn hb htl hrow hlen
  go_enter Tryd.func77, Tryd.ntmps77
  go_wp2_with fail
  obtain ⟨rb, hrb⟩ : ∃ b, w.heap.size = b := ⟨_, rfl⟩
  simp only [hrb] at HRB ⊢
  have HW0 : Hid (w0.heap.size ≤ rb) := by rw [hrb] at HW0; exact HW0
  generalize w.alloc (.cells #[.int .u64 0, .bool false] 117) = w1 at *
  clear hrb
  refine (exactly_zero w1).mono ?_
  rintro e w2 ⟨rfl, e2⟩
  have x2 := ext_box w2 #[.int .u64 0, .bool true] 117
  have HSB := Lib.hid (show Blk (w2.alloc (.cells #[.int .u64 0, .bool true] 117)) w2.heap.size (cc 0) 117 by rw [cc_zero]; exact Blk.new w2 _ _)
  have HT := Lib.hid (HT.out.ext (bel_call e2 x2))
  have HRS := Lib.hid (show rb < w2.heap.size from (HRB.out.ext e2).lt)
  have HRB := Lib.hid (HRB.out.ext (bel_call e2 x2))
  go_upto_region 2 with fail
  clear e2 x2
  obtain ⟨sb, hsb⟩ : ∃ b, w2.heap.size = b := ⟨_, rfl⟩
  simp only [hsb] at HSB HRS ⊢
  generalize w2.alloc (.cells #[.int .u64 0, .bool true] 117) = w3 at *
  clear hsb
  go_wp2_with fail
  go_loopw [14] (fun s14 wr => ∃ i kk : Nat, i ≤ len ∧ kk ≤ 64 ∧ i ≤ kk + 1 ∧ s14 = .int .i64 i ∧ Hid (Blk wr sb (cc (below d.to d.lab x i)) 117) ∧ Hid (Blk wr rb #[.int .u64 0, .bool false] 117) ∧ Hid (Tbl w0 wr tb gf n kk (.slice (some ⟨bN, oN, none⟩) n capN) d (TT d.to d.lab x kk))) (fun s14 _ => len - (intOf s14).toNat)
  case atStart => exact ⟨0, 0, Nat.zero_le _, by omega, by omega, rfl, HSB, HRB, HT⟩
  case round =>
    clear HSB HRB HT
    obtain ⟨i, kk, hi, hkk, hik, rfl, hS, hR, hT⟩ := hrel
    by_cases hil : i < len
    · go_wp2_with fail
      refine (words_any (l := i) hT.out HO.out HN.out (by omega) hkk).mono ?_
      rintro e w4 ⟨k3, hk3, rfl, t3, f3⟩
      have hn1 : sb ≠ tb := fun e => hT.out.bk.ne_sb hS.out (by decide) e.symm
      have hn2 : sb ≠ gf := fun e => hT.out.fm.ne_blk hS.out (by decide) e.symm
      have hn3 : rb ≠ tb := fun e => hT.out.bk.ne_sb hR.out (by decide) e.symm
      have hn4 : rb ≠ gf := fun e => hT.out.fm.ne_blk hR.out (by decide) e.symm
      have S3 := Lib.hid (f3.blk hS.out (fun q => q.elim hn1 hn2))
      have R3 := Lib.hid (f3.blk hR.out (fun q => q.elim hn3 hn4))
      have T3 := Lib.hid t3
      have hk64 : k3 ≤ 64 := by omega
      have hik3 : i + 1 ≤ k3 + 1 := by omega
      clear t3 f3 hS hR hT hn1 hn2 hn3 hn4 hk3
      go_wp2_with fail
      refine (add_any sb _ _ w4 S3.out).mono ?_
      rintro e w5 ⟨rfl, b5, f5⟩
      have T5 := Lib.hid (T3.out.fr f5 (fun g q => by have := HRS.out; have := HW0.out; omega) (fun e => T3.out.bk.ne_sb S3.out (by decide) e) (fun e => T3.out.fm.ne_blk S3.out (by decide) e))
      have R5 := Lib.hid (f5.blk R3.out (fun e => by have := HRS.out; omega))
      have S5 := Lib.hid (show Blk w5 sb (cc (below d.to d.lab x (i + 1))) 117 from b5)
      clear T3 R3 S3 b5 f5
      go_wp2_with fail
      go_roundw
      case rel => exact ⟨i + 1, k3, by omega, hk64, hik3, by go_num, S5, R5, T5⟩
      case measure => simp [intOf]; omega
    · obtain rfl : len = i := by omega
      have HRK := Lib.hid (show below d.to d.lab x len + rankS d.to d.lab x 0 ((txw l).drop 0) = RW by rw [← HRW.out]; unfold rankW; rw [txw_len, HLN.out]; rfl)
      have HRA := Lib.hid (show runA d.to 0 ((txw l).take 0) = 0 from rfl)
      clear hi
      go_wp2_with fail
      go_loopw [8, 24] (fun s8 s24 wr => ∃ i s S : Nat, i ≤ len ∧ s < n ∧ s24 = .int .i64 i ∧ s8 = .int .i64 s ∧ Hid (S + rankS d.to d.lab x s ((txw l).drop i) = RW) ∧ Hid (runA d.to 0 ((txw l).take i) = s) ∧ Hid (Blk wr sb (cc S) 117) ∧ Hid (Blk wr rb #[.int .u64 0, .bool false] 117) ∧ Hid (Tbl w0 wr tb gf n kk (.slice (some ⟨bN, oN, none⟩) n capN) d (TT d.to d.lab x kk))) (fun _ s24 _ => len - (intOf s24).toNat)
      case atStart => exact ⟨0, 0, _, Nat.zero_le _, hp, rfl, rfl, HRK, HRA, hS, hR, hT⟩
      case round =>
        clear HRK HRA hS hR hT
        obtain ⟨i, s, S, hi, hsn, rfl, rfl, hE, hA, hS, hR, hT⟩ := hrel
        by_cases hil : i < len
        · have hil2 : i < l.length := by rw [HLN.out]; exact hil
          obtain ⟨bW, oW, rfl, hbW, hcW⟩ := HBy.out.cel hil2
          obtain ⟨m, hm⟩ : ∃ m, len - i = m + 1 := ⟨len - i - 1, by omega⟩
          have hmi : (len : Int) - (i : Int) = (m : Int) + 1 := by omega
          have hdr : (txw l).drop i = l[i].toNat :: (txw l).drop (i + 1) := by
            rw [List.drop_eq_getElem_cons (by rw [txw_len]; exact hil2), txw_get hil2]
          have hdl : ((txw l).drop (i + 1)).length = m := by rw [List.length_drop, txw_len, HLN.out]; omega
          have htk : (txw l).take (i + 1) = (txw l).take i ++ [l[i].toNat] := by
            rw [List.take_succ_eq_append_getElem (by rw [txw_len]; exact hil2), txw_get hil2]
          have hc6 : l[i].toNat < 256 := l[i].toNat_lt
          obtain ⟨c, hc⟩ : ∃ c, l[i].toNat = c := ⟨_, rfl⟩
          rw [hc] at hcW hdr htk hc6
          have ht := HTL.out s hsn c hc6
          obtain ⟨t, htq⟩ : ∃ t, d.to s c = t := ⟨_, rfl⟩
          have hE2 : S + sumB (fun b => cnt d.to d.lab x m (d.to s b)) c + rankS d.to d.lab x t ((txw l).drop (i + 1)) = RW := by
            rw [← hE.out, hdr, rankS, hdl, htq]; omega
          have hA2 : runA d.to 0 ((txw l).take (i + 1)) = t := by rw [htk, runA_app', hA.out]; exact htq
          have HE2 := Lib.hid hE2
          have HA2 := Lib.hid hA2
          have HTQ := Lib.hid htq
          obtain ⟨aR, cR, L, hcR, hIR, hLL, hLc, hto⟩ := HRow.out s hsn
          have hcl : c < L.length := by omega
          obtain ⟨bE, oE, rfl, hbE, hcE, -⟩ := hIR.cell hcl
          rw [hto c hcl, htq] at hcE
          have y0 := (hT.out.ex.cell (p := ⟨bW, oW + i, none⟩) hbW).trans hcW
          have HBel := Lib.hid (below_any (b := c) (m := m) (f := fun t => cnt d.to d.lab x m t) hT.out HO.out HN.out hsn (by omega) (by omega) (fun t _ => if_pos (by omega)) hS.out (by have := HRS.out; have := HW0.out; omega))
          have HcR := Lib.hid hcR
          have HcE := Lib.hid hcE
          clear hE hA hdr hdl htk hc hE2 hA2 hto hcW hIR hcl hLL htq hcR hcE
          go_wp2_with fail
          refine HBel.out.mono ?_
          rintro e w5 ⟨rfl, b5, f5⟩
          have T5 := Lib.hid (hT.out.fr f5 (fun g q => by have := HRS.out; have := HW0.out; omega) (fun e => hT.out.bk.ne_sb hS.out (by decide) e) (fun e => hT.out.fm.ne_blk hS.out (by decide) e))
          have R5 := Lib.hid (f5.blk hR.out (fun e => by have := HRS.out; omega))
          have S5 := Lib.hid b5
          clear hT hR hS b5 f5 HBel y0
          have z0 := T5.out.bk.cell 0
          have y1 := (T5.out.ex.cell (p := ⟨bN, oN + s, none⟩) hbN).trans HcR.out
          have y2 := (T5.out.ex.cell (p := ⟨bE, oE + c, none⟩) hbE).trans HcE.out
          rw [HTQ.out] at ht
          go_wp2_with fail
          go_roundw
          case rel => exact ⟨i + 1, t, _, by omega, ht, by go_num, rfl, HE2, HA2, S5, R5, T5⟩
          case measure => simp [intOf]; omega
        · obtain rfl : i = len := by omega
          have hS0 : S = RW := by
            have := hE.out
            rw [List.drop_eq_nil_of_le (by rw [txw_len, HLN.out]; exact Nat.le_refl _), rankS] at this
            omega
          subst hS0
          have hA2 : runA d.to 0 (txw l) = s := by
            have := hA.out
            rwa [List.take_of_length_le (by rw [txw_len, HLN.out]; exact Nat.le_refl _)] at this
          have HDL := Lib.hid (show decide (d.lab s = x) = bb by rw [← HBB.out, hA2])
          clear hE hA hA2
          obtain ⟨c1v, hc1v⟩ : ∃ y, cnt d.to d.lab x 0 s = y := ⟨_, rfl⟩
          have hTT : TT d.to d.lab x kk s 0 = some c1v := by rw [← hc1v]; exact if_pos (Nat.zero_le _)
          have HTT := Lib.hid hTT
          have hq : (d.lab s = x ∧ c1v = 1) ∨ (¬ d.lab s = x ∧ c1v = 0) := by
            rw [cnt] at hc1v
            by_cases q : d.lab s = x
            · rw [if_pos q] at hc1v; exact .inl ⟨q, hc1v.symm⟩
            · rw [if_neg q] at hc1v; exact .inr ⟨q, hc1v.symm⟩
          have nSb := Lib.hid (show kf2 (some rb) [.int .u64 (sN S : Nat), .bool (sB S)] none [] sb = none from kf2_none (fun q => by have := Option.some.inj q; have := HRS.out; omega) (by simp))
          have nTb := Lib.hid (show kf2 (some rb) [.int .u64 (sN S : Nat), .bool (sB S)] none [] tb = none from kf2_none (fun q => hT.out.bk.ne_sb hR.out (by decide) (Option.some.inj q).symm) (by simp))
          have nGf := Lib.hid (show kf2 (some rb) [.int .u64 (sN S : Nat), .bool (sB S)] none [] gf = none from kf2_none (fun q => hT.out.fm.ne_blk hR.out (by decide) (Option.some.inj q).symm) (by simp))
          have C0 := Lib.hid (hT.out.fm.cellz0 hsn)
          have C1 := Lib.hid (hT.out.fm.cellz1 hsn)
          rw [HTT.out] at C0 C1
          clear hTT hc1v
          go_wp2_with fail
          rcases hq with ⟨q, rfl⟩ | ⟨q, rfl⟩
          · have e1 : bb = true := by rw [← HDL.out]; exact decide_eq_true q
            subst e1
            have C0 : Hid (wr.cell? ⟨gf, s * 130, none⟩ = some (.int .u64 1)) := Lib.hid (by have := C0.out; rw [oN_some, sN_of (show 1 < T64 by decide)] at this; exact this)
            have C1 : Hid (wr.cell? ⟨gf, s * 130 + 1, none⟩ = some (.bool true)) := Lib.hid (by have := C1.out; rw [oB_some, sB_of (show 1 < T64 by decide)] at this; exact this)
            clear q
            refine Y.wp_region_tail (G := LkF (kf2 (some rb) [.int .u64 (sN S : Nat), .bool (sB S)] none [])) (fun j => if j = 11 then some (none, fun _ _ w => Blk w rb (cc S) 117) else none) 12 (by kernel_rfl) (by kernel_rfl) (Rsrk_mono rb S) (fun hex => ?_)
            simp only [List.take_succ_cons, List.take_zero, List.drop_succ_cons, List.drop_zero]
            iterate 9
              (refine Y.wpS_one (A := ?_) hex rfl rfl (by simp) ?_ ?_ ?_
               rotate_left 2
               · intro w' hC K hK
                 have z1 := (hC.1.blk hT.out.bk nTb.out).cell 1; have y0 := (hC.1.blk hS.out nSb.out).cell 0; have y1 := (hC.1.blk hS.out nSb.out).cell 1; have c0 := lkf_cell hC.1 nGf.out C0.out; have c1 := lkf_cell hC.1 nGf.out C1.out
                 go_wp2_with (fail)
                 refine hK _ ?_
                 first | exact LkF.refl _ | exact LkF.of_ext (by assumption)
               rotate_left 1
               · rfl
               clear hex; intro hex)
            refine Y.wpS_one (A := ?_) hex rfl rfl (by simp) ?_ ?_ ?_
            rotate_left 2
            · intro w' hC K hK
              go_wp2_with (go_at_call 117; with_reducible refine (exactly_zero w').mono ?_; rintro e w9 ⟨rfl, hb9⟩)
              refine hK _ ?_
              first | exact LkF.refl _ | exact LkF.of_ext (by assumption)
            rotate_left 1
            · rfl
            clear hex; intro hex
            refine Y.wpS_one (A := ?_) hex rfl rfl (by simp) ?_ ?_ ?_
            rotate_left 2
            · intro w' hC K hK
              go_wp2_with (fail)
              refine hK _ ?_
              first | exact LkF.refl _ | exact LkF.of_ext (by assumption)
            rotate_left 1
            · rfl
            clear hex; intro hex
            refine Y.wpS_said none (fun _ _ w => Blk w rb (cc S) 117) rfl (fun _ h => nomatch h) rfl (by first | rfl | (simp [Region.wanted, yielded]; done)) (fun _ _ _ _ h => h) ?_ ?_
            · intro w' hC K hK
              obtain ⟨d0, d1, hbk⟩ := rb_two hR.out hC.1
              have p0 := hbk.cell 0
              have p1 := hbk.cell 1
              have f0 := hbk.free 0
              have f1 := hbk.free 1
              go_wp2_with fail
              exact hK _ (lkf_put2 hbk) ((hbk.set 0 (.int .u64 (sN S : Nat))).set 1 (.bool (sB S)))
            clear hex
            intro hex
            refine Y.wpS_nil fun w8 hAll => ?_
            have hb8 : Blk w8 rb (cc S) 117 := (hAll.2 11).1 rfl
            have r0 := hb8.cell 0
            have r1 := hb8.cell 1
            have EX := Lib.hid (Below.trans hT.out.ex (hAll.1.below hT.out.ex.size (fun g hg => kf2_none (fun q => by have := Option.some.inj q; have := HW0.out; omega) (by simp))))
            clear hAll hex hb8
            go_wp2_with fail
            refine bodyPost_ret (v := .tuple #[cv S, .bool true]) (by simp [results, Tryd.results77, go_sem, r0, r1]) rfl ⟨rfl, EX.out⟩
          · have e1 : bb = false := by rw [← HDL.out]; exact decide_eq_false q
            subst e1
            have C0 : Hid (wr.cell? ⟨gf, s * 130, none⟩ = some (.int .u64 0)) := Lib.hid (by have := C0.out; rw [oN_some, sN_of (show 0 < T64 by decide)] at this; exact this)
            have C1 : Hid (wr.cell? ⟨gf, s * 130 + 1, none⟩ = some (.bool true)) := Lib.hid (by have := C1.out; rw [oB_some, sB_of (show 0 < T64 by decide)] at this; exact this)
            clear q
            refine Y.wp_region_tail (G := LkF (kf2 (some rb) [.int .u64 (sN S : Nat), .bool (sB S)] none [])) (fun j => if j = 11 then some (none, fun _ _ w => Blk w rb (cc S) 117) else none) 12 (by kernel_rfl) (by kernel_rfl) (Rsrk_mono rb S) (fun hex => ?_)
            simp only [List.take_succ_cons, List.take_zero, List.drop_succ_cons, List.drop_zero]
            iterate 9
              (refine Y.wpS_one (A := ?_) hex rfl rfl (by simp) ?_ ?_ ?_
               rotate_left 2
               · intro w' hC K hK
                 have z1 := (hC.1.blk hT.out.bk nTb.out).cell 1; have y0 := (hC.1.blk hS.out nSb.out).cell 0; have y1 := (hC.1.blk hS.out nSb.out).cell 1; have c0 := lkf_cell hC.1 nGf.out C0.out; have c1 := lkf_cell hC.1 nGf.out C1.out
                 go_wp2_with (fail)
                 refine hK _ ?_
                 first | exact LkF.refl _ | exact LkF.of_ext (by assumption)
               rotate_left 1
               · rfl
               clear hex; intro hex)
            refine Y.wpS_one (A := ?_) hex rfl rfl (by simp) ?_ ?_ ?_
            rotate_left 2
            · intro w' hC K hK
              go_wp2_with (go_at_call 117; with_reducible refine (exactly_zero w').mono ?_; rintro e w9 ⟨rfl, hb9⟩)
              refine hK _ ?_
              first | exact LkF.refl _ | exact LkF.of_ext (by assumption)
            rotate_left 1
            · rfl
            clear hex; intro hex
            refine Y.wpS_one (A := ?_) hex rfl rfl (by simp) ?_ ?_ ?_
            rotate_left 2
            · intro w' hC K hK
              go_wp2_with (fail)
              refine hK _ ?_
              first | exact LkF.refl _ | exact LkF.of_ext (by assumption)
            rotate_left 1
            · rfl
            clear hex; intro hex
            refine Y.wpS_said none (fun _ _ w => Blk w rb (cc S) 117) rfl (fun _ h => nomatch h) rfl (by first | rfl | (simp [Region.wanted, yielded]; done)) (fun _ _ _ _ h => h) ?_ ?_
            · intro w' hC K hK
              obtain ⟨d0, d1, hbk⟩ := rb_two hR.out hC.1
              have p0 := hbk.cell 0
              have p1 := hbk.cell 1
              have f0 := hbk.free 0
              have f1 := hbk.free 1
              go_wp2_with fail
              exact hK _ (lkf_put2 hbk) ((hbk.set 0 (.int .u64 (sN S : Nat))).set 1 (.bool (sB S)))
            clear hex
            intro hex
            refine Y.wpS_nil fun w8 hAll => ?_
            have hb8 : Blk w8 rb (cc S) 117 := (hAll.2 11).1 rfl
            have r0 := hb8.cell 0
            have r1 := hb8.cell 1
            have EX := Lib.hid (Below.trans hT.out.ex (hAll.1.below hT.out.ex.size (fun g hg => kf2_none (fun q => by have := Option.some.inj q; have := HW0.out; omega) (by simp))))
            clear hAll hex hb8
            go_wp2_with fail
            refine bodyPost_ret (v := .tuple #[cv S, .bool false]) (by simp [results, Tryd.results77, go_sem, r0, r1]) rfl ⟨rfl, EX.out⟩
end Go.Proofs.YtniamfaiamgncaaDoor
