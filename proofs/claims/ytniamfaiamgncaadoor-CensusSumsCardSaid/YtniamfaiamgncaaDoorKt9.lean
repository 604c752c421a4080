/- Package census: the word at a place among those of one length. -/
import Derived.Test.YtniamfaiamgncaaDoorKt8
import Derived.Test.YtniamfaiamgncaaDoorLkf
namespace Go.Proofs.YtniamfaiamgncaaDoor
open Go Go.RowKit
abbrev bv (c : Nat) : Value := .int .u8 (c : Int)
theorem info_by : (Tryd.prog.info? 5).map (fun i => (i.zero, i.size, i.bytes)) = some (some (.int .u8 0), 1, 1) := by kernel_rfl
theorem bv_one (x : Nat) : ∀ u ∈ [bv x], u.oneCell' = true := by
  intro u hu
  rw [List.mem_singleton.1 hu]; rfl
def leftw (v : Value) (w : World) : Nat := match v with
  | .pointer (some a) => match w.cell? a with | some v => (intOf v + 1).toNat | none => 0
  | _ => 0
theorem findB_snd (f : Nat → Nat) : ∀ (n b k : Nat), (findB f n b k).2 ≤ k
  | 0, _, _ => Nat.le_refl _
  | n + 1, b, k => by
    rw [findB]
    split
    · exact Nat.le_refl _
    · have := findB_snd f n (b + 1) (k - f b)
      omega
theorem wordS_step {dl : Nat → Nat → Nat} {lab : Nat → Int} {x : Int} {m s k c k' : Nat} (h : findB (fun c => cnt dl lab x m (dl s c)) 256 0 k = (c, k')) : wordS dl lab x (m + 1) s k = c :: wordS dl lab x m (dl s c) k' := by
  show (findB _ 256 0 k).1 :: wordS dl lab x m (dl s (findB _ 256 0 k).1) (findB _ 256 0 k).2 = _
  rw [h]
theorem Tbl.rowAt {w0 w : World} {tb gf n k : Nat} {vN : Value} {d : Dd} {T : Nat → Nat → Option Nat} (h : Tbl w0 w tb gf n k vN d T) (hd : d.Ok) (hn : d.nx.length = n) :
    ∃ bR oR cap, vN = .slice (some ⟨bR, oR, none⟩) n cap ∧ bR < w0.heap.size ∧ ∀ s, s < n → ∃ (aR : Option Addr) (cR : Nat) (L : List Int), w0.cell? ⟨bR, oR + s, none⟩ = some (.slice aR 256 cR) ∧ Ints w0 (.slice aR 256 cR) L ∧ L.length = 256 ∧ 256 ≤ cR ∧ ∀ (i : Nat) (h : i < L.length), L[i] = ((d.to s i : Nat) : Int) := by
  have hp := hd.pos
  obtain ⟨p, cap, rfl, _⟩ := h.nx.shape
  obtain ⟨b0, o0, a0, c0, rfl, hb0, -⟩ := h.nx.cell hp
  refine ⟨b0, o0, cap, by rw [hn], hb0, fun s hs => ?_⟩
  have hsd : s < d.nx.length := by omega
  obtain ⟨bR, oR, aR, cR, e, _, hcR, hIR, _⟩ := h.nx.cell hsd
  cases e
  have hr1 : d.nx[s].length = 256 := by have := hd.row s hsd; rwa [getD_get hsd] at this
  obtain ⟨_, c', e, hle, _⟩ := hIR.shape
  rw [hr1] at hcR hIR e hle
  cases e
  exact ⟨aR, cR, d.nx[s], hcR, hIR, hr1, hle, fun i hi => dd_nx hd hsd (by omega)⟩
theorem own_xx {w w' : World} {B e sz n : Nat} {v : Value} {xs : List Value} (h : w.ownsRow B e sz v n xs) (hx : Ext w w') : w'.ownsRow B e sz v n xs := (Fr.of_ext (S := fun _ => False) hx).own h (fun _ _ q => q)
theorem leftw_blk {w : World} {lb m : Nat} {t : TypeId} (h : Blk w lb #[.int .i64 ((m : Int) - 1)] t) : leftw (.pointer (some ⟨lb, 0, none⟩)) w = m := by
  have : w.cell? ⟨lb, 0, none⟩ = some (.int .i64 ((m : Int) - 1)) := h.cell 0
  unfold leftw
  simp only [this, intOf]
  omega
/-- What the loop over a word's bytes keeps. -/
structure Wrd (w0 w1 wr : World) (tb gf n kk : Nat) (vN : Value) (d : Dd) (x : Int) (kb tx lb m s k len : Nat) (v : Value) (acc W : List Nat) : Prop where
  tbl : Tbl w0 wr tb gf n kk vN d (TT d.to d.lab x kk)
  txb : Blk wr tx #[.pointer (some ⟨tb, 0, none⟩)] 118
  lbb : Blk wr lb #[.int .i64 ((m : Int) - 1)] 3
  kbb : Blk wr kb (pcl k) 122
  row : wr.ownsRow w1.heap.size 5 1 v acc.length (acc.map bv)
  len : acc.length + m = len
  wrd : acc ++ wordS d.to d.lab x m s k = W
  lt : k < cnt d.to d.lab x m s
  lt2 : k < T64
  sn : s < n
  ex : Ext w1 wr
set_option maxHeartbeats 4000000 in
set_option maxRecDepth 20000 in
theorem word_any {w0 w : World} {tb gf n kk len k : Nat} {vN : Value} {d : Dd} {x : Int} (h : Tbl w0 w tb gf n kk vN d (TT d.to d.lab x kk)) (hd : d.Ok) (hn : d.nx.length = n) (hl : len ≤ kk) (hk : kk ≤ 64) (hkc : k < cnt d.to d.lab x len 0) (hkT : k < T64) :
    Calls Tryd.prog 121 #[.pointer (some ⟨tb, 0, none⟩), .int .i64 (len : Int), .int .u64 (k : Int)] w fun e w' =>
      ∃ v, e = .returned v ∧ w'.ownsRow w.heap.size 5 1 v len ((wordS d.to d.lab x len 0 k).map bv) ∧ Ext w w' := by
  have hp : 0 < n := by rw [← hn]; exact hd.pos
  have hl64 : len ≤ 64 := by omega
  have h6 : n ≤ 600 := by rw [← hn]; exact hd.le
  obtain ⟨bN, oN, capN, rfl, hbN, hrow⟩ := h.rowAt hd hn
  have HRow := Lib.hid hrow
  have htl : ∀ s, s < n → ∀ c, c < 256 → d.to s c < n := fun s hs c hc => by have := hd.to (s := s) (by omega) hc; omega
  have HTL := Lib.hid htl
  obtain ⟨W, hW⟩ : ∃ W, wordS d.to d.lab x len 0 k = W := ⟨_, rfl⟩
  rw [hW]
  have x1 := ext_box w #[.pointer (some ⟨tb, 0, none⟩)] 118
  have x2 := ext_box (w.alloc (.cells #[.pointer (some ⟨tb, 0, none⟩)] 118)) (pcl k) 122
  have x3 := ext_box ((w.alloc (.cells #[.pointer (some ⟨tb, 0, none⟩)] 118)).alloc (.cells (pcl k) 122)) #[.int .i64 ((len : Int) - 1)] 3
  obtain ⟨wA, hwA⟩ : ∃ wA, w.alloc (.cells #[.pointer (some ⟨tb, 0, none⟩)] 118) = wA := ⟨_, rfl⟩
  obtain ⟨wB, hwB⟩ : ∃ wB, wA.alloc (.cells (pcl k) 122) = wB := ⟨_, rfl⟩
  have hsA : wA.heap.size = w.heap.size + 1 := by rw [← hwA]; exact Array.size_push _
  have hsB : wB.heap.size = w.heap.size + 1 + 1 := by rw [← hwB, ← hsA]; exact Array.size_push _
  rw [hwA] at x1 x2 x3
  rw [hwB] at x2 x3
  have HX := Lib.hid (bel_call (bel_call x1 x2) x3)
  have HTX := Lib.hid (((by rw [← hwA]; exact Blk.new w _ _ : Blk wA w.heap.size #[.pointer (some ⟨tb, 0, none⟩)] 118).ext x2).ext x3)
  have HKB := Lib.hid ((by rw [← hsA, ← hwB]; exact Blk.new wA _ _ : Blk wB (w.heap.size + 1) (pcl k) 122).ext x3)
  have HLB := Lib.hid (by rw [← hsB]; exact Blk.new wB _ _ : Blk (wB.alloc (.cells #[.int .i64 ((len : Int) - 1)] 3)) (w.heap.size + 1 + 1) #[.int .i64 ((len : Int) - 1)] 3)
  have HO := Lib.hid hd
  have HN := Lib.hid hn
  have HKK := Lib.hid (And.intro hl hk)
  have HW0 := Lib.hid h.ex.size
  have HT := Lib.hid (h.ext HX.out)
  have HLC := Lib.hid (And.intro hkc hkT)
  have HWq := Lib.hid hW
  obtain ⟨i0, hi0, hz0, hz1, hz2⟩ := info_parts info_by
  clear x1 x2 x3 h hd hn hl hk hkc hkT hW hrow htl
  go_enter Tryd.func121, Tryd.ntmps121
  go_wp2_with fail
  show Code.wp _ _ _ _ (wB.alloc (.cells #[.int .i64 ((len : Int) - 1)] 3))
  generalize wB.alloc (.cells #[.int .i64 ((len : Int) - 1)] 3) = w1 at *
  clear hwA hwB hsA hsB
  have L0 := Lib.hid (show Wrd w0 w w1 tb gf n kk (.slice (some ⟨bN, oN, none⟩) n capN) d x (w.heap.size + 1) w.heap.size (w.heap.size + 1 + 1) len 0 k len (.slice none 0 0) [] W from
    ⟨HT.out, HTX.out, HLB.out, HKB.out, own_nil _ _ _ _, by simp, by rw [← HWq.out]; rfl, HLC.out.1, HLC.out.2, hp, HX.out⟩)
  obtain ⟨lb, hlb⟩ : ∃ b, w.heap.size + 1 + 1 = b := ⟨_, rfl⟩
  obtain ⟨kb, hkb⟩ : ∃ b, w.heap.size + 1 = b := ⟨_, rfl⟩
  obtain ⟨tx, htx⟩ : ∃ b, w.heap.size = b := ⟨_, rfl⟩
  have HBS := Lib.hid (show w.heap.size = tx ∧ tx < kb ∧ w0.heap.size ≤ tx by have := HW0.out; omega)
  rw [hlb, hkb] at L0
  simp only [hlb]
  simp only [hkb]
  have L0 : Hid (Wrd w0 w w1 tb gf n kk (.slice (some ⟨bN, oN, none⟩) n capN) d x kb tx lb len 0 k len (.slice none 0 0) [] W) := by rw [← htx]; exact L0
  simp only [htx]
  clear HTX HKB HLB HT HLC HX htx hkb hlb HWq HW0
  go_loopw [7, 8, 9] (fun s7 s8 s9 wr => ∃ (m s k' lb : Nat) (acc : List Nat), s8 = .int .i64 s ∧ s9 = .pointer (some ⟨lb, 0, none⟩) ∧ Hid (Wrd w0 w wr tb gf n kk (.slice (some ⟨bN, oN, none⟩) n capN) d x kb tx lb m s k' len s7 acc W)) (fun _ _ s9 wr => leftw s9 wr)
  case atStart => exact ⟨len, 0, k, lb, [], rfl, rfl, L0⟩
  case round =>
    clear L0
    obtain ⟨m, s, k', lb, acc, rfl, rfl, hL⟩ := hrel
    have z9 := hL.out.lbb.cell 0
    cases m with
    | zero =>
      have ha : acc = W := by have := hL.out.wrd; simpa [wordS] using this
      have hal : acc.length = len := by have := hL.out.len; omega
      have OR := hL.out.row
      rw [hal, ha] at OR
      have OR := Lib.hid OR
      have EX := Lib.hid hL.out.ex
      clear hL ha hal
      go_wp2_with fail
      go_ret
      exact ⟨_, rfl, OR.out, EX.out⟩
    | succ m =>
      have em : (((m + 1 : Nat) : Int) - 1) = (m : Int) := by omega
      have hlb := hL.out.lbb
      rw [em] at hlb
      clear z9 em
      have z9 := hlb.cell 0
      have q3 := hL.out.txb.cell 0
      have z0 := hL.out.tbl.bk.cell 0
      have hs := hL.out.sn
      obtain ⟨aR, cR, L, hcR, hIR, hLL, hLc, hto⟩ := HRow.out s hs
      have y1 := (hL.out.tbl.ex.cell (p := ⟨bN, oN + s, none⟩) hbN).trans hcR
      have hkbl : w0.heap.size ≤ kb := by have := HBS.out; omega
      have HI := Lib.hid (idx_any (s := s) ⟨hL.out.tbl, hL.out.txb, hlb, hkbl⟩ hL.out.kbb hL.out.lt2 (show m ≤ kk by have := hL.out.len; have := HKK.out.1; omega) HKK.out.2 hIR hLL hto (HTL.out s hs) hL.out.lt)
      have HLB := Lib.hid hlb
      clear hlb hkbl
      go_wp2_with fail
      refine HI.out.mono ?_
      rintro e w5 ⟨c, k2, hfb, rfl, hb5, hf5⟩
      have hlt := hL.out.lt
      rw [cnt] at hlt
      obtain ⟨c', _, hc6, hc1, hc2, _⟩ := findB_spec (fun c => cnt d.to d.lab x m (d.to s c)) 256 0 k' (by simpa using hlt)
      rw [hfb] at hc1 hc2
      have hc1 : c = c' := hc1
      subst hc1
      have hc2 : k2 < cnt d.to d.lab x m (d.to s c) := hc2
      have hc6 : c < 256 := by omega
      have ht := HTL.out s hs c hc6
      have HM0 := Lib.hid (leftw_blk hL.out.lbb)
      have HC2 := Lib.hid hc2
      obtain ⟨t, htq⟩ : ∃ t, d.to s c = t := ⟨_, rfl⟩
      have hil : c < L.length := by rw [hLL]; exact hc6
      obtain ⟨bE, oE, rfl, hbE, hcE, -⟩ := hIR.cell hil
      rw [hto c hil, htq] at hcE
      have hne1 : tb ≠ kb := hL.out.tbl.bk.ne_sb hL.out.kbb (by decide)
      have T5 := Lib.hid (hL.out.tbl.fr hf5 (fun g q => by have := HBS.out; omega) hne1 (fun e => hL.out.tbl.fm.ne_blk hL.out.kbb (by decide) e))
      have TX5 := Lib.hid (hf5.blk hL.out.txb (fun e => hL.out.txb.ne_sb hL.out.kbb (by decide) e))
      have LB5 := Lib.hid (hf5.blk HLB.out (fun e => HLB.out.ne_sb hL.out.kbb (by decide) e))
      have KB5 := Lib.hid hb5
      have OR5 := hf5.own hL.out.row (fun g hg e => own_ne_blk hL.out.row hL.out.kbb (by decide) (by rw [hg, e]))
      have EX5 := Lib.hid (Below.trans hL.out.ex (hf5.below hL.out.ex.size (fun g hg e => by have := HBS.out; omega)))
      have HLEN := Lib.hid hL.out.len
      have HWD := Lib.hid (show (acc ++ [c]) ++ wordS d.to d.lab x m t k2 = W by rw [← hL.out.wrd, wordS_step hfb, htq]; simp)
      have hk2 : k2 < T64 := by
        have := (findB_snd (fun c => cnt d.to d.lab x m (d.to s c)) 256 0 k')
        rw [hfb] at this
        have := hL.out.lt2
        omega
      have HTQ := Lib.hid htq
      obtain ⟨na, hna⟩ : ∃ n, acc.length = n := ⟨_, rfl⟩
      rw [hna] at OR5
      have HNA := Lib.hid hna
      have hna64 : na ≤ 64 := by have := HLEN.out; omega
      obtain ⟨av, cv', rfl⟩ := own_shp OR5
      have Y1 := Lib.hid (show w5.cell? ⟨bN, oN + s, none⟩ = _ from (T5.out.ex.cell (p := ⟨bN, oN + s, none⟩) hbN).trans hcR)
      have Y2 := Lib.hid (show w5.cell? ⟨bE, oE + c, none⟩ = _ from (T5.out.ex.cell (p := ⟨bE, oE + c, none⟩) hbE).trans hcE)
      have Z0 := Lib.hid (show w5.cell? ⟨tb, 0, none⟩ = _ from T5.out.bk.cell 0)
      have Q3 := Lib.hid (show w5.cell? ⟨tx, 0, none⟩ = _ from TX5.out.cell 0)
      have HX := Lib.hid (fun g (hg : (Value.slice av na cv').ownBlock = some g) => World.ownsRow.lt OR5 g hg)
      have HKN := Lib.hid (fun g (h1 : (Value.slice av na cv').ownBlock ≠ some g) => kf2_none (X2 := none) (ys1 := acc.map bv ++ [bv c]) (ys2 := []) h1 (by simp))
      have HKH := Lib.hid (fun g (hg : w5.heap.size ≤ g) => HKN.out g (fun q => by have := HX.out g q; omega))
      have HKB := Lib.hid (fun g (hg : g < w.heap.size) => HKN.out g (fun q => by have := HX.out g q; omega))
      have nTb := Lib.hid (HKN.out tb (own_ne_blk OR5 T5.out.bk (by decide)))
      have nTx := Lib.hid (HKN.out tx (own_ne_blk OR5 TX5.out (by decide)))
      have nLb := Lib.hid (HKN.out lb (own_ne_blk OR5 LB5.out (by decide)))
      have nKb := Lib.hid (HKN.out kb (own_ne_blk OR5 KB5.out (by decide)))
      have nBn := Lib.hid (HKB.out bN (by have := HBS.out; omega))
      have nBe := Lib.hid (HKB.out bE (by have := HBS.out; omega))
      have OW := Lib.hid OR5
      have hbase : w.heap.size ≤ w5.heap.size := EX5.out.size
      have hcc : (c : Int) % 256 = (c : Int) := by omega
      clear hL hlt hfb hc1 hc2 hc6 htq hil hcE hne1 hb5 hf5 OR5 hna z9 q3 z0 y1 HI hcR hLc HLB
      go_upto_region 7 with fail
      refine G.wp_region_stab (G := LkF (kf2 (Value.slice av na cv').ownBlock (acc.map bv ++ [bv c]) none [])) (RsL 3 4 3 4 (OneV w5.heap.size 5 [bv c]) (AppR w5.heap.size w.heap.size 5 1 (na + 1) (Value.slice av na cv').ownBlock (acc.map bv ++ [bv c])) (OneV w5.heap.size 5 [bv c]) (AppR w5.heap.size w.heap.size 5 1 (na + 1) (Value.slice av na cv').ownBlock (acc.map bv ++ [bv c]))) (by kernel_rfl) (by kernel_rfl) (RsL_mono (OneV_lkf _ HKH.out _ _) (AppR_lkf _ _ _ _ _ _ _ (kf2_app1 (fun g hg => (HX.out g hg).2) (fun g hg => by cases hg))) (OneV_lkf _ HKH.out _ _) (AppR_lkf _ _ _ _ _ _ _ (kf2_app1 (fun g hg => (HX.out g hg).2) (fun g hg => by cases hg)))) (fun hex => ?_)
      iterate 3
        (refine G.wpS_one (A := ?_) hex rfl rfl (by simp) ?_ ?_ ?_
         rotate_left 2
         · intro w' hC K hK
           go_wp2_with (fail)
           refine hK _ ?_
           first | exact LkF.refl _ | exact LkF.of_ext (by assumption)
         rotate_left 1
         · rfl
         clear hex; intro hex)
      refine G.wpS_rel (OneV (w5.heap.size) (5) ([bv c])) rfl rfl (by simp) (by first | rfl | (simp [Region.wanted, yielded]; done)) ?_ ?_
      · intro w' hC K hK
        simp only [Act.put, List.setIfInBounds_toArray, List.set_cons_succ, List.set_cons_zero] at hK
        go_wp2_with fail
        exact hK _ _ (LkF.of_ext ((Below.refl _ _).alloc (Nat.le_refl _) _)) ⟨_, rfl, Blk.new _ _ _, hC.1.1.2.2.2⟩
      clear hex
      intro v w' hex hv
      replace hex := Exists.intro w' hex
      simp only [Act.put, List.setIfInBounds_toArray, List.set_cons_succ, List.set_cons_zero]
      obtain ⟨b2, rfl, hv, hb2⟩ := hv
      clear hv
      refine G.wpS_rel (AppR w5.heap.size w.heap.size 5 1 (na + 1) (Value.slice av na cv').ownBlock (acc.map bv ++ [bv c])) rfl rfl (by simp) (by first | rfl | (simp [Region.wanted, yielded]; done)) ?_ ?_
      · intro w' hC K hK
        simp only [Act.put, List.setIfInBounds_toArray, List.set_cons_succ, List.set_cons_zero] at hK
        obtain ⟨b9, e9, hB9, _⟩ := (hC.2 3 (by simp [Region.binds])).1 rfl
        cases e9
        have hown' := own_lkf OW.out hC.1 (fun g N T hg hK j hj => by rw [kf2_one g hg] at hK; cases hK; exact ⟨by rw [List.length_append]; omega, by simp [List.getElem?_append_left hj]⟩)
        refine wpList_append_lko _ rfl (.tmp 26) (.tmp 29) 32 rfl w.heap.size 5 i0 _ 1 1 Tryd.underlying32 hi0 hz0 hz1 hz2 rfl (by decide) _ na (acc.map bv) rfl hown' ⟨b2, 0, none⟩ 1 1 [bv c] rfl rfl (World.news_of_block hB9) (bv_one _) (by decide) (by unfold maxLen; omega) (by omega) (Nat.le_trans hbase hC.1.1.2.2.2) ?_
        intro g8 cap8 w8 hown8 hv8 hg8 hlk8
        simp only [wpList]
        refine hK _ _ (LkF.of_lko hlk8 (kf2_one)) ⟨g8, cap8, rfl, hown8, ?_, hg8⟩
        rcases hv8 with h | h
        · exact .inl h
        · exact .inr (by have := hC.1.1.2.2.2; omega)
      clear hex
      intro v w' hex hv
      replace hex := Exists.intro w' hex
      simp only [Act.put, List.setIfInBounds_toArray, List.set_cons_succ, List.set_cons_zero]
      obtain ⟨g6, cap6, rfl, hv, hloc6, hv2⟩ := hv
      clear hv hv2
      iterate 10
        (refine G.wpS_one (A := ?_) hex rfl rfl (by simp) ?_ ?_ ?_
         rotate_left 2
         · intro w' hC K hK
           have q3 := lkf_cell hC.1 nTx.out Q3.out; have z0 := lkf_cell hC.1 nTb.out Z0.out; have y1 := lkf_cell hC.1 nBn.out Y1.out; have y2 := lkf_cell hC.1 nBe.out Y2.out
           go_wp2_with (fail)
           refine hK _ ?_
           first | exact LkF.refl _ | exact LkF.of_ext (by assumption)
         rotate_left 1
         · rfl
         clear hex; intro hex)
      iterate 2
        (refine G.wpS_one (A := ?_) hex rfl rfl (by simp) ?_ ?_ ?_
         rotate_left 2
         · intro w' hC K hK
           go_wp2_with (fail)
           refine hK _ ?_
           first | exact LkF.refl _ | exact LkF.of_ext (by assumption)
         rotate_left 1
         · rfl
         clear hex; intro hex)
      refine G.wpS_nil fun w8 hAll => ?_
      obtain ⟨g6', cap6', e6, o6, _, _⟩ := (hAll.2 4).1 rfl
      cases e6
      have T8 : Tbl w0 w8 tb gf n kk (.slice (some ⟨bN, oN, none⟩) n capN) d (TT d.to d.lab x kk) :=
        ⟨Below.trans T5.out.ex (hAll.1.below T5.out.ex.size (fun g hg => HKB.out g (by have := HBS.out; omega))), T5.out.nx, hAll.1.blk T5.out.bk nTb.out,
          own_lkf T5.out.fm hAll.1 (fun g N T hg hK => by rw [HKN.out g (fun q => own_ne_own OW.out T5.out.fm (by decide) g hg q)] at hK; cases hK), T5.out.lo⟩
      have EX8 := Below.trans EX5.out (hAll.1.below hbase (fun g hg => HKB.out g hg))
      have LB8 := hAll.1.blk LB5.out nLb.out
      have TX8 := hAll.1.blk TX5.out nTx.out
      have KB8 := hAll.1.blk KB5.out nKb.out
      have z9 := LB8.cell 0
      have x9 := ext_box w8 #[.int .i64 ((m : Int) - 1)] 3
      have L9 := Lib.hid (show Wrd w0 w (w8.alloc (.cells #[.int .i64 ((m : Int) - 1)] 3)) tb gf n kk (.slice (some ⟨bN, oN, none⟩) n capN) d x kb tx w8.heap.size m t k2 len (.slice (some ⟨g6, 0, none⟩) (na + 1) cap6) (acc ++ [c]) W from
        ⟨T8.ext x9, TX8.ext x9, Blk.new w8 _ _, KB8.ext x9, by
          rw [List.length_append, List.length_singleton, HNA.out, List.map_append]
          exact own_xx o6 x9, by rw [List.length_append, List.length_singleton]; have := HLEN.out; omega, HWD.out, by rw [← HTQ.out]; exact HC2.out, hk2, by rw [← HTQ.out]; exact ht, bel_call EX8 x9⟩)
      have hm64 : m ≤ 64 := by have := HLEN.out; omega
      clear hAll hex o6 T8 EX8 LB8 TX8 KB8 x9 hloc6
      have hm9 := leftw_blk L9.out.lbb
      go_wp2_with fail
      go_roundw
      case rel => exact ⟨m, t, k2, _, _, rfl, rfl, L9⟩
      case measure => rw [hm9, HM0.out]; omega
end Go.Proofs.YtniamfaiamgncaaDoor
