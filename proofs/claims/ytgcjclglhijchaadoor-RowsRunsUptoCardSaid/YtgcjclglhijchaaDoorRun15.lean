/- bolterlaw15.reaching: of each state whether it is alive. -/
import Derived.Test.YtgcjclglhijchaaDoorCls15
namespace Go.Proofs.YtgcjclglhijchaaDoor
open Go Go.RowKit Go.Maps
/-- Within a round: the first states are done. -/
structure RcS (d : Dd) (n r k : Nat) (B : List Bool) : Prop where
  len : B.length = n
  snd : ∀ s, s < n → B.getD s false = true → d.lv s = true
  old : ∀ s, s < n → (0 < r → d.lvK (r - 1) s = true → B.getD s false = true)
  new : ∀ s, s < k → d.lvK r s = true → B.getD s false = true
/-- .. of a state some bytes are done. -/
structure RcB (d : Dd) (n r k c : Nat) (B : List Bool) : Prop where
  st : RcS d n r k B
  lab : 0 ≤ d.lab k → B.getD k false = true
  byt : ∀ b, b < c → 0 < r → d.lvK (r - 1) (d.to k b) = true → B.getD k false = true
theorem bset {B : List Bool} {k s : Nat} {x : Bool} (hx : x = true ∨ x = B.getD k false) (h : B.getD s false = true) : (B.set k x).getD s false = true := by
  rw [getD_set]
  by_cases e : k = s ∧ k < B.length
  · rw [if_pos e]
    rcases hx with hx | hx
    · exact hx
    · rw [hx, e.1]; exact h
  · rw [if_neg e]; exact h
theorem RcS.set {d : Dd} {n r k k' : Nat} {B : List Bool} (h : RcS d n r k' B) {x : Bool} (hx : x = true ∨ x = B.getD k false) (hl : x = true → d.lv k = true) : RcS d n r k' (B.set k x) := by
  refine ⟨by rw [List.length_set, h.len], fun s hs hq => ?_, fun s hs h0 hq => bset hx (h.old s hs h0 hq), fun s hs hq => bset hx (h.new s hs hq)⟩
  rw [getD_set] at hq
  by_cases e : k = s ∧ k < B.length
  · rw [if_pos e] at hq; rw [← e.1]; exact hl hq
  · rw [if_neg e] at hq; exact h.snd s hs hq
theorem RcB.start {d : Dd} {n r k : Nat} {B : List Bool} (h : RcS d n r k B) (hk : k < n) : RcB d n r k 0 (B.set k (B.getD k false || decide (0 ≤ d.lab k))) := by
  have hx : (B.getD k false || decide (0 ≤ d.lab k)) = true ∨ (B.getD k false || decide (0 ≤ d.lab k)) = B.getD k false := by
    cases B.getD k false
    · cases h0 : decide (0 ≤ d.lab k)
      · exact .inr rfl
      · exact .inl rfl
    · exact .inl rfl
  refine ⟨h.set hx (fun hq => ?_), fun hq => ?_, fun b hb => by omega⟩
  · rw [Bool.or_eq_true] at hq
    rcases hq with hq | hq
    · exact h.snd k hk hq
    · exact Dd.lv_lab (of_decide_eq_true hq)
  · rw [getD_set, if_pos ⟨rfl, by rw [h.len]; exact hk⟩, decide_eq_true hq, Bool.or_true]
theorem RcB.step {d : Dd} (hd : d.Ok) {n r k c : Nat} {B : List Bool} (hn : d.nx.length = n) (h : RcB d n r k c B) (hk : k < n) (hc : c < 256) : RcB d n r k (c + 1) (B.set k (B.getD k false || B.getD (d.to k c) false)) := by
  have hkd : k < d.nx.length := by omega
  have hto := hd.to hkd hc
  have hx : (B.getD k false || B.getD (d.to k c) false) = true ∨ (B.getD k false || B.getD (d.to k c) false) = B.getD k false := by
    cases B.getD k false
    · cases B.getD (d.to k c) false
      · exact .inr rfl
      · exact .inl rfl
    · exact .inl rfl
  refine ⟨h.st.set hx (fun hq => ?_), fun hq => bset hx (h.lab hq), fun b hb h0 hq => ?_⟩
  · rw [Bool.or_eq_true] at hq
    rcases hq with hq | hq
    · exact h.st.snd k hk hq
    · exact Dd.lv_step hd hkd hc (h.st.snd _ (by omega) hq)
  · by_cases e : b = c
    · subst e
      rw [getD_set, if_pos ⟨rfl, by rw [h.st.len]; exact hk⟩, h.st.old _ (by omega) h0 hq, Bool.or_true]
    · exact bset hx (h.byt b (by omega) h0 hq)
theorem RcB.done {d : Dd} {n r k : Nat} {B : List Bool} (h : RcB d n r k 256 B) (hk : k < n) : RcS d n r (k + 1) B :=
  ⟨h.st.len, h.st.snd, h.st.old, fun s hs hq => by
    by_cases e : s = k
    · subst e
      cases r with
      | zero => exact h.lab (by simpa [Dd.lvK] using hq)
      | succ r =>
        rcases Dd.lvK_succ.1 hq with hq | ⟨c, hc, hq⟩
        · exact h.st.old s hk (by omega) hq
        · exact h.byt c hc (by omega) hq
    · exact h.st.new s (by omega) hq⟩
theorem RcS.next {d : Dd} {n r : Nat} {B : List Bool} (h : RcS d n r n B) : RcS d n (r + 1) 0 B :=
  ⟨h.len, h.snd, fun s hs _ hq => h.new s hs hq, fun s hs => by omega⟩
theorem RcS.all {d : Dd} {n : Nat} {B : List Bool} (hn : d.nx.length = n) (h : RcS d n (n + 1) 0 B) : B = (List.range n).map d.lv := by
  apply List.ext_getElem
  · rw [h.len]; simp
  · intro i hi hi2
    have hin : i < n := by rw [← h.len]; exact hi
    have h1 := h.snd i hin
    have h2 := h.old i hin (by omega)
    rw [getD_get hi] at h1 h2
    simp only [List.getElem_map, List.getElem_range]
    rw [Bool.eq_iff_iff]
    refine ⟨h1, fun q => h2 ?_⟩
    show d.lvK (n + 1 - 1) i = true
    rw [Nat.add_sub_cancel, ← hn]; exact q
set_option maxHeartbeats 4000000 in
set_option maxRecDepth 20000 in
theorem reach_any (d : Dd) (v : Value) (w : World) (hd : d.Ok) (h : Dns w v d) :
    Calls Tryd.prog 24 #[v] w fun e w' => ∃ gi, e = .returned (.slice (some ⟨gi, 0, none⟩) d.nx.length d.nx.length) ∧ w'.ownsRow w.heap.size 4 1 (.slice (some ⟨gi, 0, none⟩) d.nx.length d.nx.length) d.nx.length (((List.range d.nx.length).map d.lv).map bvl) ∧ Ext w w' := by
  obtain ⟨va, vb, rfl, h1, h2⟩ := h
  obtain ⟨a1, c1, rfl, _⟩ := h1.shape
  obtain ⟨a2, c2, rfl, _⟩ := h2.shape
  obtain ⟨i0, hi, hz0, hz1, hz2⟩ := info_parts info_bool
  have h6 := hd.le
  have h0 := hd.pos
  have hlb := hd.lbl
  obtain ⟨n, hn⟩ : ∃ n, d.nx.length = n := ⟨_, rfl⟩
  have HB0 := Lib.hid (Blk.new w #[.slice a1 n c1, .slice a2 n c2] 62)
  have H1 := Lib.hid h1
  have H2 := Lib.hid h2
  have HE0 := Lib.hid (ext_box w #[.slice a1 n c1, .slice a2 n c2] 62)
  have HD := Lib.hid hd
  rw [hlb, hn]
  have HN := Lib.hid hn
  rw [hn] at h6 h0 H1
  rw [hlb, hn] at H2
  have HLB := Lib.hid (hlb.trans hn)
  clear hn hlb h1 h2 hd
  go_enter Tryd.func24, Tryd.ntmps24
  go_upto_region 2 with (at_make; refine wpList_make_full _ rfl _ _ 59 rfl (w.heap.size + 1) 4 i0 (.bool false) 1 Tryd.underlying59 hi hz0 hz1 .i64 .i64 _ _ n rfl rfl rfl rfl (by rw [hz2]; omega) (by unfold maxLen; omega) (by simp) ?_; intro wm hown hgm)
  have hcells := toList_madeCells_one (.bool false) n
  have hwsz : (w.alloc (.cells #[.slice a1 n c1, .slice a2 n c2] 62)).heap.size = w.heap.size + 1 := by simp
  have hown2 : wm.ownsRow (w.heap.size + 1) 4 1 (.slice (some ⟨w.heap.size + 1, 0, none⟩) n n) n ((List.replicate n false).map bvl) := by
    rw [List.map_replicate, ← hcells]; rw [hwsz] at hown; simpa [Value.cells] using hown
  have X1 := Lib.hid (show Ext w wm from bel_call HE0.out ⟨hgm.os, hgm.tape, hgm.output, hgm.size, fun k hk => hgm.block k hk (by simp)⟩)
  have BX := Lib.hid (HB0.out.grown hgm (by simp))
  have O1 := Lib.hid hown2
  have S1 := Lib.hid (show RcS d n 0 0 (List.replicate n false) from ⟨by simp, fun s hs hq => (by rw [List.getD_eq_getElem?_getD, List.getElem?_replicate, if_pos hs] at hq; cases hq), fun s _ h => (by omega), fun s h => (by omega)⟩)
  obtain ⟨gi, hgi⟩ : ∃ gi, w.heap.size + 1 = gi := ⟨_, rfl⟩
  rw [hgi] at O1
  simp only [hgi]
  have HGI := Lib.hid hgi
  clear hown hown2 hgm hcells hwsz hgi
  go_wp2_with fail
  go_loopw [4] (fun i wr => ∃ r : Nat, r ≤ n + 1 ∧ i = .int .i64 r ∧ ∃ B, Hid (RcS d n r 0 B) ∧ Hid (wr.ownsRow gi 4 1 (.slice (some ⟨gi, 0, none⟩) n n) n (B.map bvl)) ∧ Hid (Ext w wr) ∧ Hid (Blk wr w.heap.size #[.slice a1 n c1, .slice a2 n c2] 62)) (fun i _ => n + 1 - (intOf i).toNat)
  case atStart => exact ⟨0, Nat.zero_le _, rfl, _, S1, O1, X1, BX⟩
  case round =>
    clear S1 O1 X1 BX
    obtain ⟨r, hr, rfl, B, hS, hO, hX, hB⟩ := hrel
    have z0 := hB.out.cell 0
    by_cases hrn : r < n + 1
    · go_wp2_with fail
      clear z0
      go_loopw [5] (fun i wr => ∃ k : Nat, k ≤ n ∧ i = .int .i64 k ∧ ∃ B, Hid (RcS d n r k B) ∧ Hid (wr.ownsRow gi 4 1 (.slice (some ⟨gi, 0, none⟩) n n) n (B.map bvl)) ∧ Hid (Ext w wr) ∧ Hid (Blk wr w.heap.size #[.slice a1 n c1, .slice a2 n c2] 62)) (fun i _ => n - (intOf i).toNat)
      case atStart => exact ⟨0, Nat.zero_le _, rfl, B, hS, hO, hX, hB⟩
      case round =>
        clear hS hO hX hB
        obtain ⟨k, hk, rfl, B, hS, hO, hX, hB⟩ := hrel
        have z0 := hB.out.cell 0
        have z1 := hB.out.cell 1
        by_cases hkn : k < n
        · have hkd : k < d.nx.length := by rw [HN.out]; exact hkn
          obtain ⟨bL, oL, rfl, hbL, hcL, -, -⟩ := H2.out.cell (show k < d.lb.length by rw [HLB.out]; exact hkn)
          have hlk : d.lb[k]'(by rw [HLB.out]; exact hkn) = d.lab k := by unfold Dd.lab; rw [getD_get]
          rw [hlk] at hcL
          have kL := (hX.out.cell (p := ⟨bL, oL + k, none⟩) hbL).trans hcL
          have hBl := hS.out.len
          have kB : wr.cell? ⟨gi, k, none⟩ = some (.bool (B.getD k false)) := by
            rw [hO.out.cellAt k (by omega), List.getElem?_map, getD_get (show k < B.length by omega), List.getElem?_eq_getElem]; rfl
          have fB := hO.out.frozenAt k
          have HST := RcB.start hS.out hkn
          obtain ⟨x, hx⟩ : ∃ x, d.lab k = x := ⟨_, rfl⟩
          obtain ⟨q, hq⟩ : ∃ q, B.getD k false = q := ⟨_, rfl⟩
          rw [hx] at kL HST
          rw [hq] at kB HST
          have OS := fun (u : Bool) => (hO.out.stored k (.bool u)).1
          have HST := Lib.hid HST
          have OS := Lib.hid OS
          have hgw : w.heap.size < gi := by have := HGI.out; omega
          clear hcL hlk hBl hx hq
          obtain ⟨p, hp⟩ : ∃ p, decide (0 ≤ x) = p := ⟨_, rfl⟩
          rw [hp] at HST
          cases q
          · go_upto_region 9 with fail
            have O9 := Lib.hid (show (wr.setCell ⟨gi, k, none⟩ (.bool (p))).ownsRow gi 4 1 (.slice (some ⟨gi, 0, none⟩) n n) n ((B.set k (p)).map bvl) by rw [List.map_set]; exact OS.out (p))
            have S9 := Lib.hid (show RcB d n r k 0 (B.set k (p)) from HST.out)
            have X9 := Lib.hid (hX.out.setCell (p := ⟨gi, k, none⟩) (by show w.heap.size ≤ gi; omega) (.bool (p)))
            have BX9 := Lib.hid (hB.out.set_other (a := ⟨gi, k, none⟩) (by show gi ≠ w.heap.size; omega) (.bool (p)))
            clear z0 z1 kL kB fB HST OS hO hX hB hS
            generalize wr.setCell ⟨gi, k, none⟩ (.bool (p)) = w5 at *
            generalize B.set k (p) = B5 at *
            go_wp2_with fail
            go_loopw [6] (fun i wr => ∃ c : Nat, c ≤ 256 ∧ i = .int .i64 c ∧ ∃ B, Hid (RcB d n r k c B) ∧ Hid (wr.ownsRow gi 4 1 (.slice (some ⟨gi, 0, none⟩) n n) n (B.map bvl)) ∧ Hid (Ext w wr) ∧ Hid (Blk wr w.heap.size #[.slice a1 n c1, .slice (some ⟨bL, oL, none⟩) n c2] 62)) (fun i _ => 256 - (intOf i).toNat)
            case atStart => exact ⟨0, Nat.zero_le _, rfl, B5, S9, O9, X9, BX9⟩
            case round =>
              clear S9 O9 X9 BX9
              obtain ⟨c, hc, rfl, B, hS, hO, hX, hB⟩ := hrel
              by_cases hcl : c < 256
              · obtain ⟨bR, oR, aR, cR, rfl, hbR, hcR, hIR, _⟩ := H1.out.cell hkd
                have hrl : d.nx[k].length = 256 := by have := HD.out.row k hkd; rwa [getD_get hkd] at this
                rw [hrl] at hcR
                obtain ⟨bE, oE, rfl, hbE, hcE, -, -⟩ := hIR.cell (show c < d.nx[k].length by omega)
                have hent := HD.out.ent k c hkd hcl
                have hee : d.nx[k][c]'(by omega) = ((d.to k c : Nat) : Int) := by
                  have : d.ent k c = d.nx[k][c]'(by omega) := by unfold Dd.ent; rw [getD_get hkd, getD_get]
                  unfold Dd.to
                  rw [this] at hent ⊢
                  omega
                have htt := HD.out.to hkd hcl
                rw [HN.out] at htt
                rw [hee] at hcE
                have kR := (hX.out.cell (p := ⟨bR, oR + k, none⟩) hbR).trans hcR
                have kE := (hX.out.cell (p := ⟨bE, oE + c, none⟩) hbE).trans hcE
                have hBl := hS.out.st.len
                have kB : wr.cell? ⟨gi, k, none⟩ = some (.bool (B.getD k false)) := by
                  rw [hO.out.cellAt k (by omega), List.getElem?_map, getD_get (show k < B.length by omega), List.getElem?_eq_getElem]; rfl
                have kT : wr.cell? ⟨gi, d.to k c, none⟩ = some (.bool (B.getD (d.to k c) false)) := by
                  rw [hO.out.cellAt _ (by omega), List.getElem?_map, getD_get (show d.to k c < B.length by omega), List.getElem?_eq_getElem]; rfl
                have fB := hO.out.frozenAt k
                have HST := RcB.step HD.out HN.out hS.out hkn hcl
                have z0 := hB.out.cell 0
                obtain ⟨tt, htq⟩ : ∃ tt, d.to k c = tt := ⟨_, rfl⟩
                rw [htq] at kE kT htt HST
                obtain ⟨q, hq⟩ : ∃ q, B.getD k false = q := ⟨_, rfl⟩
                obtain ⟨q2, hq2⟩ : ∃ q, B.getD tt false = q := ⟨_, rfl⟩
                rw [hq] at kB
                rw [hq2] at kT
                rw [hq, hq2] at HST
                have OS := Lib.hid (fun (u : Bool) => (hO.out.stored k (.bool u)).1)
                have HST := Lib.hid HST
                clear hrl hent hee hcR hcE hIR htq hBl hq hq2
                cases q
                · have O9 := Lib.hid (show (wr.setCell ⟨gi, k, none⟩ (.bool q2)).ownsRow gi 4 1 (.slice (some ⟨gi, 0, none⟩) n n) n ((B.set k q2).map bvl) by rw [List.map_set]; exact OS.out q2)
                  have S9 := Lib.hid (show RcB d n r k (c + 1) (B.set k q2) from HST.out)
                  have X9 := Lib.hid (hX.out.setCell (p := ⟨gi, k, none⟩) (by show w.heap.size ≤ gi; omega) (.bool q2))
                  have BX9 := Lib.hid (hB.out.set_other (a := ⟨gi, k, none⟩) (by show gi ≠ w.heap.size; omega) (.bool q2))
                  clear HST OS
                  go_wp2_with fail
                  go_roundw
                  case rel => exact ⟨c + 1, by omega, by go_num, _, S9, O9, X9, BX9⟩
                  case measure => simp [intOf]; omega
                · have O9 := Lib.hid (show (wr.setCell ⟨gi, k, none⟩ (.bool true)).ownsRow gi 4 1 (.slice (some ⟨gi, 0, none⟩) n n) n ((B.set k true).map bvl) by rw [List.map_set]; exact OS.out true)
                  have S9 := Lib.hid (show RcB d n r k (c + 1) (B.set k true) from HST.out)
                  have X9 := Lib.hid (hX.out.setCell (p := ⟨gi, k, none⟩) (by show w.heap.size ≤ gi; omega) (.bool true))
                  have BX9 := Lib.hid (hB.out.set_other (a := ⟨gi, k, none⟩) (by show gi ≠ w.heap.size; omega) (.bool true))
                  clear HST OS
                  go_wp2_with fail
                  go_roundw
                  case rel => exact ⟨c + 1, by omega, by go_num, _, S9, O9, X9, BX9⟩
                  case measure => simp [intOf]; omega
              · have ec : c = 256 := by omega
                subst ec
                go_wp2_with fail
                go_roundw
                case rel => exact ⟨k + 1, by omega, by go_num, B, Lib.hid (RcB.done hS.out hkn), hO, hX, hB⟩
                case measure => simp [intOf]; omega
          · go_upto_region 9 with fail
            have O9 := Lib.hid (show (wr.setCell ⟨gi, k, none⟩ (.bool (true))).ownsRow gi 4 1 (.slice (some ⟨gi, 0, none⟩) n n) n ((B.set k (true)).map bvl) by rw [List.map_set]; exact OS.out (true))
            have S9 := Lib.hid (show RcB d n r k 0 (B.set k (true)) from HST.out)
            have X9 := Lib.hid (hX.out.setCell (p := ⟨gi, k, none⟩) (by show w.heap.size ≤ gi; omega) (.bool (true)))
            have BX9 := Lib.hid (hB.out.set_other (a := ⟨gi, k, none⟩) (by show gi ≠ w.heap.size; omega) (.bool (true)))
            clear z0 z1 kL kB fB HST OS hO hX hB hS
            generalize wr.setCell ⟨gi, k, none⟩ (.bool (true)) = w5 at *
            generalize B.set k (true) = B5 at *
            go_wp2_with fail
            go_loopw [6] (fun i wr => ∃ c : Nat, c ≤ 256 ∧ i = .int .i64 c ∧ ∃ B, Hid (RcB d n r k c B) ∧ Hid (wr.ownsRow gi 4 1 (.slice (some ⟨gi, 0, none⟩) n n) n (B.map bvl)) ∧ Hid (Ext w wr) ∧ Hid (Blk wr w.heap.size #[.slice a1 n c1, .slice (some ⟨bL, oL, none⟩) n c2] 62)) (fun i _ => 256 - (intOf i).toNat)
            case atStart => exact ⟨0, Nat.zero_le _, rfl, B5, S9, O9, X9, BX9⟩
            case round =>
              clear S9 O9 X9 BX9
              obtain ⟨c, hc, rfl, B, hS, hO, hX, hB⟩ := hrel
              by_cases hcl : c < 256
              · obtain ⟨bR, oR, aR, cR, rfl, hbR, hcR, hIR, _⟩ := H1.out.cell hkd
                have hrl : d.nx[k].length = 256 := by have := HD.out.row k hkd; rwa [getD_get hkd] at this
                rw [hrl] at hcR
                obtain ⟨bE, oE, rfl, hbE, hcE, -, -⟩ := hIR.cell (show c < d.nx[k].length by omega)
                have hent := HD.out.ent k c hkd hcl
                have hee : d.nx[k][c]'(by omega) = ((d.to k c : Nat) : Int) := by
                  have : d.ent k c = d.nx[k][c]'(by omega) := by unfold Dd.ent; rw [getD_get hkd, getD_get]
                  unfold Dd.to
                  rw [this] at hent ⊢
                  omega
                have htt := HD.out.to hkd hcl
                rw [HN.out] at htt
                rw [hee] at hcE
                have kR := (hX.out.cell (p := ⟨bR, oR + k, none⟩) hbR).trans hcR
                have kE := (hX.out.cell (p := ⟨bE, oE + c, none⟩) hbE).trans hcE
                have hBl := hS.out.st.len
                have kB : wr.cell? ⟨gi, k, none⟩ = some (.bool (B.getD k false)) := by
                  rw [hO.out.cellAt k (by omega), List.getElem?_map, getD_get (show k < B.length by omega), List.getElem?_eq_getElem]; rfl
                have kT : wr.cell? ⟨gi, d.to k c, none⟩ = some (.bool (B.getD (d.to k c) false)) := by
                  rw [hO.out.cellAt _ (by omega), List.getElem?_map, getD_get (show d.to k c < B.length by omega), List.getElem?_eq_getElem]; rfl
                have fB := hO.out.frozenAt k
                have HST := RcB.step HD.out HN.out hS.out hkn hcl
                have z0 := hB.out.cell 0
                obtain ⟨tt, htq⟩ : ∃ tt, d.to k c = tt := ⟨_, rfl⟩
                rw [htq] at kE kT htt HST
                obtain ⟨q, hq⟩ : ∃ q, B.getD k false = q := ⟨_, rfl⟩
                obtain ⟨q2, hq2⟩ : ∃ q, B.getD tt false = q := ⟨_, rfl⟩
                rw [hq] at kB
                rw [hq2] at kT
                rw [hq, hq2] at HST
                have OS := Lib.hid (fun (u : Bool) => (hO.out.stored k (.bool u)).1)
                have HST := Lib.hid HST
                clear hrl hent hee hcR hcE hIR htq hBl hq hq2
                cases q
                · have O9 := Lib.hid (show (wr.setCell ⟨gi, k, none⟩ (.bool q2)).ownsRow gi 4 1 (.slice (some ⟨gi, 0, none⟩) n n) n ((B.set k q2).map bvl) by rw [List.map_set]; exact OS.out q2)
                  have S9 := Lib.hid (show RcB d n r k (c + 1) (B.set k q2) from HST.out)
                  have X9 := Lib.hid (hX.out.setCell (p := ⟨gi, k, none⟩) (by show w.heap.size ≤ gi; omega) (.bool q2))
                  have BX9 := Lib.hid (hB.out.set_other (a := ⟨gi, k, none⟩) (by show gi ≠ w.heap.size; omega) (.bool q2))
                  clear HST OS
                  go_wp2_with fail
                  go_roundw
                  case rel => exact ⟨c + 1, by omega, by go_num, _, S9, O9, X9, BX9⟩
                  case measure => simp [intOf]; omega
                · have O9 := Lib.hid (show (wr.setCell ⟨gi, k, none⟩ (.bool true)).ownsRow gi 4 1 (.slice (some ⟨gi, 0, none⟩) n n) n ((B.set k true).map bvl) by rw [List.map_set]; exact OS.out true)
                  have S9 := Lib.hid (show RcB d n r k (c + 1) (B.set k true) from HST.out)
                  have X9 := Lib.hid (hX.out.setCell (p := ⟨gi, k, none⟩) (by show w.heap.size ≤ gi; omega) (.bool true))
                  have BX9 := Lib.hid (hB.out.set_other (a := ⟨gi, k, none⟩) (by show gi ≠ w.heap.size; omega) (.bool true))
                  clear HST OS
                  go_wp2_with fail
                  go_roundw
                  case rel => exact ⟨c + 1, by omega, by go_num, _, S9, O9, X9, BX9⟩
                  case measure => simp [intOf]; omega
              · have ec : c = 256 := by omega
                subst ec
                go_wp2_with fail
                go_roundw
                case rel => exact ⟨k + 1, by omega, by go_num, B, Lib.hid (RcB.done hS.out hkn), hO, hX, hB⟩
                case measure => simp [intOf]; omega
        · go_wp2_with fail
          go_roundw
          case rel =>
            have ek : k = n := by omega
            exact ⟨r + 1, by omega, by go_num, B, Lib.hid (by have := hS.out; rw [ek] at this; exact this.next), hO, hX, hB⟩
          case measure => simp [intOf]; omega
    · have er : r = n + 1 := by omega
      have HB9 := Lib.hid (show B = (List.range n).map d.lv from by have := hS.out; rw [er] at this; exact this.all HN.out)
      clear er
      go_wp2_with fail
      go_ret
      refine ⟨gi, rfl, ?_, hX.out⟩
      rw [← HB9.out]
      exact hO.out.mono (by have := HGI.out; omega)
end Go.Proofs.YtgcjclglhijchaaDoor
