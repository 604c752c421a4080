/- rows.livingOf: which states are alive. -/
import Derived.Test.YtgcjclglhijchaaDoorSrc
namespace Go.Proofs.YtgcjclglhijchaaDoor
open Go Go.RowKit Go.Maps
def putL (B : List Bool) (L : List Nat) (s : Nat) : List Nat := if B.getD s false then L else L ++ [s]
/-- What is found alive so far. -/
structure LI (d : Dd) (B : List Bool) (L : List Nat) : Prop where
  len : B.length = d.nx.length
  mem : ∀ s, s ∈ L ↔ s < d.nx.length ∧ B.getD s false = true
  nd : L.Nodup
  snd : ∀ s, s < d.nx.length → B.getD s false = true → d.lv s = true
theorem setT (B : List Bool) (s t : Nat) : (B.set s true).getD t false = if s = t ∧ s < B.length then true else B.getD t false := getD_set B s t true false
theorem LI.few {d : Dd} {B : List Bool} {L : List Nat} (h : LI d B L) : L.length ≤ d.nx.length := nodup_lt _ _ h.nd (fun x hx => ((h.mem x).1 hx).1)
theorem LI.put {d : Dd} {B : List Bool} {L : List Nat} (h : LI d B L) {s : Nat} (hs : s < d.nx.length) (hl : d.lv s = true) : LI d (B.set s true) (putL B L s) := by
  have hlen := h.len
  refine ⟨by rw [List.length_set, hlen], fun t => ?_, ?_, fun t ht hb => ?_⟩
  · rw [setT]
    unfold putL
    by_cases hb : B.getD s false = true
    · rw [if_pos hb, h.mem t]
      by_cases e : s = t
      · subst e
        exact ⟨fun q => ⟨q.1, by rw [hb]; simp⟩, fun q => ⟨q.1, hb⟩⟩
      · rw [if_neg (fun q => e q.1)]
    · rw [if_neg hb, List.mem_append, List.mem_singleton, h.mem t]
      by_cases e : s = t
      · subst e; simp [hs, hlen]
      · rw [if_neg (fun q => e q.1)]
        constructor
        · rintro (q | q)
          · exact q
          · exact absurd q.symm e
        · exact .inl
  · unfold putL
    by_cases hb : B.getD s false = true
    · rw [if_pos hb]; exact h.nd
    · rw [if_neg hb, List.nodup_append]
      refine ⟨h.nd, by simp, fun a ha b hb2 => ?_⟩
      rw [List.mem_singleton.1 hb2]
      rintro rfl
      exact hb ((h.mem a).1 ha).2
  · rw [setT] at hb
    by_cases e : s = t ∧ s < B.length
    · rw [← e.1]; exact hl
    · rw [if_neg e] at hb; exact h.snd t ht hb
theorem putL_pre (B : List Bool) (L : List Nat) (s : Nat) : ∃ l, putL B L s = L ++ l := by
  unfold putL
  split
  · exact ⟨[], by simp⟩
  · exact ⟨[s], rfl⟩
theorem setT_mono {B : List Bool} {s t : Nat} (h : B.getD t false = true) : (B.set s true).getD t false = true := by
  rw [setT]; split
  · rfl
  · exact h
theorem setT_self {B : List Bool} {s : Nat} (h : s < B.length) : (B.set s true).getD s false = true := by
  rw [setT, if_pos ⟨rfl, h⟩]
def LIclosed (d : Dd) (B : List Bool) (t : Nat) : Prop := ∀ x c, x < d.nx.length → c < 256 → d.to x c = t → B.getD x false = true
theorem LI.done {d : Dd} (hd : d.Ok) {B : List Bool} {L : List Nat} (h : LI d B L) (h1 : ∀ s, s < d.nx.length → 0 ≤ d.lab s → B.getD s false = true) (h2 : ∀ t ∈ L, LIclosed d B t) : B = (List.range d.nx.length).map d.lv := by
  have hk := Dd.lv_of hd (B := fun s => B.getD s false) h.snd h1 (fun s c hs hc hb => h2 _ ((h.mem _).2 ⟨hd.to hs hc, hb⟩) s c hs hc rfl)
  apply List.ext_getElem
  · rw [h.len]; simp
  · intro i hi hi2
    have := hk i (by rw [← h.len]; exact hi)
    rw [getD_get hi] at this
    simpa using this
theorem own_ne_blk {w : World} {base e sz n b t : Nat} {v : Value} {xs : List Value} {vs : Array Value} (h : w.ownsRow base e sz v n xs) (hb : Blk w b vs t) (ht : e ≠ t) : v.ownBlock ≠ some b := by
  obtain ⟨_, ⟨rfl, _⟩ | ⟨g, cap, cur, rfl, _, hg, _⟩⟩ := h
  · exact fun q => nomatch q
  · intro q
    have q : g = b := Option.some.inj q
    subst q
    unfold Blk at hb
    rw [hg] at hb
    simp only [Option.some.injEq, Obj.cells.injEq] at hb
    exact ht hb.2.1
abbrev bvl (b : Bool) : Value := .bool b
/-- The states found alive, in memory. -/
structure Lvg (w : World) (b0 lb gi n : Nat) (vF : Value) (B : List Bool) (L : List Nat) : Prop where
  blk : Blk w lb #[.slice (some ⟨gi, 0, none⟩) n n, vF] 129
  is : w.ownsRow b0 4 1 (.slice (some ⟨gi, 0, none⟩) n n) n (B.map bvl)
  fo : w.ownsRow b0 3 1 vF L.length (L.map nv)
theorem Lvg.ext {w w' : World} {b0 lb gi n : Nat} {vF : Value} {B : List Bool} {L : List Nat} (h : Lvg w b0 lb gi n vF B L) (hx : Ext w w') : Lvg w' b0 lb gi n vF B L := ⟨h.blk.ext hx, own_ex h.is hx, own_ex h.fo hx⟩
theorem bvl_set (B : List Bool) (s : Nat) : (B.map bvl).set s (.bool true) = (B.set s true).map bvl := by rw [List.map_set]
set_option maxHeartbeats 2000000 in
set_option maxRecDepth 20000 in
theorem lvput_any {b0 lb gi n s : Nat} {vF : Value} {B : List Bool} {L : List Nat} {w : World} (h : Lvg w b0 lb gi n vF B L) (hs : s < n) (hB : B.length = n) (hL : L.length ≤ 600) (h0 : b0 ≤ w.heap.size) :
    Calls Tryd.prog 79 #[.pointer (some ⟨lb, 0, none⟩), .int .i64 (s : Int)] w fun e w' => e = .returned (.tuple #[]) ∧ ∃ vF', Lvg w' b0 lb gi n vF' (B.set s true) (putL B L s) ∧ Fr (fun g => g = lb ∨ g = gi ∨ vF.ownBlock = some g) w w' ∧ ∀ g, vF'.ownBlock = some g → vF.ownBlock = some g ∨ w.heap.size ≤ g := by
  obtain ⟨i0, hi, hz0, hz1, hz2⟩ := info_parts info_int
  have H := Lib.hid h
  obtain ⟨ax, cx, rfl⟩ := own_shp h.fo
  have z0 := h.blk.cell 0
  have z1 := h.blk.cell 1
  have f1 := h.blk.free 1
  have HBL := Lib.hid hB
  have hcs : w.cell? ⟨gi, s, none⟩ = some (.bool (B.getD s false)) := by
    rw [h.is.cellAt s (by omega), List.getElem?_map, getD_get (show s < B.length by omega), List.getElem?_eq_getElem]; rfl
  have HFR := Lib.hid (h.is.frozenAt s)
  clear h hB
  cases hb : B.getD s false
  · rw [hb] at hcs
    have HP := Lib.hid (show putL B L s = L ++ [s] by unfold putL; rw [hb]; rfl)
    have y0 := HFR.out
    have IS1 := Lib.hid (show (w.setCell ⟨gi, s, none⟩ (.bool true)).ownsRow b0 4 1 (.slice (some ⟨gi, 0, none⟩) n n) n ((B.set s true).map bvl) by rw [← bvl_set]; exact (H.out.is.stored s _).1)
    have hne : gi ≠ lb := fun q => own_ne_blk H.out.is H.out.blk (by decide) (by rw [q]; rfl)
    have hneF : ∀ g, (Value.slice ax L.length cx).ownBlock = some g → g ≠ lb ∧ g ≠ gi := fun g hg => ⟨fun q => own_ne_blk H.out.fo H.out.blk (by decide) (by rw [← q]; exact hg), fun q => own_ne_own H.out.fo H.out.is (by decide) gi rfl (by rw [← q]; exact hg)⟩
    have B1 := Lib.hid (H.out.blk.set_other (a := ⟨gi, s, none⟩) (by show gi ≠ lb; exact hne) (.bool true))
    have O1 := Lib.hid (show (w.setCell ⟨gi, s, none⟩ (.bool true)).ownsRow b0 3 1 (.slice ax L.length cx) L.length (L.map nv) from own_set H.out.fo (fun q => (hneF gi q).2 rfl))
    have F1 := Lib.hid ((Fr.refl (fun g => g = lb ∨ g = gi ∨ (Value.slice ax L.length cx).ownBlock = some g) w).set (b := gi) (i := s) (.inl (.inr (.inl rfl))) (.bool true))
    have NE := Lib.hid (And.intro hne hneF)
    clear hb hne hneF
    go_enter Tryd.func79, Tryd.ntmps79
    have y1 := B1.out.cell 1
    have y2 := B1.out.free 1
    obtain ⟨n5, hn5⟩ : ∃ n5, L.length = n5 := ⟨_, rfl⟩
    have HN5 := Lib.hid hn5
    rw [hn5] at hL z1 O1 y1 F1 NE
    rw [hn5]
    clear hn5
    go_upto_region 2 with fail
    have hw1 : (w.setCell ⟨gi, s, none⟩ (.bool true)).heap.size = w.heap.size := by simp
    generalize w.setCell ⟨gi, s, none⟩ (.bool true) = w1 at *
    go_wp2_with (at_builtin; refine wpList_append_own_at _ rfl (.tmp 22) (.tmp 24) 26 rfl b0 3 i0 (.int .i64 0) 1 8 Tryd.underlying26 hi hz0 hz1 hz2 rfl (by decide) _ _ _ rfl (O1.out.alloc _) ⟨_, 0, none⟩ 1 1 [nv s] rfl rfl (cell_nwb _ [nv s] _ _ (by omega)) (iv_one _) (by unfold maxLen; omega) (by omega) (by simp; omega) ?_; intro v6 w6 hown6 hgrow6 hnil6 hloc6; obtain ⟨a6, c6, rfl⟩ := own_shp hown6; have F6 := Lib.hid ((Fr.of_ext (S := fun g => (Value.slice ax n5 cx).ownBlock = some g) (ext_box w1 #[nv s] 3)).trans (Fr.of_grown (S := fun g => (Value.slice ax n5 cx).ownBlock = some g) hgrow6 (fun k h => h)) (fun _ _ q => q)); have B6 := Lib.hid (F6.out.blk B1.out (fun q => (NE.out.2 lb q).1 rfl)); have x1 := B6.out.cell 1; have x2 := B6.out.free 1; have O6 := Lib.hid hown6; have LOC6 := Lib.hid hloc6; clear hown6 hgrow6 hnil6 hloc6)
    first | go_end0 | refine bodyPost_ret (results_none rfl _ _ _) rfl ?_
    refine ⟨rfl, .slice a6 (n5 + 1) c6, ⟨?_, ?_, ?_⟩, ?_, ?_⟩
    · have := B6.out.set 1 (.slice a6 (n5 + 1) c6)
      simpa using this
    · exact own_set (F6.out.own IS1.out (fun k hk q => (NE.out.2 k q).2 (Option.some.inj hk).symm)) (fun q => NE.out.1 (Option.some.inj q))
    · rw [HP.out, List.length_append, HN5.out, List.map_append]
      have hlb := B1.out.lt
      refine own_set O6.out (fun q => ?_)
      rcases LOC6.out with h | h
      · rw [h] at q; exact (NE.out.2 lb q).1 rfl
      · rw [h] at q; have q := Option.some.inj q; simp at q; omega
    · exact (F1.out.trans F6.out (fun k _ q => .inr (.inr q))).set (.inl (.inl rfl)) _
    · intro g hg
      rcases LOC6.out with h | h
      · rw [h] at hg; exact .inl hg
      · rw [h] at hg; have hg := Option.some.inj hg; simp at hg; exact .inr (by omega)
  · rw [hb] at hcs
    have HP := Lib.hid (show putL B L s = L by unfold putL; rw [hb]; rfl)
    have HS := Lib.hid (show B.set s true = B by
      have hl : s < B.length := by rw [HBL.out]; exact hs
      rw [getD_get hl] at hb
      apply List.ext_getElem (by simp)
      intro i h1 h2
      rw [List.getElem_set]
      split
      · rename_i e; subst e; exact hb.symm
      · rfl)
    clear hb
    go_enter Tryd.func79, Tryd.ntmps79
    go_wp2_with fail
    first | go_end0 | refine bodyPost_ret (results_none rfl _ _ _) rfl ?_
    exact ⟨rfl, _, by rw [HP.out, HS.out]; exact H.out, Fr.refl _ _, fun g hg => .inl hg⟩
theorem info_bool : (Tryd.prog.info? 4).map (fun i => (i.zero, i.size, i.bytes)) = some (some (.bool false), 1, 1) := by kernel_rfl
theorem LIclosed.set {d : Dd} {B : List Bool} {t s : Nat} (h : LIclosed d B t) : LIclosed d (B.set s true) t := fun x c hx hc e => setT_mono (h x c hx hc e)
theorem LI.nil (d : Dd) : LI d (List.replicate d.nx.length false) [] := by
  have hf : ∀ s, (List.replicate d.nx.length false).getD s false = false := fun s => by
    rw [List.getD_eq_getElem?_getD, List.getElem?_replicate]; split <;> rfl
  exact ⟨by simp, fun s => by rw [hf]; simp, by simp, fun s _ h => by rw [hf] at h; cases h⟩
/-- Where the search stands: what is found, the labelled states among it. -/
structure LS (w wr : World) (d : Dd) (lb gi n k : Nat) (vF : Value) (B : List Bool) (L : List Nat) : Prop where
  lv : Lvg wr (w.heap.size + 1) lb gi n vF B L
  li : LI d B L
  lab : ∀ s, s < n → s < k → 0 ≤ d.lab s → B.getD s false = true
  ext : Ext w wr
theorem LS.put {w wr w' : World} {d : Dd} {lb gi n k s : Nat} {vF vF' : Value} {B : List Bool} {L : List Nat} (h : LS w wr d lb gi n k vF B L) (hn : d.nx.length = n) (hs : s < n) (hl : d.lv s = true) (hlb : w.heap.size < lb) (hgi : w.heap.size < gi) (hk : Lvg w' (w.heap.size + 1) lb gi n vF' (B.set s true) (putL B L s)) (hf : Fr (fun g => g = lb ∨ g = gi ∨ vF.ownBlock = some g) wr w') : LS w w' d lb gi n k vF' (B.set s true) (putL B L s) :=
  ⟨hk, h.li.put (by rw [hn]; exact hs) hl, fun x hx hxk hq => setT_mono (h.lab x hx hxk hq), Below.trans h.ext (hf.below h.ext.size (fun g hg q => by
    rcases q with q | q | q
    · omega
    · omega
    · have := (h.lv.fo.lt g q).1; omega))⟩
theorem LS.next {w wr : World} {d : Dd} {lb gi n k : Nat} {vF : Value} {B : List Bool} {L : List Nat} (h : LS w wr d lb gi n k vF B L) (hk : 0 ≤ d.lab k → B.getD k false = true) : LS w wr d lb gi n (k + 1) vF B L :=
  ⟨h.lv, h.li, fun s hs hsk hq => by
    by_cases e : s = k
    · subst e; exact hk hq
    · exact h.lab s hs (by omega) hq, h.ext⟩
theorem LS.into {w wr w' : World} {d : Dd} {lb gi n k : Nat} {vF : Value} {B : List Bool} {L : List Nat} (h : LS w wr d lb gi n k vF B L) (hx : Ext wr w') : LS w w' d lb gi n k vF B L := ⟨h.lv.ext hx, h.li, h.lab, bel_call h.ext hx⟩
/-- Those that lead to what is found stand as they were. -/
structure Kpt (w5 wr : World) (g0 : Nat) (vF : Value) : Prop where
  fr : Fr (fun g => g < g0 ∨ w5.heap.size ≤ g) w5 wr
  lo : ∀ g, vF.ownBlock = some g → g < g0 ∨ w5.heap.size ≤ g
theorem Kpt.put {w5 wr w' : World} {g0 lb gi : Nat} {vF vF' : Value} (h : Kpt w5 wr g0 vF) (hlb : lb < g0) (hgi : gi < g0) (hf : Fr (fun g => g = lb ∨ g = gi ∨ vF.ownBlock = some g) wr w') (hv : ∀ g, vF'.ownBlock = some g → vF.ownBlock = some g ∨ wr.heap.size ≤ g) : Kpt w5 w' g0 vF' :=
  ⟨h.fr.trans hf (fun g _ q => by
    rcases q with q | q | q
    · exact .inl (by omega)
    · exact .inl (by omega)
    · exact h.lo g q), fun g q => by
    rcases hv g q with q | q
    · exact h.lo g q
    · have := h.fr.2.2.2.1; exact .inr (by omega)⟩
set_option maxHeartbeats 8000000 in
set_option maxRecDepth 20000 in
theorem living_any (d : Dd) (v : Value) (w : World) (hd : d.Ok) (h : Dns w v d) :
    Calls Tryd.prog 65 #[v] w fun e w' => ∃ gi, e = .returned (.slice (some ⟨gi, 0, none⟩) d.nx.length d.nx.length) ∧ w'.ownsRow w.heap.size 4 1 (.slice (some ⟨gi, 0, none⟩) d.nx.length d.nx.length) d.nx.length (((List.range d.nx.length).map d.lv).map bvl) ∧ Ext w w' := by
  obtain ⟨va, vb, rfl, h1, h2⟩ := h
  obtain ⟨a1, c1, rfl, _⟩ := h1.shape
  obtain ⟨a2, c2, rfl, _⟩ := h2.shape
  obtain ⟨i0, hi, hz0, hz1, hz2⟩ := info_parts info_bool
  have h6 := hd.le
  have h0 := hd.pos
  have hlb := hd.lbl
  obtain ⟨n, hn⟩ : ∃ n, d.nx.length = n := ⟨_, rfl⟩
  have hE0 := ext_box w #[.slice a1 n c1, .slice a2 n c2] 62
  have HB0 := Lib.hid (Blk.new w #[.slice a1 n c1, .slice a2 n c2] 62)
  have H1 := Lib.hid h1
  have H2 := Lib.hid h2
  have HE0 := Lib.hid hE0
  have HD := Lib.hid hd
  rw [hlb, hn]
  have HN := Lib.hid hn
  rw [hn] at h6 h0
  rw [hn] at H1
  rw [hlb, hn] at H2
  have HLB := Lib.hid (hlb.trans hn)
  clear hn hlb h1 h2 hd hE0
  go_enter Tryd.func65, Tryd.ntmps65
  go_upto_region 2 with (at_make; refine wpList_make_full _ rfl _ _ 59 rfl (w.heap.size + 1) 4 i0 (.bool false) 1 Tryd.underlying59 hi hz0 hz1 .i64 .i64 _ _ n rfl rfl rfl rfl (by rw [hz2]; omega) (by unfold maxLen; omega) (by simp) ?_; intro wm hown hgm)
  have hcells := toList_madeCells_one (.bool false) n
  have hwsz : (w.alloc (.cells #[.slice a1 n c1, .slice a2 n c2] 62)).heap.size = w.heap.size + 1 := by simp
  have hown2 : wm.ownsRow (w.heap.size + 1) 4 1 (.slice (some ⟨w.heap.size + 1, 0, none⟩) n n) n ((List.replicate n false).map bvl) := by
    rw [List.map_replicate, ← hcells]; rw [hwsz] at hown; simpa [Value.cells] using hown
  have hsm : w.heap.size + 1 < wm.heap.size := (hown2.lt _ rfl).2
  have hx2 := ext_box wm #[.slice (some ⟨w.heap.size + 1, 0, none⟩) n n, .slice none 0 0] 129
  have X1 := Lib.hid (show Ext w (wm.alloc (.cells #[.slice (some ⟨w.heap.size + 1, 0, none⟩) n n, .slice none 0 0] 129)) from bel_call (bel_call HE0.out ⟨hgm.os, hgm.tape, hgm.output, hgm.size, fun k hk => hgm.block k hk (by simp)⟩) hx2)
  have BX := Lib.hid ((HB0.out.grown hgm (by simp)).ext hx2)
  have S1 := Lib.hid (show LS w (wm.alloc (.cells #[.slice (some ⟨w.heap.size + 1, 0, none⟩) n n, .slice none 0 0] 129)) d wm.heap.size (w.heap.size + 1) n 0 (.slice none 0 0) (List.replicate n false) [] from
    ⟨⟨Blk.new _ _ _, own_ex hown2 hx2, own_nil _ _ _ _⟩, by rw [← HN.out]; exact LI.nil d, fun s _ h => by omega, X1.out⟩)
  clear hown hown2 hgm hcells hx2 hwsz
  obtain ⟨lb, hlb⟩ : ∃ lb, wm.heap.size = lb := ⟨_, rfl⟩
  rw [hlb] at hsm S1
  rw [hlb]
  generalize wm.alloc (.cells #[.slice (some ⟨w.heap.size + 1, 0, none⟩) n n, .slice none 0 0] 129) = w1 at *
  clear hlb
  have z0 := BX.out.cell 0
  have z1 := BX.out.cell 1
  go_wp2_with fail
  clear z0 z1
  go_loopw [18] (fun i wr => ∃ k : Nat, k ≤ n ∧ i = .int .i64 k ∧ ∃ vF B L, Hid (LS w wr d lb (w.heap.size + 1) n k vF B L) ∧ Hid (Fr (fun g => w.heap.size + 1 ≤ g) w1 wr)) (fun i _ => n - (intOf i).toNat)
  case atStart => exact ⟨0, Nat.zero_le _, rfl, _, _, _, S1, Lib.hid (Fr.refl _ _)⟩
  case round =>
    clear S1
    obtain ⟨k, hk, rfl, vF, B, L, hS, hF⟩ := hrel
    by_cases hkn : k < n
    · obtain ⟨b, o, rfl, hb, hc, -, -⟩ := H2.out.cell (show k < d.lb.length by rw [HLB.out]; exact hkn)
      have hla := HD.out.lab k (by rw [HN.out]; exact hkn)
      have hlk : d.lb[k]'(by rw [HLB.out]; exact hkn) = d.lab k := by unfold Dd.lab; rw [getD_get]
      rw [hlk] at hc
      have kc : wr.cell? ⟨b, o + k, none⟩ = _ := (hS.out.ext.cell (p := ⟨b, o + k, none⟩) hb).trans hc
      have HLV := Lib.hid (fun q => Dd.lv_lab (d := d) (s := k) q)
      obtain ⟨x, hx⟩ : ∃ x, d.lab k = x := ⟨_, rfl⟩
      rw [hx] at kc hla HLV
      have HX := Lib.hid hx
      clear hc hlk hx
      by_cases hm : x = -1
      · subst hm
        have N1 := Lib.hid (hS.out.next (fun q => by have := HX.out; omega))
        clear hla HLV
        go_wp2_with fail
        go_roundw
        case rel => exact ⟨k + 1, by omega, by go_num, vF, B, L, N1, hF⟩
        case measure => simp [intOf]; omega
      · have e1 : (x == -1) = false := by simpa using hm
        have e2 : (x != -1) = true := by simpa using hm
        have hlv := HLV.out (by omega)
        have HP := Lib.hid (lvput_any hS.out.lv hkn (by rw [hS.out.li.len, HN.out]) (by have := hS.out.li.few; rw [HN.out] at this; omega) (by have := hS.out.lv.blk.lt; omega))
        have HL := Lib.hid hlv
        clear hm hla hlv HLV
        go_wp2_with (refine HP.out.mono ?_; rintro e w7 ⟨rfl, vF', hk7, hf7, hv7⟩; have S7 := Lib.hid ((hS.out.put HN.out hkn HL.out (by omega) (by omega) hk7 hf7).next (fun _ => setT_self (by rw [hS.out.li.len, HN.out]; exact hkn))); have F7 := Lib.hid (hF.out.trans hf7 (fun g hg q => by
          rcases q with q | q | q
          · omega
          · omega
          · exact (hS.out.lv.fo.lt g q).1)); clear hk7 hf7 hv7)
        go_roundw
        case rel => exact ⟨k + 1, by omega, by go_num, vF', _, _, S7, F7⟩
        case measure => simp [intOf]; omega
    · have ek : k = n := by omega
      have HEK := Lib.hid ek
      have B0 := hF.out.blk BX.out (by omega)
      have z0 := B0.cell 0
      have HS5 := Lib.hid (sources15_any d _ wr HD.out (H1.out.ext hS.out.ext))
      rw [HN.out] at HS5
      clear B0 ek
      go_wp2_with fail
      refine HS5.out.mono ?_
      rintro e w5 ⟨vs, rfl, ro5, e5⟩
      have RO := Lib.hid ro5
      have E5 := Lib.hid e5
      clear ro5 e5
      go_wp2_with fail
      obtain ⟨g0, hg0⟩ : ∃ g0, wr.heap.size = g0 := ⟨_, rfl⟩
      have S5 := Lib.hid (show LS w w5 d lb (w.heap.size + 1) n n vF B L from by have := hS.out.into E5.out; rw [HEK.out] at this; exact this)
      have hlbg : lb < g0 := by have := hS.out.lv.blk.lt; omega
      have K5 := Lib.hid (show Kpt w5 w5 g0 vF from ⟨Fr.refl _ _, fun g hg => .inl (by have := (hS.out.lv.fo.lt g hg).2; omega)⟩)
      have hszg : g0 ≤ w5.heap.size := by have := E5.out.size; omega
      rw [hg0] at RO ⊢
      have HRT := Lib.hid (fun t (ht : t < n) => RO.out.ent t ht)
      clear HS5 hS hF E5 hg0 z0
      go_loopw [7] (fun s7 wr => ∃ i : Nat, s7 = .int .i64 i ∧ ∃ vF B L, i ≤ (L : List Nat).length ∧ Hid (LS w wr d lb (w.heap.size + 1) n n vF B L) ∧ Hid (Kpt w5 wr g0 vF) ∧ Hid (∀ j (h : j < L.length), j < i → LIclosed d B L[j])) (fun s7 _ => n - (intOf s7).toNat)
      case atStart => exact ⟨0, rfl, vF, B, L, Nat.zero_le _, S5, K5, Lib.hid (fun j _ h => by omega)⟩
      case round =>
        clear S5 K5
        obtain ⟨i, rfl, vF, B, L, hiL, hS, hK, hC⟩ := hrel
        have hfew := hS.out.li.few
        rw [HN.out] at hfew
        obtain ⟨ax, cx, hax⟩ := own_shp hS.out.lv.fo
        have z1 := hS.out.lv.blk.cell 1
        obtain ⟨m, hm⟩ : ∃ m, L.length = m := ⟨_, rfl⟩
        have y1 : wr.cell? ⟨lb, 1, none⟩ = some (.slice ax m cx) := by rw [z1, hax, hm]; rfl
        have HM := Lib.hid hm
        rw [hm] at hiL hfew
        have HAX := Lib.hid hax
        clear z1 hax hm
        by_cases hil : i < m
        · have hilL : i < L.length := by rw [HM.out]; exact hil
          obtain ⟨gx, kx, hax2, -, hgx, hgl, -⟩ := own_some hS.out.lv.fo (by omega)
          have hax3 := HAX.out
          rw [hax2, HM.out] at hax3
          cases hax3
          have hcx : wr.cell? ⟨gx, i, none⟩ = some (.int .i64 ((L[i] : Nat) : Int)) := by
            have hfo := hS.out.lv.fo
            rw [hax2] at hfo
            rw [hfo.cellAt i (by omega), List.getElem?_map, List.getElem?_eq_getElem hilL]; rfl
          have htL : L[i] ∈ L := List.getElem_mem hilL
          have htm := (hS.out.li.mem _).1 htL
          rw [HN.out] at htm
          have HTL := Lib.hid (hS.out.li.snd _ (by rw [HN.out]; exact htm.1) htm.2)
          obtain ⟨t, ht⟩ : ∃ t, L[i] = t := ⟨_, rfl⟩
          rw [ht] at hcx htm HTL
          have HT := Lib.hid ht
          have htn := htm.1
          have RT := HRT.out t htn
          obtain ⟨at5, ct5, hat⟩ := own_shp RT
          obtain ⟨T, hT⟩ : ∃ T, sqF d.to n 0 t = T := ⟨_, rfl⟩
          rw [hT] at RT hat
          have HTT := Lib.hid hT
          rw [hat] at RT
          have HRT5 := Lib.hid RT
          have hTl : T.length ≤ n := by
            rw [← hT]
            have h1 : (sqF d.to n 0 t).Pairwise (· < ·) := by
              unfold sqF
              rw [show sqA d.to n 0 t = false from rfl]
              simp only [Bool.false_eq_true, if_false, List.append_nil]
              exact List.Pairwise.filter _ List.pairwise_lt_range
            exact nodup_lt n _ (h1.imp (fun h => Nat.ne_of_lt h)) (fun x hx => (sqF_mem.1 hx).1)
          have hct : wr.cell? ⟨g0, t, none⟩ = some (.slice at5 T.length ct5) := by
            have hvl := RO.out.row.1
            have hc5 : w5.cell? ⟨g0, t, none⟩ = some (.slice at5 T.length ct5) := by
              rw [RO.out.row.cellAt t (by omega), ← hat, getD_get (by omega), List.getElem?_eq_getElem]
            exact hK.out.fr.cell hc5 (fun q => by have := (RO.out.row.lt g0 rfl).2; omega)
          have HCT := Lib.hid hct
          clear htL htm ht RT hat hT hax2
          go_wp2_with fail
          clear y1 hcx hct
          go_loopw [47] (fun s47 wr => ∃ j : Nat, j ≤ T.length ∧ s47 = .int .i64 j ∧ ∃ vF B L2, Hid (∃ l, L2 = L ++ l) ∧ Hid (LS w wr d lb (w.heap.size + 1) n n vF B L2) ∧ Hid (Kpt w5 wr g0 vF) ∧ Hid (∀ k (h : k < L2.length), k < i → LIclosed d B L2[k]) ∧ Hid (∀ x ∈ T.take j, B.getD x false = true)) (fun s47 _ => T.length - (intOf s47).toNat)
          case atStart => exact ⟨0, Nat.zero_le _, rfl, _, B, L, Lib.hid ⟨[], by simp⟩, hS, hK, hC, Lib.hid (fun x hx => by simp at hx)⟩
          case round =>
            clear hS hK hC
            obtain ⟨j, hj, rfl, vF, B, L2, hP, hS, hK, hC, hD⟩ := hrel
            by_cases hjl : j < T.length
            · obtain ⟨gt, kt, hat, -, hgt, hgtl, -⟩ := own_some HRT5.out (by omega)
              cases hat
              have hcy5 : w5.cell? ⟨gt, j, none⟩ = some (.int .i64 ((T[j] : Nat) : Int)) := by
                rw [HRT5.out.cellAt j (by omega), List.getElem?_map, List.getElem?_eq_getElem hjl]; rfl
              have hcy := hK.out.fr.cell hcy5 (fun q => by omega)
              have hxT : T[j] ∈ sqF d.to n 0 t := by rw [HTT.out]; exact List.getElem_mem hjl
              obtain ⟨hxn, c, hc, hxc⟩ := sqF_mem.1 hxT
              obtain ⟨x, hx⟩ : ∃ x, T[j] = x := ⟨_, rfl⟩
              rw [hx] at hcy hxn hxc
              have hlx : d.lv x = true := Dd.lv_step HD.out (by rw [HN.out]; exact hxn) hc (by rw [hxc]; exact HTL.out)
              have HX := Lib.hid hx
              have HL := Lib.hid hlx
              have HP := Lib.hid (lvput_any hS.out.lv hxn (by rw [hS.out.li.len, HN.out]) (by have := hS.out.li.few; rw [HN.out] at this; omega) (by have := hS.out.lv.blk.lt; omega))
              clear hcy5 hxT hxc hx hlx
              go_wp2_with (refine HP.out.mono ?_; rintro e w7 ⟨rfl, vF', hk7, hf7, hv7⟩; have S7 := Lib.hid (hS.out.put HN.out hxn HL.out (by omega) (by omega) hk7 hf7); have K7 := Lib.hid (hK.out.put hlbg (by omega) hf7 hv7); clear hk7 hf7 hv7)
              go_roundw
              case rel =>
                obtain ⟨l2, hl2⟩ := putL_pre B L2 x
                refine ⟨j + 1, by omega, by go_num, vF', _, _, Lib.hid ?_, S7, K7, Lib.hid (fun k hk hki => ?_), Lib.hid (fun y hy => ?_)⟩
                · obtain ⟨l, hl⟩ := hP.out
                  exact ⟨l ++ l2, by rw [hl2, hl, List.append_assoc]⟩
                · have hk2 : k < L2.length := by
                    obtain ⟨l, hl⟩ := hP.out
                    rw [hl, List.length_append, HM.out]; omega
                  have : (putL B L2 x)[k] = L2[k] := by simp only [hl2]; rw [List.getElem_append_left hk2]
                  rw [this]
                  exact (hC.out k hk2 hki).set
                · rw [List.take_succ_eq_append_getElem hjl] at hy
                  rcases List.mem_append.1 hy with hy | hy
                  · exact setT_mono (hD.out y hy)
                  · rw [List.mem_singleton.1 hy, HX.out]
                    exact setT_self (by rw [hS.out.li.len, HN.out]; exact hxn)
              case measure => simp [intOf]; omega
            · have ej : j = T.length := by omega
              subst ej
              have N9 := Lib.hid (show ∀ k (h : k < L2.length), k < i + 1 → LIclosed d B L2[k] from fun k hk hki => by
                by_cases e : k = i
                · subst e
                  obtain ⟨l, hl⟩ := hP.out
                  have e2 : L2[k] = t := by
                    simp only [hl]
                    rw [List.getElem_append_left (by rw [HM.out]; exact hil)]; exact HT.out
                  rw [e2]
                  intro x c hx hc hxc
                  have hm : x ∈ T := by rw [← HTT.out]; exact sqF_mem.2 ⟨by rw [← HN.out]; exact hx, c, hc, hxc⟩
                  exact hD.out x (by rw [List.take_length]; exact hm)
                · exact hC.out k hk (by omega))
              have hl2 : i + 1 ≤ L2.length := by
                obtain ⟨l, hl⟩ := hP.out
                rw [hl, List.length_append, HM.out]; omega
              go_wp2_with fail
              go_roundw
              case rel => exact ⟨i + 1, by go_num, vF, B, L2, hl2, hS, hK, N9⟩
              case measure => simp [intOf]; omega
        · have ei : i = m := by omega
          have HE := Lib.hid (hS.out.li.done HD.out (fun s hs hq => hS.out.lab s (by rw [← HN.out]; exact hs) (by rw [← HN.out]; exact hs) hq) (fun t ht => by
            obtain ⟨j, hj, rfl⟩ := List.getElem_of_mem ht
            exact hC.out j hj (by have := HM.out; omega)))
          have z0 := hS.out.lv.blk.cell 0
          go_wp2_with fail
          go_ret
          refine ⟨_, rfl, ?_, hS.out.ext⟩
          have := hS.out.lv.is
          rw [HE.out, HN.out] at this
          exact World.ownsRow.mono this (by omega)
end Go.Proofs.YtgcjclglhijchaaDoor
