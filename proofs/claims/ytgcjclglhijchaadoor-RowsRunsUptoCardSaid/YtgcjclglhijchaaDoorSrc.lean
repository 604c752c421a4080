/- rows.sources: of each state those that lead to it, each once. -/
import Derived.Test.YtgcjclglhijchaaDoorGn
import Derived.Test.YtgcjclglhijchaaDoorRwp
import Derived.Test.YtgcjclglhijchaaDoorChm
import Derived.Maps.AppendAt
namespace Go.Proofs.YtgcjclglhijchaaDoor
open Go Go.RowKit Go.Maps
def sqA (dl : Nat → Nat → Nat) (s c t : Nat) : Bool := (List.range c).any fun b => dl s b == t
def sqF (dl : Nat → Nat → Nat) (s c t : Nat) : List Nat := ((List.range s).filter fun x => sqA dl x 256 t) ++ (if sqA dl s c t then [s] else [])
section
variable {dl : Nat → Nat → Nat} {s c t tt : Nat}
theorem sqA_succ : sqA dl s (c + 1) t = (sqA dl s c t || dl s c == t) := by
  unfold sqA; rw [List.range_succ, List.any_append]; simp
theorem sqF_hit (h : dl s c = tt) (ha : sqA dl s c tt = true) (t : Nat) : sqF dl s (c + 1) t = sqF dl s c t := by
  unfold sqF
  rw [sqA_succ]
  by_cases e : tt = t
  · subst e; rw [ha]; rfl
  · rw [show (dl s c == t) = false by rw [h]; simpa using e, Bool.or_false]
theorem sqF_miss (h : dl s c = tt) (ha : sqA dl s c tt = false) (t : Nat) : sqF dl s (c + 1) t = if tt = t then sqF dl s c tt ++ [s] else sqF dl s c t := by
  unfold sqF
  rw [sqA_succ]
  by_cases e : tt = t
  · subst e; rw [ha, h]; simp
  · rw [show (dl s c == t) = false by rw [h]; simpa using e, Bool.or_false, if_neg e]
theorem sqF_next : sqF dl s 256 t = sqF dl (s + 1) 0 t := by
  unfold sqF
  rw [List.range_succ, List.filter_append]
  have : sqA dl (s + 1) 0 t = false := rfl
  rw [this]
  by_cases h : sqA dl s 256 t = true
  · simp [h]
  · simp [h]
theorem sqF_len : (sqF dl s c t).length ≤ s + 1 := by
  unfold sqF
  rw [List.length_append]
  have := List.length_filter_le (fun x => sqA dl x 256 t) (List.range s)
  rw [List.length_range] at this
  split <;> simp <;> omega
theorem sqF_last {m : Nat} (hm : (sqF dl s c t).length = m + 1) : (sqF dl s c t)[m]? = some s ↔ sqA dl s c t = true := by
  unfold sqF at hm ⊢
  by_cases h : sqA dl s c t = true
  · rw [if_pos h] at hm ⊢
    rw [List.length_append] at hm
    simp only [List.length_cons, List.length_nil] at hm
    rw [List.getElem?_append_right (by omega)]
    simp [h, show m - (List.filter (fun x => sqA dl x 256 t) (List.range s)).length = 0 by omega]
  · rw [if_neg h, List.append_nil] at hm ⊢
    constructor
    · intro q
      have := List.mem_of_getElem? q
      have := List.mem_range.1 (List.mem_filter.1 this).1
      omega
    · intro q; exact absurd q h
theorem sqA_iff : sqA dl s c t = true ↔ ∃ b, b < c ∧ dl s b = t := by
  unfold sqA; rw [List.any_eq_true]; simp
theorem sqF_mem {n x : Nat} : x ∈ sqF dl n 0 t ↔ x < n ∧ ∃ b, b < 256 ∧ dl x b = t := by
  unfold sqF
  have : sqA dl n 0 t = false := rfl
  rw [this]
  simp only [List.mem_append, List.mem_filter, List.mem_range, sqA_iff]
  simp
end
/-- Of each state those that lead to it, as far as gone. -/
structure RoS (w : World) (g0 n : Nat) (F : Nat → List Nat) (vs : List Value) : Prop where
  row : w.ownsRow g0 26 1 (.slice (some ⟨g0, 0, none⟩) n n) n vs
  ent : ∀ t, t < n → w.ownsRow (g0 + 1) 3 1 (vs.getD t nilS) (F t).length ((F t).map nv)
  dj : ∀ t t', t < n → t' < n → t ≠ t' → Dj (vs.getD t nilS) (vs.getD t' nilS)
theorem RoS.congr {w : World} {g0 n : Nat} {F F' : Nat → List Nat} {vs : List Value} (h : RoS w g0 n F vs) (e : ∀ t, F' t = F t) : RoS w g0 n F' vs := ⟨h.row, fun t ht => by rw [e]; exact h.ent t ht, h.dj⟩
set_option maxHeartbeats 8000000 in
set_option maxRecDepth 20000 in
theorem sources15_any (d : Dd) (v : Value) (w : World) (hd : d.Ok) (h : Rws w v d.nx) :
    Calls Tryd.prog 80 #[v] w fun e w' => ∃ vs, e = .returned (.slice (some ⟨w.heap.size, 0, none⟩) d.nx.length d.nx.length) ∧ RoS w' w.heap.size d.nx.length (sqF d.to d.nx.length 0) vs ∧ Ext w w' := by
  obtain ⟨a, cap, rfl, _⟩ := h.shape
  obtain ⟨i0, hi, hz0, hz1, hz2⟩ := info_parts info_int
  obtain ⟨j0, hj, hy0, hy1, hy2⟩ := info_parts info_sli
  have H := Lib.hid h
  have HD := Lib.hid hd
  have h6 := hd.le
  have h0 := hd.pos
  obtain ⟨n, hn⟩ : ∃ n, d.nx.length = n := ⟨_, rfl⟩
  rw [hn] at h6 h0 H ⊢
  have HN := Lib.hid hn
  clear h hd hn
  obtain ⟨g0, hg0⟩ : ∃ g0, w.heap.size = g0 := ⟨_, rfl⟩
  have HG0 := Lib.hid hg0
  have hg0w : w.heap.size ≤ g0 := by omega
  go_enter Tryd.func80, Tryd.ntmps80
  go_wp2_with (at_make; refine wpList_make_full _ rfl _ _ 27 rfl g0 26 j0 nilS 1 Tryd.underlying27 hj hy0 hy1 .i64 .i64 _ _ n rfl rfl rfl rfl (by rw [hy2]; omega) (by unfold maxLen; omega) (by omega) ?_; intro wm hown hgm)
  have hcells := toList_madeCells_one nilS n
  try rw [hg0] at hown
  have hown2 : wm.ownsRow g0 26 1 (.slice (some ⟨g0, 0, none⟩) n n) n (List.replicate n nilS) := by
    rw [← hcells]; simpa [Value.cells] using hown
  have I1 := Lib.hid (show RoS wm g0 n (sqF d.to 0 0) (List.replicate n nilS) from
    ⟨hown2, fun t ht => by
      rw [List.getD_eq_getElem?_getD, List.getElem?_replicate, if_pos ht]; exact own_nil _ _ _ _, fun t t' ht ht' _ g hg => by
      rw [List.getD_eq_getElem?_getD, List.getElem?_replicate, if_pos ht] at hg; cases hg⟩)
  have E1 := Lib.hid (show Ext w wm from ⟨hgm.os, hgm.tape, hgm.output, hgm.size, fun k hk => hgm.block k hk (by simp)⟩)
  clear hown hown2 hgm hcells hg0
  go_loopw [14] (fun i wr => ∃ s : Nat, s ≤ n ∧ i = .int .i64 s ∧ ∃ vs, Hid (RoS wr g0 n (sqF d.to s 0) vs) ∧ Hid (Ext w wr)) (fun i _ => n - (intOf i).toNat)
  case atStart => exact ⟨0, Nat.zero_le _, rfl, _, I1, E1⟩
  case round =>
    obtain ⟨s, hs, rfl, vs0, hI0, hE0⟩ := hrel
    by_cases hsl : s < n
    · have hsl' : s < d.nx.length := by rw [HN.out]; exact hsl
      obtain ⟨bR, oR, aR, cR, rfl, hbR, hcR, hIR, _⟩ := H.out.cell hsl'
      have hrl : d.nx[s].length = 256 := by have := HD.out.row s hsl'; rwa [getD_get hsl'] at this
      have HIR := Lib.hid hIR
      have HRL := Lib.hid hrl
      rw [hrl] at hcR
      have kR : wr.cell? ⟨bR, oR + s, none⟩ = _ := (hE0.out.cell (p := ⟨bR, oR + s, none⟩) hbR).trans hcR
      clear hIR hrl hcR
      go_wp2_with fail
      clear kR
      go_loopw [21] (fun i wr => ∃ c : Nat, c ≤ 256 ∧ i = .int .i64 c ∧ ∃ vs, Hid (RoS wr g0 n (sqF d.to s c) vs) ∧ Hid (Ext w wr)) (fun i _ => 256 - (intOf i).toNat)
      case atStart => exact ⟨0, Nat.zero_le _, rfl, vs0, hI0, hE0⟩
      case round =>
        clear hI0 hE0
        obtain ⟨c, hc, rfl, vs, hI, hE⟩ := hrel
        by_cases hcl : c < 256
        · obtain ⟨bE, oE, rfl, hbE, hcE, -, -⟩ := HIR.out.cell (show c < d.nx[s].length by rw [HRL.out]; omega)
          have hent := HD.out.ent s c hsl' hcl
          have hee : d.nx[s][c]'(by rw [HRL.out]; omega) = ((d.to s c : Nat) : Int) := by
            have : d.ent s c = d.nx[s][c]'(by rw [HRL.out]; omega) := by unfold Dd.ent; rw [getD_get hsl', getD_get]
            unfold Dd.to
            rw [this] at hent ⊢
            omega
          have htt := HD.out.to hsl' hcl
          rw [hee] at hcE
          rw [HN.out] at htt
          have kE : wr.cell? ⟨bE, oE + c, none⟩ = _ := (hE.out.cell (p := ⟨bE, oE + c, none⟩) hbE).trans hcE
          obtain ⟨tt, htq⟩ : ∃ tt, d.to s c = tt := ⟨_, rfl⟩
          rw [htq] at kE htt
          have HTQ := Lib.hid htq
          obtain ⟨ax, cx, hxs⟩ := own_shp (hI.out.ent tt htt)
          have HHI := Lib.hid (fun ha => sqF_hit (dl := d.to) (s := s) (c := c) htq ha)
          have HMI := Lib.hid (fun ha => sqF_miss (dl := d.to) (s := s) (c := c) htq ha)
          have HLA := Lib.hid (fun m hm => sqF_last (dl := d.to) (s := s) (c := c) (t := tt) (m := m) hm)
          obtain ⟨L, hL⟩ : ∃ L, sqF d.to s c tt = L := ⟨_, rfl⟩
          rw [hL] at hxs HLA
          have hLl : L.length ≤ 600 := by have := sqF_len (dl := d.to) (s := s) (c := c) (t := tt); rw [hL] at this; omega
          have OX := Lib.hid (show wr.ownsRow (g0 + 1) 3 1 (.slice ax L.length cx) L.length (L.map nv) by have := hI.out.ent tt htt; rw [hL, hxs] at this; exact this)
          have HXS := Lib.hid hxs
          have HLL := Lib.hid hL
          have kG : wr.cell? ⟨g0, tt, none⟩ = some (.slice ax L.length cx) := by
            have hvl := hI.out.row.1
            rw [hI.out.row.cellAt tt (by omega), ← hxs, getD_get (by omega), List.getElem?_eq_getElem]
          have hbase : g0 + 1 ≤ wr.heap.size := by have := (hI.out.row.lt g0 rfl).2; omega
          have hg0le : w.heap.size ≤ wr.heap.size := by omega
          have KG := Lib.hid kG
          clear hent hee hcE htq hL hxs
          by_cases hhit : sqA d.to s c tt = true
          · have HHI := Lib.hid (HHI.out hhit)
            clear HMI
            obtain ⟨m, hm⟩ : ∃ m, L.length = m + 1 := by
              rcases hl0 : L.length with _ | m
              · exfalso
                have := HLL.out
                unfold sqF at this
                rw [if_pos hhit] at this
                have h2 := congrArg List.length this
                rw [hl0, List.length_append] at h2
                simp at h2
              · exact ⟨m, rfl⟩
            have hcm : wr.cell? ⟨g0, tt, none⟩ = some (.slice ax (m + 1) cx) := by rw [kG, hm]
            have hlm : L[m]? = some s := (HLA.out m hm).2 hhit
            obtain ⟨gx, kx, hax, -, hgx, -, -⟩ := own_some OX.out (by omega)
            cases hax
            have hcy : wr.cell? ⟨gx, m, none⟩ = some (.int .i64 (s : Int)) := by
              rw [OX.out.cellAt m (by omega), List.getElem?_map, hlm]; rfl
            have HM := Lib.hid hm
            have hm6 : m ≤ 600 := by omega
            clear kG hhit hlm hm hLl
            go_wp2_with fail
            go_roundw
            case rel => exact ⟨c + 1, by omega, by go_num, vs, Lib.hid (hI.out.congr HHI.out), hE⟩
            case measure => simp [intOf]; omega
          · have HMS := Lib.hid (HMI.out (by simpa using hhit))
            have HNH := Lib.hid (fun m hm q => hhit ((HLA.out m hm).1 q))
            clear HHI hhit HLA HMI
            rcases hl0 : L.length with _ | m
            · have k0 : wr.cell? ⟨g0, tt, none⟩ = some (.slice ax 0 cx) := by rw [kG, hl0]
              have HL0 := Lib.hid hl0
              clear kG hl0
              have HXS := Lib.hid (HXS.out.trans (by rw [HL0.out]))
              have OX := OX.out
              rw [HL0.out] at OX
              have OX := Lib.hid OX
              go_wp2_with (at_builtin; refine wpList_append_own_at _ rfl (.tmp 49) (.tmp 51) 26 rfl (g0 + 1) 3 i0 (.int .i64 0) 1 8 Tryd.underlying26 hi hz0 hz1 hz2 rfl (by decide) _ _ _ rfl (OX.out.alloc _) ⟨_, 0, none⟩ 1 1 [nv s] rfl rfl (cell_nwb _ [nv s] _ _ (by simp)) (iv_one _) (by unfold maxLen; omega) (by omega) (by simp; omega) ?_; intro v6 w6 hown6 hgrow6 hnil6 hloc6; obtain ⟨a6, c6, rfl⟩ := own_shp hown6; have F6 := Lib.hid ((Fr.of_ext (S := fun g => (Value.slice ax 0 cx).ownBlock = some g) (ext_box wr #[nv s] 3)).trans (Fr.of_grown (S := fun g => (Value.slice ax 0 cx).ownBlock = some g) hgrow6 (fun k h => h)) (fun _ _ q => q)); have ROW6 := Lib.hid (F6.out.own hI.out.row (fun k hk q => by have hk : g0 = k := Option.some.inj hk; have := (OX.out.lt k q).1; omega)); have z3 := F6.out.cell k0 (fun q => by have := (OX.out.lt g0 q).1; omega); have y3 := ROW6.out.frozenAt tt; have O6 := Lib.hid hown6; have LOC6 := Lib.hid hloc6; clear hown6 hgrow6 hnil6 hloc6)
              have ENT6 := Lib.hid (fun t (ht : t < n) (hne : t ≠ tt) => F6.out.own (hI.out.ent t ht) (fun g hg q => hI.out.dj tt t htt ht (Ne.symm hne) g (by rw [HXS.out]; exact q) hg))
              have E6 := Lib.hid (Below.trans hE.out (F6.out.below hg0le (fun k hk q => by have := (OX.out.lt k q).1; omega)))
              have G5 : Hid ((Value.slice a6 (0 + 1) c6).ownBlock ≠ some g0 ∧ ∀ t, t < n → t ≠ tt → ∀ g, (Value.slice a6 (0 + 1) c6).ownBlock = some g → (vs.getD t nilS).ownBlock ≠ some g) := Lib.hid ⟨fun q => by
                rcases LOC6.out with h | h
                · rw [h] at q; have := (OX.out.lt g0 q).1; omega
                · rw [h] at q; have q := Option.some.inj q; simp at q; omega, fun t ht hne g hg q => by
                rcases LOC6.out with h | h
                · rw [h] at hg; exact hI.out.dj tt t htt ht (Ne.symm hne) g (by rw [HXS.out]; exact hg) q
                · rw [h] at hg; have hg := Option.some.inj hg; simp at hg; have := ((hI.out.ent t ht).lt g q).2; omega⟩
              clear z3 y3
              go_roundw
              case rel =>
                refine ⟨c + 1, by omega, by go_num, vs.set tt (.slice a6 (0 + 1) c6), Lib.hid ⟨(ROW6.out.stored tt _).1, fun t ht => ?_, fun t t' ht ht' hne g hg => ?_⟩, Lib.hid (Below.setCell E6.out hg0w _)⟩
                · have hvl := hI.out.row.1
                  rw [getD_set, HMS.out t]
                  by_cases e : tt = t
                  · subst e
                    rw [if_pos ⟨rfl, by omega⟩, if_pos rfl, HLL.out, List.length_append, List.map_append, HL0.out]
                    exact own_set O6.out G5.out.1
                  · rw [if_neg (fun q => e q.1), if_neg e]
                    exact own_set (ENT6.out t ht (Ne.symm e)) (fun q => by have := ((hI.out.ent t ht).lt g0 q).1; omega)
                · have hvl := hI.out.row.1
                  rw [getD_set] at hg ⊢
                  by_cases e : tt = t
                  · subst e
                    rw [if_pos ⟨rfl, by omega⟩] at hg
                    rw [if_neg (fun q => hne q.1)]
                    exact G5.out.2 t' ht' (Ne.symm hne) g hg
                  · rw [if_neg (fun q => e q.1)] at hg
                    by_cases e2 : tt = t'
                    · rw [if_pos ⟨e2, by omega⟩]
                      intro q
                      exact G5.out.2 t ht (Ne.symm e) g q hg
                    · rw [if_neg (fun q => e2 q.1)]
                      exact hI.out.dj t t' ht ht' hne g hg
              case measure => simp [intOf]; omega
            · have k0 : wr.cell? ⟨g0, tt, none⟩ = some (.slice ax (m + 1) cx) := by rw [kG, hl0]
              obtain ⟨gx, kx, hax, -, hgx, -, -⟩ := own_some OX.out (by omega)
              cases hax
              obtain ⟨y, hy⟩ : ∃ y, L[m]? = some y := ⟨_, List.getElem?_eq_getElem (by omega)⟩
              have hys : ((y : Int) == (s : Int)) = false := by
                have : y ≠ s := fun q => HNH.out m hl0 (by rw [hy, q])
                simp; omega
              have hys2 : ((y : Int) != (s : Int)) = true := by
                have : y ≠ s := fun q => HNH.out m hl0 (by rw [hy, q])
                simp; omega
              have hcy : wr.cell? ⟨gx, m, none⟩ = some (.int .i64 (y : Int)) := by
                rw [OX.out.cellAt m (by omega), List.getElem?_map, hy]; rfl
              have HL0 := Lib.hid hl0
              have hm6 : m ≤ 600 := by omega
              clear kG hl0 hy
              have HXS := Lib.hid (HXS.out.trans (by rw [HL0.out]))
              have OX := OX.out
              rw [HL0.out] at OX
              have OX := Lib.hid OX
              go_wp2_with (at_builtin; refine wpList_append_own_at _ rfl (.tmp 49) (.tmp 51) 26 rfl (g0 + 1) 3 i0 (.int .i64 0) 1 8 Tryd.underlying26 hi hz0 hz1 hz2 rfl (by decide) _ _ _ rfl (OX.out.alloc _) ⟨_, 0, none⟩ 1 1 [nv s] rfl rfl (cell_nwb _ [nv s] _ _ (by simp)) (iv_one _) (by unfold maxLen; omega) (by omega) (by simp; omega) ?_; intro v6 w6 hown6 hgrow6 hnil6 hloc6; obtain ⟨a6, c6, rfl⟩ := own_shp hown6; have F6 := Lib.hid ((Fr.of_ext (S := fun g => (Value.slice (some ⟨gx, 0, none⟩) (m + 1) cx).ownBlock = some g) (ext_box wr #[nv s] 3)).trans (Fr.of_grown (S := fun g => (Value.slice (some ⟨gx, 0, none⟩) (m + 1) cx).ownBlock = some g) hgrow6 (fun k h => h)) (fun _ _ q => q)); have ROW6 := Lib.hid (F6.out.own hI.out.row (fun k hk q => by have hk : g0 = k := Option.some.inj hk; have := (OX.out.lt k q).1; omega)); have z3 := F6.out.cell k0 (fun q => by have := (OX.out.lt g0 q).1; omega); have y3 := ROW6.out.frozenAt tt; have O6 := Lib.hid hown6; have LOC6 := Lib.hid hloc6; clear hown6 hgrow6 hnil6 hloc6)
              have ENT6 := Lib.hid (fun t (ht : t < n) (hne : t ≠ tt) => F6.out.own (hI.out.ent t ht) (fun g hg q => hI.out.dj tt t htt ht (Ne.symm hne) g (by rw [HXS.out]; exact q) hg))
              have E6 := Lib.hid (Below.trans hE.out (F6.out.below hg0le (fun k hk q => by have := (OX.out.lt k q).1; omega)))
              have G5 : Hid ((Value.slice a6 ((m + 1) + 1) c6).ownBlock ≠ some g0 ∧ ∀ t, t < n → t ≠ tt → ∀ g, (Value.slice a6 ((m + 1) + 1) c6).ownBlock = some g → (vs.getD t nilS).ownBlock ≠ some g) := Lib.hid ⟨fun q => by
                rcases LOC6.out with h | h
                · rw [h] at q; have := (OX.out.lt g0 q).1; omega
                · rw [h] at q; have q := Option.some.inj q; simp at q; omega, fun t ht hne g hg q => by
                rcases LOC6.out with h | h
                · rw [h] at hg; exact hI.out.dj tt t htt ht (Ne.symm hne) g (by rw [HXS.out]; exact hg) q
                · rw [h] at hg; have hg := Option.some.inj hg; simp at hg; have := ((hI.out.ent t ht).lt g q).2; omega⟩
              clear z3 y3
              go_roundw
              case rel =>
                refine ⟨c + 1, by omega, by go_num, vs.set tt (.slice a6 ((m + 1) + 1) c6), Lib.hid ⟨(ROW6.out.stored tt _).1, fun t ht => ?_, fun t t' ht ht' hne g hg => ?_⟩, Lib.hid (Below.setCell E6.out hg0w _)⟩
                · have hvl := hI.out.row.1
                  rw [getD_set, HMS.out t]
                  by_cases e : tt = t
                  · subst e
                    rw [if_pos ⟨rfl, by omega⟩, if_pos rfl, HLL.out, List.length_append, List.map_append, HL0.out]
                    exact own_set O6.out G5.out.1
                  · rw [if_neg (fun q => e q.1), if_neg e]
                    exact own_set (ENT6.out t ht (Ne.symm e)) (fun q => by have := ((hI.out.ent t ht).lt g0 q).1; omega)
                · have hvl := hI.out.row.1
                  rw [getD_set] at hg ⊢
                  by_cases e : tt = t
                  · subst e
                    rw [if_pos ⟨rfl, by omega⟩] at hg
                    rw [if_neg (fun q => hne q.1)]
                    exact G5.out.2 t' ht' (Ne.symm hne) g hg
                  · rw [if_neg (fun q => e q.1)] at hg
                    by_cases e2 : tt = t'
                    · rw [if_pos ⟨e2, by omega⟩]
                      intro q
                      exact G5.out.2 t ht (Ne.symm e) g q hg
                    · rw [if_neg (fun q => e2 q.1)]
                      exact hI.out.dj t t' ht ht' hne g hg
              case measure => simp [intOf]; omega
        · have e : c = 256 := by omega
          subst e
          go_wp2_with fail
          go_roundw
          case rel => exact ⟨s + 1, by omega, by go_num, vs, Lib.hid (hI.out.congr (fun t => sqF_next.symm)), hE⟩
          case measure => simp [intOf]; omega
    · have e : s = n := by omega
      have HEQ := Lib.hid e
      clear e
      go_wp2_with fail
      go_ret
      have e := HEQ.out
      have e0 := HG0.out
      subst e e0
      exact ⟨vs0, rfl, hI0.out, hE0.out⟩
end Go.Proofs.YtgcjclglhijchaaDoor
