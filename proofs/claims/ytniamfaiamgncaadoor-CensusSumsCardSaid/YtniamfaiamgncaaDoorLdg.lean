/- minimise's refiner: leading. -/
import Derived.Test.YtniamfaiamgncaaDoorTak
import Derived.Deep.MidRow
import Derived.Laws.Tables
import Derived.Laws.AppendOwnNone
namespace Go.Proofs.YtniamfaiamgncaaDoor
open Go Go.RowKit Go.Maps
set_option maxHeartbeats 4000000 in
set_option maxRecDepth 20000 in
theorem parted_any {b B mb k made sm : Nat} {v1 v2 v3 v4 vl : Value} {F : List Value} {W : List Spl} {w : World} (hb : Blk w b (rfb v1 v2 v3 v4 vl (.map (some mb)) F) 173) (h : WkW w B vl mb W) (hm : made ≠ k) (hs : sm = k ∨ sm = made) (hn : ∀ c, (made, c) ∉ W) (hk1 : k ≤ 100000) (hk2 : made ≤ 100000) (hW : W.length ≤ 500000) (hB : B ≤ w.heap.size) :
    Calls Tryd.prog 141 #[.pointer (some ⟨b, 4, none⟩), .int .i64 (k : Int), .int .i64 (made : Int), .int .i64 (sm : Int)] w fun e w' => e = .returned (.tuple #[]) ∧ ∃ vl', Blk w' b (rfb v1 v2 v3 v4 vl' (.map (some mb)) F) 173 ∧ WkW w' B vl' mb (pws W k made sm 256) ∧ Fr (Sw vl mb b) w w' ∧ ∀ g, vl'.ownBlock = some g → vl.ownBlock = some g ∨ w.heap.size ≤ g := by
  have HB := Lib.hid hb
  have H := Lib.hid h
  have HNW := Lib.hid (fun c => pws_new hm hs hn c)
  have hs1 : sm ≤ 100000 := by rcases hs with q | q <;> omega
  have HLN := Lib.hid (fun m => pws_len W k made sm m)
  clear hb h hm hs hn
  go_enter Tryd.func141, Tryd.ntmps141
  go_wp2_with fail
  go_loopw [11] (fun i wr => ∃ c : Nat, c ≤ 256 ∧ i = .int .i64 c ∧ ∃ vl', Hid (Blk wr b (rfb v1 v2 v3 v4 vl' (.map (some mb)) F) 173) ∧ Hid (WkW wr B vl' mb (pws W k made sm c)) ∧ Hid (Fr (Sw vl mb b) w wr) ∧ Hid (∀ g, vl'.ownBlock = some g → vl.ownBlock = some g ∨ w.heap.size ≤ g)) (fun i _ => 256 - (intOf i).toNat)
  case atStart => exact ⟨0, Nat.zero_le _, rfl, vl, HB, H, Lib.hid (Fr.refl _ _), Lib.hid (fun g hg => .inl hg)⟩
  case round =>
    obtain ⟨c, hc, rfl, vl', hBK, hWK, hFR, hLO⟩ := hrel
    by_cases hcl : c < 256
    · obtain ⟨kl, hkl⟩ := key_spl (x := (k, c)) hk1 (show c ≤ 100000 by omega)
      obtain ⟨mm, hmm⟩ := hWK.out.map
      have HKY := Lib.hid hkl
      have HMM := Lib.hid hmm
      obtain ⟨q0, q1, q2, q3, q4, q5⟩ := rfb_cells hBK.out
      have hpl := Lib.hid (HLN.out c)
      have HPW := Lib.hid (show pws W k made sm (c + 1) = pw1 (pws W k made sm c) k made sm c from rfl)
      have HN1 := Lib.hid (HNW.out c)
      obtain ⟨V, hV⟩ : ∃ V, pws W k made sm c = V := ⟨_, rfl⟩
      rw [hV] at hWK HMM hpl HPW HN1
      have hVl : V.length ≤ 1000000 := by have := hpl.out; omega
      have hsz := hFR.out.2.2.2.1
      clear hkl hmm hV
      by_cases hin : (k, c) ∈ V
      · have HI := Lib.hid (wtf_in hin)
        have HPQ := Lib.hid (HPW.out.trans (if_pos hin))
        have HE := Lib.hid (ext_box wr #[] 282)
        have HPT := Lib.hid (put_any (x := (made, c)) (hBK.out.ext HE.out) (hWK.out.ext HE.out) HN1.out.1 hk2 (show c ≤ 100000 by omega) hVl (by simp; omega))
        clear hin
        go_wp2_with (at_lookup; refine wpList_look_at _ rfl _ _ rfl law_spl Tryd.underlying166 zero_unit rfl HMM.out (spv (k, c)) _ rfl HKY.out (.agg #[]) true (by rw [HI.out]; exact ⟨rfl, rfl⟩) ?_)
        refine HPT.out.mono ?_
        rintro e w5 ⟨rfl, vl5, b5, k5, f5, l5⟩
        have B5 := Lib.hid b5
        have K5 := Lib.hid k5
        have F5 := Lib.hid ((hFR.out.trans (Fr.of_ext (S := fun _ => False) HE.out) (fun _ _ q => q.elim)).trans f5 (fun g hg q => by
          rcases q with q | q | q
          · exact (hLO.out g q).elim .inl (fun z => absurd hg (by omega))
          · exact .inr (.inl q)
          · exact .inr (.inr q)))
        have L5 := Lib.hid (fun g (hg : vl5.ownBlock = some g) => show vl.ownBlock = some g ∨ w.heap.size ≤ g from (l5 g hg).elim (hLO.out g) (fun z => .inr (by simp at z; omega)))
        clear b5 k5 f5 l5 q0 q1 q2 q3 q4 q5
        go_wp2_with fail
        go_roundw
        case rel => exact ⟨c + 1, by omega, by go_num, vl5, B5, Lib.hid (by rw [HPQ.out]; exact K5.out), F5, L5⟩
        case measure => simp [intOf]; omega
      · have HI := Lib.hid (wtf_out hin)
        have HPQ := Lib.hid (HPW.out.trans (if_neg hin))
        have HE := Lib.hid (ext_box wr #[] 282)
        have HPT := Lib.hid (put_any (x := (sm, c)) (hBK.out.ext HE.out) (hWK.out.ext HE.out) (HN1.out.2 hin) hs1 (show c ≤ 100000 by omega) hVl (by simp; omega))
        clear hin
        go_wp2_with (at_lookup; refine wpList_look_at _ rfl _ _ rfl law_spl Tryd.underlying166 zero_unit rfl HMM.out (spv (k, c)) _ rfl HKY.out (.agg #[]) false (by rw [HI.out]; exact ⟨rfl, rfl⟩) ?_)
        refine HPT.out.mono ?_
        rintro e w5 ⟨rfl, vl5, b5, k5, f5, l5⟩
        have B5 := Lib.hid b5
        have K5 := Lib.hid k5
        have F5 := Lib.hid ((hFR.out.trans (Fr.of_ext (S := fun _ => False) HE.out) (fun _ _ q => q.elim)).trans f5 (fun g hg q => by
          rcases q with q | q | q
          · exact (hLO.out g q).elim .inl (fun z => absurd hg (by omega))
          · exact .inr (.inl q)
          · exact .inr (.inr q)))
        have L5 := Lib.hid (fun g (hg : vl5.ownBlock = some g) => show vl.ownBlock = some g ∨ w.heap.size ≤ g from (l5 g hg).elim (hLO.out g) (fun z => .inr (by simp at z; omega)))
        clear b5 k5 f5 l5 q0 q1 q2 q3 q4 q5
        go_wp2_with fail
        go_roundw
        case rel => exact ⟨c + 1, by omega, by go_num, vl5, B5, Lib.hid (by rw [HPQ.out]; exact K5.out), F5, L5⟩
        case measure => simp [intOf]; omega
    · have e : c = 256 := by omega
      subst e
      go_wp2_with fail
      first | go_end0 | refine bodyPost_ret (results_none rfl _ _ _) rfl ?_
      exact ⟨rfl, vl', hBK.out, hWK.out, hFR.out, hLO.out⟩
end Go.Proofs.YtniamfaiamgncaaDoor
namespace Go.Proofs.YtniamfaiamgncaaDoor
open Go Go.RowKit
abbrev nilS : Value := .slice none 0 0
/-- A list of one's own, told: nowhere, or from a block's beginning on. -/
def Nown (Q : Nat → Prop) (w : World) (v : Value) (L : List Nat) : Prop := (v = nilS ∧ L = []) ∨ ∃ g cap, v = .slice (some ⟨g, 0, none⟩) L.length cap ∧ Q g ∧ g < w.heap.size ∧ ∀ i (h : i < L.length), w.cell? ⟨g, i, none⟩ = some (.int .i64 ((L[i] : Nat) : Int))
theorem Nown.of_own {Q : Nat → Prop} {w : World} {B : Nat} {v : Value} {L : List Nat} (h : w.ownsRow B 3 1 v L.length (L.map nv)) (hQ : ∀ g, v.ownBlock = some g → Q g) : Nown Q w v L := by
  have h' := h
  obtain ⟨hl, ⟨rfl, h0⟩ | ⟨g, cap, cur, rfl, hb, hg, _⟩⟩ := h
  · exact .inl ⟨rfl, List.eq_nil_of_length_eq_zero h0⟩
  · exact .inr ⟨g, cap, rfl, hQ g rfl, (Array.getElem?_eq_some_iff.1 hg).1, fun i hi => by rw [nat_cell h' hi rfl, getD_get hi]⟩
theorem Nown.fr {Q S : Nat → Prop} {w w' : World} {v : Value} {L : List Nat} (h : Nown Q w v L) (hx : Fr S w w') (hq : ∀ k, k < w.heap.size → Q k → ¬ S k) : Nown Q w' v L := by
  rcases h with h | ⟨g, cap, e, hQ, hg, h⟩
  · exact .inl h
  · exact .inr ⟨g, cap, e, hQ, Nat.lt_of_lt_of_le hg hx.2.2.2.1, fun i hi => hx.cell (h i hi) (hq g hg hQ)⟩
/-- A row: of each state those that lead to it by a byte. -/
def FrRow (w : World) (Q : Nat → Prop) (n : Nat) (dl : Nat → Nat → Nat) (c : Nat) (v : Value) : Prop :=
  ∃ g cap, v = .slice (some ⟨g, 0, none⟩) n cap ∧ n ≤ cap ∧ Q g ∧ g < w.heap.size ∧ ∀ t, t < n → ∃ x, w.cell? ⟨g, t, none⟩ = some x ∧ Nown Q w x (srcs n dl c t)
theorem FrRow.fr {Q S : Nat → Prop} {w w' : World} {n c : Nat} {dl : Nat → Nat → Nat} {v : Value} (h : FrRow w Q n dl c v) (hx : Fr S w w') (hq : ∀ k, k < w.heap.size → Q k → ¬ S k) : FrRow w' Q n dl c v := by
  obtain ⟨g, cap, e, h1, h2, h3, h4⟩ := h
  refine ⟨g, cap, e, h1, h2, Nat.lt_of_lt_of_le h3 hx.2.2.2.1, fun t ht => ?_⟩
  obtain ⟨x, hc, hn⟩ := h4 t ht
  exact ⟨x, hx.cell hc (hq g h3 h2), hn.fr hx hq⟩
theorem FrRow.imp {Q Q' : Nat → Prop} {w : World} {n c : Nat} {dl : Nat → Nat → Nat} {v : Value} (h : FrRow w Q n dl c v) (hq : ∀ k, k < w.heap.size → Q k → Q' k) : FrRow w Q' n dl c v := by
  obtain ⟨g, cap, e, h1, h2, h3, h4⟩ := h
  refine ⟨g, cap, e, h1, hq g h3 h2, h3, fun t ht => ?_⟩
  obtain ⟨x, hc, hn⟩ := h4 t ht
  refine ⟨x, hc, ?_⟩
  rcases hn with hn | ⟨g', cap', e', a, b, c⟩
  · exact .inl hn
  · exact .inr ⟨g', cap', e', hq g' b a, b, c⟩
structure FrmW (w : World) (Q : Nat → Prop) (n : Nat) (dl : Nat → Nat → Nat) (F : List Value) : Prop where
  len : F.length = 256
  row : ∀ c, c < 256 → FrRow w Q n dl c (F.getD c nilS)
theorem FrmW.fr {Q S : Nat → Prop} {w w' : World} {n : Nat} {dl : Nat → Nat → Nat} {F : List Value} (h : FrmW w Q n dl F) (hx : Fr S w w') (hq : ∀ k, k < w.heap.size → Q k → ¬ S k) : FrmW w' Q n dl F := ⟨h.len, fun c hc => (h.row c hc).fr hx hq⟩
theorem FrmW.imp {Q Q' : Nat → Prop} {w : World} {n : Nat} {dl : Nat → Nat → Nat} {F : List Value} (h : FrmW w Q n dl F) (hq : ∀ k, k < w.heap.size → Q k → Q' k) : FrmW w Q' n dl F := ⟨h.len, fun c hc => (h.row c hc).imp hq⟩
/-- A block of numbers, or of lists of numbers. -/
def Cb (w : World) (g : Nat) : Prop := ∃ cur t, w.heap[g]? = some (.cells cur t (0, 0)) ∧ (t = 3 ∨ t = 23)
theorem own_cb {w : World} {B e sz n g : Nat} {v : Value} {xs : List Value} (h : w.ownsRow B e sz v n xs) (he : e = 3 ∨ e = 23) (hg : v.ownBlock = some g) : Cb w g := by
  obtain ⟨_, ⟨rfl, _⟩ | ⟨g', cap, cur, rfl, _, hh, _⟩⟩ := h
  · cases hg
  · cases hg
    exact ⟨cur, e, hh, he⟩
theorem Cb.fr {w w' : World} {S : Nat → Prop} {g : Nat} (h : Cb w g) (hx : Fr S w w') (hn : ¬ S g) : Cb w' g := by
  obtain ⟨cur, t, h1, h2⟩ := h
  exact ⟨cur, t, by rw [hx.2.2.2.2 g (Array.getElem?_eq_some_iff.1 h1).1 hn]; exact h1, h2⟩
theorem Cb.ne_blk {w : World} {g b t : Nat} {vs : Array Value} (h : Cb w g) (hb : Blk w b vs t) (h1 : t ≠ 3) (h2 : t ≠ 23) : g ≠ b := by
  rintro rfl
  obtain ⟨cur, t', e, h3⟩ := h
  unfold Blk at hb
  rw [e] at hb
  cases hb
  rcases h3 with h | h
  · exact h1 h
  · exact h2 h
theorem Cb.ne_map {P : Program} {k : TypeId} {w : World} {g mb m : Nat} {f : Value → Option Value} (h : Cb w g) (hm : MapAt P k w mb m f) : g ≠ mb := by
  rintro rfl
  obtain ⟨cur, t', e, _⟩ := h
  obtain ⟨es, ck, he, _⟩ := hm
  rw [e] at he
  cases he
theorem FrRow.frC {A S : Nat → Prop} {w w' : World} {n c : Nat} {dl : Nat → Nat → Nat} {v : Value} (h : FrRow w (fun g => A g ∧ Cb w g) n dl c v) (hx : Fr S w w') (hq : ∀ k, k < w.heap.size → A k → ¬ S k) : FrRow w' (fun g => A g ∧ Cb w' g) n dl c v :=
  (h.imp (Q' := fun g => A g ∧ Cb w' g) (fun k hk q => ⟨q.1, q.2.fr hx (hq k hk q.1)⟩)).fr hx (fun k hk q => hq k hk q.1)
theorem FrmW.frC {A S : Nat → Prop} {w w' : World} {n : Nat} {dl : Nat → Nat → Nat} {F : List Value} (h : FrmW w (fun g => A g ∧ Cb w g) n dl F) (hx : Fr S w w') (hq : ∀ k, k < w.heap.size → A k → ¬ S k) : FrmW w' (fun g => A g ∧ Cb w' g) n dl F := ⟨h.len, fun c hc => (h.row c hc).frC hx hq⟩
/-- What leads, so far. -/
def srcK (dl : Nat → Nat → Nat) (c s t : Nat) : List Nat := (List.range s).filter fun x => dl x c == t
theorem srcK_step (dl : Nat → Nat → Nat) (c s t : Nat) : srcK dl c (s + 1) t = if dl s c = t then srcK dl c s t ++ [s] else srcK dl c s t := by
  unfold srcK
  rw [List.range_succ, List.filter_append]
  by_cases h : dl s c = t
  · rw [if_pos h]; simp [h]
  · rw [if_neg h]; simp [h]
theorem srcK_len (dl : Nat → Nat → Nat) (c s t : Nat) : (srcK dl c s t).length ≤ s := by
  unfold srcK
  exact Nat.le_trans (List.length_filter_le _ _) (by simp)
structure RowI (w : World) (fb g0 n c s : Nat) (dl : Nat → Nat → Nat) (vs : List Value) : Prop where
  row : w.ownsRow (fb + 1) 23 1 (.slice (some ⟨g0, 0, none⟩) n n) n vs
  ent : ∀ t, t < n → w.ownsRow (g0 + 1) 3 1 (vs.getD t nilS) (srcK dl c s t).length ((srcK dl c s t).map nv)
  dj : ∀ t t', t < n → t' < n → t ≠ t' → Dj (vs.getD t nilS) (vs.getD t' nilS)
theorem list_cell {w : World} {b t c : Nat} {F : List Value} (h : Blk w b F.toArray t) (hc : c < F.length) : w.cell? ⟨b, c, none⟩ = some (F.getD c nilS) := by
  rw [h.cell c, getD_get hc]; simp [hc]
theorem list_set {w : World} {b t c : Nat} {F : List Value} (h : Blk w b F.toArray t) (u : Value) : Blk (w.setCell ⟨b, c, none⟩ u) b (F.set c u).toArray t := by
  have := h.set c u
  simpa using this
theorem results_cell1 {fn : Func} {p : Tmp} {ty : TypeId} (h : fn.results = #[.cell p ty]) (tmps : Array Value) (P : Program) (w : World) :
    (results fn tmps).run P w = ((asAddr (tmps.getD p undef)).run P w).andThen fun a w₁ => (loadVar ty a).run P w₁ := by
  simp only [results, h]
  simp [Sem.run_bind, Result.andThen]
theorem info_sli : (Tryd.prog.info? 23).map (fun i => (i.zero, i.size, i.bytes)) = some (some nilS, 1, 24) := by kernel_rfl
theorem info_frm : (Tryd.prog.info? 170).map (·.size) = some 256 := by kernel_rfl
theorem zeroF : Tryd.zeroCells170 = (List.replicate 256 nilS).toArray := by kernel_rfl
theorem RowI.frrow {w : World} {fb g0 n c : Nat} {dl : Nat → Nat → Nat} {vs : List Value} (h : RowI w fb g0 n c n dl vs) (h0 : 0 < n) : FrRow w (fun g => fb < g ∧ Cb w g) n dl c (.slice (some ⟨g0, 0, none⟩) n n) := by
  obtain ⟨g, cap, e, _, hg, hl, _⟩ := own_some h.row h0
  cases e
  have hvl := h.row.1
  refine ⟨g0, n, rfl, Nat.le_refl _, ⟨by omega, own_cb h.row (.inr rfl) rfl⟩, hl, fun t ht => ⟨vs.getD t nilS, ?_, ?_⟩⟩
  · rw [h.row.cellAt t (by omega), getD_get (by omega), List.getElem?_eq_getElem]
  · exact Nown.of_own (h.ent t ht) (fun g hg2 => ⟨by have := ((h.ent t ht).lt g hg2).1; omega, own_cb (h.ent t ht) (.inl rfl) hg2⟩)
set_option maxHeartbeats 8000000 in
set_option maxRecDepth 20000 in
theorem sources_any (d : Dd) (v : Value) (w : World) (hd : d.Ok) (h : Rws w v d.nx) :
    Calls Tryd.prog 103 #[v] w fun e w' => ∃ F, e = .returned (.agg F.toArray) ∧ FrmW w' (fun g => w.heap.size ≤ g ∧ Cb w' g) d.nx.length d.to F ∧ Ext w w' := by
  obtain ⟨a, cap, rfl, _⟩ := h.shape
  obtain ⟨i0, hi, hz0, hz1, hz2⟩ := info_parts info_int
  obtain ⟨j0, hj, hy0, hy1, hy2⟩ := info_parts info_sli
  have H := Lib.hid h
  have HD := Lib.hid hd
  have h6 := hd.le
  have h0 := hd.pos
  obtain ⟨n, hn⟩ : ∃ n, d.nx.length = n := ⟨_, rfl⟩
  rw [hn] at h6 h0 H ⊢
  have HN := Lib.hid hn
  clear h hd hn
  go_enter Tryd.func103, Tryd.ntmps103
  go_upto_region 2 with fail
  have HR0 := Lib.hid ((Blk.new w Tryd.zeroCells170 170).alloc (.cells Tryd.zeroCells170 170))
  have HF0 := Blk.new (w.alloc (.cells Tryd.zeroCells170 170)) Tryd.zeroCells170 170
  rw [show (w.alloc (.cells Tryd.zeroCells170 170)).heap.size = w.heap.size + 1 by simp] at HF0
  have HE0 := Lib.hid (show Ext w ((w.alloc (.cells Tryd.zeroCells170 170)).alloc (.cells Tryd.zeroCells170 170)) by go_grown)
  generalize (w.alloc (.cells Tryd.zeroCells170 170)).alloc (.cells Tryd.zeroCells170 170) = w0 at *
  rw [zeroF] at HF0
  have HF0 := Lib.hid HF0
  go_wp2_with fail
  go_loopw [7] (fun i wr => ∃ c : Nat, c ≤ 256 ∧ i = .int .i64 c ∧ ∃ F : List Value, F.length = 256 ∧ Hid (Blk wr (w.heap.size + 1) F.toArray 170) ∧ Hid (Blk wr w.heap.size Tryd.zeroCells170 170) ∧
    Hid (∀ c', c' < c → FrRow wr (fun g => w.heap.size + 1 < g ∧ Cb wr g) n d.to c' (F.getD c' nilS)) ∧ Hid (Ext w wr)) (fun i _ => 256 - (intOf i).toNat)
  case atStart => exact ⟨0, Nat.zero_le _, rfl, List.replicate 256 nilS, by simp, HF0, HR0, Lib.hid (fun c' h => by omega), HE0⟩
  case round =>
    obtain ⟨c, hc, rfl, F, hFl, hF, hR, hrows, hE⟩ := hrel
    by_cases hcl : c < 256
    · obtain ⟨g0, hg0⟩ : ∃ g0, wr.heap.size = g0 := ⟨_, rfl⟩
      have hlt0 := hF.out.lt
      go_wp2_with (at_make; refine wpList_make_full _ rfl _ _ 22 rfl (w.heap.size + 1 + 1) 23 j0 nilS 1 Tryd.underlying22 hj hy0 hy1 .i64 .i64 _ _ n rfl rfl rfl rfl (by rw [hy2]; omega) (by unfold maxLen; omega) (by omega) ?_; intro wm hown hgm; have f2 := list_cell (hF.out.grown hgm (by simp)) (show c < F.length by omega); have f3 := (hF.out.grown hgm (by simp)).free c)
      have hcR0 : 0 < n := h0
      have B1 := Lib.hid (list_set (c := c) (hF.out.grown hgm (by simp)) (.slice (some ⟨g0, 0, none⟩) n n))
      have R1 := Lib.hid ((hR.out.grown hgm (by simp)).set_other (a := ⟨w.heap.size + 1, c, none⟩) (by show w.heap.size + 1 ≠ w.heap.size; omega) (.slice (some ⟨g0, 0, none⟩) n n))
      have F1 := Lib.hid (show Fr (fun g => g = w.heap.size + 1 ∨ g0 ≤ g) wr (wm.setCell ⟨w.heap.size + 1, c, none⟩ (.slice (some ⟨g0, 0, none⟩) n n)) from (Fr.of_grown hgm (fun _ h => nomatch h)).set (.inl (.inl rfl)) _)
      have hcells := toList_madeCells_one nilS n
      have hown2 : wm.ownsRow (w.heap.size + 1 + 1) 23 1 (.slice (some ⟨g0, 0, none⟩) n n) n (List.replicate n nilS) := by
        rw [← hcells, ← hg0]; simpa [Value.cells] using hown
      have I1 := Lib.hid (show RowI (wm.setCell ⟨w.heap.size + 1, c, none⟩ (.slice (some ⟨g0, 0, none⟩) n n)) (w.heap.size + 1) g0 n c 0 d.to (List.replicate n nilS) from
        ⟨own_set hown2 (fun q => by have q : g0 = w.heap.size + 1 := Option.some.inj q; omega), fun t ht => by
          rw [List.getD_eq_getElem?_getD, List.getElem?_replicate, if_pos ht]; exact own_nil _ _ _ _, fun t t' ht ht' _ g hg => by
          rw [List.getD_eq_getElem?_getD, List.getElem?_replicate, if_pos ht] at hg; cases hg⟩)
      generalize wm.setCell ⟨w.heap.size + 1, c, none⟩ (.slice (some ⟨g0, 0, none⟩) n n) = w1 at *
      clear hown hown2 hgm f2 f3 hcells
      obtain ⟨F', hF'⟩ : ∃ F', F.set c (.slice (some ⟨g0, 0, none⟩) n n) = F' := ⟨_, rfl⟩
      have HF' := Lib.hid hF'
      have hFc : F'.getD c nilS = .slice (some ⟨g0, 0, none⟩) n n := by rw [← hF', getD_set, if_pos ⟨rfl, by omega⟩]
      have hFl' : F'.length = 256 := by rw [← hF', List.length_set, hFl]
      have HFC := Lib.hid hFc
      rw [hF'] at B1
      clear hF' hFc
      have hg0w : w.heap.size + 1 < g0 := by omega
      obtain ⟨fb, hfb⟩ : ∃ fb, w.heap.size + 1 = fb := ⟨_, rfl⟩
      rw [hfb] at B1 F1 I1 hg0w
      simp only [hfb]
      have HFB := Lib.hid hfb
      have HG0 := Lib.hid hg0
      clear hfb hg0
      obtain ⟨wo, rfl⟩ : ∃ wo : World, wo = wr := ⟨_, rfl⟩
      go_loopw [17] (fun i wr => ∃ s : Nat, s ≤ n ∧ i = .int .i64 s ∧ ∃ vs, Hid (RowI wr fb g0 n c s d.to vs) ∧ Hid (Blk wr fb F'.toArray 170) ∧ Hid (Blk wr w.heap.size Tryd.zeroCells170 170) ∧ Hid (Fr (fun g => g = fb ∨ g0 ≤ g) wo wr)) (fun i _ => n - (intOf i).toNat)
      case atStart => exact ⟨0, Nat.zero_le _, rfl, _, I1, B1, R1, F1⟩
      case round =>
        obtain ⟨s, hs, rfl, vs, hI, hB, hRR, hFR⟩ := hrel
        by_cases hsl : s < n
        · have EW := Lib.hid (show Ext w wr from Below.trans hE.out (hFR.out.below (by have := hE.out.size; omega) (fun g hg q => by have := HFB.out; omega)))
          have hsl' : s < d.nx.length := by rw [HN.out]; exact hsl
          obtain ⟨bR, oR, aR, cR, rfl, hbR, hcR, hIR, _⟩ := H.out.cell hsl'
          have hrl : d.nx[s].length = 256 := by have := HD.out.row s hsl'; rwa [getD_get hsl'] at this
          obtain ⟨bE, oE, rfl, hbE, hcE, rg1, rg2⟩ := hIR.cell (show c < d.nx[s].length by omega)
          have hent := HD.out.ent s c hsl' hcl
          have hee : d.nx[s][c]'(by omega) = ((d.to s c : Nat) : Int) := by
            have : d.ent s c = d.nx[s][c]'(by omega) := by unfold Dd.ent; rw [getD_get hsl', getD_get (by omega)]
            unfold Dd.to
            rw [this] at hent ⊢
            omega
          have htt := HD.out.to hsl' hcl
          rw [hee] at hcE
          rw [hrl] at hcR
          rw [HN.out] at htt
          have kR : wr.cell? ⟨bR, oR + s, none⟩ = _ := (EW.out.cell (p := ⟨bR, oR + s, none⟩) hbR).trans hcR
          have kE : wr.cell? ⟨bE, oE + c, none⟩ = _ := (EW.out.cell (p := ⟨bE, oE + c, none⟩) hbE).trans hcE
          obtain ⟨tt, htq⟩ : ∃ tt, d.to s c = tt := ⟨_, rfl⟩
          rw [htq] at kE htt
          have HTQ := Lib.hid htq
          obtain ⟨ax, cx, hxs⟩ := own_shp (hI.out.ent tt htt)
          obtain ⟨L, hL⟩ : ∃ L, srcK d.to c s tt = L := ⟨_, rfl⟩
          rw [hL] at hxs
          have hLl : L.length ≤ 600 := by have := srcK_len d.to c s tt; rw [hL] at this; omega
          have OX := Lib.hid (show wr.ownsRow (g0 + 1) 3 1 (.slice ax L.length cx) L.length (L.map nv) by have := hI.out.ent tt htt; rw [hL, hxs] at this; exact this)
          have HXS := Lib.hid hxs
          have HLL := Lib.hid hL
          have kG : wr.cell? ⟨g0, tt, none⟩ = some (.slice ax L.length cx) := by
            have hvl := hI.out.row.1
            rw [hI.out.row.cellAt tt (by omega), ← hxs, getD_get (by omega), List.getElem?_eq_getElem]
          have kF : wr.cell? ⟨fb, c, none⟩ = some (.slice (some ⟨g0, 0, none⟩) n n) := by rw [← HFC.out]; exact list_cell hB.out (by omega)
          have hbase : g0 + 1 ≤ wr.heap.size := by have := (hI.out.row.lt g0 rfl).2; omega
          have HX := Lib.hid (fun g (hg : (Value.slice ax L.length cx).ownBlock = some g) => OX.out.lt g hg)
          have HXn := Lib.hid (fun g (hg : (none : Option Nat) = some g) => show g < wr.heap.size from nomatch hg)
          have HKN := Lib.hid (fun g (hg : g ≤ g0 ∨ wr.heap.size ≤ g) => kf2_none (X1 := (Value.slice ax L.length cx).ownBlock) (X2 := none) (ys1 := L.map nv ++ [nv s]) (ys2 := []) (g := g) (fun q => by have := HX.out g q; omega) (fun q => nomatch q))
          have KR := Lib.hid kR
          have KE := Lib.hid kE
          have KG := Lib.hid kG
          have KF := Lib.hid kF
          have nR := Lib.hid (HKN.out bR (.inl (by have := HFB.out; omega)))
          have nE := Lib.hid (HKN.out bE (.inl (by have := HFB.out; omega)))
          have nG := Lib.hid (HKN.out g0 (.inl (Nat.le_refl _)))
          have nF := Lib.hid (HKN.out fb (.inl (by omega)))
          clear rg1 rg2
          clear hrl hent hee hcR hcE hIR htq hL hxs kG kF kE
          go_upto_region 9 with fail
          clear kR
          refine G.wp_region_tail (G := LkF (kf2 (Value.slice ax L.length cx).ownBlock (L.map nv ++ [nv s]) none [])) (RsL 17 18 98 99 (OneV wr.heap.size 3 [nv s]) (AppR wr.heap.size (g0 + 1) 3 1 (L.length + 1) (Value.slice ax L.length cx).ownBlock (L.map nv ++ [nv s])) (fun _ _ => True) (fun _ _ => True)) 20 (by kernel_rfl) (by kernel_rfl) (RsL_mono (OneV_lkf _ (fun g hg => HKN.out g (.inr hg)) _ _) (AppR_lkf _ _ _ _ _ _ _ (kf2_app1 (fun g hg => (HX.out g hg).2) HXn.out)) (fun _ _ _ _ h => h) (fun _ _ _ _ h => h)) (fun hex => ?_)
          simp only [List.take_succ_cons, List.take_zero, List.drop_succ_cons, List.drop_zero]
          iterate 17
            (refine G.wpS_one (A := ?_) hex rfl rfl (by simp) ?_ ?_ ?_
             rotate_left 2
             · intro w' hC K hK
               have z1 := lkf_cell hC.1 nF.out KF.out; have z2 := lkf_cell hC.1 nE.out KE.out; have z3 := lkf_cell hC.1 nG.out KG.out
               go_wp2_with (fail)
               refine hK _ ?_
               first | exact LkF.refl _ | exact LkF.of_ext (by assumption)
             rotate_left 1
             · rfl
             clear hex; intro hex)
          refine G.wpS_rel (OneV (wr.heap.size) (3) ([nv s])) rfl rfl (by simp) (by first | rfl | (simp [Region.wanted, yielded]; done)) ?_ ?_
          · intro w' hC K hK
            simp only [Act.put, List.setIfInBounds_toArray, List.set_cons_succ, List.set_cons_zero] at hK
            go_wp2_with fail
            exact hK _ _ (LkF.of_ext ((Below.refl _ _).alloc (Nat.le_refl _) _)) ⟨_, rfl, Blk.new _ _ _, hC.1.1.2.2.2⟩
          clear hex
          intro v w' hex hv
          replace hex := Exists.intro w' hex
          simp only [Act.put, List.setIfInBounds_toArray, List.set_cons_succ, List.set_cons_zero]
          obtain ⟨b1, rfl, hv, hb1⟩ := hv
          clear hv
          refine G.wpS_rel (AppR wr.heap.size (g0 + 1) 3 1 (L.length + 1) (Value.slice ax L.length cx).ownBlock (L.map nv ++ [nv s])) rfl rfl (by simp) (by first | rfl | (simp [Region.wanted, yielded]; done)) ?_ ?_
          · intro w' hC K hK
            simp only [Act.put, List.setIfInBounds_toArray, List.set_cons_succ, List.set_cons_zero] at hK
            obtain ⟨b9, e9, hB9, _⟩ := (hC.2 17 (by simp [Region.binds])).1 rfl
            cases e9
            have hown' := own_lkf OX.out hC.1 (fun g N T hg hK i hi => by rw [kf2_one g hg] at hK; cases hK; exact ⟨by rw [List.length_append]; omega, by simp [List.getElem?_append_left hi]⟩)
            refine wpList_append_lko _ rfl (.tmp 37) (.tmp 39) 23 rfl (g0 + 1) 3 i0 _ 1 8 Tryd.underlying23 hi hz0 hz1 hz2 rfl (by decide) _ L.length (L.map nv) rfl hown' ⟨b1, 0, none⟩ 1 1 [nv s] rfl rfl (World.news_of_block hB9) (iv_one _) (by decide) (by unfold maxLen; omega) (by omega) (Nat.le_trans hbase hC.1.1.2.2.2) ?_
            intro g8 cap8 w8 hown8 hv8 hg8 hlk8
            simp only [wpList]
            refine hK _ _ (LkF.of_lko hlk8 (kf2_one)) ⟨g8, cap8, rfl, hown8, ?_, hg8⟩
            rcases hv8 with h | h
            · exact .inl h
            · exact .inr (by have := hC.1.1.2.2.2; omega)
          clear hex
          intro v w' hex hv
          replace hex := Exists.intro w' hex
          simp only [Act.put, List.setIfInBounds_toArray, List.set_cons_succ, List.set_cons_zero]
          obtain ⟨g5, cap5, rfl, hv, hloc5, hv2⟩ := hv
          clear hv hv2
          refine G.wpS_one (A := ?_) hex rfl rfl (by simp) ?_ ?_ ?_
          rotate_left 2
          · intro w' hC K hK
            go_wp2_with (fail)
            refine hK _ ?_
            first | exact LkF.refl _ | exact LkF.of_ext (by assumption)
          rotate_left 1
          · rfl
          clear hex; intro hex
          refine G.wpS_nil fun w8 hAll => ?_
          obtain ⟨g5', cap5', e5, ho5, _, hlt5⟩ := (hAll.2 18).1 rfl
          cases e5
          have hgen : ∀ {v : Value} {B e sz m : Nat} {xs : List Value}, wr.ownsRow B e sz v m xs → (∀ g, v.ownBlock = some g → (Value.slice ax L.length cx).ownBlock ≠ some g) → w8.ownsRow B e sz v m xs := fun ho hne =>
            own_lkf ho hAll.1 (fun g N T hg hK i hi => by
              have hz := kf2_none (X1 := (Value.slice ax L.length cx).ownBlock) (X2 := (none : Option Nat)) (ys1 := L.map nv ++ [nv s]) (ys2 := []) (hne g hg) (fun q => nomatch q)
              rw [hz] at hK; cases hK)
          have ROW8 := Lib.hid (hgen hI.out.row (fun g hg q => by have hg : g0 = g := Option.some.inj hg; have := (HX.out g q).1; omega))
          have ENT8 := Lib.hid (fun t (ht : t < n) (hne : t ≠ tt) => hgen (hI.out.ent t ht) (fun g hg q => hI.out.dj tt t htt ht (Ne.symm hne) g (by rw [HXS.out]; exact q) hg))
          have B8 := Lib.hid (hAll.1.blk hB.out nF.out)
          have R8 := Lib.hid (hAll.1.blk hRR.out (HKN.out _ (.inl (by have := HFB.out; omega))))
          have F8 := Lib.hid (hFR.out.trans (S' := fun g => g0 ≤ g) ⟨hAll.1.1.1, hAll.1.1.2.1, hAll.1.1.2.2.1, hAll.1.1.2.2.2, fun g hg hn => hAll.1.2.1 g hg (HKN.out g (.inl (by omega)))⟩ (fun _ _ q => .inr q))
          have G5 : Hid (g5 ≠ g0 ∧ ∀ t, t < n → t ≠ tt → (vs.getD t nilS).ownBlock ≠ some g5) := Lib.hid ⟨fun q => own_ne_own ho5 ROW8.out (by decide) g0 rfl (by rw [q]; rfl), fun t ht hne q => by
            rcases hloc5 with h | h
            · exact hI.out.dj tt t htt ht (Ne.symm hne) g5 (by rw [HXS.out]; exact h) q
            · have := ((hI.out.ent t ht).lt g5 q).2; omega⟩
          have O58 := Lib.hid ho5
          have z3 := lkf_cell hAll.1 nG.out KG.out
          have y3 := ROW8.out.frozenAt tt
          clear ho5 hAll hex hlt5 hloc5 hgen
          go_wp2_with fail
          go_roundw
          case rel =>
            refine ⟨s + 1, by omega, by go_num, vs.set tt (.slice (some ⟨g5, 0, none⟩) (L.length + 1) cap5), Lib.hid ⟨(ROW8.out.stored tt _).1, fun t ht => ?_, fun t t' ht ht' hne g hg => ?_⟩, Lib.hid (B8.out.set_other (a := ⟨g0, tt, none⟩) (by show g0 ≠ fb; omega) _), Lib.hid (R8.out.set_other (a := ⟨g0, tt, none⟩) (by show g0 ≠ w.heap.size; have := HFB.out; omega) _), Lib.hid (F8.out.set (b := g0) (.inl (.inr (Nat.le_refl _))) _)⟩
            · have hvl := hI.out.row.1
              rw [getD_set, srcK_step, HTQ.out]
              by_cases e : tt = t
              · subst e
                rw [if_pos ⟨rfl, by omega⟩, if_pos rfl, HLL.out, List.length_append, List.map_append]
                exact own_set O58.out (fun q => G5.out.1 (Option.some.inj q))
              · rw [if_neg (fun q => e q.1), if_neg e]
                exact own_set (ENT8.out t ht (Ne.symm e)) (fun q => by have := ((hI.out.ent t ht).lt g0 q).1; omega)
            · have hvl := hI.out.row.1
              rw [getD_set] at hg ⊢
              by_cases e : tt = t
              · subst e
                rw [if_pos ⟨rfl, by omega⟩] at hg
                have hg : g5 = g := Option.some.inj hg
                rw [if_neg (fun q => hne q.1), ← hg]
                exact G5.out.2 t' ht' (Ne.symm hne)
              · rw [if_neg (fun q => e q.1)] at hg
                by_cases e2 : tt = t'
                · rw [if_pos ⟨e2, by omega⟩]
                  intro q
                  have q : g5 = g := Option.some.inj q
                  exact G5.out.2 t ht (Ne.symm e) (by rw [q]; exact hg)
                · rw [if_neg (fun q => e2 q.1)]
                  exact hI.out.dj t t' ht ht' hne g hg
          case measure => simp [intOf]; omega
        · have e : s = n := by omega
          subst e
          have hfb := HFB.out
          subst hfb
          go_wp2_with fail
          go_roundw
          case rel =>
            refine ⟨c + 1, by omega, by go_num, F', hFl', hB, hRR, Lib.hid (fun c' hc' => ?_), Lib.hid (Below.trans hE.out (hFR.out.below (by have := hE.out.size; omega) (fun g hg q => by have := HFB.out; omega)))⟩
            by_cases e : c' = c
            · rw [e, HFC.out]
              exact hI.out.frrow h0
            · have hold := (hrows.out c' (by omega)).frC hFR.out (fun g hg hq q => by have := HG0.out; omega)
              rw [← HF'.out, getD_set, if_neg (fun q => e q.1.symm)]
              exact hold
          case measure => simp [intOf]; omega
    · have e : c = 256 := by omega
      subst e
      have HRG := Lib.hid (show wr.rangeAt (w.heap.size + 1) 0 F from fun j v hv => by rw [Nat.zero_add, hF.out.cell j]; simpa using hv)
      have h1 : F.toArray.all (·.oneCell') = true := by
        rw [List.all_toArray]
        refine List.all_eq_true.2 (fun x hx => ?_)
        obtain ⟨j, hj, rfl⟩ := List.getElem_of_mem hx
        obtain ⟨g, cp, e, _⟩ := hrows.out j (by omega)
        rw [getD_get hj] at e
        rw [e]; rfl
      have H1 := Lib.hid h1
      have hzs : Tryd.zeroCells170.size = F.toArray.size := by rw [zeroF]; simp [hFl]
      have HZS := Lib.hid hzs
      have HIF := Lib.hid (show (Tryd.prog.info? 170).map (·.size) = some F.length by rw [hFl]; exact info_frm)
      clear h1 hzs
      go_upto_region 12 with fail
      iterate 2 go_step
      refine wp_load_mid 170 (.tmp 3) rfl (w.heap.size + 1) 0 rfl F _ HRG.out Tryd.underlying170 rfl HIF.out ?_
      simp only [Act.put, List.setIfInBounds_toArray, List.set_cons_succ, List.set_cons_zero]
      iterate 2 go_step
      refine wp_store_row 170 (.tmp 2) (.tmp 44) rfl w.heap.size F.toArray rfl rfl 170 _ hR.out (by rw [List.size_toArray]; exact HIF.out) HZS.out H1.out ?_
      simp only [Act.put]
      have BR := Lib.hid (show Blk (wr.setRow w.heap.size F.toArray) w.heap.size F.toArray 170 from setRow_heap _ _ _ _ _ _ hR.out)
      have FR := Lib.hid (show Fr (fun g => g = w.heap.size) wr (wr.setRow w.heap.size F.toArray) from ⟨rfl, rfl, rfl, by simp, fun k _ hn => setRow_other _ _ _ _ hn⟩)
      generalize wr.setRow w.heap.size F.toArray = w3 at *
      go_wp2_with fail
      have HRG3 : w3.rangeAt w.heap.size 0 F := fun j v hv => by rw [Nat.zero_add, BR.out.cell j]; simpa using hv
      refine bodyPost_ret (v := .agg F.toArray) ?_ rfl ⟨F, rfl, ⟨hFl, fun c hc => ?_⟩, ?_⟩
      · rw [results_cell1 (fn := Tryd.f103) rfl]
        have ea : (asAddr (.pointer (some ⟨w.heap.size, 0, none⟩))).run Tryd.prog w3 = .ok ⟨w.heap.size, 0, none⟩ w3 := rfl
        show Result.andThen ((asAddr (.pointer (some ⟨w.heap.size, 0, none⟩))).run Tryd.prog w3) _ = _
        rw [ea]
        exact run_loadVar_mid w3 w.heap.size 0 170 F _ HRG3 Tryd.underlying170 rfl HIF.out
      · exact ((hrows.out c hc).frC FR.out (fun g _ hg q => by omega)).imp (fun g _ hg => ⟨by have := hg.1; omega, hg.2⟩)
      · exact Below.trans hE.out (FR.out.below (by have := hE.out.size; omega) (fun g hg q => by omega))
end Go.Proofs.YtniamfaiamgncaaDoor
namespace Go.Proofs.YtniamfaiamgncaaDoor
open Go Go.RowKit
theorem own_base {w : World} {B B' e sz n : Nat} {v : Value} {xs : List Value} (h : w.ownsRow B e sz v n xs) (hb : B' ≤ B) : w.ownsRow B' e sz v n xs := by
  obtain ⟨h1, h2 | ⟨g, cap, cur, hv, h3, r⟩⟩ := h
  · exact ⟨h1, .inl h2⟩
  · exact ⟨h1, .inr ⟨g, cap, cur, hv, by omega, r⟩⟩
theorem flat_take {f : Nat → List Nat} {L : List Nat} {j : Nat} (h : j < L.length) : (L.take (j + 1)).flatMap f = (L.take j).flatMap f ++ f L[j] := by
  rw [List.take_succ_eq_append_getElem h, List.flatMap_append]; simp
theorem flat_le {f : Nat → List Nat} (L : List Nat) (j : Nat) : ((L.take j).flatMap f).length ≤ (L.flatMap f).length := by
  conv => rhs; rw [← List.take_append_drop j L]
  rw [List.flatMap_append, List.length_append]; omega
set_option maxHeartbeats 4000000 in
set_option maxRecDepth 20000 in
theorem leading_any {b B n k c : Nat} {v1 v2 v3 v4 vl vm : Value} {F : List Value} {p : Pt} {w : World} {Q : Nat → Prop} {dl : Nat → Nat → Nat} (h : PtR w b B n v1 v2 v3 v4 vl vm F p) (hf : FrmW w Q n dl F) (hk : k < p.sp.length) (hc : c < 256) (hl : (lead n dl p k c).length ≤ n) :
    Calls Tryd.prog 107 #[.pointer (some ⟨b, 0, none⟩), .agg #[nv k, nv c]] w fun e w' => ∃ v', e = .returned v' ∧ w'.ownsRow w.heap.size 3 1 v' (lead n dl p k c).length ((lead n dl p k c).map nv) ∧ Ext w w' := by
  obtain ⟨i0, hi, hz0, hz1, hz2⟩ := info_parts info_int
  have hkc := h.ok.kc k hk
  have h6 := h.few
  have h0 : 0 < n := by omega
  have o1 : w.ownsRow B 3 1 v1 n (p.st.map nv) := by have := h.pt.o1; rw [h.ok.ls] at this; exact this
  obtain ⟨g1, c1, rfl, hc1, hg1, hg1', hm1⟩ := own_some o1 h0
  have O1 := Lib.hid o1
  have H := Lib.hid h
  have HF := Lib.hid hf
  have HK := Lib.hid hk
  have HML := Lib.hid (Pt.mem_length h.ok hk)
  have HMG := Lib.hid (fun j (hj : j < (p.mem k).length) => Pt.mem_get h.ok hk hj)
  have HMN := Lib.hid (fun x (hx : x ∈ p.mem k) => ((Pt.mem_class h.ok hk).1 hx).1)
  have hbl := h.blk.lt
  obtain ⟨bb, hbb⟩ : ∃ x, p.B k = x := ⟨_, rfl⟩
  obtain ⟨ee, hee⟩ : ∃ x, p.E k = x := ⟨_, rfl⟩
  have BB := Lib.hid hbb
  have EE := Lib.hid hee
  have hbe := hkc.1
  have hen := hkc.2.1
  rw [hbb, hee] at hbe HML
  rw [hee] at hen
  rw [hbb] at HMG
  obtain ⟨g, cap, hFc, hgn, hQ, hgl, hrow⟩ := hf.row c hc
  have HROW := Lib.hid hrow
  have hFl := hf.len
  have hFg : F[c]? = some (.slice (some ⟨g, 0, none⟩) n cap) := by rw [← hFc, getD_get (by omega), List.getElem?_eq_getElem]
  have HFG := Lib.hid hFg
  obtain ⟨ml, hml⟩ : ∃ ml, p.mem k = ml := ⟨_, rfl⟩
  have HLE := Lib.hid (fun j => Nat.le_trans (flat_le (f := srcs n dl c) (p.mem k) j) hl)
  unfold lead
  rw [hml] at HML HMG HMN HLE ⊢
  clear hbb hee hkc h hf hk o1 hrow hFc hQ hFg hm1 hl hml
  have E0 := Lib.hid (ext_box w #[nv k, nv c] 176)
  have HS := Lib.hid (Blk.new w #[nv k, nv c] 176)
  go_enter Tryd.func107, Tryd.ntmps107
  go_wp2_with fail
  refine wp_region_stab (fun _ => none) (by kernel_rfl) (by kernel_rfl) (fun _ _ h => by cases h) (fun hex => ?_)
  iterate 8
    (refine wpS_one (A := ?_) hex rfl rfl (by simp) ?_ ?_ ?_
     rotate_left 2
     · intro w' hC K hK
       obtain ⟨hcell, hfrz⟩ := bcell hC.1.ext
       have z0 := (HS.out.ext hC.1.ext).cell 0
       go_wp2_with ((refine (members_any (H.out.ext (bel_call E0.out hC.1.ext)) HK.out).mono ?_; rintro e w9 ⟨_, _, e1, rfl, _, _, x9⟩; cases e1; rw [BB.out, EE.out]))
       refine hK _ ?_
       first | exact Gr.refl _ _ | exact Gr.of_ext (by assumption) hC.1.1.size
     rotate_left 1
     · rfl
     clear hex; intro hex)
  refine wpS_nil fun w1 hE => ?_
  replace hE := hE.1.ext
  obtain ⟨hcell_w1, hfrz_w1⟩ := bcell hE
  have E1 := Lib.hid (bel_call E0.out hE)
  have HS1 := Lib.hid (HS.out.ext hE)
  clear hE hcell_w1 hfrz_w1 hex HS
  go_wp2_with fail
  have l600 : ee - bb ≤ 600 := by omega
  have hw1 := E1.out.size
  go_loopw [5, 15] (fun v i wr => ∃ j : Nat, j ≤ ee - bb ∧ i = .int .i64 j ∧ Hid (wr.ownsRow w1.heap.size 3 1 v ((ml.take j).flatMap (srcs n dl c)).length (((ml.take j).flatMap (srcs n dl c)).map nv)) ∧ Hid (Ext w1 wr)) (fun _ i _ => ee - bb - (intOf i).toNat)
  case atStart => exact ⟨0, Nat.zero_le _, rfl, Lib.hid (own_nil _ _ _ _), Lib.hid (Below.refl _ _)⟩
  case round =>
    obtain ⟨j, hj, rfl, hO, hE⟩ := hrel
    by_cases hjl : j < ee - bb
    · have hjm : j < ml.length := by rw [HML.out]; exact hjl
      have EW := Lib.hid (bel_call E1.out hE.out)
      have hx1 := HMG.out j hjm
      have hx2 := HMN.out _ (List.getElem_mem hjm)
      have t0 := nat_cell (own_xt O1.out EW.out) (show bb + j < n by omega) H.out.ok.ls
      rw [show p.st.getD (bb + j) 0 = p.S (bb + j) from rfl, ← hx1] at t0
      have HT := Lib.hid (flat_take (f := srcs n dl c) hjm)
      have hle := HLE.out (j + 1)
      obtain ⟨x, hx⟩ : ∃ x, ml[j] = x := ⟨_, rfl⟩
      rw [hx] at t0 hx2 HT
      rw [HT.out, List.length_append] at hle
      obtain ⟨u, hu, hN⟩ := HROW.out x hx2
      obtain ⟨P, hP⟩ : ∃ P, (ml.take j).flatMap (srcs n dl c) = P := ⟨_, rfl⟩
      obtain ⟨Z, hZ⟩ : ∃ Z, srcs n dl c x = Z := ⟨_, rfl⟩
      rw [hP] at hO HT hle
      rw [hZ] at HT hN hle
      have HU := Lib.hid hu
      clear hx hx1 hjm hP hZ hu
      go_upto_region 5 with fail
      rcases hN with ⟨rfl, rfl⟩ | ⟨gz, cz, rfl, _, hgz, hcz⟩
      · refine G.wp_region_tail (G := Ext) (fun _ => none) 11 (by kernel_rfl) (by kernel_rfl) (fun _ _ h => by cases h) (fun hex => ?_)
        simp only [List.take_succ_cons, List.take_zero, List.drop_succ_cons, List.drop_zero]
        iterate 11
          (refine G.wpS_one (A := ?_) hex rfl rfl (by simp) ?_ ?_ ?_
           rotate_left 2
           · intro w' hC K hK
             have z1 := (HS1.out.ext (bel_call hE.out hC.1)).cell 1; have z2 := rfb_from (H.out.ext (bel_call EW.out hC.1)).blk c; rw [HFG.out] at z2; have z3 := ((bel_call EW.out hC.1).cell (p := ⟨g, x, none⟩) hgl).trans HU.out
             go_wp2_with (fail)
             refine hK _ ?_
             first | exact Below.refl _ _ | assumption | ((repeat' (first | (with_reducible exact Below.refl _ _) | (with_reducible assumption) | (with_reducible refine below_drewN ?_ _) | (with_reducible refine Below.alloc ?_ ?_ _) | (with_reducible refine Below.drew ?_) | (with_reducible refine Below.setCell ?_ ?_ _) | (with_reducible refine Below.trans ?_ (Below.mono (by with_reducible assumption) ?_)) | go_size)))
           rotate_left 1
           · rfl
           clear hex; intro hex)
        refine G.wpS_nil fun w5 hAll => ?_
        have E5 := Lib.hid hAll.1
        clear hAll hex
        go_wp2_with (refine wpList_append_own_none rfl (.tmp 19) (.tmp 29) 23 rfl w1.heap.size 3 i0 1 Tryd.underlying23 hi _ P.length (P.map nv) rfl (own_xt hO.out E5.out) rfl ?_)
        go_roundw
        case rel => exact ⟨j + 1, by omega, by go_num, Lib.hid (by rw [HT.out, List.append_nil]; exact own_xt hO.out E5.out), Lib.hid (bel_call hE.out E5.out)⟩
        case measure => simp [intOf]; omega
      · have HCZ := Lib.hid hcz
        refine G.wp_region_tail (G := Ext) (fun _ => none) 11 (by kernel_rfl) (by kernel_rfl) (fun _ _ h => by cases h) (fun hex => ?_)
        simp only [List.take_succ_cons, List.take_zero, List.drop_succ_cons, List.drop_zero]
        iterate 11
          (refine G.wpS_one (A := ?_) hex rfl rfl (by simp) ?_ ?_ ?_
           rotate_left 2
           · intro w' hC K hK
             have z1 := (HS1.out.ext (bel_call hE.out hC.1)).cell 1; have z2 := rfb_from (H.out.ext (bel_call EW.out hC.1)).blk c; rw [HFG.out] at z2; have z3 := ((bel_call EW.out hC.1).cell (p := ⟨g, x, none⟩) hgl).trans HU.out
             go_wp2_with (fail)
             refine hK _ ?_
             first | exact Below.refl _ _ | assumption | ((repeat' (first | (with_reducible exact Below.refl _ _) | (with_reducible assumption) | (with_reducible refine below_drewN ?_ _) | (with_reducible refine Below.alloc ?_ ?_ _) | (with_reducible refine Below.drew ?_) | (with_reducible refine Below.setCell ?_ ?_ _) | (with_reducible refine Below.trans ?_ (Below.mono (by with_reducible assumption) ?_)) | go_size)))
           rotate_left 1
           · rfl
           clear hex; intro hex)
        refine G.wpS_nil fun w5 hAll => ?_
        have E5 := Lib.hid hAll.1
        clear hAll hex
        have NW := Lib.hid (show ∀ i u, (Z.map nv)[i]? = some u → w5.cell? ((⟨gz, 0, none⟩ : Addr).add i) = some u from fun i u hiu => by
          obtain ⟨hil, rfl⟩ := List.getElem?_eq_some_iff.1 hiu
          rw [Addr.add_mid, Nat.zero_add, (bel_call EW.out E5.out).cell (p := ⟨gz, i, none⟩) hgz, HCZ.out i (by simpa using hil)]
          simp)
        have hz6 : Z.length ≤ 600 := by omega
        have hp6 : P.length ≤ 600 := by omega
        clear hcz hle
        go_wp2_with (at_builtin; refine wpList_append_own _ rfl (.tmp 19) (.tmp 29) 23 rfl w1.heap.size 3 i0 (.int .i64 0) 1 8 Tryd.underlying23 hi hz0 hz1 hz2 rfl (by decide) _ P.length (P.map nv) rfl (own_xt hO.out E5.out) ⟨gz, 0, none⟩ Z.length cz (Z.map nv) rfl (by simp) NW.out (by intro u hu; obtain ⟨y, _, rfl⟩ := List.mem_map.1 hu; rfl) (by unfold maxLen; omega) (by omega) (by have := (bel_call hE.out E5.out).size; omega) ?_; intro v8 w8 hown8 hgrow8 hnil8)
        go_roundw
        case rel => exact ⟨j + 1, by omega, by go_num, Lib.hid (by rw [HT.out, List.length_append, List.map_append]; exact hown8), Lib.hid (ext_gr (bel_call hE.out E5.out) hgrow8 (own_xt hO.out E5.out) (Nat.le_refl _))⟩
        case measure => simp [intOf]; omega
    · have e : j = ml.length := by rw [HML.out]; omega
      go_wp2_with fail
      go_ret
      rw [e, List.take_length] at hO
      exact ⟨_, rfl, own_base hO.out hw1, bel_call E1.out hE.out⟩
end Go.Proofs.YtniamfaiamgncaaDoor
