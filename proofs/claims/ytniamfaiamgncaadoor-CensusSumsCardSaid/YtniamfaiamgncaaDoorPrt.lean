/- minimise's refiner is built out of its parts. -/
import Derived.Test.YtniamfaiamgncaaDoorLdg
import Derived.Test.YtniamfaiamgncaaDoorBfp
import Derived.Deep.AppendLies
namespace Go.Proofs.YtniamfaiamgncaaDoor
open Go Go.RowKit
namespace Pt
theorem partT_app : ∀ (l r : List Nat) (p : Pt) (W : List Spl), p.partT W (l ++ r) = (p.partT W l).1.partT (p.partT W l).2 r
  | [], _, _, _ => rfl
  | k :: l, r, p, W => by
    rw [List.cons_append, partT, partT]
    split
    · exact partT_app l r _ _
    · exact partT_app l r _ _
theorem partT_mid {n : Nat} : ∀ (l r : List Nat) (p : Pt) (W : List Spl), p.Ok n → (l ++ r).Nodup → (∀ k ∈ l ++ r, k < p.sp.length ∧ p.B k < p.M k) → Wok p W →
    (p.partT W l).1.Ok n ∧ Wok (p.partT W l).1 (p.partT W l).2 ∧ (∀ k ∈ r, k < (p.partT W l).1.sp.length ∧ (p.partT W l).1.B k < (p.partT W l).1.M k) ∧ p.sp.length ≤ (p.partT W l).1.sp.length ∧ (p.partT W l).2.length = W.length + 256 * ((p.partT W l).1.sp.length - p.sp.length)
  | [], r, p, W, h, _, hk, hw => ⟨h, hw, fun k hr => hk k (by simpa using hr), Nat.le_refl _, by simp [partT]⟩
  | k :: l, r, p, W, h, hn, hk, hw => by
    obtain ⟨hkl, hbm⟩ := hk k (by simp)
    rw [List.cons_append, List.nodup_cons] at hn
    have hkc := h.kc k hkl
    have hne : ∀ j ∈ l ++ r, j ≠ k ∧ j < p.sp.length := fun j hj => ⟨fun e => hn.1 (e ▸ hj), (hk j (by simp only [List.cons_append, List.mem_cons]; exact .inr hj)).1⟩
    by_cases e : p.M k = p.E k
    · rw [partT, if_pos e]
      have el : (p.cut0 k).sp.length = p.sp.length := by simp [cut0]
      have IH := partT_mid l r (p.cut0 k) W (cut0_ok h hkl) hn.2 (fun j hj => by
        have q := hne j hj
        have := (hk j (by simp only [List.cons_append, List.mem_cons]; exact .inr hj)).2
        rw [el, (cut0_BE p k j).1, cut0_M p k j hkl, if_neg q.1]
        exact ⟨q.2, this⟩) ⟨hw.nd, fun x hx => by rw [el]; exact hw.ok x hx⟩
      rw [el] at IH
      exact IH
    · rw [partT, if_neg e]
      have el := cut1_len p k
      have IH := partT_mid l r (p.cut1 k) (pws W k p.sp.length ((p.cut1 k).sml k p.sp.length) 256) (cut1_ok h hkl hbm (by omega)) hn.2 (fun j hj => by
        have q := hne j hj
        have := (hk j (by simp only [List.cons_append, List.mem_cons]; exact .inr hj)).2
        have q1 : j ≠ p.sp.length := by omega
        rw [el, cut1_B p k j hkl, cut1_M p k j hkl, if_neg q1, if_neg q1, if_neg q.1, if_neg q.1]
        exact ⟨by omega, this⟩) (cut1_wok hw hkl _ (sml_or _ _ _))
      rw [el, pws_len] at IH
      refine ⟨IH.1, IH.2.1, IH.2.2.1, by omega, by omega⟩
end Pt
/-- What parting and the worklist write. -/
def Sa (v1 v2 v3 v4 vl : Value) (mb b k : Nat) : Prop := Sp v1 v2 v3 v4 b k ∨ Sw vl mb b k
theorem pt_not_sw {w : World} {b B n mb : Nat} {v1 v2 v3 v4 vl vl' vm : Value} {F : List Value} {p : Pt} {W : List Spl} (h : PtR w b B n v1 v2 v3 v4 vl' vm F p) (hw : WkW w B vl mb W) (k : Nat) (hk : v1.ownBlock = some k ∨ v2.ownBlock = some k ∨ v3.ownBlock = some k ∨ v4.ownBlock = some k) : ¬ Sw vl mb b k := by
  obtain ⟨m, hm⟩ := hw.map
  intro q
  have one : ∀ {v : Value} {e sz z : Nat} {xs : List Value}, w.ownsRow B e sz v z xs → e ≠ 176 → e ≠ 173 → v.ownBlock = some k → False := fun ho n1 n2 hv => by
    rcases q with q | q | q
    · exact own_ne_own ho hw.own n1 k q hv
    · exact own_ne_map ho hm (by rw [hv, q])
    · exact own_ne_blk ho h.blk n2 (by rw [hv, q])
  rcases hk with hk | hk | hk | hk
  · exact one h.pt.o1 (by decide) (by decide) hk
  · exact one h.pt.o2 (by decide) (by decide) hk
  · exact one h.pt.o3 (by decide) (by decide) hk
  · exact one h.pt.o4 (by decide) (by decide) hk
theorem wk_not_sp {w : World} {b B n mb : Nat} {v1 v2 v3 v4 vl vl' vm : Value} {F : List Value} {p : Pt} {W : List Spl} (h : PtR w b B n v1 v2 v3 v4 vl' vm F p) (hw : WkW w B vl mb W) : (∀ k, vl.ownBlock = some k → ¬ Sp v1 v2 v3 v4 b k) ∧ ¬ Sp v1 v2 v3 v4 b mb := by
  obtain ⟨m, hm⟩ := hw.map
  constructor
  · intro k hk q
    rcases q with q | q | q | q | q
    · exact own_ne_own h.pt.o1 hw.own (by decide) k hk q
    · exact own_ne_own h.pt.o2 hw.own (by decide) k hk q
    · exact own_ne_own h.pt.o3 hw.own (by decide) k hk q
    · exact own_ne_own h.pt.o4 hw.own (by decide) k hk q
    · exact own_ne_blk hw.own h.blk (by decide) (by rw [hk, q])
  · intro q
    rcases q with q | q | q | q | q
    · exact own_ne_map h.pt.o1 hm q
    · exact own_ne_map h.pt.o2 hm q
    · exact own_ne_map h.pt.o3 hm q
    · exact own_ne_map h.pt.o4 hm q
    · exact map_ne_blk hm h.blk q
set_option maxHeartbeats 8000000 in
set_option maxRecDepth 20000 in
theorem part_any {b B n mb : Nat} {v1 v2 v3 v4 vl v : Value} {F : List Value} {p : Pt} {W : List Spl} {w : World} {X : List Nat} {Q : Nat → Prop} (h : PtR w b B n v1 v2 v3 v4 vl (.map (some mb)) F p) (hwk : WkW w B vl mb W) (hc : p.Clean) (hX : Nats Q w v X) (hQ : ∀ k, k < w.heap.size → Q k → ¬ Sp v1 v2 v3 v4 b k) (hl : ∀ s ∈ X, s < n) (hn : X.Nodup) (h0 : 0 < n) (hs0 : 0 < p.sp.length) (hw : Wok p W) (hW : W.length ≤ 256 * p.sp.length) (hB : B ≤ w.heap.size) :
    Calls Tryd.prog 105 #[.pointer (some ⟨b, 0, none⟩), v] w fun e w' => e = .returned (.tuple #[]) ∧ ∃ v4' vl', PtR w' b B n v1 v2 v3 v4' vl' (.map (some mb)) F (p.part W X).1 ∧ WkW w' B vl' mb (p.part W X).2 ∧ Fr (Sa v1 v2 v3 v4 vl mb b) w w' ∧ (∀ g, v4'.ownBlock = some g → v4.ownBlock = some g ∨ w.heap.size ≤ g) ∧ ∀ g, vl'.ownBlock = some g → vl.ownBlock = some g ∨ w.heap.size ≤ g := by
  have hM0 : p.Mk n (fun _ => False) := fun s hs => ⟨fun q => q.elim, fun q => by
    have := h.ok.ck s hs
    have := hc _ this.1
    omega⟩
  have hmo := Pt.marks_ok X p (fun _ => False) h.ok hM0 (fun s hs => ⟨hl s hs, fun q => q⟩) hn
  have hml := Pt.marks_len X p
  obtain ⟨m1, m2, m3, m4, m5⟩ := hmo
  have HMK := Lib.hid (mark_any h hc hX hQ hl hn h0 hs0)
  have hTk : ∀ k ∈ (p.marks X).2, k < (p.marks X).1.sp.length ∧ (p.marks X).1.B k < (p.marks X).1.M k := fun k hk => by
    have := (m5 k).1 hk
    rw [hml, (m3 k this.1).1]; exact ⟨this.1, this.2.2⟩
  have hwT : Wok (p.marks X).1 W := ⟨hw.nd, fun x hx => by rw [hml]; exact hw.ok x hx⟩
  unfold Pt.part
  obtain ⟨q, hq⟩ : ∃ q, (p.marks X).1 = q := ⟨_, rfl⟩
  obtain ⟨T, hT⟩ : ∃ T, (p.marks X).2 = T := ⟨_, rfl⟩
  rw [hq] at HMK m1 hTk hwT hml ⊢
  rw [hT] at HMK m4 hTk ⊢
  have hT6 : T.length ≤ 600 := by
    have h6 := h.few
    have := nodup_lt q.sp.length T m4 (fun k hk => (hTk k hk).1)
    have := Pt.few m1
    omega
  have H := Lib.hid h
  have HWK := Lib.hid hwk
  have MID := Lib.hid (fun j => Pt.partT_mid (T.take j) (T.drop j) q W m1 (by rw [List.take_append_drop]; exact m4) (fun k hk => by rw [List.take_append_drop] at hk; exact hTk k hk) hwT)
  have hWq : W.length ≤ 256 * q.sp.length := by rw [hml]; exact hW
  have HWQ := Lib.hid hWq
  clear hM0 m1 m2 m3 m4 m5 hTk hwT hml hq hT hX hQ hl hn hc hw hW h hwk hWq
  go_enter Tryd.func105, Tryd.ntmps105
  go_wp2_with fail
  refine HMK.out.mono ?_
  rintro e w1 ⟨vT, rfl, oT, p1, f1⟩
  obtain ⟨aT, cT, rfl⟩ := own_shp oT
  have OT1 := Lib.hid oT
  have P1 := Lib.hid p1
  have K1 := Lib.hid (HWK.out.fr f1 (wk_not_sp H.out HWK.out).1 (wk_not_sp H.out HWK.out).2)
  have F1 := Lib.hid (f1.mono (S' := Sa v1 v2 v3 v4 vl mb b) (fun _ _ q => .inl q))
  clear oT p1 f1 HMK
  go_wp2_with fail
  go_loopw [14] (fun i wr => ∃ j : Nat, j ≤ T.length ∧ i = .int .i64 j ∧ ∃ v4j vlj, Hid (PtR wr b B n v1 v2 v3 v4j vlj (.map (some mb)) F (q.partT W (T.take j)).1) ∧ Hid (WkW wr B vlj mb (q.partT W (T.take j)).2) ∧ Hid (Fr (Sa v1 v2 v3 v4 vl mb b) w wr) ∧
    Hid (∀ g, v4j.ownBlock = some g → v4.ownBlock = some g ∨ w.heap.size ≤ g) ∧ Hid (∀ g, vlj.ownBlock = some g → vl.ownBlock = some g ∨ w.heap.size ≤ g) ∧ Hid (wr.ownsRow w.heap.size 3 1 (.slice aT T.length cT) T.length (T.map nv))) (fun i _ => T.length - (intOf i).toNat)
  case atStart => exact ⟨0, Nat.zero_le _, rfl, v4, vl, P1, K1, F1, Lib.hid (fun g hg => .inl hg), Lib.hid (fun g hg => .inl hg), OT1⟩
  case round =>
    obtain ⟨j, hj, rfl, v4j, vlj, hP, hK, hF, hL4, hLl, hO⟩ := hrel
    by_cases hjl : j < T.length
    · obtain ⟨d1, d2, d3, d4, d5⟩ := MID.out j
      have hkd : T[j] ∈ T.drop j := by rw [List.drop_eq_getElem_cons hjl]; exact .head _
      obtain ⟨k1, k2⟩ := d3 _ hkd
      have ST := Lib.hid (show q.partT W (T.take (j + 1)) = (q.partT W (T.take j)).1.partT (q.partT W (T.take j)).2 [T[j]] by rw [List.take_succ_eq_append_getElem hjl, Pt.partT_app])
      obtain ⟨gT, cT', eT, _, hgT, hgTl, _⟩ := own_some hO.out (by omega)
      cases eT
      have t0 := nat_cell hO.out hjl rfl
      rw [getD_get hjl] at t0
      obtain ⟨k, hk⟩ : ∃ k, T[j] = k := ⟨_, rfl⟩
      obtain ⟨qj, hqj⟩ : ∃ x, (q.partT W (T.take j)).1 = x := ⟨_, rfl⟩
      obtain ⟨Wj, hWj⟩ : ∃ x, (q.partT W (T.take j)).2 = x := ⟨_, rfl⟩
      rw [hk] at t0 k1 k2 ST
      rw [hqj] at d1 d2 d4 d5 k1 k2 hP ST
      rw [hWj] at d2 d5 hK ST
      have hfew := Pt.few d1
      have hn6 := hP.out.few
      have hWl : Wj.length ≤ 500000 := by have := HWQ.out; omega
      have HCT := Lib.hid (cut_any hP.out k1 k2)
      have NW := Lib.hid (show ∀ c, (qj.sp.length, c) ∉ Wj from fun c hc => absurd (d2.ok _ hc).1 (Nat.lt_irrefl _))
      have WS := hF.out.2.2.2.1
      obtain ⟨mj, hmj⟩ : ∃ x, qj.sp.length = x := ⟨_, rfl⟩
      have MJ := Lib.hid hmj
      have K1' := Lib.hid k1
      rw [hmj] at NW hfew
      have hkm : k < mj := by rw [← hmj]; exact k1
      clear hkd d1 d2 d3 d4 d5 hqj hWj hk k1 k2 hmj
      go_wp2_with fail
      refine HCT.out.mono ?_
      rintro e w3 (⟨he, rfl, p3, f3⟩ | ⟨he, rfl, v4', p3, f3, l3⟩)
      · have P3 := Lib.hid p3
        have ST2 := Lib.hid (show q.partT W (T.take (j + 1)) = (qj.cut0 k, Wj) by rw [ST.out, Pt.partT, if_pos he, Pt.partT])
        have K3 := Lib.hid (hK.out.fr f3 (wk_not_sp hP.out hK.out).1 (wk_not_sp hP.out hK.out).2)
        have F3 := Lib.hid (hF.out.trans f3 (fun g hg s => by
          rcases s with s | s | s | s | s
          · exact .inl (.inl s)
          · exact .inl (.inr (.inl s))
          · exact .inl (.inr (.inr (.inl s)))
          · exact (hL4.out g s).elim (fun s => .inl (.inr (.inr (.inr (.inl s))))) (fun s => absurd hg (by omega))
          · exact .inl (.inr (.inr (.inr (.inr s))))))
        have O3 := Lib.hid (f3.own hO.out (fun g hg s => by
          have hg : gT = g := Option.some.inj hg
          rcases s with s | s | s | s | s
          · have := (H.out.pt.o1.lt g s).2; omega
          · have := (H.out.pt.o2.lt g s).2; omega
          · have := (H.out.pt.o3.lt g s).2; omega
          · exact own_ne_own hO.out hP.out.pt.o4 (by decide) g s (by rw [hg]; rfl)
          · have := H.out.blk.lt; omega))
        clear p3 f3 he
        go_wp2_with fail
        go_roundw
        case rel => exact ⟨j + 1, by omega, by go_num, v4j, vlj, Lib.hid (by rw [ST2.out]; exact P3.out), Lib.hid (by rw [ST2.out]; exact K3.out), F3, hL4, hLl, O3⟩
        case measure => simp [intOf]; omega
      · have P3 := Lib.hid p3
        have ST2 := Lib.hid (show q.partT W (T.take (j + 1)) = (qj.cut1 k, pws Wj k mj ((qj.cut1 k).sml k mj) 256) by rw [ST.out, Pt.partT, if_neg he, Pt.partT, MJ.out])
        have K3 := Lib.hid (hK.out.fr f3 (wk_not_sp hP.out hK.out).1 (wk_not_sp hP.out hK.out).2)
        have F3 := Lib.hid (hF.out.trans f3 (fun g hg s => by
          rcases s with s | s | s | s | s
          · exact .inl (.inl s)
          · exact .inl (.inr (.inl s))
          · exact .inl (.inr (.inr (.inl s)))
          · exact (hL4.out g s).elim (fun s => .inl (.inr (.inr (.inr (.inl s))))) (fun s => absurd hg (by omega))
          · exact .inl (.inr (.inr (.inr (.inr s))))))
        have O3 := Lib.hid (f3.own hO.out (fun g hg s => by
          have hg : gT = g := Option.some.inj hg
          rcases s with s | s | s | s | s
          · have := (H.out.pt.o1.lt g s).2; omega
          · have := (H.out.pt.o2.lt g s).2; omega
          · have := (H.out.pt.o3.lt g s).2; omega
          · exact own_ne_own hO.out hP.out.pt.o4 (by decide) g s (by rw [hg]; rfl)
          · have := H.out.blk.lt; omega))
        have L3 := Lib.hid (fun g (hg : v4'.ownBlock = some g) => show v4.ownBlock = some g ∨ w.heap.size ≤ g from (l3 g hg).elim (hL4.out g) (fun s => .inr (by omega)))
        have CL := Lib.hid (show (qj.cut1 k).sp.length = mj + 1 by rw [Pt.cut1_len, MJ.out])
        have hws := f3.2.2.2.1
        clear p3 f3 he l3
        rw [MJ.out]
        go_upto_region 5 with fail
        refine G.wp_region_tail (G := Ext) (fun _ => none) 11 (by kernel_rfl) (by kernel_rfl) (fun _ _ h => by cases h) (fun hex => ?_)
        simp only [List.take_succ_cons, List.take_zero, List.drop_succ_cons, List.drop_zero]
        iterate 11
          (refine G.wpS_one (A := ?_) hex rfl rfl (by simp) ?_ ?_ ?_
           rotate_left 2
           · intro w' hC K hK
             go_wp2_with ((refine (smaller_any (P3.out.ext hC.1) (show k < (qj.cut1 k).sp.length by rw [CL.out]; omega) (show mj < (qj.cut1 k).sp.length by rw [CL.out]; omega)).mono ?_; rintro e w9 ⟨rfl, x9⟩))
             refine hK _ ?_
             first | exact Below.refl _ _ | assumption | ((repeat' (first | (with_reducible exact Below.refl _ _) | (with_reducible assumption) | (with_reducible refine below_drewN ?_ _) | (with_reducible refine Below.alloc ?_ ?_ _) | (with_reducible refine Below.drew ?_) | (with_reducible refine Below.setCell ?_ ?_ _) | (with_reducible refine Below.trans ?_ (Below.mono (by with_reducible assumption) ?_)) | go_size)))
           rotate_left 1
           · rfl
           clear hex; intro hex)
        refine G.wpS_nil fun w5 hAll => ?_
        have E5 := Lib.hid hAll.1
        clear hAll hex
        have HPD := Lib.hid (parted_any (b := b) (P3.out.ext E5.out).blk (K3.out.ext E5.out) (show mj ≠ k by omega) (Pt.sml_or (qj.cut1 k) k mj) NW.out (by omega) (by omega) hWl (by have := E5.out.size; omega))
        obtain ⟨Wn, hWn⟩ : ∃ x, pws Wj k mj ((qj.cut1 k).sml k mj) 256 = x := ⟨_, rfl⟩
        rw [hWn] at HPD ST2
        clear hWn
        go_wp2_with fail
        refine HPD.out.mono ?_
        rintro e w6 ⟨rfl, vl6, b6, k6, f6, l6⟩
        have hsz5 := E5.out.size
        have P6 := Lib.hid (show PtR w6 b B n v1 v2 v3 v4' vl6 (.map (some mb)) F (qj.cut1 k) from
          ⟨b6, (P3.out.ext E5.out).pt.fr f6 (fun g hg => pt_not_sw (P3.out.ext E5.out) (K3.out.ext E5.out) g (.inl hg)) (fun g hg => pt_not_sw (P3.out.ext E5.out) (K3.out.ext E5.out) g (.inr (.inl hg))) (fun g hg => pt_not_sw (P3.out.ext E5.out) (K3.out.ext E5.out) g (.inr (.inr (.inl hg)))) (fun g hg => pt_not_sw (P3.out.ext E5.out) (K3.out.ext E5.out) g (.inr (.inr (.inr hg)))), P3.out.ok, P3.out.few, P3.out.lo⟩)
        have K6 := Lib.hid k6
        have F6 := Lib.hid ((F3.out.trans (Fr.of_ext (S := fun _ => False) E5.out) (fun _ _ s => s.elim)).trans f6 (fun g hg s => by
          rcases s with s | s | s
          · exact (hLl.out g s).elim (fun s => .inr (.inl s)) (fun s => absurd hg (by omega))
          · exact .inr (.inr (.inl s))
          · exact .inr (.inr (.inr s))))
        have O6 := Lib.hid (f6.own (own_xt O3.out E5.out) (fun g hg s => by
          have hg : gT = g := Option.some.inj hg
          obtain ⟨mm, hmm⟩ := (K3.out.ext E5.out).map
          rcases s with s | s | s
          · exact own_ne_own (own_xt O3.out E5.out) (K3.out.ext E5.out).own (by decide) g s (by rw [hg]; rfl)
          · exact own_ne_map (own_xt O3.out E5.out) hmm (by rw [← s, ← hg]; rfl)
          · have := H.out.blk.lt; omega))
        have L6 := Lib.hid (fun g (hg : vl6.ownBlock = some g) => show vl.ownBlock = some g ∨ w.heap.size ≤ g from (l6 g hg).elim (hLl.out g) (fun s => .inr (by omega)))
        clear b6 k6 f6 l6
        go_wp2_with fail
        go_roundw
        case rel => exact ⟨j + 1, by omega, by go_num, v4', vl6, Lib.hid (by rw [ST2.out]; exact P6.out), Lib.hid (by rw [ST2.out]; exact K6.out), F6, L3, L6, O6⟩
        case measure => simp [intOf]; omega
    · have e : j = T.length := by omega
      go_wp2_with fail
      first | go_end0 | refine bodyPost_ret (results_none rfl _ _ _) rfl ?_
      rw [e, List.take_length] at hP hK
      exact ⟨rfl, v4j, vlj, hP.out, hK.out, hF.out, hL4.out, hLl.out⟩
end Go.Proofs.YtniamfaiamgncaaDoor
namespace Go.Proofs.YtniamfaiamgncaaDoor
open Go Go.RowKit
def grpK (L : List Int) (s : Nat) (x : Int) : List Nat := (List.range s).filter fun j => L.getD j 0 == x
theorem grpK_step (L : List Int) (s : Nat) (x : Int) : grpK L (s + 1) x = if L.getD s 0 = x then grpK L s x ++ [s] else grpK L s x := by
  unfold grpK
  rw [List.range_succ, List.filter_append]
  by_cases h : L.getD s 0 = x
  · rw [if_pos h, List.filter_cons, List.filter_nil, if_pos (beq_iff_eq.2 h)]
  · rw [if_neg h, List.filter_cons, List.filter_nil, if_neg (fun q => h (beq_iff_eq.1 q)), List.append_nil]
theorem nums_len : ∀ (L K : List Int), (L.foldl nad K).length ≤ K.length + L.length
  | [], K => by simp
  | x :: L, K => by
    have := nums_len L (nad K x)
    have h : (nad K x).length ≤ K.length + 1 := by unfold nad; split <;> simp
    rw [List.foldl_cons, List.length_cons]; omega
theorem grpK_none {L : List Int} {s : Nat} {x : Int} (h : x ∉ L.take s) (hs : s ≤ L.length) : grpK L s x = [] := by
  unfold grpK
  rw [List.filter_eq_nil_iff]
  intro j hj
  have hj := List.mem_range.1 hj
  rw [getD_get (by omega)]
  intro q
  have q : L[j] = x := by simpa using q
  exact h (q ▸ List.mem_iff_getElem.2 ⟨j, by simp; omega, by rw [List.getElem_take]⟩)
theorem grpK_len (L : List Int) (s : Nat) (x : Int) : (grpK L s x).length ≤ s := by
  unfold grpK
  exact Nat.le_trans (List.length_filter_le _ _) (by simp)
/-- Groups so far. -/
structure GrI (w : World) (B : Nat) (L : List Int) (s : Nat) (K : List Int) (l : Value) (vs : List Value) : Prop where
  row : w.ownsRow B 23 1 l K.length vs
  ent : ∀ t, t < K.length → w.ownsRow B 3 1 (vs.getD t nilS) (grpK L s (K.getD t 0)).length ((grpK L s (K.getD t 0)).map nv)
  dj : ∀ t t', t < K.length → t' < K.length → t ≠ t' → Dj (vs.getD t nilS) (vs.getD t' nilS)
theorem GrI.fr {w w' : World} {B s : Nat} {L K : List Int} {l : Value} {vs : List Value} {S : Nat → Prop} (h : GrI w B L s K l vs) (hx : Fr S w w') (h1 : ∀ g, l.ownBlock = some g → ¬ S g) (h2 : ∀ t, t < K.length → ∀ g, (vs.getD t nilS).ownBlock = some g → ¬ S g) : GrI w' B L s K l vs :=
  ⟨hx.own h.row h1, fun t ht => hx.own (h.ent t ht) (h2 t ht), h.dj⟩
set_option maxHeartbeats 4000000 in
set_option maxRecDepth 20000 in
theorem labelled_any (L : List Int) (v : Value) (w : World) (h : Ints w v L) (hl : L.length ≤ 100000) :
    Calls Tryd.prog 104 #[v] w fun e w' => ∃ v' vs, e = .returned v' ∧ GrI w' w.heap.size L L.length (L.foldl nad []) v' vs ∧ Ext w w' := by
  obtain ⟨a, cap, rfl, _⟩ := h.shape
  obtain ⟨i0, hi, hz0, hz1, hz2⟩ := info_parts info_int
  obtain ⟨j0, hj, hy0, hy1, hy2⟩ := info_parts info_sli
  have H := Lib.hid h
  have hmm := @run_makeMap Tryd.prog
  clear h
  go_enter Tryd.func104, Tryd.ntmps104
  go_wp2_with fail
  go_loopw [3, 11] (fun l i wr => ∃ s : Nat, s ≤ L.length ∧ i = .int .i64 s ∧ ∃ vs, Hid (GrI wr w.heap.size L s ((L.take s).foldl nad []) l vs) ∧ Hid (Nm wr w.heap.size ((L.take s).foldl nad [])) ∧ Hid (Ext w wr)) (fun _ i _ => L.length - (intOf i).toNat)
  case atStart => exact ⟨0, Nat.zero_le _, rfl, [], Lib.hid ⟨own_nil _ _ _ _, fun t ht => by simp at ht, fun t t' ht => by simp at ht⟩, Lib.hid (MapAt.congr (MapAt.made _ _ _) (fun v => by unfold numf; split <;> rfl)), Lib.hid (by go_grown)⟩
  case round =>
    obtain ⟨s, hs, rfl, vs, hG, hm, hE⟩ := hrel
    by_cases hsl : s < L.length
    · obtain ⟨b, o, rfl, hb, hc, r1, r2⟩ := (H.out.ext hE.out).cell hsl
      obtain ⟨K, hK⟩ : ∃ K, (L.take s).foldl nad [] = K := ⟨_, rfl⟩
      have HN := Lib.hid (num_any _ L[s] _ _ hm.out r1 r2)
      have HKS := Lib.hid (show (L.take (s + 1)).foldl nad [] = nad K L[s] by rw [List.take_succ_eq_append_getElem hsl, List.foldl_append, hK]; rfl)
      have HND := Lib.hid (show (nad K L[s]).Nodup by rw [← hK]; exact nad_nodup (nums_nodup _ _ List.nodup_nil) _)
      have HLX := Lib.hid (getD_get (d := 0) hsl)
      have HIN := Lib.hid (show L[s] ∈ nad K L[s] from (nad_mem _ _ _).2 (.inr rfl))
      have HKM := Lib.hid (fun y => (nums_mem (L.take s) [] y))
      have hKl : K.length ≤ s := by
        have h1 := nums_len (L.take s) []
        rw [hK, List.length_take, List.length_nil] at h1; omega
      rw [hK] at hG hm HN HKM
      obtain ⟨x, hx⟩ : ∃ x, L[s] = x := ⟨_, rfl⟩
      rw [hx] at hc HN HKS HND HLX HIN
      obtain ⟨ix, hix⟩ : ∃ ix, (nad K x).idxOf x = ix := ⟨_, rfl⟩
      rw [hix] at HN
      clear hx r1 r2 hK
      go_wp2_with fail
      refine HN.out.mono ?_
      rintro e w1 ⟨rfl, m1, g1, s1⟩
      have FM : Fr (fun g => g = w.heap.size) wr w1 := Fr.of_grown g1 (fun g hg => (Option.some.inj hg).symm)
      have G1 := Lib.hid (hG.out.fr FM (fun g hg q => own_ne_map hG.out.row hm.out (by rw [hg, q])) (fun t ht g hg q => own_ne_map (hG.out.ent t ht) hm.out (by rw [hg, q])))
      have HE1 := Lib.hid (ext_map hE.out g1 (Nat.le_refl _))
      by_cases hxK : x ∈ K
      · rw [nad_in hxK] at m1 hix HKS HND HIN
        have HM2 := Lib.hid m1
        have hlt := List.idxOf_lt_length_iff.2 hxK
        rw [hix] at hlt
        have d1 : (ix == K.length) = false := by simp; omega
        have d2 : ((ix : Int) == (K.length : Int)) = false := by simp; omega
        have HIX := Lib.hid hix
        have HG2 := G1
        have HE2 := HE1
        clear m1 g1 s1 FM hxK hix hlt G1 HE1 hG hm hE HN
        obtain ⟨al, cl0, rfl⟩ := own_shp HG2.out.row
        generalize w1 = w2 at *
        generalize K = K2 at *
        generalize vs = vs2 at *
        have hnl : ix < K2.length := by rw [← HIX.out]; exact List.idxOf_lt_length_iff.2 HIN.out
        have hvl := HG2.out.row.1
        obtain ⟨gl, cl, el, hcl, _, hgl, _⟩ := own_some HG2.out.row (by omega)
        cases el
        obtain ⟨ax, cx, hxs⟩ := own_shp (HG2.out.ent ix hnl)
        have hKx : K2.getD ix 0 = x := by
          rw [getD_get hnl]
          have := List.getElem_idxOf (xs := K2) (x := x) (by rw [HIX.out]; exact hnl)
          simpa only [HIX.out] using this
        obtain ⟨M, hM⟩ : ∃ M, grpK L s x = M := ⟨_, rfl⟩
        have hMl : M.length ≤ 100000 := by have := grpK_len L s x; rw [hM] at this; omega
        rw [hKx, hM] at hxs
        have OX := Lib.hid (show w2.ownsRow w.heap.size 3 1 (.slice ax M.length cx) M.length (M.map nv) by have := HG2.out.ent ix hnl; rw [hKx, hM, hxs] at this; exact this)
        have t0 : w2.cell? ⟨gl, ix, none⟩ = some (.slice ax M.length cx) := by
          rw [HG2.out.row.cellAt ix (by omega), ← hxs, getD_get (by omega), List.getElem?_eq_getElem]
        have HXS := Lib.hid hxs
        have HMM := Lib.hid hM
        have HKX := Lib.hid hKx
        have hszE := HE2.out.size
        have hv2 : vs2[ix]? = some (.slice ax M.length cx) := by rw [← hxs, getD_get (by omega), List.getElem?_eq_getElem]
        have HV2 := Lib.hid hv2
        clear hxs hM hKx hv2
        go_wp2_with (at_builtin; refine wpList_append_lies _ rfl (.tmp 31) (.tmp 33) 23 rfl w.heap.size 3 i0 (.int .i64 0) 1 8 Tryd.underlying23 hi hz0 hz1 hz2 rfl (by decide) _ M.length (M.map nv) rfl (OX.out.alloc _) ⟨_, 0, none⟩ 1 1 [nv s] rfl rfl (cell_nwb _ [nv s] _ _ (by simp)) (iv_one _) (by decide) (by unfold maxLen; omega) (by omega) (by simp; omega) _ rfl ?_; intro g5 cap5 w5 hown5 hgrow5 hloc5 hlt5; have FX := (Fr.of_ext (S := fun g => (Value.slice ax M.length cx).ownBlock = some g) (ext_box w2 #[nv s] 3)).trans (Fr.of_grown hgrow5 (fun g hg => hg)) (fun _ _ q => q); have R5 := FX.own HG2.out.row (fun g hg q => own_ne_own HG2.out.row OX.out (by decide) g q hg); have y0 := R5.cellAt ix (by omega); rw [HV2.out] at y0; have y1 := R5.frozenAt ix; have FX := Lib.hid FX; have R5 := Lib.hid R5; have O5 := Lib.hid hown5; have L5 := Lib.hid hloc5; clear hown5 hloc5 hgrow5 hlt5)
        go_roundw
        case rel =>
          have hsa : (w2.alloc (.cells #[nv s] 3)).heap.size = w2.heap.size + 1 := by simp
          have hnd := HND.out
          have htx : ∀ t, t < K2.length → K2.getD t 0 = x → t = ix := fun t ht e => by
            rw [getD_get ht] at e
            have := idx_get hnd ht
            rw [e, HIX.out] at this
            exact this.symm
          have hg5 : g5 ≠ gl := fun q => own_ne_own O5.out R5.out (by decide) gl rfl (by rw [q]; rfl)
          have hdj : ∀ t, t < K2.length → t ≠ ix → (vs2.getD t nilS).ownBlock ≠ some g5 := fun t ht hne q => by
            rcases L5.out with h | h
            · exact HG2.out.dj ix t hnl ht (Ne.symm hne) g5 (by rw [HXS.out]; exact h) q
            · have h2 := ((HG2.out.ent t ht).lt g5 q).2
              simp at h
              omega
          refine ⟨s + 1, by omega, by go_num, vs2.set ix (.slice (some ⟨g5, 0, none⟩) (M.length + 1) cap5), Lib.hid ?_, Lib.hid ?_, Lib.hid ?_⟩
          · rw [HKS.out]
            refine ⟨(R5.out.stored ix _).1, fun t ht => ?_, fun t t' ht ht' hne g hg => ?_⟩
            · rw [getD_set, grpK_step, HLX.out]
              by_cases e : ix = t
              · subst e
                rw [if_pos ⟨rfl, by omega⟩, if_pos HKX.out.symm, HKX.out, HMM.out, List.length_append, List.map_append]
                exact own_set O5.out (fun q => hg5 (Option.some.inj q))
              · rw [if_neg (fun q => e q.1), if_neg (fun q => e (htx t ht q.symm).symm)]
                refine own_set (FX.out.own (HG2.out.ent t ht) (fun g hg q => ?_)) (own_ne_own (HG2.out.ent t ht) HG2.out.row (by decide) gl rfl)
                exact HG2.out.dj ix t hnl ht e g (by rw [HXS.out]; exact q) hg
            · rw [getD_set] at hg ⊢
              by_cases e : ix = t
              · subst e
                rw [if_pos ⟨rfl, by omega⟩] at hg
                have hg : g5 = g := Option.some.inj hg
                rw [if_neg (fun q => hne q.1), ← hg]
                exact hdj t' ht' (Ne.symm hne)
              · rw [if_neg (fun q => e q.1)] at hg
                by_cases e2 : ix = t'
                · rw [if_pos ⟨e2, by omega⟩]
                  intro q
                  have q : g5 = g := Option.some.inj q
                  exact hdj t ht (Ne.symm e) (by rw [q]; exact hg)
                · rw [if_neg (fun q => e2 q.1)]
                  exact HG2.out.dj t t' ht ht' hne g hg
          · rw [HKS.out]
            exact (HM2.out.blk (FX.out.2.2.2.2 w.heap.size HM2.out.lt (own_ne_map OX.out HM2.out))).setCell (a := ⟨gl, ix, none⟩) (fun q => own_ne_map HG2.out.row HM2.out (by rw [q]; rfl)) _
          · exact (Below.trans HE2.out (FX.out.below hszE (fun g hg q => by have := (OX.out.lt g q).1; omega))).setCell (p := ⟨gl, ix, none⟩) (by have := (HG2.out.row.lt gl rfl).1; exact this) _
        case measure => simp [intOf]; omega
      · rw [nad_out hxK] at m1 hix HKS HND HIN
        rw [idx_out hxK] at hix
        have d1 : (ix == K.length) = true := by simp [hix]
        have d2 : ((ix : Int) == (K.length : Int)) = true := by rw [hix]; simp
        have HIX := Lib.hid (show (K ++ [x]).idxOf x = ix by rw [idx_out hxK, hix])
        have HNE := Lib.hid (grpK_none (s := s) (fun q => hxK ((HKM.out x).2 (.inr q))) (by omega))
        have M1 := Lib.hid m1
        have MP := Lib.hid (own_ne_map G1.out.row m1)
        clear m1 g1 s1 FM hxK hix hG hm hE HN
        obtain ⟨al0, cl00, rfl⟩ := own_shp G1.out.row
        have hbs := HE1.out.size
        go_upto_region 9 with (at_builtin; refine wpList_append_own _ rfl (.tmp 23) (.tmp 24) 22 rfl w.heap.size 23 j0 nilS 1 24 Tryd.underlying22 hj hy0 hy1 hy2 rfl (by decide) _ K.length vs rfl (G1.out.row.alloc _) ⟨_, 0, none⟩ 1 1 [nilS] rfl rfl (cell_nwb _ [nilS] _ _ (by simp)) (by intro u hu; rw [List.mem_singleton.1 hu]; rfl) (by unfold maxLen; omega) (by omega) (by simp; omega) ?_; intro l2 w2 hown2 hgrow2 hnil2)
        have FX2 := (Fr.of_ext (S := fun g => (Value.slice al0 K.length cl00).ownBlock = some g) (ext_box w1 #[nilS] 23)).trans (Fr.of_grown hgrow2 (fun g hg => hg)) (fun _ _ q => q)
        have hvl0 := G1.out.row.1
        have HG2 := Lib.hid (show GrI w2 w.heap.size L s (K ++ [x]) l2 (vs ++ [nilS]) from ⟨by rw [List.length_append]; exact hown2, fun t ht => by
            rw [getD_app, getD_app]
            by_cases e : t = K.length
            · rw [if_pos e, if_pos (by omega), HNE.out]; exact own_nil _ _ _ _
            · rw [if_neg e, if_neg (by omega)]
              have ht2 : t < K.length := by rw [List.length_append, List.length_singleton] at ht; omega
              exact FX2.own (G1.out.ent t ht2) (fun g hg q => own_ne_own G1.out.row (G1.out.ent t ht2) (by decide) g hg q), fun t t' ht ht' hne g hg => by
            rw [getD_app] at hg ⊢
            by_cases e : t = vs.length
            · rw [if_pos e] at hg; cases hg
            · rw [if_neg e] at hg
              by_cases e2 : t' = vs.length
              · rw [if_pos e2]; intro q; cases q
              · rw [if_neg e2]
                rw [List.length_append, List.length_singleton] at ht ht'
                exact G1.out.dj t t' (by omega) (by omega) hne g hg⟩)
        have HM2 := Lib.hid (M1.out.blk (FX2.2.2.2.2 w.heap.size M1.out.lt MP.out))
        have HE2 := Lib.hid (Below.trans HE1.out (FX2.below hbs (fun g hg q => by have := (G1.out.row.lt g q).1; omega)))
        have hKl2 : (K ++ [x]).length ≤ s + 1 := by rw [List.length_append, List.length_singleton]; omega
        clear hown2 hgrow2 hnil2 FX2 hvl0 G1 HE1 M1 MP HNE hKl d1 d2 hbs HKM
        obtain ⟨al, cl0, rfl⟩ := own_shp HG2.out.row
        generalize K ++ [x] = K2 at *
        generalize vs ++ [nilS] = vs2 at *
        have hnl : ix < K2.length := by rw [← HIX.out]; exact List.idxOf_lt_length_iff.2 HIN.out
        have hvl := HG2.out.row.1
        obtain ⟨gl, cl, el, hcl, _, hgl, _⟩ := own_some HG2.out.row (by omega)
        cases el
        obtain ⟨ax, cx, hxs⟩ := own_shp (HG2.out.ent ix hnl)
        have hKx : K2.getD ix 0 = x := by
          rw [getD_get hnl]
          have := List.getElem_idxOf (xs := K2) (x := x) (by rw [HIX.out]; exact hnl)
          simpa only [HIX.out] using this
        obtain ⟨M, hM⟩ : ∃ M, grpK L s x = M := ⟨_, rfl⟩
        have hMl : M.length ≤ 100000 := by have := grpK_len L s x; rw [hM] at this; omega
        rw [hKx, hM] at hxs
        have OX := Lib.hid (show w2.ownsRow w.heap.size 3 1 (.slice ax M.length cx) M.length (M.map nv) by have := HG2.out.ent ix hnl; rw [hKx, hM, hxs] at this; exact this)
        have t0 : w2.cell? ⟨gl, ix, none⟩ = some (.slice ax M.length cx) := by
          rw [HG2.out.row.cellAt ix (by omega), ← hxs, getD_get (by omega), List.getElem?_eq_getElem]
        have HXS := Lib.hid hxs
        have HMM := Lib.hid hM
        have HKX := Lib.hid hKx
        have hszE := HE2.out.size
        have hv2 : vs2[ix]? = some (.slice ax M.length cx) := by rw [← hxs, getD_get (by omega), List.getElem?_eq_getElem]
        have HV2 := Lib.hid hv2
        clear hxs hM hKx hv2
        go_wp2_with (at_builtin; refine wpList_append_lies _ rfl (.tmp 31) (.tmp 33) 23 rfl w.heap.size 3 i0 (.int .i64 0) 1 8 Tryd.underlying23 hi hz0 hz1 hz2 rfl (by decide) _ M.length (M.map nv) rfl (OX.out.alloc _) ⟨_, 0, none⟩ 1 1 [nv s] rfl rfl (cell_nwb _ [nv s] _ _ (by simp)) (iv_one _) (by decide) (by unfold maxLen; omega) (by omega) (by simp; omega) _ rfl ?_; intro g5 cap5 w5 hown5 hgrow5 hloc5 hlt5; have FX := (Fr.of_ext (S := fun g => (Value.slice ax M.length cx).ownBlock = some g) (ext_box w2 #[nv s] 3)).trans (Fr.of_grown hgrow5 (fun g hg => hg)) (fun _ _ q => q); have R5 := FX.own HG2.out.row (fun g hg q => own_ne_own HG2.out.row OX.out (by decide) g q hg); have y0 := R5.cellAt ix (by omega); rw [HV2.out] at y0; have y1 := R5.frozenAt ix; have FX := Lib.hid FX; have R5 := Lib.hid R5; have O5 := Lib.hid hown5; have L5 := Lib.hid hloc5; clear hown5 hloc5 hgrow5 hlt5)
        go_roundw
        case rel =>
          have hsa : (w2.alloc (.cells #[nv s] 3)).heap.size = w2.heap.size + 1 := by simp
          have hnd := HND.out
          have htx : ∀ t, t < K2.length → K2.getD t 0 = x → t = ix := fun t ht e => by
            rw [getD_get ht] at e
            have := idx_get hnd ht
            rw [e, HIX.out] at this
            exact this.symm
          have hg5 : g5 ≠ gl := fun q => own_ne_own O5.out R5.out (by decide) gl rfl (by rw [q]; rfl)
          have hdj : ∀ t, t < K2.length → t ≠ ix → (vs2.getD t nilS).ownBlock ≠ some g5 := fun t ht hne q => by
            rcases L5.out with h | h
            · exact HG2.out.dj ix t hnl ht (Ne.symm hne) g5 (by rw [HXS.out]; exact h) q
            · have h2 := ((HG2.out.ent t ht).lt g5 q).2
              simp at h
              omega
          refine ⟨s + 1, by omega, by go_num, vs2.set ix (.slice (some ⟨g5, 0, none⟩) (M.length + 1) cap5), Lib.hid ?_, Lib.hid ?_, Lib.hid ?_⟩
          · rw [HKS.out]
            refine ⟨(R5.out.stored ix _).1, fun t ht => ?_, fun t t' ht ht' hne g hg => ?_⟩
            · rw [getD_set, grpK_step, HLX.out]
              by_cases e : ix = t
              · subst e
                rw [if_pos ⟨rfl, by omega⟩, if_pos HKX.out.symm, HKX.out, HMM.out, List.length_append, List.map_append]
                exact own_set O5.out (fun q => hg5 (Option.some.inj q))
              · rw [if_neg (fun q => e q.1), if_neg (fun q => e (htx t ht q.symm).symm)]
                refine own_set (FX.out.own (HG2.out.ent t ht) (fun g hg q => ?_)) (own_ne_own (HG2.out.ent t ht) HG2.out.row (by decide) gl rfl)
                exact HG2.out.dj ix t hnl ht e g (by rw [HXS.out]; exact q) hg
            · rw [getD_set] at hg ⊢
              by_cases e : ix = t
              · subst e
                rw [if_pos ⟨rfl, by omega⟩] at hg
                have hg : g5 = g := Option.some.inj hg
                rw [if_neg (fun q => hne q.1), ← hg]
                exact hdj t' ht' (Ne.symm hne)
              · rw [if_neg (fun q => e q.1)] at hg
                by_cases e2 : ix = t'
                · rw [if_pos ⟨e2, by omega⟩]
                  intro q
                  have q : g5 = g := Option.some.inj q
                  exact hdj t ht (Ne.symm e) (by rw [q]; exact hg)
                · rw [if_neg (fun q => e2 q.1)]
                  exact HG2.out.dj t t' ht ht' hne g hg
          · rw [HKS.out]
            exact (HM2.out.blk (FX.out.2.2.2.2 w.heap.size HM2.out.lt (own_ne_map OX.out HM2.out))).setCell (a := ⟨gl, ix, none⟩) (fun q => own_ne_map HG2.out.row HM2.out (by rw [q]; rfl)) _
          · exact (Below.trans HE2.out (FX.out.below hszE (fun g hg q => by have := (OX.out.lt g q).1; omega))).setCell (p := ⟨gl, ix, none⟩) (by have := (HG2.out.row.lt gl rfl).1; exact this) _
        case measure => simp [intOf]; omega
    · have e : s = L.length := by omega
      go_wp2_with fail
      go_ret
      rw [e, List.take_length] at hG
      exact ⟨_, vs, rfl, hG.out, hE.out⟩
end Go.Proofs.YtniamfaiamgncaaDoor
namespace Go.Proofs.YtniamfaiamgncaaDoor
open Go Go.RowKit
theorem built_places (parts : List (Nat × Value)) : Tryd.prog.built 173 parts = Instr.fill (fun i => (#[(0, 4), (4, 2), (6, 256)] : Array (Nat × Nat))[i]?) Tryd.zeroCells173 parts := by kernel_rfl
theorem fill_two (v1 v2 v3 v4 vl vm : Value) : Instr.fill (fun i => (#[(0, 4), (4, 2), (6, 256)] : Array (Nat × Nat))[i]?) Tryd.zeroCells173 [(0, .agg #[v1, v2, v3, v4]), (1, .agg #[vl, vm])] = some (rfb v1 v2 v3 v4 vl vm (List.replicate 256 nilS)) := by kernel_rfl
theorem fill_cons (place : Nat → Option (Nat × Nat)) (c : Array Value) (i : Nat) (v : Value) (rest : List (Nat × Value)) : Instr.fill place c ((i, v) :: rest) = match place i with
    | none => none
    | some (off, size) => if v.cells.size ≠ size || off + v.cells.size > c.size then none else Instr.fill place (v.cells.zipIdx.foldl (fun cs (c, j) => cs.setIfInBounds (off + j) c) c) rest := rfl
theorem fill_app (place : Nat → Option (Nat × Nat)) : ∀ (a : List (Nat × Value)) (c c' : Array Value) (b : List (Nat × Value)), Instr.fill place c a = some c' → Instr.fill place c (a ++ b) = Instr.fill place c' b
  | [], c, c', b, h => by cases h; rfl
  | (i, v) :: a, c, c', b, h => by
    rw [List.cons_append, fill_cons]
    rw [fill_cons] at h
    split at h
    · cases h
    · split at h
      · cases h
      · rename_i hq
        rw [if_neg hq]
        exact fill_app place a _ c' b h
theorem fold_set (off : Nat) : ∀ (L : List Value) (k : Nat) (c : Array Value), ((L.zipIdx k).foldl (fun cs (x : Value × Nat) => cs.setIfInBounds (off + x.2) x.1) c).size = c.size ∧
    ∀ i, ((L.zipIdx k).foldl (fun cs (x : Value × Nat) => cs.setIfInBounds (off + x.2) x.1) c)[i]? = if off + k ≤ i ∧ i < off + k + L.length ∧ i < c.size then L[i - (off + k)]? else c[i]?
  | [], k, c => ⟨rfl, fun i => by rw [List.zipIdx_nil, List.foldl_nil, if_neg (by simp; omega)]⟩
  | x :: L, k, c => by
    obtain ⟨h1, h2⟩ := fold_set off L (k + 1) (c.setIfInBounds (off + k) x)
    rw [List.zipIdx_cons, List.foldl_cons]
    refine ⟨by rw [h1]; simp, fun i => ?_⟩
    rw [h2 i]
    simp only [Array.size_setIfInBounds, List.length_cons, Array.getElem?_setIfInBounds]
    by_cases e1 : off + (k + 1) ≤ i ∧ i < off + (k + 1) + L.length ∧ i < c.size
    · rw [if_pos e1, if_pos (by omega), show i - (off + k) = (i - (off + (k + 1))) + 1 by omega, List.getElem?_cons_succ]
    · rw [if_neg e1]
      by_cases e2 : off + k = i
      · subst e2
        by_cases e3 : off + k < c.size
        · rw [if_pos rfl, if_pos e3, if_pos (by omega)]; simp
        · rw [if_pos rfl, if_neg e3, if_neg (by omega), Array.getElem?_eq_none (by omega)]
      · rw [if_neg e2, if_neg (by omega)]
theorem rfb_ge (v1 v2 v3 v4 vl vm : Value) (F : List Value) (j : Nat) : (rfb v1 v2 v3 v4 vl vm F)[j + 6]? = F[j]? := by
  rw [rfb, List.getElem?_toArray]
  simp
theorem rfb_lt (v1 v2 v3 v4 vl vm : Value) (F F' : List Value) : ∀ i, i < 6 → (rfb v1 v2 v3 v4 vl vm F)[i]? = (rfb v1 v2 v3 v4 vl vm F')[i]?
  | 0, _ => by rw [rfb, rfb, List.getElem?_toArray, List.getElem?_toArray]; rfl
  | 1, _ => by rw [rfb, rfb, List.getElem?_toArray, List.getElem?_toArray]; rfl
  | 2, _ => by rw [rfb, rfb, List.getElem?_toArray, List.getElem?_toArray]; rfl
  | 3, _ => by rw [rfb, rfb, List.getElem?_toArray, List.getElem?_toArray]; rfl
  | 4, _ => by rw [rfb, rfb, List.getElem?_toArray, List.getElem?_toArray]; rfl
  | 5, _ => by rw [rfb, rfb, List.getElem?_toArray, List.getElem?_toArray]; rfl
  | i + 6, h => by omega
theorem rfb_len (v1 v2 v3 v4 vl vm : Value) (F : List Value) : (rfb v1 v2 v3 v4 vl vm F).size = F.length + 6 := by
  rw [rfb, List.size_toArray]; simp
theorem rfb_fold (v1 v2 v3 v4 vl vm : Value) (F0 F : List Value) (h0 : F0.length = F.length) (X : Array Value) (hX : X = rfb v1 v2 v3 v4 vl vm F0) :
    (F.zipIdx.foldl (fun cs (x : Value × Nat) => cs.setIfInBounds (6 + x.2) x.1) X) = rfb v1 v2 v3 v4 vl vm F := by
  have hs : X.size = F.length + 6 := by rw [hX, rfb_len, h0]
  obtain ⟨f1, f2⟩ := fold_set 6 F 0 X
  apply Array.ext_getElem?
  intro i
  refine (f2 i).trans ?_
  rw [hs]
  by_cases e : 6 + 0 ≤ i ∧ i < 6 + 0 + F.length ∧ i < F.length + 6
  · rw [if_pos e]
    obtain ⟨j, rfl⟩ : ∃ j, i = j + 6 := ⟨i - 6, by omega⟩
    rw [rfb_ge, show j + 6 - (6 + 0) = j by omega]
  · rw [if_neg e, hX]
    by_cases e2 : i < 6
    · exact rfb_lt _ _ _ _ _ _ _ _ i e2
    · rw [Array.getElem?_eq_none (by rw [rfb_len]; omega), Array.getElem?_eq_none (by rw [rfb_len]; omega)]
theorem built_ref (v1 v2 v3 v4 vl vm : Value) (F : List Value) (hF : F.length = 256) : Tryd.prog.built 173 [(0, .agg #[v1, v2, v3, v4]), (1, .agg #[vl, vm]), (2, .agg F.toArray)] = some (rfb v1 v2 v3 v4 vl vm F) := by
  rw [built_places, show ([(0, .agg #[v1, v2, v3, v4]), (1, .agg #[vl, vm]), (2, .agg F.toArray)] : List (Nat × Value)) = [(0, .agg #[v1, v2, v3, v4]), (1, .agg #[vl, vm])] ++ [(2, .agg F.toArray)] from rfl, fill_app _ _ _ _ _ (fill_two v1 v2 v3 v4 vl vm)]
  have hs : (rfb v1 v2 v3 v4 vl vm (List.replicate 256 nilS)).size = 262 := by rw [rfb_len, List.length_replicate]
  have h0 : (List.replicate 256 nilS).length = F.length := by rw [List.length_replicate, hF]
  have hf := rfb_fold v1 v2 v3 v4 vl vm _ F h0 _ rfl
  generalize (rfb v1 v2 v3 v4 vl vm (List.replicate 256 nilS)) = X at hs hf ⊢
  rw [fill_cons]
  have hcs : (Value.agg F.toArray).cells = F.toArray := rfl
  rw [show ((#[(0, 4), (4, 2), (6, 256)] : Array (Nat × Nat))[2]?) = some (6, 256) from rfl]
  simp only [hcs, List.size_toArray, hF, hs]
  rw [if_neg (by decide)]
  show some _ = some _
  congr 1
  rw [← Array.foldl_toList, Array.toList_zipIdx]
  exact hf
end Go.Proofs.YtniamfaiamgncaaDoor
