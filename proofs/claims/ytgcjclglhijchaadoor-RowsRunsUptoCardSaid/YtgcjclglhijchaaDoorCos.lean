/- rows.columnsOf: all bytes' columns. -/
import Derived.Test.YtgcjclglhijchaaDoorCol
import Derived.Test.YtgcjclglhijchaaDoorEnf
import Derived.Test.YtgcjclglhijchaaDoorCpe
namespace Go.Proofs.YtgcjclglhijchaaDoor
open Go Go.RowKit Go.Maps
theorem info_colm : (Tryd.prog.info? 86).map (fun i => (i.zero, i.size, i.bytes)) = some (some nilS, 1, 24) := by kernel_rfl
/-- Columns in memory, as far as there are. -/
structure Cols (w : World) (B : Nat) (v : Value) (k p : Nat) (R : List (List Int)) (cs : List Value) : Prop where
  own : w.ownsRow B 86 1 v k cs
  col : ∀ j, j < k → Cown w B (cs.getD j nilS) p (cfull R p j)
theorem Cols.ext {w w' : World} {B : Nat} {v : Value} {k p : Nat} {R : List (List Int)} {cs : List Value} (h : Cols w B v k p R cs) (hx : Ext w w') : Cols w' B v k p R cs := ⟨own_ex h.own hx, fun j hj => (h.col j hj).ext hx⟩
set_option maxHeartbeats 2000000 in
set_option maxRecDepth 20000 in
theorem cols_any (R : List (List Int)) (v : Value) (w : World) (h : Rws w v R) (hr : ∀ r ∈ R, r.length = 256) (hn : R.length ≤ 600) :
    Calls Tryd.prog 51 #[v] w fun e w' => ∃ u cs, e = .returned u ∧ Cols w' w.heap.size u 256 ((R.length + 7) / 8) R cs ∧ Ext w w' := by
  obtain ⟨i0, hi, hz0, hz1, hz2⟩ := info_parts info_colm
  obtain ⟨a, cap, rfl, _⟩ := h.shape
  have H := Lib.hid h
  have HCA := Lib.hid (fun b w' (hx : Ext w w') hb => col_any R b _ w' (h.ext hx) hr hb hn)
  obtain ⟨p, hp⟩ : ∃ p, (R.length + 7) / 8 = p := ⟨_, rfl⟩
  rw [hp] at HCA ⊢
  have HP := Lib.hid hp
  clear h hr hn hp
  go_enter Tryd.func51, Tryd.ntmps51
  go_wp2_with fail
  go_loopw [5, 3] (fun s5 s3 wr => ∃ c : Nat, c ≤ 256 ∧ s5 = .int .i64 c ∧ ∃ cs, Hid (Cols wr w.heap.size s3 c p R cs) ∧ Hid (Ext w wr)) (fun s5 _ _ => 256 - (intOf s5).toNat)
  case atStart => exact ⟨0, Nat.zero_le _, rfl, [], Lib.hid ⟨own_nil _ _ _ _, fun j hj => by omega⟩, Lib.hid (Below.refl _ _)⟩
  case round =>
    obtain ⟨c, hc, rfl, cs, hO, hE⟩ := hrel
    obtain ⟨a3, c3, rfl⟩ := own_shp hO.out.own
    by_cases hcl : c < 256
    · have HC := Lib.hid (HCA.out c wr hE.out hcl)
      have hsE := hE.out.size
      go_wp2_with fail
      refine HC.out.mono ?_
      rintro e w1 ⟨u, rfl, ⟨g, rfl, og⟩, x1⟩
      have O1 := Lib.hid (hO.out.ext x1)
      have OG := Lib.hid og
      have X1 := Lib.hid (bel_call hE.out x1)
      have hs1 := x1.size
      have HS := Lib.hid (own_ex hO.out.own x1)
      clear og x1 HC
      go_wp2_with (at_builtin; refine wpList_append_own_at _ rfl (.tmp 8) (.tmp 12) 87 rfl w.heap.size 86 i0 nilS 1 24 Tryd.underlying87 hi hz0 hz1 hz2 rfl (by decide) _ _ _ rfl (HS.out.alloc _) ⟨_, 0, none⟩ 1 1 [.slice (some ⟨g, 0, none⟩) p p] rfl rfl (cell_nwb _ [.slice (some ⟨g, 0, none⟩) p p] _ _ (by simp)) (nil_ones _ ⟨_, _, _, rfl⟩) (by unfold maxLen; omega) (by omega) (by simp; omega) ?_; intro v6 w6 hown6 hgrow6 hnil6 hloc6; obtain ⟨a6, c6, rfl⟩ := own_shp hown6)
      have f6 := ap_fr hgrow6
      have keep : ∀ {x : Value} {X : List Int} {B : Nat}, Cown w1 B x p X → Cown w6 B x p X := fun hx => by
        obtain ⟨g', rfl, o'⟩ := hx
        exact ⟨g', rfl, f6.own o' (fun k hk q => own_ne_own HS.out o' (by decide) k hk q)⟩
      have C6 := Lib.hid (show Cols w6 w.heap.size (.slice a6 (c + 1) c6) (c + 1) p R (cs ++ [.slice (some ⟨g, 0, none⟩) p p]) from ⟨hown6, fun j hj => by
        have hcl := O1.out.own.1
        by_cases e : j < c
        · rw [getD_app_l (by omega)]
          exact keep (O1.out.col j e)
        · have e : j = c := by omega
          rw [getD_app_r (by omega), e]
          exact keep ⟨g, rfl, OG.out.mono (by omega)⟩⟩)
      have E6 := Lib.hid (ap_ext X1.out (Nat.le_refl _) HS.out f6)
      clear hown6 hgrow6 hnil6 hloc6 f6 keep
      go_wp2_with fail
      go_roundw
      case rel => exact ⟨c + 1, by omega, by go_num, _, C6, E6⟩
      case measure => simp [intOf]; omega
    · have ec : c = 256 := by omega
      subst ec
      go_wp2_with fail
      go_ret
      exact ⟨_, cs, rfl, hO.out, hE.out⟩
end Go.Proofs.YtgcjclglhijchaaDoor
