/- Lists of texts: as they lie in memory, copied, held against each other. -/
import Derived.Test.YtnnkomdkggepjaaDoorErr
import Derived.Test.YtnnkomdkggepjaaDoorStabD
import Derived.Laws.AppendOwnNone
import Derived.MapKept
import Derived.Laws.StructEq
namespace Go.Proofs.YtnnkomdkggepjaaDoor
open Go Go.RowKit
theorem info_str : (Tryd.prog.info? 9).map (fun i => (i.zero, i.size, i.bytes)) = some (some (.string .empty), 1, 16) := by kernel_rfl
/-- Text i of a list (the empty one beyond its end). -/
def tx (l : List ByteArray) (i : Nat) : ByteArray := l.getD i .empty
theorem tx_eq {l : List ByteArray} {i : Nat} (h : i < l.length) : tx l i = l[i] := by simp [tx, List.getD_eq_getElem?_getD, h]
/-- The list of texts that a value holds. -/
def Texts (w : World) (v : Value) (l : List ByteArray) : Prop := l.length ≤ 8796093022207 ∧ ((v = .slice none 0 0 ∧ l = []) ∨
  ∃ a cap, v = .slice (some a) l.length cap ∧ l.length ≤ cap ∧ cap ≤ maxLen ∧ (l = [] ∨ ∃ b o, a = ⟨b, o, none⟩ ∧ b < w.heap.size ∧ ∀ i, i < l.length → w.cell? ⟨b, o + i, none⟩ = some (.string (tx l i))))
section
variable {w w' : World} {v : Value} {l : List ByteArray}
theorem Texts.below {B : Nat} (h : Texts w v l) (hx : Below B w w') (hB : w.heap.size ≤ B) : Texts w' v l := by
  obtain ⟨h1, h | ⟨a, cap, hv, h2, h3, h⟩⟩ := h
  · exact ⟨h1, .inl h⟩
  · refine ⟨h1, .inr ⟨a, cap, hv, h2, h3, ?_⟩⟩
    rcases h with h | ⟨b, o, ha, hb, h⟩
    · exact .inl h
    · exact .inr ⟨b, o, ha, Nat.lt_of_lt_of_le hb hx.size, fun i hi => by rw [hx.cell (p := ⟨b, o + i, none⟩) (Nat.lt_of_lt_of_le hb hB)]; exact h i hi⟩
theorem Texts.ext (h : Texts w v l) (hx : Ext w w') : Texts w' v l := h.below hx (Nat.le_refl _)
theorem Texts.nil (w : World) : Texts w (.slice none 0 0) [] := ⟨by simp, .inl ⟨rfl, rfl⟩⟩
theorem Texts.of_own {base : Nat} (h : w.ownsRow base 9 1 v l.length (l.map Value.string)) (hn : l.length ≤ 8796093022207) : Texts w v l := by
  obtain ⟨hl, ⟨rfl, h0⟩ | ⟨g, cap, cur, rfl, hb, hg, h1, h2, h3, h4⟩⟩ := h
  · exact ⟨hn, .inl ⟨rfl, List.length_eq_zero_iff.1 h0⟩⟩
  · refine ⟨hn, .inr ⟨_, cap, rfl, h1, h2, .inr ⟨g, 0, rfl, (Array.getElem?_eq_some_iff.1 hg).1, fun i hi => ?_⟩⟩⟩
    have : i < l.length * 1 := by omega
    have h5 : (cur.toList.take (l.length * 1))[i]? = (l.map Value.string)[i]? := by rw [h4]
    rw [List.getElem?_take_of_lt this, List.getElem?_map, List.getElem?_eq_getElem hi] at h5
    simp only [World.cell?, hg, Nat.zero_add]
    rw [tx_eq hi]
    simpa using h5
end
theorem Texts.slice {w : World} {v : Value} {l : List ByteArray} (h : Texts w v l) : ∃ ao cap, v = .slice ao l.length cap := by
  obtain ⟨_, ⟨h, rfl⟩ | ⟨x, cap, h, _⟩⟩ := h
  · exact ⟨_, _, h⟩
  · exact ⟨_, _, h⟩
theorem Blk.cells5 {w : World} {b : Nat} {t : TypeId} {x0 x1 x2 x3 x4 : Value} (h : Blk w b #[x0, x1, x2, x3, x4] t) : w.cell? ⟨b, 0, none⟩ = some x0 ∧ w.cell? ⟨b, 1, none⟩ = some x1 ∧ w.cell? ⟨b, 2, none⟩ = some x2 ∧ w.cell? ⟨b, 3, none⟩ = some x3 ∧ w.cell? ⟨b, 4, none⟩ = some x4 :=
  ⟨h.cell 0, h.cell 1, h.cell 2, h.cell 3, h.cell 4⟩
theorem own_sl {w : World} {b e sz n : Nat} {v : Value} {xs : List Value} (h : w.ownsRow b e sz v n xs) : ∃ ao cap, v = .slice ao n cap := by
  obtain ⟨_, ⟨h, rfl⟩ | ⟨g, cap, cur, h, _⟩⟩ := h
  · exact ⟨none, 0, h⟩
  · exact ⟨_, cap, h⟩
theorem txt_cells {w : World} {a : Addr} {l : List ByteArray} (h : l = [] ∨ ∃ b o, a = ⟨b, o, none⟩ ∧ b < w.heap.size ∧ ∀ i, i < l.length → w.cell? ⟨b, o + i, none⟩ = some (.string (tx l i))) :
    ∀ j u, (l.map Value.string)[j]? = some u → w.cell? (a.add j) = some u := by
  intro j u hu
  have hj : j < l.length := by have := (List.getElem?_eq_some_iff.1 hu).1; simpa using this
  rcases h with rfl | ⟨b, o, rfl, _, h⟩
  · simp at hj
  · have hadd : (⟨b, o, none⟩ : Addr).add j = ⟨b, o + j, none⟩ := by unfold Addr.add; split <;> simp_all
    rw [List.getElem?_map, List.getElem?_eq_getElem hj] at hu
    simp only [Option.map_some, Option.some.injEq] at hu
    rw [hadd, ← hu, ← tx_eq hj]
    exact h j hj
theorem txt_one (l : List ByteArray) : ∀ u ∈ l.map Value.string, u.oneCell' = true := by
  intro u hu
  obtain ⟨_, _, rfl⟩ := List.mem_map.1 hu
  rfl
set_option maxRecDepth 20000 in
theorem copyof_own (v : Value) (l : List ByteArray) (w : World) (hv : Texts w v l) :
    Calls Tryd.prog 43 #[v] w fun e w' => ∃ v', e = .returned v' ∧ w'.ownsRow w.heap.size 9 1 v' l.length (l.map Value.string) ∧ Below w.heap.size w w' := by
  obtain ⟨i0, hi0, hz0, hz1, hz2⟩ := info_parts info_str
  have hown : w.ownsRow w.heap.size 9 1 (.slice none 0 0) 0 [] := ⟨rfl, .inl ⟨rfl, rfl⟩⟩
  obtain ⟨hlen, ⟨rfl, rfl⟩ | ⟨a, cap, rfl, hcap, hcap2, hcells⟩⟩ := hv
  · go_enter Tryd.func43, Tryd.ntmps43
    go_wp2_with (at_builtin; refine wpList_append_own_none rfl _ _ 28 rfl w.heap.size 9 i0 1 Tryd.underlying28 hi0 _ 0 [] rfl hown rfl ?_)
    go_ret
    exact ⟨_, rfl, hown, Below.refl _ _⟩
  · have hcs := txt_cells hcells
    go_enter Tryd.func43, Tryd.ntmps43
    go_wp2_with (at_builtin; refine wpList_append_own _ rfl _ _ 28 rfl w.heap.size 9 i0 (.string .empty) 1 16 Tryd.underlying28 hi0 hz0 hz1 hz2 rfl (by decide) _ 0 [] rfl hown a l.length cap (l.map Value.string) rfl (by simp) hcs (txt_one l) (by unfold maxLen; omega) (by omega) (Nat.le_refl _) ?_; intro v' w2 hown2 hgrow2 _)
    go_ret
    exact ⟨_, rfl, by simpa using hown2, (Below.refl _ _).grown hgrow2 (Nat.le_refl _) (fun j hj => by cases hj)⟩
theorem tx_take (a b : List ByteArray) (k : Nat) (ha : k < a.length) (hb : k < b.length) (h : a.take k = b.take k) (he : tx a k = tx b k) : a.take (k + 1) = b.take (k + 1) := by
  rw [tx_eq ha, tx_eq hb] at he
  rw [List.take_succ_eq_append_getElem ha, List.take_succ_eq_append_getElem hb, h, he]
set_option maxHeartbeats 1000000 in
theorem eqtexts_any (v u : Value) (a b : List ByteArray) (w : World) (hv : Texts w v a) (hu : Texts w u b) :
    Calls Tryd.prog 39 #[v, u] w fun e w' => e = .returned (.bool (decide (a = b))) ∧ Below w.heap.size w w' := by
  obtain ⟨al, ac, hva⟩ : ∃ al ac, v = .slice al a.length ac := by
    obtain ⟨_, ⟨h, rfl⟩ | ⟨x, cap, h, _⟩⟩ := hv
    · exact ⟨_, _, h⟩
    · exact ⟨_, _, h⟩
  obtain ⟨bl, bc, hvb⟩ : ∃ bl bc, u = .slice bl b.length bc := by
    obtain ⟨_, ⟨h, rfl⟩ | ⟨x, cap, h, _⟩⟩ := hu
    · exact ⟨_, _, h⟩
    · exact ⟨_, _, h⟩
  have ha63 := hv.1
  have hb63 := hu.1
  by_cases hlen : a.length = b.length
  · have hne : ((a.length : Int) != (b.length : Int)) = false := by simp; omega
    by_cases h0 : a.length = 0
    · have ea : a = [] := List.length_eq_zero_iff.1 h0
      have eb : b = [] := List.length_eq_zero_iff.1 (by omega)
      subst ea; subst eb; subst hva; subst hvb
      clear hv hu
      go_enter Tryd.func39, Tryd.ntmps39
      go_wp2
      refine wp_loop_rounds 1 ?_
      rw [rounds_succ]
      go_wp2
      go_ret
      exact ⟨rfl, by (repeat' (first | (with_reducible exact Below.refl _ _) | (with_reducible assumption) | (with_reducible refine below_drewN ?_ _) | (with_reducible refine Below.alloc ?_ ?_ _) | (with_reducible refine Below.drew ?_) | (with_reducible refine Below.setCell ?_ ?_ _) | (with_reducible refine Below.trans ?_ (Below.mono (by with_reducible assumption) ?_)) | go_size))⟩
    · obtain ⟨_, ⟨_, ea⟩ | ⟨ea, ca, rfl, _, _, ha⟩⟩ := hv
      · subst ea; exact absurd rfl h0
      obtain ⟨_, ⟨_, eb⟩ | ⟨eb, cb, rfl, _, _, hb⟩⟩ := hu
      · subst eb; exact absurd hlen h0
      rcases ha with ha | ⟨ba, oa, rfl, hba, hca⟩
      · subst ha; exact absurd rfl h0
      rcases hb with hb | ⟨bb, ob, rfl, hbb, hcb⟩
      · subst hb; exact absurd hlen h0
      clear hva hvb
      have HL := Lib.hid hlen
      have HA := Lib.hid hca
      have HB := Lib.hid hcb
      clear hlen hca hcb
      go_enter Tryd.func39, Tryd.ntmps39
      go_wp2
      go_loopw [5] (fun i wr => ∃ k : Nat, k ≤ a.length ∧ i = .int .i64 k ∧ a.take k = b.take k ∧ ∃ n, wr = w.drewN n) (fun i _ => a.length - (intOf i).toNat)
      case atStart => exact ⟨0, Nat.zero_le _, rfl, by simp, 0, rfl⟩
      case round =>
        obtain ⟨k, hk, rfl, ht, hwr⟩ := hrel
        have HW := Lib.hid hwr
        clear hwr
        have HT := Lib.hid ht
        clear ht
        by_cases hlt : k < a.length
        · have hlt2 : k < b.length := by rw [← HL.out]; exact hlt
          have g1 : wr.cell? ⟨ba, oa + k, none⟩ = some (.string (tx a k)) := by obtain ⟨n, rfl⟩ := HW.out; exact HA.out k hlt
          have g3 : wr.cell? ⟨bb, ob + k, none⟩ = some (.string (tx b k)) := by obtain ⟨n, rfl⟩ := HW.out; exact HB.out k hlt2
          have hts := tx_take a b k hlt hlt2 HT.out
          by_cases he : tx a k = tx b k
          · have hnq : ((tx a k).toList == (tx b k).toList) = true := by rw [he]; exact beq_self_eq_true _
            have HE := Lib.hid (hts he)
            clear he hts
            go_wp2_with fail
            refine D.wp_region_stab (fun _ => none) (by kernel_rfl) (by kernel_rfl) (fun _ _ h => by cases h) (fun hex => ?_)
            iterate 9
              (refine D.wpS_one (A := ?_) hex rfl rfl (by simp) ?_ ?_ ?_
               rotate_left 2
               · intro w' hC K hK
                 obtain ⟨nq, rfl⟩ := hC.1
                 go_wp2_with (fail)
                 refine hK _ ?_
                 first | exact D.Gr.refl _ _ | exact ⟨_, rfl⟩
               rotate_left 1
               · rfl
               clear hex; intro hex)
            refine D.wpS_nil fun _ hE => ?_
            obtain ⟨nq, rfl⟩ := hE.1
            clear hE hex
            go_wp2
            go_roundw
            case rel => exact ⟨k + 1, by omega, by go_num, HE.out, by obtain ⟨n, rfl⟩ := HW.out; exact ⟨_, by rw [World.drewN_drewN]⟩⟩
            case measure => simp [intOf]; omega
          · have hnq : ((tx a k).toList == (tx b k).toList) = false := by rw [← beq_toListBytes]; exact Bool.eq_false_iff.2 fun h => he ((Go.MapKept.bytes_beq _ _).1 h)
            have hab : decide (a = b) = false := by simp only [decide_eq_false_iff_not]; rintro rfl; exact he rfl
            have HAB := Lib.hid hab
            clear he hab hts
            go_wp2_with fail
            refine D.wp_region_stab (fun _ => none) (by kernel_rfl) (by kernel_rfl) (fun _ _ h => by cases h) (fun hex => ?_)
            iterate 9
              (refine D.wpS_one (A := ?_) hex rfl rfl (by simp) ?_ ?_ ?_
               rotate_left 2
               · intro w' hC K hK
                 obtain ⟨nq, rfl⟩ := hC.1
                 go_wp2_with (fail)
                 refine hK _ ?_
                 first | exact D.Gr.refl _ _ | exact ⟨_, rfl⟩
               rotate_left 1
               · rfl
               clear hex; intro hex)
            refine D.wpS_nil fun _ hE => ?_
            obtain ⟨nq, rfl⟩ := hE.1
            clear hE hex
            go_wp2
            go_ret
            obtain ⟨n, rfl⟩ := HW.out
            exact ⟨by rw [HAB.out]; rfl, by (repeat' (first | (with_reducible exact Below.refl _ _) | (with_reducible assumption) | (with_reducible refine below_drewN ?_ _) | (with_reducible refine Below.alloc ?_ ?_ _) | (with_reducible refine Below.drew ?_) | (with_reducible refine Below.setCell ?_ ?_ _) | (with_reducible refine Below.trans ?_ (Below.mono (by with_reducible assumption) ?_)) | go_size))⟩
        · obtain rfl : k = a.length := by omega
          have hab : a = b := by have h := HT.out; rw [List.take_length, HL.out, List.take_length] at h; exact h
          subst hab
          go_wp2
          go_ret
          obtain ⟨n, rfl⟩ := HW.out
          exact ⟨by simp, by (repeat' (first | (with_reducible exact Below.refl _ _) | (with_reducible assumption) | (with_reducible refine below_drewN ?_ _) | (with_reducible refine Below.alloc ?_ ?_ _) | (with_reducible refine Below.drew ?_) | (with_reducible refine Below.setCell ?_ ?_ _) | (with_reducible refine Below.trans ?_ (Below.mono (by with_reducible assumption) ?_)) | go_size))⟩
  · have hne : ((a.length : Int) != (b.length : Int)) = true := by simp; omega
    have hab : decide (a = b) = false := by simp only [decide_eq_false_iff_not]; rintro rfl; exact hlen rfl
    have HAB := Lib.hid hab
    subst hva; subst hvb
    clear hab hlen hv hu
    go_enter Tryd.func39, Tryd.ntmps39
    go_wp2
    go_ret
    exact ⟨by rw [HAB.out]; rfl, by (repeat' (first | (with_reducible exact Below.refl _ _) | (with_reducible assumption) | (with_reducible refine below_drewN ?_ _) | (with_reducible refine Below.alloc ?_ ?_ _) | (with_reducible refine Below.drew ?_) | (with_reducible refine Below.setCell ?_ ?_ _) | (with_reducible refine Below.trans ?_ (Below.mono (by with_reducible assumption) ?_)) | go_size))⟩
end Go.Proofs.YtnnkomdkggepjaaDoor
