/- errors.Is of what wraps. -/
import Derived.Test.YtnecafokkhhhhaaGreatDoorProg
import Derived.Test.YtnecafokkhhhhaaGreatDoorMA
import Derived.WalkKit
import Derived.WalkSpells
import Derived.WalkLawsBesides
import Derived.RegionTactic
import Derived.BigRegion
import Derived.Handy
import Derived.Lib.Hide
import Derived.Deep.RegionWith
import Derived.StillTailTactics
import Derived.Outline
import Derived.Laws.AppendOwnNone
import Derived.MapKept
import Derived.Laws.StructEq
import Derived.LaidEql
import Derived.Stop.Asserts
import Derived.RowKitTokens
namespace Go.Proofs.YtnecafokkhhhhaaGreatDoor
open Go Go.RowKit
/-- The error that stands at an address. -/
abbrev errAt (a : Addr) : Value := .iface 192 (.pointer (some a))
/-- The variable of each code's error. -/
def sg : List Nat := [0, 1, 2, 3, 4, 5, 6, 7, 8, 9, 10, 11, 12, 13, 14, 15]
/-- What is known of the errors of the codes: code c's stands at 'ea (c - 2)'. -/
structure Sent (w : World) (ea : Nat → Addr) : Prop where
  held : ∀ k, k < 16 → w.cell? ⟨sg.getD k 0, 0, none⟩ = some (errAt (ea k))
  glo : ∀ k, k < 16 → sg.getD k 0 < w.heap.size
  row : ∀ k, k < 16 → ∃ c t, w.heap[(ea k).block]? = some (.cells c t (0, 0))
  inj : ∀ k j, k < 16 → j < 16 → ea k = ea j → k = j
theorem Sent.ext {w w' : World} {ea : Nat → Addr} (h : Sent w ea) (hx : Ext w w') : Sent w' ea :=
  ⟨fun k hk => by rw [hx.cell (p := ⟨sg.getD k 0, 0, none⟩) (h.glo k hk)]; exact h.held k hk, fun k hk => Nat.lt_of_lt_of_le (h.glo k hk) hx.size,
   fun k hk => by
    obtain ⟨c, t, hc⟩ := h.row k hk
    exact ⟨c, t, by rw [hx.block _ (Array.getElem?_eq_some_iff.1 hc).1]; exact hc⟩, h.inj⟩
/-- The error of a code; nil, if it has none. -/
def errOf (ea : Nat → Addr) (c : Int) : Value := if 2 ≤ c ∧ c ≤ 17 then errAt (ea (c.toNat - 2)) else .nilIface
end Go.Proofs.YtnecafokkhhhhaaGreatDoor
namespace Go.Proofs.YtnecafokkhhhhaaGreatDoor
open Go Go.RowKit
theorem info_str : (Tryz.prog.info? 9).map (fun i => (i.zero, i.size, i.bytes)) = some (some (.string .empty), 1, 16) := by kernel_rfl
/-- Text i of a list (the empty one beyond its end). -/
def tx (l : List ByteArray) (i : Nat) : ByteArray := l.getD i .empty
theorem tx_eq {l : List ByteArray} {i : Nat} (h : i < l.length) : tx l i = l[i] := by simp [tx, List.getD_eq_getElem?_getD, h]
/-- The list of texts that a value holds. -/
def Texts (w : World) (v : Value) (l : List ByteArray) : Prop := l.length ≤ 8796093022207 ∧ ((v = .slice none 0 0 ∧ l = []) ∨
  ∃ a cap, v = .slice (some a) l.length cap ∧ l.length ≤ cap ∧ cap ≤ maxLen ∧ (l = [] ∨ ∃ b o, a = ⟨b, o, none⟩ ∧ b < w.heap.size ∧ ∀ i, i < l.length → w.cell? ⟨b, o + i, none⟩ = some (.string (tx l i))))
section
variable {w w' : World} {v : Value} {l : List ByteArray}
theorem Texts.below {B : Nat} (h : Texts w v l) (hx : Below B w w') (hB : w.heap.size ≤ B) : Texts w' v l := by
  obtain ⟨h1, h | ⟨a, cap, hv, h2, h3, h⟩⟩ := h
  · exact ⟨h1, .inl h⟩
  · refine ⟨h1, .inr ⟨a, cap, hv, h2, h3, ?_⟩⟩
    rcases h with h | ⟨b, o, ha, hb, h⟩
    · exact .inl h
    · exact .inr ⟨b, o, ha, Nat.lt_of_lt_of_le hb hx.size, fun i hi => by rw [hx.cell (p := ⟨b, o + i, none⟩) (Nat.lt_of_lt_of_le hb hB)]; exact h i hi⟩
theorem Texts.ext (h : Texts w v l) (hx : Ext w w') : Texts w' v l := h.below hx (Nat.le_refl _)
theorem Texts.nil (w : World) : Texts w (.slice none 0 0) [] := ⟨by simp, .inl ⟨rfl, rfl⟩⟩
theorem Texts.of_own {base : Nat} (h : w.ownsRow base 9 1 v l.length (l.map Value.string)) (hn : l.length ≤ 8796093022207) : Texts w v l := by
  obtain ⟨hl, ⟨rfl, h0⟩ | ⟨g, cap, cur, rfl, hb, hg, h1, h2, h3, h4⟩⟩ := h
  · exact ⟨hn, .inl ⟨rfl, List.length_eq_zero_iff.1 h0⟩⟩
  · refine ⟨hn, .inr ⟨_, cap, rfl, h1, h2, .inr ⟨g, 0, rfl, (Array.getElem?_eq_some_iff.1 hg).1, fun i hi => ?_⟩⟩⟩
    have : i < l.length * 1 := by omega
    have h5 : (cur.toList.take (l.length * 1))[i]? = (l.map Value.string)[i]? := by rw [h4]
    rw [List.getElem?_take_of_lt this, List.getElem?_map, List.getElem?_eq_getElem hi] at h5
    simp only [World.cell?, hg, Nat.zero_add]
    rw [tx_eq hi]
    simpa using h5
end
theorem Texts.slice {w : World} {v : Value} {l : List ByteArray} (h : Texts w v l) : ∃ ao cap, v = .slice ao l.length cap := by
  obtain ⟨_, ⟨h, rfl⟩ | ⟨x, cap, h, _⟩⟩ := h
  · exact ⟨_, _, h⟩
  · exact ⟨_, _, h⟩
theorem Blk.cells5 {w : World} {b : Nat} {t : TypeId} {x0 x1 x2 x3 x4 : Value} (h : Blk w b #[x0, x1, x2, x3, x4] t) : w.cell? ⟨b, 0, none⟩ = some x0 ∧ w.cell? ⟨b, 1, none⟩ = some x1 ∧ w.cell? ⟨b, 2, none⟩ = some x2 ∧ w.cell? ⟨b, 3, none⟩ = some x3 ∧ w.cell? ⟨b, 4, none⟩ = some x4 :=
  ⟨h.cell 0, h.cell 1, h.cell 2, h.cell 3, h.cell 4⟩
theorem own_sl {w : World} {b e sz n : Nat} {v : Value} {xs : List Value} (h : w.ownsRow b e sz v n xs) : ∃ ao cap, v = .slice ao n cap := by
  obtain ⟨_, ⟨h, rfl⟩ | ⟨g, cap, cur, h, _⟩⟩ := h
  · exact ⟨none, 0, h⟩
  · exact ⟨_, cap, h⟩
theorem txt_cells {w : World} {a : Addr} {l : List ByteArray} (h : l = [] ∨ ∃ b o, a = ⟨b, o, none⟩ ∧ b < w.heap.size ∧ ∀ i, i < l.length → w.cell? ⟨b, o + i, none⟩ = some (.string (tx l i))) :
    ∀ j u, (l.map Value.string)[j]? = some u → w.cell? (a.add j) = some u := by
  intro j u hu
  have hj : j < l.length := by have := (List.getElem?_eq_some_iff.1 hu).1; simpa using this
  rcases h with rfl | ⟨b, o, rfl, _, h⟩
  · simp at hj
  · have hadd : (⟨b, o, none⟩ : Addr).add j = ⟨b, o + j, none⟩ := by unfold Addr.add; split <;> simp_all
    rw [List.getElem?_map, List.getElem?_eq_getElem hj] at hu
    simp only [Option.map_some, Option.some.injEq] at hu
    rw [hadd, ← hu, ← tx_eq hj]
    exact h j hj
theorem txt_one (l : List ByteArray) : ∀ u ∈ l.map Value.string, u.oneCell' = true := by
  intro u hu
  obtain ⟨_, _, rfl⟩ := List.mem_map.1 hu
  rfl
set_option maxRecDepth 20000 in
theorem copyof_own (v : Value) (l : List ByteArray) (w : World) (hv : Texts w v l) :
    Calls Tryz.prog 37 #[v] w fun e w' => ∃ v', e = .returned v' ∧ w'.ownsRow w.heap.size 9 1 v' l.length (l.map Value.string) ∧ Below w.heap.size w w' := by
  obtain ⟨i0, hi0, hz0, hz1, hz2⟩ := info_parts info_str
  have hown : w.ownsRow w.heap.size 9 1 (.slice none 0 0) 0 [] := ⟨rfl, .inl ⟨rfl, rfl⟩⟩
  obtain ⟨hlen, ⟨rfl, rfl⟩ | ⟨a, cap, rfl, hcap, hcap2, hcells⟩⟩ := hv
  · go_enter Tryz.func37, Tryz.ntmps37
    go_wp2_with (at_builtin; refine wpList_append_own_none rfl _ _ 22 rfl w.heap.size 9 i0 1 Tryz.underlying22 hi0 _ 0 [] rfl hown rfl ?_)
    go_ret
    exact ⟨_, rfl, hown, Below.refl _ _⟩
  · have hcs := txt_cells hcells
    go_enter Tryz.func37, Tryz.ntmps37
    go_wp2_with (at_builtin; refine wpList_append_own _ rfl _ _ 22 rfl w.heap.size 9 i0 (.string .empty) 1 16 Tryz.underlying22 hi0 hz0 hz1 hz2 rfl (by decide) _ 0 [] rfl hown a l.length cap (l.map Value.string) rfl (by simp) hcs (txt_one l) (by unfold maxLen; omega) (by omega) (Nat.le_refl _) ?_; intro v' w2 hown2 hgrow2 _)
    go_ret
    exact ⟨_, rfl, by simpa using hown2, (Below.refl _ _).grown hgrow2 (Nat.le_refl _) (fun j hj => by cases hj)⟩
theorem tx_take (a b : List ByteArray) (k : Nat) (ha : k < a.length) (hb : k < b.length) (h : a.take k = b.take k) (he : tx a k = tx b k) : a.take (k + 1) = b.take (k + 1) := by
  rw [tx_eq ha, tx_eq hb] at he
  rw [List.take_succ_eq_append_getElem ha, List.take_succ_eq_append_getElem hb, h, he]
set_option maxHeartbeats 1000000 in
theorem eqtexts_any (v u : Value) (a b : List ByteArray) (w : World) (hv : Texts w v a) (hu : Texts w u b) :
    Calls Tryz.prog 33 #[v, u] w fun e w' => e = .returned (.bool (decide (a = b))) ∧ Below w.heap.size w w' := by
  obtain ⟨al, ac, hva⟩ : ∃ al ac, v = .slice al a.length ac := by
    obtain ⟨_, ⟨h, rfl⟩ | ⟨x, cap, h, _⟩⟩ := hv
    · exact ⟨_, _, h⟩
    · exact ⟨_, _, h⟩
  obtain ⟨bl, bc, hvb⟩ : ∃ bl bc, u = .slice bl b.length bc := by
    obtain ⟨_, ⟨h, rfl⟩ | ⟨x, cap, h, _⟩⟩ := hu
    · exact ⟨_, _, h⟩
    · exact ⟨_, _, h⟩
  have ha63 := hv.1
  have hb63 := hu.1
  by_cases hlen : a.length = b.length
  · have hne : ((a.length : Int) != (b.length : Int)) = false := by simp; omega
    by_cases h0 : a.length = 0
    · have ea : a = [] := List.length_eq_zero_iff.1 h0
      have eb : b = [] := List.length_eq_zero_iff.1 (by omega)
      subst ea; subst eb; subst hva; subst hvb
      clear hv hu
      go_enter Tryz.func33, Tryz.ntmps33
      go_wp2
      refine wp_loop_rounds 1 ?_
      rw [rounds_succ]
      go_wp2
      go_ret
      exact ⟨rfl, by (repeat' (first | (with_reducible exact Below.refl _ _) | (with_reducible assumption) | (with_reducible refine below_drewN ?_ _) | (with_reducible refine Below.alloc ?_ ?_ _) | (with_reducible refine Below.drew ?_) | (with_reducible refine Below.setCell ?_ ?_ _) | (with_reducible refine Below.trans ?_ (Below.mono (by with_reducible assumption) ?_)) | go_size))⟩
    · obtain ⟨_, ⟨_, ea⟩ | ⟨ea, ca, rfl, _, _, ha⟩⟩ := hv
      · subst ea; exact absurd rfl h0
      obtain ⟨_, ⟨_, eb⟩ | ⟨eb, cb, rfl, _, _, hb⟩⟩ := hu
      · subst eb; exact absurd hlen h0
      rcases ha with ha | ⟨ba, oa, rfl, hba, hca⟩
      · subst ha; exact absurd rfl h0
      rcases hb with hb | ⟨bb, ob, rfl, hbb, hcb⟩
      · subst hb; exact absurd hlen h0
      clear hva hvb
      have HL := Lib.hid hlen
      have HA := Lib.hid hca
      have HB := Lib.hid hcb
      clear hlen hca hcb
      go_enter Tryz.func33, Tryz.ntmps33
      go_wp2
      go_loopw [5] (fun i wr => ∃ k : Nat, k ≤ a.length ∧ i = .int .i64 k ∧ a.take k = b.take k ∧ ∃ n, wr = w.drewN n) (fun i _ => a.length - (intOf i).toNat)
      case atStart => exact ⟨0, Nat.zero_le _, rfl, by simp, 0, rfl⟩
      case round =>
        obtain ⟨k, hk, rfl, ht, hwr⟩ := hrel
        have HW := Lib.hid hwr
        clear hwr
        have HT := Lib.hid ht
        clear ht
        by_cases hlt : k < a.length
        · have hlt2 : k < b.length := by rw [← HL.out]; exact hlt
          have g1 : wr.cell? ⟨ba, oa + k, none⟩ = some (.string (tx a k)) := by obtain ⟨n, rfl⟩ := HW.out; exact HA.out k hlt
          have g3 : wr.cell? ⟨bb, ob + k, none⟩ = some (.string (tx b k)) := by obtain ⟨n, rfl⟩ := HW.out; exact HB.out k hlt2
          have hts := tx_take a b k hlt hlt2 HT.out
          by_cases he : tx a k = tx b k
          · have hnq : ((tx a k).toList == (tx b k).toList) = true := by rw [he]; exact beq_self_eq_true _
            have HE := Lib.hid (hts he)
            clear he hts
            go_wp2_with fail
            refine D.wp_region_stab (fun _ => none) (by kernel_rfl) (by kernel_rfl) (fun _ _ h => by cases h) (fun hex => ?_)
            iterate 9
              (refine D.wpS_one (A := ?_) hex rfl rfl (by simp) ?_ ?_ ?_
               rotate_left 2
               · intro w' hC K hK
                 obtain ⟨nq, rfl⟩ := hC.1
                 go_wp2_with (fail)
                 refine hK _ ?_
                 first | exact D.Gr.refl _ _ | exact ⟨_, rfl⟩
               rotate_left 1
               · rfl
               clear hex; intro hex)
            refine D.wpS_nil fun _ hE => ?_
            obtain ⟨nq, rfl⟩ := hE.1
            clear hE hex
            go_wp2
            go_roundw
            case rel => exact ⟨k + 1, by omega, by go_num, HE.out, by obtain ⟨n, rfl⟩ := HW.out; exact ⟨_, by rw [World.drewN_drewN]⟩⟩
            case measure => simp [intOf]; omega
          · have hnq : ((tx a k).toList == (tx b k).toList) = false := by rw [← beq_toListBytes]; exact Bool.eq_false_iff.2 fun h => he ((Go.MapKept.bytes_beq _ _).1 h)
            have hab : decide (a = b) = false := by simp only [decide_eq_false_iff_not]; rintro rfl; exact he rfl
            have HAB := Lib.hid hab
            clear he hab hts
            go_wp2_with fail
            refine D.wp_region_stab (fun _ => none) (by kernel_rfl) (by kernel_rfl) (fun _ _ h => by cases h) (fun hex => ?_)
            iterate 9
              (refine D.wpS_one (A := ?_) hex rfl rfl (by simp) ?_ ?_ ?_
               rotate_left 2
               · intro w' hC K hK
                 obtain ⟨nq, rfl⟩ := hC.1
                 go_wp2_with (fail)
                 refine hK _ ?_
                 first | exact D.Gr.refl _ _ | exact ⟨_, rfl⟩
               rotate_left 1
               · rfl
               clear hex; intro hex)
            refine D.wpS_nil fun _ hE => ?_
            obtain ⟨nq, rfl⟩ := hE.1
            clear hE hex
            go_wp2
            go_ret
            obtain ⟨n, rfl⟩ := HW.out
            exact ⟨by rw [HAB.out]; rfl, by (repeat' (first | (with_reducible exact Below.refl _ _) | (with_reducible assumption) | (with_reducible refine below_drewN ?_ _) | (with_reducible refine Below.alloc ?_ ?_ _) | (with_reducible refine Below.drew ?_) | (with_reducible refine Below.setCell ?_ ?_ _) | (with_reducible refine Below.trans ?_ (Below.mono (by with_reducible assumption) ?_)) | go_size))⟩
        · obtain rfl : k = a.length := by omega
          have hab : a = b := by have h := HT.out; rw [List.take_length, HL.out, List.take_length] at h; exact h
          subst hab
          go_wp2
          go_ret
          obtain ⟨n, rfl⟩ := HW.out
          exact ⟨by simp, by (repeat' (first | (with_reducible exact Below.refl _ _) | (with_reducible assumption) | (with_reducible refine below_drewN ?_ _) | (with_reducible refine Below.alloc ?_ ?_ _) | (with_reducible refine Below.drew ?_) | (with_reducible refine Below.setCell ?_ ?_ _) | (with_reducible refine Below.trans ?_ (Below.mono (by with_reducible assumption) ?_)) | go_size))⟩
  · have hne : ((a.length : Int) != (b.length : Int)) = true := by simp; omega
    have hab : decide (a = b) = false := by simp only [decide_eq_false_iff_not]; rintro rfl; exact hlen rfl
    have HAB := Lib.hid hab
    subst hva; subst hvb
    clear hab hlen hv hu
    go_enter Tryz.func33, Tryz.ntmps33
    go_wp2
    go_ret
    exact ⟨by rw [HAB.out]; rfl, by (repeat' (first | (with_reducible exact Below.refl _ _) | (with_reducible assumption) | (with_reducible refine below_drewN ?_ _) | (with_reducible refine Below.alloc ?_ ?_ _) | (with_reducible refine Below.drew ?_) | (with_reducible refine Below.setCell ?_ ?_ _) | (with_reducible refine Below.trans ?_ (Below.mono (by with_reducible assumption) ?_)) | go_size))⟩
end Go.Proofs.YtnecafokkhhhhaaGreatDoor
namespace Go.Proofs.YtnecafokkhhhhaaGreatDoor
open Go Go.RowKit Go.Extern.Stop Go.Stop Go.Extern
/-! ### What the program's types say -/
theorem is_typeOf (v : Value) (w : World) : (Extern.ReflectliteType.typeOf #[.iface 192 v]).run Tryz.prog w = .ok (.iface 151 (.agg #[.pointer (some ⟨23, 192, none⟩)])) w := by kernel_rfl
theorem is_comparable (w : World) : ((Extern.ReflectliteType.method fun t => do Rtype.noPackHeld "Comparable" t; (fun a => Value.bool a.comparable) <$> typeInfo t) #[.agg #[.pointer (some ⟨23, 192, none⟩)]]).run Tryz.prog w = .ok (.bool true) w := by kernel_rfl
theorem is_mcomparable (v : Value) (w : World) : (Go.method 338 151 v "Comparable").run Tryz.prog w = .ok (178, v) w := by kernel_rfl
theorem is_comp : (Tryz.prog.info? 192).map (·.comparable) = some true := by kernel_rfl
theorem is_size : (Tryz.prog.info? 194).map (·.size) = some 1 := by kernel_rfl
theorem is_noIs (v : Value) (xT : TypeId) (w : World) : (Instr.typeAssert (.iface 192 v) xT 168 true).run Tryz.prog w = .ok (.tuple #[.nilIface, .bool false]) w := run_typeAssert_lacksB Tryz.underlying168 (by kernel_rfl) (by kernel_rfl) v xT w
theorem is_noUn (v : Value) (xT : TypeId) (w : World) : (Instr.typeAssert (.iface 192 v) xT 158 true).run Tryz.prog w = .ok (.tuple #[.nilIface, .bool false]) w := run_typeAssert_lacksB Tryz.underlying158 (by kernel_rfl) (by kernel_rfl) v xT w
theorem is_noUns (v : Value) (xT : TypeId) (w : World) : (Instr.typeAssert (.iface 192 v) xT 159 true).run Tryz.prog w = .ok (.tuple #[.nilIface, .bool false]) w := run_typeAssert_lacksB Tryz.underlying159 (by kernel_rfl) (by kernel_rfl) v xT w
theorem is_noIs_P (v : Value) (xT : TypeId) (w : World) : (Instr.typeAssert (.iface 70 v) xT 168 true).run Tryz.prog w = .ok (.tuple #[.nilIface, .bool false]) w := run_typeAssert_lacksB Tryz.underlying168 (by kernel_rfl) (by kernel_rfl) v xT w
theorem is_noIs_N (v : Value) (xT : TypeId) (w : World) : (Instr.typeAssert (.iface 76 v) xT 168 true).run Tryz.prog w = .ok (.tuple #[.nilIface, .bool false]) w := run_typeAssert_lacksB Tryz.underlying168 (by kernel_rfl) (by kernel_rfl) v xT w
theorem is_noIs_R (v : Value) (xT : TypeId) (w : World) : (Instr.typeAssert (.iface 81 v) xT 168 true).run Tryz.prog w = .ok (.tuple #[.nilIface, .bool false]) w := run_typeAssert_lacksB Tryz.underlying168 (by kernel_rfl) (by kernel_rfl) v xT w
theorem is_noIs_S (v : Value) (xT : TypeId) (w : World) : (Instr.typeAssert (.iface 85 v) xT 168 true).run Tryz.prog w = .ok (.tuple #[.nilIface, .bool false]) w := run_typeAssert_lacksB Tryz.underlying168 (by kernel_rfl) (by kernel_rfl) v xT w
theorem is_un_P (v : Value) (xT : TypeId) (w : World) : (Instr.typeAssert (.iface 70 v) xT 158 true).run Tryz.prog w = .ok (.tuple #[.iface 70 v, .bool true]) w := run_typeAssert_hasB Tryz.underlying158 (by kernel_rfl) v xT w
theorem is_un_N (v : Value) (xT : TypeId) (w : World) : (Instr.typeAssert (.iface 76 v) xT 158 true).run Tryz.prog w = .ok (.tuple #[.iface 76 v, .bool true]) w := run_typeAssert_hasB Tryz.underlying158 (by kernel_rfl) v xT w
theorem is_un_R (v : Value) (xT : TypeId) (w : World) : (Instr.typeAssert (.iface 81 v) xT 158 true).run Tryz.prog w = .ok (.tuple #[.iface 81 v, .bool true]) w := run_typeAssert_hasB Tryz.underlying158 (by kernel_rfl) v xT w
theorem is_un_S (v : Value) (xT : TypeId) (w : World) : (Instr.typeAssert (.iface 85 v) xT 158 true).run Tryz.prog w = .ok (.tuple #[.iface 85 v, .bool true]) w := run_typeAssert_hasB Tryz.underlying158 (by kernel_rfl) v xT w
theorem is_mun_P (p : Nat) (w : World) : (Go.method 338 70 (.pointer (some ⟨p, 0, none⟩)) "Unwrap").run Tryz.prog w = .ok (169, .pointer (some ⟨p, 0, none⟩)) w := by kernel_rfl
theorem is_mun_N (p : Nat) (w : World) : (Go.method 338 76 (.pointer (some ⟨p, 0, none⟩)) "Unwrap").run Tryz.prog w = .ok (169, .pointer (some ⟨p, 0, none⟩)) w := by kernel_rfl
theorem is_mun_R (p : Nat) (w : World) : (Go.method 338 81 (.pointer (some ⟨p, 0, none⟩)) "Unwrap").run Tryz.prog w = .ok (169, .pointer (some ⟨p, 0, none⟩)) w := by kernel_rfl
theorem is_mun_S (p : Nat) (w : World) : (Go.method 338 85 (.pointer (some ⟨p, 0, none⟩)) "Unwrap").run Tryz.prog w = .ok (169, .pointer (some ⟨p, 0, none⟩)) w := by kernel_rfl
/-! ### What wraps: one wrapper a row, the outermost first; blocks fall -/
/-- The types of the wrappers. -/
def wt : List TypeId := [70, 76, 81, 85]
/-- One more than the block in which an error lies. -/
def deep : Value → Nat
  | .iface _ (.pointer (some a)) => a.block + 1
  | _ => 0
/-- 'v' is 'b' in the wrappers 'L', each a type and what it says. -/
def Chain (w : World) : List (TypeId × Value) → Value → Value → Prop
  | [], v, b => v = b
  | (T, x) :: L, v, b => ∃ p y t, T ∈ wt ∧ v = .iface T (.pointer (some ⟨p, 0, none⟩)) ∧ w.heap[p]? = some (.cells #[y, x] t (0, 0)) ∧ deep y ≤ p ∧ Chain w L y b
theorem Chain.ext {w w' : World} (hx : Ext w w') : ∀ {L : List (TypeId × Value)} {v b : Value}, Chain w L v b → Chain w' L v b
  | [], _, _, h => h
  | (T, x) :: L, _, _, ⟨p, y, t, h1, h2, h3, h4, h5⟩ => ⟨p, y, t, h1, h2, by rw [hx.block _ (Array.getElem?_eq_some_iff.1 h3).1]; exact h3, h4, Chain.ext hx h5⟩
theorem Chain.iface {w : World} : ∀ {L : List (TypeId × Value)} {v : Value} {a : Addr}, Chain w L v (errAt a) → ∃ T x, v = .iface T x
  | [], _, _, h => ⟨_, _, h⟩
  | (_, _) :: _, _, _, ⟨_, _, _, _, h, _⟩ => ⟨_, _, h⟩
theorem unwrap_in (p : Nat) (y x : Value) (t : TypeId) (w : World) (h : w.heap[p]? = some (.cells #[y, x] t (0, 0))) :
    Calls Tryz.prog 169 #[.pointer (some ⟨p, 0, none⟩)] w fun e w' => e = .returned y ∧ w' = w := by
  have hc : w.cell? ⟨p, 0, none⟩ = some y := by simp [World.cell?, h]
  go_enter Tryz.func169, Tryz.ntmps169
  go_wp2
  go_ret
  exact ⟨rfl, rfl⟩
set_option maxHeartbeats 2000000 in
set_option maxRecDepth 20000 in
theorem is_chain (L : List (TypeId × Value)) (v : Value) (a b : Addr) (w : World) (hL : Chain w L v (errAt a)) (ha : ∃ c t, w.heap[a.block]? = some (.cells c t (0, 0))) (hb : ∃ c t, w.heap[b.block]? = some (.cells c t (0, 0))) :
    Calls Tryz.prog 99 #[v, errAt b, .bool true] w fun e w' => e = .returned (.bool (decide (a = b))) ∧ w' = w := by
  obtain ⟨ca, ta, ha⟩ := ha
  obtain ⟨cb, tb, hb⟩ := hb
  obtain ⟨i, hi, hcmp⟩ := Option.map_eq_some_iff.1 is_comp
  obtain ⟨j, hj, hjs⟩ := Option.map_eq_some_iff.1 is_size
  have nE := is_noIs
  have uE := is_noUn
  have vE := is_noUns
  go_enter Tryz.func99, Tryz.ntmps99
  go_wp2
  go_loopw [0] (fun x wr => wr = w ∧ ∃ L, Chain w L x (errAt a)) (fun x _ => deep x)
  case atStart => exact ⟨rfl, L, hL⟩
  case round =>
    clear hL
    obtain ⟨rfl, L, hL⟩ := hrel
    rcases L with _ | ⟨⟨T, x⟩, L⟩
    · obtain rfl := hL
      by_cases hab : a = b
      · subst hab
        have heq := run_eql_iface_ptr_same (P := Tryz.prog) wr a Tryz.underlying29 Tryz.underlying192 hi hcmp hj
        go_wp2
        go_ret
        exact ⟨by simp, rfl⟩
      · have heq := run_eql_iface_ptr_other (P := Tryz.prog) wr Tryz.underlying29 Tryz.underlying192 hi hcmp hj (by rw [hjs]; decide) hab ha hb
        go_wp2
        go_ret
        exact ⟨by simp [hab], rfl⟩
    · obtain ⟨p, y, t, hT, rfl, hp, hy, hL⟩ := hL
      have hun := unwrap_in p y x t wr hp
      have hty := fun T hT => run_eql_iface_types (P := Tryz.prog) T 192 (.pointer (some ⟨p, 0, none⟩)) (.pointer (some b)) Tryz.underlying29 hT wr
      obtain ⟨U, z, rfl⟩ := Chain.iface hL
      simp only [wt, List.mem_cons, List.not_mem_nil, or_false] at hT
      rcases hT with rfl | rfl | rfl | rfl
      · have nI := is_noIs_P
        have uI := is_un_P
        have mI := is_mun_P
        have hty := hty 70 (by decide)
        go_wp2_with fail
        refine hun.mono ?_
        rintro e w9 ⟨rfl, rfl⟩
        go_wp2_with fail
        go_roundw
        case rel => exact ⟨trivial, L, hL⟩
        case measure => simp only [deep] at hy ⊢; omega
      · have nI := is_noIs_N
        have uI := is_un_N
        have mI := is_mun_N
        have hty := hty 76 (by decide)
        go_wp2_with fail
        refine hun.mono ?_
        rintro e w9 ⟨rfl, rfl⟩
        go_wp2_with fail
        go_roundw
        case rel => exact ⟨trivial, L, hL⟩
        case measure => simp only [deep] at hy ⊢; omega
      · have nI := is_noIs_R
        have uI := is_un_R
        have mI := is_mun_R
        have hty := hty 81 (by decide)
        go_wp2_with fail
        refine hun.mono ?_
        rintro e w9 ⟨rfl, rfl⟩
        go_wp2_with fail
        go_roundw
        case rel => exact ⟨trivial, L, hL⟩
        case measure => simp only [deep] at hy ⊢; omega
      · have nI := is_noIs_S
        have uI := is_un_S
        have mI := is_mun_S
        have hty := hty 85 (by decide)
        go_wp2_with fail
        refine hun.mono ?_
        rintro e w9 ⟨rfl, rfl⟩
        go_wp2_with fail
        go_roundw
        case rel => exact ⟨trivial, L, hL⟩
        case measure => simp only [deep] at hy ⊢; omega
/-- errors.Is of nothing. -/
theorem is_nothing (b : Addr) (w : World) :
    Calls Tryz.prog 81 #[.nilIface, errAt b] w fun e w' => e = .returned (.bool false) ∧ w' = w := by
  have hn := run_eql_iface_nil_left (P := Tryz.prog) w 192 (.pointer (some b)) Tryz.underlying29
  go_enter Tryz.func81, Tryz.ntmps81
  go_wp2
  go_ret
  exact ⟨rfl, rfl⟩
set_option maxRecDepth 20000 in
/-- errors.Is of what wraps. -/
theorem is_all (L : List (TypeId × Value)) (v : Value) (a b : Addr) (w : World) (hL : Chain w L v (errAt a)) (ha : ∃ c t, w.heap[a.block]? = some (.cells c t (0, 0))) (hb : ∃ c t, w.heap[b.block]? = some (.cells c t (0, 0))) :
    Calls Tryz.prog 81 #[v, errAt b] w fun e w' => e = .returned (.bool (decide (a = b))) ∧ w' = w := by
  have hc := is_chain L v a b w hL ha hb
  obtain ⟨T, x, rfl⟩ := Chain.iface hL
  have h8 := @run_callFunc_extern Tryz.prog 98 _ Extern.ReflectliteType.typeOf Tryz.func98 (by kernel_rfl) (by kernel_rfl) (by kernel_rfl) (by kernel_rfl)
  have h32 := @run_callFunc_extern Tryz.prog 178 _ (Extern.ReflectliteType.method fun t => do Rtype.noPackHeld "Comparable" t; pure (.bool (← typeInfo t).comparable)) Tryz.func178 (by kernel_rfl) (by kernel_rfl) (by kernel_rfl) (by kernel_rfl)
  have tT := is_typeOf
  have cT := is_comparable
  have mR := is_mcomparable
  go_enter Tryz.func81, Tryz.ntmps81
  go_wp2_with fail
  refine hc.mono ?_
  rintro e w9 ⟨rfl, rfl⟩
  go_wp2
  go_ret
  exact ⟨rfl, rfl⟩
end Go.Proofs.YtnecafokkhhhhaaGreatDoor
