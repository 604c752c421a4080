/- Which rules may be: length.isZero, trailMayBe, coresMayBe. -/
import Derived.Test.YtnmdfhnfheekgaaDoorChk
import Derived.Deep.WholeRow
import Derived.Deep.MidRow
namespace Go.Proofs.YtnmdfhnfheekgaaDoor
open Go Go.RowKit
def Zro (x : Xp) : Prop := x.op = 0 ∧ x.at_ = 0 ∧ x.set = 0#256 ∧ x.text = .empty ∧ x.mn = 0 ∧ x.mx = 0 ∧ x.args.length = 0
instance (x : Xp) : Decidable (Zro x) := by unfold Zro; infer_instance
/-- A rule's core. -/
structure Cr where
  h : Xp
  ht : Bool
  t : Xp
/-- Its twenty-one cells, and lists of such. -/
def ccs (r : Cr) (a : Option Addr) (c : Nat) (a' : Option Addr) (c' : Nat) : List Value :=
  [.int .i64 r.h.op, .int .i64 r.h.at_, .int .u64 (wd r.h.set 0), .int .u64 (wd r.h.set 1), .int .u64 (wd r.h.set 2), .int .u64 (wd r.h.set 3), .string r.h.text, .int .i64 r.h.mn, .int .i64 r.h.mx, .slice a r.h.args.length c, .bool r.ht,
    .int .i64 r.t.op, .int .i64 r.t.at_, .int .u64 (wd r.t.set 0), .int .u64 (wd r.t.set 1), .int .u64 (wd r.t.set 2), .int .u64 (wd r.t.set 3), .string r.t.text, .int .i64 r.t.mn, .int .i64 r.t.mx, .slice a' r.t.args.length c']
abbrev cbx (r : Cr) (a : Option Addr) (c : Nat) (a' : Option Addr) (c' : Nat) : Array Value := (ccs r a c a' c').toArray
abbrev cv (r : Cr) (a : Option Addr) (c : Nat) (a' : Option Addr) (c' : Nat) : Value := .agg (cbx r a c a' c')
theorem cbx_size (r : Cr) (a : Option Addr) (c : Nat) (a' : Option Addr) (c' : Nat) : (cbx r a c a' c').size = 21 := rfl
theorem Blk.cells21 {w : World} {b : Nat} {t : TypeId} {r : Cr} {a : Option Addr} {c : Nat} {a' : Option Addr} {c' : Nat} (h : Blk w b (cbx r a c a' c') t) :
    w.cell? ⟨b, 0, none⟩ = some (.int .i64 r.h.op) ∧ w.cell? ⟨b, 1, none⟩ = some (.int .i64 r.h.at_) ∧ w.cell? ⟨b, 2, none⟩ = some (.int .u64 (wd r.h.set 0)) ∧ w.cell? ⟨b, 3, none⟩ = some (.int .u64 (wd r.h.set 1)) ∧ w.cell? ⟨b, 4, none⟩ = some (.int .u64 (wd r.h.set 2)) ∧ w.cell? ⟨b, 5, none⟩ = some (.int .u64 (wd r.h.set 3)) ∧ w.cell? ⟨b, 6, none⟩ = some (.string r.h.text) ∧ w.cell? ⟨b, 7, none⟩ = some (.int .i64 r.h.mn) ∧ w.cell? ⟨b, 8, none⟩ = some (.int .i64 r.h.mx) ∧ w.cell? ⟨b, 9, none⟩ = some (.slice a r.h.args.length c) ∧ w.cell? ⟨b, 10, none⟩ = some (.bool r.ht) ∧ w.cell? ⟨b, 11, none⟩ = some (.int .i64 r.t.op) ∧ w.cell? ⟨b, 12, none⟩ = some (.int .i64 r.t.at_) ∧ w.cell? ⟨b, 13, none⟩ = some (.int .u64 (wd r.t.set 0)) ∧ w.cell? ⟨b, 14, none⟩ = some (.int .u64 (wd r.t.set 1)) ∧ w.cell? ⟨b, 15, none⟩ = some (.int .u64 (wd r.t.set 2)) ∧ w.cell? ⟨b, 16, none⟩ = some (.int .u64 (wd r.t.set 3)) ∧ w.cell? ⟨b, 17, none⟩ = some (.string r.t.text) ∧ w.cell? ⟨b, 18, none⟩ = some (.int .i64 r.t.mn) ∧ w.cell? ⟨b, 19, none⟩ = some (.int .i64 r.t.mx) ∧ w.cell? ⟨b, 20, none⟩ = some (.slice a' r.t.args.length c') :=
  ⟨h.cell 0, h.cell 1, h.cell 2, h.cell 3, h.cell 4, h.cell 5, h.cell 6, h.cell 7, h.cell 8, h.cell 9, h.cell 10, h.cell 11, h.cell 12, h.cell 13, h.cell 14, h.cell 15, h.cell 16, h.cell 17, h.cell 18, h.cell 19, h.cell 20⟩
def Cat (w : World) (B : Nat) (a : Option Addr) (c : Nat) (L : List Cr) : Prop :=
  L.length ≤ c ∧ c ≤ maxLen ∧ (L = [] ∨ ∃ b o, a = some ⟨b, o, none⟩ ∧ b < B ∧ ∃ (ga : Nat → Option Addr) (gc : Nat → Nat) (ha : Nat → Option Addr) (hc : Nat → Nat), ∀ i (h : i < L.length),
    Xok L[i].h ∧ Xok L[i].t ∧ (∀ j, j < 21 → w.cell? ⟨b, o + i * 21 + j, none⟩ = (ccs L[i] (ga i) (gc i) (ha i) (hc i))[j]?) ∧ Xat w B (ga i) (gc i) L[i].h.args ∧ Xat w B (ha i) (hc i) L[i].t.args)
section
variable {w w' : World} {B D : Nat} {a : Option Addr} {c : Nat} {L : List Cr}
theorem Cat.blw (h : Cat w B a c L) (hx : Below B w w') : Cat w' B a c L := by
  obtain ⟨h1, h2, h⟩ := h
  refine ⟨h1, h2, ?_⟩
  rcases h with h | ⟨b, o, ha, hb, ga, gc, ha', hc', h⟩
  · exact .inl h
  · refine .inr ⟨b, o, ha, hb, ga, gc, ha', hc', fun i hi => ?_⟩
    obtain ⟨k1, k2, k3, k4, k5⟩ := h i hi
    exact ⟨k1, k2, fun j hj => by rw [hx.cell (p := ⟨b, o + i * 21 + j, none⟩) hb]; exact k3 j hj, k4.blw hx, k5.blw hx⟩
theorem Cat.mono (h : Cat w B a c L) (hB : B ≤ D) : Cat w D a c L := by
  obtain ⟨h1, h2, h⟩ := h
  refine ⟨h1, h2, ?_⟩
  rcases h with h | ⟨b, o, ha, hb, ga, gc, ha', hc', h⟩
  · exact .inl h
  · refine .inr ⟨b, o, ha, Nat.lt_of_lt_of_le hb hB, ga, gc, ha', hc', fun i hi => ?_⟩
    obtain ⟨k1, k2, k3, k4, k5⟩ := h i hi
    exact ⟨k1, k2, k3, k4.mono hB, k5.mono hB⟩
theorem Cat.ext (h : Cat w w.heap.size a c L) (hx : Ext w w') : Cat w' w'.heap.size a c L := (h.blw hx).mono hx.size
theorem Cat.len (h : Cat w B a c L) : L.length ≤ maxLen := Nat.le_trans h.1 h.2.1
/-- The cells of one, as an array's: 'n' is where they begin. -/
def Crc (w : World) (b o : Nat) (r : Cr) (a : Option Addr) (c : Nat) (a' : Option Addr) (c' : Nat) : Prop := ∀ j, j < 21 → w.cell? ⟨b, o + j, none⟩ = (ccs r a c a' c')[j]?
theorem Cat.cells (h : Cat w B a c L) {k : Nat} (hk : k < L.length) : ∃ b o, a = some ⟨b, o, none⟩ ∧ b < B ∧ ∃ (r : Cr) (a1 : Option Addr) (c1 : Nat) (a2 : Option Addr) (c2 : Nat), L[k] = r ∧ r ∈ L ∧ Xok r.h ∧ Xok r.t ∧ Xat w B a1 c1 r.h.args ∧ Xat w B a2 c2 r.t.args ∧ Crc w b (o + k * 21) r a1 c1 a2 c2 := by
  obtain ⟨_, _, h | ⟨b, o, ha, hb, ga, gc, ha', hc', h⟩⟩ := h
  · subst h; simp at hk
  · obtain ⟨k1, k2, k3, k4, k5⟩ := h k hk
    exact ⟨b, o, ha, hb, L[k], ga k, gc k, ha' k, hc' k, rfl, List.getElem_mem hk, k1, k2, k4, k5, k3⟩
end
set_option maxHeartbeats 4000000 in
set_option maxRecDepth 20000 in
theorem zero_any (x : Xp) (a : Option Addr) (c : Nat) (w : World) (_hlen : x.args.length ≤ maxLen) :
    Calls Tryd.prog 65 #[xv x a c] w fun e w' => e = .returned (.bool (decide (Zro x))) ∧ Ext w w' := by
  have hse := set_eq0 x.set
  have hse0 := set_eq00
  by_cases h_op : x.op = 0
  · skip
    have e1_op : (x.op == 0) = true := by simpa using h_op
    have e2_op : decide (x.op = 0) = true := by simpa using h_op
    by_cases h_at : x.at_ = 0
    · skip
      have e1_at : (x.at_ == 0) = true := by simpa using h_at
      have e2_at : decide (x.at_ = 0) = true := by simpa using h_at
      by_cases h_set : x.set = 0#256
      · skip
        have es : decide (x.set = 0#256) = true := by simpa using h_set
        by_cases h_text : x.text = .empty
        · skip
          have et : (x.text.toList == []) = true := by rw [txt_nil]; simpa using h_text
          by_cases h_mn : x.mn = 0
          · skip
            have e1_mn : (x.mn == 0) = true := by simpa using h_mn
            have e2_mn : decide (x.mn = 0) = true := by simpa using h_mn
            by_cases h_mx : x.mx = 0
            · skip
              have e1_mx : (x.mx == 0) = true := by simpa using h_mx
              have e2_mx : decide (x.mx = 0) = true := by simpa using h_mx
              by_cases h_len : x.args.length = 0
              · skip
                have el1 : ((x.args.length : Int) == 0) = true := by rw [h_len]; rfl
                have el2 : decide ((x.args.length : Int) = 0) = true := by rw [h_len]; rfl
                have el3 : (x.args.length == 0) = true := by rw [h_len]; rfl
                have el4 : decide (x.args.length = 0) = true := by rw [h_len]; rfl
                have el5 : x.args.isEmpty = true := by rw [List.length_eq_zero_iff] at h_len; rw [h_len]; rfl
                have hq : decide (Zro x) = true := by simp only [Zro]; simp [h_op, h_at, h_set, h_text, h_mn, h_mx, h_len]
                rw [hq]
                clear hq h_op h_at h_set h_text h_mn h_mx h_len
                go_enter Tryd.func65, Tryd.ntmps65
                go_wp2_with fail
                go_ret
                exact ⟨rfl, by go_grown⟩
              · skip
                have el1 : ((x.args.length : Int) == 0) = false := by simp only [beq_eq_false_iff_ne, ne_eq]; omega
                have el2 : decide ((x.args.length : Int) = 0) = false := by simp only [decide_eq_false_iff_not]; omega
                have el3 : (x.args.length == 0) = false := by simp only [beq_eq_false_iff_ne, ne_eq]; omega
                have el4 : decide (x.args.length = 0) = false := by simp only [decide_eq_false_iff_not]; omega
                have el5 : x.args.isEmpty = false := by cases hh : x.args.isEmpty with | false => rfl | true => exact absurd (by rw [List.isEmpty_iff] at hh; rw [hh]; rfl) h_len
                have hq : decide (Zro x) = false := by simp only [Zro]; simp [h_op, h_at, h_set, h_text, h_mn, h_mx, h_len]
                rw [hq]
                clear hq h_op h_at h_set h_text h_mn h_mx h_len
                go_enter Tryd.func65, Tryd.ntmps65
                go_wp2_with fail
                go_ret
                exact ⟨rfl, by go_grown⟩
            · skip
              have e1_mx : (x.mx == 0) = false := by simpa using h_mx
              have e2_mx : decide (x.mx = 0) = false := by simpa using h_mx
              have hq : decide (Zro x) = false := by simp only [Zro]; simp [h_op, h_at, h_set, h_text, h_mn, h_mx]
              rw [hq]
              clear hq h_op h_at h_set h_text h_mn h_mx
              go_enter Tryd.func65, Tryd.ntmps65
              go_wp2_with fail
              go_ret
              exact ⟨rfl, by go_grown⟩
          · skip
            have e1_mn : (x.mn == 0) = false := by simpa using h_mn
            have e2_mn : decide (x.mn = 0) = false := by simpa using h_mn
            have hq : decide (Zro x) = false := by simp only [Zro]; simp [h_op, h_at, h_set, h_text, h_mn]
            rw [hq]
            clear hq h_op h_at h_set h_text h_mn
            go_enter Tryd.func65, Tryd.ntmps65
            go_wp2_with fail
            go_ret
            exact ⟨rfl, by go_grown⟩
        · skip
          have et : (x.text.toList == []) = false := by rw [txt_nil]; simpa using h_text
          have hq : decide (Zro x) = false := by simp only [Zro]; simp [h_op, h_at, h_set, h_text]
          rw [hq]
          clear hq h_op h_at h_set h_text
          go_enter Tryd.func65, Tryd.ntmps65
          go_wp2_with fail
          go_ret
          exact ⟨rfl, by go_grown⟩
      · skip
        have es : decide (x.set = 0#256) = false := by simpa using h_set
        have hq : decide (Zro x) = false := by simp only [Zro]; simp [h_op, h_at, h_set]
        rw [hq]
        clear hq h_op h_at h_set
        go_enter Tryd.func65, Tryd.ntmps65
        go_wp2_with fail
        go_ret
        exact ⟨rfl, by go_grown⟩
    · skip
      have e1_at : (x.at_ == 0) = false := by simpa using h_at
      have e2_at : decide (x.at_ = 0) = false := by simpa using h_at
      have hq : decide (Zro x) = false := by simp only [Zro]; simp [h_op, h_at]
      rw [hq]
      clear hq h_op h_at
      go_enter Tryd.func65, Tryd.ntmps65
      go_wp2_with fail
      go_ret
      exact ⟨rfl, by go_grown⟩
  · skip
    have e1_op : (x.op == 0) = false := by simpa using h_op
    have e2_op : decide (x.op = 0) = false := by simpa using h_op
    have hq : decide (Zro x) = false := by simp only [Zro]; simp [h_op]
    rw [hq]
    clear hq h_op
    go_enter Tryd.func65, Tryd.ntmps65
    go_wp2_with fail
    go_ret
    exact ⟨rfl, by go_grown⟩
theorem Crc.cells21 {w : World} {b o : Nat} {r : Cr} {a : Option Addr} {c : Nat} {a' : Option Addr} {c' : Nat} (h : Crc w b o r a c a' c') :
    w.cell? ⟨b, o, none⟩ = some (.int .i64 r.h.op) ∧ w.cell? ⟨b, o + 1, none⟩ = some (.int .i64 r.h.at_) ∧ w.cell? ⟨b, o + 2, none⟩ = some (.int .u64 (wd r.h.set 0)) ∧ w.cell? ⟨b, o + 3, none⟩ = some (.int .u64 (wd r.h.set 1)) ∧ w.cell? ⟨b, o + 4, none⟩ = some (.int .u64 (wd r.h.set 2)) ∧ w.cell? ⟨b, o + 5, none⟩ = some (.int .u64 (wd r.h.set 3)) ∧ w.cell? ⟨b, o + 6, none⟩ = some (.string r.h.text) ∧ w.cell? ⟨b, o + 7, none⟩ = some (.int .i64 r.h.mn) ∧ w.cell? ⟨b, o + 8, none⟩ = some (.int .i64 r.h.mx) ∧ w.cell? ⟨b, o + 9, none⟩ = some (.slice a r.h.args.length c) ∧ w.cell? ⟨b, o + 10, none⟩ = some (.bool r.ht) ∧ w.cell? ⟨b, o + 11, none⟩ = some (.int .i64 r.t.op) ∧ w.cell? ⟨b, o + 12, none⟩ = some (.int .i64 r.t.at_) ∧ w.cell? ⟨b, o + 13, none⟩ = some (.int .u64 (wd r.t.set 0)) ∧ w.cell? ⟨b, o + 14, none⟩ = some (.int .u64 (wd r.t.set 1)) ∧ w.cell? ⟨b, o + 15, none⟩ = some (.int .u64 (wd r.t.set 2)) ∧ w.cell? ⟨b, o + 16, none⟩ = some (.int .u64 (wd r.t.set 3)) ∧ w.cell? ⟨b, o + 17, none⟩ = some (.string r.t.text) ∧ w.cell? ⟨b, o + 18, none⟩ = some (.int .i64 r.t.mn) ∧ w.cell? ⟨b, o + 19, none⟩ = some (.int .i64 r.t.mx) ∧ w.cell? ⟨b, o + 20, none⟩ = some (.slice a' r.t.args.length c') :=
  ⟨h 0 (by decide), h 1 (by decide), h 2 (by decide), h 3 (by decide), h 4 (by decide), h 5 (by decide), h 6 (by decide), h 7 (by decide), h 8 (by decide), h 9 (by decide), h 10 (by decide), h 11 (by decide), h 12 (by decide), h 13 (by decide), h 14 (by decide), h 15 (by decide), h 16 (by decide), h 17 (by decide), h 18 (by decide), h 19 (by decide), h 20 (by decide)⟩
theorem add_off (b o j : Nat) : (⟨b, o, none⟩ : Addr).add j = ⟨b, o + j, none⟩ := by unfold Addr.add; split <;> simp_all
theorem Crc.range {w : World} {b o : Nat} {r : Cr} {a : Option Addr} {c : Nat} {a' : Option Addr} {c' : Nat} (h : Crc w b o r a c a' c') : w.rangeAt b o (ccs r a c a' c') := fun j v hv => by
  have hj : j < 21 := (List.getElem?_eq_some_iff.1 hv).1
  rw [h j hj]; exact hv
abbrev czr : Array Value := #[.int .i64 0, .int .i64 0, .int .u64 0, .int .u64 0, .int .u64 0, .int .u64 0, .string .empty, .int .i64 0, .int .i64 0, .slice none 0 0, .bool false, .int .i64 0, .int .i64 0, .int .u64 0, .int .u64 0, .int .u64 0, .int .u64 0, .string .empty, .int .i64 0, .int .i64 0, .slice none 0 0]
theorem core_info : (Tryd.prog.info? 48).map (·.size) = some 21 := by kernel_rfl
theorem cbx_one (r : Cr) (a : Option Addr) (c : Nat) (a' : Option Addr) (c' : Nat) : (cbx r a c a' c').all (·.oneCell') = true := by simp [ccs, Value.oneCell']
def Tmb (r : Cr) : Prop := if r.ht = true then Chk r.t else Zro r.t
instance (r : Cr) : Decidable (Tmb r) := by unfold Tmb; infer_instance
set_option maxHeartbeats 4000000 in
set_option maxRecDepth 20000 in
theorem trail_any (r : Cr) (a : Option Addr) (c : Nat) (a' : Option Addr) (c' : Nat) (w : World) (hx : Xat w w.heap.size a' c' r.t.args) :
    Calls Tryd.prog 51 #[cv r a c a' c'] w fun e w' => e = .returned (.bool (decide (Tmb r))) ∧ Ext w w' := by
  have hE : Ext w (w.alloc (.cells (cbx r a c a' c') 48)) := by go_grown
  have h1 := check_any r.t a' c' _ (hx.ext hE)
  have h2 := fun w => zero_any r.t a' c' w hx.len
  have HE := Lib.hid hE
  obtain ⟨z0, z1, z2, z3, z4, z5, z6, z7, z8, z9, z10, z11, z12, z13, z14, z15, z16, z17, z18, z19, z20⟩ := (Blk.new w (cbx r a c a' c') 48).cells21
  clear z0 z1 z2 z3 z4 z5 z6 z7 z8 z9
  cases hh : r.ht with
  | true =>
    have hq : decide (Tmb r) = decide (Chk r.t) := by unfold Tmb; simp [hh]
    rw [hq]
    generalize decide (Chk r.t) = q at *
    have H1 := Lib.hid h1
    clear hq h1 h2 hx hE
    go_enter Tryd.func51, Tryd.ntmps51
    go_wp2_with fail
    refine H1.out.mono ?_
    rintro e w1 ⟨rfl, x1⟩
    have X1 := Lib.hid (bel_call HE.out x1)
    go_wp2_with fail
    go_ret
    exact ⟨rfl, X1.out⟩
  | false =>
    have hq : decide (Tmb r) = decide (Zro r.t) := by unfold Tmb; simp [hh]
    rw [hq]
    generalize decide (Zro r.t) = q at *
    have H2 := Lib.hid h2
    clear hq h1 h2 hx hE
    go_enter Tryd.func51, Tryd.ntmps51
    go_wp2_with fail
    refine (H2.out _).mono ?_
    rintro e w1 ⟨rfl, x1⟩
    have X1 := Lib.hid (bel_call HE.out x1)
    go_wp2_with fail
    go_ret
    exact ⟨rfl, X1.out⟩
end Go.Proofs.YtnmdfhnfheekgaaDoor
