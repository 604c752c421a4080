/- Every answer of package byteset: the statement's walk. -/
import Derived.Test.YtkhmkcaocacfhaaDoorTold
import Derived.Laws.AppendOwnNone
namespace Go.Proofs.YtkhmkcaocacfhaaDoor
open Go Go.RowKit
/-- What one pair of the list holds. -/
structure Elem (w : World) (b o i : Nat) (A B : BitVec 256) (vb vs : Value) (bs : List UInt8) (ss : List (UInt8 × UInt8)) : Prop where
  a0 : w.cell? ⟨b, o + i * 10, none⟩ = some (.int .u64 (wd A 0))
  a1 : w.cell? ⟨b, o + i * 10 + 1, none⟩ = some (.int .u64 (wd A 1))
  a2 : w.cell? ⟨b, o + i * 10 + 2, none⟩ = some (.int .u64 (wd A 2))
  a3 : w.cell? ⟨b, o + i * 10 + 3, none⟩ = some (.int .u64 (wd A 3))
  b0 : w.cell? ⟨b, o + i * 10 + 4, none⟩ = some (.int .u64 (wd B 0))
  b1 : w.cell? ⟨b, o + i * 10 + 5, none⟩ = some (.int .u64 (wd B 1))
  b2 : w.cell? ⟨b, o + i * 10 + 6, none⟩ = some (.int .u64 (wd B 2))
  b3 : w.cell? ⟨b, o + i * 10 + 7, none⟩ = some (.int .u64 (wd B 3))
  cb : w.cell? ⟨b, o + i * 10 + 8, none⟩ = some vb
  cs : w.cell? ⟨b, o + i * 10 + 9, none⟩ = some vs
  hb : Bytes w vb bs
  hs : Spans w vs ss
  nb : ∀ n c, vb = .slice none n c → c = 0
  ns : vs = .slice none 0 0 ∨ ∃ a n c, vs = .slice (some a) n c
  sz : ss.length * 2 ≤ 140737488355328
theorem Elem.below {w w' : World} {b o i : Nat} {A B : BitVec 256} {vb vs : Value} {bs : List UInt8} {ss : List (UInt8 × UInt8)} (h : Elem w b o i A B vb vs bs ss) (hb : b < w.heap.size) (hx : Below w.heap.size w w') : Elem w' b o i A B vb vs bs ss := by
  have c : ∀ k, w'.cell? ⟨b, k, none⟩ = w.cell? ⟨b, k, none⟩ := fun k => hx.cell (p := ⟨b, k, none⟩) hb
  exact ⟨by rw [c]; exact h.a0, by rw [c]; exact h.a1, by rw [c]; exact h.a2, by rw [c]; exact h.a3, by rw [c]; exact h.b0, by rw [c]; exact h.b1, by rw [c]; exact h.b2, by rw [c]; exact h.b3, by rw [c]; exact h.cb, by rw [c]; exact h.cs, h.hb.below hx (Nat.le_refl _), h.hs.below hx (Nat.le_refl _), h.nb, h.ns, h.sz⟩
theorem lent_bytes {w : World} {base g : Nat} {l : List UInt8} (h : w.ownsRow base 5 1 (.slice (some ⟨g, 0, none⟩) (l.length + 7) (l.length + 7)) (l.length + 7) (l.map ub ++ mark 7)) (hl : l.length ≤ 140737488355328) : Bytes w (.slice (some ⟨g, 0, none⟩) l.length (l.length + 7)) l :=
  Lent.bytes ⟨g, rfl, h⟩ hl
theorem grownBy_same (w : World) (row : Option Nat) : w.grownBy w row := ⟨rfl, rfl, rfl, Nat.le_refl _, fun _ _ _ => rfl⟩
theorem scells_one (S : List (UInt8 × UInt8)) : ∀ u ∈ scells S, u.oneCell' = true := by
  intro u hu
  obtain ⟨p, _, hp⟩ := List.mem_flatMap.1 hu
  simp at hp
  rcases hp with rfl | rfl <;> rfl
/-- A list of spans is copied: appended onto nil. -/
theorem wpList_append_spans {w : World} {ops : Array Oper} {rest : List Oper} {o : Oper} {act : Act} {Q : Exit → Act → World → Prop} (hgd : o.guard = none) (s x : Operand) (base : Nat)
    (ho : o.op = .call { callee := .builtin .append, args := #[s, x], argTypes := #[27, 27] }) (hs : act.eval s = .slice none 0 0) (v : Value) (hx : act.eval x = v) (ss : List (UInt8 × UInt8)) (hv : Spans w v ss)
    (hn : v = .slice none 0 0 ∨ ∃ a n c, v = .slice (some a) n c) (sz : ss.length * 2 ≤ 140737488355328) (hbase : base ≤ w.heap.size)
    (h : ∀ v' w', w'.ownsRow base 39 2 v' ss.length (scells ss) → w.grownBy w' none → wpList Tryd.prog ops Q rest (act.put o.dst v') w') : wpList Tryd.prog ops Q (o :: rest) act w := by
  obtain ⟨i0, hi0, hz0, hz1, hz2⟩ := info_parts info_span
  obtain ⟨a', cap', e, h1, h2, h3⟩ := hv
  rcases hn with rfl | ⟨a, n, c, rfl⟩
  · simp only [Value.slice.injEq] at e
    obtain ⟨rfl, e2, rfl⟩ := e
    have hss : ss = [] := List.length_eq_zero_iff.1 e2.symm
    subst hss
    exact wpList_append_own_none hgd s x 27 ho base 39 i0 2 Tryd.underlying27 hi0 (.slice none 0 0) 0 [] hs (World.ownsRow_nil _ _ _ _) hx (h _ _ (World.ownsRow_nil _ _ _ _) (grownBy_same _ _))
  · simp only [Value.slice.injEq] at e
    obtain ⟨rfl, rfl, rfl⟩ := e
    have hlen := scells_len ss
    refine wpList_append_own w hgd s x 27 ho base 39 i0 (.agg #[.int .u8 0, .int .u8 0]) 2 2 Tryd.underlying27 hi0 hz0 hz1 hz2 rfl (by decide) (.slice none 0 0) 0 [] hs (World.ownsRow_nil _ _ _ _) a ss.length c (scells ss) hx (by omega) ?_ (scells_one ss) (by unfold maxLen; omega) (by omega) hbase ?_
    · intro j u hu
      rcases h3 with h3 | ⟨b, off, e, _, hc⟩
      · rw [h3] at hu; simp at hu
      · cases e
        have hadd : (⟨b, off, none⟩ : Addr).add j = ⟨b, off + j, none⟩ := by unfold Addr.add; split <;> simp_all
        rw [hadd, hc j (List.getElem?_eq_some_iff.1 hu).1]; exact hu
    · intro v' w' ho' hg' _
      rw [Nat.zero_add, List.nil_append] at ho'
      exact h v' w' ho' hg'
theorem ofspans_is (v : Value) (l : List (UInt8 × UInt8)) (r : BitVec 256) (w : World) (hv : Spans w v l) (h : ofs l = r) :
    Calls Tryd.prog 18 #[v] w fun e w' => e = .returned (sv r) ∧ Below w.heap.size w w' := by subst h; exact ofspans_any v l w hv
theorem rofspans_is (v : Value) (l : List (UInt8 × UInt8)) (r : BitVec 256) (w : World) (hv : Spans w v l) (h : ofs l = r) :
    Calls Tryd.prog 19 #[v] w fun e w' => e = .returned (sv r) ∧ Below w.heap.size w w' := by subst h; exact rofspans_any v l w hv
theorem own_ne {g b n c : Nat} (h : ¬ g = b) : (Value.slice (some ⟨g, 0, none⟩) n c).ownBlock ≠ some b := by simpa [Value.ownBlock] using h
theorem own_at {g j n c : Nat} (h : (Value.slice (some ⟨g, 0, none⟩) n c).ownBlock = some j) : g = j := by simpa [Value.ownBlock] using h
theorem Spans.of_row2 {w : World} {base e : Nat} {v : Value} {l : List (UInt8 × UInt8)} (h : w.ownsRow base e 2 v l.length (scells l)) (hl : l.length ≤ 140737488355328) : Spans w v l := Slc.of_own h hl
theorem rcompl_is (a r : BitVec 256) (w : World) (h : ~~~a = r) :
    Calls Tryd.prog 32 #[sv a] w fun e w' => e = .returned (sv r) ∧ Below w.heap.size w w' := by subst h; exact rcompl_any a w
theorem rwithin_is (a b : BitVec 256) (q : Bool) (w : World) (h : decide (a &&& ~~~b = 0#256) = q) :
    Calls Tryd.prog 34 #[sv a, sv b] w fun e w' => e = .returned (.bool q) ∧ Below w.heap.size w w' := by subst h; exact rwithin_any a b w
theorem cmp_is (a b : BitVec 256) (r : Int) (w : World) (h : cmp a b = r) (hT : Tab w) :
    Calls Tryd.prog 35 #[sv a, sv b] w fun e w' => e = .returned (.int .i64 r) ∧ Below w.heap.size w w' := by subst h; exact cmp_any a b w hT
theorem rcmp_is (a b : BitVec 256) (r : Int) (w : World) (h : cmp a b = r) :
    Calls Tryd.prog 36 #[sv a, sv b] w fun e w' => e = .returned (.int .i64 r) ∧ Below w.heap.size w w' := by subst h; exact rcmp_any a b w
theorem rof_eq (v : Value) (l : List UInt8) (s : BitVec 256) (w : World) (hv : Bytes w v l) (h : ofl l = s) :
    Calls Tryd.prog 16 #[v] w fun e w' => e = .returned (sv s) ∧ Below w.heap.size w w' := by subst h; exact rof_any v l w hv
set_option maxHeartbeats 4000000 in
set_option maxRecDepth 100000 in
theorem exact_some (b o n cap : Nat) (w : World) (hT : Tab w) (hb : b < w.heap.size) (hn : n ≤ 9223372036854775807) (hel : ∀ i, i < n → ∃ A B vb vs bs ss, Elem w b o i A B vb vs bs ss) :
    Calls Tryd.prog 3 #[.slice (some ⟨b, o, none⟩) n cap] w fun e w' => e = .returned (.bool true) ∧ Below w.heap.size w w' := by
  have HT := Lib.hid hT
  have HE := Lib.hid hel
  clear hT hel
  have hss := set_same
  go_enter Tryd.func3, Tryd.ntmps3
  go_wp2_with fail
  go_loopw [3] (fun i wr => ∃ k : Nat, k ≤ n ∧ k ≤ 12 ∧ i = .int .i64 k ∧ Below w.heap.size w wr) (fun i _ => n - (intOf i).toNat)
  case atStart => exact ⟨0, Nat.zero_le _, by omega, rfl, Below.refl _ _⟩
  case round =>
    obtain ⟨k, hk, hk12, rfl, hbel⟩ := hrel
    by_cases hlt : k < n
    · by_cases hlt12 : k < 12
      · obtain ⟨A, B, vb, vs, bs, ss, hem⟩ := HE.out k hlt
        have HM := Lib.hid (hem.below hb hbel)
        have HM0 := Lib.hid hem
        obtain ⟨a0, a1, a2, a3, b0, b1, b2, b3, cb, cs, _, _, _, _, _⟩ := hem.below hb hbel
        have hwz := hbel.size
        have hbw : b < wr.heap.size := by omega
        clear hem
        have kA := (Blk.new wr (svs A) 25).alloc (.cells (svs B) 25)
        have kB := Blk.new (wr.alloc (.cells (svs A) 25)) (svs B) 25
        simp only [World.size_alloc] at kB
        have hbel1 : Below w.heap.size w ((wr.alloc (.cells (svs A) 25)).alloc (.cells (svs B) 25)) := ((hbel.alloc hbel.size _).alloc (by simp; omega) _)
        have hM1 := Lib.hid (HM0.out.below hb hbel1)
        go_wp2_with fail
        refine (lend_any vb bs _ hM1.out.hb hM1.out.nb).mono ?_
        rintro e w1 ⟨vx, rfl, hlent, hE⟩
        replace kA := kA.ext hE
        replace kB := kB.ext hE
        replace hbel1 := bel_call hbel1 hE
        obtain ⟨g, rfl, hown⟩ := hlent
        have hgs := (hown.lt g rfl).1
        simp only [World.size_alloc] at hgs
        have HLt := Lib.hid hown
        have HM1 := Lib.hid (HM0.out.below hb hbel1)
        obtain ⟨O, hO⟩ : ∃ O, ofl bs = O := ⟨_, rfl⟩
        have HO := Lib.hid hO
        have hz1 := hbel1.size
        have hbw1 : b < w1.heap.size := by omega
        have hbl := hM1.out.hb.open.1
        clear hE hown hO a0 a1 a2 a3 b0 b1 b2 b3 cb cs hbel hM1 HM hbw
        obtain ⟨a0, a1, a2, a3, b0, b1, b2, b3, cb, cs, _, _, _, _, _⟩ := HM1.out
        go_wp2_with fail
        refine wp_region_tail (fun _ => none) 16 (by kernel_rfl) (by kernel_rfl) (fun _ _ h => by cases h) (fun hex => ?_)
        simp only [List.take_succ_cons, List.take_zero, List.drop_succ_cons, List.drop_zero]
        iterate 16
          (refine wpS_one (A := ?_) hex rfl rfl (by simp) ?_ ?_ ?_
           rotate_left 2
           · intro w' hC K hK
             obtain ⟨hcell, hfrz⟩ := bcell hC.1.ext
             have hM2 := Lib.hid (HM1.out.below hbw1 hC.1.ext); have cb' := hM2.out.cb; have f1 := Lib.hid (lent_bytes (own_below HLt.out hC.1.ext (Nat.le_refl _)) hbl); have f2 := Lib.hid hM2.out.hb; clear hcell hfrz
             go_wp2_with (first | (go_at_call 15; refine (of_eq _ bs O _ f1.out HO.out).mono ?_; rintro e w2 ⟨rfl, hb2⟩) | (go_at_call 16; refine (rof_eq _ bs O _ f2.out HO.out).mono ?_; rintro e w2 ⟨rfl, hb2⟩))
             refine hK _ ?_
             first | exact Gr.refl _ _ | exact Gr.of_ext (by assumption) hC.1.1.size
           rotate_left 1
           · rfl
           clear hex; intro hex)
        refine wpS_nil fun w2 hE => ?_
        replace hE := hE.1.ext
        obtain ⟨hcell_w2, hfrz_w2⟩ := bcell hE
        clear hcell_w2 hfrz_w2 hex a0 a1 a2 a3 b0 b1 b2 b3 cb cs
        replace kA := kA.ext hE
        replace kB := kB.ext hE
        replace hbel1 := bel_call hbel1 hE
        have HL2 := Lib.hid (own_below HLt.out hE (Nat.le_refl _))
        have HM2 := Lib.hid (HM0.out.below hb hbel1)
        clear hE HLt HM1
        obtain ⟨a0, a1, a2, a3, b0, b1, b2, b3, cb, cs, _, _, _, _, _⟩ := HM2.out
        go_wp2_with fail
        refine (back_any _ _ bs _ _ ⟨g, rfl, HL2.out⟩ HM2.out.hb hbl).mono ?_
        rintro e w3 ⟨rfl, hg⟩
        replace kA := kA.grown hg (own_ne (by omega))
        replace kB := kB.grown hg (own_ne (by omega))
        replace hbel1 := hbel1.grown hg hbel1.size (fun j hj => by have := own_at hj; omega)
        have HM3 := Lib.hid (HM0.out.below hb hbel1)
        clear hg HL2 HM2 a0 a1 a2 a3 b0 b1 b2 b3 cb cs HO
        obtain ⟨a0, a1, a2, a3, b0, b1, b2, b3, cb, cs, _, _, _, _, _⟩ := HM3.out
        have hz3 := hbel1.size
        have hB3 : wr.heap.size + 2 ≤ w3.heap.size := by have := kB.lt; omega
        go_wp2_with (at_builtin; (refine wpList_append_spans rfl (.tmp 54) (.tmp 59) w3.heap.size rfl rfl vs rfl ss HM3.out.hs HM3.out.ns HM3.out.sz (Nat.le_refl _) ?_); intro v1 w4 hown4 hgrow4; simp only [Act.put, List.setIfInBounds_toArray, List.set_cons_succ, List.set_cons_zero])
        replace kA := kA.grown hgrow4 (by simp)
        replace kB := kB.grown hgrow4 (by simp)
        replace hbel1 := hbel1.grown hgrow4 hbel1.size (fun j hj => by cases hj)
        have HM4 := Lib.hid (HM0.out.below hb hbel1)
        have hbw4 : b < w4.heap.size := by have := hbel1.size; omega
        obtain ⟨asl, csl, rfl⟩ := own_slice hown4
        have HS4 := Lib.hid hown4
        have hsz := HM3.out.sz
        obtain ⟨Q, hQ⟩ : ∃ Q, ofs ss = Q := ⟨_, rfl⟩
        obtain ⟨f, hf⟩ : ∃ f, full = f := ⟨_, rfl⟩
        have HQ := Lib.hid (And.intro hQ hf)
        have hg3 := hgrow4.size
        clear hgrow4 hown4 HM3 a0 a1 a2 a3 b0 b1 b2 b3 cb cs hQ hf
        refine wp_region_stab (fun _ => none) (by kernel_rfl) (by kernel_rfl) (fun _ _ h => by cases h) (fun hex => ?_)
        iterate 24
          (refine wpS_one (A := ?_) hex rfl rfl (by simp) ?_ ?_ ?_
           rotate_left 2
           · intro w' hC K hK
             obtain ⟨hcell, hfrz⟩ := bcell hC.1.ext
             have hM2 := Lib.hid (HM4.out.below hbw4 hC.1.ext); have cs' := hM2.out.cs; have f1 := Lib.hid (Spans.of_row2 (own_below HS4.out hC.1.ext (Nat.le_refl _)) (by omega)); have f2 := Lib.hid hM2.out.hs; clear hcell hfrz
             go_wp2_with (first | (go_at_call 18; refine (ofspans_is _ ss Q _ f1.out HQ.out.1).mono ?_; rintro e w2 ⟨rfl, hb2⟩) | (go_at_call 19; refine (rofspans_is _ ss Q _ f2.out HQ.out.1).mono ?_; rintro e w2 ⟨rfl, hb2⟩) | (go_at_call 20; refine (eqspans_self _ _ ss _ f1.out f2.out).mono ?_; rintro e w2 ⟨rfl, hb2⟩) | (go_at_call 21; refine (all_eq f HQ.out.2 _).mono ?_; rintro e w2 ⟨rfl, hb2⟩) | (go_at_call 22; refine (rall_eq f HQ.out.2 _).mono ?_; rintro e w2 ⟨rfl, hb2⟩))
             refine hK _ ?_
             first | exact Gr.refl _ _ | exact Gr.of_ext (by assumption) hC.1.1.size
           rotate_left 1
           · rfl
           clear hex; intro hex)
        refine wpS_nil fun w5 hE => ?_
        replace hE := hE.1.ext
        obtain ⟨hcell_w5, hfrz_w5⟩ := bcell hE
        clear hcell_w5 hfrz_w5 hex
        replace kA := kA.ext hE
        replace kB := kB.ext hE
        replace hbel1 := bel_call hbel1 hE
        have HS5 := Lib.hid (own_below HS4.out hE (Nat.le_refl _))
        clear hE HS4 HM4
        go_wp2_with fail
        obtain ⟨wo, rfl⟩ : ∃ wo : World, wo = wr := ⟨_, rfl⟩
        go_loopw [8] (fun i wr => ∃ j : Nat, j ≤ ss.length ∧ i = .int .i64 j ∧ Ext w5 wr) (fun i _ => ss.length - (intOf i).toNat)
        case atStart => exact ⟨0, Nat.zero_le _, rfl, Below.refl _ _⟩
        case round =>
          obtain ⟨j, hj, rfl, hx⟩ := hrel
          by_cases hjl : j < ss.length
          · obtain ⟨gs, cap', hsl, hgs, hgs2, _, _⟩ := own_some HS5.out (by omega)
            simp only [Value.slice.injEq, true_and] at hsl
            obtain ⟨rfl, rfl⟩ := hsl
            have hat := scells_at ss j hjl
            have hr1 := slo_lo ss j
            have hr2 := slo_hi ss j
            have hr3 := shi_lo ss j
            have hr4 := shi_hi ss j
            have hl5 := scells_len ss
            have hc1 : wr.cell? ⟨gs, j * 2, none⟩ = some (ub (slo ss j)) := by rw [hx.cell (p := ⟨gs, j * 2, none⟩) hgs2, HS5.out.cellAt _ (by omega), Nat.mul_comm]; exact hat.1
            have hc2 : wr.cell? ⟨gs, j * 2 + 1, none⟩ = some (ub (shi ss j)) := by rw [hx.cell (p := ⟨gs, j * 2 + 1, none⟩) hgs2, HS5.out.cellAt _ (by omega), Nat.mul_comm]; exact hat.2
            generalize slo ss j = lo at *
            generalize shi ss j = hi at *
            obtain ⟨R, hR⟩ : ∃ R, rng (lo.toNat : Int) (hi.toNat : Int) = R := ⟨_, rfl⟩
            have HR := Lib.hid hR
            have hgw : gs < wr.heap.size := by have := hx.size; omega
            clear hat hR
            go_wp2_with fail
            refine wp_region_stab (fun _ => none) (by kernel_rfl) (by kernel_rfl) (fun _ _ h => by cases h) (fun hex => ?_)
            iterate 25
              (refine wpS_one (A := ?_) hex rfl rfl (by simp) ?_ ?_ ?_
               rotate_left 2
               · intro w' hC K hK
                 obtain ⟨hcell, hfrz⟩ := bcell hC.1.ext
                 have hc1' := (hC.1.ext.cell (p := ⟨gs, j * 2, none⟩) hgw).trans hc1; have hc2' := (hC.1.ext.cell (p := ⟨gs, j * 2 + 1, none⟩) hgw).trans hc2; clear hcell hfrz
                 go_wp2_with (first | (go_at_call 23; refine (range_eq _ _ R hr1 hr2 hr3 hr4 HR.out _).mono ?_; rintro e w2 ⟨rfl, hb2⟩) | (go_at_call 24; refine (rrange_eq lo.toNat hi.toNat R _ (by omega) (by omega) HR.out).mono ?_; rintro e w2 ⟨rfl, hb2⟩))
                 refine hK _ ?_
                 first | exact Gr.refl _ _ | exact Gr.of_ext (by assumption) hC.1.1.size
               rotate_left 1
               · rfl
               clear hex; intro hex)
            refine wpS_nil fun w6 hE => ?_
            replace hE := hE.1.ext
            obtain ⟨hcell_w6, hfrz_w6⟩ := bcell hE
            clear hcell_w6 hfrz_w6 hex
            go_wp2_with fail
            go_roundw
            case rel => exact ⟨j + 1, by omega, by go_num, bel_call hx hE⟩
            case measure => simp [intOf]; omega
          · obtain rfl : j = ss.length := by omega
            replace kA := kA.ext hx
            replace kB := kB.ext hx
            replace hbel1 := bel_call hbel1 hx
            clear hx HS5
            go_wp2_with fail
            obtain ⟨u, hu⟩ : ∃ u, A ||| B = u := ⟨_, rfl⟩
            obtain ⟨nn, hn'⟩ : ∃ u, A &&& B = u := ⟨_, rfl⟩
            obtain ⟨m, hm⟩ : ∃ u, A &&& ~~~B = u := ⟨_, rfl⟩
            obtain ⟨c, hc⟩ : ∃ u, ~~~A = u := ⟨_, rfl⟩
            obtain ⟨q, hq⟩ : ∃ u, decide (A &&& ~~~B = 0#256) = u := ⟨_, rfl⟩
            obtain ⟨r, hr⟩ : ∃ u, cmp A B = u := ⟨_, rfl⟩
            have HU := Lib.hid (And.intro hu (And.intro hn' (And.intro hm (And.intro hc (And.intro hq hr)))))
            clear hu hn' hm hc hq hr
            refine wp_region_stab (fun _ => none) (by kernel_rfl) (by kernel_rfl) (fun _ _ h => by cases h) (fun hex => ?_)
            iterate 32
              (refine wpS_one (A := ?_) hex rfl rfl (by simp) ?_ ?_ ?_
               rotate_left 2
               · intro w' hC K hK
                 obtain ⟨hcell, hfrz⟩ := bcell hC.1.ext
                 obtain ⟨p0, p1, p2, p3⟩ := (kA.ext hC.1.ext).cells4; obtain ⟨q0, q1, q2, q3⟩ := (kB.ext hC.1.ext).cells4; clear hcell hfrz
                 go_wp2_with (first | (go_at_call 25; refine (union_eq A B u HU.out.1 _).mono ?_; rintro e w2 ⟨rfl, hb2⟩) | (go_at_call 26; refine (runion_eq A B u HU.out.1 _).mono ?_; rintro e w2 ⟨rfl, hb2⟩) | (go_at_call 27; refine (inter_eq A B nn HU.out.2.1 _).mono ?_; rintro e w2 ⟨rfl, hb2⟩) | (go_at_call 28; refine (rinter_eq A B nn HU.out.2.1 _).mono ?_; rintro e w2 ⟨rfl, hb2⟩) | (go_at_call 29; refine (minus_eq A B m HU.out.2.2.1 _).mono ?_; rintro e w2 ⟨rfl, hb2⟩) | (go_at_call 30; refine (rminus_eq A B m HU.out.2.2.1 _).mono ?_; rintro e w2 ⟨rfl, hb2⟩) | (go_at_call 31; refine (compl_eq A c HU.out.2.2.2.1 _).mono ?_; rintro e w2 ⟨rfl, hb2⟩) | (go_at_call 32; refine (rcompl_is A c _ HU.out.2.2.2.1).mono ?_; rintro e w2 ⟨rfl, hb2⟩))
                 refine hK _ ?_
                 first | exact Gr.refl _ _ | exact Gr.of_ext (by assumption) hC.1.1.size
               rotate_left 1
               · rfl
               clear hex; intro hex)
            refine wpS_nil fun w7 hE => ?_
            replace hE := hE.1.ext
            obtain ⟨hcell_w7, hfrz_w7⟩ := bcell hE
            clear hcell_w7 hfrz_w7 hex
            replace kA := kA.ext hE
            replace kB := kB.ext hE
            replace hbel1 := bel_call hbel1 hE
            have HT7 := Lib.hid (HT.out.ext hbel1)
            clear hE
            go_wp2_with fail
            refine wp_region_stab (fun _ => none) (by kernel_rfl) (by kernel_rfl) (fun _ _ h => by cases h) (fun hex => ?_)
            iterate 26
              (refine wpS_one (A := ?_) hex rfl rfl (by simp) ?_ ?_ ?_
               rotate_left 2
               · intro w' hC K hK
                 obtain ⟨hcell, hfrz⟩ := bcell hC.1.ext
                 obtain ⟨p0, p1, p2, p3⟩ := (kA.ext hC.1.ext).cells4; obtain ⟨q0, q1, q2, q3⟩ := (kB.ext hC.1.ext).cells4; have hTw := Lib.hid (HT7.out.ext hC.1.ext); clear hcell hfrz
                 go_wp2_with (first | (go_at_call 33; refine (within_eq A B q HU.out.2.2.2.2.1 _).mono ?_; rintro e w2 ⟨rfl, hb2⟩) | (go_at_call 34; refine (rwithin_is A B q _ HU.out.2.2.2.2.1).mono ?_; rintro e w2 ⟨rfl, hb2⟩) | (go_at_call 35; refine (cmp_is A B r _ HU.out.2.2.2.2.2 hTw.out).mono ?_; rintro e w2 ⟨rfl, hb2⟩) | (go_at_call 36; refine (rcmp_is A B r _ HU.out.2.2.2.2.2).mono ?_; rintro e w2 ⟨rfl, hb2⟩) | (go_at_call 37; refine (told_any _ _ hTw.out).mono ?_; rintro e w2 ⟨rfl, hb2⟩))
                 refine hK _ ?_
                 first | exact Gr.refl _ _ | exact Gr.of_ext (by assumption) hC.1.1.size
               rotate_left 1
               · rfl
               clear hex; intro hex)
            refine wpS_nil fun w8 hE => ?_
            replace hE := hE.1.ext
            obtain ⟨hcell_w8, hfrz_w8⟩ := bcell hE
            clear hcell_w8 hfrz_w8 hex
            replace hbel1 := bel_call hbel1 hE
            clear hE kA kB
            go_wp2_with fail
            go_roundw
            case rel => exact ⟨k + 1, by omega, by omega, by go_num, hbel1⟩
            case measure => simp [intOf]; omega
      · have hd12 : ¬ (k : Int) < 12 := by omega
        have HTr := Lib.hid (HT.out.ext hbel)
        go_wp2_with (go_at_call 38; refine (wakes_any _ HTr.out).mono ?_; rintro e w2 ⟨rfl, hb2⟩)
        go_ret
        exact ⟨rfl, bel_call hbel hb2⟩
    · obtain rfl : k = n := by omega
      have HTr := Lib.hid (HT.out.ext hbel)
      go_wp2_with (go_at_call 38; refine (wakes_any _ HTr.out).mono ?_; rintro e w2 ⟨rfl, hb2⟩)
      go_ret
      exact ⟨rfl, bel_call hbel hb2⟩
end Go.Proofs.YtkhmkcaocacfhaaDoor
