/- Errors in wrappers that came in: made. -/
import Derived.Test.YtoagkgdjekbcmaaDoorMkd
namespace Go.Proofs.YtoagkgdjekbcmaaDoor
open Go Go.RowKit
/-- All wrappers, the innermost first. -/
def wrs (l : List WD) : List Wr := l.foldl (fun K d => wr1 d K) []
theorem wrs_take (l : List WD) (i : Nat) (h : i < l.length) : wrs (l.take (i + 1)) = wr1 (l.getD i wd0) (wrs (l.take i)) := by
  unfold wrs
  rw [List.take_succ_eq_append_getElem h, List.foldl_append]
  simp only [List.foldl_cons, List.foldl_nil, List.getD_eq_getElem?_getD, List.getElem?_eq_getElem h, Option.getD_some]
/-- What is made: nothing, or an error that was laid at 'a'. -/
def MadeNil (c : Int) : Prop := c < 1 ∨ 18 ≤ c
set_option maxHeartbeats 1000000 in
set_option maxRecDepth 20000 in
theorem made_nil (ea : Nat → Addr) (c : Int) (s : ByteArray) (x : Value) (l : List WD) (w : World) (hK : Known w ea) (hx : Wrs w x l) (hc : MadeNil c) (hcr : -9223372036854775808 ≤ c ∧ c ≤ 9223372036854775807) :
    Calls Tryd.prog 7 #[.agg #[.int .i64 c, .string s, x]] w fun e w' => e = .returned .nilIface ∧ Below w.heap.size w w' := by
  obtain ⟨xa, xc, rfl⟩ := hx.slice
  obtain ⟨x, hxe⟩ : ∃ x, Value.slice xa l.length xc = x := ⟨_, rfl⟩
  have hE0 : Ext w (w.alloc (.cells #[.int .i64 c, .string s, x] 24)) := by go_grown
  have kB := Blk.new w #[.int .i64 c, .string s, x] 24
  have hof : Calls Tryd.prog 9 #[.int .i64 c] (w.alloc (.cells #[.int .i64 c, .string s, x] 24)) fun e w' => e = .returned .nilIface ∧ Below (w.alloc (.cells #[.int .i64 c, .string s, x] 24)).heap.size (w.alloc (.cells #[.int .i64 c, .string s, x] 24)) w' := by
    by_cases h0 : c = 0
    · subst h0
      exact of_low 0 ea _ (hK.ext hE0).sent (by omega)
    · exact of_none c ea _ (hK.ext hE0).sent (by unfold MadeNil at hc; omega) hcr
  have hc1 : (c == 1) = false := by simp; unfold MadeNil at hc; omega
  subst hxe
  go_enter Tryd.func7, Tryd.ntmps7
  go_wp2_with fail
  refine hof.mono ?_
  rintro e w1 ⟨rfl, hE⟩
  have hb := bel_call hE0 hE
  replace kB := kB.below hE kB.lt
  clear hof hE hc hcr
  have hq0 := kB.cell 0
  go_wp2_with fail
  clear hq0
  by_cases h0 : l.length = 0
  · obtain rfl := List.length_eq_zero_iff.1 h0
    obtain ⟨q0, q1, q2⟩ := And.intro (kB.cell 0) (And.intro (kB.cell 1) (kB.cell 2))
    go_wp2_with fail
    refine wp_loop_rounds 1 ?_
    rw [rounds_succ]
    go_wp2
    go_ret
    exact ⟨rfl, hb⟩
  · obtain ⟨_, ⟨_, e⟩ | ⟨ax, cx, hxe, hcx, hcx2, hel⟩⟩ := id hx
    · subst e; exact absurd rfl h0
    simp only [Value.slice.injEq, true_and] at hxe
    obtain ⟨rfl, rfl⟩ := hxe
    rcases hel with e | ⟨bx, ox, rfl, hbx, hel⟩
    · subst e; exact absurd rfl h0
    have h63 : l.length ≤ 140737488355328 := hx.1
    have HX := Lib.hid (And.intro hx hel)
    clear hx hel
    obtain ⟨q0, q1, q2⟩ := And.intro (kB.cell 0) (And.intro (kB.cell 1) (kB.cell 2))
    go_wp2_with fail
    go_loopw [3, 4] (fun v i wr => ∃ k : Nat, k ≤ l.length ∧ i = .int .i64 k ∧ Below w.heap.size w wr ∧ Blk wr w.heap.size #[.int .i64 c, .string s, .slice (some ⟨bx, ox, none⟩) l.length xc] 24 ∧ v = .nilIface) (fun _ i _ => l.length - (intOf i).toNat)
    case atStart => exact ⟨0, Nat.zero_le _, rfl, hb, kB, rfl⟩
    case round =>
      clear hb kB q0 q1 q2
      obtain ⟨k, hk, rfl, hb, kB, rfl⟩ := hrel
      obtain ⟨q0, q1, q2⟩ := And.intro (kB.cell 0) (And.intro (kB.cell 1) (kB.cell 2))
      by_cases hlt : k < l.length
      · obtain ⟨e0, e1, xi, e2, hti⟩ := (HX.out.2 k hlt).ext hbx hb
        have hst := wrs_take l k hlt
        obtain ⟨⟨dk, dn, dl⟩, hd⟩ : ∃ d, l.getD k wd0 = d := ⟨_, rfl⟩
        rw [hd] at e0 e1 hti hst
        simp only at e0 e1 hti
        obtain ⟨ya, yc, rfl⟩ := hti.slice
        have HT := Lib.hid (And.intro hst hti)
        clear hst hti hd
        go_wp2_with fail
        refine (wrapped_nil dk dn _ dl wr HT.out.2).mono ?_
        rintro e w9 ⟨rfl, hE⟩
        have hb9 := bel_call hb hE
        have kB9 := kB.below hE kB.lt
        clear hb kB
        go_wp2
        go_roundw
        case rel => exact ⟨k + 1, by omega, by go_num, hb9, kB9, rfl⟩
        case measure => simp [intOf]; omega
      · obtain rfl : k = l.length := by omega
        go_wp2
        go_ret
        exact ⟨rfl, hb⟩
set_option maxHeartbeats 1000000 in
set_option maxRecDepth 20000 in
theorem made_own (ea : Nat → Addr) (s : ByteArray) (x : Value) (l : List WD) (w : World) (hK : Known w ea) (hx : Wrs w x l) :
    Calls Tryd.prog 7 #[.agg #[.int .i64 1, .string s, x]] w fun e w' => ∃ v a, e = .returned v ∧ ErrOf w' (wrs l) v a ∧ w.heap.size ≤ a.block ∧ Below w.heap.size w w' := by
  obtain ⟨xa, xc, rfl⟩ := hx.slice
  obtain ⟨x, hxe⟩ : ∃ x, Value.slice xa l.length xc = x := ⟨_, rfl⟩
  have hE0 : Ext w (w.alloc (.cells #[.int .i64 1, .string s, x] 24)) := by go_grown
  have kB := Blk.new w #[.int .i64 1, .string s, x] 24
  have hof := of_low 1 ea _ (hK.ext hE0).sent (by omega)
  subst hxe
  go_enter Tryd.func7, Tryd.ntmps7
  go_wp2_with fail
  refine hof.mono ?_
  rintro e w1 ⟨rfl, hE⟩
  have hb := bel_call hE0 hE
  replace kB := kB.below hE kB.lt
  clear hof hE
  have hq0 := kB.cell 0
  have hq1 := kB.cell 1
  have hnw := new_err s w1
  go_wp2_with fail
  refine hnw.mono ?_
  rintro e w2 ⟨rfl, herr, hE⟩
  have hba := hb.size
  replace hb := bel_call hb hE
  replace kB := kB.below hE kB.lt
  generalize hga : (⟨w1.heap.size, 0, none⟩ : Addr) = a at *
  have hab : w.heap.size ≤ a.block := by rw [← hga]; exact hba
  obtain ⟨c, hc⟩ : ∃ c : Int, c = 1 := ⟨_, rfl⟩
  rw [← hc] at kB
  clear hnw hE hq0 hq1 hga hba
  by_cases h0 : l.length = 0
  · obtain rfl := List.length_eq_zero_iff.1 h0
    obtain ⟨q0, q1, q2⟩ := And.intro (kB.cell 0) (And.intro (kB.cell 1) (kB.cell 2))
    go_wp2_with fail
    refine wp_loop_rounds 1 ?_
    rw [rounds_succ]
    go_wp2
    go_ret
    exact ⟨_, _, rfl, by simpa [wrs] using herr, hab, hb⟩
  · obtain ⟨_, ⟨_, e⟩ | ⟨ax, cx, hxe, hcx, hcx2, hel⟩⟩ := id hx
    · subst e; exact absurd rfl h0
    simp only [Value.slice.injEq, true_and] at hxe
    obtain ⟨rfl, rfl⟩ := hxe
    rcases hel with e | ⟨bx, ox, rfl, hbx, hel⟩
    · subst e; exact absurd rfl h0
    have h63 : l.length ≤ 140737488355328 := hx.1
    have HX := Lib.hid (And.intro hx hel)
    clear hx hel
    obtain ⟨q0, q1, q2⟩ := And.intro (kB.cell 0) (And.intro (kB.cell 1) (kB.cell 2))
    go_wp2_with fail
    go_loopw [3, 4] (fun v i wr => ∃ k : Nat, k ≤ l.length ∧ i = .int .i64 k ∧ Below w.heap.size w wr ∧ Blk wr w.heap.size #[.int .i64 c, .string s, .slice (some ⟨bx, ox, none⟩) l.length xc] 24 ∧ ErrOf wr (wrs (l.take k)) v a) (fun _ i _ => l.length - (intOf i).toNat)
    case atStart => exact ⟨0, Nat.zero_le _, rfl, hb, kB, by simpa [wrs] using herr⟩
    case round =>
      clear hb kB q0 q1 q2
      obtain ⟨k, hk, rfl, hb, kB, herr⟩ := hrel
      obtain ⟨q0, q1, q2⟩ := And.intro (kB.cell 0) (And.intro (kB.cell 1) (kB.cell 2))
      by_cases hlt : k < l.length
      · obtain ⟨e0, e1, xi, e2, hti⟩ := (HX.out.2 k hlt).ext hbx hb
        have hst := wrs_take l k hlt
        obtain ⟨⟨dk, dn, dl⟩, hd⟩ : ∃ d, l.getD k wd0 = d := ⟨_, rfl⟩
        rw [hd] at e0 e1 hti hst
        simp only at e0 e1 hti
        obtain ⟨ya, yc, rfl⟩ := hti.slice
        have HT := Lib.hid (And.intro hst hti)
        clear hst hti hd
        go_wp2_with fail
        refine (wrapped_err _ _ a dk dn _ dl wr herr HT.out.2).mono ?_
        rintro e w9 ⟨v', rfl, herr2, hE⟩
        have hb9 := bel_call hb hE
        have kB9 := kB.below hE kB.lt
        clear hb kB
        go_wp2
        go_roundw
        case rel => exact ⟨k + 1, by omega, by go_num, hb9, kB9, by rw [HT.out.1]; exact herr2⟩
        case measure => simp [intOf]; omega
      · obtain rfl : k = l.length := by omega
        go_wp2
        go_ret
        exact ⟨_, _, rfl, by simpa [wrs] using herr, hab, hb⟩
set_option maxHeartbeats 1000000 in
set_option maxRecDepth 20000 in
theorem made_some (ea : Nat → Addr) (j : Nat) (s : ByteArray) (x : Value) (l : List WD) (w : World) (hK : Known w ea) (hx : Wrs w x l) (hj : j < 16) :
    Calls Tryd.prog 7 #[.agg #[.int .i64 ((j : Int) + 2), .string s, x]] w fun e w' => ∃ v, e = .returned v ∧ ErrOf w' (wrs l) v (ea j) ∧ Below w.heap.size w w' := by
  obtain ⟨xa, xc, rfl⟩ := hx.slice
  obtain ⟨x, hxe⟩ : ∃ x, Value.slice xa l.length xc = x := ⟨_, rfl⟩
  have hE0 : Ext w (w.alloc (.cells #[.int .i64 ((j : Int) + 2), .string s, x] 24)) := by go_grown
  have kB := Blk.new w #[.int .i64 ((j : Int) + 2), .string s, x] 24
  have hof := of_some j ea _ (hK.ext hE0).sent hj
  obtain ⟨a, hga⟩ : ∃ a, ea j = a := ⟨_, rfl⟩
  rw [hga] at hof ⊢
  have hc1 : ((j : Int) + 2 == 1) = false := by simp; omega
  subst hxe
  go_enter Tryd.func7, Tryd.ntmps7
  go_wp2_with fail
  refine hof.mono ?_
  rintro e w1 ⟨rfl, hE⟩
  have hb := bel_call hE0 hE
  replace kB := kB.below hE kB.lt
  have herr := ErrOf.base ((hK.ext hb).sent.row j hj)
  rw [hga] at herr
  clear hga
  clear hof hE
  have hq0 := kB.cell 0
  go_wp2_with fail
  generalize (j : Int) + 2 = c at *
  clear hq0 hc1
  by_cases h0 : l.length = 0
  · obtain rfl := List.length_eq_zero_iff.1 h0
    obtain ⟨q0, q1, q2⟩ := And.intro (kB.cell 0) (And.intro (kB.cell 1) (kB.cell 2))
    go_wp2_with fail
    refine wp_loop_rounds 1 ?_
    rw [rounds_succ]
    go_wp2
    go_ret
    exact ⟨_, rfl, by simpa [wrs] using herr, hb⟩
  · obtain ⟨_, ⟨_, e⟩ | ⟨ax, cx, hxe, hcx, hcx2, hel⟩⟩ := id hx
    · subst e; exact absurd rfl h0
    simp only [Value.slice.injEq, true_and] at hxe
    obtain ⟨rfl, rfl⟩ := hxe
    rcases hel with e | ⟨bx, ox, rfl, hbx, hel⟩
    · subst e; exact absurd rfl h0
    have h63 : l.length ≤ 140737488355328 := hx.1
    have HX := Lib.hid (And.intro hx hel)
    clear hx hel
    obtain ⟨q0, q1, q2⟩ := And.intro (kB.cell 0) (And.intro (kB.cell 1) (kB.cell 2))
    go_wp2_with fail
    go_loopw [3, 4] (fun v i wr => ∃ k : Nat, k ≤ l.length ∧ i = .int .i64 k ∧ Below w.heap.size w wr ∧ Blk wr w.heap.size #[.int .i64 c, .string s, .slice (some ⟨bx, ox, none⟩) l.length xc] 24 ∧ ErrOf wr (wrs (l.take k)) v a) (fun _ i _ => l.length - (intOf i).toNat)
    case atStart => exact ⟨0, Nat.zero_le _, rfl, hb, kB, by simpa [wrs] using herr⟩
    case round =>
      clear hb kB q0 q1 q2
      obtain ⟨k, hk, rfl, hb, kB, herr⟩ := hrel
      obtain ⟨q0, q1, q2⟩ := And.intro (kB.cell 0) (And.intro (kB.cell 1) (kB.cell 2))
      by_cases hlt : k < l.length
      · obtain ⟨e0, e1, xi, e2, hti⟩ := (HX.out.2 k hlt).ext hbx hb
        have hst := wrs_take l k hlt
        obtain ⟨⟨dk, dn, dl⟩, hd⟩ : ∃ d, l.getD k wd0 = d := ⟨_, rfl⟩
        rw [hd] at e0 e1 hti hst
        simp only at e0 e1 hti
        obtain ⟨ya, yc, rfl⟩ := hti.slice
        have HT := Lib.hid (And.intro hst hti)
        clear hst hti hd
        go_wp2_with fail
        refine (wrapped_err _ _ a dk dn _ dl wr herr HT.out.2).mono ?_
        rintro e w9 ⟨v', rfl, herr2, hE⟩
        have hb9 := bel_call hb hE
        have kB9 := kB.below hE kB.lt
        clear hb kB
        go_wp2
        go_roundw
        case rel => exact ⟨k + 1, by omega, by go_num, hb9, kB9, by rw [HT.out.1]; exact herr2⟩
        case measure => simp [intOf]; omega
      · obtain rfl : k = l.length := by omega
        go_wp2
        go_ret
        exact ⟨_, rfl, by simpa [wrs] using herr, hb⟩
end Go.Proofs.YtoagkgdjekbcmaaDoor
