/- A lexeme is read. -/
import Derived.Test.YtnecafokkhhhhaaDoorLu
import Derived.Test.YtnecafokkhhhhaaDoorQuo
import Derived.Deep.CutBlock
import Derived.Deep.CutRange
namespace Go.Proofs.YtnecafokkhhhhaaDoor
open Go Go.RowKit
/-- What 'read' answers. -/
def LdEnd (w w' : World) (es ed : Addr) (e : Ending) : Sum (Bool × Nat) Lxm → Prop
  | .inl (b, q) => ∃ (kd a en : Int) (T : ByteArray) (n x0 x1 x2 x3 : Int) (v : Value), e = .returned (.tuple #[.agg (lcs kd a en T n x0 x1 x2 x3), v]) ∧ Placed w' v (if b = true then ed else es) (q : Int) ∧ Ext w w'
  | .inr y => e = .returned (.tuple #[.agg (lcs (y.kind : Int) (y.a : Int) (y.e : Int) ⟨y.t.toArray⟩ (y.n : Int) (wd y.S 0) (wd y.S 1) (wd y.S 2) (wd y.S 3)), .nilIface]) ∧ Ext w w'
theorem extract_take (s : ByteArray) (k n : Nat) : s.extract k (k + n) = ⟨((rest s k).take n).toArray⟩ := by
  have h := ext_lst s k n
  apply ByteArray.ext
  apply Array.toList_inj.1
  rw [h]
theorem dot_set : prs ⟨#[91, 94, 92, 110, 93]⟩ 0 = .inr (sDot, 5) := by decide +kernel
theorem Placed.one9 {w : World} {v : Value} {a : Addr} {n : Int} (h : Placed w v a n) {b : Nat} {cs : Array Value} {t : TypeId} (hB : Blk w b cs t) (o : Nat) (x : Value) (hc : 3 ≤ cs.size := by simp) : Placed (w.setCell ⟨b, o, none⟩ x) v a n := by
  obtain ⟨p, tp, hv, hP, hlp⟩ := h
  have hne : b ≠ p := by
    intro e
    subst e
    have h1 := hP.symm.trans hB
    simp only [Option.some.injEq, Obj.cells.injEq] at h1
    rw [← h1.1] at hc
    simp at hc
  exact ⟨p, tp, hv, hP.set_other (a := ⟨b, o, none⟩) hne x, hlp⟩
theorem mkl_le (c : Nat) (t : List UInt8) : mkl c t ≤ t.length + 1 := by
  unfold mkl
  split
  · split
    · rename_i h
      have := (List.isPrefixOf_iff_prefix.1 h).length_le
      simp at this
      omega
    · omega
  · split <;> omega
set_option maxHeartbeats 16000000 in
set_option maxRecDepth 20000 in
theorem lread_any (c : Nat) (s : ByteArray) (k : Nat) (hk : k < s.size) (hs : s.size ≤ 4294967000) (es ed : Addr) (w : World) (hK : Kn w es ed) (x : Sum (Bool × Nat) Lxm) (hx : oneR c (rest s k) k = x) :
    Calls Tryd.prog 10 #[.string s, .int .i64 (k : Int), .int .i32 (c : Int)] w fun e w' => LdEnd w w' es ed e x := by
  have hrk := rest_len (Nat.le_of_lt hk)
  obtain ⟨b1, hb1⟩ : ∃ b, blnk c = b := ⟨_, rfl⟩
  obtain ⟨b2, hb2⟩ : ∃ b, ltr c = b := ⟨_, rfl⟩
  obtain ⟨b3, hb3⟩ : ∃ b, dgt c = b := ⟨_, rfl⟩
  have HBK := Lib.hid (fun w => blank_any c b1 hb1 w)
  have HBN := Lib.hid (fun w => begins_any c b2 hb2 w)
  have HBD := Lib.hid (fun w => digit_any c b3 hb3 w)
  unfold oneR at hx
  rw [hb1, hb2, hb3] at hx
  have HX := Lib.hid hx
  have HK := Lib.hid hK
  have HB0 := Lib.hid (Blk.new w (lcs 0 k ((k : Int) + 1) ⟨#[]⟩ 0 0 0 0 0) 32)
  have HE0 := Lib.hid (show Ext w (w.alloc (.cells (lcs 0 k ((k : Int) + 1) ⟨#[]⟩ 0 0 0 0 0) 32)) from by go_grown)
  clear hb1 hb2 hb3 hx hK
  go_enter Tryd.func10, Tryd.ntmps10
  go_wp2_with fail
  refine (HBK.out _).mono ?_
  rintro e w1 ⟨rfl, hx⟩
  have HB := Lib.hid (HB0.out.ext hx)
  have HE := Lib.hid (bel_call HE0.out hx)
  clear hx HB0 HE0 HBK
  cases b1 with
  | true =>
    have hx1 := HX.out
    rw [if_pos rfl] at hx1
    have HXX := Lib.hid hx1
    clear hx1
    have EZ := Lib.hid (ext_set9 HE.out (Nat.le_refl _) (.int .i64 (0)) (.int .i64 ((k : Int))) (.int .i64 ((k : Int) + 1)) (.string ⟨#[]⟩) (.int .i64 (0)) (.int .u64 (0)) (.int .u64 (0)) (.int .u64 (0)) (.int .u64 (0)))
    have kb := HB.out
    have z0 := kb.cell 0
    have f0 := kb.free 0
    have z1 := kb.cell 1
    have f1 := kb.free 1
    have z2 := kb.cell 2
    have f2 := kb.free 2
    have z3 := kb.cell 3
    have f3 := kb.free 3
    have z4 := kb.cell 4
    have f4 := kb.free 4
    have z5 := kb.cell 5
    have f5 := kb.free 5
    have z6 := kb.cell 6
    have f6 := kb.free 6
    have z7 := kb.cell 7
    have f7 := kb.free 7
    have z8 := kb.cell 8
    have f8 := kb.free 8
    have hltb := kb.lt
    have kz := Lib.hid (((((((((kb.set 0 (.int .i64 (0))).set 1 (.int .i64 ((k : Int)))).set 2 (.int .i64 ((k : Int) + 1))).set 3 (.string ⟨#[]⟩)).set 4 (.int .i64 (0))).set 5 (.int .u64 (0))).set 6 (.int .u64 (0))).set 7 (.int .u64 (0))).set 8 (.int .u64 (0)))
    clear kb
    go_wp2_with fail
    have y0 := kz.out.cell 0
    have y1 := kz.out.cell 1
    have y2 := kz.out.cell 2
    have y3 := kz.out.cell 3
    have y4 := kz.out.cell 4
    have y5 := kz.out.cell 5
    have y6 := kz.out.cell 6
    have y7 := kz.out.cell 7
    have y8 := kz.out.cell 8
    refine bodyPost_ret (v := .tuple #[.agg (lcs (0) ((k : Int)) ((k : Int) + 1) ⟨#[]⟩ (0) (0) (0) (0) (0)), .nilIface]) ?_ rfl ?_
    · simp [results, Tryd.results10, go_sem, y0, y1, y2, y3, y4, y5, y6, y7, y8]
    · rw [← HXX.out]; exact ⟨by simp only [wd_zero]; rfl, EZ.out⟩
  | false =>
    by_cases h35 : c = 35
    · have d35 : ((c : Int) == 35) = true := by simp; omega
      obtain ⟨n, hn⟩ : ∃ n, run rmk (rest s k) = n := ⟨_, rfl⟩
      have HRN := Lib.hid (fun w => run_remark (s.extract k s.size) n (by rw [rest_ext]; exact hn) w)
      have hx1 := HX.out
      rw [if_neg (by simp), if_pos h35, hn] at hx1
      have HXX := Lib.hid hx1
      have hnl := run_le rmk (rest s k)
      rw [hn] at hnl
      clear hx1 hn h35
      go_wp2_with fail
      refine (HRN.out _).mono ?_
      rintro e w2 ⟨rfl, hx⟩
      have hb := HB.out.ext hx
      have HE2 := Lib.hid (bel_call HE.out hx)
      have c2 := hb.cell 2
      have g2 := hb.free 2
      have hlb := hb.lt
      have HB2 := Lib.hid (hb.set 2 (.int .i64 ((k : Int) + n)))
      have HE3 := Lib.hid (HE2.out.setCell (p := ⟨w.heap.size, 2, none⟩) (Nat.le_refl _) (.int .i64 ((k : Int) + n)))
      clear hx hb HB HE HE2 HRN
      have EZ := Lib.hid (ext_set9 HE3.out (Nat.le_refl _) (.int .i64 (0)) (.int .i64 ((k : Int))) (.int .i64 ((k : Int) + n)) (.string ⟨#[]⟩) (.int .i64 (0)) (.int .u64 (0)) (.int .u64 (0)) (.int .u64 (0)) (.int .u64 (0)))
      have kb := HB2.out
      have z0 := kb.cell 0
      have f0 := kb.free 0
      have z1 := kb.cell 1
      have f1 := kb.free 1
      have z2 := kb.cell 2
      have f2 := kb.free 2
      have z3 := kb.cell 3
      have f3 := kb.free 3
      have z4 := kb.cell 4
      have f4 := kb.free 4
      have z5 := kb.cell 5
      have f5 := kb.free 5
      have z6 := kb.cell 6
      have f6 := kb.free 6
      have z7 := kb.cell 7
      have f7 := kb.free 7
      have z8 := kb.cell 8
      have f8 := kb.free 8
      have hltb := kb.lt
      have kz := Lib.hid (((((((((kb.set 0 (.int .i64 (0))).set 1 (.int .i64 ((k : Int)))).set 2 (.int .i64 ((k : Int) + n))).set 3 (.string ⟨#[]⟩)).set 4 (.int .i64 (0))).set 5 (.int .u64 (0))).set 6 (.int .u64 (0))).set 7 (.int .u64 (0))).set 8 (.int .u64 (0)))
      clear kb
      go_wp2_with fail
      have y0 := kz.out.cell 0
      have y1 := kz.out.cell 1
      have y2 := kz.out.cell 2
      have y3 := kz.out.cell 3
      have y4 := kz.out.cell 4
      have y5 := kz.out.cell 5
      have y6 := kz.out.cell 6
      have y7 := kz.out.cell 7
      have y8 := kz.out.cell 8
      refine bodyPost_ret (v := .tuple #[.agg (lcs (0) ((k : Int)) ((k : Int) + n) ⟨#[]⟩ (0) (0) (0) (0) (0)), .nilIface]) ?_ rfl ?_
      · simp [results, Tryd.results10, go_sem, y0, y1, y2, y3, y4, y5, y6, y7, y8]
      · rw [← HXX.out]; exact ⟨by simp only [wd_zero]; rfl, EZ.out⟩
    by_cases h10 : c = 10
    · have d35 : ((c : Int) == 35) = false := by simp; omega
      have d10 : ((c : Int) == 10) = true := by simp; omega
      have hx1 := HX.out
      rw [if_neg (by simp), if_neg h35, if_pos h10] at hx1
      have HXX := Lib.hid hx1
      have hb := HB.out
      have c0 := hb.cell 0
      have g0 := hb.free 0
      have hlb := hb.lt
      have HB2 := Lib.hid (hb.set 0 (.int .i64 6))
      have HE3 := Lib.hid (HE.out.setCell (p := ⟨w.heap.size, 0, none⟩) (Nat.le_refl _) (.int .i64 6))
      clear hx1 h10 hb HB HE
      have EZ := Lib.hid (ext_set9 HE3.out (Nat.le_refl _) (.int .i64 (6)) (.int .i64 ((k : Int))) (.int .i64 ((k : Int) + 1)) (.string ⟨#[]⟩) (.int .i64 (0)) (.int .u64 (0)) (.int .u64 (0)) (.int .u64 (0)) (.int .u64 (0)))
      have kb := HB2.out
      have z0 := kb.cell 0
      have f0 := kb.free 0
      have z1 := kb.cell 1
      have f1 := kb.free 1
      have z2 := kb.cell 2
      have f2 := kb.free 2
      have z3 := kb.cell 3
      have f3 := kb.free 3
      have z4 := kb.cell 4
      have f4 := kb.free 4
      have z5 := kb.cell 5
      have f5 := kb.free 5
      have z6 := kb.cell 6
      have f6 := kb.free 6
      have z7 := kb.cell 7
      have f7 := kb.free 7
      have z8 := kb.cell 8
      have f8 := kb.free 8
      have hltb := kb.lt
      have kz := Lib.hid (((((((((kb.set 0 (.int .i64 (6))).set 1 (.int .i64 ((k : Int)))).set 2 (.int .i64 ((k : Int) + 1))).set 3 (.string ⟨#[]⟩)).set 4 (.int .i64 (0))).set 5 (.int .u64 (0))).set 6 (.int .u64 (0))).set 7 (.int .u64 (0))).set 8 (.int .u64 (0)))
      clear kb
      go_wp2_with fail
      have y0 := kz.out.cell 0
      have y1 := kz.out.cell 1
      have y2 := kz.out.cell 2
      have y3 := kz.out.cell 3
      have y4 := kz.out.cell 4
      have y5 := kz.out.cell 5
      have y6 := kz.out.cell 6
      have y7 := kz.out.cell 7
      have y8 := kz.out.cell 8
      refine bodyPost_ret (v := .tuple #[.agg (lcs (6) ((k : Int)) ((k : Int) + 1) ⟨#[]⟩ (0) (0) (0) (0) (0)), .nilIface]) ?_ rfl ?_
      · simp [results, Tryd.results10, go_sem, y0, y1, y2, y3, y4, y5, y6, y7, y8]
      · rw [← HXX.out]; exact ⟨by simp only [wd_zero]; rfl, EZ.out⟩
    have d35 : ((c : Int) == 35) = false := by simp; omega
    have d10 : ((c : Int) == 10) = false := by simp; omega
    have hx1 := HX.out
    rw [if_neg (by simp), if_neg h35, if_neg h10] at hx1
    have HX := Lib.hid hx1
    clear hx1
    go_wp2_with fail
    refine (HBN.out _).mono ?_
    rintro e w2 ⟨rfl, hx⟩
    have HB2 := Lib.hid (HB.out.ext hx)
    have HE2 := Lib.hid (bel_call HE.out hx)
    clear hx HB HE HBN d35 d10
    cases b2 with
    | true =>
      obtain ⟨n, hn⟩ : ∃ n, run nmc (rest s k) = n := ⟨_, rfl⟩
      have hx1 := HX.out
      rw [if_pos rfl, hn] at hx1
      have hnl := run_le nmc (rest s k)
      rw [hn] at hnl
      by_cases h32 : 32 < n
      · rw [if_pos h32] at hx1
        have HXX := Lib.hid hx1
        have HN := Lib.hid (fun w hK => lname_no s k n (Nat.le_of_lt hk) hn h32 es ed w hK)
        clear hx1 hn
        go_wp2_with fail
        refine (HN.out _ (HK.out.ext HE2.out)).mono ?_
        rintro e w3 ⟨v, rfl, hP, hx⟩
        have HB3 := Lib.hid (HB2.out.ext hx)
        have HE3 := Lib.hid (bel_call HE2.out hx)
        have HP := Lib.hid (hP.own9 HB3.out (.int .i64 0) (.int .i64 0) (.int .i64 0) (.string ⟨#[]⟩) (.int .i64 0) (.int .u64 0) (.int .u64 0) (.int .u64 0) (.int .u64 0))
        clear hx hP HB2 HE2 HN
        have EZ := Lib.hid (ext_set9 HE3.out (Nat.le_refl _) (.int .i64 (0)) (.int .i64 (0)) (.int .i64 (0)) (.string ⟨#[]⟩) (.int .i64 (0)) (.int .u64 (0)) (.int .u64 (0)) (.int .u64 (0)) (.int .u64 (0)))
        have kb := HB3.out
        have z0 := kb.cell 0
        have f0 := kb.free 0
        have z1 := kb.cell 1
        have f1 := kb.free 1
        have z2 := kb.cell 2
        have f2 := kb.free 2
        have z3 := kb.cell 3
        have f3 := kb.free 3
        have z4 := kb.cell 4
        have f4 := kb.free 4
        have z5 := kb.cell 5
        have f5 := kb.free 5
        have z6 := kb.cell 6
        have f6 := kb.free 6
        have z7 := kb.cell 7
        have f7 := kb.free 7
        have z8 := kb.cell 8
        have f8 := kb.free 8
        have hltb := kb.lt
        have kz := Lib.hid (((((((((kb.set 0 (.int .i64 (0))).set 1 (.int .i64 (0))).set 2 (.int .i64 (0))).set 3 (.string ⟨#[]⟩)).set 4 (.int .i64 (0))).set 5 (.int .u64 (0))).set 6 (.int .u64 (0))).set 7 (.int .u64 (0))).set 8 (.int .u64 (0)))
        clear kb
        go_wp2_with fail
        have y0 := kz.out.cell 0
        have y1 := kz.out.cell 1
        have y2 := kz.out.cell 2
        have y3 := kz.out.cell 3
        have y4 := kz.out.cell 4
        have y5 := kz.out.cell 5
        have y6 := kz.out.cell 6
        have y7 := kz.out.cell 7
        have y8 := kz.out.cell 8
        refine bodyPost_ret (v := .tuple #[.agg (lcs (0) (0) (0) ⟨#[]⟩ (0) (0) (0) (0) (0)), v]) ?_ rfl ?_
        · simp [results, Tryd.results10, go_sem, y0, y1, y2, y3, y4, y5, y6, y7, y8]
        · rw [← HXX.out]; exact ⟨0, 0, 0, ⟨#[]⟩, 0, 0, 0, 0, 0, v, rfl, HP.out, EZ.out⟩
      · rw [if_neg h32] at hx1
        have HXX := Lib.hid hx1
        have HN := Lib.hid (fun w => lname_ok s k n (Nat.le_of_lt hk) hs hn (by omega) w)
        clear hx1 hn
        go_wp2_with fail
        refine (HN.out _).mono ?_
        rintro e w3 ⟨rfl, hx⟩
        have HB3 := Lib.hid (HB2.out.ext hx)
        have HE3 := Lib.hid (bel_call HE2.out hx)
        clear hx HB2 HE2 HN
        have EZ := Lib.hid (ext_set9 HE3.out (Nat.le_refl _) (.int .i64 (1)) (.int .i64 ((k : Int))) (.int .i64 ((k : Int) + n)) (.string (s.extract k (k + n))) (.int .i64 (0)) (.int .u64 (0)) (.int .u64 (0)) (.int .u64 (0)) (.int .u64 (0)))
        have kb := HB3.out
        have z0 := kb.cell 0
        have f0 := kb.free 0
        have z1 := kb.cell 1
        have f1 := kb.free 1
        have z2 := kb.cell 2
        have f2 := kb.free 2
        have z3 := kb.cell 3
        have f3 := kb.free 3
        have z4 := kb.cell 4
        have f4 := kb.free 4
        have z5 := kb.cell 5
        have f5 := kb.free 5
        have z6 := kb.cell 6
        have f6 := kb.free 6
        have z7 := kb.cell 7
        have f7 := kb.free 7
        have z8 := kb.cell 8
        have f8 := kb.free 8
        have hltb := kb.lt
        have kz := Lib.hid (((((((((kb.set 0 (.int .i64 (1))).set 1 (.int .i64 ((k : Int)))).set 2 (.int .i64 ((k : Int) + n))).set 3 (.string (s.extract k (k + n)))).set 4 (.int .i64 (0))).set 5 (.int .u64 (0))).set 6 (.int .u64 (0))).set 7 (.int .u64 (0))).set 8 (.int .u64 (0)))
        clear kb
        go_wp2_with fail
        have y0 := kz.out.cell 0
        have y1 := kz.out.cell 1
        have y2 := kz.out.cell 2
        have y3 := kz.out.cell 3
        have y4 := kz.out.cell 4
        have y5 := kz.out.cell 5
        have y6 := kz.out.cell 6
        have y7 := kz.out.cell 7
        have y8 := kz.out.cell 8
        refine bodyPost_ret (v := .tuple #[.agg (lcs (1) ((k : Int)) ((k : Int) + n) (s.extract k (k + n)) (0) (0) (0) (0) (0)), .nilIface]) ?_ rfl ?_
        · simp [results, Tryd.results10, go_sem, y0, y1, y2, y3, y4, y5, y6, y7, y8]
        · rw [← HXX.out]; exact ⟨by rw [extract_take]; simp only [wd_zero]; rfl, EZ.out⟩
    | false =>
      have hx1 := HX.out
      rw [if_neg (by simp)] at hx1
      have HX := Lib.hid hx1
      clear hx1
      go_wp2_with fail
      refine (HBD.out _).mono ?_
      rintro e w3 ⟨rfl, hx⟩
      have HB3 := Lib.hid (HB2.out.ext hx)
      have HE3 := Lib.hid (bel_call HE2.out hx)
      clear hx HB2 HE2 HBD
      cases b3 with
      | true =>
        obtain ⟨n, hn⟩ : ∃ n, run dgt (rest s k) = n := ⟨_, rfl⟩
        have hx1 := HX.out
        rw [if_pos rfl, hn] at hx1
        have HN := fun w => lnum_any s k n (Nat.le_of_lt hk) hs hn w
        obtain ⟨M, hM⟩ : ∃ M, num ((rest s k).take n) = M := ⟨_, rfl⟩
        rw [hM] at hx1 HN
        have HXX := Lib.hid hx1
        replace HN := Lib.hid HN
        clear hx1 hn hM
        go_wp2_with fail
        refine (HN.out _).mono ?_
        rintro e w4 ⟨rfl, hx⟩
        have HB4 := Lib.hid (HB3.out.ext hx)
        have HE4 := Lib.hid (bel_call HE3.out hx)
        clear hx HB3 HE3 HN
        have EZ := Lib.hid (ext_set9 HE4.out (Nat.le_refl _) (.int .i64 (2)) (.int .i64 ((k : Int))) (.int .i64 ((k : Int) + n)) (.string ⟨#[]⟩) (.int .i64 ((M : Int))) (.int .u64 (0)) (.int .u64 (0)) (.int .u64 (0)) (.int .u64 (0)))
        have kb := HB4.out
        have z0 := kb.cell 0
        have f0 := kb.free 0
        have z1 := kb.cell 1
        have f1 := kb.free 1
        have z2 := kb.cell 2
        have f2 := kb.free 2
        have z3 := kb.cell 3
        have f3 := kb.free 3
        have z4 := kb.cell 4
        have f4 := kb.free 4
        have z5 := kb.cell 5
        have f5 := kb.free 5
        have z6 := kb.cell 6
        have f6 := kb.free 6
        have z7 := kb.cell 7
        have f7 := kb.free 7
        have z8 := kb.cell 8
        have f8 := kb.free 8
        have hltb := kb.lt
        have kz := Lib.hid (((((((((kb.set 0 (.int .i64 (2))).set 1 (.int .i64 ((k : Int)))).set 2 (.int .i64 ((k : Int) + n))).set 3 (.string ⟨#[]⟩)).set 4 (.int .i64 ((M : Int)))).set 5 (.int .u64 (0))).set 6 (.int .u64 (0))).set 7 (.int .u64 (0))).set 8 (.int .u64 (0)))
        clear kb
        go_wp2_with fail
        have y0 := kz.out.cell 0
        have y1 := kz.out.cell 1
        have y2 := kz.out.cell 2
        have y3 := kz.out.cell 3
        have y4 := kz.out.cell 4
        have y5 := kz.out.cell 5
        have y6 := kz.out.cell 6
        have y7 := kz.out.cell 7
        have y8 := kz.out.cell 8
        refine bodyPost_ret (v := .tuple #[.agg (lcs (2) ((k : Int)) ((k : Int) + n) ⟨#[]⟩ ((M : Int)) (0) (0) (0) (0)), .nilIface]) ?_ rfl ?_
        · simp [results, Tryd.results10, go_sem, y0, y1, y2, y3, y4, y5, y6, y7, y8]
        · rw [← HXX.out]; exact ⟨by simp only [wd_zero]; rfl, EZ.out⟩
      | false =>
        have hx1 := HX.out
        rw [if_neg (by simp)] at hx1
        have hb := HB3.out
        have c0 := hb.cell 0
        have g0 := hb.free 0
        have hlb := hb.lt
        by_cases h34 : c = 34
        · have d34 : ((c : Int) == 34) = true := by simp; omega
          rw [if_pos h34] at hx1
          have hps : pos s (k : Int) = k := by unfold pos; rw [if_neg (by omega)]; omega
          obtain ⟨z, hz⟩ : ∃ z, quq unq (rest s k) k = z := ⟨_, rfl⟩
          have HU := Lib.hid (fun w hK => unquote_any s (k : Int) es ed hs w hK z (by unfold uqs; rw [hps]; exact hz))
          rw [hz] at hx1
          have HXX := Lib.hid hx1
          have HB5 := Lib.hid (hb.set 0 (.int .i64 3))
          have HE5 := Lib.hid (HE3.out.setCell (p := ⟨w.heap.size, 0, none⟩) (Nat.le_refl _) (.int .i64 3))
          clear hx1 hz h34 hps hb HB3 HX
          go_wp2_with fail
          clear c0 g0 hlb
          generalize w3.setCell ⟨w.heap.size, 0, none⟩ (.int .i64 3) = w5 at HB5 HE5 ⊢
          refine (HU.out _ (HK.out.ext HE5.out)).mono ?_
          rintro e w6 hres
          clear HU HE3
          cases z with
          | inl q =>
            obtain ⟨v, rfl, hP, hx⟩ := hres
            have hb := HB5.out.ext hx
            have c3 := hb.cell 3
            have g3 := hb.free 3
            have hlb := hb.lt
            have hb2 := hb.set 3 (.string ⟨#[]⟩)
            have c2 := hb2.cell 2
            have g2 := hb2.free 2
            have hlb2 := hb2.lt
            have HB6 := Lib.hid (hb2.set 2 (.int .i64 0))
            have HE6 := Lib.hid (((bel_call HE5.out hx).setCell (p := ⟨w.heap.size, 3, none⟩) (Nat.le_refl _) (.string ⟨#[]⟩)).setCell (p := ⟨w.heap.size, 2, none⟩) (Nat.le_refl _) (.int .i64 0))
            have HP0 := Lib.hid ((hP.one9 hb 3 (.string ⟨#[]⟩)).one9 hb2 2 (.int .i64 0))
            clear hb hb2
            go_upto_region 21 with fail
            generalize (w6.setCell ⟨w.heap.size, 3, none⟩ (.string ⟨#[]⟩)).setCell ⟨w.heap.size, 2, none⟩ (.int .i64 0) = wz at *
            clear c2 c3 g2 g3 hlb hlb2
            have HP := Lib.hid (HP0.out.own9 HB6.out (.int .i64 3) (.int .i64 (k : Int)) (.int .i64 0) (.string ⟨#[]⟩) (.int .i64 0) (.int .u64 0) (.int .u64 0) (.int .u64 0) (.int .u64 0))
            clear hx hP HB5 HE5 HP0
            have EZ := Lib.hid (ext_set9 HE6.out (Nat.le_refl _) (.int .i64 (3)) (.int .i64 ((k : Int))) (.int .i64 (0)) (.string ⟨#[]⟩) (.int .i64 (0)) (.int .u64 (0)) (.int .u64 (0)) (.int .u64 (0)) (.int .u64 (0)))
            have kb := HB6.out
            have z0 := kb.cell 0
            have f0 := kb.free 0
            have z1 := kb.cell 1
            have f1 := kb.free 1
            have z2 := kb.cell 2
            have f2 := kb.free 2
            have z3 := kb.cell 3
            have f3 := kb.free 3
            have z4 := kb.cell 4
            have f4 := kb.free 4
            have z5 := kb.cell 5
            have f5 := kb.free 5
            have z6 := kb.cell 6
            have f6 := kb.free 6
            have z7 := kb.cell 7
            have f7 := kb.free 7
            have z8 := kb.cell 8
            have f8 := kb.free 8
            have hltb := kb.lt
            have kz := Lib.hid (((((((((kb.set 0 (.int .i64 (3))).set 1 (.int .i64 ((k : Int)))).set 2 (.int .i64 (0))).set 3 (.string ⟨#[]⟩)).set 4 (.int .i64 (0))).set 5 (.int .u64 (0))).set 6 (.int .u64 (0))).set 7 (.int .u64 (0))).set 8 (.int .u64 (0)))
            clear kb
            go_wp2_with fail
            have y0 := kz.out.cell 0
            have y1 := kz.out.cell 1
            have y2 := kz.out.cell 2
            have y3 := kz.out.cell 3
            have y4 := kz.out.cell 4
            have y5 := kz.out.cell 5
            have y6 := kz.out.cell 6
            have y7 := kz.out.cell 7
            have y8 := kz.out.cell 8
            refine bodyPost_ret (v := .tuple #[.agg (lcs (3) ((k : Int)) (0) ⟨#[]⟩ (0) (0) (0) (0) (0)), v]) ?_ rfl ?_
            · simp [results, Tryd.results10, go_sem, y0, y1, y2, y3, y4, y5, y6, y7, y8]
            · rw [← HXX.out]; exact ⟨3, k, 0, ⟨#[]⟩, 0, 0, 0, 0, 0, v, rfl, HP.out, EZ.out⟩
          | inr Am =>
            obtain ⟨A, m⟩ := Am
            obtain ⟨rfl, hx⟩ := hres
            have hb := HB5.out.ext hx
            have c3 := hb.cell 3
            have g3 := hb.free 3
            have hlb := hb.lt
            have hb2 := hb.set 3 (.string ⟨A.toArray⟩)
            have c2 := hb2.cell 2
            have g2 := hb2.free 2
            have hlb2 := hb2.lt
            have HB6 := Lib.hid (hb2.set 2 (.int .i64 (m : Int)))
            have HE6 := Lib.hid (((bel_call HE5.out hx).setCell (p := ⟨w.heap.size, 3, none⟩) (Nat.le_refl _) (.string ⟨A.toArray⟩)).setCell (p := ⟨w.heap.size, 2, none⟩) (Nat.le_refl _) (.int .i64 (m : Int)))
            clear hb hb2
            go_upto_region 21 with fail
            generalize (w6.setCell ⟨w.heap.size, 3, none⟩ (.string ⟨A.toArray⟩)).setCell ⟨w.heap.size, 2, none⟩ (.int .i64 (m : Int)) = wz at *
            clear c2 c3 g2 g3 hlb hlb2
            clear hx HB5 HE5
            have EZ := Lib.hid (ext_set9 HE6.out (Nat.le_refl _) (.int .i64 (3)) (.int .i64 ((k : Int))) (.int .i64 ((m : Int))) (.string ⟨A.toArray⟩) (.int .i64 (0)) (.int .u64 (0)) (.int .u64 (0)) (.int .u64 (0)) (.int .u64 (0)))
            have kb := HB6.out
            have z0 := kb.cell 0
            have f0 := kb.free 0
            have z1 := kb.cell 1
            have f1 := kb.free 1
            have z2 := kb.cell 2
            have f2 := kb.free 2
            have z3 := kb.cell 3
            have f3 := kb.free 3
            have z4 := kb.cell 4
            have f4 := kb.free 4
            have z5 := kb.cell 5
            have f5 := kb.free 5
            have z6 := kb.cell 6
            have f6 := kb.free 6
            have z7 := kb.cell 7
            have f7 := kb.free 7
            have z8 := kb.cell 8
            have f8 := kb.free 8
            have hltb := kb.lt
            have kz := Lib.hid (((((((((kb.set 0 (.int .i64 (3))).set 1 (.int .i64 ((k : Int)))).set 2 (.int .i64 ((m : Int)))).set 3 (.string ⟨A.toArray⟩)).set 4 (.int .i64 (0))).set 5 (.int .u64 (0))).set 6 (.int .u64 (0))).set 7 (.int .u64 (0))).set 8 (.int .u64 (0)))
            clear kb
            go_wp2_with fail
            have y0 := kz.out.cell 0
            have y1 := kz.out.cell 1
            have y2 := kz.out.cell 2
            have y3 := kz.out.cell 3
            have y4 := kz.out.cell 4
            have y5 := kz.out.cell 5
            have y6 := kz.out.cell 6
            have y7 := kz.out.cell 7
            have y8 := kz.out.cell 8
            refine bodyPost_ret (v := .tuple #[.agg (lcs (3) ((k : Int)) ((m : Int)) ⟨A.toArray⟩ (0) (0) (0) (0) (0)), .nilIface]) ?_ rfl ?_
            · simp [results, Tryd.results10, go_sem, y0, y1, y2, y3, y4, y5, y6, y7, y8]
            · rw [← HXX.out]; exact ⟨by simp only [wd_zero]; rfl, EZ.out⟩
        have d34 : ((c : Int) == 34) = false := by simp; omega
        rw [if_neg h34] at hx1
        by_cases h91 : c = 91
        · have d91 : ((c : Int) == 91) = true := by simp; omega
          rw [if_pos h91] at hx1
          have hps : pos s (k : Int) = k := by unfold pos; rw [if_neg (by omega)]; omega
          obtain ⟨z, hz⟩ : ∃ z, cls unq ((rest s k).length + 1) 0 (rest s k) k = z := ⟨_, rfl⟩
          have HU := Lib.hid (fun w hK => parse_any s (k : Int) es ed hs w hK z (by unfold prs; rw [hps]; exact hz))
          rw [hz] at hx1
          have HXX := Lib.hid hx1
          have HB5 := Lib.hid (hb.set 0 (.int .i64 4))
          have HE5 := Lib.hid (HE3.out.setCell (p := ⟨w.heap.size, 0, none⟩) (Nat.le_refl _) (.int .i64 4))
          clear hx1 hz h91 hps hb HB3 HX
          go_wp2_with fail
          clear c0 g0 hlb
          generalize w3.setCell ⟨w.heap.size, 0, none⟩ (.int .i64 4) = w5 at HB5 HE5 ⊢
          refine (HU.out _ (HK.out.ext HE5.out)).mono ?_
          rintro e w6 hres
          clear HU HE3
          cases z with
          | inl bq =>
            obtain ⟨b, q⟩ := bq
            obtain ⟨v, rfl, hP, hx⟩ := hres
            have hb := HB5.out.ext hx
            have c5 := hb.cell 5
            have g5 := hb.free 5
            have hlb := hb.lt
            have hb5 := hb.set 5 (.int .u64 (0))
            have c6 := hb5.cell 6
            have g6 := hb5.free 6
            have hlb5 := hb5.lt
            have hb6 := hb5.set 6 (.int .u64 (0))
            have c7 := hb6.cell 7
            have g7 := hb6.free 7
            have hlb6 := hb6.lt
            have hb7 := hb6.set 7 (.int .u64 (0))
            have c8 := hb7.cell 8
            have g8 := hb7.free 8
            have hlb7 := hb7.lt
            have hb8 := hb7.set 8 (.int .u64 (0))
            have c2 := hb8.cell 2
            have g2 := hb8.free 2
            have hlb8 := hb8.lt
            have HB6 := Lib.hid (hb8.set 2 (.int .i64 (0)))
            have HE6 := Lib.hid ((((((bel_call HE5.out hx).setCell (p := ⟨w.heap.size, 5, none⟩) (Nat.le_refl _) (.int .u64 (0))).setCell (p := ⟨w.heap.size, 6, none⟩) (Nat.le_refl _) (.int .u64 (0))).setCell (p := ⟨w.heap.size, 7, none⟩) (Nat.le_refl _) (.int .u64 (0))).setCell (p := ⟨w.heap.size, 8, none⟩) (Nat.le_refl _) (.int .u64 (0))).setCell (p := ⟨w.heap.size, 2, none⟩) (Nat.le_refl _) (.int .i64 (0)))
            clear hb5 hb6 hb7 hb8
            have HP0 := Lib.hid (((((hP.one9 hb 5 (.int .u64 0)).one9 (hb.set 5 (.int .u64 0)) 6 (.int .u64 0)).one9 ((hb.set 5 (.int .u64 0)).set 6 (.int .u64 0)) 7 (.int .u64 0)).one9 (((hb.set 5 (.int .u64 0)).set 6 (.int .u64 0)).set 7 (.int .u64 0)) 8 (.int .u64 0)).one9 ((((hb.set 5 (.int .u64 0)).set 6 (.int .u64 0)).set 7 (.int .u64 0)).set 8 (.int .u64 0)) 2 (.int .i64 0))
            go_upto_region 21 with fail
            generalize ((((w6.setCell ⟨w.heap.size, 5, none⟩ (.int .u64 (0))).setCell ⟨w.heap.size, 6, none⟩ (.int .u64 (0))).setCell ⟨w.heap.size, 7, none⟩ (.int .u64 (0))).setCell ⟨w.heap.size, 8, none⟩ (.int .u64 (0))).setCell ⟨w.heap.size, 2, none⟩ (.int .i64 (0)) = wz at *
            clear c5 c6 c7 c8 c2 g5 g6 g7 g8 g2 hlb hlb5 hlb6 hlb7 hlb8
            have HP := Lib.hid (HP0.out.own9 HB6.out (.int .i64 4) (.int .i64 (k : Int)) (.int .i64 0) (.string ⟨#[]⟩) (.int .i64 0) (.int .u64 0) (.int .u64 0) (.int .u64 0) (.int .u64 0))
            clear hx hb hP HB5 HE5 HP0
            have EZ := Lib.hid (ext_set9 HE6.out (Nat.le_refl _) (.int .i64 (4)) (.int .i64 ((k : Int))) (.int .i64 (0)) (.string ⟨#[]⟩) (.int .i64 (0)) (.int .u64 (0)) (.int .u64 (0)) (.int .u64 (0)) (.int .u64 (0)))
            have kb := HB6.out
            have z0 := kb.cell 0
            have f0 := kb.free 0
            have z1 := kb.cell 1
            have f1 := kb.free 1
            have z2 := kb.cell 2
            have f2 := kb.free 2
            have z3 := kb.cell 3
            have f3 := kb.free 3
            have z4 := kb.cell 4
            have f4 := kb.free 4
            have z5 := kb.cell 5
            have f5 := kb.free 5
            have z6 := kb.cell 6
            have f6 := kb.free 6
            have z7 := kb.cell 7
            have f7 := kb.free 7
            have z8 := kb.cell 8
            have f8 := kb.free 8
            have hltb := kb.lt
            have kz := Lib.hid (((((((((kb.set 0 (.int .i64 (4))).set 1 (.int .i64 ((k : Int)))).set 2 (.int .i64 (0))).set 3 (.string ⟨#[]⟩)).set 4 (.int .i64 (0))).set 5 (.int .u64 (0))).set 6 (.int .u64 (0))).set 7 (.int .u64 (0))).set 8 (.int .u64 (0)))
            clear kb
            go_wp2_with fail
            have y0 := kz.out.cell 0
            have y1 := kz.out.cell 1
            have y2 := kz.out.cell 2
            have y3 := kz.out.cell 3
            have y4 := kz.out.cell 4
            have y5 := kz.out.cell 5
            have y6 := kz.out.cell 6
            have y7 := kz.out.cell 7
            have y8 := kz.out.cell 8
            refine bodyPost_ret (v := .tuple #[.agg (lcs (4) ((k : Int)) (0) ⟨#[]⟩ (0) (0) (0) (0) (0)), v]) ?_ rfl ?_
            · simp [results, Tryd.results10, go_sem, y0, y1, y2, y3, y4, y5, y6, y7, y8]
            · rw [← HXX.out]; exact ⟨4, k, 0, ⟨#[]⟩, 0, 0, 0, 0, 0, v, rfl, HP.out, EZ.out⟩
          | inr Sm =>
            obtain ⟨S, m⟩ := Sm
            obtain ⟨rfl, hx⟩ := hres
            have hb := HB5.out.ext hx
            have c5 := hb.cell 5
            have g5 := hb.free 5
            have hlb := hb.lt
            have hb5 := hb.set 5 (.int .u64 (wd S 0))
            have c6 := hb5.cell 6
            have g6 := hb5.free 6
            have hlb5 := hb5.lt
            have hb6 := hb5.set 6 (.int .u64 (wd S 1))
            have c7 := hb6.cell 7
            have g7 := hb6.free 7
            have hlb6 := hb6.lt
            have hb7 := hb6.set 7 (.int .u64 (wd S 2))
            have c8 := hb7.cell 8
            have g8 := hb7.free 8
            have hlb7 := hb7.lt
            have hb8 := hb7.set 8 (.int .u64 (wd S 3))
            have c2 := hb8.cell 2
            have g2 := hb8.free 2
            have hlb8 := hb8.lt
            have HB6 := Lib.hid (hb8.set 2 (.int .i64 ((m : Int))))
            have HE6 := Lib.hid ((((((bel_call HE5.out hx).setCell (p := ⟨w.heap.size, 5, none⟩) (Nat.le_refl _) (.int .u64 (wd S 0))).setCell (p := ⟨w.heap.size, 6, none⟩) (Nat.le_refl _) (.int .u64 (wd S 1))).setCell (p := ⟨w.heap.size, 7, none⟩) (Nat.le_refl _) (.int .u64 (wd S 2))).setCell (p := ⟨w.heap.size, 8, none⟩) (Nat.le_refl _) (.int .u64 (wd S 3))).setCell (p := ⟨w.heap.size, 2, none⟩) (Nat.le_refl _) (.int .i64 ((m : Int))))
            clear hb5 hb6 hb7 hb8
            skip
            go_upto_region 21 with fail
            generalize ((((w6.setCell ⟨w.heap.size, 5, none⟩ (.int .u64 (wd S 0))).setCell ⟨w.heap.size, 6, none⟩ (.int .u64 (wd S 1))).setCell ⟨w.heap.size, 7, none⟩ (.int .u64 (wd S 2))).setCell ⟨w.heap.size, 8, none⟩ (.int .u64 (wd S 3))).setCell ⟨w.heap.size, 2, none⟩ (.int .i64 ((m : Int))) = wz at *
            clear c5 c6 c7 c8 c2 g5 g6 g7 g8 g2 hlb hlb5 hlb6 hlb7 hlb8
            clear hx hb HB5 HE5
            have EZ := Lib.hid (ext_set9 HE6.out (Nat.le_refl _) (.int .i64 (4)) (.int .i64 ((k : Int))) (.int .i64 ((m : Int))) (.string ⟨#[]⟩) (.int .i64 (0)) (.int .u64 (wd S 0)) (.int .u64 (wd S 1)) (.int .u64 (wd S 2)) (.int .u64 (wd S 3)))
            have kb := HB6.out
            have z0 := kb.cell 0
            have f0 := kb.free 0
            have z1 := kb.cell 1
            have f1 := kb.free 1
            have z2 := kb.cell 2
            have f2 := kb.free 2
            have z3 := kb.cell 3
            have f3 := kb.free 3
            have z4 := kb.cell 4
            have f4 := kb.free 4
            have z5 := kb.cell 5
            have f5 := kb.free 5
            have z6 := kb.cell 6
            have f6 := kb.free 6
            have z7 := kb.cell 7
            have f7 := kb.free 7
            have z8 := kb.cell 8
            have f8 := kb.free 8
            have hltb := kb.lt
            have kz := Lib.hid (((((((((kb.set 0 (.int .i64 (4))).set 1 (.int .i64 ((k : Int)))).set 2 (.int .i64 ((m : Int)))).set 3 (.string ⟨#[]⟩)).set 4 (.int .i64 (0))).set 5 (.int .u64 (wd S 0))).set 6 (.int .u64 (wd S 1))).set 7 (.int .u64 (wd S 2))).set 8 (.int .u64 (wd S 3)))
            clear kb
            go_wp2_with fail
            have y0 := kz.out.cell 0
            have y1 := kz.out.cell 1
            have y2 := kz.out.cell 2
            have y3 := kz.out.cell 3
            have y4 := kz.out.cell 4
            have y5 := kz.out.cell 5
            have y6 := kz.out.cell 6
            have y7 := kz.out.cell 7
            have y8 := kz.out.cell 8
            refine bodyPost_ret (v := .tuple #[.agg (lcs (4) ((k : Int)) ((m : Int)) ⟨#[]⟩ (0) (wd S 0) (wd S 1) (wd S 2) (wd S 3)), .nilIface]) ?_ rfl ?_
            · simp [results, Tryd.results10, go_sem, y0, y1, y2, y3, y4, y5, y6, y7, y8]
            · rw [← HXX.out]; exact ⟨rfl, EZ.out⟩
        have d91 : ((c : Int) == 91) = false := by simp; omega
        rw [if_neg h91] at hx1
        by_cases h46 : c = 46
        · have d46 : ((c : Int) == 46) = true := by simp; omega
          rw [if_pos h46] at hx1
          have HU := Lib.hid (fun w hK => parse_any ⟨#[91, 94, 92, 110, 93]⟩ 0 es ed (by decide) w hK _ dot_set)
          obtain ⟨S, hS⟩ : ∃ S, sDot = S := ⟨_, rfl⟩
          rw [hS] at hx1
          have HXX := Lib.hid hx1
          have HS := Lib.hid hS
          have HB5 := Lib.hid (hb.set 0 (.int .i64 4))
          have HE5 := Lib.hid (HE3.out.setCell (p := ⟨w.heap.size, 0, none⟩) (Nat.le_refl _) (.int .i64 4))
          clear hx1 h46 hb HB3 HX hS
          go_wp2_with fail
          clear c0 g0 hlb
          generalize w3.setCell ⟨w.heap.size, 0, none⟩ (.int .i64 4) = w5 at HB5 HE5 ⊢
          refine (HU.out _ (HK.out.ext HE5.out)).mono ?_
          rintro e w6 ⟨rfl, hx⟩
          rw [HS.out]
          clear HU HE3
          have hb := HB5.out.ext hx
          have c5 := hb.cell 5
          have g5 := hb.free 5
          have hlb := hb.lt
          have hb5 := hb.set 5 (.int .u64 (wd S 0))
          have c6 := hb5.cell 6
          have g6 := hb5.free 6
          have hlb5 := hb5.lt
          have hb6 := hb5.set 6 (.int .u64 (wd S 1))
          have c7 := hb6.cell 7
          have g7 := hb6.free 7
          have hlb6 := hb6.lt
          have hb7 := hb6.set 7 (.int .u64 (wd S 2))
          have c8 := hb7.cell 8
          have g8 := hb7.free 8
          have hlb7 := hb7.lt
          have HB6 := Lib.hid (hb7.set 8 (.int .u64 (wd S 3)))
          have HE6 := Lib.hid (((((bel_call HE5.out hx).setCell (p := ⟨w.heap.size, 5, none⟩) (Nat.le_refl _) (.int .u64 (wd S 0))).setCell (p := ⟨w.heap.size, 6, none⟩) (Nat.le_refl _) (.int .u64 (wd S 1))).setCell (p := ⟨w.heap.size, 7, none⟩) (Nat.le_refl _) (.int .u64 (wd S 2))).setCell (p := ⟨w.heap.size, 8, none⟩) (Nat.le_refl _) (.int .u64 (wd S 3)))
          clear hb hb5 hb6 hb7
          go_upto_region 21 with fail
          generalize (((w6.setCell ⟨w.heap.size, 5, none⟩ (.int .u64 (wd S 0))).setCell ⟨w.heap.size, 6, none⟩ (.int .u64 (wd S 1))).setCell ⟨w.heap.size, 7, none⟩ (.int .u64 (wd S 2))).setCell ⟨w.heap.size, 8, none⟩ (.int .u64 (wd S 3)) = wz at *
          clear c5 c6 c7 c8 g5 g6 g7 g8 hlb hlb5 hlb6 hlb7
          clear hx HB5 HE5
          have EZ := Lib.hid (ext_set9 HE6.out (Nat.le_refl _) (.int .i64 (4)) (.int .i64 ((k : Int))) (.int .i64 ((k : Int) + 1)) (.string ⟨#[]⟩) (.int .i64 (0)) (.int .u64 (wd S 0)) (.int .u64 (wd S 1)) (.int .u64 (wd S 2)) (.int .u64 (wd S 3)))
          have kb := HB6.out
          have z0 := kb.cell 0
          have f0 := kb.free 0
          have z1 := kb.cell 1
          have f1 := kb.free 1
          have z2 := kb.cell 2
          have f2 := kb.free 2
          have z3 := kb.cell 3
          have f3 := kb.free 3
          have z4 := kb.cell 4
          have f4 := kb.free 4
          have z5 := kb.cell 5
          have f5 := kb.free 5
          have z6 := kb.cell 6
          have f6 := kb.free 6
          have z7 := kb.cell 7
          have f7 := kb.free 7
          have z8 := kb.cell 8
          have f8 := kb.free 8
          have hltb := kb.lt
          have kz := Lib.hid (((((((((kb.set 0 (.int .i64 (4))).set 1 (.int .i64 ((k : Int)))).set 2 (.int .i64 ((k : Int) + 1))).set 3 (.string ⟨#[]⟩)).set 4 (.int .i64 (0))).set 5 (.int .u64 (wd S 0))).set 6 (.int .u64 (wd S 1))).set 7 (.int .u64 (wd S 2))).set 8 (.int .u64 (wd S 3)))
          clear kb
          go_wp2_with fail
          have y0 := kz.out.cell 0
          have y1 := kz.out.cell 1
          have y2 := kz.out.cell 2
          have y3 := kz.out.cell 3
          have y4 := kz.out.cell 4
          have y5 := kz.out.cell 5
          have y6 := kz.out.cell 6
          have y7 := kz.out.cell 7
          have y8 := kz.out.cell 8
          refine bodyPost_ret (v := .tuple #[.agg (lcs (4) ((k : Int)) ((k : Int) + 1) ⟨#[]⟩ (0) (wd S 0) (wd S 1) (wd S 2) (wd S 3)), .nilIface]) ?_ rfl ?_
          · simp [results, Tryd.results10, go_sem, y0, y1, y2, y3, y4, y5, y6, y7, y8]
          · rw [← HXX.out]; exact ⟨rfl, EZ.out⟩
        have d46 : ((c : Int) == 46) = false := by simp; omega
        rw [if_neg h46] at hx1
        obtain ⟨n, hn⟩ : ∃ n, mkl c ((rest s k).drop 1) = n := ⟨_, rfl⟩
        rw [hn] at hx1
        by_cases hn0 : n = 0
        · rw [if_pos hn0] at hx1
          have HXX := Lib.hid hx1
          have HN := Lib.hid (fun w hK => lmark_no c s k hk hs (by rw [hn, hn0]) es ed w hK)
          clear hx1 hn hb c0 g0 hlb
          go_wp2_with fail
          refine (HN.out _ (HK.out.ext HE3.out)).mono ?_
          rintro e w4 ⟨v, rfl, hP, hx⟩
          have HB4 := Lib.hid (HB3.out.ext hx)
          have HE4 := Lib.hid (bel_call HE3.out hx)
          have HP := Lib.hid (hP.own9 HB4.out (.int .i64 0) (.int .i64 0) (.int .i64 0) (.string ⟨#[]⟩) (.int .i64 0) (.int .u64 0) (.int .u64 0) (.int .u64 0) (.int .u64 0))
          clear hx hP HB3 HE3 HN
          have EZ := Lib.hid (ext_set9 HE4.out (Nat.le_refl _) (.int .i64 (0)) (.int .i64 (0)) (.int .i64 (0)) (.string ⟨#[]⟩) (.int .i64 (0)) (.int .u64 (0)) (.int .u64 (0)) (.int .u64 (0)) (.int .u64 (0)))
          have kb := HB4.out
          have z0 := kb.cell 0
          have f0 := kb.free 0
          have z1 := kb.cell 1
          have f1 := kb.free 1
          have z2 := kb.cell 2
          have f2 := kb.free 2
          have z3 := kb.cell 3
          have f3 := kb.free 3
          have z4 := kb.cell 4
          have f4 := kb.free 4
          have z5 := kb.cell 5
          have f5 := kb.free 5
          have z6 := kb.cell 6
          have f6 := kb.free 6
          have z7 := kb.cell 7
          have f7 := kb.free 7
          have z8 := kb.cell 8
          have f8 := kb.free 8
          have hltb := kb.lt
          have kz := Lib.hid (((((((((kb.set 0 (.int .i64 (0))).set 1 (.int .i64 (0))).set 2 (.int .i64 (0))).set 3 (.string ⟨#[]⟩)).set 4 (.int .i64 (0))).set 5 (.int .u64 (0))).set 6 (.int .u64 (0))).set 7 (.int .u64 (0))).set 8 (.int .u64 (0)))
          clear kb
          go_wp2_with fail
          have y0 := kz.out.cell 0
          have y1 := kz.out.cell 1
          have y2 := kz.out.cell 2
          have y3 := kz.out.cell 3
          have y4 := kz.out.cell 4
          have y5 := kz.out.cell 5
          have y6 := kz.out.cell 6
          have y7 := kz.out.cell 7
          have y8 := kz.out.cell 8
          refine bodyPost_ret (v := .tuple #[.agg (lcs (0) (0) (0) ⟨#[]⟩ (0) (0) (0) (0) (0)), v]) ?_ rfl ?_
          · simp [results, Tryd.results10, go_sem, y0, y1, y2, y3, y4, y5, y6, y7, y8]
          · rw [← HXX.out]; exact ⟨0, 0, 0, ⟨#[]⟩, 0, 0, 0, 0, 0, v, rfl, HP.out, EZ.out⟩
        · rw [if_neg hn0] at hx1
          have HXX := Lib.hid hx1
          have hml := mkl_le c ((rest s k).drop 1)
          rw [hn, List.length_drop] at hml
          have HN := Lib.hid (fun w => lmark_ok c s k n hk hs hn (by omega) (by omega) w)
          clear hx1 hn hb c0 g0 hlb
          go_wp2_with fail
          refine (HN.out _).mono ?_
          rintro e w4 ⟨rfl, hx⟩
          have HB4 := Lib.hid (HB3.out.ext hx)
          have HE4 := Lib.hid (bel_call HE3.out hx)
          clear hx HB3 HE3 HN
          have EZ := Lib.hid (ext_set9 HE4.out (Nat.le_refl _) (.int .i64 (5)) (.int .i64 ((k : Int))) (.int .i64 ((k : Int) + n)) (.string (s.extract k (k + n))) (.int .i64 (0)) (.int .u64 (0)) (.int .u64 (0)) (.int .u64 (0)) (.int .u64 (0)))
          have kb := HB4.out
          have z0 := kb.cell 0
          have f0 := kb.free 0
          have z1 := kb.cell 1
          have f1 := kb.free 1
          have z2 := kb.cell 2
          have f2 := kb.free 2
          have z3 := kb.cell 3
          have f3 := kb.free 3
          have z4 := kb.cell 4
          have f4 := kb.free 4
          have z5 := kb.cell 5
          have f5 := kb.free 5
          have z6 := kb.cell 6
          have f6 := kb.free 6
          have z7 := kb.cell 7
          have f7 := kb.free 7
          have z8 := kb.cell 8
          have f8 := kb.free 8
          have hltb := kb.lt
          have kz := Lib.hid (((((((((kb.set 0 (.int .i64 (5))).set 1 (.int .i64 ((k : Int)))).set 2 (.int .i64 ((k : Int) + n))).set 3 (.string (s.extract k (k + n)))).set 4 (.int .i64 (0))).set 5 (.int .u64 (0))).set 6 (.int .u64 (0))).set 7 (.int .u64 (0))).set 8 (.int .u64 (0)))
          clear kb
          go_wp2_with fail
          have y0 := kz.out.cell 0
          have y1 := kz.out.cell 1
          have y2 := kz.out.cell 2
          have y3 := kz.out.cell 3
          have y4 := kz.out.cell 4
          have y5 := kz.out.cell 5
          have y6 := kz.out.cell 6
          have y7 := kz.out.cell 7
          have y8 := kz.out.cell 8
          refine bodyPost_ret (v := .tuple #[.agg (lcs (5) ((k : Int)) ((k : Int) + n) (s.extract k (k + n)) (0) (0) (0) (0) (0)), .nilIface]) ?_ rfl ?_
          · simp [results, Tryd.results10, go_sem, y0, y1, y2, y3, y4, y5, y6, y7, y8]
          · rw [← HXX.out]; exact ⟨by rw [extract_take]; simp only [wd_zero]; rfl, EZ.out⟩
end Go.Proofs.YtnecafokkhhhhaaDoor
