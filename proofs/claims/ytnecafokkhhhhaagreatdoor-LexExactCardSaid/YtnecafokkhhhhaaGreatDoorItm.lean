/- The items of a class. -/
import Derived.Test.YtnecafokkhhhhaaGreatDoorNme
import Derived.Deep.LoopGhost
import Derived.FnLit
import Derived.Scope
namespace Go.Proofs.YtnecafokkhhhhaaGreatDoor
open Go Go.RowKit
abbrev zerS : Array Value := #[.int .u64 0, .int .u64 0, .int .u64 0, .int .u64 0]
/-- What the reader leans on. -/
structure Rk (f : List UInt8 → Nat × Nat) (w : World) (r : Nat) (es ed : Addr) : Prop where
  errs : Errs w r es ed
  errv : ErrV w
  lv : 18 < r
  ml : ∃ m, w.cell? ⟨17, 0, none⟩ = some (.int .i64 m)
  lm : 17 < r
  un : Unesc f
  len : ∀ l, (f l).2 ≤ l.length
  byte : ∀ l, (f l).1 < 256
theorem Rk.moved {f : List UInt8 → Nat × Nat} {w w' : World} {r : Nat} {es ed : Addr} (h : Rk f w r es ed) (hg : w.grownBy w' (some r)) : Rk f w' r es ed := by
  obtain ⟨m, hm⟩ := h.ml
  exact ⟨h.errs.moved hg, h.errv.moved h.lv hg, h.lv, ⟨m, cell_grown hm hg (by have := h.lm; simp; omega)⟩, h.lm, h.un, h.len, h.byte⟩
theorem Rk.ext {f : List UInt8 → Nat × Nat} {w w' : World} {r : Nat} {es ed : Addr} (h : Rk f w r es ed) (hx : Ext w w') : Rk f w' r es ed := h.moved (grown_of_ext hx)
theorem itm_pos {f : List UInt8 → Nat × Nat} (hfn : ∀ l, (f l).2 ≤ l.length) (hfb : ∀ l, (f l).1 < 256) {l : List UInt8} {T : BitVec 256} {m : Nat} (h : itm f l = .inr (T, m)) : 0 < m ∧ m ≤ l.length := by
  unfold itm at h
  split at h
  · unfold nmq at h
    split at h
    · cases h
    · split at h
      · rename_i hc
        have := cut_len _ hc
        cases h
        rw [List.length_drop] at this
        omega
      · cases h
  · unfold spq at h
    split at h
    · cases h
    · rename_i b n h1
      have h2 := chr_lt hfn hfb h1
      split at h
      · cases h; omega
      · split at h
        · cases h
        · rename_i c k h3
          have h4 := chr_lt hfn hfb h3
          rw [List.length_drop] at h4
          split at h
          · cases h
          · cases h; omega
set_option maxHeartbeats 4000000 in
set_option maxRecDepth 20000 in
theorem items_any (f : List UInt8 → Nat × Nat) (r : Nat) (s : ByteArray) (i : Nat) (es ed : Addr) (w : World) (h : Rdr w r s i) (hK : Rk f w r es ed) (n : Nat) (hn : (rest s i).length < n) (o : Sum Nat (BitVec 256 × Nat)) (ho : ims f n (rest s i) 0#256 0 = o) :
    Calls Tryz.prog 76 #[.pointer (some ⟨r, 0, none⟩)] w fun e w' => SetEnd w w' r s i es e o := by
  have hrw := h.blk.lt
  have hmf : ∀ (fn : Fn) (first cap : Array Value) (w : World), (Instr.makeFunc fn first cap).run Tryz.prog w = .ok (.func fn first cap) w := fun _ _ _ _ => rfl
  have i0 : ∀ w : World, (Instr.index 147 (.agg #[.string ⟨#[45, 45]⟩, .string ⟨#[38, 38]⟩, .string ⟨#[93]⟩]) (.int .i64 0)).run Tryz.prog w = .ok (.string ⟨#[45, 45]⟩) w := fun _ => by kernel_rfl
  have i1 : ∀ w : World, (Instr.index 147 (.agg #[.string ⟨#[45, 45]⟩, .string ⟨#[38, 38]⟩, .string ⟨#[93]⟩]) (.int .i64 1)).run Tryz.prog w = .ok (.string ⟨#[38, 38]⟩) w := fun _ => by kernel_rfl
  have i2 : ∀ w : World, (Instr.index 147 (.agg #[.string ⟨#[45, 45]⟩, .string ⟨#[38, 38]⟩, .string ⟨#[93]⟩]) (.int .i64 2)).run Tryz.prog w = .ok (.string ⟨#[93]⟩) w := fun _ => by kernel_rfl
  have HH := Lib.hid h
  have HK := Lib.hid hK
  have HN := Lib.hid hn
  have HO := Lib.hid ho
  clear h hK hn ho
  go_enter Tryz.func76, Tryz.ntmps76
  go_wp2_with fail
  go_step3
  go_wp2_with fail
  try go_step3
  go_wp2_with fail
  go_loopg [9] n (fun g _ wr => ∃ (S : BitVec 256) (k : Nat), i + k ≤ s.size ∧ (rest s (i + k)).length < g ∧ Hid (ims f g (rest s (i + k)) S k = o) ∧ Hid (w.grownBy wr (some r)) ∧ Hid (Rdr wr r s (i + k)) ∧ Hid (Blk wr w.heap.size zerS 36) ∧ Hid (Blk wr (w.heap.size + 1) (svs S) 36))
  case atStart =>
    refine ⟨0#256, 0, HH.out.le, HN.out, HO, Lib.hid (grown_of_ext (by (repeat' (first | (with_reducible exact Below.refl _ _) | (with_reducible assumption) | (with_reducible refine below_drewN ?_ _) | (with_reducible refine Below.alloc ?_ ?_ _) | (with_reducible refine Below.drew ?_) | (with_reducible refine Below.setCell ?_ ?_ _) | (with_reducible refine Below.trans ?_ (Below.mono (by with_reducible assumption) ?_)) | go_size)))), Lib.hid (HH.out.ext (by (repeat' (first | (with_reducible exact Below.refl _ _) | (with_reducible assumption) | (with_reducible refine below_drewN ?_ _) | (with_reducible refine Below.alloc ?_ ?_ _) | (with_reducible refine Below.drew ?_) | (with_reducible refine Below.setCell ?_ ?_ _) | (with_reducible refine Below.trans ?_ (Below.mono (by with_reducible assumption) ?_)) | go_size)))), Lib.hid ((Blk.new w zerS 36).alloc _), Lib.hid ?_⟩
    have hz := Blk.new (w.alloc (.cells zerS 36)) zerS 36
    rw [show (w.alloc (.cells zerS 36)).heap.size = w.heap.size + 1 by simp] at hz
    have e : svs 0#256 = zerS := by unfold svs; simp only [wd_zero]
    rw [e]
    exact hz
  case round =>
    obtain ⟨S, k, hk, hlen, hO, hG, hR, hB2, hB4⟩ := hrel
    obtain ⟨g, rfl⟩ : ∃ g, gk = g + 1 := ⟨gk - 1, by omega⟩
    have hrwr := hR.out.blk.lt
    have hx0 : Ext wr wr := Below.refl _ _
    cases hq1 : Lib.hasPrefix (rest s (i + k)) [45, 45] with
    | true =>
      have hst : stp (rest s (i + k)) = true := by unfold stp; rw [hq1]; rfl
      go_wp2_with fail
      refine wp_loop_rounds 4 ?_
      rw [rounds_succ]
      go_wp2_with fail
      have hs1 := stands_any r s ⟨#[45, 45]⟩ (i + k) wr (hR.out.ext hx0) true hq1
      refine hs1.mono ?_
      rintro e w1 ⟨rfl, hk1⟩
      replace hx0 : Ext wr w1 := by obtain ⟨kk, rfl⟩ := hk1; exact bel_call hx0 (drew_ext _ _)
      clear hk1 hs1
      have hb2 := hB2.out.ext hx0
      have hb4 := hB4.out.ext hx0
      obtain ⟨l0, l1, l2, l3⟩ := hb4.cells4
      obtain ⟨z0, z1, z2, z3⟩ := hb2.cells4
      have g0 := hb2.free 0
      have g1 := hb2.free 1
      have g2 := hb2.free 2
      have g3 := hb2.free 3
      obtain ⟨y0, y1, y2, y3⟩ := (hb2.store4 (.int .u64 (wd S 0)) (.int .u64 (wd S 1)) (.int .u64 (wd S 2)) (.int .u64 (wd S 3))).cells4
      have hlt := hb2.lt
      have HG := Lib.hid (grown_ext hG.out hx0)
      have HR := Lib.hid (hR.out.ext hx0)
      have HO := Lib.hid (show Sum.inr (S, k) = o by rw [← hO.out, ims, if_pos hst])
      clear hb2 hb4 hx0 hst hO hG hR hB2 hB4 hq1
      go_wp2_with fail
      try rw [Exit.noGoto_ret]
      refine bodyPost_ret (v := .tuple #[sv S, .nilIface]) ?_ rfl ?_
      · simp [results, Tryz.results76, go_sem, y0, y1, y2, y3]
      · rw [← HO.out]
        refine ⟨rfl, ?_, ?_⟩
        · refine grown_store (grown_store (grown_store (grown_store HG.out _ _ _ ?_) _ _ _ ?_) _ _ _ ?_) _ _ _ ?_ <;> exact Nat.le_refl _
        · exact HR.out.grown (row := some w.heap.size) (grown_trans (grown_trans (grown_trans (grown_set _ _ _ _) (grown_set _ _ _ _)) (grown_set _ _ _ _)) (grown_set _ _ _ _)) (by simp; omega)
    | false =>
      cases hq2 : Lib.hasPrefix (rest s (i + k)) [38, 38] with
      | true =>
        have hst : stp (rest s (i + k)) = true := by unfold stp; rw [hq1, hq2]; rfl
        go_wp2_with fail
        refine wp_loop_rounds 4 ?_
        rw [rounds_succ]
        go_wp2_with fail
        have hs1 := stands_any r s ⟨#[45, 45]⟩ (i + k) wr (hR.out.ext hx0) false hq1
        refine hs1.mono ?_
        rintro e w1 ⟨rfl, hk1⟩
        replace hx0 : Ext wr w1 := by obtain ⟨kk, rfl⟩ := hk1; exact bel_call hx0 (drew_ext _ _)
        clear hk1 hs1
        go_wp2_with fail
        rw [rounds_succ]
        go_wp2_with fail
        have hs2 := stands_any r s ⟨#[38, 38]⟩ (i + k) w1 (hR.out.ext hx0) true hq2
        refine hs2.mono ?_
        rintro e w2 ⟨rfl, hk2⟩
        replace hx0 : Ext wr w2 := by obtain ⟨kk, rfl⟩ := hk2; exact bel_call hx0 (drew_ext _ _)
        clear hk2 hs2
        clear hq2
        have hb2 := hB2.out.ext hx0
        have hb4 := hB4.out.ext hx0
        obtain ⟨l0, l1, l2, l3⟩ := hb4.cells4
        obtain ⟨z0, z1, z2, z3⟩ := hb2.cells4
        have g0 := hb2.free 0
        have g1 := hb2.free 1
        have g2 := hb2.free 2
        have g3 := hb2.free 3
        obtain ⟨y0, y1, y2, y3⟩ := (hb2.store4 (.int .u64 (wd S 0)) (.int .u64 (wd S 1)) (.int .u64 (wd S 2)) (.int .u64 (wd S 3))).cells4
        have hlt := hb2.lt
        have HG := Lib.hid (grown_ext hG.out hx0)
        have HR := Lib.hid (hR.out.ext hx0)
        have HO := Lib.hid (show Sum.inr (S, k) = o by rw [← hO.out, ims, if_pos hst])
        clear hb2 hb4 hx0 hst hO hG hR hB2 hB4 hq1
        go_wp2_with fail
        try rw [Exit.noGoto_ret]
        refine bodyPost_ret (v := .tuple #[sv S, .nilIface]) ?_ rfl ?_
        · simp [results, Tryz.results76, go_sem, y0, y1, y2, y3]
        · rw [← HO.out]
          refine ⟨rfl, ?_, ?_⟩
          · refine grown_store (grown_store (grown_store (grown_store HG.out _ _ _ ?_) _ _ _ ?_) _ _ _ ?_) _ _ _ ?_ <;> exact Nat.le_refl _
          · exact HR.out.grown (row := some w.heap.size) (grown_trans (grown_trans (grown_trans (grown_set _ _ _ _) (grown_set _ _ _ _)) (grown_set _ _ _ _)) (grown_set _ _ _ _)) (by simp; omega)
      | false =>
        cases hq3 : Lib.hasPrefix (rest s (i + k)) [93] with
        | true =>
          have hst : stp (rest s (i + k)) = true := by unfold stp; rw [hq1, hq2, hq3]; rfl
          go_wp2_with fail
          refine wp_loop_rounds 4 ?_
          rw [rounds_succ]
          go_wp2_with fail
          have hs1 := stands_any r s ⟨#[45, 45]⟩ (i + k) wr (hR.out.ext hx0) false hq1
          refine hs1.mono ?_
          rintro e w1 ⟨rfl, hk1⟩
          replace hx0 : Ext wr w1 := by obtain ⟨kk, rfl⟩ := hk1; exact bel_call hx0 (drew_ext _ _)
          clear hk1 hs1
          go_wp2_with fail
          rw [rounds_succ]
          go_wp2_with fail
          have hs2 := stands_any r s ⟨#[38, 38]⟩ (i + k) w1 (hR.out.ext hx0) false hq2
          refine hs2.mono ?_
          rintro e w2 ⟨rfl, hk2⟩
          replace hx0 : Ext wr w2 := by obtain ⟨kk, rfl⟩ := hk2; exact bel_call hx0 (drew_ext _ _)
          clear hk2 hs2
          go_wp2_with fail
          rw [rounds_succ]
          go_wp2_with fail
          have hs3 := stands_any r s ⟨#[93]⟩ (i + k) w2 (hR.out.ext hx0) true hq3
          refine hs3.mono ?_
          rintro e w3 ⟨rfl, hk3⟩
          replace hx0 : Ext wr w3 := by obtain ⟨kk, rfl⟩ := hk3; exact bel_call hx0 (drew_ext _ _)
          clear hk3 hs3
          clear hq2 hq3
          have hb2 := hB2.out.ext hx0
          have hb4 := hB4.out.ext hx0
          obtain ⟨l0, l1, l2, l3⟩ := hb4.cells4
          obtain ⟨z0, z1, z2, z3⟩ := hb2.cells4
          have g0 := hb2.free 0
          have g1 := hb2.free 1
          have g2 := hb2.free 2
          have g3 := hb2.free 3
          obtain ⟨y0, y1, y2, y3⟩ := (hb2.store4 (.int .u64 (wd S 0)) (.int .u64 (wd S 1)) (.int .u64 (wd S 2)) (.int .u64 (wd S 3))).cells4
          have hlt := hb2.lt
          have HG := Lib.hid (grown_ext hG.out hx0)
          have HR := Lib.hid (hR.out.ext hx0)
          have HO := Lib.hid (show Sum.inr (S, k) = o by rw [← hO.out, ims, if_pos hst])
          clear hb2 hb4 hx0 hst hO hG hR hB2 hB4 hq1
          go_wp2_with fail
          try rw [Exit.noGoto_ret]
          refine bodyPost_ret (v := .tuple #[sv S, .nilIface]) ?_ rfl ?_
          · simp [results, Tryz.results76, go_sem, y0, y1, y2, y3]
          · rw [← HO.out]
            refine ⟨rfl, ?_, ?_⟩
            · refine grown_store (grown_store (grown_store (grown_store HG.out _ _ _ ?_) _ _ _ ?_) _ _ _ ?_) _ _ _ ?_ <;> exact Nat.le_refl _
            · exact HR.out.grown (row := some w.heap.size) (grown_trans (grown_trans (grown_trans (grown_set _ _ _ _) (grown_set _ _ _ _)) (grown_set _ _ _ _)) (grown_set _ _ _ _)) (by simp; omega)
        | false =>
          have hst : stp (rest s (i + k)) = false := by unfold stp; rw [hq1, hq2, hq3]; rfl
          obtain ⟨x, hxe⟩ : ∃ x, itm f (rest s (i + k)) = x := ⟨_, rfl⟩
          go_wp2_with fail
          refine wp_loop_rounds 4 ?_
          rw [rounds_succ]
          go_wp2_with fail
          have hs1 := stands_any r s ⟨#[45, 45]⟩ (i + k) wr (hR.out.ext hx0) false hq1
          refine hs1.mono ?_
          rintro e w1 ⟨rfl, hk1⟩
          replace hx0 : Ext wr w1 := by obtain ⟨kk, rfl⟩ := hk1; exact bel_call hx0 (drew_ext _ _)
          clear hk1 hs1
          go_wp2_with fail
          rw [rounds_succ]
          go_wp2_with fail
          have hs2 := stands_any r s ⟨#[38, 38]⟩ (i + k) w1 (hR.out.ext hx0) false hq2
          refine hs2.mono ?_
          rintro e w2 ⟨rfl, hk2⟩
          replace hx0 : Ext wr w2 := by obtain ⟨kk, rfl⟩ := hk2; exact bel_call hx0 (drew_ext _ _)
          clear hk2 hs2
          go_wp2_with fail
          rw [rounds_succ]
          go_wp2_with fail
          have hs3 := stands_any r s ⟨#[93]⟩ (i + k) w2 (hR.out.ext hx0) false hq3
          refine hs3.mono ?_
          rintro e w3 ⟨rfl, hk3⟩
          replace hx0 : Ext wr w3 := by obtain ⟨kk, rfl⟩ := hk3; exact bel_call hx0 (drew_ext _ _)
          clear hk3 hs3
          go_wp2_with fail
          rw [rounds_succ]
          go_wp2_with fail
          cases hq4 : Lib.hasPrefix (rest s (i + k)) [91, 58] with
          | true =>
            have hs4 := stands_any r s ⟨#[91, 58]⟩ (i + k) w3 (hR.out.ext hx0) true hq4
            refine hs4.mono ?_
            rintro e w4 ⟨rfl, hk4⟩
            replace hx0 : Ext wr w4 := by obtain ⟨kk, rfl⟩ := hk4; exact bel_call hx0 (drew_ext _ _)
            clear hk4 hs4
            have hrk := HK.out.moved (grown_ext hG.out hx0)
            obtain ⟨m0, hm0⟩ := hrk.ml
            have hie : itm f (rest s (i + k)) = nmq (rest s (i + k)) := by unfold itm; rw [if_pos hq4]
            have hcon := name_any r s (i + k) es ed w4 (hR.out.ext hx0) hrk.errs hq4 m0 hm0 (itm f (rest s (i + k))) hie.symm
            rw [hxe] at hcon
            cases x with
            | inl d =>
              have HO := Lib.hid (show Sum.inl (k + d) = o by rw [← hO.out, ims, if_neg (by rw [hst]; simp), hxe])
              have HG := Lib.hid (grown_ext hG.out hx0)
              have HB2 := Lib.hid (hB2.out.ext hx0)
              clear hx0 hst hq1 hq2 hq3 hO hG hB2 hB4 hxe
              have HC := Lib.hid hcon
              clear hcon
              go_wp2_with fail
              refine HC.out.mono ?_
              rintro e w5 ⟨v, rfl, ⟨p, tp, rfl, hP, hlp⟩, hG5⟩
              have HLP := Lib.hid hlp
              clear hlp
              have hb2 := HB2.out.grown hG5 (by simp; omega)
              have hne : w.heap.size ≠ p := by
                intro e
                have g0 := hP.cell 0
                have g1 := hb2.cell 0
                rw [← e, g1] at g0
                simp [zerS] at g0
              have HG5 := Lib.hid (grown_trans HG.out hG5)
              obtain ⟨z0, z1, z2, z3⟩ := hb2.cells4
              have f0 := hb2.free 0
              have f1 := hb2.free 1
              have f2 := hb2.free 2
              have f3 := hb2.free 3
              have hlt := hb2.lt
              have HB5 := Lib.hid hb2
              have HP := Lib.hid hP
              have HNE := Lib.hid hne
              clear hP hne hG5 HG HB2 HC hb2
              go_wp2_with fail
              try rw [Exit.noGoto_ret]
              obtain ⟨y0, y1, y2, y3⟩ := ((HB5.out.store4 (.int .u64 0) (.int .u64 0) (.int .u64 0) (.int .u64 0)).alloc (.cells zerS 36)).cells4
              refine bodyPost_ret (v := .tuple #[sv0, .iface 70 (.pointer (some ⟨p, 0, none⟩))]) ?_ rfl ?_
              · simp [results, Tryz.results76, go_sem, y0, y1, y2, y3]
              · rw [← HO.out]
                refine ⟨_, rfl, ⟨p, tp, rfl, ?_, HLP.out⟩, ?_⟩
                · rw [← Nat.add_assoc]
                  exact (HP.out.grown (row := some w.heap.size) (grown_trans (grown_trans (grown_trans (grown_set _ _ _ _) (grown_set _ _ _ _)) (grown_set _ _ _ _)) (grown_set _ _ _ _)) (by simpa using HNE.out)).alloc _
                · refine grown_ext (grown_store (grown_store (grown_store (grown_store HG5.out _ _ _ ?_) _ _ _ ?_) _ _ _ ?_) _ _ _ ?_) (Below.alloc (Below.refl _ _) (Nat.le_refl _) _) <;> exact Nat.le_refl _
            | inr x =>
              obtain ⟨T, m⟩ := x
              have hpos := itm_pos hrk.len hrk.byte hxe
              have hrl := rest_len hk
              have hrl2 := rest_len (s := s) (i := i + (k + m)) (by omega)
              have HO := Lib.hid (show ims f g (rest s (i + (k + m))) (S ||| T) (k + m) = o by
                rw [← hO.out, ims, if_neg (by rw [hst]; simp), hxe, ← Nat.add_assoc, rest_drop s (i + k) m])
              have HG := Lib.hid (grown_ext hG.out hx0)
              have HB2 := Lib.hid (hB2.out.ext hx0)
              have HB4 := Lib.hid (hB4.out.ext hx0)
              clear hx0 hst hq1 hq2 hq3 hO hG hB2 hB4 hxe
              have HC := Lib.hid hcon
              clear hcon
              go_wp2_with fail
              refine HC.out.mono ?_
              rintro e w5 ⟨rfl, hG5, hR5⟩
              have hb2 := HB2.out.grown hG5 (by simp; omega)
              have hb4 := HB4.out.grown hG5 (by simp; omega)
              have HG5 := Lib.hid (grown_trans HG.out hG5)
              have hlt := hb4.lt
              have HR5 := Lib.hid hR5
              obtain ⟨z0, z1, z2, z3⟩ := hb4.cells4
              have f0 := hb4.free 0
              have f1 := hb4.free 1
              have f2 := hb4.free 2
              have f3 := hb4.free 3
              have HB5 := Lib.hid hb2
              have HB6 := Lib.hid hb4
              clear hb2 hb4 hG5 hR5 HG HB2 HB4 HC
              have hun := fun w => union_any S T w
              go_wp2_with fail
              refine (hun _).mono ?_
              rintro e w6 ⟨rfl, hE6⟩
              have hx6 : Ext w5 w6 := bel_call (show Ext w5 _ from by (repeat' (first | (with_reducible exact Below.refl _ _) | (with_reducible assumption) | (with_reducible refine below_drewN ?_ _) | (with_reducible refine Below.alloc ?_ ?_ _) | (with_reducible refine Below.drew ?_) | (with_reducible refine Below.setCell ?_ ?_ _) | (with_reducible refine Below.trans ?_ (Below.mono (by with_reducible assumption) ?_)) | go_size))) hE6
              have hb4 := HB6.out.ext hx6
              have hlt6 := hb4.lt
              have HB7 := Lib.hid (HB5.out.ext hx6)
              have HB8 := Lib.hid hb4
              have HR6 := Lib.hid (HR5.out.ext hx6)
              have HG6 := Lib.hid (grown_ext HG5.out hx6)
              clear z0 z1 z2 z3 f0 f1 f2 f3
              obtain ⟨z0, z1, z2, z3⟩ := hb4.cells4
              have f0 := hb4.free 0
              have f1 := hb4.free 1
              have f2 := hb4.free 2
              have f3 := hb4.free 3
              clear hb4 hx6 hE6 HB5 HB6 HR5 HG5 hun
              go_wp2_with fail
              go_roundg g
              case rel =>
                refine ⟨S ||| T, k + m, by omega, by omega, HO, Lib.hid ?_, Lib.hid ?_, Lib.hid ?_, Lib.hid (HB8.out.store4 _ _ _ _)⟩
                · refine grown_store (grown_store (grown_store (grown_store HG6.out _ _ _ ?_) _ _ _ ?_) _ _ _ ?_) _ _ _ ?_ <;> omega
                · rw [← Nat.add_assoc]
                  exact HR6.out.grown (row := some (w.heap.size + 1)) (grown_trans (grown_trans (grown_trans (grown_set _ _ _ _) (grown_set _ _ _ _)) (grown_set _ _ _ _)) (grown_set _ _ _ _)) (by simp; omega)
                · exact HB7.out.other4 (by omega) _ _ _ _
              case measure => exact Nat.lt_succ_self g
          | false =>
            have hs4 := stands_any r s ⟨#[91, 58]⟩ (i + k) w3 (hR.out.ext hx0) false hq4
            refine hs4.mono ?_
            rintro e w4 ⟨rfl, hk4⟩
            replace hx0 : Ext wr w4 := by obtain ⟨kk, rfl⟩ := hk4; exact bel_call hx0 (drew_ext _ _)
            clear hk4 hs4
            have hrk := HK.out.moved (grown_ext hG.out hx0)
            have hie : itm f (rest s (i + k)) = spq f (rest s (i + k)) := by unfold itm; rw [if_neg (by rw [hq4]; simp)]
            have hcon := span_any f hrk.len hrk.byte r s (i + k) es ed w4 (hR.out.ext hx0) hrk.errs hrk.un hrk.errv hrk.lv (itm f (rest s (i + k))) hie.symm
            rw [hxe] at hcon
            cases x with
            | inl d =>
              have HO := Lib.hid (show Sum.inl (k + d) = o by rw [← hO.out, ims, if_neg (by rw [hst]; simp), hxe])
              have HG := Lib.hid (grown_ext hG.out hx0)
              have HB2 := Lib.hid (hB2.out.ext hx0)
              clear hx0 hst hq1 hq2 hq3 hO hG hB2 hB4 hxe
              have HC := Lib.hid hcon
              clear hcon
              go_wp2_with fail
              refine HC.out.mono ?_
              rintro e w5 ⟨v, rfl, ⟨p, tp, rfl, hP, hlp⟩, hG5⟩
              have HLP := Lib.hid hlp
              clear hlp
              have hb2 := HB2.out.grown hG5 (by simp; omega)
              have hne : w.heap.size ≠ p := by
                intro e
                have g0 := hP.cell 0
                have g1 := hb2.cell 0
                rw [← e, g1] at g0
                simp [zerS] at g0
              have HG5 := Lib.hid (grown_trans HG.out hG5)
              obtain ⟨z0, z1, z2, z3⟩ := hb2.cells4
              have f0 := hb2.free 0
              have f1 := hb2.free 1
              have f2 := hb2.free 2
              have f3 := hb2.free 3
              have hlt := hb2.lt
              have HB5 := Lib.hid hb2
              have HP := Lib.hid hP
              have HNE := Lib.hid hne
              clear hP hne hG5 HG HB2 HC hb2
              go_wp2_with fail
              try rw [Exit.noGoto_ret]
              obtain ⟨y0, y1, y2, y3⟩ := ((HB5.out.store4 (.int .u64 0) (.int .u64 0) (.int .u64 0) (.int .u64 0)).alloc (.cells zerS 36)).cells4
              refine bodyPost_ret (v := .tuple #[sv0, .iface 70 (.pointer (some ⟨p, 0, none⟩))]) ?_ rfl ?_
              · simp [results, Tryz.results76, go_sem, y0, y1, y2, y3]
              · rw [← HO.out]
                refine ⟨_, rfl, ⟨p, tp, rfl, ?_, HLP.out⟩, ?_⟩
                · rw [← Nat.add_assoc]
                  exact (HP.out.grown (row := some w.heap.size) (grown_trans (grown_trans (grown_trans (grown_set _ _ _ _) (grown_set _ _ _ _)) (grown_set _ _ _ _)) (grown_set _ _ _ _)) (by simpa using HNE.out)).alloc _
                · refine grown_ext (grown_store (grown_store (grown_store (grown_store HG5.out _ _ _ ?_) _ _ _ ?_) _ _ _ ?_) _ _ _ ?_) (Below.alloc (Below.refl _ _) (Nat.le_refl _) _) <;> exact Nat.le_refl _
            | inr x =>
              obtain ⟨T, m⟩ := x
              have hpos := itm_pos hrk.len hrk.byte hxe
              have hrl := rest_len hk
              have hrl2 := rest_len (s := s) (i := i + (k + m)) (by omega)
              have HO := Lib.hid (show ims f g (rest s (i + (k + m))) (S ||| T) (k + m) = o by
                rw [← hO.out, ims, if_neg (by rw [hst]; simp), hxe, ← Nat.add_assoc, rest_drop s (i + k) m])
              have HG := Lib.hid (grown_ext hG.out hx0)
              have HB2 := Lib.hid (hB2.out.ext hx0)
              have HB4 := Lib.hid (hB4.out.ext hx0)
              clear hx0 hst hq1 hq2 hq3 hO hG hB2 hB4 hxe
              have HC := Lib.hid hcon
              clear hcon
              go_wp2_with fail
              refine HC.out.mono ?_
              rintro e w5 ⟨rfl, hG5, hR5⟩
              have hb2 := HB2.out.grown hG5 (by simp; omega)
              have hb4 := HB4.out.grown hG5 (by simp; omega)
              have HG5 := Lib.hid (grown_trans HG.out hG5)
              have hlt := hb4.lt
              have HR5 := Lib.hid hR5
              obtain ⟨z0, z1, z2, z3⟩ := hb4.cells4
              have f0 := hb4.free 0
              have f1 := hb4.free 1
              have f2 := hb4.free 2
              have f3 := hb4.free 3
              have HB5 := Lib.hid hb2
              have HB6 := Lib.hid hb4
              clear hb2 hb4 hG5 hR5 HG HB2 HB4 HC
              have hun := fun w => union_any S T w
              go_wp2_with fail
              refine (hun _).mono ?_
              rintro e w6 ⟨rfl, hE6⟩
              have hx6 : Ext w5 w6 := bel_call (show Ext w5 _ from by (repeat' (first | (with_reducible exact Below.refl _ _) | (with_reducible assumption) | (with_reducible refine below_drewN ?_ _) | (with_reducible refine Below.alloc ?_ ?_ _) | (with_reducible refine Below.drew ?_) | (with_reducible refine Below.setCell ?_ ?_ _) | (with_reducible refine Below.trans ?_ (Below.mono (by with_reducible assumption) ?_)) | go_size))) hE6
              have hb4 := HB6.out.ext hx6
              have hlt6 := hb4.lt
              have HB7 := Lib.hid (HB5.out.ext hx6)
              have HB8 := Lib.hid hb4
              have HR6 := Lib.hid (HR5.out.ext hx6)
              have HG6 := Lib.hid (grown_ext HG5.out hx6)
              clear z0 z1 z2 z3 f0 f1 f2 f3
              obtain ⟨z0, z1, z2, z3⟩ := hb4.cells4
              have f0 := hb4.free 0
              have f1 := hb4.free 1
              have f2 := hb4.free 2
              have f3 := hb4.free 3
              clear hb4 hx6 hE6 HB5 HB6 HR5 HG5 hun
              go_wp2_with fail
              go_roundg g
              case rel =>
                refine ⟨S ||| T, k + m, by omega, by omega, HO, Lib.hid ?_, Lib.hid ?_, Lib.hid ?_, Lib.hid (HB8.out.store4 _ _ _ _)⟩
                · refine grown_store (grown_store (grown_store (grown_store HG6.out _ _ _ ?_) _ _ _ ?_) _ _ _ ?_) _ _ _ ?_ <;> omega
                · rw [← Nat.add_assoc]
                  exact HR6.out.grown (row := some (w.heap.size + 1)) (grown_trans (grown_trans (grown_trans (grown_set _ _ _ _) (grown_set _ _ _ _)) (grown_set _ _ _ _)) (grown_set _ _ _ _)) (by simp; omega)
                · exact HB7.out.other4 (by omega) _ _ _ _
              case measure => exact Nat.lt_succ_self g
end Go.Proofs.YtnecafokkhhhhaaGreatDoor
