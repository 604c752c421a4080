/- Numbers. -/
import Derived.Test.YtnecafokkhhhhaaDoorLn
namespace Go.Proofs.YtnecafokkhhhhaaDoor
open Go Go.RowKit
theorem rest_get {s : ByteArray} {p : Nat} {C : UInt8} {t : List UInt8} (h : rest s p = C :: t) : s.data.toList[p]? = some C := by
  have : (s.data.toList.drop p)[0]? = some C := by
    have e : rest s p = s.data.toList.drop p := rfl
    rw [← e, h]; rfl
  rw [List.getElem?_drop, Nat.add_zero] at this
  exact this
set_option maxHeartbeats 1000000 in
set_option maxRecDepth 20000 in
theorem lnum_any (s : ByteArray) (k n : Nat) (hk : k ≤ s.size) (hs : s.size ≤ 4294967000) (hn : run dgt (rest s k) = n) (w : World) :
    Calls Tryd.prog 17 #[.string s, .int .i64 (k : Int)] w fun e w' => e = .returned (.agg (lcs 2 k ((k : Int) + n) ⟨#[]⟩ (num ((rest s k).take n) : Int) 0 0 0 0)) ∧ Ext w w' := by
  have hkn : k + n ≤ s.size := by have := run_le dgt (rest s k); have := rest_len hk; omega
  obtain ⟨T, hT⟩ : ∃ T, s.extract k (k + n) = T := ⟨_, rfl⟩
  have hTl : T.data.toList = (rest s k).take n := by rw [← hT, ext_lst]
  have hTs : T.size = n := by rw [← hT, ByteArray.size_extract]; omega
  have hTd : ∀ C ∈ T.data.toList, dgt C.toNat = true := by
    rw [hTl, ← hn, run_take]
    intro C hC
    exact mem_tw (fun c : UInt8 => dgt c.toNat) _ _ hC
  obtain ⟨N0, hN0⟩ : ∃ N0, num ((rest s k).take n) = N0 := ⟨_, rfl⟩
  rw [hN0]
  have HN0 := Lib.hid hN0
  clear hN0
  have HB := Lib.hid (Blk.new w lxz 32)
  have HE := Lib.hid (show Ext w (w.alloc (.cells lxz 32)) from by go_grown)
  have HRN := Lib.hid (fun w => run_digit (s.extract k s.size) n (by rw [rest_ext]; exact hn) w)
  have HTL := Lib.hid (And.intro hTl (And.intro hTs hTd))
  have hsl1 : (k : Int) ≤ (k : Int) + (n : Int) := by omega
  have hsl2 : (k : Int) + (n : Int) ≤ (s.size : Int) := by omega
  have hslt2 : ((k : Int) + (n : Int)).toNat = k + n := by omega
  have HT := Lib.hid hT
  clear hn hT hTl hTs hTd
  go_enter Tryd.func17, Tryd.ntmps17
  go_wp2_with fail
  refine (HRN.out _).mono ?_
  rintro e w1 ⟨rfl, hx⟩
  have HB1 := Lib.hid ((HB.out.ext hx).alloc (.stringIter (s.extract k (k + n)) 0))
  have E1 := Lib.hid (show Ext w (w1.iter (s.extract k (k + n)) 0) from (bel_call HE.out hx).alloc (bel_call HE.out hx).size _)
  have I1 := Lib.hid (World.iter_heap w1 (s.extract k (k + n)) 0)
  have hlt1 := (HB.out.ext hx).lt
  clear hx HB HE HRN
  have HT0 := HT.out
  rw [HT0] at HB1 E1 I1
  go_wp2_with fail
  clear HT0 hsl1 hsl2 hslt2
  go_loopw [6] (fun z wr => ∃ p, p ≤ T.size ∧ z = .int .i64 (num (T.data.toList.take p) : Int) ∧ Hid (wr.heap[w1.heap.size]? = some (.stringIter T p)) ∧ Hid (Ext w wr) ∧ Hid (Blk wr w.heap.size lxz 32)) (fun _ wr => T.size - wr.iterPos w1.heap.size)
  case atStart => exact ⟨0, Nat.zero_le _, by simp [num], I1, E1, HB1⟩
  case round =>
    clear I1 E1 HB1
    obtain ⟨p, hp, rfl, hit, hE, hB⟩ := hrel
    have hpos0 := Lib.hid (iterPos_of hit.out)
    have hN := num_le T.data.toList p
    by_cases hps : p < T.size
    · have hnx : ∀ ty, (Instr.next (.pointer (some ⟨w1.heap.size, 0, none⟩)) true ty).run Tryd.prog wr = _ := fun ty => Lib.run_next_any_at wr w1.heap.size T p ty hit.out hps
      obtain ⟨C, hC⟩ := lx_unc T p hps
      have hCg := rest_get hC
      have hCd := HTL.out.2.2 C (List.mem_of_getElem? hCg)
      have hCr : 48 ≤ C.toNat ∧ C.toNat ≤ 57 := by unfold dgt at hCd; simpa using hCd
      have hst := num_step T.data.toList p C hCg
      rw [dec_low T p C _ hC (by omega)] at hnx
      have hit2 := Lib.hid (Lib.iterAt_heap wr w1.heap.size T p (p + 1) hit.out)
      have hE2 := Lib.hid (Lib.below_iterAt hE.out (k := w1.heap.size) (by omega) T (p + 1))
      have hB2 := Lib.hid (show Blk (wr.iterAt w1.heap.size T (p + 1)) w.heap.size lxz 32 from by
        have := hB.out
        unfold Blk at this ⊢
        rw [Lib.iterAt_other _ _ _ _ _ (by omega)]; exact this)
      obtain ⟨W1, hW1⟩ : ∃ W1, W1 = wr.iterAt w1.heap.size T (p + 1) := ⟨_, rfl⟩
      simp only [] at hnx
      rw [← hW1] at hnx hit2 hE2 hB2
      have HST := Lib.hid hst
      have HP2 := Lib.hid (iterPos_of hit2.out)
      clear hW1 hC hCg hCd hst hit hE hB
      generalize num (T.data.toList.take p) = N at hN HST ⊢
      generalize C.toNat = d at hCr HST hnx
      go_wp2_with fail
      go_roundw
      case rel =>
        refine ⟨p + 1, by omega, ?_, hit2, hE2, hB2⟩
        rw [HST.out]
        exact congrArg (Value.int .i64) (by omega)
      case measure => rw [HP2.out, hpos0.out]; omega
    · have hnx : ∀ ty, (Instr.next (.pointer (some ⟨w1.heap.size, 0, none⟩)) true ty).run Tryd.prog wr = _ := fun ty => Lib.run_next_end_at wr w1.heap.size T p ty hit.out hps
      have hpT : T.data.toList.take p = (rest s k).take n := by
        rw [List.take_of_length_le (by rw [Array.length_toList]; show T.size ≤ p; omega)]
        exact HTL.out.1
      rw [hpT, HN0.out] at hN ⊢
      have EZ := Lib.hid (ext_set9 hE.out (Nat.le_refl _) (.int .i64 2) (.int .i64 (k : Int)) (.int .i64 ((k : Int) + n)) (.string ⟨#[]⟩) (.int .i64 (N0 : Int)) (.int .u64 0) (.int .u64 0) (.int .u64 0) (.int .u64 0))
      clear hpT hE hit
      have kb := hB.out
      have z0 := kb.cell 0
      have f0 := kb.free 0
      have z1 := kb.cell 1
      have f1 := kb.free 1
      have z2 := kb.cell 2
      have f2 := kb.free 2
      have z3 := kb.cell 3
      have f3 := kb.free 3
      have z4 := kb.cell 4
      have f4 := kb.free 4
      have z5 := kb.cell 5
      have f5 := kb.free 5
      have z6 := kb.cell 6
      have f6 := kb.free 6
      have z7 := kb.cell 7
      have f7 := kb.free 7
      have z8 := kb.cell 8
      have f8 := kb.free 8
      have hltb := kb.lt
      have kz := Lib.hid (((((((((kb.set 0 (.int .i64 2)).set 1 (.int .i64 (k : Int))).set 2 (.int .i64 ((k : Int) + n))).set 3 (.string ⟨#[]⟩)).set 4 (.int .i64 (N0 : Int))).set 5 (.int .u64 0)).set 6 (.int .u64 0)).set 7 (.int .u64 0)).set 8 (.int .u64 0))
      clear kb
      go_wp2_with fail
      have y0 := kz.out.cell 0
      have y1 := kz.out.cell 1
      have y2 := kz.out.cell 2
      have y3 := kz.out.cell 3
      have y4 := kz.out.cell 4
      have y5 := kz.out.cell 5
      have y6 := kz.out.cell 6
      have y7 := kz.out.cell 7
      have y8 := kz.out.cell 8
      refine bodyPost_ret (v := .agg (lcs 2 k ((k : Int) + n) ⟨#[]⟩ (N0 : Int) 0 0 0 0)) ?_ rfl ⟨rfl, EZ.out⟩
      simp [results, Tryd.results17, go_sem, y0, y1, y2, y3, y4, y5, y6, y7, y8]
end Go.Proofs.YtnecafokkhhhhaaDoor
