/- Package census: the word at a place. -/
import Derived.Test.YtniamfaiamgncaaDoorKt9
namespace Go.Proofs.YtniamfaiamgncaaDoor
open Go Go.RowKit
/-- What Nth tells. -/
def NthR (w : World) (B : Nat) (v : Value) (b : Bool) : Option (List Nat) → Prop
  | some l => b = true ∧ w.ownsRow B 5 1 v l.length (l.map bv)
  | none => b = false ∧ v = .slice none 0 0
theorem NthR.ext {w w' : World} {B : Nat} {v : Value} {b : Bool} {o : Option (List Nat)} (h : NthR w B v b o) (hx : Ext w w') : NthR w' B v b o := by
  cases o with
  | some l => exact ⟨h.1, own_xx h.2 hx⟩
  | none => exact h
/-- Where the search for a length stands. -/
def FindN (dl : Nat → Nat → Nat) (lab : Nat → Int) (x : Int) (i k k0 : Nat) : Prop := k < T64 ∧ findN dl lab x (65 - i) i k = findN dl lab x 65 0 k0
theorem FindN.step {dl : Nat → Nat → Nat} {lab : Nat → Int} {x : Int} {i k k0 : Nat} (h : FindN dl lab x i k k0) (hi : i < 65) (hk : ¬ k < cnt dl lab x i 0) : FindN dl lab x (i + 1) (k - cnt dl lab x i 0) k0 := by
  refine ⟨by have := h.1; omega, ?_⟩
  rw [← h.2, show 65 - i = (65 - (i + 1)) + 1 by omega, findN, if_neg hk]
theorem FindN.hit {dl : Nat → Nat → Nat} {lab : Nat → Int} {x : Int} {i k k0 : Nat} (h : FindN dl lab x i k k0) (hi : i < 65) (hk : k < cnt dl lab x i 0) : nthW dl lab x k0 = some (wordS dl lab x i 0 k) := by
  unfold nthW
  rw [← h.2, show 65 - i = (65 - (i + 1)) + 1 by omega, findN, if_pos hk]; rfl
theorem FindN.miss {dl : Nat → Nat → Nat} {lab : Nat → Int} {x : Int} {k k0 : Nat} (h : FindN dl lab x 65 k k0) : nthW dl lab x k0 = none := by
  unfold nthW
  rw [← h.2]; rfl
set_option maxHeartbeats 4000000 in
set_option maxRecDepth 20000 in
theorem nth_any {w0 w : World} {tb gf n k : Nat} {vN : Value} {d : Dd} {x : Int} (h : Tbl w0 w tb gf n 0 vN d (TT d.to d.lab x 0)) (hd : d.Ok) (hn : d.nx.length = n) (hkT : k < T64) :
    Calls Tryd.prog 76 #[.pointer (some ⟨tb, 0, none⟩), .int .u64 (k : Int)] w fun e w' =>
      ∃ v b, e = .returned (.tuple #[v, .bool b]) ∧ NthR w' w0.heap.size v b (nthW d.to d.lab x k) ∧ Ext w0 w' := by
  have x1 := ext_box w (pcl k) 122
  have HKB := Lib.hid (Blk.new w (pcl k) 122)
  have HT := Lib.hid (h.ext x1)
  have HW0 := Lib.hid h.ex.size
  have HO := Lib.hid hd
  have HN := Lib.hid hn
  have F0 := Lib.hid (show FindN d.to d.lab x 0 k k from ⟨hkT, rfl⟩)
  generalize hR : nthW d.to d.lab x k = R
  have HR := Lib.hid hR
  clear x1 h hd hn hkT hR
  go_enter Tryd.func76, Tryd.ntmps76
  go_wp2_with fail
  obtain ⟨kb, hkb⟩ : ∃ b, w.heap.size = b := ⟨_, rfl⟩
  simp only [hkb] at HKB ⊢
  have HW0 : Hid (w0.heap.size ≤ kb) := by rw [hkb] at HW0; exact HW0
  generalize w.alloc (.cells (pcl k) 122) = w1 at *
  clear hkb
  go_loopw [7] (fun s7 wr => ∃ i kk k' : Nat, i ≤ 65 ∧ kk ≤ 64 ∧ s7 = .int .i64 i ∧ Hid (FindN d.to d.lab x i k' k) ∧ Hid (Blk wr kb (pcl k') 122) ∧ Hid (Tbl w0 wr tb gf n kk vN d (TT d.to d.lab x kk))) (fun s7 _ => 65 - (intOf s7).toNat)
  case atStart => exact ⟨0, 0, k, by omega, by omega, rfl, F0, HKB, HT⟩
  case round =>
    clear F0 HKB HT
    obtain ⟨i, kk, k', hi, hkk, rfl, hF, hK, hT⟩ := hrel
    by_cases hi6 : i < 65
    · go_wp2_with fail
      refine (words_any (l := i) hT.out HO.out HN.out (by omega) hkk).mono ?_
      rintro e w3 ⟨k3, hk3, rfl, t3, f3⟩
      have hne1 : kb ≠ tb := fun e => hT.out.bk.ne_sb hK.out (by decide) e.symm
      have hne2 : kb ≠ gf := fun e => hT.out.fm.ne_blk hK.out (by decide) e.symm
      have K3 := Lib.hid (f3.blk hK.out (fun q => q.elim hne1 hne2))
      have T3 := Lib.hid t3
      have hk64 : k3 ≤ 64 := by omega
      have HI3 := Lib.hid (show i ≤ k3 by omega)
      clear t3 f3 hK hT hne1 hne2 hk3
      go_wp2_with fail
      refine (within_any kb k' _ w3 K3.out hF.out.1).mono ?_
      rintro e w4 ⟨rfl, b4, f4⟩
      have T4 := Lib.hid (T3.out.fr f4 (fun g q => by rw [q]; exact HW0.out) (fun e => T3.out.bk.ne_sb K3.out (by decide) e) (fun e => T3.out.fm.ne_blk K3.out (by decide) e))
      by_cases q : k' < cnt d.to d.lab x i 0
      · have hW := hF.out.hit hi6 q
        rw [HR.out] at hW
        subst hW
        rw [if_pos q] at b4
        have B4 := Lib.hid b4
        have HQ := Lib.hid q
        rw [decide_eq_true q]
        clear f4 K3 T3 b4 q
        have z0 := B4.out.cell 0
        go_wp2_with fail
        refine (word_any T4.out HO.out HN.out HI3.out hk64 HQ.out hF.out.1).mono ?_
        rintro e w5 ⟨v, rfl, o5, x5⟩
        obtain ⟨av, cv', rfl⟩ := own_shp o5
        have RS := Lib.hid (show NthR w5 w0.heap.size (.slice av i cv') true (some (wordS d.to d.lab x i 0 k')) from ⟨rfl, by
          rw [(wordS_spec i 0 k' HQ.out).1]
          exact World.ownsRow.mono o5 T4.out.ex.size⟩)
        have EX := Lib.hid (bel_call T4.out.ex x5)
        clear o5 x5 z0
        go_wp2_with fail
        refine bodyPost_ret (v := .tuple #[.slice av i cv', .bool true]) (by simp [results, Tryd.results76, go_sem]) rfl ⟨_, _, rfl, RS.out, EX.out⟩
      · have F5 := Lib.hid (hF.out.step hi6 q)
        rw [if_neg q] at b4
        have B4 := Lib.hid b4
        rw [decide_eq_false q]
        clear f4 K3 T3 b4 q hF HI3
        go_wp2_with fail
        go_roundw
        case rel => exact ⟨i + 1, k3, _, by omega, hk64, by go_num, F5, B4, T4⟩
        case measure => simp [intOf]; omega
    · obtain rfl : i = 65 := by omega
      have hW := hF.out.miss
      rw [HR.out] at hW
      subst hW
      have EX := Lib.hid hT.out.ex
      clear hF hK hT
      go_wp2_with fail
      refine bodyPost_ret (v := .tuple #[.slice none 0 0, .bool false]) (by simp [results, Tryd.results76, go_sem]) rfl ⟨_, _, rfl, ⟨rfl, rfl⟩, EX.out⟩
end Go.Proofs.YtniamfaiamgncaaDoor
