/- How many expressions: bolterlaw8.size. -/
import Derived.Test.YtnmdfhnfheekgaaDoorXp
import Derived.BigQuiet
namespace Go.Proofs.YtnmdfhnfheekgaaDoor
open Go Go.RowKit
mutual
def sz : Xp → Nat → Nat
  | .mk _ _ _ _ _ _ l, d => if 5000 < d then 1048576 else szs l (d + 1) 1
def szs : List Xp → Nat → Nat → Nat
  | [], _, n => n
  | x :: l, d, n => if n < 1048576 then szs l d (n + sz x d) else n
end
theorem sz_eq (x : Xp) (d : Nat) : sz x d = if 5000 < d then 1048576 else szs x.args (d + 1) 1 := by cases x; simp [sz, Xp.args]
theorem szs_ge : ∀ (l : List Xp) (d n : Nat), n ≤ szs l d n
  | [], d, n => Nat.le_refl _
  | x :: l, d, n => by
    simp only [szs]
    split
    · exact Nat.le_trans (Nat.le_add_right _ _) (szs_ge l d _)
    · exact Nat.le_refl _
mutual
theorem sz_le : ∀ (x : Xp) (d : Nat), d ≤ 5001 → sz x d ≤ (5002 - d) * 1048576
  | .mk _ _ _ _ _ _ l, d, h => by
    simp only [sz]
    split
    · omega
    · exact Nat.le_trans (szs_le l (d + 1) 1 (by omega) (by omega)) (by omega)
theorem szs_le : ∀ (l : List Xp) (d n : Nat), d ≤ 5001 → n ≤ (5003 - d) * 1048576 → szs l d n ≤ (5003 - d) * 1048576
  | [], d, n, h, hn => hn
  | x :: l, d, n, h, hn => by
    simp only [szs]
    split
    · have := sz_le x d h
      exact szs_le l d _ h (by omega)
    · exact hn
end
/- Where size says few, it is how many there are. -/
mutual
theorem sz_nn : ∀ (x : Xp) (d : Nat), sz x d < 1048576 → sz x d = nn x
  | .mk _ _ _ _ _ _ l, d, h => by
    simp only [sz] at h ⊢
    split
    · rename_i h5; rw [if_pos h5] at h; omega
    · rename_i h5
      rw [if_neg h5] at h
      rw [szs_nn l (d + 1) 1 h]
      simp only [nn]; omega
theorem szs_nn : ∀ (l : List Xp) (d n : Nat), szs l d n < 1048576 → szs l d n = n + nns l
  | [], d, n, h => rfl
  | x :: l, d, n, h => by
    simp only [szs] at h ⊢
    split
    · rename_i h5
      rw [if_pos h5] at h
      have h1 := szs_ge l d (n + sz x d)
      rw [szs_nn l d _ h, sz_nn x d (by omega)]
      simp only [nns]; omega
    · rename_i h5; rw [if_neg h5] at h; omega
end
theorem Xat.cells {w : World} {B : Nat} {a : Option Addr} {c : Nat} {L : List Xp} (h : Xat w B a c L) {k : Nat} (hk : k < L.length) : ∃ b o, a = some ⟨b, o, none⟩ ∧ b < B ∧ ∃ (y : Xp) (a' : Option Addr) (c' : Nat), L[k] = y ∧ y ∈ L ∧ Xok y ∧ Xat w B a' c' y.args ∧
    w.cell? ⟨b, o + k * 10, none⟩ = some (.int .i64 y.op) ∧ w.cell? ⟨b, o + k * 10 + 1, none⟩ = some (.int .i64 y.at_) ∧ w.cell? ⟨b, o + k * 10 + 2, none⟩ = some (.int .u64 (wd y.set 0)) ∧ w.cell? ⟨b, o + k * 10 + 3, none⟩ = some (.int .u64 (wd y.set 1)) ∧
    w.cell? ⟨b, o + k * 10 + 4, none⟩ = some (.int .u64 (wd y.set 2)) ∧ w.cell? ⟨b, o + k * 10 + 5, none⟩ = some (.int .u64 (wd y.set 3)) ∧ w.cell? ⟨b, o + k * 10 + 6, none⟩ = some (.string y.text) ∧ w.cell? ⟨b, o + k * 10 + 7, none⟩ = some (.int .i64 y.mn) ∧ w.cell? ⟨b, o + k * 10 + 8, none⟩ = some (.int .i64 y.mx) ∧ w.cell? ⟨b, o + k * 10 + 9, none⟩ = some (.slice a' y.args.length c') := by
  obtain ⟨b, o, ha, hb, ga, gc, he⟩ := h.at (by omega)
  obtain ⟨h1, h2, h3⟩ := he k hk
  exact ⟨b, o, ha, hb, L[k], ga k, gc k, rfl, List.getElem_mem hk, h1, h3, h2 0 (by decide), h2 1 (by decide), h2 2 (by decide), h2 3 (by decide), h2 4 (by decide), h2 5 (by decide), h2 6 (by decide), h2 7 (by decide), h2 8 (by decide), h2 9 (by decide)⟩
set_option maxHeartbeats 1000000 in
set_option maxRecDepth 20000 in
theorem size_any : ∀ (x : Xp) (d : Nat) (di : Int) (a : Option Addr) (c : Nat) (w : World), di = (d : Int) → d ≤ 5001 → Xat w w.heap.size a c x.args →
    Calls Tryd.prog 7 #[xv x a c, .int .i64 di] w fun e w' => e = .returned (.int .i64 (sz x d : Nat)) ∧ Ext w w' := by
  intro x
  induction x using Xp.ind with
  | h x ih =>
  intro d di a c w hdi hd hx
  have IH := Lib.hid ih
  have HX := Lib.hid hx
  have hlen := hx.len
  have hmx : maxLen ≤ 9223372036854775807 := by decide
  have hsz := sz_le x d hd
  rw [sz_eq] at hsz ⊢
  subst hdi
  clear ih hx
  have hb := Blk.new w (xbx x a c) 28
  have hE : Ext w (w.alloc (.cells (xbx x a c) 28)) := by go_grown
  by_cases h5 : 5000 < d
  · rw [if_pos h5]
    have d1 : decide ((5000 : Int) < (d : Int)) = true := by simp; omega
    go_enter Tryd.func7, Tryd.ntmps7
    go_wp2_with fail
    go_ret
    exact ⟨rfl, hE⟩
  · rw [if_neg h5] at hsz ⊢
    have d1 : decide ((5000 : Int) < (d : Int)) = false := by simp; omega
    have hS := Lib.hid hsz
    have hL := Lib.hid hlen
    clear hlen hsz
    go_enter Tryd.func7, Tryd.ntmps7
    go_wp2_with fail
    generalize w.alloc (Obj.cells (xbx x a c) 28) = w1 at *
    have HB := Lib.hid hb
    have HE := Lib.hid hE
    clear hb hE
    go_loopw [5, 6] (fun n i wr => ∃ k m : Nat, k ≤ x.args.length ∧ i = .int .i64 k ∧ n = .int .i64 m ∧ Hid (szs (x.args.drop k) (d + 1) m = szs x.args (d + 1) 1) ∧ Hid (Ext w1 wr)) (fun _ i _ => x.args.length - (intOf i).toNat)
    case atStart => exact ⟨0, 1, Nat.zero_le _, rfl, rfl, Lib.hid (by simp), Lib.hid (Below.refl _ _)⟩
    case round =>
      obtain ⟨k, m, hk, rfl, rfl, hm, hEr⟩ := hrel
      have z9 := ((HB.out).ext hEr.out).cell 9
      simp only [xbx, List.getElem?_toArray, List.getElem?_cons_succ, List.getElem?_cons_zero] at z9
      by_cases hkl : k < x.args.length
      · have k1 : decide ((k : Int) < (x.args.length : Int)) = true := by simp; omega
        have hge := szs_ge (x.args.drop k) (d + 1) m
        rw [hm.out] at hge
        by_cases hml : m < 1048576
        · have k2 : decide ((m : Int) < (1048576 : Int)) = true := by simp; omega
          obtain ⟨b, o, rfl, hbb, y, a', c', hy, hmem, hok, hya, c0, c1, c2, c3, c4, c5, c6, c7, c8, c9⟩ := ((HX.out.ext HE.out).ext hEr.out).cells hkl
          have hds : szs (x.args.drop k) (d + 1) m = szs (x.args.drop (k + 1)) (d + 1) (m + sz y (d + 1)) := by
            rw [List.drop_eq_getElem_cons hkl, hy]; simp only [szs]; rw [if_pos hml]
          have hbd := szs_ge (x.args.drop (k + 1)) (d + 1) (m + sz y (d + 1))
          rw [← hds, hm.out] at hbd
          have HC := Lib.hid (IH.out y hmem (d + 1) ((d : Int) + 1) a' c' wr (by omega) (by omega) hya)
          have hsum : m + sz y (d + 1) ≤ 5246025728 := by have := hS.out; omega
          have HD := Lib.hid hds
          have i0 : (0 : Int) ≤ (k : Int) := by omega
          have i1 : (k : Int) + 1 ≤ 9223372036854775807 := by have := hL.out; omega
          clear hds hbd hge hy hya hok hmem
          go_wp2_with fail
          refine HC.out.mono ?_
          rintro e w2 ⟨rfl, hx2⟩
          go_wp2_with fail
          go_roundw
          case rel => exact ⟨k + 1, m + sz y (d + 1), by omega, by go_num, by go_num, Lib.hid (by rw [← HD.out]; exact hm.out), Lib.hid (bel_call hEr.out hx2)⟩
          case measure => simp [intOf] <;> omega
        · have k2 : decide ((m : Int) < (1048576 : Int)) = false := by simp; omega
          have hf : szs (x.args.drop k) (d + 1) m = m := by
            rw [List.drop_eq_getElem_cons hkl]; simp only [szs]; rw [if_neg hml]
          have hF := Lib.hid (hf.symm.trans hm.out)
          clear hf hge
          go_wp2_with fail
          go_ret
          exact ⟨by rw [← hF.out]; rfl, bel_call HE.out hEr.out⟩
      · have k1 : decide ((k : Int) < (x.args.length : Int)) = false := by simp; omega
        have hf : szs (x.args.drop k) (d + 1) m = m := by
          rw [List.drop_eq_nil_of_le (by omega)]; rfl
        have hF := Lib.hid (hf.symm.trans hm.out)
        clear hf
        go_wp2_with fail
        go_ret
        exact ⟨by rw [← hF.out]; rfl, bel_call HE.out hEr.out⟩
end Go.Proofs.YtnmdfhnfheekgaaDoor
