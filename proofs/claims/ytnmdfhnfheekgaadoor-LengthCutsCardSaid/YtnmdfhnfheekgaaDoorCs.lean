/- Where tokens end: length.Cuts. -/
import Derived.Test.YtnmdfhnfheekgaaDoorCu
import Derived.Test.YtnmdfhnfheekgaaDoorOw
import Derived.Test.YtnmdfhnfheekgaaDoorLen
import Derived.Test.YtnmdfhnfheekgaaDoorNew
namespace Go.Proofs.YtnmdfhnfheekgaaDoor
open Go Go.RowKit
def ccl (p : Nat × Nat) : List Value := [.int .i64 (p.1 : Int), .int .i64 (p.2 : Int)]
def cutk (L : List Cr) : List (Nat × Nat) := L.map fun r => (cut1 r).getD (0, 0)
theorem cutk_take {L : List Cr} {k : Nat} (h : k < L.length) {p : Nat × Nat} (hp : cut1 L[k] = some p) : (cutk (L.take (k + 1))).flatMap ccl = (cutk (L.take k)).flatMap ccl ++ ccl p := by
  unfold cutk
  rw [List.take_succ_eq_append_getElem h, List.map_append, List.flatMap_append]
  simp only [List.map_cons, List.map_nil, List.flatMap_cons, List.flatMap_nil, List.append_nil, hp, Option.getD_some]
theorem info_cut : (Tryd.prog.info? 64).map (fun i => (i.zero, i.size, i.bytes)) = some (some (.agg #[.int .i64 0, .int .i64 0]), 2, 16) := by kernel_rfl
/-- What Cuts tells of rules that may be, and of those that may not. -/
def CutsRes (L : List Cr) (aA aT : Addr) (w : World) (e : Ending) (w' : World) : Prop :=
  (¬ Mays L ∧ e = .returned (.tuple #[.slice none 0 0, errAt aA])) ∨
  (Mays L ∧ ∃ (i : Nat) (h : i < L.length), cut1 L[i] = none ∧ (∀ j (h : j < L.length), j < i → cut1 L[j] ≠ none) ∧ ∃ v, e = .returned (.tuple #[.slice none 0 0, v]) ∧ ErrOf w' [.rule ((i : Int) + 1)] v aT) ∨
  (Mays L ∧ (∀ j (h : j < L.length), cut1 L[j] ≠ none) ∧ ∃ v, e = .returned (.tuple #[v, .nilIface]) ∧ w'.ownsRow w.heap.size 64 2 v L.length ((cutk L).flatMap ccl))
set_option maxHeartbeats 4000000 in
set_option maxRecDepth 20000 in
theorem cuts_any (L : List Cr) (a : Option Addr) (c : Nat) (aA aT : Addr) (w : World) (hx : Cat w w.heap.size a c L) (hA : Ag w aA aT) :
    Calls Tryd.prog 15 #[.slice a L.length c] w fun e w' => CutsRes L aA aT w e w' ∧ Ext w w' := by
  have hc := cores_any L a c w hx
  have HX := Lib.hid hx
  have HA := Lib.hid hA
  by_cases hm : Mays L
  rotate_left
  · rw [decide_eq_false hm] at hc
    have HC := Lib.hid hc
    have HM := Lib.hid hm
    clear hx hA hc hm
    go_enter Tryd.func15, Tryd.ntmps15
    go_wp2_with fail
    refine HC.out.mono ?_
    rintro e w1 ⟨rfl, x1⟩
    have g0 := (HA.out.ext x1).arg
    have X1 := Lib.hid x1
    clear x1
    go_wp2_with fail
    go_region
    go_wp2_with fail
    go_ret2
    exact ⟨.inl ⟨HM.out, rfl⟩, Below.drew X1.out⟩
  · rw [decide_eq_true hm] at hc
    obtain ⟨i0, hi, hz0, hz1, hz2⟩ := info_parts info_cut
    have HC := Lib.hid hc
    have HM := Lib.hid hm
    have hl200 := hm.1
    clear hx hA hc hm
    go_enter Tryd.func15, Tryd.ntmps15
    go_wp2_with fail
    refine HC.out.mono ?_
    rintro e w1 ⟨rfl, x1⟩
    have X1 := Lib.hid x1
    clear x1 HC
    go_wp2_with fail
    go_loopw [4, 15] (fun v i wr => ∃ k : Nat, k ≤ L.length ∧ i = .int .i64 k ∧ Hid (wr.ownsRow w.heap.size 64 2 v k ((cutk (L.take k)).flatMap ccl)) ∧ Hid (∀ j (h : j < L.length), j < k → cut1 L[j] ≠ none) ∧ Hid (Ext w wr)) (fun _ i _ => L.length - (intOf i).toNat)
    case atStart => exact ⟨0, Nat.zero_le _, rfl, Lib.hid (own_nil _ _ _ _), Lib.hid (fun j _ h => by omega), X1⟩
    case round =>
      obtain ⟨k, hk, rfl, hown, hnn, hEr⟩ := hrel
      by_cases hkl : k < L.length
      · have k1 : decide ((k : Int) < (L.length : Int)) = true := by simp; omega
        obtain ⟨b, o, rfl, hbb, r, a1, c1, a2, c2, hy, hmem, hok, hok2, hya, hyb, hcc⟩ := (HX.out.ext hEr.out).cells hkl
        have hrg := Lib.hid hcc.range
        have hEa : Ext wr (wr.alloc (.cells (cbx r a1 c1 a2 c2) 48)) := by go_grown
        have hBn := Lib.hid (Blk.new wr (cbx r a1 c1 a2 c2) 48)
        have hrg3 : Hid ((wr.alloc (.cells (cbx r a1 c1 a2 c2) 48)).rangeAt wr.heap.size 0 (ccs r a1 c1 a2 c2)) := Lib.hid (fun j v hv => by rw [Nat.zero_add, hBn.out.cell j]; simpa using hv)
        have hgood := HM.out.2 r hmem
        have hg1 := chk_good hgood.1
        have hg2 : r.ht = true → Good r.t ∧ nn r.t ≤ 65536 := fun h => by
          have := hgood.2
          unfold Tmb at this
          rw [if_pos h] at this
          exact chk_good this
        have hCU := Lib.hid (cutof_any r a1 c1 a2 c2 _ hg1.1 hg1.2 hg2 (hya.ext hEa) (hyb.ext hEa))
        have HEa := Lib.hid hEa
        have i0' : (0 : Int) ≤ (k : Int) := by omega
        have hyk := Lib.hid hy
        clear hEa hya hyb hcc hy hmem hok hok2 hgood hg1 hg2
        go_upto_region 6 with fail
        iterate 8 go_step
        refine wp_load_mid 48 (.tmp 18) rfl b (o + k * 21) rfl (ccs r a1 c1 a2 c2) _ hrg.out Tryd.underlying48 rfl core_info ?_
        simp only [Act.put, List.setIfInBounds_toArray, List.set_cons_succ, List.set_cons_zero]
        iterate 8 go_step
        refine wp_store_row 48 (.tmp 6) (.tmp 19) rfl wr.heap.size ((ccs r a1 c1 a2 c2).toArray) rfl rfl 48 _ (heap_alloc_last _ _) core_info rfl (cbx_one _ _ _ _ _) ?_
        rw [World.setRow_alloc_new]
        simp only [Act.put]
        go_upto_region 7 with fail
        iterate 2 go_step
        refine wp_load_mid 48 (.tmp 6) rfl wr.heap.size 0 rfl (ccs r a1 c1 a2 c2) _ hrg3.out Tryd.underlying48 rfl core_info ?_
        simp only [Act.put, List.setIfInBounds_toArray, List.set_cons_succ, List.set_cons_zero]
        cases hq : cut1 r with
        | none =>
          rw [hq] at hCU
          rw [show cutv none = .agg #[.int .i64 0, .int .i64 0] from rfl, show (none : Option (Nat × Nat)).isSome = false from rfl] at hCU
          have HQ := Lib.hid hq
          clear hq hrg3 hrg
          as_aux_lemma =>
            go_wp2_with fail
            refine hCU.out.mono ?_
            rintro e w3 ⟨rfl, x3⟩
            have X3 := Lib.hid (bel_call (bel_call hEr.out HEa.out) x3)
            have hE4 : Ext w3 (w3.alloc (.cells #[.int .i64 0, .int .i64 0] 64)) := by go_grown
            have hA4 := HA.out.ext (bel_call X3.out hE4)
            have g0 := hA4.trl
            have hIR := Lib.hid (fun n => InRule_err [] (errAt aT) aT n _ (ErrOf.base hA4.rt))
            have i1 : (k : Int) + 1 ≤ 201 := by omega
            have HE4 := Lib.hid hE4
            clear x3 hE4 hA4
            go_wp2_with fail
            refine (hIR.out _).mono ?_
            rintro e w5 ⟨v5, rfl, hv5, x5⟩
            have HV5 := Lib.hid hv5
            have X5 := Lib.hid (bel_call (bel_call X3.out HE4.out) x5)
            clear x5 hv5
            go_wp2_with fail
            go_ret2
            refine ⟨.inr (.inl ⟨HM.out, k, hkl, by rw [hyk.out]; exact HQ.out, hnn.out, _, rfl, HV5.out⟩), X5.out⟩
        | some p =>
          obtain ⟨p1, p2⟩ := p
          rw [hq] at hCU
          rw [show cutv (some (p1, p2)) = .agg #[.int .i64 (p1 : Int), .int .i64 (p2 : Int)] from rfl, show (some (p1, p2)).isSome = true from rfl] at hCU
          have HTK := Lib.hid (cutk_take hkl (by rw [hyk.out]; exact hq))
          have HNN := Lib.hid (show ∀ j (h : j < L.length), j < k + 1 → cut1 L[j] ≠ none from fun j h hj => by
            by_cases hjk : j < k
            · exact hnn.out j h hjk
            · obtain rfl : j = k := by omega
              rw [hyk.out, hq]; simp)
          clear hq hrg3 hrg
          as_aux_lemma =>
            go_wp2_with fail
            refine hCU.out.mono ?_
            rintro e w3 ⟨rfl, x3⟩
            have X3 := Lib.hid (bel_call (bel_call hEr.out HEa.out) x3)
            have hown3 := Lib.hid (own_xt (own_xt hown.out HEa.out) x3)
            clear x3
            go_wp2_with (at_builtin; refine wpList_append_own _ rfl (.tmp 31) (.tmp 33) 50 rfl w.heap.size 64 i0 (.agg #[.int .i64 0, .int .i64 0]) 2 16 Tryd.underlying50 hi hz0 hz1 hz2 rfl (by decide) _ _ _ rfl ((hown3.out.alloc _).alloc _) ⟨_, 0, none⟩ 1 1 (ccl (p1, p2)) rfl rfl (cell_nwb _ (ccl (p1, p2)) _ _ (by simp)) (by intro u hu; simp [ccl] at hu; rcases hu with rfl | rfl <;> rfl) (by unfold maxLen; omega) (by omega) (by have := X3.out.size; simp; omega) ?_; intro v1 w4 hown1 hgrow1 hnil1)
            have hown5 := Lib.hid hown1
            have X5 := Lib.hid (ext_gr (bel_call (bel_call X3.out (by go_grown)) (by go_grown)) hgrow1 ((hown3.out.alloc _).alloc _) (Nat.le_refl _))
            clear hown1 hgrow1 hnil1
            go_wp2_with fail
            go_roundw
            case rel => exact ⟨k + 1, by omega, by go_num, Lib.hid (by rw [HTK.out]; exact hown5.out), HNN, X5⟩
            case measure => simp [intOf] <;> omega
      · have k1 : decide ((k : Int) < (L.length : Int)) = false := by simp; omega
        obtain rfl : k = L.length := by omega
        rw [List.take_length] at hown
        go_wp2_with fail
        go_ret2
        exact ⟨.inr (.inr ⟨HM.out, fun j h => hnn.out j h h, _, rfl, hown.out⟩), hEr.out⟩
end Go.Proofs.YtnmdfhnfheekgaaDoor
