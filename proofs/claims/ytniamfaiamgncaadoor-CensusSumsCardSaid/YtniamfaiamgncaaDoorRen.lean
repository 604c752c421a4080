/- minimise.renumbered: numbers in the order of the least states. -/
import Derived.Test.YtniamfaiamgncaaDoorBfp
import Derived.Test.YtniamfaiamgncaaDoorDen
import Derived.Handy
namespace Go.Proofs.YtniamfaiamgncaaDoor
open Go Go.RowKit
theorem info_int : (Tryd.prog.info? 3).map (fun i => (i.zero, i.size, i.bytes)) = some (some (.int .i64 0), 1, 8) := by kernel_rfl
theorem own_ne_map {P : Program} {w : World} {base e sz n k m b : Nat} {v : Value} {xs : List Value} {f : Value → Option Value} (h : w.ownsRow base e sz v n xs) (hm : MapAt P k w b m f) : v.ownBlock ≠ some b := by
  intro q
  obtain ⟨es, clock, hb, _⟩ := hm
  rcases h.2 with ⟨rfl, _⟩ | ⟨g, cap, cur, rfl, _, hg, _⟩
  · cases q
  · simp [Value.ownBlock] at q
    subst q
    rw [hb] at hg
    cases hg
theorem iv_one (x : Int) : ∀ u ∈ [iv x], u.oneCell' = true := by
  intro u hu
  rw [List.mem_singleton.1 hu]; rfl
theorem ext_map {w w1 w2 : World} {b : Nat} (h : Ext w w1) (hg : w1.grownBy w2 (some b)) (hb : w.heap.size ≤ b) : Ext w w2 :=
  ⟨hg.os.trans h.os, hg.tape.trans h.tape, hg.output.trans h.output, Nat.le_trans h.size hg.size, fun j hj => (hg.block j (Nat.lt_of_lt_of_le hj h.size) (fun e => by have := Option.some.inj e; omega)).trans (h.block j hj)⟩
theorem take_map {α β : Type} (f : α → β) (L : List α) {k : Nat} (h : k < L.length) : (L.take (k + 1)).map f = (L.take k).map f ++ [f L[k]] := by
  rw [List.take_succ_eq_append_getElem h, List.map_append]; rfl
set_option maxHeartbeats 1000000 in
set_option maxRecDepth 20000 in
theorem ren_any (L : List Int) (v : Value) (w : World) (h : Ints w v L) (hl : L.length ≤ 100000) :
    Calls Tryd.prog 108 #[v] w fun e w' => ∃ v', e = .returned v' ∧ w'.ownsRow w.heap.size 3 1 v' L.length ((ren L).map iv) ∧ Ext w w' := by
  obtain ⟨a, cap, rfl, _⟩ := h.shape
  obtain ⟨i0, hi, hz0, hz1, hz2⟩ := info_parts info_int
  have H := Lib.hid h
  have hmm := @run_makeMap Tryd.prog
  clear h
  go_enter Tryd.func108, Tryd.ntmps108
  go_wp2_with fail
  go_loopw [3, 10] (fun v i wr => ∃ k : Nat, k ≤ L.length ∧ i = .int .i64 k ∧ Hid (wr.ownsRow w.heap.size 3 1 v k (((ren L).take k).map iv)) ∧ Hid (Nm wr w.heap.size ((L.take k).foldl nad [])) ∧ Hid (Ext w wr)) (fun _ i _ => L.length - (intOf i).toNat)
  case atStart => exact ⟨0, Nat.zero_le _, rfl, Lib.hid (own_nil _ _ _ _), Lib.hid (MapAt.congr (MapAt.made _ _ _) (fun v => by unfold numf; split <;> rfl)), Lib.hid (by go_grown)⟩
  case round =>
    obtain ⟨k, hk, rfl, hown, hm, hE⟩ := hrel
    by_cases hkl : k < L.length
    · obtain ⟨b, o, rfl, hb, hc, r1, r2⟩ := (H.out.ext hE.out).cell hkl
      have HN := Lib.hid (num_any _ L[k] _ _ hm.out r1 r2)
      have HR := Lib.hid (ren_take L hkl)
      have HK : Hid (∀ R : List Int, (L.take (k + 1)).foldl nad [] = nad ((L.take k).foldl nad []) L[k]) := Lib.hid (fun _ => by rw [List.take_succ_eq_append_getElem hkl, List.foldl_append]; rfl)
      have HT : Hid (((ren L).take (k + 1)).map iv = ((ren L).take k).map iv ++ [iv ((L.foldl nad []).idxOf L[k] : Nat)]) := Lib.hid (by
        rw [take_map iv (ren L) (by simpa [ren] using hkl)]; simp [ren])
      rw [HR.out] at HN
      obtain ⟨x, hx⟩ : ∃ x, L[k] = x := ⟨_, rfl⟩
      obtain ⟨y, hy⟩ : ∃ y, (L.foldl nad []).idxOf L[k] = y := ⟨_, rfl⟩
      rw [hy] at HN HT
      rw [hx] at hc HN
      have HX := Lib.hid hx
      clear hx hy r1 r2
      go_wp2_with fail
      refine HN.out.mono ?_
      rintro e w1 ⟨rfl, m1, g1, s1⟩
      have HO1 := Lib.hid (hown.out.kept g1 (.inr (own_ne_map hown.out hm.out)))
      have HM1 := Lib.hid m1
      have HE1 := Lib.hid (ext_map hE.out g1 (Nat.le_refl _))
      clear m1 g1 s1
      go_wp2_with (at_builtin; refine wpList_append_own _ rfl _ _ 23 rfl w.heap.size 3 i0 (.int .i64 0) 1 8 Tryd.underlying23 hi hz0 hz1 hz2 rfl (by decide) _ _ _ rfl (HO1.out.alloc _) ⟨_, 0, none⟩ 1 1 [iv y] rfl rfl (cell_nwb _ [iv y] _ _ (by simp)) (iv_one _) (by unfold maxLen; omega) (by omega) (by have := HE1.out.size; simp; omega) ?_; intro v1 w4 hown1 hgrow1 hnil1)
      have hne := own_ne_map HO1.out HM1.out
      have HM4 := Lib.hid ((HM1.out.ext (by go_grown)).grown hgrow1 (fun q => hne q.symm))
      have HE4 := Lib.hid (ext_gr (bel_call HE1.out (by go_grown)) hgrow1 (HO1.out.alloc _) (Nat.le_refl _))
      go_wp2_with fail
      go_roundw
      case rel => exact ⟨k + 1, by omega, by go_num, Lib.hid (by rw [HT.out]; exact hown1), Lib.hid (by rw [HK.out [], HX.out]; exact HM4.out), HE4⟩
      case measure => simp [intOf]; omega
    · have e : k = L.length := by omega
      go_wp2_with fail
      go_ret
      exact ⟨_, rfl, by have := hown.out; rw [e, List.take_of_length_le (by simp [ren])] at this; exact this, hE.out⟩
end Go.Proofs.YtniamfaiamgncaaDoor
