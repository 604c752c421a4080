/- rows.narrow: the entry of each class by its first byte. -/
import Derived.Test.YtgcjclglhijchaaDoorGn
import Derived.Test.YtgcjclglhijchaaDoorRwq
import Derived.Test.YtgcjclglhijchaaDoorChm
namespace Go.Proofs.YtgcjclglhijchaaDoor
open Go Go.RowKit
def nfil (F : List Nat) (R : List Int) (k : Nat) : List Int := narrowR (F.take k) R ++ List.replicate (F.length - k) 0
theorem nfil_zero (F : List Nat) (R : List Int) : nfil F R 0 = List.replicate F.length 0 := rfl
theorem nfil_all (F : List Nat) (R : List Int) : nfil F R F.length = narrowR F R := by
  unfold nfil; rw [List.take_length]; simp
theorem nfil_set {F : List Nat} {R : List Int} {k : Nat} (hk : k < F.length) : (nfil F R k).set k (R.getD F[k] 0) = nfil F R (k + 1) := by
  unfold nfil narrowR
  have h1 : ((F.take k).map fun b => R.getD b 0).length = k := by rw [List.length_map, List.length_take]; omega
  rw [List.set_append_right _ _ (by omega), h1, Nat.sub_self, show F.length - k = (F.length - (k + 1)) + 1 by omega, List.replicate_succ, List.set_cons_zero, List.take_succ_eq_append_getElem hk, List.map_append, List.append_assoc]
  rfl
theorem nfil_len (F : List Nat) (R : List Int) {k : Nat} (hk : k ≤ F.length) : (nfil F R k).length = F.length := by
  unfold nfil narrowR
  rw [List.length_append, List.length_map, List.length_take, List.length_replicate]; omega
abbrev nzl (F : List Nat) : List Int := F.map fun (x : Nat) => (x : Int)
set_option maxHeartbeats 2000000 in
set_option maxRecDepth 20000 in
theorem narrow_any (R : List Int) (F : List Nat) (vr vf : Value) (w : World) (hR : Ints w vr R) (hF : Ints w vf (nzl F)) (hlt : ∀ f ∈ F, f < R.length) (hl : F.length ≤ 256) :
    Calls Tryd.prog 53 #[vr, vf] w fun e w' => ∃ g, e = .returned (.slice (some ⟨g, 0, none⟩) F.length F.length) ∧ w'.ownsRow w.heap.size 3 1 (.slice (some ⟨g, 0, none⟩) F.length F.length) F.length ((narrowR F R).map iv) ∧ Ext w w' := by
  obtain ⟨i0, hi, hz0, hz1, hz2⟩ := info_parts info_int
  obtain ⟨a1, c1, rfl, _⟩ := hR.shape
  obtain ⟨a2, c2, rfl, _⟩ := hF.shape
  have H1 := Lib.hid hR
  have hnl : (nzl F).length = F.length := by simp
  have H2 := hF
  rw [hnl] at H2
  have H2 := Lib.hid H2
  have HLT := Lib.hid hlt
  have HA := Lib.hid (nfil_all F R)
  have HST := Lib.hid (fun k (hk : k < F.length) => nfil_set (R := R) hk)
  obtain ⟨m, hm⟩ : ∃ m, F.length = m := ⟨_, rfl⟩
  rw [hnl]
  rw [hm] at H2 hl HA ⊢
  have HM := Lib.hid hm
  clear hR hF hlt hnl hm
  go_enter Tryd.func53, Tryd.ntmps53
  go_wp2_with (at_make; refine wpList_make_full _ rfl _ _ 26 rfl w.heap.size 3 i0 (.int .i64 0) 1 Tryd.underlying26 hi hz0 hz1 .i64 .i64 _ _ m rfl rfl rfl rfl (by rw [hz2]; omega) (by unfold maxLen; omega) (by omega) ?_; intro wm hown hgm)
  have z3 := toList_madeCells_one (.int .i64 0) m
  have hown2 : wm.ownsRow w.heap.size 3 1 (.slice (some ⟨w.heap.size, 0, none⟩) m m) m ((nfil F R 0).map iv) := by
    rw [nfil_zero, HM.out, List.map_replicate, show iv 0 = Value.int .i64 0 from rfl, ← z3]; simpa [Value.cells] using hown
  have HO := Lib.hid hown2
  have HE := Lib.hid (show Ext w wm from ⟨hgm.os, hgm.tape, hgm.output, hgm.size, fun k hk => hgm.block k hk (by simp)⟩)
  obtain ⟨g, hg⟩ : ∃ g, w.heap.size = g := ⟨_, rfl⟩
  have HG := Lib.hid hg
  simp only [hg] at HO ⊢
  clear hown hown2 hgm z3 hg
  go_loopw [13] (fun i wr => ∃ k : Nat, k ≤ m ∧ i = .int .i64 k ∧ Hid (wr.ownsRow g 3 1 (.slice (some ⟨g, 0, none⟩) m m) m ((nfil F R k).map iv)) ∧ Hid (Ext w wr)) (fun i _ => m - (intOf i).toNat)
  case atStart => exact ⟨0, Nat.zero_le _, rfl, HO, HE⟩
  case round =>
    clear HO HE
    obtain ⟨k, hk, rfl, hO, hE⟩ := hrel
    by_cases hkl : k < m
    · have hkF : k < F.length := by rw [HM.out]; exact hkl
      obtain ⟨b2, o2, rfl, hb2, hc2, -, -⟩ := (H2.out.ext hE.out).cell (k := k) (by simpa using hkF)
      have hf : (nzl F)[k]'(by simpa using hkF) = ((F[k] : Nat) : Int) := by simp
      rw [hf] at hc2
      have hfl := HLT.out F[k] (List.getElem_mem hkF)
      obtain ⟨b1, o1, rfl, hb1, hc1, -, -⟩ := (H1.out.ext hE.out).cell hfl
      have hq : R.getD F[k] 0 = R[F[k]] := getD_get hfl
      have HS := HST.out k hkF
      rw [hq] at HS
      obtain ⟨y, hy⟩ : ∃ y, R[F[k]] = y := ⟨_, rfl⟩
      rw [hy] at hc1 HS
      obtain ⟨f, hff⟩ : ∃ f, F[k] = f := ⟨_, rfl⟩
      simp only [hff] at hc2 hc1 hfl
      obtain ⟨y0, y1⟩ : ∃ u, wr.cell? ⟨g, k, none⟩ = some u := ⟨_, by rw [hO.out.cellAt k (by omega)]; exact List.getElem?_eq_getElem (by rw [hO.out.1]; omega)⟩
      have y2 := hO.out.frozenAt k
      have O9 := (hO.out.stored k (iv y)).1
      rw [← List.map_set, HS] at O9
      have O9 := Lib.hid O9
      have E9 := Lib.hid (hE.out.setCell (p := ⟨g, k, none⟩) (by show w.heap.size ≤ g; have := HG.out; omega) (iv y))
      clear hf hq HS hy hff
      go_wp2_with fail
      go_roundw
      case rel => exact ⟨k + 1, by omega, by go_num, O9, E9⟩
      case measure => simp [intOf]; omega
    · have ek : k = m := by omega
      subst ek
      have O9 := hO.out
      rw [HA.out] at O9
      have O9 := Lib.hid O9
      clear hO
      go_wp2_with fail
      go_ret
      exact ⟨g, rfl, by rw [HG.out]; exact O9.out, hE.out⟩
end Go.Proofs.YtgcjclglhijchaaDoor
