/- The words of all labels together (plain); bolterlaw14.with. -/
import Derived.Test.YtniamfaiamgncaaDoorKwk
import Derived.Test.YtniamfaiamgncaaDoorBgn14
namespace Go.Proofs.YtniamfaiamgncaaDoor
open Go Go.RowKit
section
variable {dl : Nat → Nat → Nat} {lab : Nat → Int}
def sumL (dl : Nat → Nat → Nat) (lab : Nat → Int) (L : List Int) (n s : Nat) : Nat := (L.map fun x => cnt dl lab x n s).sum
theorem sumL_nil (n s : Nat) : sumL dl lab [] n s = 0 := rfl
theorem sumL_cons (x : Int) (L : List Int) (n s : Nat) : sumL dl lab (x :: L) n s = cnt dl lab x n s + sumL dl lab L n s := by
  unfold sumL; rw [List.map_cons, List.sum_cons]
theorem sumL_snoc (x : Int) (L : List Int) (n s : Nat) : sumL dl lab (L ++ [x]) n s = sumL dl lab L n s + cnt dl lab x n s := by
  unfold sumL; rw [List.map_append, List.sum_append]; simp
theorem sumL_zero (s : Nat) : ∀ L : List Int, L.Nodup → sumL dl lab L 0 s = if lab s ∈ L then 1 else 0
  | [], _ => rfl
  | x :: L, h => by
    obtain ⟨h1, h2⟩ := List.nodup_cons.1 h
    rw [sumL_cons, sumL_zero s L h2, cnt]
    by_cases q : lab s = x
    · subst q
      rw [if_pos rfl, if_neg h1, if_pos (List.mem_cons_self ..)]
    · rw [if_neg q]
      by_cases q2 : lab s ∈ L
      · rw [if_pos q2, if_pos (List.mem_cons_of_mem _ q2)]
      · rw [if_neg q2, if_neg (fun e => (List.mem_cons.1 e).elim q q2)]
theorem sumL_step (n s : Nat) : ∀ L : List Int, sumL dl lab L (n + 1) s = sumB (fun c => sumL dl lab L n (dl s c)) 256
  | [] => by
    show 0 = sumB (fun _ => 0) 256
    rw [sumB_const]
  | x :: L => by
    rw [sumL_cons, sumL_step n s L, cnt]
    exact (sumB_add 256).symm
theorem sumL_all {N : Nat} (L : List Int) (hL : L.Nodup) (hm : ∀ s, s < N → lab s ∈ L) (ht : ∀ s c, s < N → c < 256 → dl s c < N) : ∀ n s, s < N → sumL dl lab L n s = 256 ^ n
  | 0, s, hs => by rw [sumL_zero s L hL, if_pos (hm s hs)]
  | n + 1, s, hs => by
    rw [sumL_step, sumB_congr (g := fun _ => 256 ^ n) (fun c hc => sumL_all L hL hm ht n _ (ht s c hs hc)), sumB_const, Nat.pow_succ, Nat.mul_comm]
theorem sum_take_le (f : Int → Nat) : ∀ (L : List Int) (k : Nat), ((L.take k).map f).sum ≤ (L.map f).sum
  | [], k => by simp
  | x :: L, 0 => by simp
  | x :: L, k + 1 => by
    rw [List.take_succ_cons, List.map_cons, List.map_cons, List.sum_cons, List.sum_cons]
    have := sum_take_le f L k
    omega
theorem sumL_take (L : List Int) (k n s : Nat) : sumL dl lab (L.take k) n s ≤ sumL dl lab L n s := sum_take_le _ L k
end
def withL (L : List Int) (x : Int) : List Int := if x ∈ L then L else L ++ [x]
theorem withL_nodup {L : List Int} {x : Int} (h : L.Nodup) : (withL L x).Nodup := by
  unfold withL
  split
  · exact h
  · rename_i q
    exact List.nodup_append.2 ⟨h, by simp, fun a ha b hb => by rw [List.mem_singleton.1 hb]; rintro rfl; exact q ha⟩
theorem withL_mem {L : List Int} {x y : Int} : y ∈ withL L x ↔ y ∈ L ∨ y = x := by
  unfold withL
  split
  · rename_i q
    exact ⟨.inl, fun h => h.elim id fun e => e ▸ q⟩
  · simp
theorem withL_len (L : List Int) (x : Int) : (withL L x).length ≤ L.length + 1 := by
  unfold withL
  split <;> simp
theorem iv_one14 (x : Int) : ∀ u ∈ [iv x], u.oneCell' = true := by
  intro u hu
  rw [List.mem_singleton.1 hu]; rfl
set_option maxHeartbeats 2000000 in
set_option maxRecDepth 20000 in
theorem with_any (L : List Int) (x : Int) (v : Value) (wB w : World) (hE : Ext wB w) (h : w.ownsRow wB.heap.size 3 1 v L.length (L.map iv)) (hl : L.length ≤ 1000) :
    Calls Tryd.prog 33 #[v, .int .i64 x] w fun e w' => ∃ v', e = .returned v' ∧ w'.ownsRow wB.heap.size 3 1 v' (withL L x).length ((withL L x).map iv) ∧ Ext wB w' := by
  obtain ⟨i0, hi0, hz0, hz1, hz2⟩ := info_parts info_int
  obtain ⟨a, c, rfl⟩ := own_shp h
  obtain ⟨n, hn⟩ : ∃ n, L.length = n := ⟨_, rfl⟩
  rw [hn] at h hl ⊢
  have HO := Lib.hid h
  have HE := Lib.hid hE
  have HN := Lib.hid hn
  have hB := hE.size
  clear h hE hn
  go_enter Tryd.func33, Tryd.ntmps33
  go_wp2_with fail
  go_loopw [5] (fun s5 wr => ∃ i : Nat, i ≤ n ∧ s5 = .int .i64 (i : Int) ∧ Hid (x ∉ L.take i) ∧ Hid (w = wr)) (fun s5 _ => n - (intOf s5).toNat)
  case atStart => exact ⟨0, Nat.zero_le _, rfl, Lib.hid (by simp), Lib.hid rfl⟩
  case round =>
    obtain ⟨i, hi, rfl, hT, hw⟩ := hrel
    obtain rfl := hw.out
    by_cases hin : i < n
    · have hil : i < L.length := by rw [HN.out]; exact hin
      obtain ⟨g, cc2, e, hcg, _, _, _⟩ := own_some HO.out (by omega)
      cases e
      obtain ⟨y, hy⟩ : ∃ y, L[i] = y := ⟨_, rfl⟩
      have y0 : w.cell? ⟨g, i, none⟩ = some (.int .i64 y) := by
        rw [HO.out.cellAt i (by omega), List.getElem?_map, List.getElem?_eq_getElem hil, hy]; rfl
      by_cases hyx : y = x
      · subst hyx
        have hmem : y ∈ L := by rw [← hy]; exact List.getElem_mem hil
        have HW := Lib.hid (show withL L y = L from if_pos hmem)
        clear hy hmem hil
        go_wp2_with fail
        refine bodyPost_ret (v := .slice (some ⟨g, 0, none⟩) n c) (by simp [results, Tryd.results33, go_sem]) rfl ⟨_, rfl, by rw [HW.out, HN.out]; exact HO.out, HE.out⟩
      · have t1 : (y == x) = false := by simpa using hyx
        have T9 := Lib.hid (show x ∉ L.take (i + 1) by
          rw [List.take_succ_eq_append_getElem hil, hy]
          intro hm
          rcases List.mem_append.1 hm with hm | hm
          · exact hT.out hm
          · exact hyx (List.mem_singleton.1 hm).symm)
        clear hy hil hyx
        go_wp2_with fail
        go_roundw
        case rel => exact ⟨i + 1, by omega, by go_num, T9, Lib.hid trivial⟩
        case measure => simp [intOf]; omega
    · obtain rfl : i = n := by omega
      have hnm : x ∉ L := by
        have := hT.out
        rwa [List.take_of_length_le (by rw [HN.out]; exact Nat.le_refl _)] at this
      have HW := Lib.hid (show withL L x = L ++ [x] from if_neg hnm)
      clear hnm
      go_wp2_with (at_builtin; refine wpList_append_own_at _ rfl (.tmp 19) (.tmp 21) 23 rfl wB.heap.size 3 i0 (.int .i64 0) 1 8 Tryd.underlying23 hi0 hz0 hz1 hz2 rfl (by decide) _ _ _ rfl (HO.out.alloc _) ⟨_, 0, none⟩ 1 1 [iv x] rfl rfl (cell_nwb _ [iv x] _ _ (by simp)) (iv_one14 _) (by unfold maxLen; omega) (by omega) (by simp; omega) ?_; intro v6 w6 hown6 hgrow6 hnil6 hloc6)
      have hx6 := ext_box w #[iv x] 3
      have E6 := ext_gr (bel_call HE.out hx6) hgrow6 (HO.out.alloc _) (Nat.le_refl _)
      obtain ⟨a6, c6, rfl⟩ := own_shp hown6
      have O6 := Lib.hid hown6
      have E6 := Lib.hid E6
      clear hown6 hgrow6 hnil6 hloc6 hx6
      go_wp2_with fail
      refine bodyPost_ret (v := .slice a6 (i + 1) c6) (by simp [results, Tryd.results33, go_sem]) rfl ⟨_, rfl, by rw [HW.out, List.length_append, HN.out, List.map_append]; exact O6.out, E6.out⟩
end Go.Proofs.YtniamfaiamgncaaDoor
