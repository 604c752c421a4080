/- rows.entriesFrom: of each state its number, or none; those that have a row. -/
import Derived.Test.YtgcjclglhijchaaDoorGn
import Derived.Test.YtgcjclglhijchaaDoorRwq
import Derived.Test.YtgcjclglhijchaaDoorChm
import Derived.Maps.AppendAt
namespace Go.Proofs.YtgcjclglhijchaaDoor
open Go Go.RowKit Go.Maps
section
variable {w wr w6 : World} {B e sz n : Nat} {v v6 : Value} {xs : List Value} {c : Array Value} {t : TypeId}
theorem ap_fr (hg : (wr.alloc (.cells c t)).grownBy w6 v.ownBlock) : Fr (fun g => v.ownBlock = some g) wr w6 :=
  (Fr.of_ext (S := fun g => v.ownBlock = some g) (ext_box wr c t)).trans (Fr.of_grown (S := fun g => v.ownBlock = some g) hg (fun _ h => h)) (fun _ _ q => q)
theorem ap_ext (hE : Ext w wr) (hB : w.heap.size ≤ B) (ho : wr.ownsRow B e sz v n xs) (hf : Fr (fun g => v.ownBlock = some g) wr w6) : Ext w w6 :=
  Below.trans hE (hf.below hE.size (fun g hg q => by have := (ho.lt g q).1; omega))
theorem ap_dj {u : Value} {B' e' sz' n' : Nat} {ys : List Value} (hl : v6.ownBlock = v.ownBlock ∨ v6.ownBlock = some (wr.alloc (.cells c t)).heap.size) (hu : wr.ownsRow B' e' sz' u n' ys) (hd : Dj v u) : Dj v6 u := by
  intro g hg q
  rcases hl with h | h
  · rw [h] at hg; exact hd g hg q
  · rw [h] at hg
    have hg := Option.some.inj hg
    have := (hu.lt g q).2
    simp at hg; omega
theorem Dj.symm {u v : Value} (h : Dj u v) : Dj v u := fun g hg q => h g q hg
theorem Dj.nil (u : Value) : Dj (.slice none 0 0) u := fun _ hg => nomatch hg
end
def enE (d : Dd) (b k : Nat) : List Int := (List.range k).map (d.num b)
def enK (d : Dd) (k : Nat) : List Nat := (List.range k).filter d.kp
theorem enE_succ (d : Dd) (b k : Nat) : enE d b (k + 1) = enE d b k ++ [d.num b k] := by unfold enE; rw [List.range_succ, List.map_append]; rfl
theorem enK_succ (d : Dd) (k : Nat) : enK d (k + 1) = if d.kp k then enK d k ++ [k] else enK d k := by
  unfold enK; rw [List.range_succ, List.filter_append]
  by_cases h : d.kp k = true
  · simp [h]
  · simp [h]
theorem enE_len (d : Dd) (b k : Nat) : (enE d b k).length = k := by simp [enE]
theorem enK_len (d : Dd) (k : Nat) : (enK d k).length = d.rk k := rfl
set_option maxHeartbeats 4000000 in
set_option maxRecDepth 20000 in
theorem entf_any (d : Dd) (b gi : Nat) (w : World) (hb : b ≤ 600) (hn6 : d.nx.length ≤ 600) {B0 : Nat} (h : w.ownsRow B0 4 1 (.slice (some ⟨gi, 0, none⟩) d.nx.length d.nx.length) d.nx.length (((List.range d.nx.length).map d.lv).map (fun b => Value.bool b))) :
    Calls Tryd.prog 66 #[.int .i64 (b : Int), .slice (some ⟨gi, 0, none⟩) d.nx.length d.nx.length] w fun e w' => ∃ v1 v2, e = .returned (.tuple #[v1, v2]) ∧ w'.ownsRow w.heap.size 3 1 v1 d.nx.length ((enE d b d.nx.length).map iv) ∧ w'.ownsRow w.heap.size 3 1 v2 d.kept.length (d.kept.map nv) ∧ Ext w w' := by
  obtain ⟨i0, hi, hz0, hz1, hz2⟩ := info_parts info_int
  have H := Lib.hid h
  obtain ⟨n, hn⟩ : ∃ n, d.nx.length = n := ⟨_, rfl⟩
  have HKP := Lib.hid (show d.kept = enK d n by rw [← hn]; rfl)
  rw [hn] at H hn6 ⊢
  have HN := Lib.hid hn
  clear h hn
  go_enter Tryd.func66, Tryd.ntmps66
  go_wp2_with fail
  go_loopw [11, 4, 5] (fun s11 s4 s5 wr => ∃ k : Nat, k ≤ n ∧ s11 = .int .i64 k ∧ Hid (wr.ownsRow w.heap.size 3 1 s4 k ((enE d b k).map iv)) ∧ Hid (wr.ownsRow w.heap.size 3 1 s5 (d.rk k) ((enK d k).map nv)) ∧ Hid (Dj s4 s5) ∧ Hid (Ext w wr)) (fun s11 _ _ _ => n - (intOf s11).toNat)
  case atStart => exact ⟨0, Nat.zero_le _, rfl, Lib.hid (own_nil _ _ _ _), Lib.hid (own_nil _ _ _ _), Lib.hid (Dj.nil _), Lib.hid (Below.refl _ _)⟩
  case round =>
    obtain ⟨k, hk, rfl, OE, OK, HDJ, hE⟩ := hrel
    by_cases hkn : k < n
    · have hcb : wr.cell? ⟨gi, k, none⟩ = some (.bool (d.lv k)) := by
        have hc : w.cell? ⟨gi, k, none⟩ = some (.bool (d.lv k)) := by
          rw [H.out.cellAt k (by omega)]; simp [hkn]
        exact (hE.out.cell (p := ⟨gi, k, none⟩) (H.out.lt gi rfl).2).trans hc
      have hszE := hE.out.size
      have HSE := Lib.hid (enE_succ d b k)
      have HSK := Lib.hid (enK_succ d k)
      have HRK := Lib.hid (Dd.rk_succ d k)
      have HNM : Hid (d.num b k = if d.lv k then ((b + d.rk k : Nat) : Int) else -1) := Lib.hid rfl
      have HKV : Hid (d.kp k = (k == 0 || d.lv k)) := Lib.hid rfl
      have hrk : d.rk k ≤ 600 := by have := Dd.rk_le d k; omega
      obtain ⟨a4, c4, rfl⟩ := own_shp OE.out
      obtain ⟨a5, c5, rfl⟩ := own_shp OK.out
      obtain ⟨r, hr⟩ : ∃ r, d.rk k = r := ⟨_, rfl⟩
      rw [hr] at OK HDJ HRK HNM hrk
      rw [hr]
      clear hr
      cases hl : d.lv k
      · rw [hl] at hcb HNM HKV
        clear hl
        by_cases hk0 : k = 0
        · have HY := Lib.hid (show d.num b k = -1 by rw [HNM.out]; rfl)
          have HKP2 := Lib.hid (show d.kp k = true by rw [HKV.out, hk0]; rfl)
          have t1 : ((k : Int) == 0) = true := by simpa using hk0
          clear hk0
          go_upto_region 9 with (at_builtin; refine wpList_append_own_at _ rfl (.tmp 26) (.tmp 28) 26 rfl w.heap.size 3 i0 (.int .i64 0) 1 8 Tryd.underlying26 hi hz0 hz1 hz2 rfl (by decide) _ _ _ rfl (OK.out.alloc _) ⟨_, 0, none⟩ 1 1 [nv k] rfl rfl (cell_nwb _ [nv k] _ _ (by simp)) (iv_one _) (by unfold maxLen; omega) (by omega) (by simp; omega) ?_; intro v6 w6 hown6 hgrow6 hnil6 hloc6; obtain ⟨a6, c6, rfl⟩ := own_shp hown6)
          have f6 := ap_fr hgrow6
          have OE6 := Lib.hid (f6.own OE.out (fun g hg q => HDJ.out g hg q))
          have D6 := Lib.hid (ap_dj hloc6 OE.out HDJ.out.symm).symm
          have E6 := Lib.hid (ap_ext hE.out (Nat.le_refl _) OK.out f6)
          have OK6 := Lib.hid hown6
          clear hown6 hgrow6 hnil6 hloc6 f6
          go_upto_region 10 with (at_builtin; refine wpList_append_own_at _ rfl (.tmp 30) (.tmp 32) 26 rfl w.heap.size 3 i0 (.int .i64 0) 1 8 Tryd.underlying26 hi hz0 hz1 hz2 rfl (by decide) _ _ _ rfl (OE6.out.alloc _) ⟨_, 0, none⟩ 1 1 [iv (-1)] rfl rfl (cell_nwb _ [iv (-1)] _ _ (by simp)) (iv_one _) (by unfold maxLen; omega) (by omega) (by have := E6.out.size; simp; omega) ?_; intro v7 w7 hown7 hgrow7 hnil7 hloc7; obtain ⟨a7, c7, rfl⟩ := own_shp hown7)
          have f7 := ap_fr hgrow7
          have OK7 := Lib.hid (f7.own OK6.out (fun g hg q => D6.out g q hg))
          have D7 := Lib.hid (ap_dj hloc7 OK6.out D6.out)
          have E7 := Lib.hid (ap_ext E6.out (Nat.le_refl _) OE6.out f7)
          have OE7 := Lib.hid hown7
          clear hown7 hgrow7 hnil7 hloc7 f7
          go_wp2_with fail
          go_roundw
          case rel =>
            refine ⟨k + 1, by omega, by go_num, Lib.hid ?_, Lib.hid ?_, D7, E7⟩
            · rw [HSE.out, HY.out, List.map_append]; exact OE7.out
            · rw [HSK.out, HRK.out, HKP2.out]
              (rw [if_pos rfl, if_pos rfl, List.map_append]; exact OK7.out)
          case measure => simp [intOf]; omega
        · have HY := Lib.hid (show d.num b k = -1 by rw [HNM.out]; rfl)
          have HKP2 := Lib.hid (show d.kp k = false by rw [HKV.out]; simpa using hk0)
          have t1 : ((k : Int) == 0) = false := by simpa using hk0
          clear hk0
          have OE6 := OE
          have OK6 := OK
          have D6 := HDJ
          have E6 := hE
          go_upto_region 10 with (at_builtin; refine wpList_append_own_at _ rfl (.tmp 30) (.tmp 32) 26 rfl w.heap.size 3 i0 (.int .i64 0) 1 8 Tryd.underlying26 hi hz0 hz1 hz2 rfl (by decide) _ _ _ rfl (OE6.out.alloc _) ⟨_, 0, none⟩ 1 1 [iv (-1)] rfl rfl (cell_nwb _ [iv (-1)] _ _ (by simp)) (iv_one _) (by unfold maxLen; omega) (by omega) (by have := E6.out.size; simp; omega) ?_; intro v7 w7 hown7 hgrow7 hnil7 hloc7; obtain ⟨a7, c7, rfl⟩ := own_shp hown7)
          have f7 := ap_fr hgrow7
          have OK7 := Lib.hid (f7.own OK6.out (fun g hg q => D6.out g q hg))
          have D7 := Lib.hid (ap_dj hloc7 OK6.out D6.out)
          have E7 := Lib.hid (ap_ext E6.out (Nat.le_refl _) OE6.out f7)
          have OE7 := Lib.hid hown7
          clear hown7 hgrow7 hnil7 hloc7 f7
          go_wp2_with fail
          go_roundw
          case rel =>
            refine ⟨k + 1, by omega, by go_num, Lib.hid ?_, Lib.hid ?_, D7, E7⟩
            · rw [HSE.out, HY.out, List.map_append]; exact OE7.out
            · rw [HSK.out, HRK.out, HKP2.out]
              (exact OK7.out)
          case measure => simp [intOf]; omega
      · rw [hl] at hcb HNM HKV
        clear hl
        have HKP2 := Lib.hid (show d.kp k = true by rw [HKV.out]; simp)
        have HY := Lib.hid (show d.num b k = (b : Int) + (r : Int) by rw [HNM.out]; simp)
        go_upto_region 9 with (at_builtin; refine wpList_append_own_at _ rfl (.tmp 26) (.tmp 28) 26 rfl w.heap.size 3 i0 (.int .i64 0) 1 8 Tryd.underlying26 hi hz0 hz1 hz2 rfl (by decide) _ _ _ rfl (OK.out.alloc _) ⟨_, 0, none⟩ 1 1 [nv k] rfl rfl (cell_nwb _ [nv k] _ _ (by simp)) (iv_one _) (by unfold maxLen; omega) (by omega) (by simp; omega) ?_; intro v6 w6 hown6 hgrow6 hnil6 hloc6; obtain ⟨a6, c6, rfl⟩ := own_shp hown6)
        have f6 := ap_fr hgrow6
        have OE6 := Lib.hid (f6.own OE.out (fun g hg q => HDJ.out g hg q))
        have D6 := Lib.hid (ap_dj hloc6 OE.out HDJ.out.symm).symm
        have E6 := Lib.hid (ap_ext hE.out (Nat.le_refl _) OK.out f6)
        have OK6 := Lib.hid hown6
        clear hown6 hgrow6 hnil6 hloc6 f6
        go_upto_region 10 with (at_builtin; refine wpList_append_own_at _ rfl (.tmp 30) (.tmp 32) 26 rfl w.heap.size 3 i0 (.int .i64 0) 1 8 Tryd.underlying26 hi hz0 hz1 hz2 rfl (by decide) _ _ _ rfl (OE6.out.alloc _) ⟨_, 0, none⟩ 1 1 [iv ((b : Int) + (r : Int))] rfl rfl (cell_nwb _ [iv ((b : Int) + (r : Int))] _ _ (by simp)) (iv_one _) (by unfold maxLen; omega) (by omega) (by have := E6.out.size; simp; omega) ?_; intro v7 w7 hown7 hgrow7 hnil7 hloc7; obtain ⟨a7, c7, rfl⟩ := own_shp hown7)
        have f7 := ap_fr hgrow7
        have OK7 := Lib.hid (f7.own OK6.out (fun g hg q => D6.out g q hg))
        have D7 := Lib.hid (ap_dj hloc7 OK6.out D6.out)
        have E7 := Lib.hid (ap_ext E6.out (Nat.le_refl _) OE6.out f7)
        have OE7 := Lib.hid hown7
        clear hown7 hgrow7 hnil7 hloc7 f7
        go_wp2_with fail
        go_roundw
        case rel =>
          refine ⟨k + 1, by omega, by go_num, Lib.hid ?_, Lib.hid ?_, D7, E7⟩
          · rw [HSE.out, HY.out, List.map_append]; exact OE7.out
          · rw [HSK.out, HRK.out, HKP2.out]
            (rw [if_pos rfl, if_pos rfl, List.map_append]; exact OK7.out)
        case measure => simp [intOf]; omega
    · have ek : k = n := by omega
      have HEK := Lib.hid ek
      obtain ⟨a4, c4, rfl⟩ := own_shp OE.out
      obtain ⟨a5, c5, rfl⟩ := own_shp OK.out
      clear ek
      go_wp2_with fail
      go_ret2
      refine ⟨_, _, rfl, ?_, ?_, hE.out⟩
      · have := OE.out; rw [HEK.out] at this ⊢; exact this
      · have := OK.out; rw [HEK.out] at this ⊢; rw [HKP.out]; exact this
end Go.Proofs.YtgcjclglhijchaaDoor
