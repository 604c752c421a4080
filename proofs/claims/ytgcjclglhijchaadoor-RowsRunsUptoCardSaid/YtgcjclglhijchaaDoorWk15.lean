/- What wakes layer 15. -/
import Derived.Test.YtgcjclglhijchaaDoorEnt
import Derived.Test.YtgcjclglhijchaaDoorEqr
namespace Go.Proofs.YtgcjclglhijchaaDoor
open Go Go.RowKit
def row15 (y m : Int) (b : Nat) : List Int := (List.replicate 256 y).set b m
theorem rep_st15 {n i : Nat} {y : Int} (h : i < n) : ((List.replicate i y ++ List.replicate (n - i) (0 : Int)).set i y) = List.replicate (i + 1) y ++ List.replicate (n - (i + 1)) 0 := by
  rw [List.set_append_right _ _ (by simp), List.length_replicate, Nat.sub_self, show n - i = (n - (i + 1)) + 1 by omega, List.replicate_succ, List.set_cons_zero, List.replicate_succ', List.append_assoc]
  rfl
set_option maxHeartbeats 1000000 in
set_option maxRecDepth 20000 in
theorem row15_any (y m : Int) (b : Nat) (w : World) (hy : -9223372036854775808 ≤ y ∧ y ≤ 9223372036854775807) (hm : -9223372036854775808 ≤ m ∧ m ≤ 9223372036854775807) (hb : b < 256) :
    Calls Tryd.prog 37 #[.int .i64 y, .int .u8 (b : Int), .int .i64 m] w fun e w' => ∃ g, e = .returned (.slice (some ⟨g, 0, none⟩) 256 256) ∧ Ints w' (.slice (some ⟨g, 0, none⟩) 256 256) (row15 y m b) ∧ Ext w w' := by
  obtain ⟨i0, hi, hz0, hz1, hz2⟩ := info_parts info_int
  have HR := Lib.hid (And.intro hy hm)
  go_enter Tryd.func37, Tryd.ntmps37
  go_wp2_with (at_make; refine wpList_make_full _ rfl _ _ 26 rfl w.heap.size 3 i0 (.int .i64 0) 1 Tryd.underlying26 hi hz0 hz1 .i64 .i64 _ _ 256 rfl rfl rfl rfl (by rw [hz2]; omega) (by unfold maxLen; omega) (by omega) ?_; intro wm hown hgm)
  have z3 := toList_madeCells_one (.int .i64 0) 256
  have hown2 : wm.ownsRow w.heap.size 3 1 (.slice (some ⟨w.heap.size, 0, none⟩) 256 256) 256 ((List.replicate 0 y ++ List.replicate (256 - 0) 0).map iv) := by
    rw [List.replicate_zero, List.nil_append, Nat.sub_zero, List.map_replicate, show iv 0 = Value.int .i64 0 from rfl, ← z3]; simpa [Value.cells] using hown
  have HO := Lib.hid hown2
  have HE := Lib.hid (show Ext w wm from ⟨hgm.os, hgm.tape, hgm.output, hgm.size, fun k hk => hgm.block k hk (by simp)⟩)
  obtain ⟨g, hg⟩ : ∃ g, w.heap.size = g := ⟨_, rfl⟩
  have HG := Lib.hid hg
  simp only [hg] at HO ⊢
  clear hown hown2 hgm z3 hg hy hm
  go_loopw [8] (fun i wr => ∃ k : Nat, k ≤ 256 ∧ i = .int .i64 k ∧ Hid (wr.ownsRow g 3 1 (.slice (some ⟨g, 0, none⟩) 256 256) 256 ((List.replicate k y ++ List.replicate (256 - k) 0).map iv)) ∧ Hid (Ext w wr)) (fun i _ => 256 - (intOf i).toNat)
  case atStart => exact ⟨0, Nat.zero_le _, rfl, HO, HE⟩
  case round =>
    clear HO HE
    obtain ⟨k, hk, rfl, hO, hE⟩ := hrel
    by_cases hkl : k < 256
    · obtain ⟨y0, y1⟩ : ∃ u, wr.cell? ⟨g, k, none⟩ = some u := ⟨_, by rw [hO.out.cellAt k (by omega)]; exact List.getElem?_eq_getElem (by rw [hO.out.1]; omega)⟩
      have y2 := hO.out.frozenAt k
      have O9 := (hO.out.stored k (iv y)).1
      rw [← List.map_set, rep_st15 hkl] at O9
      have O9 := Lib.hid O9
      have E9 := Lib.hid (hE.out.setCell (p := ⟨g, k, none⟩) (by show w.heap.size ≤ g; have := HG.out; omega) (iv y))
      go_wp2_with fail
      go_roundw
      case rel => exact ⟨k + 1, by omega, by go_num, O9, E9⟩
      case measure => simp [intOf]; omega
    · have ek : k = 256 := by omega
      subst ek
      have O9 := hO.out
      rw [Nat.sub_self, List.replicate_zero, List.append_nil] at O9
      obtain ⟨u7, u8⟩ : ∃ u, wr.cell? ⟨g, b, none⟩ = some u := ⟨_, by rw [O9.cellAt b (by omega)]; exact List.getElem?_eq_getElem (by rw [O9.1]; omega)⟩
      have f7 := O9.frozenAt b
      have P9 := (O9.stored b (iv m)).1
      rw [← List.map_set] at P9
      have Q9 := Lib.hid (show Ints (wr.setCell ⟨g, b, none⟩ (iv m)) (.slice (some ⟨g, 0, none⟩) 256 256) (row15 y m b) from by
        refine ⟨by rw [show (row15 y m b).length = 256 by simp [row15]]; exact Slc.of_own P9 (by omega), fun z hz => ?_⟩
        rcases List.mem_or_eq_of_mem_set hz with hz | rfl
        · rw [List.eq_of_mem_replicate hz]; exact HR.out.1
        · exact HR.out.2)
      have E9 := Lib.hid (hE.out.setCell (p := ⟨g, b, none⟩) (by show w.heap.size ≤ g; have := HG.out; omega) (iv m))
      clear hO hE O9 P9
      go_wp2_with fail
      go_ret
      exact ⟨g, rfl, Q9.out, E9.out⟩
theorem ints_bk {w : World} {b : Nat} {L : List Int} {t : TypeId} (h : Blk w b (L.map iv).toArray t) (hl : L.length ≤ 140737488355328) (hr : ∀ x ∈ L, -9223372036854775808 ≤ x ∧ x ≤ 9223372036854775807) : Ints w (.slice (some ⟨b, 0, none⟩) L.length L.length) L :=
  ⟨⟨_, _, rfl, Nat.le_refl _, ⟨hl, by unfold maxLen; omega⟩, .inr ⟨b, 0, rfl, h.lt, fun i hi => by
    have := h.cell i
    rw [Nat.zero_add, this]; simp⟩⟩, hr⟩
theorem rws_bk {w : World} {b : Nat} {vs : List Value} {R : List (List Int)} {t : TypeId} (h : Blk w b vs.toArray t) (hv : vs.length = R.length) (hl : R.length ≤ 140737488355328) (hr : ∀ (i : Nat) (h : i < R.length), ∃ u, vs[i]? = some u ∧ Ints w u R[i]) : Rws w (.slice (some ⟨b, 0, none⟩) R.length R.length) R :=
  ⟨vs, hv, ⟨_, _, rfl, Nat.le_refl _, ⟨hl, by unfold maxLen; omega⟩, .inr ⟨b, 0, rfl, h.lt, fun i hi => by
    have := h.cell i
    rw [Nat.zero_add, this]; simp⟩⟩, hr⟩
/-- A table of one's own is a table in memory. -/
theorem TbOwn.tbm {w : World} {B : Nat} {vC vS vN vL : Value} {vs : List Value} {t : Tb} (h : TbOwn w B vC vS vN vL vs t) (ht : t.Ok) : Tbm w (.agg #[vC, .int .i64 t.cn, vS, vN, vL]) t := by
  have hcn := clsK_le _ _ _ ht.cn
  have h256 := ht.cl
  have h6 := ht.le
  have h16 := ht.sl
  have hlb := ht.lbl
  refine ⟨vC, vS, vN, vL, rfl, ⟨Slc.of_own h.cl (by omega), fun x hx => ?_⟩, ⟨Slc.of_own h.st (by omega), fun x hx => ?_⟩, h.nx.rws (by omega) (fun r hr => ⟨?_, fun x hx => ?_⟩), ⟨Slc.of_own h.lb (by omega), fun x hx => ?_⟩, by omega, by omega⟩
  · have := clsK_get _ _ _ (by omega) ht.cn x hx; omega
  · have := ht.st x hx; omega
  · have := (ht.row r hr).1; omega
  · have := (ht.row r hr).2 x hx; omega
  · have := ht.lb x hx; omega
def wD15 : Dd := ⟨[row15 1 2 97, row15 1 1 97, row15 1 1 97], [-1, -1, 0]⟩
theorem wD15_ok : wD15.Ok := okB_ok.1 (by decide +kernel)
theorem wD15_am : amB [wD15] = true := by decide +kernel
theorem wD15_t0 : ∀ c ∈ List.range 256, wD15.to 0 c = if c = 97 then 2 else 1 := by decide +kernel
theorem wD15_t1 : ∀ c ∈ List.range 256, wD15.to 1 c = 1 := by decide +kernel
theorem wD15_t2 : ∀ c ∈ List.range 256, wD15.to 2 c = 1 := by decide +kernel
theorem wD15_l2 : wD15.lv 2 = true := Dd.lv_lab (by decide)
theorem wD15_l0 : wD15.lv 0 = true := Dd.lv_step wD15_ok (by decide) (show 97 < 256 by decide) (by rw [wD15_t0 97 (by simp)]; exact wD15_l2)
theorem wD15_l1 : wD15.lv 1 = false := by
  rw [Bool.eq_false_iff]
  intro h
  refine Dd.lv_ind wD15_ok (fun s => s ≠ 1) (fun s _ h0 e => ?_) (fun s c _ hc h1 e => ?_) (by decide) h rfl
  · subst e; revert h0; decide
  · subst e; exact h1 (wD15_t1 c (List.mem_range.2 hc))
theorem wD15_k1 : wD15.kp 1 = false := by unfold Dd.kp; rw [wD15_l1]; rfl
theorem wD15_k2 : wD15.kp 2 = true := Dd.kp_lv wD15_l2
theorem wD15_kept : wD15.kept = [0, 2] := by
  have h : wD15.kept = ([0, 1, 2] : List Nat).filter wD15.kp := rfl
  rw [h, List.filter_cons_of_pos (Dd.kp_zero _), List.filter_cons_of_neg (by rw [wD15_k1]; exact Bool.false_ne_true), List.filter_cons_of_pos wD15_k2, List.filter_nil]
theorem wD15_n1 : wD15.num 0 1 = -1 := by unfold Dd.num; rw [wD15_l1]; rfl
theorem wD15_rk : wD15.rk 2 = 1 := by
  have h : wD15.rk 2 = (([0, 1] : List Nat).filter wD15.kp).length := rfl
  rw [h, List.filter_cons_of_pos (Dd.kp_zero _), List.filter_cons_of_neg (by rw [wD15_k1]; exact Bool.false_ne_true), List.filter_nil]
  rfl
theorem wD15_n2 : wD15.num 0 2 = 1 := by
  unfold Dd.num
  rw [wD15_l2, if_pos rfl, wD15_rk]
  rfl
theorem wD15_r0 : wD15.wrow 0 0 = row15 (-1) 1 97 := by
  have : wD15.wrow 0 0 = (List.range 256).map fun c => if c = 97 then (1 : Int) else -1 := by
    refine List.map_congr_left (fun c hc => ?_)
    rw [wD15_t0 c hc]
    split
    · exact wD15_n2
    · exact wD15_n1
  rw [this]
  decide +kernel
theorem wD15_r2 : wD15.wrow 0 2 = List.replicate 256 (-1) := by
  have : wD15.wrow 0 2 = (List.range 256).map fun _ => (-1 : Int) := by
    refine List.map_congr_left (fun c hc => ?_)
    rw [wD15_t2 c hc]
    exact wD15_n1
  rw [this]
  decide +kernel
theorem wD15_wide : wideOf [wD15] = ⟨[0], [row15 (-1) 1 97, List.replicate 256 (-1)], [-1, 0]⟩ := by
  show Wd.put ⟨[], [], []⟩ wD15 = _
  unfold Wd.put Dd.wnx Dd.wlb
  rw [wD15_kept]
  show (⟨[0], [wD15.wrow 0 0, wD15.wrow 0 2], [wD15.lab 0, wD15.lab 2]⟩ : Wd) = _
  rw [wD15_r0, wD15_r2]
  rfl
theorem wD15_tab : tabOf [wD15] = (⟨[0], [row15 (-1) 1 97, List.replicate 256 (-1)], [-1, 0]⟩ : Wd).tb := by unfold tabOf; rw [wD15_wide]
def wE15 : Nat → Nat → Bool := alike [row15 (-1) 1 97, List.replicate 256 (-1)]
theorem wE15_zero : ∀ c ∈ List.range 256, wE15 0 c = (c != 97) := by decide +kernel
theorem wE15_a : ∀ k, k < 97 → clsN wE15 (k + 1) = (List.replicate (k + 1) 0, [0])
  | 0, _ => rfl
  | k + 1, h => by
    show cstep wE15 (clsN wE15 (k + 1)) (k + 1) = _
    rw [wE15_a k (by omega)]
    have hz : wE15 0 (k + 1) = true := by rw [wE15_zero (k + 1) (List.mem_range.2 (by omega))]; simp; omega
    unfold cstep
    simp [List.findIdx_cons, hz, List.replicate_succ']
theorem wE15_b : clsN wE15 98 = (List.replicate 97 0 ++ [1], [0, 97]) := by
  show cstep wE15 (clsN wE15 97) 97 = _
  rw [wE15_a 96 (by omega)]
  have hz : wE15 0 97 = false := by rw [wE15_zero 97 (by simp)]; rfl
  unfold cstep
  simp [List.findIdx_cons, hz]
theorem wE15_c : ∀ j, j ≤ 158 → clsN wE15 (98 + j) = (List.replicate 97 0 ++ [1] ++ List.replicate j 0, [0, 97])
  | 0, _ => by rw [Nat.add_zero, wE15_b]; rfl
  | j + 1, h => by
    show cstep wE15 (clsN wE15 (98 + j)) (98 + j) = _
    rw [wE15_c j (by omega)]
    have hz : wE15 0 (98 + j) = true := by rw [wE15_zero (98 + j) (List.mem_range.2 (by omega))]; simp; omega
    unfold cstep
    simp [List.findIdx_cons, hz, List.replicate_succ']
theorem wT15_eq : tabOf [wD15] = ⟨List.replicate 97 0 ++ [1] ++ List.replicate 158 0, 2, [0], [[-1, 1], [-1, -1]], [-1, 0]⟩ := by
  rw [wD15_tab]
  have h : clsN (alike [row15 (-1) 1 97, List.replicate 256 (-1)]) 256 = _ := wE15_c 158 (by omega)
  unfold Wd.tb
  simp only [h]
  rfl
theorem wT15_cn : (tabOf [wD15]).cn = 2 := by rw [wT15_eq]
theorem wT15_nx : (tabOf [wD15]).nx = [[-1, 1], [-1, -1]] := by rw [wT15_eq]
theorem wT15_lb : (tabOf [wD15]).lb = [-1, 0] := by rw [wT15_eq]
theorem wT15_ent : (tabOf [wD15]).ent 0 97 = 1 := by rw [wT15_eq]; decide +kernel
theorem wT15_ok : (tabOf [wD15]).Ok := tab_ok (fun d hd => by rw [List.mem_singleton.1 hd]; exact wD15_ok) (by decide) (by decide) (by decide)
theorem wT15_all : ∃ T : Tb, tabOf [wD15] = T ∧ T.Ok ∧ T.cn = 2 ∧ T.nx = [[-1, 1], [-1, -1]] ∧ T.lb = [-1, 0] ∧ T.ent 0 97 = 1 ∧ T.nx.length = 2 ∧ T.lb.length = 2 ∧ T.cl.length = 256 ∧ T.st.length = 1 :=
  ⟨_, rfl, wT15_ok, wT15_cn, wT15_nx, wT15_lb, wT15_ent, by rw [wT15_nx]; rfl, by rw [wT15_lb]; rfl, wT15_ok.cl, by rw [wT15_eq]; rfl⟩
theorem wD15_nl : wD15.nx.length = 3 := rfl
theorem Tbm.parts {w : World} {a n b c d : Value} {t : Tb} (h : Tbm w (.agg #[a, n, b, c, d]) t) : Ints w a t.cl ∧ Ints w b t.st ∧ Rws w c t.nx ∧ Ints w d t.lb := by
  obtain ⟨a', b', c', d', e, h1, h2, h3, h4, -⟩ := h
  simp only [Value.agg.injEq, Array.mk.injEq, List.cons.injEq, and_true] at e
  obtain ⟨rfl, -, rfl, rfl, rfl⟩ := e
  exact ⟨h1, h2, h3, h4⟩
theorem lay15r {w : World} : Rws (((w.alloc (.cells #[.int .i64 (-1), .int .i64 1] 3)).alloc (.cells #[.int .i64 (-1), .int .i64 (-1)] 3)).alloc (.cells #[.slice (some ⟨w.heap.size, 0, none⟩) 2 2, .slice (some ⟨w.heap.size + 1, 0, none⟩) 2 2] 26)) (.slice (some ⟨w.heap.size + 1 + 1, 0, none⟩) 2 2) [[-1, 1], [-1, -1]] ∧
    Ext w (((w.alloc (.cells #[.int .i64 (-1), .int .i64 1] 3)).alloc (.cells #[.int .i64 (-1), .int .i64 (-1)] 3)).alloc (.cells #[.slice (some ⟨w.heap.size, 0, none⟩) 2 2, .slice (some ⟨w.heap.size + 1, 0, none⟩) 2 2] 26)) := by
  have x1 := ext_box w #[.int .i64 (-1), .int .i64 1] 3
  have b1 := Blk.new w #[.int .i64 (-1), .int .i64 1] 3
  have hs1 : (w.alloc (.cells #[.int .i64 (-1), .int .i64 1] 3)).heap.size = w.heap.size + 1 := by simp
  generalize w.alloc (.cells #[.int .i64 (-1), .int .i64 1] 3) = w1 at *
  have x2 := ext_box w1 #[.int .i64 (-1), .int .i64 (-1)] 3
  have b2 := Blk.new w1 #[.int .i64 (-1), .int .i64 (-1)] 3
  have hs2 : (w1.alloc (.cells #[.int .i64 (-1), .int .i64 (-1)] 3)).heap.size = w.heap.size + 1 + 1 := by simp [hs1]
  rw [hs1] at b2
  generalize w1.alloc (.cells #[.int .i64 (-1), .int .i64 (-1)] 3) = w2 at *
  have x3 := ext_box w2 #[.slice (some ⟨w.heap.size, 0, none⟩) 2 2, .slice (some ⟨w.heap.size + 1, 0, none⟩) 2 2] 26
  have b3 := Blk.new w2 #[.slice (some ⟨w.heap.size, 0, none⟩) 2 2, .slice (some ⟨w.heap.size + 1, 0, none⟩) 2 2] 26
  rw [hs2] at b3
  have x13 := bel_call x1 (bel_call x2 x3)
  refine ⟨rws_bk (vs := [.slice (some ⟨w.heap.size, 0, none⟩) 2 2, .slice (some ⟨w.heap.size + 1, 0, none⟩) 2 2]) (R := [[-1, 1], [-1, -1]]) b3 rfl (by decide) (fun i hi => ?_), x13⟩
  have hi : i < 2 := hi
  rcases i with _ | _ | i
  · exact ⟨_, rfl, ints_bk (L := [-1, 1]) (b1.ext (bel_call x2 x3)) (by decide) (by decide)⟩
  · exact ⟨_, rfl, ints_bk (L := [-1, -1]) (b2.ext x3) (by decide) (by decide)⟩
  · omega
theorem lay15 {w : World} {g1 g2 g3 : Nat} (i1 : Ints w (.slice (some ⟨g1, 0, none⟩) 256 256) (row15 1 2 97)) (i2 : Ints w (.slice (some ⟨g2, 0, none⟩) 256 256) (row15 1 1 97)) (i3 : Ints w (.slice (some ⟨g3, 0, none⟩) 256 256) (row15 1 1 97)) :
    Dls (((w.alloc (.cells #[.slice (some ⟨g1, 0, none⟩) 256 256, .slice (some ⟨g2, 0, none⟩) 256 256, .slice (some ⟨g3, 0, none⟩) 256 256] 26)).alloc (.cells #[.int .i64 (-1), .int .i64 (-1), .int .i64 0] 3)).alloc (.cells #[.slice (some ⟨w.heap.size, 0, none⟩) 3 3, .slice (some ⟨w.heap.size + 1, 0, none⟩) 3 3] 62)) (some ⟨w.heap.size + 1 + 1, 0, none⟩) [wD15] ∧
    Ext w (((w.alloc (.cells #[.slice (some ⟨g1, 0, none⟩) 256 256, .slice (some ⟨g2, 0, none⟩) 256 256, .slice (some ⟨g3, 0, none⟩) 256 256] 26)).alloc (.cells #[.int .i64 (-1), .int .i64 (-1), .int .i64 0] 3)).alloc (.cells #[.slice (some ⟨w.heap.size, 0, none⟩) 3 3, .slice (some ⟨w.heap.size + 1, 0, none⟩) 3 3] 62)) := by
  have x1 := ext_box w #[.slice (some ⟨g1, 0, none⟩) 256 256, .slice (some ⟨g2, 0, none⟩) 256 256, .slice (some ⟨g3, 0, none⟩) 256 256] 26
  have b1 := Blk.new w #[.slice (some ⟨g1, 0, none⟩) 256 256, .slice (some ⟨g2, 0, none⟩) 256 256, .slice (some ⟨g3, 0, none⟩) 256 256] 26
  have hs1 : (w.alloc (.cells #[.slice (some ⟨g1, 0, none⟩) 256 256, .slice (some ⟨g2, 0, none⟩) 256 256, .slice (some ⟨g3, 0, none⟩) 256 256] 26)).heap.size = w.heap.size + 1 := by simp
  generalize w.alloc (.cells #[.slice (some ⟨g1, 0, none⟩) 256 256, .slice (some ⟨g2, 0, none⟩) 256 256, .slice (some ⟨g3, 0, none⟩) 256 256] 26) = w1 at *
  have x2 := ext_box w1 #[.int .i64 (-1), .int .i64 (-1), .int .i64 0] 3
  have b2 := Blk.new w1 #[.int .i64 (-1), .int .i64 (-1), .int .i64 0] 3
  have hs2 : (w1.alloc (.cells #[.int .i64 (-1), .int .i64 (-1), .int .i64 0] 3)).heap.size = w.heap.size + 1 + 1 := by simp [hs1]
  rw [hs1] at b2
  generalize w1.alloc (.cells #[.int .i64 (-1), .int .i64 (-1), .int .i64 0] 3) = w2 at *
  have x3 := ext_box w2 #[.slice (some ⟨w.heap.size, 0, none⟩) 3 3, .slice (some ⟨w.heap.size + 1, 0, none⟩) 3 3] 62
  have b3 := Blk.new w2 #[.slice (some ⟨w.heap.size, 0, none⟩) 3 3, .slice (some ⟨w.heap.size + 1, 0, none⟩) 3 3] 62
  rw [hs2] at b3
  have x13 := bel_call x1 (bel_call x2 x3)
  refine ⟨.inr ⟨w.heap.size + 1 + 1, 0, rfl, b3.lt, fun i hi => ?_⟩, x13⟩
  have hi : i < 1 := hi
  obtain rfl : i = 0 := by omega
  refine ⟨_, _, b3.cell 0, b3.cell 1, rws_bk (vs := [.slice (some ⟨g1, 0, none⟩) 256 256, .slice (some ⟨g2, 0, none⟩) 256 256, .slice (some ⟨g3, 0, none⟩) 256 256]) (R := wD15.nx) (b1.ext (bel_call x2 x3)) rfl (by rw [wD15_nl]; decide) (fun i hi => ?_), ints_bk (L := [-1, -1, 0]) (b2.ext x3) (by decide) (by decide)⟩
  have hi : i < 3 := hi
  rcases i with _ | _ | _ | i
  · exact ⟨_, rfl, i1.ext x13⟩
  · exact ⟨_, rfl, i2.ext x13⟩
  · exact ⟨_, rfl, i3.ext x13⟩
  · omega
set_option maxHeartbeats 4000000 in
set_option maxRecDepth 20000 in
theorem wakes15_any (w : World) : Calls Tryd.prog 17 #[] w fun e w' => e = .returned (.bool true) ∧ Ext w w' := by
  go_enter Tryd.func17, Tryd.ntmps17
  go_wp2_with fail
  refine (row15_any 1 2 97 _ (by omega) (by omega) (by omega)).mono ?_
  rintro e w1 ⟨g1, rfl, i1, E1⟩
  have I1 := Lib.hid i1
  have E1 := Lib.hid E1
  clear i1
  go_wp2_with fail
  refine (row15_any 1 1 97 _ (by omega) (by omega) (by omega)).mono ?_
  rintro e w2 ⟨g2, rfl, i2, E2⟩
  have I1 := Lib.hid (I1.out.ext E2)
  have I2 := Lib.hid i2
  have E2 := Lib.hid (bel_call E1.out E2)
  clear i2 E1
  go_wp2_with fail
  refine (row15_any 1 1 97 _ (by omega) (by omega) (by omega)).mono ?_
  rintro e w3 ⟨g3, rfl, i3, E3⟩
  obtain ⟨d4, e4⟩ := lay15 (I1.out.ext E3) (I2.out.ext E3) i3
  have D4 := Lib.hid d4
  have E4 := Lib.hid (bel_call (bel_call E2.out E3) e4)
  clear i3 E3 d4 e4 I1 I2 E2
  go_wp2_with fail
  generalize (((w3.alloc (.cells #[.slice (some ⟨g1, 0, none⟩) 256 256, .slice (some ⟨g2, 0, none⟩) 256 256, .slice (some ⟨g3, 0, none⟩) 256 256] 26)).alloc (.cells #[.int .i64 (-1), .int .i64 (-1), .int .i64 0] 3)).alloc (.cells #[.slice (some ⟨w3.heap.size, 0, none⟩) 3 3, .slice (some ⟨w3.heap.size + 1, 0, none⟩) 3 3] 62)) = w4 at *
  have HB := build_ok [wD15] (some ⟨w3.heap.size + 1 + 1, 0, none⟩) 1 w4 D4.out wD15_am
  obtain ⟨T, hT, T0, T1, T2, T3, T4, T5, T6, T7, T8⟩ := wT15_all
  rw [hT, show [wD15].length = 1 from rfl] at HB
  have HB := Lib.hid HB
  clear hT
  refine HB.out.mono ?_
  rintro e w5 ⟨vC, vS, vN, vL, vs, rfl, tb, e5⟩
  have TB := tb.tbm T0
  obtain ⟨aC, kC, eC⟩ := own_shp tb.cl
  obtain ⟨aS, kS, eS⟩ := own_shp tb.st
  obtain ⟨aN, kN, eN⟩ := own_shp tb.nx.rn
  obtain ⟨aL, kL, eL⟩ := own_shp tb.lb
  subst eC eS eN eL
  rw [T1, T7, T8, T5, T6] at TB
  rw [T1, T7, T8, T5, T6]
  have TB := Lib.hid TB
  have E5 := Lib.hid (bel_call E4.out e5)
  have HEN := fun w' (hx : Ext w5 w') => entry_ok T 0 97 _ w' (TB.out.ext hx) T0 (by omega) (by omega)
  rw [T4] at HEN
  have HEN := Lib.hid HEN
  have HNX := Lib.hid T2
  have HLB := Lib.hid T3
  have HTK := Lib.hid T0
  have HBX := Lib.hid (Blk.new w5 #[.slice aC 256 kC, .int .i64 2, .slice aS 1 kS, .slice aN 2 kN, .slice aL 2 kL] 29)
  have hx6 := ext_box w5 #[.slice aC 256 kC, .int .i64 2, .slice aS 1 kS, .slice aN 2 kN, .slice aL 2 kL] 29
  have HX6 := Lib.hid hx6
  have HE6 := Lib.hid (HEN.out _ hx6)
  have HNL := Lib.hid TB.out.parts
  rw [T2, T3] at HNL
  clear tb e5 D4 HB T0 T1 T2 T3 T4 T5 T6 T7 T8 hx6 HEN
  go_wp2_with fail
  generalize w5.alloc (.cells #[.slice aC 256 kC, .int .i64 2, .slice aS 1 kS, .slice aN 2 kN, .slice aL 2 kL] 29) = w6 at *
  refine HE6.out.mono ?_
  rintro e w7 ⟨rfl, e7⟩
  have B7 := HBX.out.ext e7
  have z0 := B7.cell 0
  have z1 := B7.cell 1
  have z2 := B7.cell 2
  have z3 := B7.cell 3
  have z4 := B7.cell 4
  have X7 := Lib.hid (bel_call HX6.out e7)
  have B7 := Lib.hid B7
  clear e7 HE6 HBX
  go_wp2_with fail
  obtain ⟨l8, x8⟩ := lay15r (w := w7)
  have L8 := Lib.hid l8
  have X8 := Lib.hid (bel_call X7.out x8)
  have B8 := Lib.hid (B7.out.ext x8)
  clear l8 x8 z0 z1 z2 z3 z4
  generalize (((w7.alloc (.cells #[.int .i64 (-1), .int .i64 1] 3)).alloc (.cells #[.int .i64 (-1), .int .i64 (-1)] 3)).alloc (.cells #[.slice (some ⟨w7.heap.size, 0, none⟩) 2 2, .slice (some ⟨w7.heap.size + 1, 0, none⟩) 2 2] 26)) = w8 at *
  refine (eqr_any [[-1, 1], [-1, -1]] [[-1, 1], [-1, -1]] _ _ w8 (HNL.out.2.2.1.ext X8.out) L8.out).mono ?_
  rintro e w9 ⟨rfl, x9⟩
  have X9 := Lib.hid (bel_call X8.out x9)
  have B9 := Lib.hid (B8.out.ext x9)
  clear x9 B8 X8 L8
  have z0 := B9.out.cell 0
  have z1 := B9.out.cell 1
  have z2 := B9.out.cell 2
  have z3 := B9.out.cell 3
  have z4 := B9.out.cell 4
  rw [show decide (([[-1, 1], [-1, -1]] : List (List Int)) = [[-1, 1], [-1, -1]]) = true from decide_eq_true rfl]
  go_wp2_with fail
  clear z0 z1 z2 z3 z4
  have x10 := ext_box w9 #[.int .i64 (-1), .int .i64 0] 3
  have l10 := ints_bk (L := [-1, 0]) (Blk.new w9 #[.int .i64 (-1), .int .i64 0] 3) (by decide) (by decide)
  have X10 := Lib.hid (bel_call X9.out x10)
  have B10 := Lib.hid (B9.out.ext x10)
  generalize w9.alloc (.cells #[.int .i64 (-1), .int .i64 0] 3) = w10 at *
  refine (eqi_any [-1, 0] [-1, 0] _ _ w10 (HNL.out.2.2.2.ext X10.out) l10).mono ?_
  rintro e w11 ⟨rfl, x11⟩
  have X11 := Lib.hid (bel_call X10.out x11)
  have B11 := Lib.hid (B10.out.ext x11)
  clear x10 l10 x11 B10 X10
  have z0 := B11.out.cell 0
  have z1 := B11.out.cell 1
  have z2 := B11.out.cell 2
  have z3 := B11.out.cell 3
  have z4 := B11.out.cell 4
  rw [show decide (([-1, 0] : List Int) = [-1, 0]) = true from decide_eq_true rfl]
  go_wp2_with fail
  have HCK := checkt_any T _ w11 (TB.out.ext X11.out)
  rw [mayT_ok.2 HTK.out] at HCK
  refine HCK.mono ?_
  rintro e w12 ⟨rfl, x12⟩
  have X12 := Lib.hid (bel_call E5.out (bel_call X11.out x12))
  clear x12 z0 z1 z2 z3 z4 HCK
  go_wp2_with fail
  go_ret
  exact ⟨rfl, X12.out⟩
end Go.Proofs.YtgcjclglhijchaaDoor
