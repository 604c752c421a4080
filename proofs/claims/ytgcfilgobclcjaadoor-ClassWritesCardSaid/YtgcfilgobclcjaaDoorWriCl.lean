/- ClassWrites returns true for every lists of sets and of texts, and leaves what it read as it was: on the conditions that the errors and the tables which the card ties to the program's text stand in their variables when the call begins. -/
import Derived.Test.YtgcfilgobclcjaaDoorTxe
import Derived.Test.YtgcfilgobclcjaaDoorQot
import Derived.Test.YtgcfilgobclcjaaDoorSti
import Derived.Test.YtgcfilgobclcjaaDoorSnc
import Derived.Test.YtgcfilgobclcjaaDoorTie
import Derived.Test.YtgcfilgobclcjaaDoorCards
import Derived.SevenTiedAt
import Derived.Deep.DeepWitnessRowRef
import Derived.Deep.DeepHandedRow
namespace Go.Proofs.YtgcfilgobclcjaaDoor
open Go Go.RowKit
theorem has_shift (s : BitVec 256) (b k : Nat) (_hb : b < 256) (hk : (b : Int) / 64 = k) : ((wd s k / 2 ^ (b % 64)).tmod 2 == 1) = s.getLsbD b := by
  have hj : b % 64 < 64 := by omega
  have e : b = 64 * k + b % 64 := by omega
  have h1 := word_bit s k (b % 64) hj
  rw [← e] at h1
  rw [← h1, Nat.testBit_eq_decide_div_mod_eq, wd_word]
  have h2 : ((word s k : Int) / 2 ^ (b % 64)) = ((word s k / 2 ^ (b % 64) : Nat) : Int) := by simp
  rw [h2]
  generalize word s k / 2 ^ (b % 64) = x
  rw [Int.tmod_eq_emod_of_nonneg (by omega), Bool.eq_iff_iff]
  simp only [beq_iff_eq, decide_eq_true_eq]
  omega
set_option maxHeartbeats 1000000 in
theorem rhas_any (s : BitVec 256) (b : Nat) (w : World) (h1 : b < 256) :
    Calls Tryd.prog 31 #[sv s, .int .i64 b] w fun e w' => e = .returned (.bool (s.getLsbD b)) ∧ Below w.heap.size w w' := by
  have hc : (b : Int) / 64 = 0 ∨ (b : Int) / 64 = 1 ∨ (b : Int) / 64 = 2 ∨ (b : Int) / 64 = 3 := by omega
  rcases hc with hc | hc | hc | hc
  all_goals
    go_enter Tryd.func31, Tryd.ntmps31
    go_wp2
    go_ret
    exact ⟨ret_v (by simp only [Array.getD_eq_getD_getElem?]; exact congrArg Value.bool (has_shift s b _ h1 hc)), by (repeat' (first | (with_reducible exact Below.refl _ _) | (with_reducible assumption) | (with_reducible refine below_drewN ?_ _) | (with_reducible refine Below.alloc ?_ ?_ _) | (with_reducible refine Below.drew ?_) | (with_reducible refine Below.setCell ?_ ?_ _) | (with_reducible refine Below.trans ?_ (Below.mono (by with_reducible assumption) ?_)) | go_size))⟩
theorem rhas_eq (s : BitVec 256) (b : Nat) (r : Bool) (w : World) (h1 : b < 256) (h : s.getLsbD b = r) :
    Calls Tryd.prog 31 #[sv s, .int .i64 b] w fun e w' => e = .returned (.bool r) ∧ Below w.heap.size w w' := by subst h; exact rhas_any s b w h1
/-- A set's bytes below k, rising. -/
def lstK (s : BitVec 256) (k : Nat) : List Nat := (List.range k).filter fun i => s.getLsbD i
theorem lstK_succ (s : BitVec 256) (k : Nat) : lstK s (k + 1) = if s.getLsbD k then lstK s k ++ [k] else lstK s k := by
  unfold lstK
  rw [List.range_succ, List.filter_append]
  cases h : s.getLsbD k <;> simp [h]
theorem lstK_full (s : BitVec 256) : lstK s 256 = lstN s 4 := rfl
theorem lstK_len (s : BitVec 256) (k : Nat) : (lstK s k).length ≤ k := by
  have := List.length_filter_le (fun i => s.getLsbD i) (List.range k)
  rw [List.length_range] at this
  exact this
theorem lstK_mem (s : BitVec 256) (k i : Nat) : i ∈ lstK s k ↔ i < k ∧ s.getLsbD i = true := by
  unfold lstK
  rw [List.mem_filter, List.mem_range]
theorem lstK_rise (s : BitVec 256) (k : Nat) : (lstK s k).Pairwise (· < ·) := List.Pairwise.filter _ List.pairwise_lt_range
theorem last_bit (s : BitVec 256) (j : Nat) (A : List (Nat × Nat)) (lo hi : Nat) (h : spansN (lstK s (j + 1)) = A ++ [(lo, hi)]) : (hi + 1 = j + 1) ↔ s.getLsbD j = true := by
  have inv := spansN_inv _ (lstK s (j + 1)) rfl (lstK_rise s (j + 1))
  rw [h] at inv
  have hm := (inv.mem hi).2 ⟨(lo, hi), by simp, inv.ok (lo, hi) (by simp), Nat.le_refl _⟩
  have hm2 := (lstK_mem s (j + 1) hi).1 hm
  constructor
  · intro e
    obtain rfl : hi = j := by omega
    exact hm2.2
  · intro hb
    have hj := (lstK_mem s (j + 1) j).2 ⟨by omega, hb⟩
    obtain ⟨p, hp, h1, h2⟩ := (inv.mem j).1 hj
    have := inv.top (lo, hi) (by simp) p hp
    simp only at this
    omega
set_option maxHeartbeats 2000000 in
set_option maxRecDepth 20000 in
theorem rspans_own (s : BitVec 256) (w : World) :
    Calls Tryd.prog 21 #[sv s] w fun e w' => ∃ v, e = .returned v ∧ w'.ownsRow w.heap.size 50 2 v (spn s).length (spc (spn s)) ∧ Below w.heap.size w w' := by
  obtain ⟨i0, hi0, hz0, hz1, hz2⟩ := info_parts info_span
  have k1 := Blk.new w (svs s) 29
  have hbel : Below w.heap.size w (w.alloc (.cells (svs s) 29)) := by (repeat' (first | (with_reducible exact Below.refl _ _) | (with_reducible assumption) | (with_reducible refine below_drewN ?_ _) | (with_reducible refine Below.alloc ?_ ?_ _) | (with_reducible refine Below.drew ?_) | (with_reducible refine Below.setCell ?_ ?_ _) | (with_reducible refine Below.trans ?_ (Below.mono (by with_reducible assumption) ?_)) | go_size))
  go_enter Tryd.func21, Tryd.ntmps21
  go_wp2_with fail
  go_loopw [3, 4] (fun l i wr => ∃ k : Nat, k ≤ 256 ∧ i = .int .i64 k ∧ Blk wr w.heap.size (svs s) 29 ∧ wr.ownsRow (w.heap.size + 1) 50 2 l (spansN (lstK s k)).length (spc (spansN (lstK s k))) ∧ (spansN (lstK s k) = [] → l = .slice none 0 0) ∧ Below w.heap.size w wr) (fun _ i _ => 256 - (intOf i).toNat)
  case atStart => exact ⟨0, Nat.zero_le _, rfl, k1, World.ownsRow_nil _ _ _ _, fun _ => rfl, hbel⟩
  case round =>
    clear k1 hbel
    obtain ⟨k, hk, rfl, k1, hown, hnil, hbel⟩ := hrel
    obtain ⟨p0, p1, p2, p3⟩ := k1.cells4
    by_cases hlt : k < 256
    · have hs := lstK_succ s k
      have hln := lstK_len s k
      have hsl := spansN_len (lstK s k)
      cases hb : s.getLsbD k with
      | false =>
        rw [hb, if_neg (by simp)] at hs
        have HH := Lib.hid (And.intro hs (And.intro hb hnil))
        clear hs hb hnil
        go_wp2_with fail
        refine (rhas_eq s k false _ hlt HH.out.2.1).mono ?_
        rintro e w9 ⟨rfl, hE⟩
        have k1' := k1.ext hE
        have hown' := own_below hown hE (Nat.le_refl _)
        have hbel' := bel_call hbel hE
        clear hE p0 p1 p2 p3 k1 hown hbel
        go_wp2
        go_roundw
        case rel => exact ⟨k + 1, by omega, by go_num, k1', by rw [HH.out.1]; exact hown', by rw [HH.out.1]; exact HH.out.2.2, hbel'⟩
        case measure => simp [intOf]; omega
      | true =>
        rw [hb, if_pos rfl] at hs
        have hst : spansN (lstK s (k + 1)) = sstep (spansN (lstK s k)) k := by rw [hs, spansN_snoc]
        rcases k with _ | j
        · obtain rfl := hnil rfl
          have HH := Lib.hid (And.intro hst hb)
          clear hs hst hb hnil hln hsl
          go_wp2_with fail
          refine (rhas_eq s 0 true _ hlt HH.out.2).mono ?_
          rintro e w9 ⟨rfl, hE⟩
          have k1' := k1.ext hE
          have hown' := Lib.hid (World.ownsRow_nil w9 (w.heap.size + 1) 50 2)
          have hbel' := bel_call hbel hE
          have hsz := k1'.lt
          clear hE p0 p1 p2 p3 k1 hown hbel
          go_wp2_with (at_builtin; refine wpList_append_own _ rfl (.tmp 29) (.tmp 35) 47 rfl (w.heap.size + 1) 50 i0 (.agg #[.int .u8 0, .int .u8 0]) 2 2 Tryd.underlying47 hi0 hz0 hz1 hz2 rfl (by decide) _ _ _ rfl (hown'.out.alloc _) ⟨w9.heap.size, 0, none⟩ 1 1 [_, _] rfl rfl (cells_two_new _ _ _ _) (by intro u hu; simp at hu; rcases hu with rfl | rfl <;> rfl) (by unfold maxLen; omega) (by omega) (by simp; omega) ?_; intro v1 w2 hown1 hgrow1 hnil1)
          go_roundw
          case rel =>
            refine ⟨1, by omega, rfl, (k1'.alloc _).grown hgrow1 (fun e => by cases e), ?_, ?_, (hbel'.alloc hbel'.size _).grown hgrow1 (by simp; omega) (fun j hj => by cases hj)⟩
            · rw [HH.out.1, show spansN (lstK s 0) = [] from rfl, sstep_nil]
              exact hown1
            · rw [HH.out.1, show spansN (lstK s 0) = [] from rfl, sstep_nil]
              intro h; cases h
          case measure => simp [intOf]
        · have hlb := last_bit s j
          have hempty : spansN (lstK s (j + 1)) = [] → s.getLsbD j = false := by
            intro h
            have h2 := spansN_ne _ h
            cases hj : s.getLsbD j with
            | false => rfl
            | true =>
              have := (lstK_mem s (j + 1) j).2 ⟨by omega, hj⟩
              rw [h2] at this; cases this
          generalize hS : spansN (lstK s (j + 1)) = S at *
          rcases nil_or_snoc S with rfl | ⟨A, ⟨lo, hi⟩, rfl⟩
          · obtain rfl := hnil rfl
            have hj := hempty rfl
            have HH := Lib.hid (And.intro hst (And.intro hb hj))
            clear hs hst hb hnil hln hsl hlb hempty hj hS
            go_wp2_with fail
            refine (rhas_eq s (j + 1) true _ hlt HH.out.2.1).mono ?_
            rintro e w9 ⟨rfl, hE⟩
            have k1' := k1.ext hE
            have hbel' := bel_call hbel hE
            clear hE p0 p1 p2 p3 k1 hown hbel
            obtain ⟨p0, p1, p2, p3⟩ := k1'.cells4
            go_wp2_with fail
            refine (rhas_eq s j false _ (by omega) HH.out.2.2).mono ?_
            rintro e w8 ⟨rfl, hE⟩
            replace k1' := k1'.ext hE
            replace hbel' := bel_call hbel' hE
            have hown' := Lib.hid (World.ownsRow_nil w8 (w.heap.size + 1) 50 2)
            have hsz := k1'.lt
            clear hE p0 p1 p2 p3
            go_wp2_with (at_builtin; refine wpList_append_own _ rfl (.tmp 29) (.tmp 35) 47 rfl (w.heap.size + 1) 50 i0 (.agg #[.int .u8 0, .int .u8 0]) 2 2 Tryd.underlying47 hi0 hz0 hz1 hz2 rfl (by decide) _ _ _ rfl (hown'.out.alloc _) ⟨w8.heap.size, 0, none⟩ 1 1 [_, _] rfl rfl (cells_two_new _ _ _ _) (by intro u hu; simp at hu; rcases hu with rfl | rfl <;> rfl) (by unfold maxLen; omega) (by omega) (by simp; omega) ?_; intro v1 w2 hown1 hgrow1 hnil1)
            go_roundw
            case rel =>
              refine ⟨j + 1 + 1, by omega, by go_num, (k1'.alloc _).grown hgrow1 (fun e => by cases e), ?_, ?_, (hbel'.alloc hbel'.size _).grown hgrow1 (by simp; omega) (fun j hj => by cases hj)⟩
              · rw [HH.out.1, sstep_nil]
                exact hown1
              · rw [HH.out.1, sstep_nil]
                intro h; cases h
            case measure => simp [intOf]; omega
          · have hlb' := hlb A lo hi rfl
            have hlen : (A ++ [(lo, hi)]).length = A.length + 1 := by simp
            rw [hlen] at hown hsl
            obtain ⟨g, cap, rfl, hg1, hg2, hcap1, hcap2⟩ := own_some hown (by omega)
            by_cases e : hi + 1 = j + 1
            · have hj := hlb'.1 e
              rw [sstep_grow _ _ _ _ e] at hst
              have HH := Lib.hid (And.intro hst (And.intro hb hj))
              clear hs hst hb hnil hlb hlb' hempty hj hS e
              go_wp2_with fail
              refine (rhas_eq s (j + 1) true _ hlt HH.out.2.1).mono ?_
              rintro e w9 ⟨rfl, hE⟩
              have k1' := k1.ext hE
              have hbel' := bel_call hbel hE
              have hown' := Lib.hid (own_below hown hE (Nat.le_refl _))
              clear hE p0 p1 p2 p3 k1 hown hbel
              obtain ⟨p0, p1, p2, p3⟩ := k1'.cells4
              go_wp2_with fail
              refine (rhas_eq s j true _ (by omega) HH.out.2.2).mono ?_
              rintro e w8 ⟨rfl, hE⟩
              replace k1' := k1'.ext hE
              replace hbel' := bel_call hbel' hE
              replace hown' := Lib.hid (own_below hown'.out hE (Nat.le_refl _))
              have hc : w8.cell? ⟨g, A.length * 2 + 1, none⟩ = some (nb hi) := by rw [hown'.out.cellAt _ (by omega)]; exact (spc_last A lo hi).2
              have hfrz : w8.frozen? ⟨g, A.length * 2 + 1, none⟩ = false := hown'.out.frozenAt _
              clear hE p0 p1 p2 p3
              go_wp2
              go_roundw
              case rel =>
                obtain ⟨s1, s2⟩ := hown'.out.stored (A.length * 2 + 1) (.int .u8 ((j : Int) + 1))
                have e5 : nb (j + 1) = .int .u8 ((j : Int) + 1) := rfl
                refine ⟨j + 1 + 1, by omega, by go_num, k1'.set_other (by simp; omega) _, ?_, ?_, hbel'.setCell (by simp; omega) _⟩
                · rw [HH.out.1, ← spc_set A lo hi (j + 1), e5, show (A ++ [(lo, j + 1)]).length = A.length + 1 by simp]
                  exact s1
                · rw [HH.out.1]
                  intro h; simp at h
              case measure => simp [intOf]; omega
            · have hj : s.getLsbD j = false := by
                cases hj : s.getLsbD j with
                | false => rfl
                | true => exact absurd (hlb'.2 hj) e
              rw [sstep_new _ _ _ _ e] at hst
              have HH := Lib.hid (And.intro hst (And.intro hb hj))
              clear hs hst hb hnil hlb hlb' hempty hj hS e
              go_wp2_with fail
              refine (rhas_eq s (j + 1) true _ hlt HH.out.2.1).mono ?_
              rintro e w9 ⟨rfl, hE⟩
              have k1' := k1.ext hE
              have hbel' := bel_call hbel hE
              have hown' := Lib.hid (own_below hown hE (Nat.le_refl _))
              clear hE p0 p1 p2 p3 k1 hown hbel
              obtain ⟨p0, p1, p2, p3⟩ := k1'.cells4
              go_wp2_with fail
              refine (rhas_eq s j false _ (by omega) HH.out.2.2).mono ?_
              rintro e w8 ⟨rfl, hE⟩
              replace k1' := k1'.ext hE
              replace hbel' := bel_call hbel' hE
              replace hown' := Lib.hid (own_below hown'.out hE (Nat.le_refl _))
              have hsz := k1'.lt
              clear hE p0 p1 p2 p3
              go_wp2_with (at_builtin; refine wpList_append_own _ rfl (.tmp 29) (.tmp 35) 47 rfl (w.heap.size + 1) 50 i0 (.agg #[.int .u8 0, .int .u8 0]) 2 2 Tryd.underlying47 hi0 hz0 hz1 hz2 rfl (by decide) _ _ _ rfl (hown'.out.alloc _) ⟨w8.heap.size, 0, none⟩ 1 1 [_, _] rfl rfl (cells_two_new _ _ _ _) (by intro u hu; simp at hu; rcases hu with rfl | rfl <;> rfl) (by unfold maxLen; omega) (by omega) (by simp; omega) ?_; intro v1 w2 hown1 hgrow1 hnil1)
              go_roundw
              case rel =>
                refine ⟨j + 1 + 1, by omega, by go_num, (k1'.alloc _).grown hgrow1 (fun e => by have := (hown'.out.lt _ e).1; omega), ?_, ?_, (hbel'.alloc hbel'.size _).grown hgrow1 (by simp; omega) (fun j hj => Nat.le_of_succ_le (hown'.out.lt j hj).1)⟩
                · have e3 : (A ++ [(lo, hi)] ++ [(j + 1, j + 1)]).length = A.length + 1 + 1 := by simp
                  rw [HH.out.1, spc_append, e3]
                  exact hown1
                · rw [HH.out.1]
                  intro h; simp at h
              case measure => simp [intOf]; omega
    · obtain rfl : k = 256 := by omega
      go_wp2
      go_ret
      exact ⟨_, rfl, own_base hown (by omega), hbel⟩
end Go.Proofs.YtgcfilgobclcjaaDoor
namespace Go.Proofs.YtgcfilgobclcjaaDoor
open Go Go.RowKit
theorem own_of_blk {w : World} {b : Nat} (l : List UInt8) (h : Blk w b (l.map ub).toArray 5) (hn : l.length ≤ maxLen) : w.ownsRow b 5 1 (.slice (some ⟨b, 0, none⟩) l.length l.length) l.length (l.map ub) :=
  ⟨by simp, .inr ⟨b, l.length, (l.map ub).toArray, rfl, Nat.le_refl _, h, Nat.le_refl _, hn, by simp, by rw [Nat.mul_one]; exact List.take_of_length_le (by simp)⟩⟩
theorem conv_blk {w : World} {b : Nat} (l : List UInt8) (h : Blk w b (l.map ub).toArray 5) (hn : l.length ≤ maxLen) :
    (convert 46 9 (.slice (some ⟨b, 0, none⟩) l.length l.length)).run Tryd.prog w = .ok (.string ⟨l.toArray⟩) w := own_str (own_of_blk l h hn)
def RMs (l : List UInt8) : Value → World → Prop := fun v w => ∃ b, v = .slice (some ⟨b, 0, none⟩) 4 4 ∧ Blk w b (l.map ub).toArray 5
def RsM (k : Nat) (l : List UInt8) : Nat → Option (Value → World → Prop) := fun j => if j = k then some (RMs l) else none
theorem RsM_mono (k : Nat) (l : List UInt8) : G.RsMono Ext (RsM k l) := by
  intro j R h
  unfold RsM at h
  split at h
  · cases h
    rintro v w w' hx ⟨b, hv, hb⟩
    exact ⟨b, hv, hb.ext hx⟩
  · cases h
set_option maxRecDepth 20000 in
theorem rhex_any (b : UInt8) (w : World) :
    Calls Tryd.prog 24 #[.int .u8 b.toNat] w fun e w' => e = .returned (.string ⟨#[92, 120, dig (b.toNat / 16), dig (b.toNat % 16)]⟩) ∧ Ext w w' := by
  have hbb := b.toNat_lt
  have hd1 := index_dig (b.toNat / 16) (by omega)
  have hd2 := index_dig (b.toNat % 16) (by omega)
  have h1 : (b.toNat : Int) / 16 = ((b.toNat / 16 : Nat) : Int) := by omega
  have h2 : (b.toNat : Int) % 16 = ((b.toNat % 16 : Nat) : Int) := by omega
  generalize b.toNat % 16 = q2 at h2 hd2 ⊢
  generalize b.toNat / 16 = q1 at h1 hd1 ⊢
  go_enter Tryd.func24, Tryd.ntmps24
  go_wp2_with fail
  refine G.wp_region_stab (G := Ext) (RsM 8 [92, 120, dig q1, dig q2]) (by kernel_rfl) (by kernel_rfl) (RsM_mono _ _) (fun hex => ?_)
  iterate 8
    (refine G.wpS_one (A := ?_) hex rfl rfl (by simp) ?_ ?_ ?_
     rotate_left 2
     · intro w' hC K hK
       go_wp2_with (fail)
       refine hK _ ?_
       first | exact Below.refl _ _ | assumption | ((repeat' (first | (with_reducible exact Below.refl _ _) | (with_reducible assumption) | (with_reducible refine below_drewN ?_ _) | (with_reducible refine Below.alloc ?_ ?_ _) | (with_reducible refine Below.drew ?_) | (with_reducible refine Below.setCell ?_ ?_ _) | (with_reducible refine Below.trans ?_ (Below.mono (by with_reducible assumption) ?_)) | go_size)))
     rotate_left 1
     · rfl
     clear hex; intro hex)
  refine G.wpS_rel (RMs [92, 120, dig q1, dig q2]) rfl rfl (by simp) (by first | rfl | (simp [Region.wanted, yielded]; done)) ?_ ?_
  · intro w' hC K hK
    simp only [Act.put, List.setIfInBounds_toArray, List.set_cons_succ, List.set_cons_zero] at hK
    go_wp2_with (fail)
    refine hK _ _ ?_ ?_
    · first | exact Below.refl _ _ | assumption | ((repeat' (first | (with_reducible exact Below.refl _ _) | (with_reducible assumption) | (with_reducible refine below_drewN ?_ _) | (with_reducible refine Below.alloc ?_ ?_ _) | (with_reducible refine Below.drew ?_) | (with_reducible refine Below.setCell ?_ ?_ _) | (with_reducible refine Below.trans ?_ (Below.mono (by with_reducible assumption) ?_)) | go_size)))
    · exact ⟨_, rfl, Blk.new _ _ _⟩
  clear hex
  intro v1 w' hex hv1
  replace hex := Exists.intro w' hex
  simp only [Act.put, List.setIfInBounds_toArray, List.set_cons_succ, List.set_cons_zero]
  obtain ⟨p, rfl, _⟩ := hv1
  iterate 2
    (refine G.wpS_one (A := ?_) hex rfl rfl (by simp) ?_ ?_ ?_
     rotate_left 2
     · intro w' hC K hK
       obtain ⟨p', e', hb'⟩ := (hC.2 8 (by simp [Region.binds])).1 rfl; cases e'; have hcv : (convert 46 9 (.slice (some ⟨p, 0, none⟩) 4 4)).run Tryd.prog w' = .ok (.string ⟨#[92, 120, dig q1, dig q2]⟩) w' := conv_blk [92, 120, dig q1, dig q2] hb' (by unfold maxLen; simp)
       go_wp2_with (fail)
       refine hK _ ?_
       first | exact Below.refl _ _ | assumption | ((repeat' (first | (with_reducible exact Below.refl _ _) | (with_reducible assumption) | (with_reducible refine below_drewN ?_ _) | (with_reducible refine Below.alloc ?_ ?_ _) | (with_reducible refine Below.drew ?_) | (with_reducible refine Below.setCell ?_ ?_ _) | (with_reducible refine Below.trans ?_ (Below.mono (by with_reducible assumption) ?_)) | go_size)))
     rotate_left 1
     · rfl
     clear hex; intro hex)
  refine G.wpS_nil fun w4 hAll => ?_
  have HG := Lib.hid hAll.1
  clear hAll hex
  go_wp2_with fail
  go_ret
  exact ⟨rfl, HG.out⟩
theorem conv_one (w : World) (b : UInt8) : (convert 46 9 (.slice (some ⟨w.heap.size, 0, none⟩) 1 1)).run Tryd.prog (w.alloc (.cells #[.int .u8 (b.toNat : Int)] 5)) = .ok (.string ⟨#[b]⟩) (w.alloc (.cells #[.int .u8 (b.toNat : Int)] 5)) :=
  own_str (L := [b]) (own_new1 w (.int .u8 (b.toNat : Int)))
theorem rplain_10 (w : World) : Calls Tryd.prog 23 #[.int .u8 10] w fun e w' => e = .returned (.tuple #[.string ⟨#[92, 110]⟩, .bool true]) ∧ Ext w w' := by
  go_enter Tryd.func23, Tryd.ntmps23
  go_wp2
  go_ret2
  exact ⟨rfl, by go_grown⟩
theorem rbyte_10 (w : World) : Calls Tryd.prog 22 #[.int .u8 10] w fun e w' => e = .returned (.string ⟨#[92, 110]⟩) ∧ Ext w w' := by
  go_enter Tryd.func22, Tryd.ntmps22
  go_wp2_with fail
  refine (rplain_10 _).mono ?_
  rintro e w1 ⟨rfl, hE⟩
  go_wp2
  go_ret
  exact ⟨rfl, hE⟩
theorem rplain_9 (w : World) : Calls Tryd.prog 23 #[.int .u8 9] w fun e w' => e = .returned (.tuple #[.string ⟨#[92, 116]⟩, .bool true]) ∧ Ext w w' := by
  go_enter Tryd.func23, Tryd.ntmps23
  go_wp2
  go_ret2
  exact ⟨rfl, by go_grown⟩
theorem rbyte_9 (w : World) : Calls Tryd.prog 22 #[.int .u8 9] w fun e w' => e = .returned (.string ⟨#[92, 116]⟩) ∧ Ext w w' := by
  go_enter Tryd.func22, Tryd.ntmps22
  go_wp2_with fail
  refine (rplain_9 _).mono ?_
  rintro e w1 ⟨rfl, hE⟩
  go_wp2
  go_ret
  exact ⟨rfl, hE⟩
theorem rplain_13 (w : World) : Calls Tryd.prog 23 #[.int .u8 13] w fun e w' => e = .returned (.tuple #[.string ⟨#[92, 114]⟩, .bool true]) ∧ Ext w w' := by
  go_enter Tryd.func23, Tryd.ntmps23
  go_wp2
  go_ret2
  exact ⟨rfl, by go_grown⟩
theorem rbyte_13 (w : World) : Calls Tryd.prog 22 #[.int .u8 13] w fun e w' => e = .returned (.string ⟨#[92, 114]⟩) ∧ Ext w w' := by
  go_enter Tryd.func22, Tryd.ntmps22
  go_wp2_with fail
  refine (rplain_13 _).mono ?_
  rintro e w1 ⟨rfl, hE⟩
  go_wp2
  go_ret
  exact ⟨rfl, hE⟩
theorem rplain_no (b : UInt8) (h : b ≠ 10 ∧ b ≠ 9 ∧ b ≠ 13) (w : World) : Calls Tryd.prog 23 #[.int .u8 b.toNat] w fun e w' => e = .returned (.tuple #[.string ⟨#[]⟩, .bool false]) ∧ Ext w w' := by
  have q : ∀ c : UInt8, b ≠ c → ((b.toNat : Int) == (c.toNat : Int)) = false := fun c hc => by
    have : b.toNat ≠ c.toNat := fun e => hc (UInt8.toNat_inj.1 e)
    simp; omega
  have q1 : ((b.toNat : Int) == 10) = false := q 10 h.1
  have q2 : ((b.toNat : Int) == 9) = false := q 9 h.2.1
  have q3 : ((b.toNat : Int) == 13) = false := q 13 h.2.2
  clear q
  go_enter Tryd.func23, Tryd.ntmps23
  go_wp2
  go_ret2
  exact ⟨rfl, by go_grown⟩
set_option maxRecDepth 20000 in
theorem rbyte_92 (w : World) : Calls Tryd.prog 22 #[.int .u8 92] w fun e w' => e = .returned (.string ⟨#[92, 92]⟩) ∧ Ext w w' := by
  have hpl := rplain_no 92 (by decide) w
  go_enter Tryd.func22, Tryd.ntmps22
  go_wp2_with fail
  refine hpl.mono ?_
  rintro e w1 ⟨rfl, hE⟩
  have hcv : (convert 46 9 (.slice (some ⟨w1.heap.size, 0, none⟩) 1 1)).run Tryd.prog (w1.alloc (.cells #[.int .u8 92] 5)) = .ok (.string ⟨#[92]⟩) (w1.alloc (.cells #[.int .u8 92] 5)) := conv_one w1 92
  go_wp2
  go_ret
  exact ⟨rfl, hE.alloc hE.size _⟩
set_option maxRecDepth 20000 in
theorem rbyte_91 (w : World) : Calls Tryd.prog 22 #[.int .u8 91] w fun e w' => e = .returned (.string ⟨#[92, 91]⟩) ∧ Ext w w' := by
  have hpl := rplain_no 91 (by decide) w
  go_enter Tryd.func22, Tryd.ntmps22
  go_wp2_with fail
  refine hpl.mono ?_
  rintro e w1 ⟨rfl, hE⟩
  have hcv : (convert 46 9 (.slice (some ⟨w1.heap.size, 0, none⟩) 1 1)).run Tryd.prog (w1.alloc (.cells #[.int .u8 91] 5)) = .ok (.string ⟨#[91]⟩) (w1.alloc (.cells #[.int .u8 91] 5)) := conv_one w1 91
  go_wp2
  go_ret
  exact ⟨rfl, hE.alloc hE.size _⟩
set_option maxRecDepth 20000 in
theorem rbyte_93 (w : World) : Calls Tryd.prog 22 #[.int .u8 93] w fun e w' => e = .returned (.string ⟨#[92, 93]⟩) ∧ Ext w w' := by
  have hpl := rplain_no 93 (by decide) w
  go_enter Tryd.func22, Tryd.ntmps22
  go_wp2_with fail
  refine hpl.mono ?_
  rintro e w1 ⟨rfl, hE⟩
  have hcv : (convert 46 9 (.slice (some ⟨w1.heap.size, 0, none⟩) 1 1)).run Tryd.prog (w1.alloc (.cells #[.int .u8 93] 5)) = .ok (.string ⟨#[93]⟩) (w1.alloc (.cells #[.int .u8 93] 5)) := conv_one w1 93
  go_wp2
  go_ret
  exact ⟨rfl, hE.alloc hE.size _⟩
set_option maxRecDepth 20000 in
theorem rbyte_45 (w : World) : Calls Tryd.prog 22 #[.int .u8 45] w fun e w' => e = .returned (.string ⟨#[92, 45]⟩) ∧ Ext w w' := by
  have hpl := rplain_no 45 (by decide) w
  go_enter Tryd.func22, Tryd.ntmps22
  go_wp2_with fail
  refine hpl.mono ?_
  rintro e w1 ⟨rfl, hE⟩
  have hcv : (convert 46 9 (.slice (some ⟨w1.heap.size, 0, none⟩) 1 1)).run Tryd.prog (w1.alloc (.cells #[.int .u8 45] 5)) = .ok (.string ⟨#[45]⟩) (w1.alloc (.cells #[.int .u8 45] 5)) := conv_one w1 45
  go_wp2
  go_ret
  exact ⟨rfl, hE.alloc hE.size _⟩
set_option maxRecDepth 20000 in
theorem rbyte_94 (w : World) : Calls Tryd.prog 22 #[.int .u8 94] w fun e w' => e = .returned (.string ⟨#[92, 94]⟩) ∧ Ext w w' := by
  have hpl := rplain_no 94 (by decide) w
  go_enter Tryd.func22, Tryd.ntmps22
  go_wp2_with fail
  refine hpl.mono ?_
  rintro e w1 ⟨rfl, hE⟩
  have hcv : (convert 46 9 (.slice (some ⟨w1.heap.size, 0, none⟩) 1 1)).run Tryd.prog (w1.alloc (.cells #[.int .u8 94] 5)) = .ok (.string ⟨#[94]⟩) (w1.alloc (.cells #[.int .u8 94] 5)) := conv_one w1 94
  go_wp2
  go_ret
  exact ⟨rfl, hE.alloc hE.size _⟩
set_option maxRecDepth 20000 in
theorem rbyte_38 (w : World) : Calls Tryd.prog 22 #[.int .u8 38] w fun e w' => e = .returned (.string ⟨#[92, 38]⟩) ∧ Ext w w' := by
  have hpl := rplain_no 38 (by decide) w
  go_enter Tryd.func22, Tryd.ntmps22
  go_wp2_with fail
  refine hpl.mono ?_
  rintro e w1 ⟨rfl, hE⟩
  have hcv : (convert 46 9 (.slice (some ⟨w1.heap.size, 0, none⟩) 1 1)).run Tryd.prog (w1.alloc (.cells #[.int .u8 38] 5)) = .ok (.string ⟨#[38]⟩) (w1.alloc (.cells #[.int .u8 38] 5)) := conv_one w1 38
  go_wp2
  go_ret
  exact ⟨rfl, hE.alloc hE.size _⟩
set_option maxRecDepth 20000 in
theorem rbyte_other (b : UInt8) (h : b ≠ 10 ∧ b ≠ 9 ∧ b ≠ 13) (hm : b ∉ cmarks) (w : World) : Calls Tryd.prog 22 #[.int .u8 b.toNat] w fun e w' => e = .returned (.string ⟨(spl 33 cmarks b).toArray⟩) ∧ Ext w w' := by
  have q : ∀ c : UInt8, b ≠ c → ((b.toNat : Int) == (c.toNat : Int)) = false := fun c hc => by
    have : b.toNat ≠ c.toNat := fun e => hc (UInt8.toNat_inj.1 e)
    simp; omega
  simp only [cmarks, List.mem_cons, List.not_mem_nil, or_false, not_or] at hm
  have q1 : ((b.toNat : Int) == 92) = false := q 92 hm.1
  have q2 : ((b.toNat : Int) == 91) = false := q 91 hm.2.1
  have q3 : ((b.toNat : Int) == 93) = false := q 93 hm.2.2.1
  have q4 : ((b.toNat : Int) == 45) = false := q 45 hm.2.2.2.1
  have q5 : ((b.toNat : Int) == 94) = false := q 94 hm.2.2.2.2.1
  have q6 : ((b.toNat : Int) == 38) = false := q 38 hm.2.2.2.2.2
  have hsp : spl 33 cmarks b = if 33 ≤ b ∧ b ≤ 126 then [b] else [92, 120, dig (b.toNat / 16), dig (b.toNat % 16)] := by
    unfold spl
    rw [if_neg h.1, if_neg h.2.1, if_neg h.2.2, if_neg (by simp only [cmarks, List.mem_cons, List.not_mem_nil, or_false, not_or]; exact hm)]
  have hpl := rplain_no b h w
  have hhx := rhex_any b
  have hle : (33 ≤ b ↔ (33 : Int) ≤ b.toNat) ∧ (b ≤ 126 ↔ (b.toNat : Int) ≤ 126) := by
    rw [UInt8.le_iff_toNat_le, UInt8.le_iff_toNat_le]
    show (33 ≤ b.toNat ↔ _) ∧ (b.toNat ≤ 126 ↔ _)
    omega
  have HP := Lib.hid hpl
  have HH := Lib.hid hhx
  have HS := Lib.hid hsp
  clear q hm hpl hhx hsp h
  go_enter Tryd.func22, Tryd.ntmps22
  go_wp2_with fail
  refine HP.out.mono ?_
  rintro e w1 ⟨rfl, hE⟩
  by_cases h1 : (33 : Int) ≤ b.toNat
  · have d1 : decide ((33 : Int) ≤ (b.toNat : Int)) = true := decide_eq_true h1
    by_cases h2 : (b.toNat : Int) ≤ 126
    · have d2 : decide ((b.toNat : Int) ≤ 126) = true := decide_eq_true h2
      have hs := HS.out
      rw [if_pos ⟨hle.1.2 h1, hle.2.2 h2⟩] at hs
      have hcv := conv_one w1 b
      have HSS := Lib.hid hs
      clear HP HH HS hs hle
      go_wp2
      go_ret
      exact ⟨by rw [HSS.out]; rfl, hE.alloc hE.size _⟩
    · have d2 : decide ((b.toNat : Int) ≤ 126) = false := decide_eq_false h2
      have hs := HS.out
      rw [if_neg (fun h => h2 (hle.2.1 h.2))] at hs
      have HSS := Lib.hid hs
      clear HP HS hs hle
      go_wp2_with fail
      refine (HH.out _).mono ?_
      rintro e w2 ⟨rfl, hE2⟩
      go_wp2
      go_ret
      exact ⟨by rw [HSS.out]; rfl, bel_call hE hE2⟩
  · have d1 : decide ((33 : Int) ≤ (b.toNat : Int)) = false := decide_eq_false h1
    have hs := HS.out
    rw [if_neg (fun h => h1 (hle.1.1 h.1))] at hs
    have HSS := Lib.hid hs
    clear HP HS hs hle
    go_wp2_with fail
    refine (HH.out _).mono ?_
    rintro e w2 ⟨rfl, hE2⟩
    go_wp2
    go_ret
    exact ⟨by rw [HSS.out]; rfl, bel_call hE hE2⟩
theorem rbyte_any (b : UInt8) (w : World) : Calls Tryd.prog 22 #[.int .u8 b.toNat] w fun e w' => e = .returned (.string ⟨(spl 33 cmarks b).toArray⟩) ∧ Ext w w' := by
  by_cases h : b ≠ 10 ∧ b ≠ 9 ∧ b ≠ 13
  · by_cases hm : b ∈ cmarks
    · simp only [cmarks, List.mem_cons, List.not_mem_nil, or_false] at hm
      rcases hm with rfl | rfl | rfl | rfl | rfl | rfl
      · exact rbyte_92 w
      · exact rbyte_91 w
      · exact rbyte_93 w
      · exact rbyte_45 w
      · exact rbyte_94 w
      · exact rbyte_38 w
    · exact rbyte_other b h hm w
  · have hc : b = 10 ∨ b = 9 ∨ b = 13 := by
      by_cases h1 : b = 10
      · exact .inl h1
      · by_cases h2 : b = 9
        · exact .inr (.inl h2)
        · exact .inr (.inr (Classical.byContradiction fun h3 => h ⟨h1, h2, h3⟩))
    rcases hc with rfl | rfl | rfl
    · exact rbyte_10 w
    · exact rbyte_9 w
    · exact rbyte_13 w
end Go.Proofs.YtgcfilgobclcjaaDoor
namespace Go.Proofs.YtgcfilgobclcjaaDoor
open Go Go.RowKit
theorem rbyte_to (x : Int) (b : UInt8) (hx : x = b.toNat) (T : ByteArray) (hT : spl 33 cmarks b = T.data.toList) (w : World) :
    Calls Tryd.prog 22 #[.int .u8 x] w fun e w' => e = .returned (.string T) ∧ Ext w w' := by
  subst hx
  have h := rbyte_any b w
  rw [hT] at h
  exact h
theorem lst_arr (l : List UInt8) : ∃ T : ByteArray, l = T.data.toList := ⟨⟨l.toArray⟩, by simp⟩
theorem app_list (a b : ByteArray) : (a ++ b).data.toList = a.data.toList ++ b.data.toList := by
  rw [ByteArray.data_append, Array.toList_append]
theorem len_tl (T : ByteArray) : T.size = T.data.toList.length := by rw [Array.length_toList]; rfl
theorem ba_ext {a b : ByteArray} (h : a.data.toList = b.data.toList) : a = b := by
  cases a; cases b
  simp at h
  rw [h]
set_option maxHeartbeats 2000000 in
set_option maxRecDepth 20000 in
theorem rtext_any (s : BitVec 256) (T : ByteArray) (hT : txt s = T.data.toList) (w : World) :
    Calls Tryd.prog 8 #[sv s] w fun e w' => e = .returned (.string T) ∧ Below w.heap.size w w' := by
  have hSl := spn_len s
  have HSo := Lib.hid (spn_ok s)
  have hx0 : Ext w (w.alloc (.cells (svs s) 29)) := by go_grown
  have HX := Lib.hid hx0
  have HS := Lib.hid (rspans_own s (w.alloc (.cells (svs s) 29)))
  have HTT := Lib.hid hT
  obtain ⟨q0, q1, q2, q3⟩ := (Blk.new w (svs s) 29).cells4
  clear hx0 hT
  go_enter Tryd.func8, Tryd.ntmps8
  go_wp2_with fail
  refine HS.out.mono ?_
  rintro e w1 ⟨v, rfl, hown, hb1⟩
  have HE1 := Lib.hid (bel_call HX.out hb1)
  clear q0 q1 q2 q3 HS HX hb1
  by_cases h0 : (spn s).length = 0
  · have hnil : spn s = [] := List.length_eq_zero_iff.1 h0
    obtain ⟨ao, cap, rfl⟩ : ∃ ao cap, v = .slice ao 0 cap := by
      rw [hnil] at hown
      obtain ⟨_, ⟨h, _⟩ | ⟨g, cap, cur, h, _⟩⟩ := hown
      · exact ⟨none, 0, h⟩
      · exact ⟨_, cap, h⟩
    have ht : T = ⟨#[91]⟩ ++ ⟨#[93]⟩ := by
      apply ba_ext
      rw [← HTT.out, app_list]
      unfold txt txtL
      rw [hnil]; rfl
    have HTx := Lib.hid ht
    clear hown h0 hnil ht
    go_wp2_with fail
    refine wp_loop_rounds 1 ?_
    rw [rounds_succ]
    go_wp2
    go_ret
    rw [HTx.out]
    exact ⟨rfl, HE1.out⟩
  · obtain ⟨gS, cS, rfl, hgb, hcS1, hcS2, hTd⟩ := told_of (spn s) hown (by omega)
    have HTd := Lib.hid hTd
    clear hown hgb hTd
    go_wp2_with fail
    go_loopw [3, 5] (fun v i wr => ∃ (k : Nat) (O : ByteArray), k ≤ (spn s).length ∧ i = .int .i64 k ∧ v = .string O ∧ O.size ≤ 9 * k + 1 ∧ Hid (91 :: ((spn s).take k).flatMap sps = O.data.toList) ∧ Hid (Ext w wr) ∧ Hid (Told wr gS (spn s))) (fun _ i _ => (spn s).length - (intOf i).toNat)
    case atStart => exact ⟨0, ⟨#[91]⟩, Nat.zero_le _, rfl, rfl, by decide, Lib.hid rfl, HE1, HTd⟩
    case round =>
      clear HE1 HTd
      obtain ⟨k, O, hk, rfl, rfl, hOs, hO, hE, hTd⟩ := hrel
      by_cases hlt : k < (spn s).length
      · obtain ⟨⟨lo, hi⟩, hp⟩ : ∃ p, (spn s)[k] = p := ⟨_, rfl⟩
        have hpo := HSo.out (spn s)[k] (List.getElem_mem hlt)
        have htk := take_flat2 (spn s) k hlt
        have hs9 := sps_le (spn s)[k]
        have HCS := Lib.hid (show ∀ w', Ext wr w' → w'.cell? ⟨gS, k * 2, none⟩ = some (.int .u8 (lo : Int)) ∧ w'.cell? ⟨gS, k * 2 + 1, none⟩ = some (.int .u8 (hi : Int)) from fun w' hx => by
          have h := (hTd.out.ext hx).2 k hlt
          rw [hp] at h
          exact h)
        rw [hp] at hpo htk hs9
        simp only at hpo
        obtain ⟨hlh, hlt'⟩ := hpo
        have hgS := hTd.out.1
        have hlo2 : (UInt8.ofNat lo).toNat = lo := by simp; omega
        have hhi2 : (UInt8.ofNat hi).toNat = hi := by simp; omega
        obtain ⟨TL, hTL⟩ := lst_arr (spl 33 cmarks (UInt8.ofNat lo))
        obtain ⟨TH, hTH⟩ := lst_arr (spl 33 cmarks (UInt8.ofNat hi))
        have hTLs := spl_le4 33 cmarks (UInt8.ofNat lo)
        have hTHs := spl_le4 33 cmarks (UInt8.ofNat hi)
        rw [hTL, ← len_tl] at hTLs
        rw [hTH, ← len_tl] at hTHs
        have HBL := Lib.hid (rbyte_to lo (UInt8.ofNat lo) (by omega) TL hTL)
        have HBH := Lib.hid (rbyte_to hi (UInt8.ofNat hi) (by omega) TH hTH)
        have hsps : sps (lo, hi) = TL.data.toList ++ ((if hi > lo + 1 then [45] else []) ++ (if hi ≠ lo then TH.data.toList else [])) := by
          rw [← hTL, ← hTH]; rfl
        rw [hsps] at htk hs9
        have HK := Lib.hid htk
        have HS9 := Lib.hid hs9
        obtain ⟨e0, e1⟩ := HCS.out wr (Below.refl _ _)
        clear htk hp hTL hTH hsps hs9 hlo2 hhi2
        go_wp2_with fail
        refine (HBL.out wr).mono ?_
        rintro e w2 ⟨rfl, hx2⟩
        have HX2 := Lib.hid hx2
        clear hx2 HBL e0 e1
        go_wp2_with fail
        by_cases ha : hi = lo
        · have hg1 : decide ((lo : Int) + 1 < (hi : Int)) = false := by simp; omega
          have hg2 : decide ((lo : Int) < (hi : Int)) = false := by simp; omega
          have hg3 : decide (lo < hi) = false := by simp; omega
          have hO2 : 91 :: ((spn s).take (k + 1)).flatMap sps = (O ++ TL).data.toList := by
            rw [HK.out, app_list, ← hO.out, if_neg (by omega), if_neg (by omega)]; simp
          have hsz : (O ++ TL).size ≤ 9 * (k + 1) + 1 := by
            have h9 := HS9.out
            rw [if_neg (by omega), if_neg (by omega)] at h9
            simp only [List.append_nil, Array.length_toList] at h9
            have : TL.data.size = TL.size := rfl
            rw [ByteArray.size_append]; omega
          have HO2 := Lib.hid (And.intro hO2 hsz)
          clear hO2 hsz ha hO HK HS9
          refine G.wp_region_stab (G := Ext) (fun _ => none) (by kernel_rfl) (by kernel_rfl) (fun _ _ h => by cases h) (fun hex => ?_)
          iterate 14
            (refine G.wpS_one (A := ?_) hex rfl rfl (by simp) ?_ ?_ ?_
             rotate_left 2
             · intro w' hC K hK
               obtain ⟨e0, e1⟩ := HCS.out w' (bel_call HX2.out hC.1)
               go_wp2_with (fail)
               refine hK _ ?_
               first | exact Below.refl _ _ | assumption | ((repeat' (first | (with_reducible exact Below.refl _ _) | (with_reducible assumption) | (with_reducible refine below_drewN ?_ _) | (with_reducible refine Below.alloc ?_ ?_ _) | (with_reducible refine Below.drew ?_) | (with_reducible refine Below.setCell ?_ ?_ _) | (with_reducible refine Below.trans ?_ (Below.mono (by with_reducible assumption) ?_)) | go_size)))
             rotate_left 1
             · rfl
             clear hex; intro hex)
          refine G.wpS_nil fun w3 hAll => ?_
          have HX3 := Lib.hid (bel_call HX2.out hAll.1)
          clear hAll hex
          go_wp2_with fail
          refine G.wp_region_stab (G := Ext) (fun _ => none) (by kernel_rfl) (by kernel_rfl) (fun _ _ h => by cases h) (fun hex => ?_)
          iterate 11
            (refine G.wpS_one (A := ?_) hex rfl rfl (by simp) ?_ ?_ ?_
             rotate_left 2
             · intro w' hC K hK
               obtain ⟨e0, e1⟩ := HCS.out w' (bel_call HX3.out hC.1)
               go_wp2_with (fail)
               refine hK _ ?_
               first | exact Below.refl _ _ | assumption | ((repeat' (first | (with_reducible exact Below.refl _ _) | (with_reducible assumption) | (with_reducible refine below_drewN ?_ _) | (with_reducible refine Below.alloc ?_ ?_ _) | (with_reducible refine Below.drew ?_) | (with_reducible refine Below.setCell ?_ ?_ _) | (with_reducible refine Below.trans ?_ (Below.mono (by with_reducible assumption) ?_)) | go_size)))
             rotate_left 1
             · rfl
             clear hex; intro hex)
          refine G.wpS_nil fun w4 hAll => ?_
          have HX4 := Lib.hid (bel_call HX3.out hAll.1)
          clear hAll hex HX3 HX2
          go_wp2_with fail
          go_roundw
          case rel => exact ⟨k + 1, O ++ TL, by omega, by go_num, rfl, HO2.out.2, Lib.hid HO2.out.1, Lib.hid (bel_call hE.out HX4.out), Lib.hid (hTd.out.ext HX4.out)⟩
          case measure => simp [intOf]; omega
        · have hg2 : decide ((lo : Int) < (hi : Int)) = true := by simp; omega
          have hg3 : decide (lo < hi) = true := by simp; omega
          by_cases hb : hi = lo + 1
          · have hg1 : decide ((lo : Int) + 1 < (hi : Int)) = false := by simp; omega
            have hO2 : 91 :: ((spn s).take (k + 1)).flatMap sps = (O ++ TL ++ TH).data.toList := by
              rw [HK.out, app_list, app_list, ← hO.out, if_neg (by omega), if_pos ha]; simp
            have hsz : (O ++ TL ++ TH).size ≤ 9 * (k + 1) + 1 := by
              have h9 := HS9.out
              rw [if_neg (by omega), if_pos ha] at h9
              simp only [List.nil_append, List.length_append, Array.length_toList] at h9
              have : TL.data.size = TL.size := rfl
              have : TH.data.size = TH.size := rfl
              rw [ByteArray.size_append, ByteArray.size_append]; omega
            have HO2 := Lib.hid (And.intro hO2 hsz)
            clear hO2 hsz ha hb hO HK HS9
            refine G.wp_region_stab (G := Ext) (fun _ => none) (by kernel_rfl) (by kernel_rfl) (fun _ _ h => by cases h) (fun hex => ?_)
            iterate 14
              (refine G.wpS_one (A := ?_) hex rfl rfl (by simp) ?_ ?_ ?_
               rotate_left 2
               · intro w' hC K hK
                 obtain ⟨e0, e1⟩ := HCS.out w' (bel_call HX2.out hC.1)
                 go_wp2_with (fail)
                 refine hK _ ?_
                 first | exact Below.refl _ _ | assumption | ((repeat' (first | (with_reducible exact Below.refl _ _) | (with_reducible assumption) | (with_reducible refine below_drewN ?_ _) | (with_reducible refine Below.alloc ?_ ?_ _) | (with_reducible refine Below.drew ?_) | (with_reducible refine Below.setCell ?_ ?_ _) | (with_reducible refine Below.trans ?_ (Below.mono (by with_reducible assumption) ?_)) | go_size)))
               rotate_left 1
               · rfl
               clear hex; intro hex)
            refine G.wpS_nil fun w3 hAll => ?_
            have HX3 := Lib.hid (bel_call HX2.out hAll.1)
            clear hAll hex
            go_wp2_with fail
            refine G.wp_region_stab (G := Ext) (fun _ => none) (by kernel_rfl) (by kernel_rfl) (fun _ _ h => by cases h) (fun hex => ?_)
            iterate 11
              (refine G.wpS_one (A := ?_) hex rfl rfl (by simp) ?_ ?_ ?_
               rotate_left 2
               · intro w' hC K hK
                 obtain ⟨e0, e1⟩ := HCS.out w' (bel_call HX3.out hC.1)
                 go_wp2_with (fail)
                 refine hK _ ?_
                 first | exact Below.refl _ _ | assumption | ((repeat' (first | (with_reducible exact Below.refl _ _) | (with_reducible assumption) | (with_reducible refine below_drewN ?_ _) | (with_reducible refine Below.alloc ?_ ?_ _) | (with_reducible refine Below.drew ?_) | (with_reducible refine Below.setCell ?_ ?_ _) | (with_reducible refine Below.trans ?_ (Below.mono (by with_reducible assumption) ?_)) | go_size)))
               rotate_left 1
               · rfl
               clear hex; intro hex)
            refine G.wpS_nil fun w4 hAll => ?_
            have HX4 := Lib.hid (bel_call HX3.out hAll.1)
            clear hAll hex HX3 HX2
            obtain ⟨e0, e1⟩ := HCS.out w4 HX4.out
            go_wp2_with fail
            refine (HBH.out w4).mono ?_
            rintro e w5 ⟨rfl, hx5⟩
            have HX5 := Lib.hid (bel_call HX4.out hx5)
            clear hx5 e0 e1
            go_wp2_with fail
            go_roundw
            case rel => exact ⟨k + 1, O ++ TL ++ TH, by omega, by go_num, rfl, HO2.out.2, Lib.hid HO2.out.1, Lib.hid (bel_call hE.out HX5.out), Lib.hid (hTd.out.ext HX5.out)⟩
            case measure => simp [intOf]; omega
          · have hg1 : decide ((lo : Int) + 1 < (hi : Int)) = true := by simp; omega
            have hO2 : 91 :: ((spn s).take (k + 1)).flatMap sps = (O ++ TL ++ ⟨#[45]⟩ ++ TH).data.toList := by
              rw [HK.out, app_list, app_list, app_list, ← hO.out, if_pos (by omega), if_pos ha]; simp
            have hsz : (O ++ TL ++ ⟨#[45]⟩ ++ TH).size ≤ 9 * (k + 1) + 1 := by
              have h9 := HS9.out
              rw [if_pos (by omega), if_pos ha] at h9
              simp only [List.length_append, List.length_cons, List.length_nil, Array.length_toList] at h9
              have : TL.data.size = TL.size := rfl
              have : TH.data.size = TH.size := rfl
              have h1 : (⟨#[45]⟩ : ByteArray).size = 1 := rfl
              rw [ByteArray.size_append, ByteArray.size_append, ByteArray.size_append, h1]; omega
            have HO2 := Lib.hid (And.intro hO2 hsz)
            clear hO2 hsz ha hb hO HK HS9
            refine G.wp_region_stab (G := Ext) (fun _ => none) (by kernel_rfl) (by kernel_rfl) (fun _ _ h => by cases h) (fun hex => ?_)
            iterate 14
              (refine G.wpS_one (A := ?_) hex rfl rfl (by simp) ?_ ?_ ?_
               rotate_left 2
               · intro w' hC K hK
                 obtain ⟨e0, e1⟩ := HCS.out w' (bel_call HX2.out hC.1)
                 go_wp2_with (fail)
                 refine hK _ ?_
                 first | exact Below.refl _ _ | assumption | ((repeat' (first | (with_reducible exact Below.refl _ _) | (with_reducible assumption) | (with_reducible refine below_drewN ?_ _) | (with_reducible refine Below.alloc ?_ ?_ _) | (with_reducible refine Below.drew ?_) | (with_reducible refine Below.setCell ?_ ?_ _) | (with_reducible refine Below.trans ?_ (Below.mono (by with_reducible assumption) ?_)) | go_size)))
               rotate_left 1
               · rfl
               clear hex; intro hex)
            refine G.wpS_nil fun w3 hAll => ?_
            have HX3 := Lib.hid (bel_call HX2.out hAll.1)
            clear hAll hex
            go_wp2_with fail
            refine G.wp_region_stab (G := Ext) (fun _ => none) (by kernel_rfl) (by kernel_rfl) (fun _ _ h => by cases h) (fun hex => ?_)
            iterate 11
              (refine G.wpS_one (A := ?_) hex rfl rfl (by simp) ?_ ?_ ?_
               rotate_left 2
               · intro w' hC K hK
                 obtain ⟨e0, e1⟩ := HCS.out w' (bel_call HX3.out hC.1)
                 go_wp2_with (fail)
                 refine hK _ ?_
                 first | exact Below.refl _ _ | assumption | ((repeat' (first | (with_reducible exact Below.refl _ _) | (with_reducible assumption) | (with_reducible refine below_drewN ?_ _) | (with_reducible refine Below.alloc ?_ ?_ _) | (with_reducible refine Below.drew ?_) | (with_reducible refine Below.setCell ?_ ?_ _) | (with_reducible refine Below.trans ?_ (Below.mono (by with_reducible assumption) ?_)) | go_size)))
               rotate_left 1
               · rfl
               clear hex; intro hex)
            refine G.wpS_nil fun w4 hAll => ?_
            have HX4 := Lib.hid (bel_call HX3.out hAll.1)
            clear hAll hex HX3 HX2
            obtain ⟨e0, e1⟩ := HCS.out w4 HX4.out
            go_wp2_with fail
            refine (HBH.out w4).mono ?_
            rintro e w5 ⟨rfl, hx5⟩
            have HX5 := Lib.hid (bel_call HX4.out hx5)
            clear hx5 e0 e1
            go_wp2_with fail
            go_roundw
            case rel => exact ⟨k + 1, O ++ TL ++ ⟨#[45]⟩ ++ TH, by omega, by go_num, rfl, HO2.out.2, Lib.hid HO2.out.1, Lib.hid (bel_call hE.out HX5.out), Lib.hid (hTd.out.ext HX5.out)⟩
            case measure => simp [intOf]; omega
      · obtain rfl : k = (spn s).length := by omega
        have ht : O ++ ⟨#[93]⟩ = T := by
          apply ba_ext
          rw [← HTT.out, app_list, ← hO.out, List.take_length]
          rfl
        have HTx := Lib.hid ht
        clear hO ht
        go_wp2_with fail
        go_ret
        rw [HTx.out]
        exact ⟨rfl, hE.out⟩
end Go.Proofs.YtgcfilgobclcjaaDoor
namespace Go.Proofs.YtgcfilgobclcjaaDoor
open Go Go.RowKit
theorem ext_at (s : ByteArray) (k : Nat) (b : UInt8) (h : k < s.size) (hb : s.data.toList[k]'(by rw [Array.length_toList]; exact h) = b) : (s.extract k (k + 1)).data.toList = [b] := by
  rw [ByteArray.data_extract, Array.toList_extract, List.extract_eq_take_drop]
  rw [show k + 1 - k = 1 by omega, List.drop_eq_getElem_cons (by rw [Array.length_toList]; exact h), hb]
  rfl
set_option maxHeartbeats 2000000 in
set_option maxRecDepth 20000 in
theorem rquote_any (s T : ByteArray) (hs : s.size ≤ 100000000) (hT : qot s.data.toList = T.data.toList) (w : World) :
    Calls Tryd.prog 10 #[.string s] w fun e w' => e = .returned (.string T) ∧ Below w.heap.size w w' := by
  have hsl : s.data.toList.length = s.size := by rw [Array.length_toList]; rfl
  have HT := Lib.hid hT
  clear hT
  go_enter Tryd.func10, Tryd.ntmps10
  go_wp2_with fail
  go_loopw [3, 4] (fun v i wr => ∃ (k : Nat) (O : ByteArray), k ≤ s.size ∧ i = .int .i64 k ∧ v = .string O ∧ O.size ≤ 4 * k + 1 ∧ Hid (34 :: (s.data.toList.take k).flatMap (spl 32 qmarks) = O.data.toList) ∧ Hid (Ext w wr)) (fun _ i _ => s.size - (intOf i).toNat)
  case atStart => exact ⟨0, ⟨#[34]⟩, Nat.zero_le _, rfl, rfl, by decide, Lib.hid rfl, Lib.hid (Below.refl _ _)⟩
  case round =>
    obtain ⟨k, O, hk, rfl, rfl, hOs, hO, hE⟩ := hrel
    by_cases hlt : k < s.size
    · have hts := take_flat (spl 32 qmarks) s.data.toList k (by omega)
      obtain ⟨b, hb⟩ : ∃ b, s.data.toList[k]'(by omega) = b := ⟨_, rfl⟩
      have hb2 : s[k] = b := by rw [← hb]; rfl
      have hX := ext_at s k b hlt hb
      rw [hb] at hts
      have HK := Lib.hid hts
      have hXs : (s.extract k (k + 1)).size = 1 := by rw [len_tl, hX]; rfl
      have HXL := Lib.hid hX
      clear hts hb hX
      generalize hXe : s.extract k (k + 1) = X at *
      have HXE := Lib.hid hXe
      clear hXe
      by_cases h : b ≠ 10 ∧ b ≠ 9 ∧ b ≠ 13
      · have hpl := rplain_no b h wr
        have HPL := Lib.hid hpl
        have H := Lib.hid h
        clear hpl h
        go_wp2_with fail
        refine HPL.out.mono ?_
        rintro e w2 ⟨rfl, hx2⟩
        have HE2 := Lib.hid (bel_call hE.out hx2)
        clear hx2 HPL
        have q : ∀ c : UInt8, b ≠ c → ((b.toNat : Int) == (c.toNat : Int)) = false := fun c hc => by
          have : b.toNat ≠ c.toNat := fun e => hc (UInt8.toNat_inj.1 e)
          simp; omega
        by_cases hq : b = 34 ∨ b = 92
        · have hsp : spl 32 qmarks b = [92, b] := by
            unfold spl
            rw [if_neg H.out.1, if_neg H.out.2.1, if_neg H.out.2.2, if_pos (by simp only [qmarks, List.mem_cons, List.not_mem_nil, or_false]; exact hq)]
          have HSP := Lib.hid hsp
          have hz : (⟨#[92]⟩ : ByteArray).size = 1 := rfl
          have hb3 : ((b.toNat : Int) == 34) = true ∨ (((b.toNat : Int) == 34) = false ∧ ((b.toNat : Int) == 92) = true) := by
            rcases hq with rfl | rfl
            · exact .inl rfl
            · exact .inr ⟨rfl, rfl⟩
          clear hsp q hq H
          rcases hb3 with q1 | ⟨q1, q2⟩
          · have hO2 : 34 :: (s.data.toList.take (k + 1)).flatMap (spl 32 qmarks) = (O ++ ⟨#[92]⟩ ++ X).data.toList := by
              rw [HK.out, ← List.cons_append, hO.out]
              rw [HSP.out, app_list, app_list, HXL.out]; simp
            have HO2 := Lib.hid hO2
            clear hO2 HK hO
            go_wp2_with fail
            go_roundw
            case rel => exact ⟨k + 1, O ++ ⟨#[92]⟩ ++ X, by omega, by go_num, by first | rfl | rw [HXE.out], by simp only [ByteArray.size_append]; omega, Lib.hid HO2.out, Lib.hid (HE2.out)⟩
            case measure => simp [intOf]; omega
          · have hO2 : 34 :: (s.data.toList.take (k + 1)).flatMap (spl 32 qmarks) = (O ++ ⟨#[92]⟩ ++ X).data.toList := by
              rw [HK.out, ← List.cons_append, hO.out]
              rw [HSP.out, app_list, app_list, HXL.out]; simp
            have HO2 := Lib.hid hO2
            clear hO2 HK hO
            go_wp2_with fail
            go_roundw
            case rel => exact ⟨k + 1, O ++ ⟨#[92]⟩ ++ X, by omega, by go_num, by first | rfl | rw [HXE.out], by simp only [ByteArray.size_append]; omega, Lib.hid HO2.out, Lib.hid (HE2.out)⟩
            case measure => simp [intOf]; omega
        · have q1 : ((b.toNat : Int) == 34) = false := q 34 (fun e => hq (.inl e))
          have q2 : ((b.toNat : Int) == 92) = false := q 92 (fun e => hq (.inr e))
          have hsp : spl 32 qmarks b = if 32 ≤ b ∧ b ≤ 126 then [b] else [92, 120, dig (b.toNat / 16), dig (b.toNat % 16)] := by
            unfold spl
            rw [if_neg H.out.1, if_neg H.out.2.1, if_neg H.out.2.2, if_neg (by simp only [qmarks, List.mem_cons, List.not_mem_nil, or_false]; exact hq)]
          have hle : (32 ≤ b ↔ (32 : Int) ≤ b.toNat) ∧ (b ≤ 126 ↔ (b.toNat : Int) ≤ 126) := by
            rw [UInt8.le_iff_toNat_le, UInt8.le_iff_toNat_le]
            show (32 ≤ b.toNat ↔ _) ∧ (b.toNat ≤ 126 ↔ _)
            omega
          have hhx := Lib.hid (rhex_any b w2)
          clear q hq H
          have hz : (⟨#[92, 120, dig (b.toNat / 16), dig (b.toNat % 16)]⟩ : ByteArray).size = 4 := rfl
          by_cases h1 : (32 : Int) ≤ b.toNat
          · have d1 : decide ((32 : Int) ≤ (b.toNat : Int)) = true := decide_eq_true h1
            by_cases h2 : (b.toNat : Int) ≤ 126
            · have d2 : decide ((b.toNat : Int) ≤ 126) = true := decide_eq_true h2
              rw [if_pos ⟨hle.1.2 h1, hle.2.2 h2⟩] at hsp
              have HSP := Lib.hid hsp
              clear hsp hle hhx hz
              have hO2 : 34 :: (s.data.toList.take (k + 1)).flatMap (spl 32 qmarks) = (O ++ X).data.toList := by
                rw [HK.out, ← List.cons_append, hO.out]
                rw [HSP.out, app_list, HXL.out]
              have HO2 := Lib.hid hO2
              clear hO2 HK hO
              go_wp2_with fail
              go_roundw
              case rel => exact ⟨k + 1, O ++ X, by omega, by go_num, by first | rfl | rw [HXE.out], by simp only [ByteArray.size_append]; omega, Lib.hid HO2.out, Lib.hid (HE2.out)⟩
              case measure => simp [intOf]; omega
            · have d2 : decide ((b.toNat : Int) ≤ 126) = false := decide_eq_false h2
              rw [if_neg (fun h => h2 (hle.2.1 h.2))] at hsp
              have HSP := Lib.hid hsp
              clear hsp hle
              go_wp2_with fail
              refine hhx.out.mono ?_
              rintro e w3 ⟨rfl, hx3⟩
              have HE3 := Lib.hid (bel_call HE2.out hx3)
              clear hx3 hhx
              have hO2 : 34 :: (s.data.toList.take (k + 1)).flatMap (spl 32 qmarks) = (O ++ ⟨#[92, 120, dig (b.toNat / 16), dig (b.toNat % 16)]⟩).data.toList := by
                rw [HK.out, ← List.cons_append, hO.out]
                rw [HSP.out, app_list]
              have HO2 := Lib.hid hO2
              clear hO2 HK hO
              go_wp2_with fail
              go_roundw
              case rel => exact ⟨k + 1, O ++ ⟨#[92, 120, dig (b.toNat / 16), dig (b.toNat % 16)]⟩, by omega, by go_num, by first | rfl | rw [HXE.out], by simp only [ByteArray.size_append]; omega, Lib.hid HO2.out, Lib.hid (HE3.out)⟩
              case measure => simp [intOf]; omega
          · have d1 : decide ((32 : Int) ≤ (b.toNat : Int)) = false := decide_eq_false h1
            rw [if_neg (fun h => h1 (hle.1.1 h.1))] at hsp
            have HSP := Lib.hid hsp
            clear hsp hle
            go_wp2_with fail
            refine hhx.out.mono ?_
            rintro e w3 ⟨rfl, hx3⟩
            have HE3 := Lib.hid (bel_call HE2.out hx3)
            clear hx3 hhx
            have hO2 : 34 :: (s.data.toList.take (k + 1)).flatMap (spl 32 qmarks) = (O ++ ⟨#[92, 120, dig (b.toNat / 16), dig (b.toNat % 16)]⟩).data.toList := by
              rw [HK.out, ← List.cons_append, hO.out]
              rw [HSP.out, app_list]
            have HO2 := Lib.hid hO2
            clear hO2 HK hO
            go_wp2_with fail
            go_roundw
            case rel => exact ⟨k + 1, O ++ ⟨#[92, 120, dig (b.toNat / 16), dig (b.toNat % 16)]⟩, by omega, by go_num, by first | rfl | rw [HXE.out], by simp only [ByteArray.size_append]; omega, Lib.hid HO2.out, Lib.hid (HE3.out)⟩
            case measure => simp [intOf]; omega
      · have hc : b = 10 ∨ b = 9 ∨ b = 13 := by
          by_cases h1 : b = 10
          · exact .inl h1
          · by_cases h2 : b = 9
            · exact .inr (.inl h2)
            · exact .inr (.inr (Classical.byContradiction fun h3 => h ⟨h1, h2, h3⟩))
        clear h
        go_wp2_with fail
        rcases hc with hb1 | hb1 | hb1
        · subst hb1
          refine (rplain_10 wr).mono ?_
          rintro e w2 ⟨rfl, hx2⟩
          have HE2 := Lib.hid (bel_call hE.out hx2)
          clear hx2
          have hz : (⟨#[92, 110]⟩ : ByteArray).size = 2 := rfl
          have hO2 : 34 :: (s.data.toList.take (k + 1)).flatMap (spl 32 qmarks) = (O ++ ⟨#[92, 110]⟩).data.toList := by
            rw [HK.out, ← List.cons_append, hO.out]
            rw [app_list]; rfl
          have HO2 := Lib.hid hO2
          clear hO2 HK hO
          go_wp2_with fail
          go_roundw
          case rel => exact ⟨k + 1, O ++ ⟨#[92, 110]⟩, by omega, by go_num, by first | rfl | rw [HXE.out], by simp only [ByteArray.size_append]; omega, Lib.hid HO2.out, Lib.hid (HE2.out)⟩
          case measure => simp [intOf]; omega
        · subst hb1
          refine (rplain_9 wr).mono ?_
          rintro e w2 ⟨rfl, hx2⟩
          have HE2 := Lib.hid (bel_call hE.out hx2)
          clear hx2
          have hz : (⟨#[92, 116]⟩ : ByteArray).size = 2 := rfl
          have hO2 : 34 :: (s.data.toList.take (k + 1)).flatMap (spl 32 qmarks) = (O ++ ⟨#[92, 116]⟩).data.toList := by
            rw [HK.out, ← List.cons_append, hO.out]
            rw [app_list]; rfl
          have HO2 := Lib.hid hO2
          clear hO2 HK hO
          go_wp2_with fail
          go_roundw
          case rel => exact ⟨k + 1, O ++ ⟨#[92, 116]⟩, by omega, by go_num, by first | rfl | rw [HXE.out], by simp only [ByteArray.size_append]; omega, Lib.hid HO2.out, Lib.hid (HE2.out)⟩
          case measure => simp [intOf]; omega
        · subst hb1
          refine (rplain_13 wr).mono ?_
          rintro e w2 ⟨rfl, hx2⟩
          have HE2 := Lib.hid (bel_call hE.out hx2)
          clear hx2
          have hz : (⟨#[92, 114]⟩ : ByteArray).size = 2 := rfl
          have hO2 : 34 :: (s.data.toList.take (k + 1)).flatMap (spl 32 qmarks) = (O ++ ⟨#[92, 114]⟩).data.toList := by
            rw [HK.out, ← List.cons_append, hO.out]
            rw [app_list]; rfl
          have HO2 := Lib.hid hO2
          clear hO2 HK hO
          go_wp2_with fail
          go_roundw
          case rel => exact ⟨k + 1, O ++ ⟨#[92, 114]⟩, by omega, by go_num, by first | rfl | rw [HXE.out], by simp only [ByteArray.size_append]; omega, Lib.hid HO2.out, Lib.hid (HE2.out)⟩
          case measure => simp [intOf]; omega
    · obtain rfl : k = s.size := by omega
      have ht : O ++ ⟨#[34]⟩ = T := by
        apply ba_ext
        rw [← HT.out, app_list, ← hO.out, List.take_of_length_le (by omega)]
        rfl
      have HTx := Lib.hid ht
      clear hO ht
      go_wp2_with fail
      go_ret
      rw [HTx.out]
      exact ⟨rfl, hE.out⟩
end Go.Proofs.YtgcfilgobclcjaaDoor
namespace Go.Proofs.YtgcfilgobclcjaaDoor
open Go Go.RowKit
set_option maxHeartbeats 4000000 in
set_option maxRecDepth 20000 in
theorem writes_any (vs vt : Value) (LS : List (BitVec 256)) (LT : List ByteArray) (es ed : Addr) (w : World) (hs : SetsIn w vs LS) (ht : StrsIn w vt LT) (hT : Tab w) (hK : Kn w es ed) :
    Calls Tryd.prog 3 #[.agg #[vs, vt]] w fun e w' => e = .returned (.bool true) ∧ Below w.heap.size w w' := by
  have HS := Lib.hid hs
  have HT := Lib.hid hT
  have HK := Lib.hid hK
  have HV := Lib.hid ht
  obtain ⟨sa, sc, rfl, hs1, hs2, _⟩ := hs
  obtain ⟨ta, tc, rfl, ht1, ht2, _⟩ := ht
  have hx0 : Ext w (w.alloc (.cells #[.slice sa LS.length sc, .slice ta LT.length tc] 25)) := by go_grown
  have HX0 := Lib.hid hx0
  have HB0 := Lib.hid (Blk.new w #[.slice sa LS.length sc, .slice ta LT.length tc] 25)
  clear hT hK hx0
  have hS63 : LS.length ≤ 9223372036854775807 := by unfold maxLen at hs2; omega
  have hT63 : LT.length ≤ 9223372036854775807 := by unfold maxLen at ht2; omega
  go_enter Tryd.func3, Tryd.ntmps3
  go_wp2_with fail
  have HW := Lib.hid (And.intro (HT.out.ext HX0.out) (And.intro (HK.out.ext HX0.out) (And.intro (HS.out.ext HX0.out) (HV.out.ext HX0.out))))
  obtain ⟨p, hp⟩ : ∃ p, w.heap.size = p := ⟨_, rfl⟩
  clear HT HK HS HV
  rw [hp] at HB0 ⊢
  replace hp := Lib.hid hp
  generalize w.alloc (.cells #[.slice sa LS.length sc, .slice ta LT.length tc] 25) = w0 at HW HX0 HB0 ⊢
  go_loopw [3] (fun i wr => ∃ k : Nat, k ≤ 20 ∧ k ≤ LS.length ∧ i = .int .i64 k ∧ Hid (Ext w0 wr)) (fun i _ => 20 - (intOf i).toNat)
  case atStart => exact ⟨0, by omega, by omega, rfl, Lib.hid (Below.refl _ _)⟩
  case round =>
    obtain ⟨k, hk20, hkl, rfl, hE⟩ := hrel
    obtain ⟨g0, g1⟩ := (HB0.out.ext hE.out).cells2
    by_cases hkn : k < LS.length
    · have hd1 : decide ((k : Int) < (LS.length : Int)) = true := by simp; omega
      by_cases hk : k < 20
      · have hd2 : decide ((k : Int) < 20) = true := by simp; omega
        obtain ⟨b, o, rfl, hb, hcell⟩ := (HW.out.2.2.1.ext hE.out).cells hkn
        obtain ⟨S, hS⟩ : ∃ S, LS[k] = S := ⟨_, rfl⟩
        obtain ⟨T, hTT⟩ : ∃ T : ByteArray, txt S = T.data.toList := ⟨⟨(txt S).toArray⟩, by simp⟩
        have HCL2 := Lib.hid (show ∀ w', Ext w0 w' → w'.cell? ⟨b, o + k * 4, none⟩ = some (.int .u64 (wd S 0)) ∧ w'.cell? ⟨b, o + k * 4 + 1, none⟩ = some (.int .u64 (wd S 1)) ∧ w'.cell? ⟨b, o + k * 4 + 2, none⟩ = some (.int .u64 (wd S 2)) ∧ w'.cell? ⟨b, o + k * 4 + 3, none⟩ = some (.int .u64 (wd S 3)) from fun w' hx => by
          obtain ⟨b', o', e1, hb', hc'⟩ := (HW.out.2.2.1.ext hx).cells hkn
          cases e1
          have := hc' k hkn
          rw [hS] at this
          exact this)
        have HA := Lib.hid (fun w h => text_is S T hTT w h)
        have HR := Lib.hid (fun w => rtext_any S T hTT w)
        clear hcell hS hTT
        go_wp2_with fail
        clear g0 g1
        refine G.wp_region_stab (G := Ext) (fun _ => none) (by kernel_rfl) (by kernel_rfl) (fun _ _ h => by cases h) (fun hex => ?_)
        refine G.wpS_one (A := ?_) hex rfl rfl (by simp) ?_ ?_ ?_
        rotate_left 2
        · intro w' hC K hK
          go_wp2_with (fail)
          refine hK _ ?_
          first | exact Below.refl _ _ | assumption | ((repeat' (first | (with_reducible exact Below.refl _ _) | (with_reducible assumption) | (with_reducible refine below_drewN ?_ _) | (with_reducible refine Below.alloc ?_ ?_ _) | (with_reducible refine Below.drew ?_) | (with_reducible refine Below.setCell ?_ ?_ _) | (with_reducible refine Below.trans ?_ (Below.mono (by with_reducible assumption) ?_)) | go_size)))
        rotate_left 1
        · rfl
        clear hex; intro hex
        refine G.wpS_one (A := ?_) hex rfl rfl (by simp) ?_ ?_ ?_
        rotate_left 2
        · intro w' hC K hK
          obtain ⟨g0, g1⟩ := (HB0.out.ext (bel_call hE.out hC.1)).cells2
          go_wp2_with (fail)
          refine hK _ ?_
          first | exact Below.refl _ _ | assumption | ((repeat' (first | (with_reducible exact Below.refl _ _) | (with_reducible assumption) | (with_reducible refine below_drewN ?_ _) | (with_reducible refine Below.alloc ?_ ?_ _) | (with_reducible refine Below.drew ?_) | (with_reducible refine Below.setCell ?_ ?_ _) | (with_reducible refine Below.trans ?_ (Below.mono (by with_reducible assumption) ?_)) | go_size)))
        rotate_left 1
        · rfl
        clear hex; intro hex
        iterate 2
          (refine G.wpS_one (A := ?_) hex rfl rfl (by simp) ?_ ?_ ?_
           rotate_left 2
           · intro w' hC K hK
             go_wp2_with (fail)
             refine hK _ ?_
             first | exact Below.refl _ _ | assumption | ((repeat' (first | (with_reducible exact Below.refl _ _) | (with_reducible assumption) | (with_reducible refine below_drewN ?_ _) | (with_reducible refine Below.alloc ?_ ?_ _) | (with_reducible refine Below.drew ?_) | (with_reducible refine Below.setCell ?_ ?_ _) | (with_reducible refine Below.trans ?_ (Below.mono (by with_reducible assumption) ?_)) | go_size)))
           rotate_left 1
           · rfl
           clear hex; intro hex)
        refine G.wpS_one (A := ?_) hex rfl rfl (by simp) ?_ ?_ ?_
        rotate_left 2
        · intro w' hC K hK
          obtain ⟨a0, a1, a2, a3⟩ := HCL2.out _ (bel_call hE.out hC.1)
          go_wp2_with (fail)
          refine hK _ ?_
          first | exact Below.refl _ _ | assumption | ((repeat' (first | (with_reducible exact Below.refl _ _) | (with_reducible assumption) | (with_reducible refine below_drewN ?_ _) | (with_reducible refine Below.alloc ?_ ?_ _) | (with_reducible refine Below.drew ?_) | (with_reducible refine Below.setCell ?_ ?_ _) | (with_reducible refine Below.trans ?_ (Below.mono (by with_reducible assumption) ?_)) | go_size)))
        rotate_left 1
        · rfl
        clear hex; intro hex
        refine G.wpS_one (A := ?_) hex rfl rfl (by simp) ?_ ?_ ?_
        rotate_left 2
        · intro w' hC K hK
          go_wp2_with (refine (HA.out _ (HW.out.1.ext (bel_call hE.out hC.1))).mono ?_; rintro e wq ⟨rfl, hEq⟩)
          refine hK _ ?_
          first | exact Below.refl _ _ | assumption | ((repeat' (first | (with_reducible exact Below.refl _ _) | (with_reducible assumption) | (with_reducible refine below_drewN ?_ _) | (with_reducible refine Below.alloc ?_ ?_ _) | (with_reducible refine Below.drew ?_) | (with_reducible refine Below.setCell ?_ ?_ _) | (with_reducible refine Below.trans ?_ (Below.mono (by with_reducible assumption) ?_)) | go_size)))
        rotate_left 1
        · rfl
        clear hex; intro hex
        refine G.wpS_one (A := ?_) hex rfl rfl (by simp) ?_ ?_ ?_
        rotate_left 2
        · intro w' hC K hK
          go_wp2_with (fail)
          refine hK _ ?_
          first | exact Below.refl _ _ | assumption | ((repeat' (first | (with_reducible exact Below.refl _ _) | (with_reducible assumption) | (with_reducible refine below_drewN ?_ _) | (with_reducible refine Below.alloc ?_ ?_ _) | (with_reducible refine Below.drew ?_) | (with_reducible refine Below.setCell ?_ ?_ _) | (with_reducible refine Below.trans ?_ (Below.mono (by with_reducible assumption) ?_)) | go_size)))
        rotate_left 1
        · rfl
        clear hex; intro hex
        refine G.wpS_one (A := ?_) hex rfl rfl (by simp) ?_ ?_ ?_
        rotate_left 2
        · intro w' hC K hK
          obtain ⟨g0, g1⟩ := (HB0.out.ext (bel_call hE.out hC.1)).cells2
          go_wp2_with (fail)
          refine hK _ ?_
          first | exact Below.refl _ _ | assumption | ((repeat' (first | (with_reducible exact Below.refl _ _) | (with_reducible assumption) | (with_reducible refine below_drewN ?_ _) | (with_reducible refine Below.alloc ?_ ?_ _) | (with_reducible refine Below.drew ?_) | (with_reducible refine Below.setCell ?_ ?_ _) | (with_reducible refine Below.trans ?_ (Below.mono (by with_reducible assumption) ?_)) | go_size)))
        rotate_left 1
        · rfl
        clear hex; intro hex
        iterate 2
          (refine G.wpS_one (A := ?_) hex rfl rfl (by simp) ?_ ?_ ?_
           rotate_left 2
           · intro w' hC K hK
             go_wp2_with (fail)
             refine hK _ ?_
             first | exact Below.refl _ _ | assumption | ((repeat' (first | (with_reducible exact Below.refl _ _) | (with_reducible assumption) | (with_reducible refine below_drewN ?_ _) | (with_reducible refine Below.alloc ?_ ?_ _) | (with_reducible refine Below.drew ?_) | (with_reducible refine Below.setCell ?_ ?_ _) | (with_reducible refine Below.trans ?_ (Below.mono (by with_reducible assumption) ?_)) | go_size)))
           rotate_left 1
           · rfl
           clear hex; intro hex)
        refine G.wpS_one (A := ?_) hex rfl rfl (by simp) ?_ ?_ ?_
        rotate_left 2
        · intro w' hC K hK
          obtain ⟨a0, a1, a2, a3⟩ := HCL2.out _ (bel_call hE.out hC.1)
          go_wp2_with (fail)
          refine hK _ ?_
          first | exact Below.refl _ _ | assumption | ((repeat' (first | (with_reducible exact Below.refl _ _) | (with_reducible assumption) | (with_reducible refine below_drewN ?_ _) | (with_reducible refine Below.alloc ?_ ?_ _) | (with_reducible refine Below.drew ?_) | (with_reducible refine Below.setCell ?_ ?_ _) | (with_reducible refine Below.trans ?_ (Below.mono (by with_reducible assumption) ?_)) | go_size)))
        rotate_left 1
        · rfl
        clear hex; intro hex
        refine G.wpS_one (A := ?_) hex rfl rfl (by simp) ?_ ?_ ?_
        rotate_left 2
        · intro w' hC K hK
          go_wp2_with (refine (HR.out _).mono ?_; rintro e wq ⟨rfl, hEq⟩)
          refine hK _ ?_
          first | exact Below.refl _ _ | assumption | ((repeat' (first | (with_reducible exact Below.refl _ _) | (with_reducible assumption) | (with_reducible refine below_drewN ?_ _) | (with_reducible refine Below.alloc ?_ ?_ _) | (with_reducible refine Below.drew ?_) | (with_reducible refine Below.setCell ?_ ?_ _) | (with_reducible refine Below.trans ?_ (Below.mono (by with_reducible assumption) ?_)) | go_size)))
        rotate_left 1
        · rfl
        clear hex; intro hex
        refine G.wpS_one (A := ?_) hex rfl rfl (by simp) ?_ ?_ ?_
        rotate_left 2
        · intro w' hC K hK
          go_wp2_with (fail)
          refine hK _ ?_
          first | exact Below.refl _ _ | assumption | ((repeat' (first | (with_reducible exact Below.refl _ _) | (with_reducible assumption) | (with_reducible refine below_drewN ?_ _) | (with_reducible refine Below.alloc ?_ ?_ _) | (with_reducible refine Below.drew ?_) | (with_reducible refine Below.setCell ?_ ?_ _) | (with_reducible refine Below.trans ?_ (Below.mono (by with_reducible assumption) ?_)) | go_size)))
        rotate_left 1
        · rfl
        clear hex; intro hex
        refine G.wpS_nil fun w6 hAll => ?_
        have HE6 := Lib.hid (bel_call hE.out hAll.1)
        clear hAll hex HA HR
        go_wp2_with fail
        go_roundw
        case rel => first | exact ⟨k + 1, by omega, by omega, by go_num, HE6⟩ | ((repeat apply Exists.intro); exact ⟨⟨k + 1, by omega, by omega, by go_num, HE6⟩, rfl⟩)
        case measure => simp [intOf]; omega
      · obtain rfl : k = 20 := by omega
        have hd1 : decide (((20 : Nat) : Int) < (LS.length : Int)) = true := by simp; omega
        go_wp2_with fail
        clear g0 g1 hd1
        go_loopw [4] (fun i wr => ∃ k : Nat, k ≤ 20 ∧ k ≤ LT.length ∧ i = .int .i64 k ∧ Hid (Ext w0 wr)) (fun i _ => 20 - (intOf i).toNat)
        case atStart => exact ⟨0, by omega, by omega, rfl, hE⟩
        case round =>
          clear hE
          obtain ⟨n, hn20, hnl, rfl, hE2⟩ := hrel
          obtain ⟨g0, g1⟩ := (HB0.out.ext hE2.out).cells2
          by_cases hnn : n < LT.length
          · have hd1 : decide ((n : Int) < (LT.length : Int)) = true := by simp; omega
            by_cases hn : n < 20
            · have hd2 : decide ((n : Int) < 20) = true := by simp; omega
              obtain ⟨tb, to, rfl, _, hcell⟩ := (HW.out.2.2.2.ext hE2.out).cells hnn
              obtain ⟨Q, hQ⟩ : ∃ Q, LT[n] = Q := ⟨_, rfl⟩
              have HCL2 := Lib.hid (show ∀ w', Ext w0 w' → w'.cell? ⟨tb, to + n, none⟩ = some (.string Q) from fun w' hx => by
                obtain ⟨b', o', e1, hb', hc'⟩ := (HW.out.2.2.2.ext hx).cells hnn
                cases e1
                have := hc' n hnn
                rw [hQ] at this
                exact this)
              clear hcell hQ
              by_cases hql : Q.size ≤ 4000
              · have hd3 : decide ((Q.size : Int) ≤ 4000) = true := by simp; omega
                obtain ⟨T, hTT⟩ : ∃ T : ByteArray, qot Q.data.toList = T.data.toList := ⟨⟨(qot Q.data.toList).toArray⟩, by simp⟩
                have HA := Lib.hid (fun w => quote_is Q T (by omega) hTT w)
                have HR := Lib.hid (fun w => rquote_any Q T (by omega) hTT w)
                clear hTT
                go_wp2_with fail
                clear g0 g1
                refine G.wp_region_stab (G := Ext) (fun _ => none) (by kernel_rfl) (by kernel_rfl) (fun _ _ h => by cases h) (fun hex => ?_)
                refine G.wpS_one (A := ?_) hex rfl rfl (by simp) ?_ ?_ ?_
                rotate_left 2
                · intro w' hC K hK
                  go_wp2_with (fail)
                  refine hK _ ?_
                  first | exact Below.refl _ _ | assumption | ((repeat' (first | (with_reducible exact Below.refl _ _) | (with_reducible assumption) | (with_reducible refine below_drewN ?_ _) | (with_reducible refine Below.alloc ?_ ?_ _) | (with_reducible refine Below.drew ?_) | (with_reducible refine Below.setCell ?_ ?_ _) | (with_reducible refine Below.trans ?_ (Below.mono (by with_reducible assumption) ?_)) | go_size)))
                rotate_left 1
                · rfl
                clear hex; intro hex
                refine G.wpS_one (A := ?_) hex rfl rfl (by simp) ?_ ?_ ?_
                rotate_left 2
                · intro w' hC K hK
                  obtain ⟨g0, g1⟩ := (HB0.out.ext (bel_call hE2.out hC.1)).cells2
                  go_wp2_with (fail)
                  refine hK _ ?_
                  first | exact Below.refl _ _ | assumption | ((repeat' (first | (with_reducible exact Below.refl _ _) | (with_reducible assumption) | (with_reducible refine below_drewN ?_ _) | (with_reducible refine Below.alloc ?_ ?_ _) | (with_reducible refine Below.drew ?_) | (with_reducible refine Below.setCell ?_ ?_ _) | (with_reducible refine Below.trans ?_ (Below.mono (by with_reducible assumption) ?_)) | go_size)))
                rotate_left 1
                · rfl
                clear hex; intro hex
                iterate 2
                  (refine G.wpS_one (A := ?_) hex rfl rfl (by simp) ?_ ?_ ?_
                   rotate_left 2
                   · intro w' hC K hK
                     go_wp2_with (fail)
                     refine hK _ ?_
                     first | exact Below.refl _ _ | assumption | ((repeat' (first | (with_reducible exact Below.refl _ _) | (with_reducible assumption) | (with_reducible refine below_drewN ?_ _) | (with_reducible refine Below.alloc ?_ ?_ _) | (with_reducible refine Below.drew ?_) | (with_reducible refine Below.setCell ?_ ?_ _) | (with_reducible refine Below.trans ?_ (Below.mono (by with_reducible assumption) ?_)) | go_size)))
                   rotate_left 1
                   · rfl
                   clear hex; intro hex)
                refine G.wpS_one (A := ?_) hex rfl rfl (by simp) ?_ ?_ ?_
                rotate_left 2
                · intro w' hC K hK
                  have a0 := HCL2.out _ (bel_call hE2.out hC.1)
                  go_wp2_with (fail)
                  refine hK _ ?_
                  first | exact Below.refl _ _ | assumption | ((repeat' (first | (with_reducible exact Below.refl _ _) | (with_reducible assumption) | (with_reducible refine below_drewN ?_ _) | (with_reducible refine Below.alloc ?_ ?_ _) | (with_reducible refine Below.drew ?_) | (with_reducible refine Below.setCell ?_ ?_ _) | (with_reducible refine Below.trans ?_ (Below.mono (by with_reducible assumption) ?_)) | go_size)))
                rotate_left 1
                · rfl
                clear hex; intro hex
                iterate 4
                  (refine G.wpS_one (A := ?_) hex rfl rfl (by simp) ?_ ?_ ?_
                   rotate_left 2
                   · intro w' hC K hK
                     go_wp2_with (fail)
                     refine hK _ ?_
                     first | exact Below.refl _ _ | assumption | ((repeat' (first | (with_reducible exact Below.refl _ _) | (with_reducible assumption) | (with_reducible refine below_drewN ?_ _) | (with_reducible refine Below.alloc ?_ ?_ _) | (with_reducible refine Below.drew ?_) | (with_reducible refine Below.setCell ?_ ?_ _) | (with_reducible refine Below.trans ?_ (Below.mono (by with_reducible assumption) ?_)) | go_size)))
                   rotate_left 1
                   · rfl
                   clear hex; intro hex)
                refine G.wpS_one (A := ?_) hex rfl rfl (by simp) ?_ ?_ ?_
                rotate_left 2
                · intro w' hC K hK
                  obtain ⟨g0, g1⟩ := (HB0.out.ext (bel_call hE2.out hC.1)).cells2
                  go_wp2_with (fail)
                  refine hK _ ?_
                  first | exact Below.refl _ _ | assumption | ((repeat' (first | (with_reducible exact Below.refl _ _) | (with_reducible assumption) | (with_reducible refine below_drewN ?_ _) | (with_reducible refine Below.alloc ?_ ?_ _) | (with_reducible refine Below.drew ?_) | (with_reducible refine Below.setCell ?_ ?_ _) | (with_reducible refine Below.trans ?_ (Below.mono (by with_reducible assumption) ?_)) | go_size)))
                rotate_left 1
                · rfl
                clear hex; intro hex
                iterate 2
                  (refine G.wpS_one (A := ?_) hex rfl rfl (by simp) ?_ ?_ ?_
                   rotate_left 2
                   · intro w' hC K hK
                     go_wp2_with (fail)
                     refine hK _ ?_
                     first | exact Below.refl _ _ | assumption | ((repeat' (first | (with_reducible exact Below.refl _ _) | (with_reducible assumption) | (with_reducible refine below_drewN ?_ _) | (with_reducible refine Below.alloc ?_ ?_ _) | (with_reducible refine Below.drew ?_) | (with_reducible refine Below.setCell ?_ ?_ _) | (with_reducible refine Below.trans ?_ (Below.mono (by with_reducible assumption) ?_)) | go_size)))
                   rotate_left 1
                   · rfl
                   clear hex; intro hex)
                refine G.wpS_one (A := ?_) hex rfl rfl (by simp) ?_ ?_ ?_
                rotate_left 2
                · intro w' hC K hK
                  have a0 := HCL2.out _ (bel_call hE2.out hC.1)
                  go_wp2_with (fail)
                  refine hK _ ?_
                  first | exact Below.refl _ _ | assumption | ((repeat' (first | (with_reducible exact Below.refl _ _) | (with_reducible assumption) | (with_reducible refine below_drewN ?_ _) | (with_reducible refine Below.alloc ?_ ?_ _) | (with_reducible refine Below.drew ?_) | (with_reducible refine Below.setCell ?_ ?_ _) | (with_reducible refine Below.trans ?_ (Below.mono (by with_reducible assumption) ?_)) | go_size)))
                rotate_left 1
                · rfl
                clear hex; intro hex
                refine G.wpS_one (A := ?_) hex rfl rfl (by simp) ?_ ?_ ?_
                rotate_left 2
                · intro w' hC K hK
                  go_wp2_with (refine (HA.out _).mono ?_; rintro e wq ⟨rfl, hEq⟩)
                  refine hK _ ?_
                  first | exact Below.refl _ _ | assumption | ((repeat' (first | (with_reducible exact Below.refl _ _) | (with_reducible assumption) | (with_reducible refine below_drewN ?_ _) | (with_reducible refine Below.alloc ?_ ?_ _) | (with_reducible refine Below.drew ?_) | (with_reducible refine Below.setCell ?_ ?_ _) | (with_reducible refine Below.trans ?_ (Below.mono (by with_reducible assumption) ?_)) | go_size)))
                rotate_left 1
                · rfl
                clear hex; intro hex
                refine G.wpS_one (A := ?_) hex rfl rfl (by simp) ?_ ?_ ?_
                rotate_left 2
                · intro w' hC K hK
                  go_wp2_with (fail)
                  refine hK _ ?_
                  first | exact Below.refl _ _ | assumption | ((repeat' (first | (with_reducible exact Below.refl _ _) | (with_reducible assumption) | (with_reducible refine below_drewN ?_ _) | (with_reducible refine Below.alloc ?_ ?_ _) | (with_reducible refine Below.drew ?_) | (with_reducible refine Below.setCell ?_ ?_ _) | (with_reducible refine Below.trans ?_ (Below.mono (by with_reducible assumption) ?_)) | go_size)))
                rotate_left 1
                · rfl
                clear hex; intro hex
                refine G.wpS_one (A := ?_) hex rfl rfl (by simp) ?_ ?_ ?_
                rotate_left 2
                · intro w' hC K hK
                  obtain ⟨g0, g1⟩ := (HB0.out.ext (bel_call hE2.out hC.1)).cells2
                  go_wp2_with (fail)
                  refine hK _ ?_
                  first | exact Below.refl _ _ | assumption | ((repeat' (first | (with_reducible exact Below.refl _ _) | (with_reducible assumption) | (with_reducible refine below_drewN ?_ _) | (with_reducible refine Below.alloc ?_ ?_ _) | (with_reducible refine Below.drew ?_) | (with_reducible refine Below.setCell ?_ ?_ _) | (with_reducible refine Below.trans ?_ (Below.mono (by with_reducible assumption) ?_)) | go_size)))
                rotate_left 1
                · rfl
                clear hex; intro hex
                iterate 2
                  (refine G.wpS_one (A := ?_) hex rfl rfl (by simp) ?_ ?_ ?_
                   rotate_left 2
                   · intro w' hC K hK
                     go_wp2_with (fail)
                     refine hK _ ?_
                     first | exact Below.refl _ _ | assumption | ((repeat' (first | (with_reducible exact Below.refl _ _) | (with_reducible assumption) | (with_reducible refine below_drewN ?_ _) | (with_reducible refine Below.alloc ?_ ?_ _) | (with_reducible refine Below.drew ?_) | (with_reducible refine Below.setCell ?_ ?_ _) | (with_reducible refine Below.trans ?_ (Below.mono (by with_reducible assumption) ?_)) | go_size)))
                   rotate_left 1
                   · rfl
                   clear hex; intro hex)
                refine G.wpS_one (A := ?_) hex rfl rfl (by simp) ?_ ?_ ?_
                rotate_left 2
                · intro w' hC K hK
                  have a0 := HCL2.out _ (bel_call hE2.out hC.1)
                  go_wp2_with (fail)
                  refine hK _ ?_
                  first | exact Below.refl _ _ | assumption | ((repeat' (first | (with_reducible exact Below.refl _ _) | (with_reducible assumption) | (with_reducible refine below_drewN ?_ _) | (with_reducible refine Below.alloc ?_ ?_ _) | (with_reducible refine Below.drew ?_) | (with_reducible refine Below.setCell ?_ ?_ _) | (with_reducible refine Below.trans ?_ (Below.mono (by with_reducible assumption) ?_)) | go_size)))
                rotate_left 1
                · rfl
                clear hex; intro hex
                refine G.wpS_one (A := ?_) hex rfl rfl (by simp) ?_ ?_ ?_
                rotate_left 2
                · intro w' hC K hK
                  go_wp2_with (refine (HR.out _).mono ?_; rintro e wq ⟨rfl, hEq⟩)
                  refine hK _ ?_
                  first | exact Below.refl _ _ | assumption | ((repeat' (first | (with_reducible exact Below.refl _ _) | (with_reducible assumption) | (with_reducible refine below_drewN ?_ _) | (with_reducible refine Below.alloc ?_ ?_ _) | (with_reducible refine Below.drew ?_) | (with_reducible refine Below.setCell ?_ ?_ _) | (with_reducible refine Below.trans ?_ (Below.mono (by with_reducible assumption) ?_)) | go_size)))
                rotate_left 1
                · rfl
                clear hex; intro hex
                iterate 2
                  (refine G.wpS_one (A := ?_) hex rfl rfl (by simp) ?_ ?_ ?_
                   rotate_left 2
                   · intro w' hC K hK
                     go_wp2_with (fail)
                     refine hK _ ?_
                     first | exact Below.refl _ _ | assumption | ((repeat' (first | (with_reducible exact Below.refl _ _) | (with_reducible assumption) | (with_reducible refine below_drewN ?_ _) | (with_reducible refine Below.alloc ?_ ?_ _) | (with_reducible refine Below.drew ?_) | (with_reducible refine Below.setCell ?_ ?_ _) | (with_reducible refine Below.trans ?_ (Below.mono (by with_reducible assumption) ?_)) | go_size)))
                   rotate_left 1
                   · rfl
                   clear hex; intro hex)
                refine G.wpS_nil fun w6 hAll => ?_
                have HE6 := Lib.hid (bel_call hE2.out hAll.1)
                clear hAll hex
                go_wp2_with fail
                go_roundw
                case rel => first | exact ⟨n + 1, by omega, by omega, by go_num, HE6⟩ | ((repeat apply Exists.intro); exact ⟨⟨n + 1, by omega, by omega, by go_num, HE6⟩, rfl⟩)
                case measure => simp [intOf]; omega
              · have hd3 : decide ((Q.size : Int) ≤ 4000) = false := by simp; omega
                have HA := Lib.hid (fun w => quote_any ⟨#[]⟩ (by decide) w)
                have HR := HA
                go_wp2_with fail
                clear g0 g1
                refine G.wp_region_stab (G := Ext) (fun _ => none) (by kernel_rfl) (by kernel_rfl) (fun _ _ h => by cases h) (fun hex => ?_)
                refine G.wpS_one (A := ?_) hex rfl rfl (by simp) ?_ ?_ ?_
                rotate_left 2
                · intro w' hC K hK
                  go_wp2_with (fail)
                  refine hK _ ?_
                  first | exact Below.refl _ _ | assumption | ((repeat' (first | (with_reducible exact Below.refl _ _) | (with_reducible assumption) | (with_reducible refine below_drewN ?_ _) | (with_reducible refine Below.alloc ?_ ?_ _) | (with_reducible refine Below.drew ?_) | (with_reducible refine Below.setCell ?_ ?_ _) | (with_reducible refine Below.trans ?_ (Below.mono (by with_reducible assumption) ?_)) | go_size)))
                rotate_left 1
                · rfl
                clear hex; intro hex
                refine G.wpS_one (A := ?_) hex rfl rfl (by simp) ?_ ?_ ?_
                rotate_left 2
                · intro w' hC K hK
                  obtain ⟨g0, g1⟩ := (HB0.out.ext (bel_call hE2.out hC.1)).cells2
                  go_wp2_with (fail)
                  refine hK _ ?_
                  first | exact Below.refl _ _ | assumption | ((repeat' (first | (with_reducible exact Below.refl _ _) | (with_reducible assumption) | (with_reducible refine below_drewN ?_ _) | (with_reducible refine Below.alloc ?_ ?_ _) | (with_reducible refine Below.drew ?_) | (with_reducible refine Below.setCell ?_ ?_ _) | (with_reducible refine Below.trans ?_ (Below.mono (by with_reducible assumption) ?_)) | go_size)))
                rotate_left 1
                · rfl
                clear hex; intro hex
                iterate 2
                  (refine G.wpS_one (A := ?_) hex rfl rfl (by simp) ?_ ?_ ?_
                   rotate_left 2
                   · intro w' hC K hK
                     go_wp2_with (fail)
                     refine hK _ ?_
                     first | exact Below.refl _ _ | assumption | ((repeat' (first | (with_reducible exact Below.refl _ _) | (with_reducible assumption) | (with_reducible refine below_drewN ?_ _) | (with_reducible refine Below.alloc ?_ ?_ _) | (with_reducible refine Below.drew ?_) | (with_reducible refine Below.setCell ?_ ?_ _) | (with_reducible refine Below.trans ?_ (Below.mono (by with_reducible assumption) ?_)) | go_size)))
                   rotate_left 1
                   · rfl
                   clear hex; intro hex)
                refine G.wpS_one (A := ?_) hex rfl rfl (by simp) ?_ ?_ ?_
                rotate_left 2
                · intro w' hC K hK
                  have a0 := HCL2.out _ (bel_call hE2.out hC.1)
                  go_wp2_with (fail)
                  refine hK _ ?_
                  first | exact Below.refl _ _ | assumption | ((repeat' (first | (with_reducible exact Below.refl _ _) | (with_reducible assumption) | (with_reducible refine below_drewN ?_ _) | (with_reducible refine Below.alloc ?_ ?_ _) | (with_reducible refine Below.drew ?_) | (with_reducible refine Below.setCell ?_ ?_ _) | (with_reducible refine Below.trans ?_ (Below.mono (by with_reducible assumption) ?_)) | go_size)))
                rotate_left 1
                · rfl
                clear hex; intro hex
                iterate 4
                  (refine G.wpS_one (A := ?_) hex rfl rfl (by simp) ?_ ?_ ?_
                   rotate_left 2
                   · intro w' hC K hK
                     go_wp2_with (fail)
                     refine hK _ ?_
                     first | exact Below.refl _ _ | assumption | ((repeat' (first | (with_reducible exact Below.refl _ _) | (with_reducible assumption) | (with_reducible refine below_drewN ?_ _) | (with_reducible refine Below.alloc ?_ ?_ _) | (with_reducible refine Below.drew ?_) | (with_reducible refine Below.setCell ?_ ?_ _) | (with_reducible refine Below.trans ?_ (Below.mono (by with_reducible assumption) ?_)) | go_size)))
                   rotate_left 1
                   · rfl
                   clear hex; intro hex)
                refine G.wpS_one (A := ?_) hex rfl rfl (by simp) ?_ ?_ ?_
                rotate_left 2
                · intro w' hC K hK
                  obtain ⟨g0, g1⟩ := (HB0.out.ext (bel_call hE2.out hC.1)).cells2
                  go_wp2_with (fail)
                  refine hK _ ?_
                  first | exact Below.refl _ _ | assumption | ((repeat' (first | (with_reducible exact Below.refl _ _) | (with_reducible assumption) | (with_reducible refine below_drewN ?_ _) | (with_reducible refine Below.alloc ?_ ?_ _) | (with_reducible refine Below.drew ?_) | (with_reducible refine Below.setCell ?_ ?_ _) | (with_reducible refine Below.trans ?_ (Below.mono (by with_reducible assumption) ?_)) | go_size)))
                rotate_left 1
                · rfl
                clear hex; intro hex
                iterate 2
                  (refine G.wpS_one (A := ?_) hex rfl rfl (by simp) ?_ ?_ ?_
                   rotate_left 2
                   · intro w' hC K hK
                     go_wp2_with (fail)
                     refine hK _ ?_
                     first | exact Below.refl _ _ | assumption | ((repeat' (first | (with_reducible exact Below.refl _ _) | (with_reducible assumption) | (with_reducible refine below_drewN ?_ _) | (with_reducible refine Below.alloc ?_ ?_ _) | (with_reducible refine Below.drew ?_) | (with_reducible refine Below.setCell ?_ ?_ _) | (with_reducible refine Below.trans ?_ (Below.mono (by with_reducible assumption) ?_)) | go_size)))
                   rotate_left 1
                   · rfl
                   clear hex; intro hex)
                refine G.wpS_one (A := ?_) hex rfl rfl (by simp) ?_ ?_ ?_
                rotate_left 2
                · intro w' hC K hK
                  have a0 := HCL2.out _ (bel_call hE2.out hC.1)
                  go_wp2_with (fail)
                  refine hK _ ?_
                  first | exact Below.refl _ _ | assumption | ((repeat' (first | (with_reducible exact Below.refl _ _) | (with_reducible assumption) | (with_reducible refine below_drewN ?_ _) | (with_reducible refine Below.alloc ?_ ?_ _) | (with_reducible refine Below.drew ?_) | (with_reducible refine Below.setCell ?_ ?_ _) | (with_reducible refine Below.trans ?_ (Below.mono (by with_reducible assumption) ?_)) | go_size)))
                rotate_left 1
                · rfl
                clear hex; intro hex
                refine G.wpS_one (A := ?_) hex rfl rfl (by simp) ?_ ?_ ?_
                rotate_left 2
                · intro w' hC K hK
                  go_wp2_with (refine (HA.out _).mono ?_; rintro e wq ⟨rfl, hEq⟩)
                  refine hK _ ?_
                  first | exact Below.refl _ _ | assumption | ((repeat' (first | (with_reducible exact Below.refl _ _) | (with_reducible assumption) | (with_reducible refine below_drewN ?_ _) | (with_reducible refine Below.alloc ?_ ?_ _) | (with_reducible refine Below.drew ?_) | (with_reducible refine Below.setCell ?_ ?_ _) | (with_reducible refine Below.trans ?_ (Below.mono (by with_reducible assumption) ?_)) | go_size)))
                rotate_left 1
                · rfl
                clear hex; intro hex
                refine G.wpS_one (A := ?_) hex rfl rfl (by simp) ?_ ?_ ?_
                rotate_left 2
                · intro w' hC K hK
                  go_wp2_with (fail)
                  refine hK _ ?_
                  first | exact Below.refl _ _ | assumption | ((repeat' (first | (with_reducible exact Below.refl _ _) | (with_reducible assumption) | (with_reducible refine below_drewN ?_ _) | (with_reducible refine Below.alloc ?_ ?_ _) | (with_reducible refine Below.drew ?_) | (with_reducible refine Below.setCell ?_ ?_ _) | (with_reducible refine Below.trans ?_ (Below.mono (by with_reducible assumption) ?_)) | go_size)))
                rotate_left 1
                · rfl
                clear hex; intro hex
                refine G.wpS_one (A := ?_) hex rfl rfl (by simp) ?_ ?_ ?_
                rotate_left 2
                · intro w' hC K hK
                  obtain ⟨g0, g1⟩ := (HB0.out.ext (bel_call hE2.out hC.1)).cells2
                  go_wp2_with (fail)
                  refine hK _ ?_
                  first | exact Below.refl _ _ | assumption | ((repeat' (first | (with_reducible exact Below.refl _ _) | (with_reducible assumption) | (with_reducible refine below_drewN ?_ _) | (with_reducible refine Below.alloc ?_ ?_ _) | (with_reducible refine Below.drew ?_) | (with_reducible refine Below.setCell ?_ ?_ _) | (with_reducible refine Below.trans ?_ (Below.mono (by with_reducible assumption) ?_)) | go_size)))
                rotate_left 1
                · rfl
                clear hex; intro hex
                iterate 2
                  (refine G.wpS_one (A := ?_) hex rfl rfl (by simp) ?_ ?_ ?_
                   rotate_left 2
                   · intro w' hC K hK
                     go_wp2_with (fail)
                     refine hK _ ?_
                     first | exact Below.refl _ _ | assumption | ((repeat' (first | (with_reducible exact Below.refl _ _) | (with_reducible assumption) | (with_reducible refine below_drewN ?_ _) | (with_reducible refine Below.alloc ?_ ?_ _) | (with_reducible refine Below.drew ?_) | (with_reducible refine Below.setCell ?_ ?_ _) | (with_reducible refine Below.trans ?_ (Below.mono (by with_reducible assumption) ?_)) | go_size)))
                   rotate_left 1
                   · rfl
                   clear hex; intro hex)
                refine G.wpS_one (A := ?_) hex rfl rfl (by simp) ?_ ?_ ?_
                rotate_left 2
                · intro w' hC K hK
                  have a0 := HCL2.out _ (bel_call hE2.out hC.1)
                  go_wp2_with (fail)
                  refine hK _ ?_
                  first | exact Below.refl _ _ | assumption | ((repeat' (first | (with_reducible exact Below.refl _ _) | (with_reducible assumption) | (with_reducible refine below_drewN ?_ _) | (with_reducible refine Below.alloc ?_ ?_ _) | (with_reducible refine Below.drew ?_) | (with_reducible refine Below.setCell ?_ ?_ _) | (with_reducible refine Below.trans ?_ (Below.mono (by with_reducible assumption) ?_)) | go_size)))
                rotate_left 1
                · rfl
                clear hex; intro hex
                refine G.wpS_one (A := ?_) hex rfl rfl (by simp) ?_ ?_ ?_
                rotate_left 2
                · intro w' hC K hK
                  go_wp2_with (refine (HR.out _).mono ?_; rintro e wq ⟨rfl, hEq⟩)
                  refine hK _ ?_
                  first | exact Below.refl _ _ | assumption | ((repeat' (first | (with_reducible exact Below.refl _ _) | (with_reducible assumption) | (with_reducible refine below_drewN ?_ _) | (with_reducible refine Below.alloc ?_ ?_ _) | (with_reducible refine Below.drew ?_) | (with_reducible refine Below.setCell ?_ ?_ _) | (with_reducible refine Below.trans ?_ (Below.mono (by with_reducible assumption) ?_)) | go_size)))
                rotate_left 1
                · rfl
                clear hex; intro hex
                iterate 2
                  (refine G.wpS_one (A := ?_) hex rfl rfl (by simp) ?_ ?_ ?_
                   rotate_left 2
                   · intro w' hC K hK
                     go_wp2_with (fail)
                     refine hK _ ?_
                     first | exact Below.refl _ _ | assumption | ((repeat' (first | (with_reducible exact Below.refl _ _) | (with_reducible assumption) | (with_reducible refine below_drewN ?_ _) | (with_reducible refine Below.alloc ?_ ?_ _) | (with_reducible refine Below.drew ?_) | (with_reducible refine Below.setCell ?_ ?_ _) | (with_reducible refine Below.trans ?_ (Below.mono (by with_reducible assumption) ?_)) | go_size)))
                   rotate_left 1
                   · rfl
                   clear hex; intro hex)
                refine G.wpS_nil fun w6 hAll => ?_
                have HE6 := Lib.hid (bel_call hE2.out hAll.1)
                clear hAll hex
                go_wp2_with fail
                go_roundw
                case rel => first | exact ⟨n + 1, by omega, by omega, by go_num, HE6⟩ | ((repeat apply Exists.intro); exact ⟨⟨n + 1, by omega, by omega, by go_num, HE6⟩, rfl⟩)
                case measure => simp [intOf]; omega
            · obtain rfl : n = 20 := by omega
              have hd1 : decide (((20 : Nat) : Int) < (LT.length : Int)) = true := by simp; omega
              have hw := wakes_any es ed _ (HW.out.1.ext hE2.out) (HW.out.2.1.ext hE2.out)
              go_wp2_with fail
              clear g0 g1
              refine hw.mono ?_
              rintro e w9 ⟨rfl, hx9⟩
              have HX9 := Lib.hid (bel_call hE2.out hx9)
              clear hx9 hw
              go_wp2_with fail
              go_ret
              exact ⟨rfl, bel_call HX0.out HX9.out⟩
          · have hd1 : decide ((n : Int) < (LT.length : Int)) = false := by simp; omega
            have hw := wakes_any es ed _ (HW.out.1.ext hE2.out) (HW.out.2.1.ext hE2.out)
            go_wp2_with fail
            clear g0 g1
            refine hw.mono ?_
            rintro e w9 ⟨rfl, hx9⟩
            have HX9 := Lib.hid (bel_call hE2.out hx9)
            clear hx9 hw
            go_wp2_with fail
            go_ret
            exact ⟨rfl, bel_call HX0.out HX9.out⟩
    · have hd1 : decide ((k : Int) < (LS.length : Int)) = false := by simp; omega
      go_wp2_with fail
      clear g0 g1 hd1
      go_loopw [4] (fun i wr => ∃ k : Nat, k ≤ 20 ∧ k ≤ LT.length ∧ i = .int .i64 k ∧ Hid (Ext w0 wr)) (fun i _ => 20 - (intOf i).toNat)
      case atStart => exact ⟨0, by omega, by omega, rfl, hE⟩
      case round =>
        clear hE
        obtain ⟨n, hn20, hnl, rfl, hE2⟩ := hrel
        obtain ⟨g0, g1⟩ := (HB0.out.ext hE2.out).cells2
        by_cases hnn : n < LT.length
        · have hd1 : decide ((n : Int) < (LT.length : Int)) = true := by simp; omega
          by_cases hn : n < 20
          · have hd2 : decide ((n : Int) < 20) = true := by simp; omega
            obtain ⟨tb, to, rfl, _, hcell⟩ := (HW.out.2.2.2.ext hE2.out).cells hnn
            obtain ⟨Q, hQ⟩ : ∃ Q, LT[n] = Q := ⟨_, rfl⟩
            have HCL2 := Lib.hid (show ∀ w', Ext w0 w' → w'.cell? ⟨tb, to + n, none⟩ = some (.string Q) from fun w' hx => by
              obtain ⟨b', o', e1, hb', hc'⟩ := (HW.out.2.2.2.ext hx).cells hnn
              cases e1
              have := hc' n hnn
              rw [hQ] at this
              exact this)
            clear hcell hQ
            by_cases hql : Q.size ≤ 4000
            · have hd3 : decide ((Q.size : Int) ≤ 4000) = true := by simp; omega
              obtain ⟨T, hTT⟩ : ∃ T : ByteArray, qot Q.data.toList = T.data.toList := ⟨⟨(qot Q.data.toList).toArray⟩, by simp⟩
              have HA := Lib.hid (fun w => quote_is Q T (by omega) hTT w)
              have HR := Lib.hid (fun w => rquote_any Q T (by omega) hTT w)
              clear hTT
              go_wp2_with fail
              clear g0 g1
              refine G.wp_region_stab (G := Ext) (fun _ => none) (by kernel_rfl) (by kernel_rfl) (fun _ _ h => by cases h) (fun hex => ?_)
              refine G.wpS_one (A := ?_) hex rfl rfl (by simp) ?_ ?_ ?_
              rotate_left 2
              · intro w' hC K hK
                go_wp2_with (fail)
                refine hK _ ?_
                first | exact Below.refl _ _ | assumption | ((repeat' (first | (with_reducible exact Below.refl _ _) | (with_reducible assumption) | (with_reducible refine below_drewN ?_ _) | (with_reducible refine Below.alloc ?_ ?_ _) | (with_reducible refine Below.drew ?_) | (with_reducible refine Below.setCell ?_ ?_ _) | (with_reducible refine Below.trans ?_ (Below.mono (by with_reducible assumption) ?_)) | go_size)))
              rotate_left 1
              · rfl
              clear hex; intro hex
              refine G.wpS_one (A := ?_) hex rfl rfl (by simp) ?_ ?_ ?_
              rotate_left 2
              · intro w' hC K hK
                obtain ⟨g0, g1⟩ := (HB0.out.ext (bel_call hE2.out hC.1)).cells2
                go_wp2_with (fail)
                refine hK _ ?_
                first | exact Below.refl _ _ | assumption | ((repeat' (first | (with_reducible exact Below.refl _ _) | (with_reducible assumption) | (with_reducible refine below_drewN ?_ _) | (with_reducible refine Below.alloc ?_ ?_ _) | (with_reducible refine Below.drew ?_) | (with_reducible refine Below.setCell ?_ ?_ _) | (with_reducible refine Below.trans ?_ (Below.mono (by with_reducible assumption) ?_)) | go_size)))
              rotate_left 1
              · rfl
              clear hex; intro hex
              iterate 2
                (refine G.wpS_one (A := ?_) hex rfl rfl (by simp) ?_ ?_ ?_
                 rotate_left 2
                 · intro w' hC K hK
                   go_wp2_with (fail)
                   refine hK _ ?_
                   first | exact Below.refl _ _ | assumption | ((repeat' (first | (with_reducible exact Below.refl _ _) | (with_reducible assumption) | (with_reducible refine below_drewN ?_ _) | (with_reducible refine Below.alloc ?_ ?_ _) | (with_reducible refine Below.drew ?_) | (with_reducible refine Below.setCell ?_ ?_ _) | (with_reducible refine Below.trans ?_ (Below.mono (by with_reducible assumption) ?_)) | go_size)))
                 rotate_left 1
                 · rfl
                 clear hex; intro hex)
              refine G.wpS_one (A := ?_) hex rfl rfl (by simp) ?_ ?_ ?_
              rotate_left 2
              · intro w' hC K hK
                have a0 := HCL2.out _ (bel_call hE2.out hC.1)
                go_wp2_with (fail)
                refine hK _ ?_
                first | exact Below.refl _ _ | assumption | ((repeat' (first | (with_reducible exact Below.refl _ _) | (with_reducible assumption) | (with_reducible refine below_drewN ?_ _) | (with_reducible refine Below.alloc ?_ ?_ _) | (with_reducible refine Below.drew ?_) | (with_reducible refine Below.setCell ?_ ?_ _) | (with_reducible refine Below.trans ?_ (Below.mono (by with_reducible assumption) ?_)) | go_size)))
              rotate_left 1
              · rfl
              clear hex; intro hex
              iterate 4
                (refine G.wpS_one (A := ?_) hex rfl rfl (by simp) ?_ ?_ ?_
                 rotate_left 2
                 · intro w' hC K hK
                   go_wp2_with (fail)
                   refine hK _ ?_
                   first | exact Below.refl _ _ | assumption | ((repeat' (first | (with_reducible exact Below.refl _ _) | (with_reducible assumption) | (with_reducible refine below_drewN ?_ _) | (with_reducible refine Below.alloc ?_ ?_ _) | (with_reducible refine Below.drew ?_) | (with_reducible refine Below.setCell ?_ ?_ _) | (with_reducible refine Below.trans ?_ (Below.mono (by with_reducible assumption) ?_)) | go_size)))
                 rotate_left 1
                 · rfl
                 clear hex; intro hex)
              refine G.wpS_one (A := ?_) hex rfl rfl (by simp) ?_ ?_ ?_
              rotate_left 2
              · intro w' hC K hK
                obtain ⟨g0, g1⟩ := (HB0.out.ext (bel_call hE2.out hC.1)).cells2
                go_wp2_with (fail)
                refine hK _ ?_
                first | exact Below.refl _ _ | assumption | ((repeat' (first | (with_reducible exact Below.refl _ _) | (with_reducible assumption) | (with_reducible refine below_drewN ?_ _) | (with_reducible refine Below.alloc ?_ ?_ _) | (with_reducible refine Below.drew ?_) | (with_reducible refine Below.setCell ?_ ?_ _) | (with_reducible refine Below.trans ?_ (Below.mono (by with_reducible assumption) ?_)) | go_size)))
              rotate_left 1
              · rfl
              clear hex; intro hex
              iterate 2
                (refine G.wpS_one (A := ?_) hex rfl rfl (by simp) ?_ ?_ ?_
                 rotate_left 2
                 · intro w' hC K hK
                   go_wp2_with (fail)
                   refine hK _ ?_
                   first | exact Below.refl _ _ | assumption | ((repeat' (first | (with_reducible exact Below.refl _ _) | (with_reducible assumption) | (with_reducible refine below_drewN ?_ _) | (with_reducible refine Below.alloc ?_ ?_ _) | (with_reducible refine Below.drew ?_) | (with_reducible refine Below.setCell ?_ ?_ _) | (with_reducible refine Below.trans ?_ (Below.mono (by with_reducible assumption) ?_)) | go_size)))
                 rotate_left 1
                 · rfl
                 clear hex; intro hex)
              refine G.wpS_one (A := ?_) hex rfl rfl (by simp) ?_ ?_ ?_
              rotate_left 2
              · intro w' hC K hK
                have a0 := HCL2.out _ (bel_call hE2.out hC.1)
                go_wp2_with (fail)
                refine hK _ ?_
                first | exact Below.refl _ _ | assumption | ((repeat' (first | (with_reducible exact Below.refl _ _) | (with_reducible assumption) | (with_reducible refine below_drewN ?_ _) | (with_reducible refine Below.alloc ?_ ?_ _) | (with_reducible refine Below.drew ?_) | (with_reducible refine Below.setCell ?_ ?_ _) | (with_reducible refine Below.trans ?_ (Below.mono (by with_reducible assumption) ?_)) | go_size)))
              rotate_left 1
              · rfl
              clear hex; intro hex
              refine G.wpS_one (A := ?_) hex rfl rfl (by simp) ?_ ?_ ?_
              rotate_left 2
              · intro w' hC K hK
                go_wp2_with (refine (HA.out _).mono ?_; rintro e wq ⟨rfl, hEq⟩)
                refine hK _ ?_
                first | exact Below.refl _ _ | assumption | ((repeat' (first | (with_reducible exact Below.refl _ _) | (with_reducible assumption) | (with_reducible refine below_drewN ?_ _) | (with_reducible refine Below.alloc ?_ ?_ _) | (with_reducible refine Below.drew ?_) | (with_reducible refine Below.setCell ?_ ?_ _) | (with_reducible refine Below.trans ?_ (Below.mono (by with_reducible assumption) ?_)) | go_size)))
              rotate_left 1
              · rfl
              clear hex; intro hex
              refine G.wpS_one (A := ?_) hex rfl rfl (by simp) ?_ ?_ ?_
              rotate_left 2
              · intro w' hC K hK
                go_wp2_with (fail)
                refine hK _ ?_
                first | exact Below.refl _ _ | assumption | ((repeat' (first | (with_reducible exact Below.refl _ _) | (with_reducible assumption) | (with_reducible refine below_drewN ?_ _) | (with_reducible refine Below.alloc ?_ ?_ _) | (with_reducible refine Below.drew ?_) | (with_reducible refine Below.setCell ?_ ?_ _) | (with_reducible refine Below.trans ?_ (Below.mono (by with_reducible assumption) ?_)) | go_size)))
              rotate_left 1
              · rfl
              clear hex; intro hex
              refine G.wpS_one (A := ?_) hex rfl rfl (by simp) ?_ ?_ ?_
              rotate_left 2
              · intro w' hC K hK
                obtain ⟨g0, g1⟩ := (HB0.out.ext (bel_call hE2.out hC.1)).cells2
                go_wp2_with (fail)
                refine hK _ ?_
                first | exact Below.refl _ _ | assumption | ((repeat' (first | (with_reducible exact Below.refl _ _) | (with_reducible assumption) | (with_reducible refine below_drewN ?_ _) | (with_reducible refine Below.alloc ?_ ?_ _) | (with_reducible refine Below.drew ?_) | (with_reducible refine Below.setCell ?_ ?_ _) | (with_reducible refine Below.trans ?_ (Below.mono (by with_reducible assumption) ?_)) | go_size)))
              rotate_left 1
              · rfl
              clear hex; intro hex
              iterate 2
                (refine G.wpS_one (A := ?_) hex rfl rfl (by simp) ?_ ?_ ?_
                 rotate_left 2
                 · intro w' hC K hK
                   go_wp2_with (fail)
                   refine hK _ ?_
                   first | exact Below.refl _ _ | assumption | ((repeat' (first | (with_reducible exact Below.refl _ _) | (with_reducible assumption) | (with_reducible refine below_drewN ?_ _) | (with_reducible refine Below.alloc ?_ ?_ _) | (with_reducible refine Below.drew ?_) | (with_reducible refine Below.setCell ?_ ?_ _) | (with_reducible refine Below.trans ?_ (Below.mono (by with_reducible assumption) ?_)) | go_size)))
                 rotate_left 1
                 · rfl
                 clear hex; intro hex)
              refine G.wpS_one (A := ?_) hex rfl rfl (by simp) ?_ ?_ ?_
              rotate_left 2
              · intro w' hC K hK
                have a0 := HCL2.out _ (bel_call hE2.out hC.1)
                go_wp2_with (fail)
                refine hK _ ?_
                first | exact Below.refl _ _ | assumption | ((repeat' (first | (with_reducible exact Below.refl _ _) | (with_reducible assumption) | (with_reducible refine below_drewN ?_ _) | (with_reducible refine Below.alloc ?_ ?_ _) | (with_reducible refine Below.drew ?_) | (with_reducible refine Below.setCell ?_ ?_ _) | (with_reducible refine Below.trans ?_ (Below.mono (by with_reducible assumption) ?_)) | go_size)))
              rotate_left 1
              · rfl
              clear hex; intro hex
              refine G.wpS_one (A := ?_) hex rfl rfl (by simp) ?_ ?_ ?_
              rotate_left 2
              · intro w' hC K hK
                go_wp2_with (refine (HR.out _).mono ?_; rintro e wq ⟨rfl, hEq⟩)
                refine hK _ ?_
                first | exact Below.refl _ _ | assumption | ((repeat' (first | (with_reducible exact Below.refl _ _) | (with_reducible assumption) | (with_reducible refine below_drewN ?_ _) | (with_reducible refine Below.alloc ?_ ?_ _) | (with_reducible refine Below.drew ?_) | (with_reducible refine Below.setCell ?_ ?_ _) | (with_reducible refine Below.trans ?_ (Below.mono (by with_reducible assumption) ?_)) | go_size)))
              rotate_left 1
              · rfl
              clear hex; intro hex
              iterate 2
                (refine G.wpS_one (A := ?_) hex rfl rfl (by simp) ?_ ?_ ?_
                 rotate_left 2
                 · intro w' hC K hK
                   go_wp2_with (fail)
                   refine hK _ ?_
                   first | exact Below.refl _ _ | assumption | ((repeat' (first | (with_reducible exact Below.refl _ _) | (with_reducible assumption) | (with_reducible refine below_drewN ?_ _) | (with_reducible refine Below.alloc ?_ ?_ _) | (with_reducible refine Below.drew ?_) | (with_reducible refine Below.setCell ?_ ?_ _) | (with_reducible refine Below.trans ?_ (Below.mono (by with_reducible assumption) ?_)) | go_size)))
                 rotate_left 1
                 · rfl
                 clear hex; intro hex)
              refine G.wpS_nil fun w6 hAll => ?_
              have HE6 := Lib.hid (bel_call hE2.out hAll.1)
              clear hAll hex
              go_wp2_with fail
              go_roundw
              case rel => first | exact ⟨n + 1, by omega, by omega, by go_num, HE6⟩ | ((repeat apply Exists.intro); exact ⟨⟨n + 1, by omega, by omega, by go_num, HE6⟩, rfl⟩)
              case measure => simp [intOf]; omega
            · have hd3 : decide ((Q.size : Int) ≤ 4000) = false := by simp; omega
              have HA := Lib.hid (fun w => quote_any ⟨#[]⟩ (by decide) w)
              have HR := HA
              go_wp2_with fail
              clear g0 g1
              refine G.wp_region_stab (G := Ext) (fun _ => none) (by kernel_rfl) (by kernel_rfl) (fun _ _ h => by cases h) (fun hex => ?_)
              refine G.wpS_one (A := ?_) hex rfl rfl (by simp) ?_ ?_ ?_
              rotate_left 2
              · intro w' hC K hK
                go_wp2_with (fail)
                refine hK _ ?_
                first | exact Below.refl _ _ | assumption | ((repeat' (first | (with_reducible exact Below.refl _ _) | (with_reducible assumption) | (with_reducible refine below_drewN ?_ _) | (with_reducible refine Below.alloc ?_ ?_ _) | (with_reducible refine Below.drew ?_) | (with_reducible refine Below.setCell ?_ ?_ _) | (with_reducible refine Below.trans ?_ (Below.mono (by with_reducible assumption) ?_)) | go_size)))
              rotate_left 1
              · rfl
              clear hex; intro hex
              refine G.wpS_one (A := ?_) hex rfl rfl (by simp) ?_ ?_ ?_
              rotate_left 2
              · intro w' hC K hK
                obtain ⟨g0, g1⟩ := (HB0.out.ext (bel_call hE2.out hC.1)).cells2
                go_wp2_with (fail)
                refine hK _ ?_
                first | exact Below.refl _ _ | assumption | ((repeat' (first | (with_reducible exact Below.refl _ _) | (with_reducible assumption) | (with_reducible refine below_drewN ?_ _) | (with_reducible refine Below.alloc ?_ ?_ _) | (with_reducible refine Below.drew ?_) | (with_reducible refine Below.setCell ?_ ?_ _) | (with_reducible refine Below.trans ?_ (Below.mono (by with_reducible assumption) ?_)) | go_size)))
              rotate_left 1
              · rfl
              clear hex; intro hex
              iterate 2
                (refine G.wpS_one (A := ?_) hex rfl rfl (by simp) ?_ ?_ ?_
                 rotate_left 2
                 · intro w' hC K hK
                   go_wp2_with (fail)
                   refine hK _ ?_
                   first | exact Below.refl _ _ | assumption | ((repeat' (first | (with_reducible exact Below.refl _ _) | (with_reducible assumption) | (with_reducible refine below_drewN ?_ _) | (with_reducible refine Below.alloc ?_ ?_ _) | (with_reducible refine Below.drew ?_) | (with_reducible refine Below.setCell ?_ ?_ _) | (with_reducible refine Below.trans ?_ (Below.mono (by with_reducible assumption) ?_)) | go_size)))
                 rotate_left 1
                 · rfl
                 clear hex; intro hex)
              refine G.wpS_one (A := ?_) hex rfl rfl (by simp) ?_ ?_ ?_
              rotate_left 2
              · intro w' hC K hK
                have a0 := HCL2.out _ (bel_call hE2.out hC.1)
                go_wp2_with (fail)
                refine hK _ ?_
                first | exact Below.refl _ _ | assumption | ((repeat' (first | (with_reducible exact Below.refl _ _) | (with_reducible assumption) | (with_reducible refine below_drewN ?_ _) | (with_reducible refine Below.alloc ?_ ?_ _) | (with_reducible refine Below.drew ?_) | (with_reducible refine Below.setCell ?_ ?_ _) | (with_reducible refine Below.trans ?_ (Below.mono (by with_reducible assumption) ?_)) | go_size)))
              rotate_left 1
              · rfl
              clear hex; intro hex
              iterate 4
                (refine G.wpS_one (A := ?_) hex rfl rfl (by simp) ?_ ?_ ?_
                 rotate_left 2
                 · intro w' hC K hK
                   go_wp2_with (fail)
                   refine hK _ ?_
                   first | exact Below.refl _ _ | assumption | ((repeat' (first | (with_reducible exact Below.refl _ _) | (with_reducible assumption) | (with_reducible refine below_drewN ?_ _) | (with_reducible refine Below.alloc ?_ ?_ _) | (with_reducible refine Below.drew ?_) | (with_reducible refine Below.setCell ?_ ?_ _) | (with_reducible refine Below.trans ?_ (Below.mono (by with_reducible assumption) ?_)) | go_size)))
                 rotate_left 1
                 · rfl
                 clear hex; intro hex)
              refine G.wpS_one (A := ?_) hex rfl rfl (by simp) ?_ ?_ ?_
              rotate_left 2
              · intro w' hC K hK
                obtain ⟨g0, g1⟩ := (HB0.out.ext (bel_call hE2.out hC.1)).cells2
                go_wp2_with (fail)
                refine hK _ ?_
                first | exact Below.refl _ _ | assumption | ((repeat' (first | (with_reducible exact Below.refl _ _) | (with_reducible assumption) | (with_reducible refine below_drewN ?_ _) | (with_reducible refine Below.alloc ?_ ?_ _) | (with_reducible refine Below.drew ?_) | (with_reducible refine Below.setCell ?_ ?_ _) | (with_reducible refine Below.trans ?_ (Below.mono (by with_reducible assumption) ?_)) | go_size)))
              rotate_left 1
              · rfl
              clear hex; intro hex
              iterate 2
                (refine G.wpS_one (A := ?_) hex rfl rfl (by simp) ?_ ?_ ?_
                 rotate_left 2
                 · intro w' hC K hK
                   go_wp2_with (fail)
                   refine hK _ ?_
                   first | exact Below.refl _ _ | assumption | ((repeat' (first | (with_reducible exact Below.refl _ _) | (with_reducible assumption) | (with_reducible refine below_drewN ?_ _) | (with_reducible refine Below.alloc ?_ ?_ _) | (with_reducible refine Below.drew ?_) | (with_reducible refine Below.setCell ?_ ?_ _) | (with_reducible refine Below.trans ?_ (Below.mono (by with_reducible assumption) ?_)) | go_size)))
                 rotate_left 1
                 · rfl
                 clear hex; intro hex)
              refine G.wpS_one (A := ?_) hex rfl rfl (by simp) ?_ ?_ ?_
              rotate_left 2
              · intro w' hC K hK
                have a0 := HCL2.out _ (bel_call hE2.out hC.1)
                go_wp2_with (fail)
                refine hK _ ?_
                first | exact Below.refl _ _ | assumption | ((repeat' (first | (with_reducible exact Below.refl _ _) | (with_reducible assumption) | (with_reducible refine below_drewN ?_ _) | (with_reducible refine Below.alloc ?_ ?_ _) | (with_reducible refine Below.drew ?_) | (with_reducible refine Below.setCell ?_ ?_ _) | (with_reducible refine Below.trans ?_ (Below.mono (by with_reducible assumption) ?_)) | go_size)))
              rotate_left 1
              · rfl
              clear hex; intro hex
              refine G.wpS_one (A := ?_) hex rfl rfl (by simp) ?_ ?_ ?_
              rotate_left 2
              · intro w' hC K hK
                go_wp2_with (refine (HA.out _).mono ?_; rintro e wq ⟨rfl, hEq⟩)
                refine hK _ ?_
                first | exact Below.refl _ _ | assumption | ((repeat' (first | (with_reducible exact Below.refl _ _) | (with_reducible assumption) | (with_reducible refine below_drewN ?_ _) | (with_reducible refine Below.alloc ?_ ?_ _) | (with_reducible refine Below.drew ?_) | (with_reducible refine Below.setCell ?_ ?_ _) | (with_reducible refine Below.trans ?_ (Below.mono (by with_reducible assumption) ?_)) | go_size)))
              rotate_left 1
              · rfl
              clear hex; intro hex
              refine G.wpS_one (A := ?_) hex rfl rfl (by simp) ?_ ?_ ?_
              rotate_left 2
              · intro w' hC K hK
                go_wp2_with (fail)
                refine hK _ ?_
                first | exact Below.refl _ _ | assumption | ((repeat' (first | (with_reducible exact Below.refl _ _) | (with_reducible assumption) | (with_reducible refine below_drewN ?_ _) | (with_reducible refine Below.alloc ?_ ?_ _) | (with_reducible refine Below.drew ?_) | (with_reducible refine Below.setCell ?_ ?_ _) | (with_reducible refine Below.trans ?_ (Below.mono (by with_reducible assumption) ?_)) | go_size)))
              rotate_left 1
              · rfl
              clear hex; intro hex
              refine G.wpS_one (A := ?_) hex rfl rfl (by simp) ?_ ?_ ?_
              rotate_left 2
              · intro w' hC K hK
                obtain ⟨g0, g1⟩ := (HB0.out.ext (bel_call hE2.out hC.1)).cells2
                go_wp2_with (fail)
                refine hK _ ?_
                first | exact Below.refl _ _ | assumption | ((repeat' (first | (with_reducible exact Below.refl _ _) | (with_reducible assumption) | (with_reducible refine below_drewN ?_ _) | (with_reducible refine Below.alloc ?_ ?_ _) | (with_reducible refine Below.drew ?_) | (with_reducible refine Below.setCell ?_ ?_ _) | (with_reducible refine Below.trans ?_ (Below.mono (by with_reducible assumption) ?_)) | go_size)))
              rotate_left 1
              · rfl
              clear hex; intro hex
              iterate 2
                (refine G.wpS_one (A := ?_) hex rfl rfl (by simp) ?_ ?_ ?_
                 rotate_left 2
                 · intro w' hC K hK
                   go_wp2_with (fail)
                   refine hK _ ?_
                   first | exact Below.refl _ _ | assumption | ((repeat' (first | (with_reducible exact Below.refl _ _) | (with_reducible assumption) | (with_reducible refine below_drewN ?_ _) | (with_reducible refine Below.alloc ?_ ?_ _) | (with_reducible refine Below.drew ?_) | (with_reducible refine Below.setCell ?_ ?_ _) | (with_reducible refine Below.trans ?_ (Below.mono (by with_reducible assumption) ?_)) | go_size)))
                 rotate_left 1
                 · rfl
                 clear hex; intro hex)
              refine G.wpS_one (A := ?_) hex rfl rfl (by simp) ?_ ?_ ?_
              rotate_left 2
              · intro w' hC K hK
                have a0 := HCL2.out _ (bel_call hE2.out hC.1)
                go_wp2_with (fail)
                refine hK _ ?_
                first | exact Below.refl _ _ | assumption | ((repeat' (first | (with_reducible exact Below.refl _ _) | (with_reducible assumption) | (with_reducible refine below_drewN ?_ _) | (with_reducible refine Below.alloc ?_ ?_ _) | (with_reducible refine Below.drew ?_) | (with_reducible refine Below.setCell ?_ ?_ _) | (with_reducible refine Below.trans ?_ (Below.mono (by with_reducible assumption) ?_)) | go_size)))
              rotate_left 1
              · rfl
              clear hex; intro hex
              refine G.wpS_one (A := ?_) hex rfl rfl (by simp) ?_ ?_ ?_
              rotate_left 2
              · intro w' hC K hK
                go_wp2_with (refine (HR.out _).mono ?_; rintro e wq ⟨rfl, hEq⟩)
                refine hK _ ?_
                first | exact Below.refl _ _ | assumption | ((repeat' (first | (with_reducible exact Below.refl _ _) | (with_reducible assumption) | (with_reducible refine below_drewN ?_ _) | (with_reducible refine Below.alloc ?_ ?_ _) | (with_reducible refine Below.drew ?_) | (with_reducible refine Below.setCell ?_ ?_ _) | (with_reducible refine Below.trans ?_ (Below.mono (by with_reducible assumption) ?_)) | go_size)))
              rotate_left 1
              · rfl
              clear hex; intro hex
              iterate 2
                (refine G.wpS_one (A := ?_) hex rfl rfl (by simp) ?_ ?_ ?_
                 rotate_left 2
                 · intro w' hC K hK
                   go_wp2_with (fail)
                   refine hK _ ?_
                   first | exact Below.refl _ _ | assumption | ((repeat' (first | (with_reducible exact Below.refl _ _) | (with_reducible assumption) | (with_reducible refine below_drewN ?_ _) | (with_reducible refine Below.alloc ?_ ?_ _) | (with_reducible refine Below.drew ?_) | (with_reducible refine Below.setCell ?_ ?_ _) | (with_reducible refine Below.trans ?_ (Below.mono (by with_reducible assumption) ?_)) | go_size)))
                 rotate_left 1
                 · rfl
                 clear hex; intro hex)
              refine G.wpS_nil fun w6 hAll => ?_
              have HE6 := Lib.hid (bel_call hE2.out hAll.1)
              clear hAll hex
              go_wp2_with fail
              go_roundw
              case rel => first | exact ⟨n + 1, by omega, by omega, by go_num, HE6⟩ | ((repeat apply Exists.intro); exact ⟨⟨n + 1, by omega, by omega, by go_num, HE6⟩, rfl⟩)
              case measure => simp [intOf]; omega
          · obtain rfl : n = 20 := by omega
            have hd1 : decide (((20 : Nat) : Int) < (LT.length : Int)) = true := by simp; omega
            have hw := wakes_any es ed _ (HW.out.1.ext hE2.out) (HW.out.2.1.ext hE2.out)
            go_wp2_with fail
            clear g0 g1
            refine hw.mono ?_
            rintro e w9 ⟨rfl, hx9⟩
            have HX9 := Lib.hid (bel_call hE2.out hx9)
            clear hx9 hw
            go_wp2_with fail
            go_ret
            exact ⟨rfl, bel_call HX0.out HX9.out⟩
        · have hd1 : decide ((n : Int) < (LT.length : Int)) = false := by simp; omega
          have hw := wakes_any es ed _ (HW.out.1.ext hE2.out) (HW.out.2.1.ext hE2.out)
          go_wp2_with fail
          clear g0 g1
          refine hw.mono ?_
          rintro e w9 ⟨rfl, hx9⟩
          have HX9 := Lib.hid (bel_call hE2.out hx9)
          clear hx9 hw
          go_wp2_with fail
          go_ret
          exact ⟨rfl, bel_call HX0.out HX9.out⟩
end Go.Proofs.YtgcfilgobclcjaaDoor
namespace Go.Proofs.YtgcfilgobclcjaaDoor
open Go Go.ChangeShapes Go.WideShapes Go.ChangeAt Go.RowKit
theorem known_door {W : World} {laid : List (String × DataW Unit)} (h : laidMetH Tryd.prog laid W) (hp : laid.all (fun x => x.2.handleName?.isNone) = true) (hs : W.ShapedOpen Tryd.prog)
    (m0 : ("math/bits.deBruijn64tab", (Rows.laid_math_bits_deBruijn64tab : DataW Unit)) ∈ laid) (m1 : ("bolter/fault.ErrSyntax", (Rows.laid_bolter_fault_ErrSyntax : DataW Unit)) ∈ laid) (m2 : ("bolter/fault.ErrDeep", (Rows.laid_bolter_fault_ErrDeep : DataW Unit)) ∈ laid) (m3 : ("strconv.ErrSyntax", (Rows.laid_strconv_ErrSyntax : DataW Unit)) ∈ laid) :
    Tab W ∧ ∃ es ed, Kn W es ed := by
  rw [MakeChecks.laidMetH_plain _ _ _ hp] at h
  exact ⟨laid_tab h m0, known_of h hs m1 m2 m3⟩
end Go.Proofs.YtgcfilgobclcjaaDoor
namespace Go.Proofs.YtgcfilgobclcjaaDoor
open Go Go.ChangeShapes Go.WideShapes Go.ChangeAt Go.RowKit
theorem two_of {α : Type} {l : List α} (h : l.length = 2) : ∃ a b, l = [a, b] :=
  match l, h with
  | [a, b], _ => ⟨a, b, rfl⟩
theorem open_written {H : Type} {enc : TypeId × Value → H} {w : World} {k : Nat} {cs : List Value} {y : DataW H × List MemPlace} (h : DataW.trod enc Tryd.prog w 0 (fun _ => true) true k 25 cs = some y) :
    ∃ vs vt LS LT, cs = [vs, vt] ∧ SetsIn w vs LS ∧ StrsIn w vt LT := by
  have c2 : Tryd.prog.cellsOf 25 = 2 := by kernel_rfl
  have c1a : Tryd.prog.cellsOf 22 = 1 := by kernel_rfl
  have c1b : Tryd.prog.cellsOf 23 = 1 := by kernel_rfl
  obtain ⟨z0, z1, m, hx0, hl0, g0, g1⟩ := trod_struct2 Tryd.underlying25 h
  rw [c2] at hl0
  obtain ⟨x0, x1, rfl⟩ := two_of hl0
  simp only [c1a, c1b, List.drop_zero, List.drop_succ_cons, List.take_succ_cons, List.take_zero] at g0 g1
  obtain ⟨LS, hS⟩ := open_sets g0
  obtain ⟨LT, hT⟩ := open_strsIn g1
  exact ⟨x0, x1, LS, LT, rfl, hS, hT⟩
theorem classWrites_met (os : Os) (args : Array Value) : laidMetH Tryd.prog Rows.classWritesRow.laid ((World.doorLaid Tryd.prog 400 os).forCall (fun _ _ => 0) ⟨#[], args, []⟩).memory :=
  laidMetH_of_parts (laidMet_of_run' 8 (by kernel_rfl) (by kernel_rfl)) (by kernel_rfl)
set_option maxRecDepth 100000 in
theorem classWrites_contract {H : Type} {enc : TypeId × Value → H} (F : Stop.Interp) (W : World) (base : Nat) (args : Array Value) (ds gs : List (DataW H)) (before : List MemPlace)
    (hval0 : ∀ (j : Nat) t v, Tryd.f3.params[j]? = some t → args[j]? = some v → Value.okWide Tryd.prog W .any base t v)
    (hW : DataW.Whole enc Tryd.prog Tryd.f3.params.toList (OpenSpec.ofChange Rows.classWritesSpec).vars false W args.toList ds gs before)
    (hsz : (DataW.weightsEach Tryd.prog (Tryd.f3.params.toList ++ (OpenSpec.ofChange Rows.classWritesSpec).bare.plain.varTypes Tryd.prog) (ds ++ gs)).all (· ≤ reachBytes) = true)
    (hL : laidMetH Tryd.prog Rows.classWritesRow.laid W) (hsh : W.ShapedOpen Tryd.prog) :
    Calls Tryd.prog 3 args W fun e W' => ∃ v, e = .returned v ∧ ((OpenSpec.ofChange Rows.classWritesSpec).at F).post enc Tryd.prog Tryd.f3 false true false false W args v W' := by
  have hval : ∀ (j : Nat) t v, Tryd.f3.params[j]? = some t → args[j]? = some v → Value.okWide Tryd.prog W .any base t v := hval0
  have hW' := hW
  obtain ⟨p, q, hA0, hV, rfl, hfz, hnd⟩ := hW
  have hA : DataW.TrodAll enc Tryd.prog W 0 (fun _ => true) true Tryd.f3.params.toList args.toList ds p := hA0
  rw [Tryd.params3] at hA hval
  obtain ⟨v0, d0, rfl, rfl, h0⟩ := trodAll_one hA
  obtain ⟨rfl, rfl⟩ := trodVars_none hV
  have hlt : ∀ x ∈ p, x.block < W.heap.size := fun x hx => hW'.lt x (by simp [hx])
  have hwt : ∀ n ∈ d0.weights Tryd.prog 25, n ≤ reachBytes := fun n hn => by simpa using List.all_eq_true.1 hsz n (DataW.weights_mem_each (j := 0) rfl rfl n hn)
  obtain ⟨hT, es, ed, hK⟩ := known_door hL (by kernel_rfl) hsh (List.mem_of_getElem? (i := 1) (by kernel_rfl)) (List.mem_of_getElem? (i := 5) (by kernel_rfl)) (List.mem_of_getElem? (i := 6) (by kernel_rfl)) (List.mem_of_getElem? (i := 4) (by kernel_rfl))
  obtain ⟨⟨cs⟩, rfl, hcl⟩ := okWide_struct Tryd.underlying25 (hval 0 _ v0 rfl rfl); obtain ⟨vs, vt, LS, LT, rfl, hS, hV⟩ : ∃ vs vt LS LT, cs = [vs, vt] ∧ SetsIn W vs LS ∧ StrsIn W vt LT := (by obtain ⟨fuel, hf⟩ := h0; exact open_written hf)
  refine (writes_any vs vt LS LT es ed W hS hV hT hK).mono fun e W' ⟨he, hB⟩ => ?_
  subst he
  have e1 : ((OpenSpec.ofChange Rows.classWritesSpec).at F).fn H ([d0] ++ []) = { results := [.lit (.bool true)], args := [d0] } := rfl
  refine ⟨_, rfl, _, _, _, [], p, [], hW', ?_, ?_, ?_, hB.frame _, fun h => by cases h⟩
  · rw [e1]; exact trodAll_mk1 (shut_bool Tryd.underlying4 true)
  · rw [e1]; exact trodAll_mk1 (Below.trod laidOut (by kernel_rfl) (of_decide_eq_true (by kernel_rfl)) h0 hB hlt)
  · rw [e1]; rfl
set_option maxRecDepth 100000 in
theorem classWrites_lifted (os : Os) (started : os.Started) (H : Type) (enc : TypeId × Value → H) (F : Stop.Interp) :
    ReturnsInHanded {} Tryd.checked os 3 .any ((OpenSpec.ofChange Rows.classWritesSpec).preRow enc Tryd.prog Tryd.f3 Rows.classWritesRow.domain false Rows.classWritesRow.laid) (((OpenSpec.ofChange Rows.classWritesSpec).at F).post enc Tryd.prog Tryd.f3 false true false false) := by
  have hx : DataW.whole enc Tryd.prog ((World.doorLaid Tryd.prog 400 os).forCall (fun _ _ => 0) ⟨#[], #[.agg #[.slice none 0 0, .slice none 0 0]], []⟩).memory Tryd.f3.params.toList (OpenSpec.ofChange Rows.classWritesSpec).vars false (#[.agg #[.slice none 0 0, .slice none 0 0]] : Array Value).toList 8 = some ([.agg [.nil, .nil]], [], []) := by kernel_rfl
  refine returnsInHanded_of_row (C := Tryd.checked) (s := OpenSpec.ofChange Rows.classWritesSpec) own started (by kernel_rfl) Tryd.func3
    (witness_row_atRef (enc := enc) (C := Tryd.checked) false (World.doorLaid Tryd.prog 400 os) #[.agg #[.slice none 0 0, .slice none 0 0]] rfl (by kernel_rfl) (by kernel_rfl) (by kernel_rfl)
      (OpenSpec.preRow_of_cond 8 hx (by kernel_rfl) (fun k hk => by cases hk) (by kernel_rfl) (classWrites_met os _))) ?_
  intro W base args ds gs before hval hW _ _ hsz hL hsh _
  exact classWrites_contract F W base args ds gs before hval hW hsz hL hsh
theorem classWrites_row : Rows.ClassWritesSaid :=
  OpenClaim.holds_of_cond 3 Tryd.f3 rfl rfl rfl rfl rfl rfl rfl ⟨rfl, rfl, rfl, rfl, rfl⟩ rfl rfl rfl rfl rfl (by kernel_rfl) Tryd.func3 (by kernel_rfl)
    (of_decide_eq_true (by kernel_rfl)) (by unfold Func.isWrapper; rw [if_neg (of_decide_eq_false (by kernel_rfl))]; exact ⟨rfl, rfl⟩)
    (fun os started H enc _ F => by rw [OpenClaim.pre_eq_preRow]; exact classWrites_lifted os started H enc F)
theorem classWrites_holds : Rows.ClassWritesCardSaid :=
  Claim7.holds_tied_plain_at .later [] _ _ Rows.classWritesCard.stood.harness Rows.classWritesCard.stood.looks
    classWrites_row (fun _ h => by cases h) (by kernel_rfl) (fun _ h => by cases h) classWrites_row_tie rfl ⟨rfl, rfl⟩ (by kernel_rfl) rfl
    (fun f fn hf hfn => by
      obtain rfl : f = 3 := Option.some.inj ((show Tryd.prog.funcNamed Rows.classWritesRow.func = some 3 by kernel_rfl).symm.trans hf) |>.symm
      obtain rfl : fn = Tryd.f3 := (Option.some.inj (Tryd.func3.symm.trans hfn)).symm
      exact ⟨by kernel_rfl, fun j t ht => by
        rw [Tryd.params3] at ht
        have hm : t ∈ [25] := by simpa using Array.mem_of_getElem? ht
        have hall : ([25].all fun u => !Tryd.prog.wantsStandIn u) = true := by kernel_rfl
        exact (show Tryd.prog.wantsStandIn t = false by simpa using List.all_eq_true.1 hall t hm)⟩)
    (by kernel_rfl)
#print axioms classWrites_holds
end Go.Proofs.YtgcfilgobclcjaaDoor
