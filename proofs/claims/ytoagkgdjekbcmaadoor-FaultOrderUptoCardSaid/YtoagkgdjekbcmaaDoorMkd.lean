/- Errors in wrappers that came in: wrapped, made, short. -/
import Derived.Test.YtoagkgdjekbcmaaDoorFlt
import Derived.Test.YtoagkgdjekbcmaaDoorWrs
namespace Go.Proofs.YtoagkgdjekbcmaaDoor
open Go Go.RowKit
/-- One wrapper more. -/
def wr1 (d : WD) (K : List Wr) : List Wr := if d.1 = 1 then .place d.2.1 :: K else if d.1 = 2 then .names d.2.2 :: K else if d.1 = 3 then .rule d.2.1 :: K else if d.1 = 4 then .stage d.2.1 :: K else K
set_option maxHeartbeats 1000000 in
set_option maxRecDepth 20000 in
theorem wrapped_nil (k n : Int) (x : Value) (l : List ByteArray) (w : World) (hx : Texts w x l) :
    Calls Tryd.prog 10 #[.nilIface, .agg #[.int .i64 k, .int .i64 n, x]] w fun e w' => e = .returned .nilIface ∧ Below w.heap.size w w' := by
  obtain ⟨xa, xc, hxe⟩ := hx.slice
  by_cases h1 : k = 1
  · subst h1; subst hxe
    have hp := fun w => Place_nil n w
    go_enter Tryd.func10, Tryd.ntmps10
    go_wp2_with fail
    refine (hp _).mono ?_
    rintro e w1 ⟨rfl, rfl⟩
    go_wp2
    go_ret
    exact ⟨rfl, by (repeat' (first | (with_reducible exact Below.refl _ _) | (with_reducible assumption) | (with_reducible refine below_drewN ?_ _) | (with_reducible refine Below.alloc ?_ ?_ _) | (with_reducible refine Below.drew ?_) | (with_reducible refine Below.setCell ?_ ?_ _) | (with_reducible refine Below.trans ?_ (Below.mono (by with_reducible assumption) ?_)) | go_size))⟩
  have n1 : (k == 1) = false := by simpa using h1
  by_cases h3 : k = 3
  · subst h3; subst hxe
    have hp := fun w => InRule_nil n w
    go_enter Tryd.func10, Tryd.ntmps10
    go_wp2_with fail
    refine (hp _).mono ?_
    rintro e w1 ⟨rfl, rfl⟩
    go_wp2
    go_ret
    exact ⟨rfl, by (repeat' (first | (with_reducible exact Below.refl _ _) | (with_reducible assumption) | (with_reducible refine below_drewN ?_ _) | (with_reducible refine Below.alloc ?_ ?_ _) | (with_reducible refine Below.drew ?_) | (with_reducible refine Below.setCell ?_ ?_ _) | (with_reducible refine Below.trans ?_ (Below.mono (by with_reducible assumption) ?_)) | go_size))⟩
  have n3 : (k == 3) = false := by simpa using h3
  by_cases h4 : k = 4
  · subst h4; subst hxe
    have hp := fun w => InStage_nil n w
    go_enter Tryd.func10, Tryd.ntmps10
    go_wp2_with fail
    refine (hp _).mono ?_
    rintro e w1 ⟨rfl, rfl⟩
    go_wp2
    go_ret
    exact ⟨rfl, by (repeat' (first | (with_reducible exact Below.refl _ _) | (with_reducible assumption) | (with_reducible refine below_drewN ?_ _) | (with_reducible refine Below.alloc ?_ ?_ _) | (with_reducible refine Below.drew ?_) | (with_reducible refine Below.setCell ?_ ?_ _) | (with_reducible refine Below.trans ?_ (Below.mono (by with_reducible assumption) ?_)) | go_size))⟩
  have n4 : (k == 4) = false := by simpa using h4
  by_cases h2 : k = 2
  · subst h2
    have hE0 : Ext w (w.alloc (.cells #[.int .i64 2, .int .i64 n, x] 34)) := by go_grown
    have hcp := copytexts_own x l _ (hx.ext hE0)
    subst hxe
    go_enter Tryd.func10, Tryd.ntmps10
    go_wp2_with fail
    refine hcp.mono ?_
    rintro e w1 ⟨y, rfl, hown, hE⟩
    have hb := bel_call hE0 hE
    have hnn := named_nil y w1
    go_wp2_with fail
    refine hnn.mono ?_
    rintro e w2 ⟨rfl, rfl⟩
    go_wp2_with fail
    have h63 : l.length ≤ 8796093022207 := hx.1
    have hsz := hE0.size
    by_cases h0 : l.length = 0
    · obtain ⟨ya, yc, rfl⟩ := own_sl hown
      obtain rfl := List.length_eq_zero_iff.1 h0
      refine wp_loop_rounds 1 ?_
      rw [rounds_succ]
      go_wp2
      go_ret
      exact ⟨rfl, hb⟩
    · obtain ⟨_, ⟨_, h⟩ | ⟨g, cap, cur, rfl, hg, _⟩⟩ := id hown
      · exact absurd h h0
      have hgl : w.heap.size ≤ g := by omega
      generalize (w.alloc (.cells #[.int .i64 2, .int .i64 n, .slice xa l.length xc] 34)).heap.size = B0 at *
      clear hx hE hcp hnn
      go_loopw [7] (fun i wr => ∃ (k : Nat) (ys : List Value), k ≤ l.length ∧ i = .int .i64 k ∧ wr.ownsRow (B0) 9 1 (.slice (some ⟨g, 0, none⟩) l.length cap) l.length ys ∧ Below w.heap.size w wr) (fun i _ => l.length - (intOf i).toNat)
      case atStart => exact ⟨0, _, Nat.zero_le _, rfl, hown, hb⟩
      case round =>
        clear hown hb
        obtain ⟨k, ys, hk, rfl, hown, hb⟩ := hrel
        by_cases hlt : k < l.length
        · have hlen : ys.length = l.length := by have := hown.1; omega
          have hc : wr.cell? ⟨g, k, none⟩ = some (ys[k]'(by omega)) := by rw [hown.cellAt k (by omega), List.getElem?_eq_getElem (by omega)]
          have hf : wr.frozen? ⟨g, k, none⟩ = false := hown.frozenAt _
          have HO := Lib.hid (And.intro hown hb)
          clear hown hb
          generalize ys[k]'(by omega) = yk at hc
          go_wp2
          go_roundw
          case rel =>
            obtain ⟨s1, s2⟩ := HO.out.1.stored k (.string ⟨#[111, 118, 101, 114]⟩)
            exact ⟨k + 1, _, by omega, by go_num, s1, HO.out.2.setCell (p := ⟨g, k, none⟩) hgl _⟩
          case measure => simp [intOf]; omega
        · obtain rfl : k = l.length := by omega
          go_wp2
          go_ret
          exact ⟨rfl, hb⟩
  · have n2 : (k == 2) = false := by simpa using h2
    subst hxe
    go_enter Tryd.func10, Tryd.ntmps10
    go_wp2
    go_ret
    exact ⟨rfl, by (repeat' (first | (with_reducible exact Below.refl _ _) | (with_reducible assumption) | (with_reducible refine below_drewN ?_ _) | (with_reducible refine Below.alloc ?_ ?_ _) | (with_reducible refine Below.drew ?_) | (with_reducible refine Below.setCell ?_ ?_ _) | (with_reducible refine Below.trans ?_ (Below.mono (by with_reducible assumption) ?_)) | go_size))⟩
set_option maxHeartbeats 1000000 in
set_option maxRecDepth 20000 in
theorem wrapped_err (K : List Wr) (v : Value) (a : Addr) (k n : Int) (x : Value) (l : List ByteArray) (w : World) (h : ErrOf w K v a) (hx : Texts w x l) :
    Calls Tryd.prog 10 #[v, .agg #[.int .i64 k, .int .i64 n, x]] w fun e w' => ∃ v', e = .returned v' ∧ ErrOf w' (wr1 (k, n, l) K) v' a ∧ Below w.heap.size w w' := by
  have hE0 : Ext w (w.alloc (.cells #[.int .i64 k, .int .i64 n, x] 34)) := by go_grown
  obtain ⟨xa, xc, hxe⟩ := hx.slice
  obtain ⟨T, z, hve⟩ := h.iface
  by_cases k1 : k = 1
  · subst k1
    have hp := Place_err K v a n _ (h.ext hE0)
    subst hxe; subst hve
    go_enter Tryd.func10, Tryd.ntmps10
    go_wp2_with fail
    refine hp.mono ?_
    rintro e w1 ⟨v', rfl, h1, hE⟩
    go_wp2
    go_ret
    exact ⟨_, rfl, h1, bel_call hE0 hE⟩
  by_cases k3 : k = 3
  · subst k3
    have hp := InRule_err K v a n _ (h.ext hE0)
    subst hxe; subst hve
    go_enter Tryd.func10, Tryd.ntmps10
    go_wp2_with fail
    refine hp.mono ?_
    rintro e w1 ⟨v', rfl, h1, hE⟩
    go_wp2
    go_ret
    exact ⟨_, rfl, h1, bel_call hE0 hE⟩
  by_cases k4 : k = 4
  · subst k4
    have hp := InStage_err K v a n _ (h.ext hE0)
    subst hxe; subst hve
    go_enter Tryd.func10, Tryd.ntmps10
    go_wp2_with fail
    refine hp.mono ?_
    rintro e w1 ⟨v', rfl, h1, hE⟩
    go_wp2
    go_ret
    exact ⟨_, rfl, h1, bel_call hE0 hE⟩
  have n1 : (k == 1) = false := by simpa using k1
  have n3 : (k == 3) = false := by simpa using k3
  have n4 : (k == 4) = false := by simpa using k4
  by_cases k2 : k = 2
  · subst k2
    have hcp := copytexts_own x l _ (hx.ext hE0)
    subst hxe; subst hve
    go_enter Tryd.func10, Tryd.ntmps10
    go_wp2_with fail
    refine hcp.mono ?_
    rintro e w1 ⟨y, rfl, hown, hE⟩
    have hb := bel_call hE0 hE
    have hnn := named_own T z y l w1 (Texts.of_own hown hx.1)
    go_wp2_with fail
    refine hnn.mono ?_
    rintro e w2 ⟨p, x', rfl, hbp, hpl, hown2, hE2⟩
    have h63 : l.length ≤ 8796093022207 := hx.1
    have hsz := hE0.size
    have hpl2 := hbp.lt
    replace hb := bel_call hb hE2
    have hown1 := own_blw hown hE2 (Nat.le_refl _)
    have hfin : ∀ wf, Below w.heap.size w wf → Blk wf p #[.iface T z, x'] 64 → Texts wf x' l → ErrOf wf (wr1 (2, n, l) K) (.iface 61 (.pointer (some ⟨p, 0, none⟩))) a := by
      intro wf hbf hblk htx
      obtain ⟨L, hL, hW, hv, hrow⟩ := h.ext hbf
      obtain ⟨_, _, _, hv0, _⟩ := h
      have hs1 := hE.size
      rw [show wr1 (2, n, l) K = .names l :: K from rfl]
      exact ⟨(61, x') :: L, ⟨p, _, _, by decide, rfl, hblk, by omega, hL⟩, ⟨rfl, htx, hW⟩, by have := hblk.lt; simp only [deep]; omega, hrow⟩
    go_wp2_with fail
    by_cases h0 : l.length = 0
    · obtain ⟨ya, yc, rfl⟩ := own_sl hown1
      obtain rfl := List.length_eq_zero_iff.1 h0
      refine wp_loop_rounds 1 ?_
      rw [rounds_succ]
      go_wp2
      go_ret
      exact ⟨_, rfl, hfin _ hb hbp (Texts.of_own hown2 h63), hb⟩
    · obtain ⟨_, ⟨_, hh⟩ | ⟨g, cap, cur, rfl, hg, _⟩⟩ := id hown1
      · exact absurd hh h0
      have hgl : w.heap.size ≤ g := by omega
      have hg1 : g < w1.heap.size := (hown.lt g rfl).2
      have htx := Txw.of_own hown2 hg1 h63
      have HF := Lib.hid hfin
      generalize (w.alloc (.cells #[.int .i64 2, .int .i64 n, .slice xa l.length xc] 34)).heap.size = B0 at *
      clear hx hE hcp hnn hfin hown hown2 hE2 h
      obtain ⟨hown, _⟩ := And.intro hown1 trivial
      clear hown1
      go_loopw [7] (fun i wr => ∃ (k : Nat) (ys : List Value), k ≤ l.length ∧ i = .int .i64 k ∧ wr.ownsRow (B0) 9 1 (.slice (some ⟨g, 0, none⟩) l.length cap) l.length ys ∧ Below w.heap.size w wr∧ Blk wr p #[.iface T z, x'] 64 ∧ Txw g wr x' l) (fun i _ => l.length - (intOf i).toNat)
      case atStart => exact ⟨0, _, Nat.zero_le _, rfl, hown, hb, hbp, htx⟩
      case round =>
        clear hown hb
        obtain ⟨k, ys, hk, rfl, hown, hb, hbp, htx⟩ := hrel
        by_cases hlt : k < l.length
        · have hlen : ys.length = l.length := by have := hown.1; omega
          have hc : wr.cell? ⟨g, k, none⟩ = some (ys[k]'(by omega)) := by rw [hown.cellAt k (by omega), List.getElem?_eq_getElem (by omega)]
          have hf : wr.frozen? ⟨g, k, none⟩ = false := hown.frozenAt _
          have HO := Lib.hid (And.intro hown hb)
          clear hown hb
          generalize ys[k]'(by omega) = yk at hc
          go_wp2
          go_roundw
          case rel =>
            obtain ⟨s1, s2⟩ := HO.out.1.stored k (.string ⟨#[111, 118, 101, 114]⟩)
            exact ⟨k + 1, _, by omega, by go_num, s1, HO.out.2.setCell (p := ⟨g, k, none⟩) hgl _, hbp.set_other (a := ⟨g, k, none⟩) (by show g ≠ p; omega) _, htx.set _ k⟩
          case measure => simp [intOf]; omega
        · obtain rfl : k = l.length := by omega
          go_wp2
          go_ret
          exact ⟨_, rfl, HF.out _ hb hbp htx.1, hb⟩
  · have n2 : (k == 2) = false := by simpa using k2
    have hw : wr1 (k, n, l) K = K := by simp [wr1, k1, k2, k3, k4]
    rw [hw]
    subst hxe; subst hve
    go_enter Tryd.func10, Tryd.ntmps10
    go_wp2
    go_ret
    exact ⟨_, rfl, h.ext hE0, by (repeat' (first | (with_reducible exact Below.refl _ _) | (with_reducible assumption) | (with_reducible refine below_drewN ?_ _) | (with_reducible refine Below.alloc ?_ ?_ _) | (with_reducible refine Below.drew ?_) | (with_reducible refine Below.setCell ?_ ?_ _) | (with_reducible refine Below.trans ?_ (Below.mono (by with_reducible assumption) ?_)) | go_size))⟩
end Go.Proofs.YtoagkgdjekbcmaaDoor
