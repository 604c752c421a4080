/- What each call of package byteset does: sets made of lists. -/
import Derived.Test.YtnecafokkhhhhaaDoorByteset2
import Derived.Test.YtnecafokkhhhhaaDoorBlk
import Derived.LoopTactic
namespace Go.Proofs.YtnecafokkhhhhaaDoor
open Go Go.RowKit
/-- The set of these bytes. -/
def ofl (l : List UInt8) : BitVec 256 := l.foldl (fun s x => s ||| 1#256 <<< x.toNat) 0#256
theorem ofl_take (l : List UInt8) (k : Nat) (h : k < l.length) : ofl (l.take (k + 1)) = ofl (l.take k) ||| 1#256 <<< ((nth l k).toNat : Int).toNat := by
  unfold ofl
  rw [List.take_succ_eq_append_getElem h, List.foldl_append]
  simp [nth_eq h]
abbrev svs (s : BitVec 256) : Array Value := #[.int .u64 (wd s 0), .int .u64 (wd s 1), .int .u64 (wd s 2), .int .u64 (wd s 3)]
set_option maxHeartbeats 1000000 in
theorem of_any (v : Value) (l : List UInt8) (w : World) (hv : Bytes w v l) :
    Calls Tryd.prog 48 #[v] w fun e w' => e = .returned (sv (ofl l)) ∧ Below w.heap.size w w' := by
  obtain ⟨hlen, ⟨rfl, a, cap, rfl⟩ | ⟨b, o, cap, rfl, hcap, hcap2, hpos, hb, hcells⟩⟩ := hv.open
  · go_enter Tryd.func48, Tryd.ntmps48
    go_wp2
    refine wp_loop_rounds 1 ?_
    rw [rounds_succ]
    go_wp2
    refine bodyPost_ret (v := sv (ofl [])) ?_ rfl ⟨rfl, by (repeat' (first | (with_reducible exact Below.refl _ _) | (with_reducible assumption) | (with_reducible refine below_drewN ?_ _) | (with_reducible refine Below.alloc ?_ ?_ _) | (with_reducible refine Below.drew ?_) | (with_reducible refine Below.setCell ?_ ?_ _) | (with_reducible refine Below.trans ?_ (Below.mono (by with_reducible assumption) ?_)) | go_size))⟩
    simp [results, Tryd.results48, go_sem, ofl, wd_zero]
  · have HC := Lib.hid hcells
    clear hcells
    go_enter Tryd.func48, Tryd.ntmps48
    go_wp2
    go_loopw [8] (fun i wr => ∃ k : Nat, k ≤ l.length ∧ i = .int .i64 k ∧ Blk wr w.heap.size #[.int .u64 0, .int .u64 0, .int .u64 0, .int .u64 0] 30 ∧ Blk wr (w.heap.size + 1) (svs (ofl (l.take k))) 30 ∧ Below w.heap.size w wr) (fun i _ => l.length - (intOf i).toNat)
    case atStart => exact ⟨0, Nat.zero_le _, rfl, (Blk.new w _ _).alloc _, by simpa [svs, ofl, wd_zero] using Blk.new (w.alloc _) _ _, by (repeat' (first | (with_reducible exact Below.refl _ _) | (with_reducible assumption) | (with_reducible refine below_drewN ?_ _) | (with_reducible refine Below.alloc ?_ ?_ _) | (with_reducible refine Below.drew ?_) | (with_reducible refine Below.setCell ?_ ?_ _) | (with_reducible refine Below.trans ?_ (Below.mono (by with_reducible assumption) ?_)) | go_size))⟩
    case round =>
      obtain ⟨k, hk, rfl, hB0, hB1, hbel⟩ := hrel
      obtain ⟨c0, c1, c2, c3⟩ := hB1.cells4
      by_cases hlt : k < l.length
      · have hsrc : wr.cell? ⟨b, o + k, none⟩ = some (ub (nth l k)) := by rw [hbel.cell (p := ⟨b, o + k, none⟩) hb]; exact HC.out k hlt
        have hr0 := nth_lo l k
        have hr1 := nth_hi l k
        have HT := Lib.hid (ofl_take l k hlt)
        go_wp2_with fail
        refine (with_any _ _ _ hr0 hr1).mono ?_; rintro e w2 ⟨rfl, hb2⟩
        have hB0' := hB0.ext hb2
        have hB1' := hB1.ext hb2
        have hbel2 : Below w.heap.size w w2 := hbel.trans (hb2.mono hbel.size)
        clear c0 c1 c2 c3 hsrc hB0 hB1
        obtain ⟨c0, c1, c2, c3⟩ := hB1'.cells4
        have hfr := hB1'.free
        go_wp2
        go_roundw
        case rel => exact ⟨k + 1, by omega, by go_num, hB0'.other4 (by omega) _ _ _ _, by rw [HT.out]; exact hB1'.store4 _ _ _ _, by (repeat' (first | (with_reducible exact Below.refl _ _) | (with_reducible assumption) | (with_reducible refine below_drewN ?_ _) | (with_reducible refine Below.alloc ?_ ?_ _) | (with_reducible refine Below.drew ?_) | (with_reducible refine Below.setCell ?_ ?_ _) | (with_reducible refine Below.trans ?_ (Below.mono (by with_reducible assumption) ?_)) | go_size))⟩
        case measure => simp [intOf]; omega
      · obtain rfl : k = l.length := by omega
        obtain ⟨d0, d1, d2, d3⟩ := hB0.cells4
        have hfr := hB0.free
        go_wp2
        refine bodyPost_ret (v := sv (ofl l)) ?_ rfl ⟨rfl, by (repeat' (first | (with_reducible exact Below.refl _ _) | (with_reducible assumption) | (with_reducible refine below_drewN ?_ _) | (with_reducible refine Below.alloc ?_ ?_ _) | (with_reducible refine Below.drew ?_) | (with_reducible refine Below.setCell ?_ ?_ _) | (with_reducible refine Below.trans ?_ (Below.mono (by with_reducible assumption) ?_)) | go_size))⟩
        simp [results, Tryd.results48, go_sem, *]
/-- The set of all bytes of these spans. -/
def ofs (l : List (UInt8 × UInt8)) : BitVec 256 := l.foldl (fun s p => s ||| rng (p.1.toNat : Int) (p.2.toNat : Int)) 0#256
theorem ofs_take (l : List (UInt8 × UInt8)) (k : Nat) (h : k < l.length) : ofs (l.take (k + 1)) = ofs (l.take k) ||| rng ((slo l k).toNat : Int) ((shi l k).toNat : Int) := by
  unfold ofs
  rw [List.take_succ_eq_append_getElem h, List.foldl_append]
  simp [slo, shi, List.getD_eq_getElem?_getD, h]
end Go.Proofs.YtnecafokkhhhhaaDoor
