/- subset.Run, and the label behind a text. -/
import Derived.Test.YtmhgpdjlomcjoaaDoorMay
import Derived.Test.YtmhgpdjlomcjoaaDoorCnl
namespace Go.Proofs.YtmhgpdjlomcjoaaDoor
open Go Go.RowKit
def tx (l : List UInt8) : List Nat := l.map (·.toNat)
theorem tx_lt (l : List UInt8) : ∀ c ∈ tx l, c < 256 := by
  intro c hc
  obtain ⟨x, _, rfl⟩ := List.mem_map.1 hc
  exact x.toNat_lt
theorem take_run {tr : Nat → Nat → Nat} {l : List UInt8} {k : Nat} (hk : k < l.length) : runA tr 0 (tx (l.take (k + 1))) = tr (runA tr 0 (tx (l.take k))) l[k].toNat := by
  unfold tx
  rw [List.take_succ_eq_append_getElem hk, List.map_append, runA_app]; rfl
theorem Bytes.shape {w : World} {v : Value} {l : List UInt8} (h : Bytes w v l) : ∃ a cap, v = .slice a l.length cap ∧ l.length ≤ cap ∧ l.length ≤ 140737488355328 ∧ cap ≤ maxLen := by
  obtain ⟨a, cap, e, h1, h2, _⟩ := h
  exact ⟨a, cap, e, h1, h2.1, h2.2⟩
theorem Bytes.cell {w : World} {a : Option Addr} {n cap : Nat} {l : List UInt8} (h : Bytes w (.slice a n cap) l) {k : Nat} (hk : k < l.length) : ∃ b o, a = some ⟨b, o, none⟩ ∧ b < w.heap.size ∧ w.cell? ⟨b, o + k, none⟩ = some (.int .u8 (l[k].toNat : Int)) := by
  obtain ⟨a', cap', e, h1, h2, h⟩ := h
  cases e
  rcases h with h | ⟨b, o, rfl, hb, h⟩
  · have := congrArg List.length h; rw [List.length_map, List.length_nil] at this; omega
  · refine ⟨b, o, rfl, hb, ?_⟩
    rw [h k (by simpa using hk)]
    simp [List.getElem?_eq_getElem hk]
set_option maxHeartbeats 2000000 in
set_option maxRecDepth 20000 in
theorem run_ok (d : Dd) (v t : Value) (l : List UInt8) (w : World) (hd : d.Ok) (h : Dns w v d) (ht : Bytes w t l) :
    Calls Tryd.prog 36 #[v, t] w fun e w' => e = .returned (.tuple #[.int .i64 ((runA d.to 0 (tx l) : Nat) : Int), .nilIface]) ∧ Ext w w' := by
  have hb := okB_ok.2 hd
  obtain ⟨a, b, rfl, h1, h2⟩ := h
  have h0 : Dns w (.agg #[a, b]) d := ⟨a, b, rfl, h1, h2⟩
  obtain ⟨p, cap, rfl, _⟩ := h1.shape
  obtain ⟨p2, cap2, rfl, _⟩ := h2.shape
  obtain ⟨p3, cap3, rfl, _⟩ := ht.shape
  have HE := Lib.hid (ext_box w #[.slice p d.nx.length cap, .slice p2 d.lb.length cap2] 26)
  have HBX := Lib.hid (Blk.new w #[.slice p d.nx.length cap, .slice p2 d.lb.length cap2] 26)
  have HD := Lib.hid (h0.ext HE.out)
  have H1 := Lib.hid (h1.ext HE.out)
  have HT := Lib.hid (ht.ext HE.out)
  have HO := Lib.hid hd
  have C1 := checkd_any d _ _ HD.out
  rw [hb] at C1
  have C1 := Lib.hid C1
  obtain ⟨n, hn⟩ : ∃ n, d.nx.length = n := ⟨_, rfl⟩
  obtain ⟨m, hm⟩ : ∃ m, l.length = m := ⟨_, rfl⟩
  rw [hn] at HBX HE H1 C1
  rw [hn, hm] at HT
  rw [hn, hm]
  have HN := Lib.hid hn
  have HM := Lib.hid hm
  clear h0 h1 h2 hd hb ht hn hm HD
  go_enter Tryd.func36, Tryd.ntmps36
  go_wp2_with fail
  refine C1.out.mono ?_; rintro e w1 ⟨rfl, E1⟩
  have HBX := Lib.hid (HBX.out.ext E1)
  have H1 := Lib.hid (H1.out.ext E1)
  have HT := Lib.hid (HT.out.ext E1)
  have E1 := Lib.hid (bel_call HE.out E1)
  clear HE C1
  go_wp2_with fail
  go_loopw [6, 15] (fun s i wr => ∃ k q : Nat, k ≤ m ∧ i = .int .i64 k ∧ s = .int .i64 q ∧ Hid (runA d.to 0 (tx (l.take k)) = q) ∧ Hid (w1 = wr)) (fun _ i _ => m - (intOf i).toNat)
  case atStart => exact ⟨0, 0, Nat.zero_le _, rfl, rfl, Lib.hid rfl, Lib.hid rfl⟩
  case round =>
    obtain ⟨k, q, hk, rfl, rfl, hq, hw⟩ := hrel
    obtain rfl := hw.out
    have hqn : q < d.nx.length := by rw [← hq.out]; exact runA_lt HO.out _ _ HO.out.pos (tx_lt _)
    by_cases hkl : k < m
    · have k1 : k < l.length := by rw [HM.out]; exact hkl
      obtain ⟨bT, oT, rfl, hbT, hcT⟩ := HT.out.cell k1
      obtain ⟨c, hc⟩ : ∃ c, l[k].toNat = c := ⟨_, rfl⟩
      have hc256 : c < 256 := by rw [← hc]; exact l[k].toNat_lt
      have HX := Lib.hid (show runA d.to 0 (tx (l.take (k + 1))) = d.to q c by rw [take_run k1, hq.out, hc])
      rw [hc] at hcT
      clear hc
      have z0 := HBX.out.cell 0
      obtain ⟨bR, oR, aR, cR, rfl, hbR, hcR, hIR, -⟩ := H1.out.cell hqn
      have hrl : d.nx[q].length = 256 := by have := HO.out.row q hqn; rwa [getD_get hqn] at this
      obtain ⟨bE, oE, rfl, hbE, hcE, -⟩ := hIR.cell (k := c) (by omega)
      have he : d.nx[q][c] = ((d.to q c : Nat) : Int) := by
        have := HO.out.ent q c hqn hc256
        unfold Dd.to
        unfold Dd.ent at this ⊢
        rw [getD_get hqn, getD_get (by omega)] at this ⊢
        omega
      rw [he] at hcE
      rw [hrl] at hcR
      obtain ⟨x, hx⟩ : ∃ x, d.to q c = x := ⟨_, rfl⟩
      rw [hx] at hcE
      have HX2 := Lib.hid (HX.out.trans hx)
      rw [HN.out] at hqn
      clear he hx HX hIR hrl
      go_wp2_with fail
      go_roundw
      case rel => exact ⟨k + 1, x, by omega, by go_num, rfl, HX2, Lib.hid trivial⟩
      case measure => simp [intOf]; omega
    · obtain rfl : k = m := by omega
      have hq2 := hq.out
      rw [← HM.out, List.take_length] at hq2
      have HQ := Lib.hid hq2
      clear hq2
      go_wp2_with fail
      go_ret2
      refine ⟨?_, E1.out⟩
      rw [HQ.out]; rfl
set_option maxHeartbeats 2000000 in
set_option maxRecDepth 20000 in
theorem label_ok (d : Dd) (v t : Value) (l : List UInt8) (w : World) (hd : d.Ok) (h : Dns w v d) (ht : Bytes w t l) :
    Calls Tryd.prog 20 #[v, t] w fun e w' => e = .returned (.int .i64 (d.beh 0 (tx l))) ∧ Ext w w' := by
  obtain ⟨a, b, rfl, h1, h2⟩ := h
  have h0 : Dns w (.agg #[a, b]) d := ⟨a, b, rfl, h1, h2⟩
  obtain ⟨p, cap, rfl, _⟩ := h1.shape
  obtain ⟨p2, cap2, rfl, _⟩ := h2.shape
  obtain ⟨p3, cap3, rfl, _⟩ := ht.shape
  have HE := Lib.hid (ext_box w #[.slice p d.nx.length cap, .slice p2 d.lb.length cap2] 26)
  have HBX := Lib.hid (Blk.new w #[.slice p d.nx.length cap, .slice p2 d.lb.length cap2] 26)
  have C1 := Lib.hid (run_ok d _ _ l _ hd (h0.ext HE.out) (ht.ext HE.out))
  have H2 := Lib.hid (h2.ext HE.out)
  have hq0 := HBX.out.cell 0
  have hq1 := HBX.out.cell 1
  have hs := runA_lt hd (tx l) 0 hd.pos (tx_lt l)
  have hlb := hd.lbl
  have hbe : d.beh 0 (tx l) = d.lab (runA d.to 0 (tx l)) := rfl
  rw [hbe]
  obtain ⟨q, hq⟩ : ∃ q, runA d.to 0 (tx l) = q := ⟨_, rfl⟩
  rw [hq] at hs C1 ⊢
  rw [← hlb] at hs
  obtain ⟨y, hy⟩ : ∃ y, d.lab q = y := ⟨_, rfl⟩
  rw [hy]
  have HY := Lib.hid hy
  have HS := Lib.hid hs
  clear h0 h1 h2 hd ht hlb hbe hq hy hs
  obtain ⟨n2, hn2⟩ : ∃ n2, d.lb.length = n2 := ⟨_, rfl⟩
  rw [hn2] at HBX HE H2 C1 hq0 hq1 ⊢
  have HN := Lib.hid hn2
  have hqn : q < n2 := by rw [← hn2]; exact HS.out
  clear hn2
  have t1 : decide ((q : Int) < 0) = false := by simp
  have t2 : decide ((n2 : Int) ≤ (q : Int)) = false := by simp; omega
  go_enter Tryd.func20, Tryd.ntmps20
  go_wp2_with fail
  refine C1.out.mono ?_; rintro e w1 ⟨rfl, E1⟩
  have z0 := (HBX.out.ext E1).cell 0
  have z1 := (HBX.out.ext E1).cell 1
  obtain ⟨bL, oL, rfl, hbL, hcL, _⟩ := (H2.out.ext E1).cell HS.out
  have hy2 := HY.out
  unfold Dd.lab at hy2
  rw [getD_get HS.out] at hy2
  rw [hy2] at hcL
  clear hy2
  have E1 := Lib.hid (bel_call HE.out E1)
  clear hq0 hq1
  go_wp2_with fail
  go_ret
  exact ⟨rfl, E1.out⟩
end Go.Proofs.YtmhgpdjlomcjoaaDoor
