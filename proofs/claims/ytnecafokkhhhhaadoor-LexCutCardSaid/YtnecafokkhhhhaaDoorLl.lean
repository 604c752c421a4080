/- Lex. -/
import Derived.Test.YtnecafokkhhhhaaDoorLe
import Derived.Test.YtnecafokkhhhhaaDoorLk
import Derived.Test.YtnecafokkhhhhaaDoorStabG
namespace Go.Proofs.YtnecafokkhhhhaaDoor
open Go Go.RowKit
/-- A lexeme's cells. -/
def lcl (y : Lxm) : List Value := [.int .i64 (y.kind : Int), .int .i64 (y.a : Int), .int .i64 (y.e : Int), .string ⟨y.t.toArray⟩, .int .i64 (y.n : Int), .int .u64 (wd y.S 0), .int .u64 (wd y.S 1), .int .u64 (wd y.S 2), .int .u64 (wd y.S 3)]
theorem lcl_len (y : Lxm) : (lcl y).length = 9 := rfl
theorem one_rune (s : ByteArray) (p : Nat) (C : UInt8) (t : List UInt8) (h : rest s p = C :: t) (k : Nat) : one (rest s p) k = oneR (Utf8.decode s p).1 (rest s p) k := by
  rw [h]
  by_cases hC : C.toNat < 128
  · rw [dec_low s p C t h hC]; rfl
  · rw [oneR_high _ _ _ (dec_high s p C t h (by omega)).1]
    exact oneR_high _ _ _ (by omega)
def lxN (g : Nat) (l : List UInt8) (k : Nat) : Sum (Bool × Nat) Lxm → List Lxm × Option (Bool × Nat)
  | .inl x => ([], some x)
  | .inr y => if y.kind = 0 then lxs g (l.drop (y.e - k)) y.e else (y :: (lxs g (l.drop (y.e - k)) y.e).1, (lxs g (l.drop (y.e - k)) y.e).2)
theorem lxs_step (g : Nat) (l : List UInt8) (k : Nat) (h : l ≠ []) : lxs (g + 1) l k = lxN g l k (one l k) := by
  rw [lxs, if_neg h]
  cases one l k with
  | inl x => rfl
  | inr y => rfl
/-- No rune crosses place e. -/
def Bd (s : ByteArray) (e : Nat) : Prop := e = 0 ∨ ∃ k n, k < s.size ∧ e = k + n ∧ 0 < n ∧ Cut (rest s k) n
theorem get_rest (s : ByteArray) (k j : Nat) : (rest s k)[j]? = s.data.toList[k + j]? := by
  unfold rest
  rw [List.getElem?_drop]
theorem no_cross (s : ByteArray) (p e : Nat) (hb : Bd s e) (hp : p < e) (hps : p < s.size) : p + (Utf8.decode s p).2 ≤ e := by
  obtain ⟨C, hC⟩ := lx_unc s p hps
  by_cases hc : C.toNat < 128
  · rw [dec_low s p C _ hC hc]; exact hp
  · obtain ⟨h1, h2, h3, h4⟩ := dec_high s p C _ hC (by omega)
    have hall : ∀ j, j < (Utf8.decode s p).2 → ∃ c, s.data.toList[p + j]? = some c ∧ 128 ≤ c.toNat := fun j hj => by
      have hjl : j < (rest s p).length := by omega
      refine ⟨(rest s p)[j], ?_, h4 _ ?_⟩
      · rw [← get_rest, List.getElem?_eq_getElem hjl]
      · rw [List.mem_iff_getElem]
        exact ⟨j, by rw [List.length_take]; omega, by rw [List.getElem_take]⟩
    have hlen : p + (rest s p).length = s.size := by have := rest_len (Nat.le_of_lt hps); omega
    rcases Nat.lt_or_ge e (p + (Utf8.decode s p).2) with hlt | hge
    · exfalso
      rcases hb with e0 | ⟨k, n, hk, hkn, hn, hcut⟩
      · omega
      · have hkl := rest_len (Nat.le_of_lt hk)
        rcases hcut with e1 | ⟨c, hc1, hc2⟩ | ⟨c, hc1, hc2⟩
        · omega
        · obtain ⟨d, hd1, hd2⟩ := hall (e - p) (by omega)
          rw [get_rest] at hc1
          rw [show p + (e - p) = k + n by omega, hc1] at hd1
          cases hd1
          omega
        · obtain ⟨d, hd1, hd2⟩ := hall (e - 1 - p) (by omega)
          rw [get_rest] at hc1
          rw [show p + (e - 1 - p) = k + (n - 1) by omega, hc1] at hd1
          cases hd1
          omega
    · exact hge
/-- What Lex answers. -/
def LexRes (w w' : World) (es ed : Addr) (e : Ending) (L : List Lxm) (r : Option (Bool × Nat)) : Prop :=
  ∃ v u, e = .returned (.tuple #[v, u]) ∧ w'.ownsRow w.heap.size 32 9 v L.length (L.flatMap lcl) ∧ (match r with
    | none => u = .nilIface
    | some (b, q) => Placed w' u (if b = true then ed else es) (q : Int)) ∧ Ext w w'
theorem info_lex : (Tryd.prog.info? 32).map (fun i => (i.zero, i.size, i.bytes)) = some (some (.agg #[.int .i64 0, .int .i64 0, .int .i64 0, .string ⟨#[]⟩, .int .i64 0, .int .u64 0, .int .u64 0, .int .u64 0, .int .u64 0]), 9, 80) := by kernel_rfl
theorem ownsRow_iterAt {w : World} {base : Nat} {e : TypeId} {size : Nat} {v : Value} {n : Nat} {xs : List Value} (h : w.ownsRow base e size v n xs) {k : Nat} (hk : k < base) (s : ByteArray) (p : Nat) : (w.iterAt k s p).ownsRow base e size v n xs := by
  obtain ⟨h1, h2⟩ := h
  refine ⟨h1, ?_⟩
  rcases h2 with h2 | ⟨g, cap, cur, a, b, c, d⟩
  · exact .inl h2
  · exact .inr ⟨g, cap, cur, a, b, by rw [Lib.iterAt_other _ _ _ _ _ (by omega)]; exact c, d⟩
theorem ownsRow_base {w : World} {base base' : Nat} {e : TypeId} {size : Nat} {v : Value} {n : Nat} {xs : List Value} (h : w.ownsRow base e size v n xs) (hb : base' ≤ base) : w.ownsRow base' e size v n xs := by
  obtain ⟨h1, h2⟩ := h
  refine ⟨h1, ?_⟩
  rcases h2 with h2 | ⟨g, cap, cur, a, b, c, d⟩
  · exact .inl h2
  · exact .inr ⟨g, cap, cur, a, Nat.le_trans hb b, c, d⟩
theorem cell_new_all (w : World) (L : List Value) (t : TypeId) : ∀ j u, L[j]? = some u → (w.alloc (.cells L.toArray t)).cell? ((⟨w.heap.size, 0, none⟩ : Addr).add j) = some u := by
  intro j u h
  have h1 := (Blk.new w L.toArray t).cell j
  have h2 : (⟨w.heap.size, 0, none⟩ : Addr).add j = ⟨w.heap.size, j, none⟩ := by
    unfold Addr.add
    split
    · rename_i e; rw [e]
    · simp
  rw [h2, h1]
  simpa using h
theorem cell_new_at (w : World) (L : List Value) (t : TypeId) (b : Nat) (hb : b = w.heap.size) : ∀ j u, L[j]? = some u → (w.alloc (.cells L.toArray t)).cell? ((⟨b, 0, none⟩ : Addr).add j) = some u := by
  subst hb; exact cell_new_all w L t
theorem flat_app (A : List Lxm) (y : Lxm) : (A ++ [y]).flatMap lcl = A.flatMap lcl ++ lcl y := by simp
set_option maxHeartbeats 8000000 in
set_option maxRecDepth 20000 in
theorem lex_any (s : ByteArray) (hs : s.size ≤ 65536) (es ed : Addr) (w : World) (hK : Kn w es ed) (L : List Lxm) (r : Option (Bool × Nat)) (hx : lxs s.size (rest s 0) 0 = (L, r)) :
    Calls Tryd.prog 7 #[.string s] w fun e w' => LexRes w w' es ed e L r := by
  obtain ⟨i0, hi, hz0, hz1, hz2⟩ := info_parts info_lex
  have hrl0 := rest_len (show 0 ≤ s.size by omega)
  have HX := Lib.hid hx
  have HK := Lib.hid hK
  have d0 : decide ((65536 : Int) < (s.size : Int)) = false := by simp; omega
  have d0n : decide (65536 < s.size) = false := by simp; omega
  have HI := Lib.hid (And.intro (World.iter_heap w s 0) (show Ext w (w.iter s 0) from (Below.refl _ _).alloc (Nat.le_refl _) _))
  clear hx hK
  go_enter Tryd.func7, Tryd.ntmps7
  go_wp2_with fail
  clear d0 d0n
  go_loopw [4, 5] (fun v4 v5 wr => ∃ (p e : Nat) (A : List Lxm) (g : Nat), v5 = .int .i64 (e : Int) ∧ p ≤ e ∧ e ≤ s.size ∧ Hid (Bd s e) ∧ (rest s e).length ≤ g ∧ A.length ≤ e ∧ Hid (A ++ (lxs g (rest s e) e).1 = L ∧ (lxs g (rest s e) e).2 = r) ∧ Hid (wr.heap[w.heap.size]? = some (.stringIter s p)) ∧ Hid (Ext w wr) ∧ Hid (wr.ownsRow (w.heap.size + 1) 32 9 v4 A.length (A.flatMap lcl))) (fun _ _ wr => s.size - wr.iterPos w.heap.size)
  case atStart => exact ⟨0, 0, [], s.size, rfl, Nat.le_refl _, Nat.zero_le _, Lib.hid (.inl rfl), by omega, by simp, Lib.hid ⟨by rw [HX.out]; rfl, by rw [HX.out]⟩, Lib.hid HI.out.1, Lib.hid HI.out.2, Lib.hid (World.ownsRow_nil _ _ _ _)⟩
  case round =>
    clear HI HX
    obtain ⟨p, e, A, g, rfl, hpe, hes, hbd, hlen, hAe, hL, hit, hE, hown⟩ := hrel
    have hpos0 := Lib.hid (iterPos_of hit.out)
    by_cases hps : p < s.size
    · have hnx : ∀ ty, (Instr.next (.pointer (some ⟨w.heap.size, 0, none⟩)) true ty).run Tryd.prog wr = _ := fun ty => Lib.run_next_any_at wr w.heap.size s p ty hit.out hps
      obtain ⟨C, hC⟩ := lx_unc s p hps
      have hwd := width_pos s p hps
      have hor := one_rune s p C _ hC
      have hnc := no_cross s p e hbd.out
      have hlo := dec_low s p C _ hC
      have hit2 := Lib.hid (Lib.iterAt_heap wr w.heap.size s p (p + (Utf8.decode s p).2) hit.out)
      have hE2 := Lib.hid (Lib.below_iterAt hE.out (k := w.heap.size) (Nat.le_refl _) s (p + (Utf8.decode s p).2))
      have hown2 := Lib.hid (ownsRow_iterAt hown.out (k := w.heap.size) (by omega) s (p + (Utf8.decode s p).2))
      have hdl : C.toNat < 128 → (Utf8.decode s p).2 = 1 := fun h => by rw [hlo h]
      generalize (Utf8.decode s p).2 = d at hnx hit2 hE2 hown2 hwd hnc hdl
      generalize (Utf8.decode s p).1 = rn at hnx hor
      obtain ⟨W1, hW1⟩ : ∃ W1, W1 = wr.iterAt w.heap.size s (p + d) := ⟨_, rfl⟩
      rw [← hW1] at hnx hit2 hE2 hown2
      have HP2 := Lib.hid (iterPos_of hit2.out)
      clear hW1 hit hE hown hlo
      by_cases hlt : p < e
      · have d1 : decide ((p : Int) < (e : Int)) = true := by simp; omega
        have hpd := hnc hlt hps
        clear hor hnc hC hdl
        go_wp2_with fail
        go_roundw
        case rel => exact ⟨p + d, e, A, g, rfl, hpd, hes, hbd, hlen, hAe, hL, hit2, hE2, hown2⟩
        case measure => rw [HP2.out, hpos0.out]; omega
      · obtain rfl : p = e := by omega
        have d1 : decide ((p : Int) < (p : Int)) = false := by simp
        obtain ⟨z, hz⟩ : ∃ z, oneR rn (rest s p) p = z := ⟨_, rfl⟩
        have HRD := Lib.hid (fun w hK => lread_any rn s p hps (by omega) es ed w hK z hz)
        obtain ⟨g, rfl⟩ : ∃ g', g = g' + 1 := ⟨g - 1, by rw [hC] at hlen; simp at hlen; omega⟩
        have hstep : lxs (g + 1) (rest s p) p = lxN g (rest s p) p z := by rw [lxs_step g _ p (by rw [hC]; simp), hor, hz]
        cases z with
        | inl bq =>
          obtain ⟨b, q⟩ := bq
          have hLL : A = L ∧ some (b, q) = r := by
            have := hL.out
            rw [hstep] at this
            simpa [lxN] using this
          have HLL := Lib.hid hLL
          clear hstep hLL hL hz hor hnc hC hdl
          go_wp2_with fail
          refine (HRD.out _ (HK.out.ext hE2.out)).mono ?_
          rintro e w3 ⟨kd, a, en, T, n, x0, x1, x2, x3, v, rfl, ⟨pp, tp, rfl, hPb, hlp⟩, hx⟩
          have HPb := Lib.hid (And.intro hPb hlp)
          have HO3 := Lib.hid (own_grown hown2.out (grown_of_ext (row := none) hx) (fun j hj => by cases hj))
          have HE3 := Lib.hid (bel_call hE2.out hx)
          clear hx hPb hlp hown2 hE2 hit2 HRD hnx
          go_wp2_with fail
          go_ret2
          obtain ⟨rfl, rfl⟩ := HLL.out
          refine ⟨_, _, rfl, ownsRow_base (HO3.out.alloc _) (by omega), ⟨pp, tp, rfl, HPb.out.1.alloc _, HPb.out.2⟩, HE3.out.alloc HE3.out.size _⟩
        | inr y =>
          have hok := one_ok C (rest s (p + 1)) p y (by rw [← hz, ← hor, hC]; rfl)
          rw [← hC] at hok
          obtain ⟨hok, hc⟩ := hok
          have hd1 := hdl hc
          subst hd1
          have hrp := rest_len (Nat.le_of_lt hps)
          have hye := hok.hi
          have hyl := hok.lo
          have hye2 : y.e ≤ s.size := by omega
          have hry := rest_len hye2
          have hdr : (rest s p).drop (y.e - p) = rest s y.e := by rw [← rest_drop, show p + (y.e - p) = y.e by omega]
          unfold lxN at hstep
          dsimp only at hstep
          rw [hdr] at hstep
          have HBD := Lib.hid (show Bd s y.e from .inr ⟨p, y.e - p, hps, by omega, by omega, hok.cut⟩)
          have hLL := hL.out
          rw [hstep] at hLL
          have HLL := Lib.hid hLL
          have hyk := hok.kd
          have HYA := Lib.hid hok.a
          clear hstep hLL hL hz hor hnc hC hdl hok hdr hbd
          go_wp2_with fail
          refine (HRD.out _ (HK.out.ext hE2.out)).mono ?_
          rintro e w3 ⟨rfl, hx⟩
          have HO3 := Lib.hid (own_grown hown2.out (grown_of_ext (row := none) hx) (fun j hj => by cases hj))
          have HE3 := Lib.hid (bel_call hE2.out hx)
          have HI3 := Lib.hid (iter_ext hit2.out hx)
          have hlt3 : w.heap.size < w3.heap.size := Nat.lt_of_lt_of_le ((Array.getElem?_eq_some_iff.1 hit2.out).1) hx.size
          have HT3 := Lib.hid (Blk.new w3 (lcs (y.kind : Int) (y.a : Int) (y.e : Int) ⟨y.t.toArray⟩ (y.n : Int) (wd y.S 0) (wd y.S 1) (wd y.S 2) (wd y.S 3)) 32)
          have k0 := HT3.out.cell 0
          have k1 := HT3.out.cell 1
          have k2 := HT3.out.cell 2
          have k3 := HT3.out.cell 3
          have k4 := HT3.out.cell 4
          have k5 := HT3.out.cell 5
          have k6 := HT3.out.cell 6
          have k7 := HT3.out.cell 7
          have k8 := HT3.out.cell 8
          clear hx hown2 hE2 hit2 HRD hnx
          by_cases hk0 : y.kind = 0
          · have d2 : ((y.kind : Int) != 0) = false := by simp; omega
            have h2 := HLL.out
            simp only [hk0, if_true] at h2
            have HL2 := Lib.hid h2
            have HI4 := Lib.hid (iter_ext HI3.out (show Ext w3 (w3.alloc (.cells (lcs (y.kind : Int) (y.a : Int) (y.e : Int) ⟨y.t.toArray⟩ (y.n : Int) (wd y.S 0) (wd y.S 1) (wd y.S 2) (wd y.S 3)) 32)) from by (repeat' (first | (with_reducible exact Below.refl _ _) | (with_reducible assumption) | (with_reducible refine below_drewN ?_ _) | (with_reducible refine Below.alloc ?_ ?_ _) | (with_reducible refine Below.drew ?_) | (with_reducible refine Below.setCell ?_ ?_ _) | (with_reducible refine Below.trans ?_ (Below.mono (by with_reducible assumption) ?_)) | go_size))))
            have HP4 := Lib.hid (iterPos_of HI4.out)
            have HE4 := Lib.hid (HE3.out.alloc HE3.out.size (.cells (lcs (y.kind : Int) (y.a : Int) (y.e : Int) ⟨y.t.toArray⟩ (y.n : Int) (wd y.S 0) (wd y.S 1) (wd y.S 2) (wd y.S 3)) 32))
            have HO4 := Lib.hid (HO3.out.alloc (.cells (lcs (y.kind : Int) (y.a : Int) (y.e : Int) ⟨y.t.toArray⟩ (y.n : Int) (wd y.S 0) (wd y.S 1) (wd y.S 2) (wd y.S 3)) 32))
            clear h2 hk0 HLL HO3 HE3 HI3
            go_wp2_with fail
            go_roundw
            case rel => exact ⟨p + 1, y.e, A, g, rfl, by omega, hye2, HBD, by omega, by omega, HL2, HI4, HE4, HO4⟩
            case measure => rw [HP4.out, hpos0.out]; omega
          · have d2 : ((y.kind : Int) != 0) = true := by simp; omega
            have h2 := HLL.out
            simp only [hk0, if_false] at h2
            have HL2 := Lib.hid (show (A ++ [y]) ++ (lxs g (rest s y.e) y.e).1 = L ∧ (lxs g (rest s y.e) y.e).2 = r from ⟨by rw [List.append_assoc]; exact h2.1, h2.2⟩)
            have HX4 := Lib.hid (show Ext w ((w3.alloc (.cells (lcs (y.kind : Int) (y.a : Int) (y.e : Int) ⟨y.t.toArray⟩ (y.n : Int) (wd y.S 0) (wd y.S 1) (wd y.S 2) (wd y.S 3)) 32)).alloc (.cells (lcl y).toArray 32)) from by
              have h1 := HE3.out.alloc HE3.out.size (.cells (lcs (y.kind : Int) (y.a : Int) (y.e : Int) ⟨y.t.toArray⟩ (y.n : Int) (wd y.S 0) (wd y.S 1) (wd y.S 2) (wd y.S 3)) 32)
              exact h1.alloc h1.size _)
            have HI4 := Lib.hid (iter_ext HI3.out (show Ext w3 ((w3.alloc (.cells (lcs (y.kind : Int) (y.a : Int) (y.e : Int) ⟨y.t.toArray⟩ (y.n : Int) (wd y.S 0) (wd y.S 1) (wd y.S 2) (wd y.S 3)) 32)).alloc (.cells (lcl y).toArray 32)) from by (repeat' (first | (with_reducible exact Below.refl _ _) | (with_reducible assumption) | (with_reducible refine below_drewN ?_ _) | (with_reducible refine Below.alloc ?_ ?_ _) | (with_reducible refine Below.drew ?_) | (with_reducible refine Below.setCell ?_ ?_ _) | (with_reducible refine Below.trans ?_ (Below.mono (by with_reducible assumption) ?_)) | go_size))))
            clear h2 hk0 HLL HE3 HI3
            go_wp2_with (at_builtin; refine wpList_append_own _ rfl (.tmp 39) (.tmp 41) 23 rfl (w.heap.size + 1) 32 i0 (.agg #[.int .i64 0, .int .i64 0, .int .i64 0, .string ⟨#[]⟩, .int .i64 0, .int .u64 0, .int .u64 0, .int .u64 0, .int .u64 0]) 9 80 Tryd.underlying23 hi hz0 hz1 hz2 rfl (by decide) _ _ _ rfl ((HO3.out.alloc _).alloc _) ⟨_, 0, none⟩ 1 1 (lcl y) rfl rfl (cell_new_at _ (lcl y) _ _ (by simp)) (by intro u hu; simp [lcl] at hu; rcases hu with rfl | rfl | rfl | rfl | rfl | rfl | rfl | rfl | rfl <;> rfl) (by unfold maxLen; omega) (by omega) (by simp; omega) ?_; intro v1 w4 hown1 hgrow1 hnil1)
            go_roundw
            case rel =>
              have hE4 : Ext w w4 := ⟨hgrow1.os.trans HX4.out.os, hgrow1.tape.trans HX4.out.tape, hgrow1.output.trans HX4.out.output, Nat.le_trans HX4.out.size hgrow1.size, fun j hj => (hgrow1.block j (Nat.lt_of_lt_of_le hj HX4.out.size) (fun e => by have := (HO3.out.lt j e.symm).1; omega)).trans (HX4.out.block j hj)⟩
              have hI5 : w4.heap[w.heap.size]? = some (.stringIter s (p + 1)) := by
                rw [hgrow1.block w.heap.size ((Array.getElem?_eq_some_iff.1 HI4.out).1) (fun h => by have := (HO3.out.lt _ h.symm).1; omega)]
                exact HI4.out
              refine ⟨p + 1, y.e, A ++ [y], g, rfl, by omega, hye2, HBD, by omega, by simp; omega, HL2, Lib.hid hI5, Lib.hid hE4, Lib.hid ?_⟩
              rw [List.length_append, flat_app]
              exact hown1
            case measure =>
              have hI5 : w4.heap[w.heap.size]? = some (.stringIter s (p + 1)) := by
                rw [hgrow1.block w.heap.size ((Array.getElem?_eq_some_iff.1 HI4.out).1) (fun h => by have := (HO3.out.lt _ h.symm).1; omega)]
                exact HI4.out
              rw [iterPos_of hI5, hpos0.out]; omega
    · have hnx : ∀ ty, (Instr.next (.pointer (some ⟨w.heap.size, 0, none⟩)) true ty).run Tryd.prog wr = _ := fun ty => Lib.run_next_end_at wr w.heap.size s p ty hit.out hps
      have hend : A = L ∧ none = r := by
        have := hL.out
        rw [lx_end s e (by omega)] at this
        cases g with
        | zero => simpa [lxs] using this
        | succ g => simpa [lxs] using this
      have HEND := Lib.hid hend
      clear hend hL hbd
      go_wp2_with fail
      go_ret2
      obtain ⟨rfl, rfl⟩ := HEND.out
      exact ⟨_, _, rfl, ownsRow_base hown.out (by omega), rfl, hE.out⟩
end Go.Proofs.YtnecafokkhhhhaaDoor
