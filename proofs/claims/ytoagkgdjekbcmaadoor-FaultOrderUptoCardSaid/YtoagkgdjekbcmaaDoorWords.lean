/- An error's words: of a stage, a place, and the error 'syntax'. -/
import Derived.Test.YtoagkgdjekbcmaaDoorBld
import Derived.Test.YtoagkgdjekbcmaaDoorWrp
namespace Go.Proofs.YtoagkgdjekbcmaaDoor
open Go Go.RowKit
def sayP : ByteArray := ⟨#[97, 116, 32]⟩
def sayS : ByteArray := ⟨#[115, 116, 97, 103, 101, 32]⟩
theorem digits_1 : Lib.decDigits 1 = [49] := by unfold Lib.decDigits; rfl
theorem digits_7 : Lib.decDigits 7 = [55] := by unfold Lib.decDigits; rfl
theorem wd_is_P (v : Value) (xT : TypeId) (w : World) : (Instr.typeAssert (.iface 55 v) xT 98 true).run Tryd.prog w = .ok (.tuple #[.iface 55 v, .bool true]) w := run_typeAssert_hasB Tryd.underlying98 (by kernel_rfl) v xT w
theorem wd_says_P (p : Nat) (w : World) : (Go.method 269 55 (.pointer (some ⟨p, 0, none⟩)) "bolter/fault.says").run Tryd.prog w = .ok (69, .pointer (some ⟨p, 0, none⟩)) w := by kernel_rfl
theorem says_P (p : Nat) (y : Value) (i : Nat) (tt : TypeId) (w : World) (hi : i < 100) (d : List UInt8) (hd : Lib.decDigits i = d) (hdl : d.length ≤ 2) (h : Blk w p #[y, .int .i64 i] tt) :
    Calls Tryd.prog 69 #[.pointer (some ⟨p, 0, none⟩)] w fun e w' => e = .returned (.string (sayP ++ ⟨d.toArray⟩)) ∧ w' = w := by
  have c1 := h.cell 1
  go_enter Tryd.func69, Tryd.ntmps69
  go_wp2_with fail
  refine (Tryd.strconv_Itoa_small i hi w).mono ?_
  rintro e w1 ⟨rfl, rfl⟩
  rw [hd]
  have h3 : ¬ 9223372036854775807 < 3 + d.length := by omega
  have h6 : ¬ 9223372036854775807 < 6 + d.length := by omega
  go_wp2
  go_ret
  exact ⟨rfl, rfl⟩
theorem wd_is_S (v : Value) (xT : TypeId) (w : World) : (Instr.typeAssert (.iface 69 v) xT 98 true).run Tryd.prog w = .ok (.tuple #[.iface 69 v, .bool true]) w := run_typeAssert_hasB Tryd.underlying98 (by kernel_rfl) v xT w
theorem wd_says_S (p : Nat) (w : World) : (Go.method 269 69 (.pointer (some ⟨p, 0, none⟩)) "bolter/fault.says").run Tryd.prog w = .ok (93, .pointer (some ⟨p, 0, none⟩)) w := by kernel_rfl
theorem says_S (p : Nat) (y : Value) (i : Nat) (tt : TypeId) (w : World) (hi : i < 100) (d : List UInt8) (hd : Lib.decDigits i = d) (hdl : d.length ≤ 2) (h : Blk w p #[y, .int .i64 i] tt) :
    Calls Tryd.prog 93 #[.pointer (some ⟨p, 0, none⟩)] w fun e w' => e = .returned (.string (sayS ++ ⟨d.toArray⟩)) ∧ w' = w := by
  have c1 := h.cell 1
  go_enter Tryd.func93, Tryd.ntmps93
  go_wp2_with fail
  refine (Tryd.strconv_Itoa_small i hi w).mono ?_
  rintro e w1 ⟨rfl, rfl⟩
  rw [hd]
  have h3 : ¬ 9223372036854775807 < 3 + d.length := by omega
  have h6 : ¬ 9223372036854775807 < 6 + d.length := by omega
  go_wp2
  go_ret
  exact ⟨rfl, rfl⟩
theorem wd_no (v : Value) (xT : TypeId) (w : World) : (Instr.typeAssert (.iface 73 v) xT 98 true).run Tryd.prog w = .ok (.tuple #[.nilIface, .bool false]) w := run_typeAssert_lacksB Tryd.underlying98 (by kernel_rfl) (by kernel_rfl) v xT w
theorem wd_err (a : Addr) (w : World) : (Go.method 269 73 (.pointer (some a)) "Error").run Tryd.prog w = .ok (94, .pointer (some a)) w := by kernel_rfl
theorem errstr (a : Addr) (s : ByteArray) (w : World) (h : w.cell? a = some (.string s)) :
    Calls Tryd.prog 94 #[.pointer (some a)] w fun e w' => e = .returned (.string s) ∧ w' = w := by
  have h0 : w.cell? (a.add 0) = some (.string s) := by simpa [Addr.add] using h
  go_enter Tryd.func94, Tryd.ntmps94
  go_wp2
  go_ret
  exact ⟨rfl, rfl⟩
theorem own_st {w : World} {base e sz n : Nat} {v : Value} {xs : List Value} (h : w.ownsRow base e sz v n xs) {a : Addr} (ha : a.block < base) (u : Value) : (w.setCell a u).ownsRow base e sz v n xs := by
  obtain ⟨h1, h2 | ⟨g, cap, cur, hv, hg, hh, rest⟩⟩ := h
  · exact ⟨h1, .inl h2⟩
  · exact ⟨h1, .inr ⟨g, cap, cur, hv, hg, by rw [Below.heap_setCell _ _ _ _ (by omega)]; exact hh, rest⟩⟩
theorem bld_other {B b : Nat} {bs : List Value} {w : World} (h : Bld B b bs w) {a : Addr} (ha : a.block < B) (u : Value) : Bld B b bs (w.setCell a u) := by
  obtain ⟨h1, v, h2, h3, h4⟩ := h
  exact ⟨h1, v, by rw [Below.heap_setCell _ _ _ _ (by omega)]; exact h2, own_st h3 ha u, h4⟩
theorem words_enter (caps : Array Value) (w : World) : (callFunc 39 caps).run Tryd.prog w = .ok (.enter 39 caps) w := by kernel_rfl
theorem words_in (B b q : Nat) (bs : List Value) (a : Addr) (s : ByteArray) (w : World) (hb : Bld B b bs w) (hq : Blk w q #[errAt a] 28) (ha : w.cell? a = some (.string s)) (hlen : bs.length + s.size ≤ 140737488355328) (hB : B ≤ w.heap.size) :
    Calls Tryd.prog 39 #[.pointer (some ⟨b, 0, none⟩), .pointer (some ⟨q, 0, none⟩)] w fun e w' => e = .returned (.tuple #[]) ∧ Bld B b (bs ++ Lib.strCells s) w' ∧ Below B w w' := by
  have c0 := hq.cell 0
  have hm := wd_err
  have he := errstr a s w ha
  go_enter Tryd.func39, Tryd.ntmps39
  go_wp2_with fail
  refine he.mono ?_
  rintro e w1 ⟨rfl, rfl⟩
  go_wp2_with fail
  refine (bld_write B b bs s w1 (.inr hb) hlen hB).mono ?_
  rintro e w2 ⟨rfl, h1, h2⟩
  go_wp2
  go_end0
  exact ⟨rfl, h1, h2⟩
set_option maxHeartbeats 1000000 in
set_option maxRecDepth 20000 in
theorem words_two (v : Value) (a : Addr) (w : World) (hL : Chain w [(69, .int .i64 1), (55, .int .i64 7)] v (errAt a)) (hs : w.cell? a = some (.string ⟨#[115, 121, 110, 116, 97, 120]⟩)) :
    Calls Tryd.prog 30 #[v] w fun e w' => e = .returned (.string ⟨#[115, 116, 97, 103, 101, 32, 49, 58, 32, 97, 116, 32, 55, 58, 32, 115, 121, 110, 116, 97, 120]⟩) ∧ Below w.heap.size w w' := by
  have hmf : ∀ (fn : Fn) (first cap : Array Value) (w : World), (Instr.makeFunc fn first cap).run Tryd.prog w = .ok (.func fn first cap) w := fun _ _ _ _ => rfl
  have hal : a.block < w.heap.size := by
    rcases Nat.lt_or_ge a.block w.heap.size with h | h
    · exact h
    · simp [World.cell?, Array.getElem?_eq_none h] at hs
  obtain ⟨p, y, t1, _, rfl, hp, _, q, z, t2, _, rfl, hq, _, rfl⟩ := hL
  have hpl := (Array.getElem?_eq_some_iff.1 hp).1
  have hql := (Array.getElem?_eq_some_iff.1 hq).1
  replace hp : Blk w p #[.iface 55 (.pointer (some ⟨q, 0, none⟩)), .int .i64 1] t1 := hp
  replace hq : Blk w q #[errAt a, .int .i64 7] t2 := hq
  have nS := wd_is_S
  have nP := wd_is_P
  have nE := wd_no
  have mS := wd_says_S
  have mP := wd_says_P
  have uS := is_mun_S
  have uP := is_mun_P
  have kE := (Blk.new w #[.iface 69 (.pointer (some ⟨p, 0, none⟩))] 28).alloc (.cells #[.pointer none, .slice none 0 0] 96)
  have hbel : Below w.heap.size w ((w.alloc (.cells #[.iface 69 (.pointer (some ⟨p, 0, none⟩))] 28)).alloc (.cells #[.pointer none, .slice none 0 0] 96)) := by (repeat' (first | (with_reducible exact Below.refl _ _) | (with_reducible assumption) | (with_reducible refine below_drewN ?_ _) | (with_reducible refine Below.alloc ?_ ?_ _) | (with_reducible refine Below.drew ?_) | (with_reducible refine Below.setCell ?_ ?_ _) | (with_reducible refine Below.trans ?_ (Below.mono (by with_reducible assumption) ?_)) | go_size))
  have hW := Lib.fresh_isBuilder 96 5 (w.alloc (.cells #[.iface 69 (.pointer (some ⟨p, 0, none⟩))] 28))
  have hBz : w.heap.size + 1 ≤ ((w.alloc (.cells #[.iface 69 (.pointer (some ⟨p, 0, none⟩))] 28)).alloc (.cells #[.pointer none, .slice none 0 0] 96)).heap.size := by simp
  rw [show (w.alloc (.cells #[.iface 69 (.pointer (some ⟨p, 0, none⟩))] 28)).heap.size = w.heap.size + 1 from by simp] at hW
  have hk0 := kE.cell 0
  go_enter Tryd.func30, Tryd.ntmps30
  go_wp2_with fail
  refine wp_loop_rounds 3 ?_
  rw [rounds_succ]
  go_wp2_with fail
  refine (says_S p _ 1 _ _ (by decide) [49] digits_1 (by decide) (hp.ext hbel)).mono ?_
  rintro e w1 ⟨rfl, rfl⟩
  go_wp2_with fail
  refine (bld_write (w.heap.size + 1) (w.heap.size + 1) _ _ _ (hW) (by decide +kernel) hBz).mono ?_
  rintro e w2 ⟨rfl, hB, hE⟩
  replace kE := kE.below hE (Nat.lt_succ_self _)
  replace hbel := hbel.trans (hE.mono (Nat.le_succ _))
  replace hBz := Nat.le_trans hBz hE.size
  clear hE
  go_wp2_with fail
  refine (bld_write (w.heap.size + 1) (w.heap.size + 1) _ _ _ (.inr hB) (by decide +kernel) hBz).mono ?_
  rintro e w3 ⟨rfl, hB, hE⟩
  replace kE := kE.below hE (Nat.lt_succ_self _)
  replace hbel := hbel.trans (hE.mono (Nat.le_succ _))
  replace hBz := Nat.le_trans hBz hE.size
  clear hE
  have hun := unwrap_in p _ _ _ _ (hp.ext hbel)
  go_wp2_with fail
  refine hun.mono ?_
  rintro e w1 ⟨rfl, rfl⟩
  have hk0 := kE.cell 0
  have hf0 := kE.free 0
  go_wp2_with fail
  replace hB := bld_other hB (a := ⟨w.heap.size, 0, none⟩) (Nat.lt_succ_self _) (.iface 55 (.pointer (some ⟨q, 0, none⟩)))
  replace kE : Blk _ w.heap.size #[.iface 55 (.pointer (some ⟨q, 0, none⟩))] 28 := kE.set 0 (.iface 55 (.pointer (some ⟨q, 0, none⟩)))
  replace hbel := hbel.setCell (p := ⟨w.heap.size, 0, none⟩) (Nat.le_refl _) (.iface 55 (.pointer (some ⟨q, 0, none⟩)))
  replace hBz : w.heap.size + 1 ≤ (w1.setCell ⟨w.heap.size, 0, none⟩ (.iface 55 (.pointer (some ⟨q, 0, none⟩)))).heap.size := by simpa [World.setCell] using hBz
  clear hk0 hf0 hun
  generalize w1.setCell ⟨w.heap.size, 0, none⟩ (.iface 55 (.pointer (some ⟨q, 0, none⟩))) = w4 at *
  have hk0 := kE.cell 0
  rw [rounds_succ]
  go_wp2_with fail
  refine (says_P q _ 7 _ _ (by decide) [55] digits_7 (by decide) (hq.ext hbel)).mono ?_
  rintro e w1 ⟨rfl, rfl⟩
  go_wp2_with fail
  refine (bld_write (w.heap.size + 1) (w.heap.size + 1) _ _ _ (.inr hB) (by decide +kernel) hBz).mono ?_
  rintro e w5 ⟨rfl, hB, hE⟩
  replace kE := kE.below hE (Nat.lt_succ_self _)
  replace hbel := hbel.trans (hE.mono (Nat.le_succ _))
  replace hBz := Nat.le_trans hBz hE.size
  clear hE
  go_wp2_with fail
  refine (bld_write (w.heap.size + 1) (w.heap.size + 1) _ _ _ (.inr hB) (by decide +kernel) hBz).mono ?_
  rintro e w6 ⟨rfl, hB, hE⟩
  replace kE := kE.below hE (Nat.lt_succ_self _)
  replace hbel := hbel.trans (hE.mono (Nat.le_succ _))
  replace hBz := Nat.le_trans hBz hE.size
  clear hE
  have hun := unwrap_in q _ _ _ _ (hq.ext hbel)
  go_wp2_with fail
  refine hun.mono ?_
  rintro e w1 ⟨rfl, rfl⟩
  have hk0 := kE.cell 0
  have hf0 := kE.free 0
  go_wp2_with fail
  replace hB := bld_other hB (a := ⟨w.heap.size, 0, none⟩) (Nat.lt_succ_self _) (errAt a)
  replace kE : Blk _ w.heap.size #[errAt a] 28 := kE.set 0 (errAt a)
  replace hbel := hbel.setCell (p := ⟨w.heap.size, 0, none⟩) (Nat.le_refl _) (errAt a)
  replace hBz : w.heap.size + 1 ≤ (w1.setCell ⟨w.heap.size, 0, none⟩ (errAt a)).heap.size := by simpa [World.setCell] using hBz
  clear hk0 hf0 hun
  generalize w1.setCell ⟨w.heap.size, 0, none⟩ (errAt a) = w7 at *
  have hk0 := kE.cell 0
  rw [rounds_succ]
  go_wp2_with fail
  have hin := words_in (w.heap.size + 1) (w.heap.size + 1) w.heap.size _ a ⟨#[115, 121, 110, 116, 97, 120]⟩ w7 hB kE (by rw [hbel.cell hal]; exact hs) (by decide +kernel) hBz
  refine (grd_of _ _ _ _ (words_enter _ _) hin).mono ?_
  rintro e w8 ⟨rfl, hB8, hE8⟩
  replace hbel := hbel.trans (hE8.mono (Nat.le_succ _))
  replace hBz := Nat.le_trans hBz hE8.size
  have hcells : ([] ++ Lib.strCells (sayS ++ ⟨[49].toArray⟩) ++ Lib.strCells ⟨#[58, 32]⟩ ++ Lib.strCells (sayP ++ ⟨[55].toArray⟩) ++ Lib.strCells ⟨#[58, 32]⟩ ++ Lib.strCells ⟨#[115, 121, 110, 116, 97, 120]⟩ : List Value) = Lib.byteCells [115, 116, 97, 103, 101, 32, 49, 58, 32, 97, 116, 32, 55, 58, 32, 115, 121, 110, 116, 97, 120] := by kernel_rfl
  rw [hcells] at hB8
  go_wp2_with fail
  refine (Tryd.Builder_String_any (w.heap.size + 1) (w.heap.size + 1) _ w8 (.inr hB8) hBz).mono ?_
  rintro e w9 ⟨rfl, hE9⟩
  go_wp2
  go_ret
  exact ⟨rfl, hbel.trans (hE9.mono (Nat.le_succ _))⟩
end Go.Proofs.YtoagkgdjekbcmaaDoor
