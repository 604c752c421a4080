/- bolterref3's reader: its state; refuse, ok, char. -/
import Derived.Test.YtnecafokkhhhhaaGreatDoorMG
import Derived.Test.YtnecafokkhhhhaaGreatDoorCls
import Derived.Test.YtnecafokkhhhhaaGreatDoorMI
namespace Go.Proofs.YtnecafokkhhhhaaGreatDoor
open Go Go.RowKit
theorem rlet_1 (n : Nat) (h1 : 97 ≤ n) (h2 : n ≤ 122) (w : World) : Calls Tryz.prog 62 #[.int .u8 (n : Int)] w fun e w' => e = .returned (.bool true) ∧ Ext w w' := by
  have d1 : decide ((97 : Int) ≤ (n : Int)) = true := (by simp; omega); have d2 : decide ((n : Int) ≤ 122) = true := (by simp; omega)
  go_enter Tryz.func62, Tryz.ntmps62
  go_wp2
  go_ret
  exact ⟨rfl, by go_grown⟩
theorem rlet_2 (n : Nat) (h1 : 123 ≤ n) (w : World) : Calls Tryz.prog 62 #[.int .u8 (n : Int)] w fun e w' => e = .returned (.bool false) ∧ Ext w w' := by
  have d1 : decide ((97 : Int) ≤ (n : Int)) = true := (by simp; omega); have d2 : decide ((n : Int) ≤ 122) = false := (by simp; omega); have d3 : decide ((65 : Int) ≤ (n : Int)) = true := (by simp; omega); have d4 : decide ((n : Int) ≤ 90) = false := (by simp; omega)
  go_enter Tryz.func62, Tryz.ntmps62
  go_wp2
  go_ret
  exact ⟨rfl, by go_grown⟩
theorem rlet_3 (n : Nat) (h1 : 91 ≤ n) (h2 : n ≤ 96) (w : World) : Calls Tryz.prog 62 #[.int .u8 (n : Int)] w fun e w' => e = .returned (.bool false) ∧ Ext w w' := by
  have d1 : decide ((97 : Int) ≤ (n : Int)) = false := (by simp; omega); have d3 : decide ((65 : Int) ≤ (n : Int)) = true := (by simp; omega); have d4 : decide ((n : Int) ≤ 90) = false := (by simp; omega)
  go_enter Tryz.func62, Tryz.ntmps62
  go_wp2
  go_ret
  exact ⟨rfl, by go_grown⟩
theorem rlet_4 (n : Nat) (h1 : 65 ≤ n) (h2 : n ≤ 90) (w : World) : Calls Tryz.prog 62 #[.int .u8 (n : Int)] w fun e w' => e = .returned (.bool true) ∧ Ext w w' := by
  have d1 : decide ((97 : Int) ≤ (n : Int)) = false := (by simp; omega); have d3 : decide ((65 : Int) ≤ (n : Int)) = true := (by simp; omega); have d4 : decide ((n : Int) ≤ 90) = true := (by simp; omega)
  go_enter Tryz.func62, Tryz.ntmps62
  go_wp2
  go_ret
  exact ⟨rfl, by go_grown⟩
theorem rlet_5 (n : Nat) (h1 : n < 65) (w : World) : Calls Tryz.prog 62 #[.int .u8 (n : Int)] w fun e w' => e = .returned (.bool false) ∧ Ext w w' := by
  have d1 : decide ((97 : Int) ≤ (n : Int)) = false := (by simp; omega); have d3 : decide ((65 : Int) ≤ (n : Int)) = false := (by simp; omega)
  go_enter Tryz.func62, Tryz.ntmps62
  go_wp2
  go_ret
  exact ⟨rfl, by go_grown⟩
def letB (n : Nat) : Bool := (decide (97 ≤ n) && decide (n ≤ 122)) || (decide (65 ≤ n) && decide (n ≤ 90))
theorem rletter_any (n : Nat) (q : Bool) (hq : letB n = q) (w : World) : Calls Tryz.prog 62 #[.int .u8 (n : Int)] w fun e w' => e = .returned (.bool q) ∧ Ext w w' := by
  have hc : (97 ≤ n ∧ n ≤ 122) ∨ 123 ≤ n ∨ (91 ≤ n ∧ n ≤ 96) ∨ (65 ≤ n ∧ n ≤ 90) ∨ n < 65 := by omega
  rcases hc with h | h | h | h | h
  · obtain rfl : true = q := by rw [← hq]; unfold letB; simp; omega
    exact rlet_1 n h.1 h.2 w
  · obtain rfl : false = q := by rw [← hq]; unfold letB; simp; omega
    exact rlet_2 n h w
  · obtain rfl : false = q := by rw [← hq]; unfold letB; simp; omega
    exact rlet_3 n h.1 h.2 w
  · obtain rfl : true = q := by rw [← hq]; unfold letB; simp; omega
    exact rlet_4 n h.1 h.2 w
  · obtain rfl : false = q := by rw [← hq]; unfold letB; simp; omega
    exact rlet_5 n h w
theorem rdig_1 (n : Nat) (h1 : 48 ≤ n) (h2 : n ≤ 57) (w : World) : Calls Tryz.prog 63 #[.int .u8 (n : Int)] w fun e w' => e = .returned (.bool true) ∧ Ext w w' := by
  have d1 : decide ((48 : Int) ≤ (n : Int)) = true := (by simp; omega); have d2 : decide ((n : Int) ≤ 57) = true := (by simp; omega)
  go_enter Tryz.func63, Tryz.ntmps63
  go_wp2
  go_ret
  exact ⟨rfl, by go_grown⟩
theorem rdig_2 (n : Nat) (h1 : 58 ≤ n) (w : World) : Calls Tryz.prog 63 #[.int .u8 (n : Int)] w fun e w' => e = .returned (.bool false) ∧ Ext w w' := by
  have d1 : decide ((48 : Int) ≤ (n : Int)) = true := (by simp; omega); have d2 : decide ((n : Int) ≤ 57) = false := (by simp; omega)
  go_enter Tryz.func63, Tryz.ntmps63
  go_wp2
  go_ret
  exact ⟨rfl, by go_grown⟩
theorem rdig_3 (n : Nat) (h1 : n < 48) (w : World) : Calls Tryz.prog 63 #[.int .u8 (n : Int)] w fun e w' => e = .returned (.bool false) ∧ Ext w w' := by
  have d1 : decide ((48 : Int) ≤ (n : Int)) = false := (by simp; omega)
  go_enter Tryz.func63, Tryz.ntmps63
  go_wp2
  go_ret
  exact ⟨rfl, by go_grown⟩
def digB (n : Nat) : Bool := decide (48 ≤ n) && decide (n ≤ 57)
theorem rdigit_any (n : Nat) (q : Bool) (hq : digB n = q) (w : World) : Calls Tryz.prog 63 #[.int .u8 (n : Int)] w fun e w' => e = .returned (.bool q) ∧ Ext w w' := by
  have hc : (48 ≤ n ∧ n ≤ 57) ∨ 58 ≤ n ∨ n < 48 := by omega
  rcases hc with h | h | h
  · obtain rfl : true = q := by rw [← hq]; unfold digB; simp; omega
    exact rdig_1 n h.1 h.2 w
  · obtain rfl : false = q := by rw [← hq]; unfold digB; simp; omega
    exact rdig_2 n h w
  · obtain rfl : false = q := by rw [← hq]; unfold digB; simp; omega
    exact rdig_3 n h w
theorem rsix_1 (n : Nat) (h1 : 48 ≤ n) (h2 : n ≤ 57) (w : World) : Calls Tryz.prog 61 #[.int .u8 (n : Int)] w fun e w' => e = .returned (.int .i64 ((n : Int) - 48)) ∧ Ext w w' := by
  have hdg := rdig_1 n h1 h2 w
  skip
  go_enter Tryz.func61, Tryz.ntmps61
  go_wp2_with fail
  refine hdg.mono ?_
  rintro e w1 ⟨rfl, hE⟩
  go_wp2
  go_ret
  exact ⟨rfl, hE⟩
theorem rsix_2 (n : Nat) (h1 : 97 ≤ n) (h2 : n ≤ 102) (w : World) : Calls Tryz.prog 61 #[.int .u8 (n : Int)] w fun e w' => e = .returned (.int .i64 ((n : Int) - 97 + 10)) ∧ Ext w w' := by
  have hdg := rdig_2 n (by omega) w
  have d1 : decide ((97 : Int) ≤ (n : Int)) = true := (by simp; omega); have d2 : decide ((n : Int) ≤ 102) = true := (by simp; omega)
  go_enter Tryz.func61, Tryz.ntmps61
  go_wp2_with fail
  refine hdg.mono ?_
  rintro e w1 ⟨rfl, hE⟩
  go_wp2
  go_ret
  exact ⟨rfl, hE⟩
theorem rsix_3 (n : Nat) (h1 : 103 ≤ n) (w : World) : Calls Tryz.prog 61 #[.int .u8 (n : Int)] w fun e w' => e = .returned (.int .i64 (-1)) ∧ Ext w w' := by
  have hdg := rdig_2 n (by omega) w
  have d1 : decide ((97 : Int) ≤ (n : Int)) = true := (by simp; omega); have d2 : decide ((n : Int) ≤ 102) = false := (by simp; omega); have d3 : decide ((65 : Int) ≤ (n : Int)) = true := (by simp; omega); have d4 : decide ((n : Int) ≤ 70) = false := (by simp; omega)
  go_enter Tryz.func61, Tryz.ntmps61
  go_wp2_with fail
  refine hdg.mono ?_
  rintro e w1 ⟨rfl, hE⟩
  go_wp2
  go_ret
  exact ⟨rfl, hE⟩
theorem rsix_4 (n : Nat) (h1 : 71 ≤ n) (h2 : n ≤ 96) (w : World) : Calls Tryz.prog 61 #[.int .u8 (n : Int)] w fun e w' => e = .returned (.int .i64 (-1)) ∧ Ext w w' := by
  have hdg := rdig_2 n (by omega) w
  have d1 : decide ((97 : Int) ≤ (n : Int)) = false := (by simp; omega); have d3 : decide ((65 : Int) ≤ (n : Int)) = true := (by simp; omega); have d4 : decide ((n : Int) ≤ 70) = false := (by simp; omega)
  go_enter Tryz.func61, Tryz.ntmps61
  go_wp2_with fail
  refine hdg.mono ?_
  rintro e w1 ⟨rfl, hE⟩
  go_wp2
  go_ret
  exact ⟨rfl, hE⟩
theorem rsix_5 (n : Nat) (h1 : 65 ≤ n) (h2 : n ≤ 70) (w : World) : Calls Tryz.prog 61 #[.int .u8 (n : Int)] w fun e w' => e = .returned (.int .i64 ((n : Int) - 65 + 10)) ∧ Ext w w' := by
  have hdg := rdig_2 n (by omega) w
  have d1 : decide ((97 : Int) ≤ (n : Int)) = false := (by simp; omega); have d3 : decide ((65 : Int) ≤ (n : Int)) = true := (by simp; omega); have d4 : decide ((n : Int) ≤ 70) = true := (by simp; omega)
  go_enter Tryz.func61, Tryz.ntmps61
  go_wp2_with fail
  refine hdg.mono ?_
  rintro e w1 ⟨rfl, hE⟩
  go_wp2
  go_ret
  exact ⟨rfl, hE⟩
theorem rsix_6 (n : Nat) (h1 : 58 ≤ n) (h2 : n ≤ 64) (w : World) : Calls Tryz.prog 61 #[.int .u8 (n : Int)] w fun e w' => e = .returned (.int .i64 (-1)) ∧ Ext w w' := by
  have hdg := rdig_2 n (by omega) w
  have d1 : decide ((97 : Int) ≤ (n : Int)) = false := (by simp; omega); have d3 : decide ((65 : Int) ≤ (n : Int)) = false := (by simp; omega)
  go_enter Tryz.func61, Tryz.ntmps61
  go_wp2_with fail
  refine hdg.mono ?_
  rintro e w1 ⟨rfl, hE⟩
  go_wp2
  go_ret
  exact ⟨rfl, hE⟩
theorem rsix_7 (n : Nat) (h1 : n < 48) (w : World) : Calls Tryz.prog 61 #[.int .u8 (n : Int)] w fun e w' => e = .returned (.int .i64 (-1)) ∧ Ext w w' := by
  have hdg := rdig_3 n (by omega) w
  have d1 : decide ((97 : Int) ≤ (n : Int)) = false := (by simp; omega); have d3 : decide ((65 : Int) ≤ (n : Int)) = false := (by simp; omega)
  go_enter Tryz.func61, Tryz.ntmps61
  go_wp2_with fail
  refine hdg.mono ?_
  rintro e w1 ⟨rfl, hE⟩
  go_wp2
  go_ret
  exact ⟨rfl, hE⟩
def sixI (n : Nat) : Int := match hx n with
  | some m => (m : Int)
  | none => -1
theorem rsix_any (n : Nat) (v : Int) (hv : sixI n = v) (w : World) : Calls Tryz.prog 61 #[.int .u8 (n : Int)] w fun e w' => e = .returned (.int .i64 v) ∧ Ext w w' := by
  have hc : (48 ≤ n ∧ n ≤ 57) ∨ (97 ≤ n ∧ n ≤ 102) ∨ 103 ≤ n ∨ (71 ≤ n ∧ n ≤ 96) ∨ (65 ≤ n ∧ n ≤ 70) ∨ (58 ≤ n ∧ n ≤ 64) ∨ n < 48 := by omega
  rcases hc with h | h | h | h | h | h | h
  · obtain rfl : (n : Int) - 48 = v := by rw [← hv]; unfold sixI hx; rw [if_pos h]; show _ = ((n - 48 : Nat) : Int); omega
    exact rsix_1 n h.1 h.2 w
  · obtain rfl : (n : Int) - 97 + 10 = v := by rw [← hv]; unfold sixI hx; rw [if_neg (by omega), if_pos h]; show _ = ((n - 87 : Nat) : Int); omega
    exact rsix_2 n h.1 h.2 w
  · obtain rfl : (-1 : Int) = v := by rw [← hv]; unfold sixI hx; rw [if_neg (by omega), if_neg (by omega), if_neg (by omega)]
    exact rsix_3 n h w
  · obtain rfl : (-1 : Int) = v := by rw [← hv]; unfold sixI hx; rw [if_neg (by omega), if_neg (by omega), if_neg (by omega)]
    exact rsix_4 n h.1 h.2 w
  · obtain rfl : (n : Int) - 65 + 10 = v := by rw [← hv]; unfold sixI hx; rw [if_neg (by omega), if_neg (by omega), if_pos h]; show _ = ((n - 55 : Nat) : Int); omega
    exact rsix_5 n h.1 h.2 w
  · obtain rfl : (-1 : Int) = v := by rw [← hv]; unfold sixI hx; rw [if_neg (by omega), if_neg (by omega), if_neg (by omega)]
    exact rsix_6 n h.1 h.2 w
  · obtain rfl : (-1 : Int) = v := by rw [← hv]; unfold sixI hx; rw [if_neg (by omega), if_neg (by omega), if_neg (by omega)]
    exact rsix_7 n h w
/-! Escape -/
def nms : List Nat := [110, 116, 114, 118, 102, 97, 98, 101, 48]
def mns : List Nat := [10, 9, 13, 11, 12, 7, 8, 27, 0]
set_option maxRecDepth 20000 in
theorem index_nms (k : Nat) (hk : k < 9) : ∀ w, (Instr.index 9 (.string ⟨#[110, 116, 114, 118, 102, 97, 98, 101, 48]⟩) (.int .i64 (k : Nat))).run Tryz.prog w = .ok (.int .u8 (nms.getD k 0 : Nat)) w := by
  have hc : k = 0 ∨ k = 1 ∨ k = 2 ∨ k = 3 ∨ k = 4 ∨ k = 5 ∨ k = 6 ∨ k = 7 ∨ k = 8 := by omega
  rcases hc with rfl | rfl | rfl | rfl | rfl | rfl | rfl | rfl | rfl <;> exact fun _ => by kernel_rfl
theorem nms_at (k : Nat) (hk : k < 9) : (#[.int .u8 10, .int .u8 9, .int .u8 13, .int .u8 11, .int .u8 12, .int .u8 7, .int .u8 8, .int .u8 27, .int .u8 0] : Array Value)[k]? = some (.int .u8 (mns.getD k 0 : Nat)) := by
  have hc : k = 0 ∨ k = 1 ∨ k = 2 ∨ k = 3 ∨ k = 4 ∨ k = 5 ∨ k = 6 ∨ k = 7 ∨ k = 8 := by omega
  rcases hc with rfl | rfl | rfl | rfl | rfl | rfl | rfl | rfl | rfl <;> rfl
theorem unq_nms (k : Nat) (hk : k < 9) (C : UInt8) (l : List UInt8) (h : C.toNat = nms.getD k 0) : unq (C :: l) = (mns.getD k 0, 1) := by
  have hC : C = UInt8.ofNat (nms.getD k 0) := by rw [← h]; simp
  subst hC
  clear h
  have hc : k = 0 ∨ k = 1 ∨ k = 2 ∨ k = 3 ∨ k = 4 ∨ k = 5 ∨ k = 6 ∨ k = 7 ∨ k = 8 := by omega
  rcases hc with rfl | rfl | rfl | rfl | rfl | rfl | rfl | rfl | rfl <;> rfl
theorem pun_all (n : Nat) (h : n < 256) : sPunct.getLsbD n = (decide (33 ≤ n) && decide (n ≤ 126) && !letB n && !digB n) := by
  have h1 := List.all_eq_true.1 (show (List.range 256).all (fun n => sPunct.getLsbD n == (decide (33 ≤ n) && decide (n ≤ 126) && !letB n && !digB n)) = true by decide +kernel) n (List.mem_range.2 h)
  simpa using h1
theorem unq_other (C : UInt8) (l : List UInt8) (h : ∀ j, j < 9 → nms.getD j 0 ≠ C.toNat) : unq (C :: l) = if C = 120 then hexOf (C :: l) else if sPunct.getLsbD C.toNat = true then (C.toNat, 1) else (0, 0) := by
  have q : ∀ j, j < 9 → C ≠ UInt8.ofNat (nms.getD j 0) := by
    intro j hj e
    have hc : j = 0 ∨ j = 1 ∨ j = 2 ∨ j = 3 ∨ j = 4 ∨ j = 5 ∨ j = 6 ∨ j = 7 ∨ j = 8 := by omega
    refine h j hj ?_
    rw [e]
    rcases hc with rfl | rfl | rfl | rfl | rfl | rfl | rfl | rfl | rfl <;> rfl
  have q0 : C ≠ 110 := q 0 (by omega)
  have q1 : C ≠ 116 := q 1 (by omega)
  have q2 : C ≠ 114 := q 2 (by omega)
  have q3 : C ≠ 118 := q 3 (by omega)
  have q4 : C ≠ 102 := q 4 (by omega)
  have q5 : C ≠ 97 := q 5 (by omega)
  have q6 : C ≠ 98 := q 6 (by omega)
  have q7 : C ≠ 101 := q 7 (by omega)
  have q8 : C ≠ 48 := q 8 (by omega)
  rw [unq, if_neg q2, if_neg q4, if_neg q3, if_neg q0, if_neg q1, if_neg q6, if_neg q5, if_neg q8, if_neg q7]
set_option maxRecDepth 20000 in
/-- A byte of a text, by its place. -/
theorem idx_at (s : ByteArray) (j : Nat) (z : Int) (hz : z = j) (C : UInt8) (l : List UInt8) (h : rest s j = C :: l) : ∀ w, (Instr.index 9 (.string s) (.int .i64 z)).run Tryz.prog w = .ok (.int .u8 (C.toNat : Int)) w := by
  intro w
  subst hz
  have hlt : j < s.size := by
    have h5 := congrArg List.length h
    unfold rest at h5
    rw [List.length_drop, Array.length_toList] at h5
    simp at h5
    have : s.data.size = s.size := rfl
    omega
  have hget : s[j] = C := by
    unfold rest at h
    rw [List.drop_eq_getElem_cons (by simpa using hlt)] at h
    have h6 := (List.cons.inj h).1
    rw [Array.getElem_toList] at h6
    exact h6
  rw [run_index_string (h := by kernel_rfl), dif_pos ⟨by omega, by omega⟩]
  simp [hget]
theorem rest_uncons (s : ByteArray) (j : Nat) (h : j < s.size) : ∃ C, rest s j = C :: rest s (j + 1) := by
  unfold rest
  exact ⟨_, List.drop_eq_getElem_cons (by rw [Array.length_toList]; exact h)⟩
theorem rest_end (s : ByteArray) (j : Nat) (h : s.size ≤ j) : rest s j = [] := by
  unfold rest
  exact List.drop_eq_nil_of_le (by rw [Array.length_toList]; exact h)
def escN (n : Nat) : Int := if n = 0 then 0 else (n : Int) + 1
set_option maxHeartbeats 2000000 in
set_option maxRecDepth 20000 in
theorem rescape_any (s : ByteArray) (i : Nat) (hs : s.size ≤ 4294967000) (hi : i < s.size) (b n : Nat) (hu : unq (rest s (i + 1)) = (b, n)) (w : World) :
    Calls Tryz.prog 40 #[.string s, .int .i64 (i : Int)] w fun e w' => e = .returned (.tuple #[.int .u8 (b : Int), .int .i64 (escN n)]) ∧ Ext w w' := by
  by_cases h1 : s.size ≤ i + 1
  · rw [rest_end s _ h1] at hu
    obtain ⟨rfl, rfl⟩ : 0 = b ∧ 0 = n := by cases hu; exact ⟨rfl, rfl⟩
    have d1 : decide ((s.size : Int) ≤ (i : Int) + 1) = true := by simp; omega
    go_enter Tryz.func40, Tryz.ntmps40
    go_wp2
    go_ret2
    exact ⟨rfl, by go_grown⟩
  · obtain ⟨C, hC⟩ := rest_uncons s (i + 1) (by omega)
    have d1 : decide ((s.size : Int) ≤ (i : Int) + 1) = false := by simp; omega
    have i1 := idx_at s (i + 1) ((i : Int) + 1) (by omega) C _ hC
    have hc256 := C.toNat_lt
    rw [hC] at hu
    have hx0 : Ext w (w.alloc (.cells #[.int .u8 10, .int .u8 9, .int .u8 13, .int .u8 11, .int .u8 12, .int .u8 7, .int .u8 8, .int .u8 27, .int .u8 0] 5)) := by go_grown
    have HX0 := Lib.hid hx0
    have HB0 := Lib.hid (Blk.new w #[.int .u8 10, .int .u8 9, .int .u8 13, .int .u8 11, .int .u8 12, .int .u8 7, .int .u8 8, .int .u8 27, .int .u8 0] 5)
    have HU := Lib.hid hu
    obtain ⟨c, hcc⟩ : ∃ c, C.toNat = c := ⟨_, rfl⟩
    rw [hcc] at i1 hc256
    have HC := Lib.hid hcc
    have HR := Lib.hid hC
    clear hx0 hu hC hcc
    go_enter Tryz.func40, Tryz.ntmps40
    go_wp2_with fail
    generalize hp : w.heap.size = p at HB0 ⊢
    replace hp := Lib.hid hp
    generalize w.alloc (.cells #[.int .u8 10, .int .u8 9, .int .u8 13, .int .u8 11, .int .u8 12, .int .u8 7, .int .u8 8, .int .u8 27, .int .u8 0] 5) = w0 at HX0 HB0 ⊢
    go_loopw [9] (fun v wr => ∃ k : Nat, k ≤ 9 ∧ v = .int .i64 k ∧ wr = w0 ∧ Hid (∀ j, j < k → nms.getD j 0 ≠ c)) (fun v _ => 9 - (intOf v).toNat)
    case atStart => exact ⟨0, by omega, rfl, by first | rfl | trivial, Lib.hid (fun j hj => by omega)⟩
    case round =>
      obtain ⟨k, hk, rfl, rfl, hno⟩ := hrel
      by_cases hlt : k < 9
      · have hd : decide ((k : Int) < 9) = true := by simp; omega
        have hix := index_nms k hlt
        have hcl := (HB0.out.cell k).trans (nms_at k hlt)
        obtain ⟨nm, hnm⟩ : ∃ nm, nms.getD k 0 = nm := ⟨_, rfl⟩
        obtain ⟨mn, hmn⟩ : ∃ mn, mns.getD k 0 = mn := ⟨_, rfl⟩
        rw [hnm] at hix
        rw [hmn] at hcl
        by_cases he : c = nm
        · have hun := unq_nms k hlt C (rest s (i + 1 + 1)) (by rw [HC.out, hnm, he])
          rw [HU.out, hmn] at hun
          obtain ⟨rfl, rfl⟩ : b = mn ∧ n = 1 := by cases hun; exact ⟨rfl, rfl⟩
          subst he
          clear hun hnm hmn hno HU
          go_wp2_with fail
          go_ret2
          exact ⟨rfl, HX0.out⟩
        · have hq : ((c : Int) == (nm : Int)) = false := by simp; omega
          have HN := Lib.hid (show ∀ j, j < k + 1 → nms.getD j 0 ≠ c from fun j hj => by
            by_cases e : j = k
            · subst e; rw [hnm]; exact fun e2 => he e2.symm
            · exact hno.out j (by omega))
          clear hnm hmn he hno hcl
          go_wp2_with fail
          go_roundw
          case rel => exact ⟨k + 1, by omega, by go_num, by first | rfl | trivial, HN⟩
          case measure => simp [intOf]; omega
      · obtain rfl : k = 9 := by omega
        have hot := unq_other C (rest s (i + 1 + 1)) (fun j hj => by rw [HC.out]; exact hno.out j hj)
        rw [HU.out, HC.out] at hot
        clear hno HU HB0 hlt hk
        by_cases h120C : C = 120
        · have h120 : c = 120 := by rw [← HC.out, h120C]; rfl
          rw [if_pos h120C] at hot
          subst h120
          by_cases h3 : i + 3 < s.size
          · obtain ⟨X, hX⟩ := rest_uncons s (i + 1 + 1) (by omega)
            obtain ⟨Y, hY⟩ := rest_uncons s (i + 1 + 1 + 1) (by omega)
            have i2 := idx_at s (i + 1 + 1) ((i : Int) + 2) (by omega) X _ hX
            have i3 := idx_at s (i + 1 + 1 + 1) ((i : Int) + 3) (by omega) Y _ hY
            have d3 : decide ((i : Int) + 3 < (s.size : Int)) = true := by simp; omega
            rw [hX, hY] at hot
            have hhx : hexOf (C :: X :: Y :: rest s (i + 1 + 1 + 1 + 1)) = match hx X.toNat, hx Y.toNat with
              | some m, some n => (16 * m + n, 3)
              | _, _ => (0, 0) := rfl
            rw [hhx] at hot
            have hxl := X.toNat_lt
            have hyl := Y.toNat_lt
            obtain ⟨x, hxe⟩ : ∃ x, X.toNat = x := ⟨_, rfl⟩
            obtain ⟨y, hye⟩ : ∃ y, Y.toNat = y := ⟨_, rfl⟩
            rw [hxe] at hot i2 hxl
            rw [hye] at hot i3 hyl
            have HSX := Lib.hid (fun v hv w => rsix_any x v hv w)
            have HSY := Lib.hid (fun v hv w => rsix_any y v hv w)
            clear hX hY hhx hxe hye h120C HR HC i1 d1
            cases hxx : Go.Proofs.YtnecafokkhhhhaaGreatDoor.hx x with
            | none =>
              rw [hxx] at hot
              obtain ⟨rfl, rfl⟩ : b = 0 ∧ n = 0 := by cases hot; exact ⟨rfl, rfl⟩
              have HA := Lib.hid (HSX.out (-1) (by unfold sixI; rw [hxx]))
              clear hot hxx HSX HSY
              go_wp2_with fail
              refine (HA.out _).mono ?_
              rintro e w1 ⟨rfl, hE1⟩
              have HE1 := Lib.hid (bel_call HX0.out hE1)
              clear hE1
              go_wp2_with fail
              go_ret2
              exact ⟨rfl, HE1.out⟩
            | some m =>
              have hm16 : m < 16 := by
                unfold Go.Proofs.YtnecafokkhhhhaaGreatDoor.hx at hxx
                split at hxx
                · cases hxx; omega
                · split at hxx
                  · cases hxx; omega
                  · split at hxx
                    · cases hxx; omega
                    · cases hxx
              rw [hxx] at hot
              have HA := Lib.hid (HSX.out (m : Int) (by unfold sixI; rw [hxx]))
              cases hyy : Go.Proofs.YtnecafokkhhhhaaGreatDoor.hx y with
              | none =>
                rw [hyy] at hot
                obtain ⟨rfl, rfl⟩ : b = 0 ∧ n = 0 := by cases hot; exact ⟨rfl, rfl⟩
                have HB := Lib.hid (HSY.out (-1) (by unfold sixI; rw [hyy]))
                have g1 : decide ((0 : Int) ≤ (m : Int)) = true := by simp
                clear hot hxx hyy HSX HSY
                go_wp2_with fail
                refine (HA.out _).mono ?_
                rintro e w1 ⟨rfl, hE1⟩
                have HE1 := Lib.hid (bel_call HX0.out hE1)
                clear hE1
                go_wp2_with fail
                refine (HB.out _).mono ?_
                rintro e w2 ⟨rfl, hE2⟩
                have HE2 := Lib.hid (bel_call HE1.out hE2)
                clear hE2
                go_wp2_with fail
                go_ret2
                exact ⟨rfl, HE2.out⟩
              | some q =>
                have hq16 : q < 16 := by
                  unfold Go.Proofs.YtnecafokkhhhhaaGreatDoor.hx at hyy
                  split at hyy
                  · cases hyy; omega
                  · split at hyy
                    · cases hyy; omega
                    · split at hyy
                      · cases hyy; omega
                      · cases hyy
                rw [hyy] at hot
                obtain ⟨rfl, rfl⟩ : b = 16 * m + q ∧ n = 3 := by cases hot; exact ⟨rfl, rfl⟩
                have HB := Lib.hid (HSY.out (q : Int) (by unfold sixI; rw [hyy]))
                have g1 : decide ((0 : Int) ≤ (m : Int)) = true := by simp
                have g2 : decide ((0 : Int) ≤ (q : Int)) = true := by simp
                have hbv : (((16 * m + q : Nat)) : Int) = 16 * (m : Int) + q := by omega
                have hwr : IntKind.u8.wrap (16 * (m : Int) + q) = 16 * (m : Int) + q := IntWalk.u8_in _ (by omega)
                have HBV := Lib.hid hbv
                clear hot hxx hyy HSX HSY hbv
                go_wp2_with fail
                refine (HA.out _).mono ?_
                rintro e w1 ⟨rfl, hE1⟩
                have HE1 := Lib.hid (bel_call HX0.out hE1)
                clear hE1
                go_wp2_with fail
                refine (HB.out _).mono ?_
                rintro e w2 ⟨rfl, hE2⟩
                have HE2 := Lib.hid (bel_call HE1.out hE2)
                clear hE2 HE1
                go_wp2_with fail
                refine G.wp_region_stab (G := Ext) (fun _ => none) (by kernel_rfl) (by kernel_rfl) (fun _ _ h => by cases h) (fun hex => ?_)
                iterate 4
                  (refine G.wpS_one (A := ?_) hex rfl rfl (by simp) ?_ ?_ ?_
                   rotate_left 2
                   · intro w' hC K hK
                     go_wp2_with (fail)
                     refine hK _ ?_
                     first | exact Below.refl _ _ | assumption | ((repeat' (first | (with_reducible exact Below.refl _ _) | (with_reducible assumption) | (with_reducible refine below_drewN ?_ _) | (with_reducible refine Below.alloc ?_ ?_ _) | (with_reducible refine Below.drew ?_) | (with_reducible refine Below.setCell ?_ ?_ _) | (with_reducible refine Below.trans ?_ (Below.mono (by with_reducible assumption) ?_)) | go_size)))
                   rotate_left 1
                   · rfl
                   clear hex; intro hex)
                refine G.wpS_one (A := ?_) hex rfl rfl (by simp) ?_ ?_ ?_
                rotate_left 2
                · intro w' hC K hK
                  go_wp2_with (refine (HA.out _).mono ?_; rintro e wq ⟨rfl, hEq⟩)
                  refine hK _ ?_
                  first | exact Below.refl _ _ | assumption | ((repeat' (first | (with_reducible exact Below.refl _ _) | (with_reducible assumption) | (with_reducible refine below_drewN ?_ _) | (with_reducible refine Below.alloc ?_ ?_ _) | (with_reducible refine Below.drew ?_) | (with_reducible refine Below.setCell ?_ ?_ _) | (with_reducible refine Below.trans ?_ (Below.mono (by with_reducible assumption) ?_)) | go_size)))
                rotate_left 1
                · rfl
                clear hex; intro hex
                iterate 5
                  (refine G.wpS_one (A := ?_) hex rfl rfl (by simp) ?_ ?_ ?_
                   rotate_left 2
                   · intro w' hC K hK
                     go_wp2_with (fail)
                     refine hK _ ?_
                     first | exact Below.refl _ _ | assumption | ((repeat' (first | (with_reducible exact Below.refl _ _) | (with_reducible assumption) | (with_reducible refine below_drewN ?_ _) | (with_reducible refine Below.alloc ?_ ?_ _) | (with_reducible refine Below.drew ?_) | (with_reducible refine Below.setCell ?_ ?_ _) | (with_reducible refine Below.trans ?_ (Below.mono (by with_reducible assumption) ?_)) | go_size)))
                   rotate_left 1
                   · rfl
                   clear hex; intro hex)
                refine G.wpS_one (A := ?_) hex rfl rfl (by simp) ?_ ?_ ?_
                rotate_left 2
                · intro w' hC K hK
                  go_wp2_with (refine (HB.out _).mono ?_; rintro e wq ⟨rfl, hEq⟩)
                  refine hK _ ?_
                  first | exact Below.refl _ _ | assumption | ((repeat' (first | (with_reducible exact Below.refl _ _) | (with_reducible assumption) | (with_reducible refine below_drewN ?_ _) | (with_reducible refine Below.alloc ?_ ?_ _) | (with_reducible refine Below.drew ?_) | (with_reducible refine Below.setCell ?_ ?_ _) | (with_reducible refine Below.trans ?_ (Below.mono (by with_reducible assumption) ?_)) | go_size)))
                rotate_left 1
                · rfl
                clear hex; intro hex
                iterate 4
                  (refine G.wpS_one (A := ?_) hex rfl rfl (by simp) ?_ ?_ ?_
                   rotate_left 2
                   · intro w' hC K hK
                     go_wp2_with (fail)
                     refine hK _ ?_
                     first | exact Below.refl _ _ | assumption | ((repeat' (first | (with_reducible exact Below.refl _ _) | (with_reducible assumption) | (with_reducible refine below_drewN ?_ _) | (with_reducible refine Below.alloc ?_ ?_ _) | (with_reducible refine Below.drew ?_) | (with_reducible refine Below.setCell ?_ ?_ _) | (with_reducible refine Below.trans ?_ (Below.mono (by with_reducible assumption) ?_)) | go_size)))
                   rotate_left 1
                   · rfl
                   clear hex; intro hex)
                refine G.wpS_nil fun w4 hAll => ?_
                have HE4 := Lib.hid (bel_call HE2.out hAll.1)
                clear hAll hex HE2
                go_wp2_with fail
                go_ret2
                rw [HBV.out]
                exact ⟨rfl, HE4.out⟩
          · have d3 : decide ((i : Int) + 3 < (s.size : Int)) = false := by simp; omega
            have hh0 : hexOf (C :: rest s (i + 1 + 1)) = (0, 0) := by
              by_cases h2 : i + 2 < s.size
              · obtain ⟨X, hX⟩ := rest_uncons s (i + 1 + 1) (by omega)
                rw [hX, rest_end s _ (by omega)]; rfl
              · rw [rest_end s _ (by omega)]; rfl
            rw [hh0] at hot
            obtain ⟨rfl, rfl⟩ : b = 0 ∧ n = 0 := by cases hot; exact ⟨rfl, rfl⟩
            clear hot hh0 h120C HR
            go_wp2_with fail
            go_ret2
            exact ⟨rfl, HX0.out⟩
        · have hne : ((c : Int) == 120) = false := by
            have : c ≠ 120 := fun e => h120C (UInt8.toNat_inj.1 (by rw [HC.out, e]; rfl))
            simp; omega
          rw [if_neg h120C, pun_all c hc256] at hot
          have HL := Lib.hid (fun q hq w => rletter_any c q hq w)
          have HD := Lib.hid (fun q hq w => rdigit_any c q hq w)
          clear h120C HR HC i1 d1
          by_cases g33 : 33 ≤ c
          · have e33 : decide ((33 : Int) ≤ (c : Int)) = true := by simp; omega
            by_cases g126 : c ≤ 126
            · have e126 : decide ((c : Int) ≤ 126) = true := by simp; omega
              have k1 : decide (33 ≤ c) = true := decide_eq_true g33
              have k2 : decide (c ≤ 126) = true := decide_eq_true g126
              rw [k1, k2] at hot
              cases hlb : letB c with
              | true =>
                rw [hlb] at hot
                obtain ⟨rfl, rfl⟩ : b = 0 ∧ n = 0 := by cases hot; exact ⟨rfl, rfl⟩
                have HA := Lib.hid (HL.out true hlb)
                clear hot hlb HL HD k1 k2
                go_wp2_with fail
                refine (HA.out _).mono ?_
                rintro e w1 ⟨rfl, hE1⟩
                have HE1 := Lib.hid (bel_call HX0.out hE1)
                clear hE1
                go_wp2_with fail
                go_ret2
                exact ⟨rfl, HE1.out⟩
              | false =>
                rw [hlb] at hot
                have HA := Lib.hid (HL.out false hlb)
                cases hdb : digB c with
                | true =>
                  rw [hdb] at hot
                  obtain ⟨rfl, rfl⟩ : b = 0 ∧ n = 0 := by cases hot; exact ⟨rfl, rfl⟩
                  have HB := Lib.hid (HD.out true hdb)
                  clear hot hlb hdb HL HD k1 k2
                  go_wp2_with fail
                  refine (HA.out _).mono ?_
                  rintro e w1 ⟨rfl, hE1⟩
                  have HE1 := Lib.hid (bel_call HX0.out hE1)
                  clear hE1
                  go_wp2_with fail
                  refine (HB.out _).mono ?_
                  rintro e w2 ⟨rfl, hE2⟩
                  have HE2 := Lib.hid (bel_call HE1.out hE2)
                  clear hE2
                  go_wp2_with fail
                  go_ret2
                  exact ⟨rfl, HE2.out⟩
                | false =>
                  rw [hdb] at hot
                  obtain ⟨rfl, rfl⟩ : b = c ∧ n = 1 := by cases hot; exact ⟨rfl, rfl⟩
                  have HB := Lib.hid (HD.out false hdb)
                  clear hot hlb hdb HL HD k1 k2
                  go_wp2_with fail
                  refine (HA.out _).mono ?_
                  rintro e w1 ⟨rfl, hE1⟩
                  have HE1 := Lib.hid (bel_call HX0.out hE1)
                  clear hE1
                  go_wp2_with fail
                  refine (HB.out _).mono ?_
                  rintro e w2 ⟨rfl, hE2⟩
                  have HE2 := Lib.hid (bel_call HE1.out hE2)
                  clear hE2
                  go_wp2_with fail
                  go_ret2
                  exact ⟨rfl, HE2.out⟩
            · have e126 : decide ((c : Int) ≤ 126) = false := by simp; omega
              have k2 : decide (c ≤ 126) = false := decide_eq_false g126
              rw [k2] at hot
              simp only [Bool.and_false, Bool.false_and] at hot
              obtain ⟨rfl, rfl⟩ : b = 0 ∧ n = 0 := by cases hot; exact ⟨rfl, rfl⟩
              clear hot HL HD k2
              go_wp2_with fail
              go_ret2
              exact ⟨rfl, HX0.out⟩
          · have e33 : decide ((33 : Int) ≤ (c : Int)) = false := by simp; omega
            have k1 : decide (33 ≤ c) = false := decide_eq_false g33
            rw [k1] at hot
            simp only [Bool.false_and] at hot
            obtain ⟨rfl, rfl⟩ : b = 0 ∧ n = 0 := by cases hot; exact ⟨rfl, rfl⟩
            clear hot HL HD k1
            go_wp2_with fail
            go_ret2
            exact ⟨rfl, HX0.out⟩
end Go.Proofs.YtnecafokkhhhhaaGreatDoor
namespace Go.Proofs.YtnecafokkhhhhaaGreatDoor
open Go Go.RowKit
theorem rat_any (c a : Int) (w : World) : Calls Tryz.prog 16 #[.int .i64 c, .int .i64 a] w fun e w' => e = .returned (.agg #[.int .i64 c, .int .i64 0, .int .i64 0, .int .i64 a, .slice none 0 0]) ∧ Ext w w' := by
  have kR := Blk.new w #[.int .i64 0, .int .i64 0, .int .i64 0, .int .i64 0, .slice none 0 0] 25
  have kZ := ((((kR.set 0 (.int .i64 c)).set 1 (.int .i64 0)).set 2 (.int .i64 0)).set 3 (.int .i64 a)).set 4 (.slice none 0 0)
  obtain ⟨q0, q1, q2, q3, q4⟩ := kR.cells5
  have f0 := kR.free 0
  have f1 := kR.free 1
  have f2 := kR.free 2
  have f3 := kR.free 3
  have f4 := kR.free 4
  have hlt := kR.lt
  obtain ⟨z0, z1, z2, z3, z4⟩ := kZ.cells5
  have hx : Ext w (w.alloc (.cells #[.int .i64 0, .int .i64 0, .int .i64 0, .int .i64 0, .slice none 0 0] 25)) := by go_grown
  have HX := Lib.hid hx
  clear kR kZ hx
  go_enter Tryz.func16, Tryz.ntmps16
  go_wp2
  refine bodyPost_ret (v := .agg #[.int .i64 c, .int .i64 0, .int .i64 0, .int .i64 a, .slice none 0 0]) ?_ rfl ⟨rfl, by (repeat' (first | (with_reducible exact Below.refl _ _) | (with_reducible assumption) | (with_reducible refine below_drewN ?_ _) | (with_reducible refine Below.alloc ?_ ?_ _) | (with_reducible refine Below.drew ?_) | (with_reducible refine Below.setCell ?_ ?_ _) | (with_reducible refine Below.trans ?_ (Below.mono (by with_reducible assumption) ?_)) | go_size))⟩
  simp [results, Tryz.results16, go_sem]
def RuEnd (w w' : World) (e : Ending) : Sum Nat (List UInt8 × Nat) → Prop
  | .inl q => e = .returned (.tuple #[.string ⟨#[]⟩, .int .i64 0, .agg #[.int .i64 3, .int .i64 0, .int .i64 0, .int .i64 (q : Int), .slice none 0 0]]) ∧ Ext w w'
  | .inr (A, m) => e = .returned (.tuple #[.string ⟨A.toArray⟩, .int .i64 (m : Int), .agg #[.int .i64 0, .int .i64 0, .int .i64 0, .int .i64 0, .slice none 0 0]]) ∧ Ext w w'
set_option maxHeartbeats 2000000 in
set_option maxRecDepth 20000 in
theorem runq_any (s : ByteArray) (a : Int) (hs : s.size ≤ 4294967000) (x : Sum Nat (List UInt8 × Nat)) (hx : uqs s a = x) (w : World) :
    Calls Tryz.prog 18 #[.string s, .int .i64 a] w fun e w' => RuEnd w w' e x := by
  obtain ⟨i0, hi, hz0, hz1, hz2⟩ := info_parts info_u8
  have hx0 : Ext w (w.alloc (.cells #[.int .i64 0, .int .i64 0, .int .i64 0, .int .i64 0, .slice none 0 0] 25)) := by go_grown
  have HX0 := Lib.hid hx0
  have HB0 := Lib.hid (Blk.new w #[.int .i64 0, .int .i64 0, .int .i64 0, .int .i64 0, .slice none 0 0] 25)
  unfold uqs at hx
  by_cases h1 : a < 0 ∨ (s.size : Int) ≤ a
  · have hp : pos s a = s.size := by
      unfold pos
      split
      · rfl
      · rename_i h2
        simp only [not_or, Int.not_lt] at h2
        omega
    rw [hp, rest_end s _ (Nat.le_refl _)] at hx
    have hx2 : Sum.inl s.size = x := by rw [← hx]; rfl
    have HX := Lib.hid hx2
    clear hx hx2 hp hx0
    by_cases h2 : a < 0
    · have d1 : decide (a < 0) = true := decide_eq_true h2
      clear h1 h2
      go_enter Tryz.func18, Tryz.ntmps18
      go_wp2_with fail
      refine (rat_any 3 ((s.size : Int)) _).mono ?_
      rintro e w9 ⟨rfl, hE9⟩
      have kB := HB0.out.ext hE9
      have HG9 := Lib.hid (bel_call HX0.out hE9)
      obtain ⟨q0, q1, q2, q3, q4⟩ := kB.cells5
      have f0 := kB.free 0
      have f1 := kB.free 1
      have f2 := kB.free 2
      have f3 := kB.free 3
      have f4 := kB.free 4
      have hlt9 := kB.lt
      have kZ := ((((kB.set 0 (.int .i64 3)).set 1 (.int .i64 0)).set 2 (.int .i64 0)).set 3 (.int .i64 ((s.size : Int)))).set 4 (.slice none 0 0)
      obtain ⟨z0, z1, z2, z3, z4⟩ := kZ.cells5
      have hXE : Ext w (((((w9.setCell ⟨w.heap.size, 0, none⟩ (.int .i64 3)).setCell ⟨w.heap.size, 1, none⟩ (.int .i64 0)).setCell ⟨w.heap.size, 2, none⟩ (.int .i64 0)).setCell ⟨w.heap.size, 3, none⟩ (.int .i64 ((s.size : Int)))).setCell ⟨w.heap.size, 4, none⟩ (.slice none 0 0)) :=
        ((((HG9.out.setCell (p := ⟨w.heap.size, 0, none⟩) (Nat.le_refl _) _).setCell (p := ⟨w.heap.size, 1, none⟩) (Nat.le_refl _) _).setCell (p := ⟨w.heap.size, 2, none⟩) (Nat.le_refl _) _).setCell (p := ⟨w.heap.size, 3, none⟩) (Nat.le_refl _) _).setCell (p := ⟨w.heap.size, 4, none⟩) (Nat.le_refl _) _
      have HXE := Lib.hid hXE
      clear kB kZ hE9 hXE HG9
      go_wp2_with fail
      refine bodyPost_ret (v := .tuple #[.string ⟨#[]⟩, .int .i64 0, .agg #[.int .i64 3, .int .i64 0, .int .i64 0, .int .i64 ((s.size : Int)), .slice none 0 0]]) ?_ rfl ?_
      · simp [results, Tryz.results18, go_sem, z0, z1, z2, z3, z4]
      · rw [← HX.out]; exact ⟨rfl, HXE.out⟩
    · have d1 : decide (a < 0) = false := decide_eq_false h2
      have d2 : decide ((s.size : Int) ≤ a) = true := by simp; omega
      clear h1 h2
      go_enter Tryz.func18, Tryz.ntmps18
      go_wp2_with fail
      refine (rat_any 3 ((s.size : Int)) _).mono ?_
      rintro e w9 ⟨rfl, hE9⟩
      have kB := HB0.out.ext hE9
      have HG9 := Lib.hid (bel_call HX0.out hE9)
      obtain ⟨q0, q1, q2, q3, q4⟩ := kB.cells5
      have f0 := kB.free 0
      have f1 := kB.free 1
      have f2 := kB.free 2
      have f3 := kB.free 3
      have f4 := kB.free 4
      have hlt9 := kB.lt
      have kZ := ((((kB.set 0 (.int .i64 3)).set 1 (.int .i64 0)).set 2 (.int .i64 0)).set 3 (.int .i64 ((s.size : Int)))).set 4 (.slice none 0 0)
      obtain ⟨z0, z1, z2, z3, z4⟩ := kZ.cells5
      have hXE : Ext w (((((w9.setCell ⟨w.heap.size, 0, none⟩ (.int .i64 3)).setCell ⟨w.heap.size, 1, none⟩ (.int .i64 0)).setCell ⟨w.heap.size, 2, none⟩ (.int .i64 0)).setCell ⟨w.heap.size, 3, none⟩ (.int .i64 ((s.size : Int)))).setCell ⟨w.heap.size, 4, none⟩ (.slice none 0 0)) :=
        ((((HG9.out.setCell (p := ⟨w.heap.size, 0, none⟩) (Nat.le_refl _) _).setCell (p := ⟨w.heap.size, 1, none⟩) (Nat.le_refl _) _).setCell (p := ⟨w.heap.size, 2, none⟩) (Nat.le_refl _) _).setCell (p := ⟨w.heap.size, 3, none⟩) (Nat.le_refl _) _).setCell (p := ⟨w.heap.size, 4, none⟩) (Nat.le_refl _) _
      have HXE := Lib.hid hXE
      clear kB kZ hE9 hXE HG9
      go_wp2_with fail
      refine bodyPost_ret (v := .tuple #[.string ⟨#[]⟩, .int .i64 0, .agg #[.int .i64 3, .int .i64 0, .int .i64 0, .int .i64 ((s.size : Int)), .slice none 0 0]]) ?_ rfl ?_
      · simp [results, Tryz.results18, go_sem, z0, z1, z2, z3, z4]
      · rw [← HX.out]; exact ⟨rfl, HXE.out⟩
  · obtain ⟨i, rfl⟩ : ∃ i : Nat, a = (i : Int) := ⟨a.toNat, by omega⟩
    have hil : i < s.size := by omega
    have hp : pos s i = i := by
      unfold pos
      rw [if_neg (by omega)]; omega
    rw [hp] at hx
    obtain ⟨C, hC⟩ := rest_uncons s i hil
    have hix := idx_at s i (i : Int) rfl C _ hC
    have d1 : decide ((i : Int) < 0) = false := by simp
    have d2 : decide ((s.size : Int) ≤ (i : Int)) = false := by simp; omega
    unfold quq at hx
    rw [hC] at hx
    by_cases h34 : C = 34
    · subst h34
      rw [if_pos (by rfl)] at hx
      simp only [List.drop_succ_cons, List.drop_zero] at hx
      have HX := Lib.hid hx
      have hrl := rest_len (show i + 1 ≤ s.size by omega)
      clear hx hp h1 hx0 hC
      have d2n : decide (s.size ≤ i) = false := by simp; omega
      go_enter Tryz.func18, Tryz.ntmps18
      go_wp2_with fail
      obtain ⟨w1, hw1⟩ : ∃ w1, w.alloc (.cells #[.int .i64 0, .int .i64 0, .int .i64 0, .int .i64 0, .slice none 0 0] 25) = w1 := ⟨_, rfl⟩
      rw [hw1] at HX0 HB0 ⊢
      clear hw1 hix d1 d2 d2n
      go_loopg [7, 8] ((34 :: rest s (i + 1)).length + 1) (fun g v z wr => ∃ (A : List UInt8) (k : Nat), z = .int .i64 (k : Int) ∧ k ≤ s.size ∧ (rest s k).length < g ∧ A.length ≤ k ∧ Hid (quo unq g (rest s k) A k = x) ∧ Hid (Ext w wr) ∧ Hid (Blk wr w.heap.size #[.int .i64 0, .int .i64 0, .int .i64 0, .int .i64 0, .slice none 0 0] 25) ∧ Hid (wr.ownsRow (w.heap.size + 1) 5 1 v A.length (A.map ub)))
      case atStart => exact ⟨[], i + 1, by congr 1, by omega, by simp only [List.length_cons]; omega, by simp, HX, HX0, HB0, Lib.hid (World.ownsRow_nil _ _ _ _)⟩
      case round =>
        clear HX HX0 HB0
        obtain ⟨A, k, rfl, hk, hlen, hAl, hO, hE, hB, hown⟩ := hrel
        obtain ⟨g, rfl⟩ : ∃ g, gk = g + 1 := ⟨gk - 1, by omega⟩
        have hrk := rest_len hk
        by_cases hks : k < s.size
        · have d3 : decide ((k : Int) < (s.size : Int)) = true := by simp; omega
          obtain ⟨D, hD⟩ := rest_uncons s k hks
          have hix := idx_at s k (k : Int) rfl D _ hD
          have hx1 := hO.out
          have hdl := D.toNat_lt
          have qq : ∀ c : UInt8, D ≠ c → ((D.toNat : Int) == (c.toNat : Int)) = false := fun c hc => by
            have : D.toNat ≠ c.toNat := fun e => hc (UInt8.toNat_inj.1 e)
            simp; omega
          by_cases hq : D = 34
          · subst hq
            rw [quo, hD, if_pos (by rfl)] at hx1
            have HX := Lib.hid hx1
            have d4 : decide ((s.size : Int) ≤ (k : Int)) = false := by simp; omega
            have hcv := own_str hown.out
            have kB := hB.out
            obtain ⟨q0, q1, q2, q3, q4⟩ := kB.cells5
            have f0 := kB.free 0
            have f1 := kB.free 1
            have f2 := kB.free 2
            have f3 := kB.free 3
            have f4 := kB.free 4
            have hlt9 := kB.lt
            have hXE : Ext w (((((wr.setCell ⟨w.heap.size, 0, none⟩ (.int .i64 0)).setCell ⟨w.heap.size, 1, none⟩ (.int .i64 0)).setCell ⟨w.heap.size, 2, none⟩ (.int .i64 0)).setCell ⟨w.heap.size, 3, none⟩ (.int .i64 0)).setCell ⟨w.heap.size, 4, none⟩ (.slice none 0 0)) :=
              ((((hE.out.setCell (p := ⟨w.heap.size, 0, none⟩) (Nat.le_refl _) _).setCell (p := ⟨w.heap.size, 1, none⟩) (Nat.le_refl _) _).setCell (p := ⟨w.heap.size, 2, none⟩) (Nat.le_refl _) _).setCell (p := ⟨w.heap.size, 3, none⟩) (Nat.le_refl _) _).setCell (p := ⟨w.heap.size, 4, none⟩) (Nat.le_refl _) _
            have HXE := Lib.hid hXE
            have HKB := Lib.hid kB
            clear kB hXE hx1 hO hD hown hB hE qq hrk hlen hAl hdl
            go_wp2_with fail
            have kZ := ((((HKB.out.set 0 (.int .i64 0)).set 1 (.int .i64 0)).set 2 (.int .i64 0)).set 3 (.int .i64 0)).set 4 (.slice none 0 0)
            obtain ⟨z0, z1, z2, z3, z4⟩ := kZ.cells5
            refine bodyPost_ret (v := .tuple #[.string ⟨A.toArray⟩, .int .i64 ((k : Int) + 1), .agg #[.int .i64 0, .int .i64 0, .int .i64 0, .int .i64 0, .slice none 0 0]]) ?_ rfl ?_
            · simp [results, Tryz.results18, go_sem, z0, z1, z2, z3, z4]
            · rw [← HX.out]
              exact ⟨by rw [show ((k + 1 : Nat) : Int) = (k : Int) + 1 by omega], HXE.out⟩
          · have n34 : ((D.toNat : Int) == 34) = false := qq 34 hq
            rw [quo, hD, if_neg (by rw [pre1]; simp; exact fun e => hq e.symm)] at hx1
            by_cases h10 : D = 10
            · subst h10
              have hx2 : Sum.inl k = x := by rw [← hx1]; rfl
              have HX := Lib.hid hx2
              clear hx1 hx2 hO hD hown qq
              go_wp2_with fail
              refine (rat_any 3 ((k : Int)) _).mono ?_
              rintro e w9 ⟨rfl, hE9⟩
              have kB := hB.out.ext hE9
              have HG9 := Lib.hid (bel_call hE.out hE9)
              obtain ⟨q0, q1, q2, q3, q4⟩ := kB.cells5
              have f0 := kB.free 0
              have f1 := kB.free 1
              have f2 := kB.free 2
              have f3 := kB.free 3
              have f4 := kB.free 4
              have hlt9 := kB.lt
              have kZ := ((((kB.set 0 (.int .i64 3)).set 1 (.int .i64 0)).set 2 (.int .i64 0)).set 3 (.int .i64 ((k : Int)))).set 4 (.slice none 0 0)
              obtain ⟨z0, z1, z2, z3, z4⟩ := kZ.cells5
              have hXE : Ext w (((((w9.setCell ⟨w.heap.size, 0, none⟩ (.int .i64 3)).setCell ⟨w.heap.size, 1, none⟩ (.int .i64 0)).setCell ⟨w.heap.size, 2, none⟩ (.int .i64 0)).setCell ⟨w.heap.size, 3, none⟩ (.int .i64 ((k : Int)))).setCell ⟨w.heap.size, 4, none⟩ (.slice none 0 0)) :=
                ((((HG9.out.setCell (p := ⟨w.heap.size, 0, none⟩) (Nat.le_refl _) _).setCell (p := ⟨w.heap.size, 1, none⟩) (Nat.le_refl _) _).setCell (p := ⟨w.heap.size, 2, none⟩) (Nat.le_refl _) _).setCell (p := ⟨w.heap.size, 3, none⟩) (Nat.le_refl _) _).setCell (p := ⟨w.heap.size, 4, none⟩) (Nat.le_refl _) _
              have HXE := Lib.hid hXE
              clear kB kZ hE9 hXE HG9
              go_wp2_with fail
              refine bodyPost_ret (v := .tuple #[.string ⟨#[]⟩, .int .i64 0, .agg #[.int .i64 3, .int .i64 0, .int .i64 0, .int .i64 ((k : Int)), .slice none 0 0]]) ?_ rfl ?_
              · simp [results, Tryz.results18, go_sem, z0, z1, z2, z3, z4]
              · rw [← HX.out]; exact ⟨rfl, HXE.out⟩
            · have n10 : ((D.toNat : Int) == 10) = false := qq 10 h10
              by_cases h92 : D = 92
              · subst h92
                obtain ⟨⟨b, n⟩, hbn⟩ : ∃ y, unq (rest s (k + 1)) = y := ⟨_, rfl⟩
                have hch : chr unq [10] (92 :: rest s (k + 1)) = if n = 0 then none else some (b, n + 1) := by
                  show (if (unq (rest s (k + 1))).2 = 0 then none else some ((unq (rest s (k + 1))).1, (unq (rest s (k + 1))).2 + 1)) = _
                  rw [hbn]
                rw [hch] at hx1
                have hlb := unq_byte (rest s (k + 1))
                have hln := unq_len (rest s (k + 1))
                rw [hbn] at hlb hln
                have hrk1 := rest_len (show k + 1 ≤ s.size by omega)
                have HES := Lib.hid (rescape_any s k hs hks b n hbn wr)
                clear hch hbn hO qq
                by_cases hn : n = 0
                · subst hn
                  have hx2 : Sum.inl k = x := hx1
                  have HX := Lib.hid hx2
                  have he : escN 0 = 0 := rfl
                  rw [he] at HES
                  clear hx1 hx2 hD hown
                  go_wp2_with fail
                  refine HES.out.mono ?_
                  rintro e w3 ⟨rfl, hx3⟩
                  have hE3 := Lib.hid (bel_call hE.out hx3)
                  have hB3 := Lib.hid (hB.out.ext hx3)
                  clear hx3 HES
                  go_wp2_with fail
                  refine (rat_any 3 ((k : Int)) _).mono ?_
                  rintro e w9 ⟨rfl, hE9⟩
                  have kB := hB3.out.ext hE9
                  have HG9 := Lib.hid (bel_call hE3.out hE9)
                  obtain ⟨q0, q1, q2, q3, q4⟩ := kB.cells5
                  have f0 := kB.free 0
                  have f1 := kB.free 1
                  have f2 := kB.free 2
                  have f3 := kB.free 3
                  have f4 := kB.free 4
                  have hlt9 := kB.lt
                  have kZ := ((((kB.set 0 (.int .i64 3)).set 1 (.int .i64 0)).set 2 (.int .i64 0)).set 3 (.int .i64 ((k : Int)))).set 4 (.slice none 0 0)
                  obtain ⟨z0, z1, z2, z3, z4⟩ := kZ.cells5
                  have hXE : Ext w (((((w9.setCell ⟨w.heap.size, 0, none⟩ (.int .i64 3)).setCell ⟨w.heap.size, 1, none⟩ (.int .i64 0)).setCell ⟨w.heap.size, 2, none⟩ (.int .i64 0)).setCell ⟨w.heap.size, 3, none⟩ (.int .i64 ((k : Int)))).setCell ⟨w.heap.size, 4, none⟩ (.slice none 0 0)) :=
                    ((((HG9.out.setCell (p := ⟨w.heap.size, 0, none⟩) (Nat.le_refl _) _).setCell (p := ⟨w.heap.size, 1, none⟩) (Nat.le_refl _) _).setCell (p := ⟨w.heap.size, 2, none⟩) (Nat.le_refl _) _).setCell (p := ⟨w.heap.size, 3, none⟩) (Nat.le_refl _) _).setCell (p := ⟨w.heap.size, 4, none⟩) (Nat.le_refl _) _
                  have HXE := Lib.hid hXE
                  clear kB kZ hE9 hXE HG9
                  go_wp2_with fail
                  refine bodyPost_ret (v := .tuple #[.string ⟨#[]⟩, .int .i64 0, .agg #[.int .i64 3, .int .i64 0, .int .i64 0, .int .i64 ((k : Int)), .slice none 0 0]]) ?_ rfl ?_
                  · simp [results, Tryz.results18, go_sem, z0, z1, z2, z3, z4]
                  · rw [← HX.out]; exact ⟨rfl, HXE.out⟩
                · rw [if_neg hn] at hx1
                  have hxr : (92 :: rest s (k + 1)).drop (n + 1) = rest s (k + (n + 1)) := by rw [← hD, ← rest_drop]
                  simp only [hxr] at hx1
                  have HX := Lib.hid hx1
                  have he : escN n = (n : Int) + 1 := by unfold escN; rw [if_neg hn]
                  rw [he] at HES
                  have hne : (((n : Int) + 1) == 0) = false := by simp; omega
                  have hrl3 := rest_len (show k + (n + 1) ≤ s.size by omega)
                  clear hx1 hxr hD he
                  go_wp2_with fail
                  refine HES.out.mono ?_
                  rintro e w3 ⟨rfl, hx3⟩
                  have hE3 := Lib.hid (bel_call hE.out hx3)
                  have hB3 := Lib.hid (hB.out.ext hx3)
                  have hown3 := own_grown hown.out (grown_of_ext (row := none) hx3) (fun j hj => by cases hj)
                  have hsz3 := hB3.out.lt
                  clear hx3 HES hE hB hown
                  go_wp2_with (at_builtin; refine wpList_append_own _ rfl (.tmp 67) (.tmp 69) 58 rfl (w.heap.size + 1) 5 i0 (.int .u8 0) 1 1 Tryz.underlying58 hi hz0 hz1 hz2 rfl (by decide) _ _ _ rfl (hown3.alloc _) ⟨w3.heap.size, 0, none⟩ 1 1 [_] rfl rfl (cell_one_new _ _ _) (by intro u hu; simp at hu; subst hu; rfl) (by unfold maxLen; omega) (by omega) (by simp; omega) ?_; intro v1 w4 hown1 hgrow1 hnil1)
                  go_roundg g
                  case rel =>
                    have hx4 : Ext w (w3.alloc (.cells #[.int .u8 ((b : Int))] 5)) := bel_alloc hE3.out (Below.refl _ _) _
                    have hE4 : Ext w w4 := ⟨hgrow1.os.trans hx4.os, hgrow1.tape.trans hx4.tape, hgrow1.output.trans hx4.output, Nat.le_trans hx4.size hgrow1.size, fun j hj => (hgrow1.block j (Nat.lt_of_lt_of_le hj hx4.size) (fun e => by have := (hown3.lt j e.symm).1; omega)).trans (hx4.block j hj)⟩
                    refine ⟨A ++ [UInt8.ofNat b], k + (n + 1), by first | rfl | go_num | (congr 1; omega), by omega, by omega, by simp; omega, HX, Lib.hid hE4, Lib.hid ?_, Lib.hid ?_⟩
                    · exact (hB3.out.ext (show Ext w3 (w3.alloc (.cells #[.int .u8 ((b : Int))] 5)) from by (repeat' (first | (with_reducible exact Below.refl _ _) | (with_reducible assumption) | (with_reducible refine below_drewN ?_ _) | (with_reducible refine Below.alloc ?_ ?_ _) | (with_reducible refine Below.drew ?_) | (with_reducible refine Below.setCell ?_ ?_ _) | (with_reducible refine Below.trans ?_ (Below.mono (by with_reducible assumption) ?_)) | go_size)))).grown hgrow1 (fun e => by have := (hown3.lt _ e).1; omega)
                    · rw [List.length_append, List.map_append]
                      have e : ([UInt8.ofNat b].map ub) = [.int .u8 ((b : Int))] := by simp [ub]; try omega
                      rw [e]
                      exact hown1
                  case measure => exact Nat.lt_succ_self g
              · have n92 : ((D.toNat : Int) == 92) = false := qq 92 h92
                have hch : chr unq [10] (D :: rest s (k + 1)) = some (D.toNat, 1) := by
                  show (if D = 92 then _ else if D ∈ [10] then none else some (D.toNat, 1)) = _
                  rw [if_neg h92, if_neg (by simp; exact h10)]
                rw [hch] at hx1
                have hxr : (D :: rest s (k + 1)).drop 1 = rest s (k + 1) := rfl
                simp only [hxr] at hx1
                have HX := Lib.hid hx1
                have hrl3 := rest_len (show k + 1 ≤ s.size by omega)
                have hown3 := hown.out
                have hE3 := hE
                have hB3 := hB
                have hsz3 := hB3.out.lt
                clear hx1 hxr hch hO hD qq hown hE hB
                go_wp2_with (at_builtin; refine wpList_append_own _ rfl (.tmp 43) (.tmp 47) 58 rfl (w.heap.size + 1) 5 i0 (.int .u8 0) 1 1 Tryz.underlying58 hi hz0 hz1 hz2 rfl (by decide) _ _ _ rfl (hown3.alloc _) ⟨wr.heap.size, 0, none⟩ 1 1 [_] rfl rfl (cell_one_new _ _ _) (by intro u hu; simp at hu; subst hu; rfl) (by unfold maxLen; omega) (by omega) (by simp; omega) ?_; intro v1 w4 hown1 hgrow1 hnil1)
                go_roundg g
                case rel =>
                  have hx4 : Ext w (wr.alloc (.cells #[.int .u8 ((D.toNat : Int))] 5)) := bel_alloc hE3.out (Below.refl _ _) _
                  have hE4 : Ext w w4 := ⟨hgrow1.os.trans hx4.os, hgrow1.tape.trans hx4.tape, hgrow1.output.trans hx4.output, Nat.le_trans hx4.size hgrow1.size, fun j hj => (hgrow1.block j (Nat.lt_of_lt_of_le hj hx4.size) (fun e => by have := (hown3.lt j e.symm).1; omega)).trans (hx4.block j hj)⟩
                  refine ⟨A ++ [UInt8.ofNat D.toNat], k + 1, by first | rfl | go_num | (congr 1; omega), by omega, by omega, by simp; omega, HX, Lib.hid hE4, Lib.hid ?_, Lib.hid ?_⟩
                  · exact (hB3.out.ext (show Ext wr (wr.alloc (.cells #[.int .u8 ((D.toNat : Int))] 5)) from by (repeat' (first | (with_reducible exact Below.refl _ _) | (with_reducible assumption) | (with_reducible refine below_drewN ?_ _) | (with_reducible refine Below.alloc ?_ ?_ _) | (with_reducible refine Below.drew ?_) | (with_reducible refine Below.setCell ?_ ?_ _) | (with_reducible refine Below.trans ?_ (Below.mono (by with_reducible assumption) ?_)) | go_size)))).grown hgrow1 (fun e => by have := (hown3.lt _ e).1; omega)
                  · rw [List.length_append, List.map_append]
                    have e : ([UInt8.ofNat D.toNat].map ub) = [.int .u8 ((D.toNat : Int))] := by simp [ub]; try omega
                    rw [e]
                    exact hown1
                case measure => exact Nat.lt_succ_self g
        · obtain rfl : k = s.size := by omega
          have d3 : decide (((s.size : Nat) : Int) < (s.size : Int)) = false := by simp
          have d4 : decide ((s.size : Int) ≤ (s.size : Int)) = true := by simp
          have hx1 := hO.out
          rw [quo, rest_end s _ (Nat.le_refl _)] at hx1
          have hx2 : Sum.inl s.size = x := by rw [← hx1]; rfl
          have HX := Lib.hid hx2
          clear hx1 hx2 hO hown
          go_wp2_with fail
          refine (rat_any 3 ((s.size : Int)) _).mono ?_
          rintro e w9 ⟨rfl, hE9⟩
          have kB := hB.out.ext hE9
          have HG9 := Lib.hid (bel_call hE.out hE9)
          obtain ⟨q0, q1, q2, q3, q4⟩ := kB.cells5
          have f0 := kB.free 0
          have f1 := kB.free 1
          have f2 := kB.free 2
          have f3 := kB.free 3
          have f4 := kB.free 4
          have hlt9 := kB.lt
          have kZ := ((((kB.set 0 (.int .i64 3)).set 1 (.int .i64 0)).set 2 (.int .i64 0)).set 3 (.int .i64 ((s.size : Int)))).set 4 (.slice none 0 0)
          obtain ⟨z0, z1, z2, z3, z4⟩ := kZ.cells5
          have hXE : Ext w (((((w9.setCell ⟨w.heap.size, 0, none⟩ (.int .i64 3)).setCell ⟨w.heap.size, 1, none⟩ (.int .i64 0)).setCell ⟨w.heap.size, 2, none⟩ (.int .i64 0)).setCell ⟨w.heap.size, 3, none⟩ (.int .i64 ((s.size : Int)))).setCell ⟨w.heap.size, 4, none⟩ (.slice none 0 0)) :=
            ((((HG9.out.setCell (p := ⟨w.heap.size, 0, none⟩) (Nat.le_refl _) _).setCell (p := ⟨w.heap.size, 1, none⟩) (Nat.le_refl _) _).setCell (p := ⟨w.heap.size, 2, none⟩) (Nat.le_refl _) _).setCell (p := ⟨w.heap.size, 3, none⟩) (Nat.le_refl _) _).setCell (p := ⟨w.heap.size, 4, none⟩) (Nat.le_refl _) _
          have HXE := Lib.hid hXE
          clear kB kZ hE9 hXE HG9
          go_wp2_with fail
          refine bodyPost_ret (v := .tuple #[.string ⟨#[]⟩, .int .i64 0, .agg #[.int .i64 3, .int .i64 0, .int .i64 0, .int .i64 ((s.size : Int)), .slice none 0 0]]) ?_ rfl ?_
          · simp [results, Tryz.results18, go_sem, z0, z1, z2, z3, z4]
          · rw [← HX.out]; exact ⟨rfl, HXE.out⟩
    · have n34 : ((C.toNat : Int) == 34) = false := by
        have : C.toNat ≠ (34 : UInt8).toNat := fun e => h34 (UInt8.toNat_inj.1 e)
        have h0 : (34 : UInt8).toNat = 34 := rfl
        simp; omega
      rw [if_neg (by rw [pre1]; simp; exact fun e => h34 e.symm)] at hx
      have HX := Lib.hid hx
      clear hx hp h1 hx0 hC h34
      go_enter Tryz.func18, Tryz.ntmps18
      go_wp2_with fail
      refine (rat_any 3 ((i : Int)) _).mono ?_
      rintro e w9 ⟨rfl, hE9⟩
      have kB := HB0.out.ext hE9
      have HG9 := Lib.hid (bel_call HX0.out hE9)
      obtain ⟨q0, q1, q2, q3, q4⟩ := kB.cells5
      have f0 := kB.free 0
      have f1 := kB.free 1
      have f2 := kB.free 2
      have f3 := kB.free 3
      have f4 := kB.free 4
      have hlt9 := kB.lt
      have kZ := ((((kB.set 0 (.int .i64 3)).set 1 (.int .i64 0)).set 2 (.int .i64 0)).set 3 (.int .i64 ((i : Int)))).set 4 (.slice none 0 0)
      obtain ⟨z0, z1, z2, z3, z4⟩ := kZ.cells5
      have hXE : Ext w (((((w9.setCell ⟨w.heap.size, 0, none⟩ (.int .i64 3)).setCell ⟨w.heap.size, 1, none⟩ (.int .i64 0)).setCell ⟨w.heap.size, 2, none⟩ (.int .i64 0)).setCell ⟨w.heap.size, 3, none⟩ (.int .i64 ((i : Int)))).setCell ⟨w.heap.size, 4, none⟩ (.slice none 0 0)) :=
        ((((HG9.out.setCell (p := ⟨w.heap.size, 0, none⟩) (Nat.le_refl _) _).setCell (p := ⟨w.heap.size, 1, none⟩) (Nat.le_refl _) _).setCell (p := ⟨w.heap.size, 2, none⟩) (Nat.le_refl _) _).setCell (p := ⟨w.heap.size, 3, none⟩) (Nat.le_refl _) _).setCell (p := ⟨w.heap.size, 4, none⟩) (Nat.le_refl _) _
      have HXE := Lib.hid hXE
      clear kB kZ hE9 hXE HG9
      go_wp2_with fail
      refine bodyPost_ret (v := .tuple #[.string ⟨#[]⟩, .int .i64 0, .agg #[.int .i64 3, .int .i64 0, .int .i64 0, .int .i64 ((i : Int)), .slice none 0 0]]) ?_ rfl ?_
      · simp [results, Tryz.results18, go_sem, z0, z1, z2, z3, z4]
      · rw [← HX.out]; exact ⟨rfl, HXE.out⟩
end Go.Proofs.YtnecafokkhhhhaaGreatDoor
namespace Go.Proofs.YtnecafokkhhhhaaGreatDoor
open Go Go.RowKit
theorem pre_take (l p : List UInt8) : Lib.hasPrefix l p = decide (l.take p.length = p) := by
  unfold Lib.hasPrefix
  rw [Bool.eq_iff_iff, List.isPrefixOf_iff_prefix, decide_eq_true_eq]
  constructor
  · intro h; exact (List.prefix_iff_eq_take.1 h).symm
  · intro h; exact List.prefix_iff_eq_take.2 h.symm
theorem ext_list (s : ByteArray) (i n : Nat) : (s.extract i (i + n)).data.toList = (rest s i).take n := by
  rw [ByteArray.data_extract, Array.toList_extract, List.extract_eq_take_drop]
  unfold rest
  rw [show i + n - i = n by omega]
theorem has_no {s p : ByteArray} {i : Nat} (hi : i ≤ s.size) (h : s.size < i + p.size) : Lib.hasPrefix (rest s i) p.data.toList = false := by
  cases hx : Lib.hasPrefix (rest s i) p.data.toList with
  | false => rfl
  | true =>
    have h1 := (List.isPrefixOf_iff_prefix.1 hx).length_le
    have h2 := rest_len hi
    rw [Array.length_toList] at h1
    have : p.data.size = p.size := rfl
    omega
set_option maxRecDepth 20000 in
theorem rhasp_any (s p : ByteArray) (i : Nat) (hi : i ≤ s.size) (hs : s.size ≤ 4294967000) (hp : p.size ≤ 100) (q : Bool) (hq : Lib.hasPrefix (rest s i) p.data.toList = q) (w : World) :
    Calls Tryz.prog 64 #[.string s, .int .i64 (i : Int), .string p] w fun e w' => e = .returned (.bool q) ∧ Ext w w' := by
  by_cases hl : i + p.size ≤ s.size
  · have d1 : decide ((i : Int) + (p.size : Int) ≤ (s.size : Int)) = true := by simp; omega
    have heq : ((s.extract i (i + p.size)).toList == p.toList) = q := by
      rw [ByteArray.toList_eq, ByteArray.toList_eq, ext_list, ← hq, pre_take, Array.length_toList]
      show (List.take p.data.size (rest s i) == p.data.toList) = _
      by_cases h : List.take p.data.size (rest s i) = p.data.toList
      · rw [decide_eq_true h]; exact beq_iff_eq.2 h
      · rw [decide_eq_false h]; exact beq_eq_false_iff_ne.2 h
    go_enter Tryz.func64, Tryz.ntmps64
    go_wp2
    go_ret
    exact ⟨rfl, by go_grown⟩
  · have d1 : decide ((i : Int) + (p.size : Int) ≤ (s.size : Int)) = false := by simp; omega
    rw [has_no hi (by omega)] at hq
    subst hq
    go_enter Tryz.func64, Tryz.ntmps64
    go_wp2
    go_ret
    exact ⟨rfl, by go_grown⟩
end Go.Proofs.YtnecafokkhhhhaaGreatDoor
namespace Go.Proofs.YtnecafokkhhhhaaGreatDoor
open Go Go.RowKit
theorem nmd_some {t : List UInt8} {S : BitVec 256} (h : nmd t = some S) : 3 ≤ t.length ∧ t.length ≤ 6 ∧ (58 : UInt8) ∉ t := by
  unfold nmd at h
  by_cases e0 : t = [100, 105, 103, 105, 116]
  · subst e0; exact ⟨by decide, by decide, by decide⟩
  rw [if_neg e0] at h
  by_cases e1 : t = [108, 111, 119, 101, 114]
  · subst e1; exact ⟨by decide, by decide, by decide⟩
  rw [if_neg e1] at h
  by_cases e2 : t = [117, 112, 112, 101, 114]
  · subst e2; exact ⟨by decide, by decide, by decide⟩
  rw [if_neg e2] at h
  by_cases e3 : t = [97, 108, 112, 104, 97]
  · subst e3; exact ⟨by decide, by decide, by decide⟩
  rw [if_neg e3] at h
  by_cases e4 : t = [97, 108, 110, 117, 109]
  · subst e4; exact ⟨by decide, by decide, by decide⟩
  rw [if_neg e4] at h
  by_cases e5 : t = [119, 111, 114, 100]
  · subst e5; exact ⟨by decide, by decide, by decide⟩
  rw [if_neg e5] at h
  by_cases e6 : t = [120, 100, 105, 103, 105, 116]
  · subst e6; exact ⟨by decide, by decide, by decide⟩
  rw [if_neg e6] at h
  by_cases e7 : t = [98, 108, 97, 110, 107]
  · subst e7; exact ⟨by decide, by decide, by decide⟩
  rw [if_neg e7] at h
  by_cases e8 : t = [115, 112, 97, 99, 101]
  · subst e8; exact ⟨by decide, by decide, by decide⟩
  rw [if_neg e8] at h
  by_cases e9 : t = [112, 117, 110, 99, 116]
  · subst e9; exact ⟨by decide, by decide, by decide⟩
  rw [if_neg e9] at h
  by_cases e10 : t = [112, 114, 105, 110, 116]
  · subst e10; exact ⟨by decide, by decide, by decide⟩
  rw [if_neg e10] at h
  by_cases e11 : t = [99, 110, 116, 114, 108]
  · subst e11; exact ⟨by decide, by decide, by decide⟩
  rw [if_neg e11] at h
  by_cases e12 : t = [97, 110, 121]
  · subst e12; exact ⟨by decide, by decide, by decide⟩
  rw [if_neg e12] at h
  cases h
theorem occ_take {m : List UInt8} {j n : Nat} (h : Lib.occAt m [58, 93] j = true) (hj : j < n) : (58 : UInt8) ∈ m.take n := by
  unfold Lib.occAt at h
  have h1 := List.isPrefixOf_iff_prefix.1 h
  obtain ⟨t, ht⟩ := h1
  have e : (m.take n).drop j = (m.drop j).take (n - j) := by rw [List.drop_take]
  have hm : (58 : UInt8) ∈ (m.take n).drop j := by
    rw [e, ← ht]
    obtain ⟨q, hq⟩ : ∃ q, n - j = q + 1 := ⟨n - j - 1, by omega⟩
    rw [hq]
    simp
  exact List.mem_of_mem_drop hm
theorem nmq_hit (l : List UInt8) (n : Nat) (S : BitVec 256) (hp : Lib.hasPrefix ((l.drop 2).drop n) [58, 93] = true) (hn : nmd ((l.drop 2).take n) = some S) : nmq l = .inr (S, n + 4) := by
  generalize hm : l.drop 2 = m at hp hn
  have hle : n ≤ m.length := by
    rcases Nat.lt_or_ge m.length n with h | h
    · rw [List.drop_eq_nil_of_le (by omega)] at hp; cases hp
    · exact h
  have hno : ∀ j, j < n → Lib.occAt m [58, 93] j = false := by
    intro j hj
    cases ho : Lib.occAt m [58, 93] j with
    | false => rfl
    | true => exact absurd (occ_take ho hj) (nmd_some hn).2.2
  have hi : Lib.index m [58, 93] = (n : Int) := Lib.index_first hle hp hno
  have hc : Lib.cut m [58, 93] = (m.take n, m.drop (n + 2), true) := by
    unfold Lib.cut
    rw [hi, if_pos (by omega)]
    rfl
  unfold nmq
  rw [hm, hc]
  simp only [hn, if_true, List.length_take]
  rw [Nat.min_eq_left hle]
theorem nmq_miss (l : List UInt8) (h : ∀ n, 1 ≤ n → n < 8 → Lib.hasPrefix ((l.drop 2).drop n) [58, 93] = true → nmd ((l.drop 2).take n) = none) : nmq l = .inl 0 := by
  generalize hm : l.drop 2 = m at h
  unfold nmq
  rw [hm]
  rcases Lib.index_spec m [58, 93] with ⟨h1, _⟩ | ⟨i, h1, h2, h3, _⟩
  · have hc : Lib.cut m [58, 93] = (m, [], false) := by unfold Lib.cut; rw [h1]; rfl
    rw [hc]
    simp only []
    cases nmd m <;> rfl
  · have hc : Lib.cut m [58, 93] = (m.take i, m.drop (i + 2), true) := by
      unfold Lib.cut
      rw [h1, if_pos (by omega)]
      rfl
    rw [hc]
    cases hS : nmd (m.take i) with
    | none => rfl
    | some S =>
      exfalso
      have hl := nmd_some hS
      rw [List.length_take, Nat.min_eq_left h2] at hl
      rw [h i (by omega) (by omega) h3] at hS
      cases hS
end Go.Proofs.YtnecafokkhhhhaaGreatDoor
namespace Go.Proofs.YtnecafokkhhhhaaGreatDoor
open Go Go.RowKit
abbrev rcs (s : ByteArray) (i o : Nat) (c q : Int) : Array Value := #[.string s, .int .i64 (i : Int), .int .i64 (o : Int), .int .i64 c, .int .i64 0, .int .i64 0, .int .i64 q, .slice none 0 0]
/-- The reader's state: text, place, how many classes are open, the refusal. -/
structure RR (w : World) (r : Nat) (s : ByteArray) (i o : Nat) (c q : Int) : Prop where
  blk : Blk w r (rcs s i o c q) 93
  sz : s.size ≤ 4294967000
theorem RR.ext {w w' : World} {r : Nat} {s : ByteArray} {i o : Nat} {c q : Int} (h : RR w r s i o c q) (hx : Ext w w') : RR w' r s i o c q := ⟨h.blk.ext hx, h.sz⟩
theorem RR.grown {w w' : World} {r : Nat} {s : ByteArray} {i o : Nat} {c q : Int} (h : RR w r s i o c q) {row : Option Nat} (hg : w.grownBy w' row) (hne : row ≠ some r) : RR w' r s i o c q := ⟨h.blk.grown hg hne, h.sz⟩
theorem RR.at {w : World} {r : Nat} {s : ByteArray} {i o : Nat} {c q : Int} (h : RR w r s i o c q) (j : Nat) (z : Int) (hz : z = j) : RR (w.setCell ⟨r, 1, none⟩ (.int .i64 z)) r s j o c q := by
  subst hz
  exact ⟨h.blk.set 1 (.int .i64 (j : Int)), h.sz⟩
theorem RR.open {w : World} {r : Nat} {s : ByteArray} {i o : Nat} {c q : Int} (h : RR w r s i o c q) (j : Nat) (z : Int) (hz : z = j) : RR (w.setCell ⟨r, 2, none⟩ (.int .i64 z)) r s i j c q := by
  subst hz
  exact ⟨h.blk.set 2 (.int .i64 (j : Int)), h.sz⟩
theorem rok_any (r : Nat) (s : ByteArray) (i o : Nat) (c q : Int) (w : World) (h : RR w r s i o c q) (b : Bool) (hb : (c == 0) = b) :
    Calls Tryz.prog 42 #[.pointer (some ⟨r, 0, none⟩)] w fun e w' => e = .returned (.bool b) ∧ Ext w w' := by
  have c3 := h.blk.cell 3
  go_enter Tryz.func42, Tryz.ntmps42
  go_wp2
  go_ret
  exact ⟨rfl, by go_grown⟩
set_option maxHeartbeats 1000000 in
theorem rrefuse_any (r : Nat) (s : ByteArray) (i o : Nat) (c q : Int) (w : World) (h : RR w r s i o 0 0) :
    Calls Tryz.prog 65 #[.pointer (some ⟨r, 0, none⟩), .int .i64 c, .int .i64 q] w fun e w' => e = .returned (.tuple #[]) ∧ w.grownBy w' (some r) ∧ RR w' r s i o c q := by
  have HH := Lib.hid h
  have c3 := h.blk.cell 3
  clear h
  go_enter Tryz.func65, Tryz.ntmps65
  go_wp2_with fail
  refine (rat_any c q _).mono ?_
  rintro e w1 ⟨rfl, hx⟩
  have h1 := HH.out.blk.ext hx
  have HG := Lib.hid (grown_of_ext (row := some r) hx)
  have HB := Lib.hid h1
  have hlt := h1.lt
  clear c3 hx
  have k3 := h1.cell 3
  have k4 := h1.cell 4
  have k5 := h1.cell 5
  have k6 := h1.cell 6
  have k7 := h1.cell 7
  have f3 := h1.free 3
  have f4 := h1.free 4
  have f5 := h1.free 5
  have f6 := h1.free 6
  have f7 := h1.free 7
  clear h1
  go_wp2_with fail
  go_end0
  exact ⟨rfl, grown_trans HG.out (grown_trans (grown_trans (grown_trans (grown_trans (grown_set _ _ _ _) (grown_set _ _ _ _)) (grown_set _ _ _ _)) (grown_set _ _ _ _)) (grown_set _ _ _ _)), ⟨((((HB.out.set 3 (.int .i64 c)).set 4 (.int .i64 0)).set 5 (.int .i64 0)).set 6 (.int .i64 q)).set 7 (.slice none 0 0), HH.out.sz⟩⟩
/-- What 'char' answers. -/
def RcEnd (w w' : World) (r : Nat) (s : ByteArray) (i o : Nat) (e : Ending) : Option (Nat × Nat) → Prop
  | none => ∃ b : Nat, b < 256 ∧ e = .returned (.int .u8 (b : Int)) ∧ w.grownBy w' (some r) ∧ RR w' r s i o 3 (i : Int)
  | some (b, n) => e = .returned (.int .u8 (b : Int)) ∧ w.grownBy w' (some r) ∧ RR w' r s (i + n) o 0 0
set_option maxHeartbeats 1000000 in
set_option maxRecDepth 20000 in
theorem rchar_any (r : Nat) (s : ByteArray) (i o : Nat) (w : World) (h : RR w r s i o 0 0) (hi : i ≤ s.size) (x : Option (Nat × Nat)) (hx : chr unq marks.data.toList (rest s i) = x) :
    Calls Tryz.prog 88 #[.pointer (some ⟨r, 0, none⟩)] w fun e w' => RcEnd w w' r s i o e x := by
  have hsz := h.sz
  have HH := Lib.hid h
  clear h
  by_cases hs : i < s.size
  · obtain ⟨C, hC⟩ := rest_uncons s i hs
    have hix := idx_at s i (i : Int) rfl C _ hC
    have d1 : decide ((s.size : Int) ≤ (i : Int)) = false := by simp; omega
    have d1n : decide (s.size ≤ i) = false := by simp; omega
    rw [hC] at hx
    have qq : ∀ c : UInt8, C ≠ c → ((C.toNat : Int) == (c.toNat : Int)) = false := fun c hc => by
      have : C.toNat ≠ c.toNat := fun e => hc (UInt8.toNat_inj.1 e)
      simp; omega
    have hcl := C.toNat_lt
    by_cases h92 : C = 92
    · subst h92
      obtain ⟨⟨b, n⟩, hbn⟩ : ∃ y, unq (rest s (i + 1)) = y := ⟨_, rfl⟩
      have hch : chr unq marks.data.toList (92 :: rest s (i + 1)) = if n = 0 then none else some (b, n + 1) := by
        show (if (unq (rest s (i + 1))).2 = 0 then none else some ((unq (rest s (i + 1))).1, (unq (rest s (i + 1))).2 + 1)) = _
        rw [hbn]
      rw [hch] at hx
      have hlb := unq_byte (rest s (i + 1))
      have hln := unq_len (rest s (i + 1))
      rw [hbn] at hlb hln
      have hrl := rest_len (show i + 1 ≤ s.size by omega)
      have HES := Lib.hid (fun w => rescape_any s i hsz hs b n hbn w)
      have HX := Lib.hid hx
      clear hch hbn hx qq hC
      go_enter Tryz.func88, Tryz.ntmps88
      go_wp2_with fail
      refine G.wp_region_stab (G := Ext) (fun _ => none) (by kernel_rfl) (by kernel_rfl) (fun _ _ h => by cases h) (fun hex => ?_)
      iterate 10
        (refine G.wpS_one (A := ?_) hex rfl rfl (by simp) ?_ ?_ ?_
         rotate_left 2
         · intro w' hC K hK
           have d0 := (HH.out.blk.ext hC.1).cell 0; have d1 := (HH.out.blk.ext hC.1).cell 1
           go_wp2_with (fail)
           refine hK _ ?_
           first | exact Below.refl _ _ | assumption | ((repeat' (first | (with_reducible exact Below.refl _ _) | (with_reducible assumption) | (with_reducible refine below_drewN ?_ _) | (with_reducible refine Below.alloc ?_ ?_ _) | (with_reducible refine Below.drew ?_) | (with_reducible refine Below.setCell ?_ ?_ _) | (with_reducible refine Below.trans ?_ (Below.mono (by with_reducible assumption) ?_)) | go_size)))
         rotate_left 1
         · rfl
         clear hex; intro hex)
      refine G.wpS_nil fun w1 hAll => ?_
      have hE := hAll.1
      have H1 := Lib.hid (HH.out.ext hE)
      have E1 := Lib.hid hE
      clear hE hex hAll
      go_wp2_with fail
      refine G.wp_region_stab (G := Ext) (fun _ => none) (by kernel_rfl) (by kernel_rfl) (fun _ _ h => by cases h) (fun hex => ?_)
      iterate 10
        (refine G.wpS_one (A := ?_) hex rfl rfl (by simp) ?_ ?_ ?_
         rotate_left 2
         · intro w' hC K hK
           have d0 := (H1.out.blk.ext hC.1).cell 0; have d1 := (H1.out.blk.ext hC.1).cell 1
           go_wp2_with (fail)
           refine hK _ ?_
           first | exact Below.refl _ _ | assumption | ((repeat' (first | (with_reducible exact Below.refl _ _) | (with_reducible assumption) | (with_reducible refine below_drewN ?_ _) | (with_reducible refine Below.alloc ?_ ?_ _) | (with_reducible refine Below.drew ?_) | (with_reducible refine Below.setCell ?_ ?_ _) | (with_reducible refine Below.trans ?_ (Below.mono (by with_reducible assumption) ?_)) | go_size)))
         rotate_left 1
         · rfl
         clear hex; intro hex)
      refine G.wpS_nil fun w2 hAll => ?_
      have hE := hAll.1
      have H2 := Lib.hid (H1.out.ext hE)
      have E2 := Lib.hid (bel_call E1.out hE)
      clear hE hex hAll H1 E1 d1 d1n hix
      go_wp2_with fail
      refine G.wp_region_stab (G := Ext) (fun _ => none) (by kernel_rfl) (by kernel_rfl) (fun _ _ h => by cases h) (fun hex => ?_)
      iterate 14
        (refine G.wpS_one (A := ?_) hex rfl rfl (by simp) ?_ ?_ ?_
         rotate_left 2
         · intro w' hC K hK
           have d0 := (H2.out.blk.ext hC.1).cell 0; have d1 := (H2.out.blk.ext hC.1).cell 1
           go_wp2_with (refine (HES.out _).mono ?_; rintro e wq ⟨rfl, hEq⟩)
           refine hK _ ?_
           first | exact Below.refl _ _ | assumption | ((repeat' (first | (with_reducible exact Below.refl _ _) | (with_reducible assumption) | (with_reducible refine below_drewN ?_ _) | (with_reducible refine Below.alloc ?_ ?_ _) | (with_reducible refine Below.drew ?_) | (with_reducible refine Below.setCell ?_ ?_ _) | (with_reducible refine Below.trans ?_ (Below.mono (by with_reducible assumption) ?_)) | go_size)))
         rotate_left 1
         · rfl
         clear hex; intro hex)
      refine G.wpS_nil fun w3 hAll => ?_
      have hE := hAll.1
      have H3 := Lib.hid (H2.out.ext hE)
      have E3 := Lib.hid (grown_of_ext (row := some r) (bel_call E2.out hE))
      clear hE hex hAll H2 E2
      by_cases hn : n = 0
      · subst hn
        have he : escN 0 = 0 := rfl
        rw [if_pos rfl] at HX
        simp only [he]
        have k1 := H3.out.blk.cell 1
        clear HES he hln
        go_wp2_with fail
        refine (rrefuse_any r s _ o 3 ((i : Int)) _ H3.out).mono ?_
        rintro e w9 ⟨rfl, hG9, hR9⟩
        have HG9 := Lib.hid (grown_trans E3.out hG9)
        have HR9 := Lib.hid hR9
        clear hG9 hR9
        clear k1
        have k1 := HR9.out.blk.cell 1
        have f1 := HR9.out.blk.free 1
        have hlt := HR9.out.blk.lt
        go_wp2_with fail
        go_ret
        rw [← HX.out]
        exact ⟨b, hlb, rfl, grown_trans HG9.out (grown_set _ _ _ _), HR9.out.at i _ rfl⟩
      · have he : escN n = (n : Int) + 1 := by unfold escN; rw [if_neg hn]
        rw [if_neg hn] at HX
        simp only [he]
        have hne : (((n : Int) + 1) == 0) = false := by simp; omega
        have k1 := H3.out.blk.cell 1
        have f1 := H3.out.blk.free 1
        have hlt := H3.out.blk.lt
        clear HES he
        go_wp2_with fail
        go_ret
        rw [← HX.out]
        exact ⟨rfl, grown_trans E3.out (grown_set _ _ _ _), H3.out.at (i + (n + 1)) _ (by omega)⟩
    · have n92 : ((C.toNat : Int) == 92) = false := qq 92 h92
      have hch : chr unq marks.data.toList (C :: rest s (i + 1)) = if C ∈ marks.data.toList then none else some (C.toNat, 1) := by
        show (if C = 92 then _ else if C ∈ marks.data.toList then none else some (C.toNat, 1)) = _
        rw [if_neg h92]
      rw [hch] at hx
      have HX := Lib.hid hx
      by_cases hm : C ∈ marks.data.toList
      · have hx2 := HX.out
        rw [if_pos hm] at hx2
        have HX := Lib.hid hx2
        have hmm : C = 91 ∨ C = 93 ∨ C = 45 ∨ C = 10 := by simpa [marks] using hm
        clear hch hx hx2 qq hC hm h92
        rcases hmm with rfl | rfl | rfl | rfl
        all_goals (
          go_enter Tryz.func88, Tryz.ntmps88
          go_wp2_with fail
          refine G.wp_region_stab (G := Ext) (fun _ => none) (by kernel_rfl) (by kernel_rfl) (fun _ _ h => by cases h) (fun hex => ?_)
          iterate 10
            (refine G.wpS_one (A := ?_) hex rfl rfl (by simp) ?_ ?_ ?_
             rotate_left 2
             · intro w' hC K hK
               have d0 := (HH.out.blk.ext hC.1).cell 0; have d1 := (HH.out.blk.ext hC.1).cell 1
               go_wp2_with (fail)
               refine hK _ ?_
               first | exact Below.refl _ _ | assumption | ((repeat' (first | (with_reducible exact Below.refl _ _) | (with_reducible assumption) | (with_reducible refine below_drewN ?_ _) | (with_reducible refine Below.alloc ?_ ?_ _) | (with_reducible refine Below.drew ?_) | (with_reducible refine Below.setCell ?_ ?_ _) | (with_reducible refine Below.trans ?_ (Below.mono (by with_reducible assumption) ?_)) | go_size)))
             rotate_left 1
             · rfl
             clear hex; intro hex)
          refine G.wpS_nil fun w1 hAll => ?_
          have hE := hAll.1
          have H1 := Lib.hid (HH.out.ext hE)
          have E1 := Lib.hid hE
          clear hE hex hAll
          go_wp2_with fail
          refine G.wp_region_stab (G := Ext) (fun _ => none) (by kernel_rfl) (by kernel_rfl) (fun _ _ h => by cases h) (fun hex => ?_)
          iterate 10
            (refine G.wpS_one (A := ?_) hex rfl rfl (by simp) ?_ ?_ ?_
             rotate_left 2
             · intro w' hC K hK
               have d0 := (H1.out.blk.ext hC.1).cell 0; have d1 := (H1.out.blk.ext hC.1).cell 1
               go_wp2_with (fail)
               refine hK _ ?_
               first | exact Below.refl _ _ | assumption | ((repeat' (first | (with_reducible exact Below.refl _ _) | (with_reducible assumption) | (with_reducible refine below_drewN ?_ _) | (with_reducible refine Below.alloc ?_ ?_ _) | (with_reducible refine Below.drew ?_) | (with_reducible refine Below.setCell ?_ ?_ _) | (with_reducible refine Below.trans ?_ (Below.mono (by with_reducible assumption) ?_)) | go_size)))
             rotate_left 1
             · rfl
             clear hex; intro hex)
          refine G.wpS_nil fun w2 hAll => ?_
          have hE := hAll.1
          have H2 := Lib.hid (H1.out.ext hE)
          have E2 := Lib.hid (grown_of_ext (row := some r) (bel_call E1.out hE))
          clear hE hex hAll H1 E1 d1 d1n hix
          have k1 := H2.out.blk.cell 1
          go_wp2_with fail
          refine (rrefuse_any r s _ o 3 ((i : Int)) _ H2.out).mono ?_
          rintro e w9 ⟨rfl, hG9, hR9⟩
          have HG9 := Lib.hid (grown_trans E2.out hG9)
          have HR9 := Lib.hid hR9
          clear hG9 hR9
          go_wp2_with fail
          go_ret
          rw [← HX.out]
          exact ⟨0, by omega, rfl, HG9.out, HR9.out⟩)
      · have hx2 := HX.out
        rw [if_neg hm] at hx2
        have HX := Lib.hid hx2
        have hmm : C ≠ 91 ∧ C ≠ 93 ∧ C ≠ 45 ∧ C ≠ 10 := by simpa [marks] using hm
        have n91 : ((C.toNat : Int) == 91) = false := qq 91 hmm.1
        have n93 : ((C.toNat : Int) == 93) = false := qq 93 hmm.2.1
        have n45 : ((C.toNat : Int) == 45) = false := qq 45 hmm.2.2.1
        have n10 : ((C.toNat : Int) == 10) = false := qq 10 hmm.2.2.2
        clear hch hx hx2 qq hC hm h92 hmm
        go_enter Tryz.func88, Tryz.ntmps88
        go_wp2_with fail
        refine G.wp_region_stab (G := Ext) (fun _ => none) (by kernel_rfl) (by kernel_rfl) (fun _ _ h => by cases h) (fun hex => ?_)
        iterate 10
          (refine G.wpS_one (A := ?_) hex rfl rfl (by simp) ?_ ?_ ?_
           rotate_left 2
           · intro w' hC K hK
             have d0 := (HH.out.blk.ext hC.1).cell 0; have d1 := (HH.out.blk.ext hC.1).cell 1
             go_wp2_with (fail)
             refine hK _ ?_
             first | exact Below.refl _ _ | assumption | ((repeat' (first | (with_reducible exact Below.refl _ _) | (with_reducible assumption) | (with_reducible refine below_drewN ?_ _) | (with_reducible refine Below.alloc ?_ ?_ _) | (with_reducible refine Below.drew ?_) | (with_reducible refine Below.setCell ?_ ?_ _) | (with_reducible refine Below.trans ?_ (Below.mono (by with_reducible assumption) ?_)) | go_size)))
           rotate_left 1
           · rfl
           clear hex; intro hex)
        refine G.wpS_nil fun w1 hAll => ?_
        have hE := hAll.1
        have H1 := Lib.hid (HH.out.ext hE)
        have E1 := Lib.hid hE
        clear hE hex hAll
        go_wp2_with fail
        refine G.wp_region_stab (G := Ext) (fun _ => none) (by kernel_rfl) (by kernel_rfl) (fun _ _ h => by cases h) (fun hex => ?_)
        iterate 10
          (refine G.wpS_one (A := ?_) hex rfl rfl (by simp) ?_ ?_ ?_
           rotate_left 2
           · intro w' hC K hK
             have d0 := (H1.out.blk.ext hC.1).cell 0; have d1 := (H1.out.blk.ext hC.1).cell 1
             go_wp2_with (fail)
             refine hK _ ?_
             first | exact Below.refl _ _ | assumption | ((repeat' (first | (with_reducible exact Below.refl _ _) | (with_reducible assumption) | (with_reducible refine below_drewN ?_ _) | (with_reducible refine Below.alloc ?_ ?_ _) | (with_reducible refine Below.drew ?_) | (with_reducible refine Below.setCell ?_ ?_ _) | (with_reducible refine Below.trans ?_ (Below.mono (by with_reducible assumption) ?_)) | go_size)))
           rotate_left 1
           · rfl
           clear hex; intro hex)
        refine G.wpS_nil fun w2 hAll => ?_
        have hE := hAll.1
        have H2 := Lib.hid (H1.out.ext hE)
        have E2 := Lib.hid (grown_of_ext (row := some r) (bel_call E1.out hE))
        clear hE hex hAll H1 E1 d1 d1n hix
        have k1 := H2.out.blk.cell 1
        have f1 := H2.out.blk.free 1
        have hlt := H2.out.blk.lt
        go_wp2_with fail
        go_ret
        rw [← HX.out]
        exact ⟨rfl, grown_trans E2.out (grown_set _ _ _ _), H2.out.at (i + 1) _ (by omega)⟩
  · obtain rfl : i = s.size := by omega
    have d1 : decide ((s.size : Int) ≤ (s.size : Int)) = true := by simp
    rw [rest_end s _ (Nat.le_refl _)] at hx
    have HX := Lib.hid (show none = x from hx)
    clear hx hs
    go_enter Tryz.func88, Tryz.ntmps88
    go_wp2_with fail
    refine G.wp_region_stab (G := Ext) (fun _ => none) (by kernel_rfl) (by kernel_rfl) (fun _ _ h => by cases h) (fun hex => ?_)
    iterate 10
      (refine G.wpS_one (A := ?_) hex rfl rfl (by simp) ?_ ?_ ?_
       rotate_left 2
       · intro w' hC K hK
         have d0 := (HH.out.blk.ext hC.1).cell 0; have d1 := (HH.out.blk.ext hC.1).cell 1
         go_wp2_with (fail)
         refine hK _ ?_
         first | exact Below.refl _ _ | assumption | ((repeat' (first | (with_reducible exact Below.refl _ _) | (with_reducible assumption) | (with_reducible refine below_drewN ?_ _) | (with_reducible refine Below.alloc ?_ ?_ _) | (with_reducible refine Below.drew ?_) | (with_reducible refine Below.setCell ?_ ?_ _) | (with_reducible refine Below.trans ?_ (Below.mono (by with_reducible assumption) ?_)) | go_size)))
       rotate_left 1
       · rfl
       clear hex; intro hex)
    refine G.wpS_nil fun w1 hAll => ?_
    have hE := hAll.1
    have H1 := Lib.hid (HH.out.ext hE)
    have E1 := Lib.hid (grown_of_ext (row := some r) hE)
    clear hE hex hAll
    have k0 := H1.out.blk.cell 0
    go_wp2_with fail
    refine (rrefuse_any r s _ o 3 ((s.size : Int)) _ H1.out).mono ?_
    rintro e w9 ⟨rfl, hG9, hR9⟩
    have HG9 := Lib.hid (grown_trans E1.out hG9)
    have HR9 := Lib.hid hR9
    clear hG9 hR9
    go_wp2_with fail
    go_ret
    rw [← HX.out]
    exact ⟨0, by omega, rfl, HG9.out, HR9.out⟩
end Go.Proofs.YtnecafokkhhhhaaGreatDoor
