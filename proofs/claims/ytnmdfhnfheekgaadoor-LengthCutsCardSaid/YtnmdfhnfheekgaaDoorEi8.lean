/- Lengths by the document: bolterref8.either, times. -/
import Derived.Test.YtnmdfhnfheekgaaDoorLen
namespace Go.Proofs.YtnmdfhnfheekgaaDoor
open Go Go.RowKit
set_option maxHeartbeats 2000000 in
set_option maxRecDepth 20000 in
theorem rei_any (v u : Wv) (w : World) : Calls Tryd.prog 42 #[v.lv, u.lv] w fun e w' => e = .returned (v.alt u).lv ∧ Ext w w' := by
  cases v with
  | none =>
    cases u with
    | none  =>
      rw [show Wv.alt .none (.none ) = .none  from rfl]
      simp only [Wv.lv]
      go_enter Tryd.func42, Tryd.ntmps42
      go_wp2_with fail
      refine bodyPost_ret (v := .agg #[.bool true, .int .i64 0, .int .i64 0]) ?_ rfl ⟨rfl, by go_grown⟩
      simp [results, Tryd.results42, go_sem]
    | bounded j k =>
      rw [show Wv.alt .none (.bounded j k) = .bounded j k from rfl]
      simp only [Wv.lv]
      go_enter Tryd.func42, Tryd.ntmps42
      go_wp2_with fail
      refine bodyPost_ret (v := .agg #[.bool false, .int .i64 (j : Int), .int .i64 (k : Int)]) ?_ rfl ⟨rfl, by go_grown⟩
      simp [results, Tryd.results42, go_sem]
    | endless j =>
      rw [show Wv.alt .none (.endless j) = .endless j from rfl]
      simp only [Wv.lv]
      go_enter Tryd.func42, Tryd.ntmps42
      go_wp2_with fail
      refine bodyPost_ret (v := .agg #[.bool false, .int .i64 (j : Int), .int .i64 (-1)]) ?_ rfl ⟨rfl, by go_grown⟩
      simp [results, Tryd.results42, go_sem]
  | bounded l m =>
    have dp1 : decide ((0 : Int) ≤ (l : Int)) = true := by simp
    have dn1 : decide ((l : Int) < 0) = false := by simp
    have dp2 : decide ((0 : Int) ≤ (m : Int)) = true := by simp
    have dn2 : decide ((m : Int) < 0) = false := by simp
    cases u with
    | none =>
      rw [show Wv.alt (.bounded l m) .none = .bounded l m from rfl]
      simp only [Wv.lv]
      go_enter Tryd.func42, Tryd.ntmps42
      go_wp2_with fail
      refine bodyPost_ret (v := .agg #[.bool false, .int .i64 (l : Int), .int .i64 (m : Int)]) ?_ rfl ⟨rfl, by go_grown⟩
      simp [results, Tryd.results42, go_sem]
    | bounded j k =>
      have dp3 : decide ((0 : Int) ≤ (j : Int)) = true := by simp
      have dn3 : decide ((j : Int) < 0) = false := by simp
      have dp4 : decide ((0 : Int) ≤ (k : Int)) = true := by simp
      have dn4 : decide ((k : Int) < 0) = false := by simp
      by_cases hjl : j < l
      · skip
        have dc5 : decide ((j : Int) < (l : Int)) = true := by first | (simp; omega) | simp
        have dd5 : decide (j < l) = true := by first | (simp; omega) | simp
        by_cases hmk : m < k
        · skip
          have dc6 : decide ((m : Int) < (k : Int)) = true := by first | (simp; omega) | simp
          have dd6 : decide (m < k) = true := by first | (simp; omega) | simp
          rw [show Wv.alt (.bounded l m) (.bounded j k) = .bounded j k from by simp only [Wv.alt]; rw [show min l j = j by omega, show max m k = k by omega]]
          simp only [Wv.lv]
          go_enter Tryd.func42, Tryd.ntmps42
          go_wp2_with fail
          refine bodyPost_ret (v := .agg #[.bool false, .int .i64 (j : Int), .int .i64 (k : Int)]) ?_ rfl ⟨rfl, by go_grown⟩
          simp [results, Tryd.results42, go_sem]
        · skip
          have dc7 : decide ((m : Int) < (k : Int)) = false := by first | (simp; omega) | simp
          have dd7 : decide (m < k) = false := by first | (simp; omega) | simp
          rw [show Wv.alt (.bounded l m) (.bounded j k) = .bounded j m from by simp only [Wv.alt]; rw [show min l j = j by omega, show max m k = m by omega]]
          simp only [Wv.lv]
          go_enter Tryd.func42, Tryd.ntmps42
          go_wp2_with fail
          refine bodyPost_ret (v := .agg #[.bool false, .int .i64 (j : Int), .int .i64 (m : Int)]) ?_ rfl ⟨rfl, by go_grown⟩
          simp [results, Tryd.results42, go_sem]
      · skip
        have dc8 : decide ((j : Int) < (l : Int)) = false := by first | (simp; omega) | simp
        have dd8 : decide (j < l) = false := by first | (simp; omega) | simp
        by_cases hmk : m < k
        · skip
          have dc9 : decide ((m : Int) < (k : Int)) = true := by first | (simp; omega) | simp
          have dd9 : decide (m < k) = true := by first | (simp; omega) | simp
          rw [show Wv.alt (.bounded l m) (.bounded j k) = .bounded l k from by simp only [Wv.alt]; rw [show min l j = l by omega, show max m k = k by omega]]
          simp only [Wv.lv]
          go_enter Tryd.func42, Tryd.ntmps42
          go_wp2_with fail
          refine bodyPost_ret (v := .agg #[.bool false, .int .i64 (l : Int), .int .i64 (k : Int)]) ?_ rfl ⟨rfl, by go_grown⟩
          simp [results, Tryd.results42, go_sem]
        · skip
          have dc10 : decide ((m : Int) < (k : Int)) = false := by first | (simp; omega) | simp
          have dd10 : decide (m < k) = false := by first | (simp; omega) | simp
          rw [show Wv.alt (.bounded l m) (.bounded j k) = .bounded l m from by simp only [Wv.alt]; rw [show min l j = l by omega, show max m k = m by omega]]
          simp only [Wv.lv]
          go_enter Tryd.func42, Tryd.ntmps42
          go_wp2_with fail
          refine bodyPost_ret (v := .agg #[.bool false, .int .i64 (l : Int), .int .i64 (m : Int)]) ?_ rfl ⟨rfl, by go_grown⟩
          simp [results, Tryd.results42, go_sem]
    | endless j =>
      have dp11 : decide ((0 : Int) ≤ (j : Int)) = true := by simp
      have dn11 : decide ((j : Int) < 0) = false := by simp
      by_cases hjl : j < l
      · skip
        have dc12 : decide ((j : Int) < (l : Int)) = true := by first | (simp; omega) | simp
        have dd12 : decide (j < l) = true := by first | (simp; omega) | simp
        rw [show Wv.alt (.bounded l m) (.endless j) = .endless j from by simp only [Wv.alt]; rw [show min l j = j by omega]]
        simp only [Wv.lv]
        go_enter Tryd.func42, Tryd.ntmps42
        go_wp2_with fail
        refine bodyPost_ret (v := .agg #[.bool false, .int .i64 (j : Int), .int .i64 (-1)]) ?_ rfl ⟨rfl, by go_grown⟩
        simp [results, Tryd.results42, go_sem]
      · skip
        have dc13 : decide ((j : Int) < (l : Int)) = false := by first | (simp; omega) | simp
        have dd13 : decide (j < l) = false := by first | (simp; omega) | simp
        rw [show Wv.alt (.bounded l m) (.endless j) = .endless l from by simp only [Wv.alt]; rw [show min l j = l by omega]]
        simp only [Wv.lv]
        go_enter Tryd.func42, Tryd.ntmps42
        go_wp2_with fail
        refine bodyPost_ret (v := .agg #[.bool false, .int .i64 (l : Int), .int .i64 (-1)]) ?_ rfl ⟨rfl, by go_grown⟩
        simp [results, Tryd.results42, go_sem]
  | endless l =>
    have dp14 : decide ((0 : Int) ≤ (l : Int)) = true := by simp
    have dn14 : decide ((l : Int) < 0) = false := by simp
    cases u with
    | none =>
      rw [show Wv.alt (.endless l) .none = .endless l from rfl]
      simp only [Wv.lv]
      go_enter Tryd.func42, Tryd.ntmps42
      go_wp2_with fail
      refine bodyPost_ret (v := .agg #[.bool false, .int .i64 (l : Int), .int .i64 (-1)]) ?_ rfl ⟨rfl, by go_grown⟩
      simp [results, Tryd.results42, go_sem]
    | bounded j k =>
      have dp15 : decide ((0 : Int) ≤ (j : Int)) = true := by simp
      have dn15 : decide ((j : Int) < 0) = false := by simp
      have dp16 : decide ((0 : Int) ≤ (k : Int)) = true := by simp
      have dn16 : decide ((k : Int) < 0) = false := by simp
      by_cases hjl : j < l
      · skip
        have dc17 : decide ((j : Int) < (l : Int)) = true := by first | (simp; omega) | simp
        have dd17 : decide (j < l) = true := by first | (simp; omega) | simp
        rw [show Wv.alt (.endless l) (.bounded j k) = .endless j from by simp only [Wv.alt]; rw [show min l j = j by omega]]
        simp only [Wv.lv]
        go_enter Tryd.func42, Tryd.ntmps42
        go_wp2_with fail
        refine bodyPost_ret (v := .agg #[.bool false, .int .i64 (j : Int), .int .i64 (-1)]) ?_ rfl ⟨rfl, by go_grown⟩
        simp [results, Tryd.results42, go_sem]
      · skip
        have dc18 : decide ((j : Int) < (l : Int)) = false := by first | (simp; omega) | simp
        have dd18 : decide (j < l) = false := by first | (simp; omega) | simp
        rw [show Wv.alt (.endless l) (.bounded j k) = .endless l from by simp only [Wv.alt]; rw [show min l j = l by omega]]
        simp only [Wv.lv]
        go_enter Tryd.func42, Tryd.ntmps42
        go_wp2_with fail
        refine bodyPost_ret (v := .agg #[.bool false, .int .i64 (l : Int), .int .i64 (-1)]) ?_ rfl ⟨rfl, by go_grown⟩
        simp [results, Tryd.results42, go_sem]
    | endless j =>
      have dp19 : decide ((0 : Int) ≤ (j : Int)) = true := by simp
      have dn19 : decide ((j : Int) < 0) = false := by simp
      by_cases hjl : j < l
      · skip
        have dc20 : decide ((j : Int) < (l : Int)) = true := by first | (simp; omega) | simp
        have dd20 : decide (j < l) = true := by first | (simp; omega) | simp
        rw [show Wv.alt (.endless l) (.endless j) = .endless j from by simp only [Wv.alt]; rw [show min l j = j by omega]]
        simp only [Wv.lv]
        go_enter Tryd.func42, Tryd.ntmps42
        go_wp2_with fail
        refine bodyPost_ret (v := .agg #[.bool false, .int .i64 (j : Int), .int .i64 (-1)]) ?_ rfl ⟨rfl, by go_grown⟩
        simp [results, Tryd.results42, go_sem]
      · skip
        have dc21 : decide ((j : Int) < (l : Int)) = false := by first | (simp; omega) | simp
        have dd21 : decide (j < l) = false := by first | (simp; omega) | simp
        rw [show Wv.alt (.endless l) (.endless j) = .endless l from by simp only [Wv.alt]; rw [show min l j = l by omega]]
        simp only [Wv.lv]
        go_enter Tryd.func42, Tryd.ntmps42
        go_wp2_with fail
        refine bodyPost_ret (v := .agg #[.bool false, .int .i64 (l : Int), .int .i64 (-1)]) ?_ rfl ⟨rfl, by go_grown⟩
        simp [results, Tryd.results42, go_sem]
set_option maxHeartbeats 2000000 in
set_option maxRecDepth 20000 in
theorem rti_any (x : Xp) (a : Option Addr) (c : Nat) (v : Wv) (n : Nat) (w : World) (hv : v.le n) (hc : Cnt x.mn x.mx) : Calls Tryd.prog 43 #[xv x a c, v.lv] w fun e w' => e = .returned (v.rep x.mn x.mx).lv ∧ Ext w w' := by
  rcases hc with ⟨h1, h2 | h2⟩ | ⟨h1, h2⟩
  · have hc : True := trivial
    have e1 : (x.mn == 0) = true := by rw [h1]; rfl
    have e2 : decide (x.mn = 0) = true := by rw [h1]; rfl
    have e3 : (x.mx == -1) = true := by rw [h2]; rfl
    have e4 : decide (x.mx = -1) = true := by rw [h2]; rfl
    have hr : v.rep x.mn x.mx = v.rep 0 (-1) := by rw [h1, h2]
    rw [hr]
    clear hr h1 h2 hc
    cases v with
    | none =>
      rw [show (Wv.none).rep 0 (-1) = .bounded 0 0 from rfl]
      simp only [Wv.lv]
      go_enter Tryd.func43, Tryd.ntmps43
      go_wp2_with fail
      refine bodyPost_ret (v := .agg #[.bool false, .int .i64 0, .int .i64 0]) ?_ rfl ⟨rfl, by go_grown⟩
      simp [results, Tryd.results43, go_sem]
    | bounded l m =>
      simp only [Wv.le] at hv
      by_cases hm : m = 0
      · subst hm
        obtain rfl : l = 0 := by omega
        rw [show (Wv.bounded 0 0).rep 0 (-1) = .bounded 0 0 from rfl]
        simp only [Wv.lv]
        go_enter Tryd.func43, Tryd.ntmps43
        go_wp2_with fail
        refine bodyPost_ret (v := .agg #[.bool false, .int .i64 0, .int .i64 0]) ?_ rfl ⟨rfl, by go_grown⟩
        simp [results, Tryd.results43, go_sem]
      · skip
        have dz1 : ((m : Int) == 0) = false := by simp only [beq_eq_false_iff_ne, ne_eq]; omega
        have dz2 : ((m : Int) != 0) = true := by rw [bne, dz1]; rfl
        have dz3 : decide ((m : Int) = 0) = false := by simp only [decide_eq_false_iff_not]; omega
        have dz4 : decide (m = 0) = false := by simp only [decide_eq_false_iff_not]; omega
        have dz5 : (m == 0) = false := by simp only [beq_eq_false_iff_ne, ne_eq]; omega
        have dz6 : (m != 0) = true := by rw [bne, dz5]; rfl
        rw [show (Wv.bounded l m).rep 0 (-1) = .endless 0 from by simp [Wv.rep, Wv.again, Wv.alt, show 0 < m by omega]]
        simp only [Wv.lv]
        go_enter Tryd.func43, Tryd.ntmps43
        go_wp2_with fail
        refine bodyPost_ret (v := .agg #[.bool false, .int .i64 0, .int .i64 (-1)]) ?_ rfl ⟨rfl, by go_grown⟩
        simp [results, Tryd.results43, go_sem]
    | endless l =>
      rw [show (Wv.endless l).rep 0 (-1) = .endless 0 from by simp [Wv.rep, Wv.again, Wv.alt]]
      simp only [Wv.lv]
      go_enter Tryd.func43, Tryd.ntmps43
      go_wp2_with fail
      refine bodyPost_ret (v := .agg #[.bool false, .int .i64 0, .int .i64 (-1)]) ?_ rfl ⟨rfl, by go_grown⟩
      simp [results, Tryd.results43, go_sem]
  · have hc : True := trivial
    have e1 : (x.mn == 0) = true := by rw [h1]; rfl
    have e2 : decide (x.mn = 0) = true := by rw [h1]; rfl
    have e3 : (x.mx == -1) = false := by rw [h2]; rfl
    have e4 : decide (x.mx = -1) = false := by rw [h2]; rfl
    have hr : v.rep x.mn x.mx = v.rep 0 (1) := by rw [h1, h2]
    rw [hr]
    clear hr h1 h2 hc
    cases v with
    | none =>
      rw [show (Wv.none).rep 0 (1) = .bounded 0 0 from rfl]
      simp only [Wv.lv]
      go_enter Tryd.func43, Tryd.ntmps43
      go_wp2_with fail
      refine bodyPost_ret (v := .agg #[.bool false, .int .i64 0, .int .i64 0]) ?_ rfl ⟨rfl, by go_grown⟩
      simp [results, Tryd.results43, go_sem]
    | bounded l m =>
      simp only [Wv.le] at hv
      by_cases hm : m = 0
      · subst hm
        obtain rfl : l = 0 := by omega
        rw [show (Wv.bounded 0 0).rep 0 (1) = .bounded 0 0 from rfl]
        simp only [Wv.lv]
        go_enter Tryd.func43, Tryd.ntmps43
        go_wp2_with fail
        refine bodyPost_ret (v := .agg #[.bool false, .int .i64 0, .int .i64 0]) ?_ rfl ⟨rfl, by go_grown⟩
        simp [results, Tryd.results43, go_sem]
      · skip
        have dz1 : ((m : Int) == 0) = false := by simp only [beq_eq_false_iff_ne, ne_eq]; omega
        have dz2 : ((m : Int) != 0) = true := by rw [bne, dz1]; rfl
        have dz3 : decide ((m : Int) = 0) = false := by simp only [decide_eq_false_iff_not]; omega
        have dz4 : decide (m = 0) = false := by simp only [decide_eq_false_iff_not]; omega
        have dz5 : (m == 0) = false := by simp only [beq_eq_false_iff_ne, ne_eq]; omega
        have dz6 : (m != 0) = true := by rw [bne, dz5]; rfl
        rw [show (Wv.bounded l m).rep 0 (1) = .bounded 0 m from by simp [Wv.rep, Wv.alt]]
        simp only [Wv.lv]
        go_enter Tryd.func43, Tryd.ntmps43
        go_wp2_with fail
        refine bodyPost_ret (v := .agg #[.bool false, .int .i64 0, .int .i64 (m : Int)]) ?_ rfl ⟨rfl, by go_grown⟩
        simp [results, Tryd.results43, go_sem]
    | endless l =>
      rw [show (Wv.endless l).rep 0 (1) = .endless 0 from by simp [Wv.rep, Wv.alt]]
      simp only [Wv.lv]
      go_enter Tryd.func43, Tryd.ntmps43
      go_wp2_with fail
      refine bodyPost_ret (v := .agg #[.bool false, .int .i64 0, .int .i64 (-1)]) ?_ rfl ⟨rfl, by go_grown⟩
      simp [results, Tryd.results43, go_sem]
  · have hc : True := trivial
    have e1 : (x.mn == 0) = false := by rw [h1]; rfl
    have e2 : decide (x.mn = 0) = false := by rw [h1]; rfl
    have e3 : (x.mx == -1) = true := by rw [h2]; rfl
    have e4 : decide (x.mx = -1) = true := by rw [h2]; rfl
    have hr : v.rep x.mn x.mx = v.rep 1 (-1) := by rw [h1, h2]
    rw [hr]
    clear hr h1 h2 hc
    cases v with
    | none =>
      rw [show (Wv.none).rep 1 (-1) = .none from rfl]
      simp only [Wv.lv]
      go_enter Tryd.func43, Tryd.ntmps43
      go_wp2_with fail
      refine bodyPost_ret (v := .agg #[.bool true, .int .i64 0, .int .i64 0]) ?_ rfl ⟨rfl, by go_grown⟩
      simp [results, Tryd.results43, go_sem]
    | bounded l m =>
      simp only [Wv.le] at hv
      by_cases hm : m = 0
      · subst hm
        obtain rfl : l = 0 := by omega
        rw [show (Wv.bounded 0 0).rep 1 (-1) = .bounded 0 0 from rfl]
        simp only [Wv.lv]
        go_enter Tryd.func43, Tryd.ntmps43
        go_wp2_with fail
        refine bodyPost_ret (v := .agg #[.bool false, .int .i64 0, .int .i64 0]) ?_ rfl ⟨rfl, by go_grown⟩
        simp [results, Tryd.results43, go_sem]
      · skip
        have dz1 : ((m : Int) == 0) = false := by simp only [beq_eq_false_iff_ne, ne_eq]; omega
        have dz2 : ((m : Int) != 0) = true := by rw [bne, dz1]; rfl
        have dz3 : decide ((m : Int) = 0) = false := by simp only [decide_eq_false_iff_not]; omega
        have dz4 : decide (m = 0) = false := by simp only [decide_eq_false_iff_not]; omega
        have dz5 : (m == 0) = false := by simp only [beq_eq_false_iff_ne, ne_eq]; omega
        have dz6 : (m != 0) = true := by rw [bne, dz5]; rfl
        rw [show (Wv.bounded l m).rep 1 (-1) = .endless l from by simp [Wv.rep, Wv.again, show 0 < m by omega]]
        simp only [Wv.lv]
        go_enter Tryd.func43, Tryd.ntmps43
        go_wp2_with fail
        refine bodyPost_ret (v := .agg #[.bool false, .int .i64 (l : Int), .int .i64 (-1)]) ?_ rfl ⟨rfl, by go_grown⟩
        simp [results, Tryd.results43, go_sem]
    | endless l =>
      rw [show (Wv.endless l).rep 1 (-1) = .endless l from by simp [Wv.rep, Wv.again]]
      simp only [Wv.lv]
      go_enter Tryd.func43, Tryd.ntmps43
      go_wp2_with fail
      refine bodyPost_ret (v := .agg #[.bool false, .int .i64 (l : Int), .int .i64 (-1)]) ?_ rfl ⟨rfl, by go_grown⟩
      simp [results, Tryd.results43, go_sem]
end Go.Proofs.YtnmdfhnfheekgaaDoor
