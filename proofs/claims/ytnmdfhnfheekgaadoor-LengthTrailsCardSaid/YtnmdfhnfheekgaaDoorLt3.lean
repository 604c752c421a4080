/- LengthTrails: what Cuts tells of one rule with a trail, and of a list that was made (plain). -/
import Derived.Test.YtnmdfhnfheekgaaDoorLt2
import Derived.Test.YtnmdfhnfheekgaaDoorSmf
import Derived.Deep.AppendLies
namespace Go.Proofs.YtnmdfhnfheekgaaDoor
open Go Go.RowKit
def TOk (w : World) (T : List Qd) : Prop := ∀ t ∈ T, QdOk w w.heap.size t ∧ Chk t.1.h ∧ Chk t.1.t ∧ t.1.ht = true
theorem tmb_of {r : Cr} (h : r.ht = true) (hc : Chk r.t) : Tmb r := by unfold Tmb; rw [if_pos h]; exact hc
theorem mays_one {x y : Xp} (hx : Chk x) (hy : Chk y) : Mays [⟨x, true, y⟩] :=
  ⟨by simp, fun r hr => by
    obtain rfl : r = ⟨x, true, y⟩ := by simpa using hr
    exact ⟨hx, tmb_of rfl hy⟩⟩
def BadE (e : Ending) : Prop := ∃ T v, e = .returned (.tuple #[.slice none 0 0, .iface T v])
theorem cuts1_bad (x y : Xp) (a : Option Addr) (c : Nat) (aA aT : Addr) (w : World) (hc : Cat w w.heap.size a c [⟨x, true, y⟩]) (hA : Ag w aA aT) (hx : Chk x) (hy : Chk y) (h : tb x y = true) :
    Calls Tryd.prog 15 #[.slice a 1 c] w fun e w' => BadE e ∧ Ext w w' := by
  refine (cuts_any [⟨x, true, y⟩] a c aA aT w hc hA).mono ?_
  rintro e w' ⟨hr, hx'⟩
  refine ⟨?_, hx'⟩
  rcases hr with ⟨hn, _⟩ | ⟨_, i, hi, h1, _, v, rfl, hv⟩ | ⟨_, h1, _⟩
  · exact absurd (mays_one hx hy) hn
  · obtain ⟨T, u, rfl⟩ := hv.iface; exact ⟨T, u, rfl⟩
  · exact absurd ((cut1_none x y).2 h) (h1 0 (by simp))
def kdv (_x y : Xp) : Int := if (wo y).ol.2 = true then 1 else 2
def knv (x y : Xp) : Int := if (wo y).ol.2 = true then ((wo y).ol.1 : Int) else ((max (wo x).ol.1 1 : Nat) : Int)
def OneE (x y : Xp) (w : World) (e : Ending) (w' : World) : Prop := ∃ g c, e = .returned (.tuple #[.slice (some ⟨g, 0, none⟩) 1 c, .nilIface]) ∧ w'.cell? ⟨g, 0, none⟩ = some (.int .i64 (kdv x y)) ∧ w'.cell? ⟨g, 0 + 1, none⟩ = some (.int .i64 (knv x y)) ∧ g < w'.heap.size ∧ w.heap.size ≤ g
theorem cut1_ok {x y : Xp} (h : tb x y = false) : ∃ p, cut1 ⟨x, true, y⟩ = some p ∧ (p.1 : Int) = kdv x y ∧ (p.2 : Int) = knv x y := by
  unfold tb at h
  unfold cut1 kdv knv
  simp only [Bool.true_eq_false, if_false]
  cases he : (wo x).emp <;> cases hy : (wo y).ol.2 <;> cases hx : (wo x).ol.2 <;> simp [he, hy, hx] at h ⊢
theorem cuts1_ok (x y : Xp) (a : Option Addr) (c : Nat) (aA aT : Addr) (w : World) (hc : Cat w w.heap.size a c [⟨x, true, y⟩]) (hA : Ag w aA aT) (_hx : Chk x) (_hy : Chk y) (h : tb x y = false) :
    Calls Tryd.prog 15 #[.slice a 1 c] w fun e w' => OneE x y w e w' ∧ Ext w w' := by
  obtain ⟨p, hp, h1, h2⟩ := cut1_ok h
  refine (cuts_any [⟨x, true, y⟩] a c aA aT w hc hA).mono ?_
  rintro e w' ⟨hr, hx'⟩
  refine ⟨?_, hx'⟩
  rcases hr with ⟨hn, _⟩ | ⟨_, i, hi, h1, _, v, rfl, hv⟩ | ⟨_, _, v, rfl, hv⟩
  · exact absurd (mays_one _hx _hy) hn
  · obtain rfl : i = 0 := by simpa using hi
    exact absurd h1 (by simp [hp])
  · obtain ⟨g, cap, rfl, hb, hg⟩ := hv.form (by simp)
    have hcl := hv.cells (g := g) rfl
    have hk : (cutk [⟨x, true, y⟩]).flatMap ccl = [.int .i64 (p.1 : Int), .int .i64 (p.2 : Int)] := by simp [cutk, hp, ccl]
    rw [hk] at hcl
    refine ⟨g, cap, rfl, ?_, ?_, hg, hb⟩
    · have := hcl 0 _ rfl
      rw [← h1, ← this]; rfl
    · have := hcl 1 _ rfl
      rw [← h2, ← this]; rfl
theorem mays_list {w : World} {T : List Qd} (h : TOk w T) (hl : T.length ≤ 200) : Mays (T.map (·.1)) :=
  ⟨by simpa using hl, fun r hr => by
    obtain ⟨t, ht, rfl⟩ := List.mem_map.1 hr
    obtain ⟨_, h1, h2, h3⟩ := h t ht
    exact ⟨h1, tmb_of h3 h2⟩⟩
/-- The list, as a list of cores. -/
theorem cat_all {w0 w : World} {base n : Nat} {v : Value} {T : List Qd} (h : w.ownsRow base 48 21 v n (crl T)) (hn : T.length = n) (hT : TOk w0 T) (hx : Ext w0 w) :
    ∃ a c, v = .slice a n c ∧ Cat w w.heap.size a c (T.map (·.1)) := by
  have h' := h
  obtain ⟨hl, ⟨hv, h0⟩ | ⟨g, cap, cur, hv, hgb, hg, hg1, hg2, hg3, hg4⟩⟩ := h
  · have hl0 : T = [] := by
      rw [h0, crl_len] at hl
      have : T.length = 0 := by omega
      exact List.length_eq_zero_iff.1 this
    subst hl0
    refine ⟨none, 0, by rw [hv, ← hn]; rfl, by simp, by decide, .inl rfl⟩
  · subst hv
    have := cat_own (g := g) h' hn (fun t ht => (hT t ht).1.ext hx) 0 (Nat.zero_le _)
    rw [Nat.zero_mul, List.drop_zero] at this
    exact ⟨_, cap, rfl, this⟩
def BadL (bd : Nat) (aT : Addr) (e : Ending) (w' : World) : Prop := ∃ v, e = .returned (.tuple #[.slice none 0 0, v]) ∧ ErrOf w' [.rule (bd : Int)] v aT
def OkL (n : Nat) (e : Ending) : Prop := ∃ a c, e = .returned (.tuple #[.slice a n c, .nilIface])
theorem cutsT_bad {w0 : World} (T : List Qd) (bd : Nat) (a : Option Addr) (c : Nat) (aA aT : Addr) (w : World) (hc : Cat w w.heap.size a c (T.map (·.1))) (hA : Ag w aA aT) (hT : TOk w0 T) (hl : T.length ≤ 200) (hb : Bd (T.map (·.1)) bd) (h0 : 0 < bd) :
    Calls Tryd.prog 15 #[.slice a T.length c] w fun e w' => BadL bd aT e w' ∧ Ext w w' := by
  have hca := cuts_any (T.map (·.1)) a c aA aT w hc hA
  rw [List.length_map] at hca
  refine hca.mono ?_
  rintro e w' ⟨hr, hx'⟩
  refine ⟨?_, hx'⟩
  rcases hb with ⟨hb, _⟩ | ⟨_, hb1, hb2, hb3⟩
  · omega
  rcases hr with ⟨hn, _⟩ | ⟨_, i, hi, h1, h2, v, rfl, hv⟩ | ⟨_, h1, _⟩
  · exact absurd (mays_list hT hl) hn
  · have e1 : i = bd - 1 := by
      rcases Nat.lt_trichotomy i (bd - 1) with h | h | h
      · exact absurd h1 (hb3 i hi h)
      · exact h
      · exact absurd hb2 (h2 (bd - 1) hb1 h)
    refine ⟨v, rfl, ?_⟩
    rw [show (bd : Int) = (i : Int) + 1 by omega]
    exact hv
  · exact absurd hb2 (h1 _ hb1)
theorem cutsT_ok {w0 : World} (T : List Qd) (a : Option Addr) (c : Nat) (aA aT : Addr) (w : World) (hc : Cat w w.heap.size a c (T.map (·.1))) (hA : Ag w aA aT) (hT : TOk w0 T) (hl : T.length ≤ 200) (hb : Bd (T.map (·.1)) 0) :
    Calls Tryd.prog 15 #[.slice a T.length c] w fun e w' => OkL T.length e ∧ Ext w w' := by
  have hca := cuts_any (T.map (·.1)) a c aA aT w hc hA
  rw [List.length_map] at hca
  refine hca.mono ?_
  rintro e w' ⟨hr, hx'⟩
  refine ⟨?_, hx'⟩
  rcases hb with ⟨_, hb⟩ | ⟨hb, _⟩
  rotate_left
  · omega
  rcases hr with ⟨hn, _⟩ | ⟨_, i, hi, h1, _, v, rfl, hv⟩ | ⟨_, _, v, rfl, hv⟩
  · exact absurd (mays_list hT hl) hn
  · exact absurd h1 (hb i hi)
  · obtain ⟨a, c, rfl⟩ := own_shp hv
    exact ⟨a, c, by rw [List.length_map]⟩
/-- One more. -/
theorem tok_put {w0 : World} {T : List Qd} {t : Qd} (h : TOk w0 T) (hq : QdOk w0 w0.heap.size t ∧ Chk t.1.h ∧ Chk t.1.t ∧ t.1.ht = true) : TOk w0 (T ++ [t]) := by
  intro u hu
  rcases List.mem_append.1 hu with hu | hu
  · exact h u hu
  · obtain rfl : u = t := by simpa using hu
    exact hq
/-- The last one alone. -/
theorem cat_last {w0 w : World} {base g cap m : Nat} {T : List Qd} {t : Qd} (h : w.ownsRow base 48 21 (.slice (some ⟨g, 0, none⟩) (m + 1) cap) (m + 1) (crl T ++ qcs t)) (hm : T.length = m) (hT : TOk w0 (T ++ [t])) (hx : Ext w0 w) :
    Cat w w.heap.size (some ⟨g, m * 21, none⟩) (cap - m) [t.1] := by
  rw [← crl_app] at h
  have := cat_own h (by simp [hm]) (fun u hu => (hT u hu).1.ext hx) m (by omega)
  rw [← hm, List.drop_left] at this
  rw [← hm]
  exact this
theorem own_cap {w : World} {base g cap n e sz : Nat} {xs : List Value} (h : w.ownsRow base e sz (.slice (some ⟨g, 0, none⟩) n cap) n xs) : n ≤ cap ∧ cap ≤ maxLen := by
  obtain ⟨_, ⟨hv, _⟩ | ⟨g', cap', cur, hv, _, _, h1, h2, _⟩⟩ := h
  · cases hv
  · cases hv; exact ⟨h1, h2⟩
/-- What the law reckons. -/
theorem tb_emp {x y : Xp} (h : (wo x).emp = true) : tb x y = true := by unfold tb; rw [h]; rfl
theorem tb_not {x y : Xp} (h : (wo x).emp = false) : tb x y = (!(wo x).ol.2 && !(wo y).ol.2) := by unfold tb; rw [h]; rfl
theorem lnv_parts {x : Xp} {n : Bool} {l m : Int} (hc : Chk x) (h : lnv x = .agg #[.bool n, .int .i64 l, .int .i64 m]) :
    (wo x).ol.2 = (n || decide (l = m)) ∧ (wo x).emp = (!n && decide (l = 0)) ∧ (n = false → 0 ≤ l ∧ l ≤ 65536 ∧ ((wo x).ol.2 = true → ((wo x).ol.1 : Int) = l)) := by
  unfold lnv at h
  rw [if_pos hc, Wv.lv_eq] at h
  simp only [Value.agg.injEq, Array.mk.injEq, List.cons.injEq, Value.bool.injEq, Value.int.injEq, true_and, and_true] at h
  obtain ⟨rfl, rfl, rfl⟩ := h
  refine ⟨Wv.ol_eq _, Wv.emp_eq _, fun hn => ?_⟩
  have hle := (wo_le x).mono (chk_good hc).2
  refine ⟨?_, ?_, fun h2 => Wv.ol1 hn h2⟩
  · cases hw : wo x <;> simp only [Wv.ll] <;> omega
  · cases hw : wo x with
    | none => simp only [Wv.ll]; omega
    | bounded a b => rw [hw] at hle; simp only [Wv.ll, Wv.le] at *; omega
    | endless a => rw [hw] at hle; simp only [Wv.ll, Wv.le] at *; omega
end Go.Proofs.YtnmdfhnfheekgaaDoor
