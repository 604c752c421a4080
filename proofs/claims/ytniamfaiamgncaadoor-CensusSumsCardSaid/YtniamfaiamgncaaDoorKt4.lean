/- Package census: how a table lies in memory. -/
import Derived.Test.YtniamfaiamgncaaDoorKt2
import Derived.Test.YtniamfaiamgncaaDoorKt3
import Derived.Test.YtniamfaiamgncaaDoorMrk
namespace Go.Proofs.YtniamfaiamgncaaDoor
open Go Go.RowKit
/-- What is known of a count. -/
def oN : Option Nat → Int
  | some x => (sN x : Nat)
  | none => 0
def oB : Option Nat → Bool
  | some x => sB x
  | none => false
theorem oN_r (o : Option Nat) : 0 ≤ oN o ∧ oN o < 18446744073709551616 := by
  cases o with
  | none => exact ⟨Int.le_refl _, by decide⟩
  | some x =>
    have := sN_lt x
    unfold T64 at this
    show 0 ≤ ((sN x : Nat) : Int) ∧ ((sN x : Nat) : Int) < 18446744073709551616
    omega
def tcell (T : Nat → Nat → Option Nat) (j : Nat) : Value := if j % 2 = 0 then .int .u64 (oN (T (j / 130) (j % 130 / 2))) else .bool (oB (T (j / 130) (j % 130 / 2)))
def tcells (n : Nat) (T : Nat → Nat → Option Nat) : List Value := (List.range (n * 130)).map (tcell T)
def upT (T : Nat → Nat → Option Nat) (s l x : Nat) : Nat → Nat → Option Nat := fun s' l' => if s' = s ∧ l' = l then some x else T s' l'
theorem tcells_len (n : Nat) (T : Nat → Nat → Option Nat) : (tcells n T).length = n * 130 := by simp [tcells]
theorem tcells_get {n j : Nat} {T : Nat → Nat → Option Nat} (h : j < n * 130) : (tcells n T)[j]? = some (tcell T j) := by
  unfold tcells
  rw [List.getElem?_map, List.getElem?_range h]; rfl
theorem tcell_even (T : Nat → Nat → Option Nat) {s l : Nat} (hl : l < 65) : tcell T (s * 130 + l * 2) = .int .u64 (oN (T s l)) := by
  unfold tcell
  rw [if_pos (by omega), show (s * 130 + l * 2) / 130 = s by omega, show (s * 130 + l * 2) % 130 / 2 = l by omega]
theorem tcell_odd (T : Nat → Nat → Option Nat) {s l : Nat} (hl : l < 65) : tcell T (s * 130 + l * 2 + 1) = .bool (oB (T s l)) := by
  unfold tcell
  rw [if_neg (by omega), show (s * 130 + l * 2 + 1) / 130 = s by omega, show (s * 130 + l * 2 + 1) % 130 / 2 = l by omega]
theorem tcells_set {n s l x : Nat} {T : Nat → Nat → Option Nat} (hl : l < 65) :
    ((tcells n T).set (s * 130 + l * 2) (.int .u64 (sN x : Nat))).set (s * 130 + l * 2 + 1) (.bool (sB x)) = tcells n (upT T s l x) := by
  apply List.ext_getElem?
  intro j
  by_cases hj : j < n * 130
  · rw [tcells_get hj]
    rw [List.getElem?_set, List.getElem?_set]
    simp only [List.length_set, tcells_len]
    by_cases e1 : s * 130 + l * 2 + 1 = j
    · rw [if_pos e1, if_pos (by omega), ← e1, tcell_odd _ hl]
      unfold upT; rw [if_pos ⟨rfl, rfl⟩]; rfl
    · rw [if_neg e1]
      by_cases e2 : s * 130 + l * 2 = j
      · rw [if_pos e2, if_pos (by omega), ← e2, tcell_even _ hl]
        unfold upT; rw [if_pos ⟨rfl, rfl⟩]; rfl
      · rw [if_neg e2, tcells_get hj]
        have hne : ¬ (j / 130 = s ∧ j % 130 / 2 = l) := by omega
        unfold tcell upT
        simp only [if_neg hne]
  · rw [List.getElem?_eq_none (by simp [tcells_len]; omega), List.getElem?_eq_none (by rw [tcells_len]; omega)]
/-- Where the counts lie. -/
def FromW (w : World) (B gf n : Nat) (T : Nat → Nat → Option Nat) : Prop := w.ownsRow B 196 130 (.slice (some ⟨gf, 0, none⟩) n n) n (tcells n T)
section
variable {w w' : World} {B gf n s l x : Nat} {T : Nat → Nat → Option Nat}
theorem FromW.cell0 (h : FromW w B gf n T) (hs : s < n) (hl : l < 65) : w.cell? ⟨gf, s * 130 + l * 2, none⟩ = some (.int .u64 (oN (T s l))) := by
  rw [World.ownsRow.cellAt h _ (by omega), tcells_get (by omega), tcell_even T hl]
theorem FromW.cell1 (h : FromW w B gf n T) (hs : s < n) (hl : l < 65) : w.cell? ⟨gf, s * 130 + l * 2 + 1, none⟩ = some (.bool (oB (T s l))) := by
  rw [World.ownsRow.cellAt h _ (by omega), tcells_get (by omega), tcell_odd T hl]
theorem FromW.free (h : FromW w B gf n T) (j : Nat) : w.frozen? ⟨gf, j, none⟩ = false := World.ownsRow.frozenAt h j
theorem FromW.put (h : FromW w B gf n T) (hl : l < 65) : FromW ((w.setCell ⟨gf, s * 130 + l * 2, none⟩ (.int .u64 (sN x : Nat))).setCell ⟨gf, s * 130 + l * 2 + 1, none⟩ (.bool (sB x))) B gf n (upT T s l x) := by
  have h1 := (World.ownsRow.stored h (s * 130 + l * 2) (.int .u64 (sN x : Nat))).1
  have h2 := (World.ownsRow.stored h1 (s * 130 + l * 2 + 1) (.bool (sB x))).1
  rw [tcells_set hl] at h2
  exact h2
theorem FromW.cellz0 (h : FromW w B gf n T) (hs : s < n) : w.cell? ⟨gf, s * 130, none⟩ = some (.int .u64 (oN (T s 0))) := by
  have := h.cell0 (l := 0) hs (by decide)
  rw [Nat.zero_mul, Nat.add_zero] at this; exact this
theorem FromW.cellz1 (h : FromW w B gf n T) (hs : s < n) : w.cell? ⟨gf, s * 130 + 1, none⟩ = some (.bool (oB (T s 0))) := by
  have := h.cell1 (l := 0) hs (by decide)
  rw [Nat.zero_mul, Nat.add_zero] at this; exact this
theorem FromW.putz (h : FromW w B gf n T) : FromW ((w.setCell ⟨gf, s * 130, none⟩ (.int .u64 (sN x : Nat))).setCell ⟨gf, s * 130 + 1, none⟩ (.bool (sB x))) B gf n (upT T s 0 x) := by
  have := h.put (s := s) (l := 0) (x := x) (by decide)
  rw [Nat.zero_mul, Nat.add_zero] at this; exact this
theorem FromW.fr {S : Nat → Prop} (h : FromW w B gf n T) (hx : Fr S w w') (hn : ¬ S gf) : FromW w' B gf n T := hx.own h (fun k hk => by cases hk; exact hn)
theorem FromW.ext (h : FromW w B gf n T) (hx : Ext w w') : FromW w' B gf n T := h.fr (Fr.of_ext (S := fun _ => False) hx) (fun q => q)
theorem FromW.lo (h : FromW w B gf n T) : B ≤ gf ∧ gf < w.heap.size := World.ownsRow.lt h gf rfl
theorem FromW.same {T' : Nat → Nat → Option Nat} (h : FromW w B gf n T) (e : ∀ s l, s < n → l < 65 → T s l = T' s l) : FromW w B gf n T' := by
  have : tcells n T = tcells n T' := by
    unfold tcells
    apply List.map_congr_left
    intro j hj
    have hj := List.mem_range.1 hj
    unfold tcell
    rw [e (j / 130) (j % 130 / 2) (by omega) (by omega)]
  unfold FromW at *
  rw [← this]; exact h
theorem FromW.ne_blk {b : Nat} {vs : Array Value} {t : TypeId} (h : FromW w B gf n T) (hb : Blk w b vs t) (hne : 196 ≠ t) : gf ≠ b := fun e => own_ne_blk h hb hne (by rw [e]; rfl)
end
/-- A table, in memory: w0 is the world ahead of it. -/
structure Tbl (w0 w : World) (tb gf n k : Nat) (vN : Value) (d : Dd) (T : Nat → Nat → Option Nat) : Prop where
  ex : Ext w0 w
  nx : Rws w0 vN d.nx
  bk : Blk w tb #[vN, .slice (some ⟨gf, 0, none⟩) n n, .int .i64 (k : Int)] 194
  fm : FromW w w0.heap.size gf n T
  lo : w0.heap.size ≤ tb
theorem Tbl.ext {w0 w w' : World} {tb gf n k : Nat} {vN : Value} {d : Dd} {T : Nat → Nat → Option Nat} (h : Tbl w0 w tb gf n k vN d T) (hx : Ext w w') : Tbl w0 w' tb gf n k vN d T :=
  ⟨bel_call h.ex hx, h.nx, h.bk.ext hx, h.fm.ext hx, h.lo⟩
theorem Tbl.fr {w0 w w' : World} {S : Nat → Prop} {tb gf n k : Nat} {vN : Value} {d : Dd} {T : Nat → Nat → Option Nat} (h : Tbl w0 w tb gf n k vN d T) (hx : Fr S w w') (hS : ∀ g, S g → w0.heap.size ≤ g) (h1 : ¬ S tb) (h2 : ¬ S gf) : Tbl w0 w' tb gf n k vN d T :=
  ⟨Below.trans h.ex (hx.below h.ex.size (fun g hg q => by have := hS g q; omega)), h.nx, hx.blk h.bk h1, h.fm.fr hx h2, h.lo⟩
/-- Of which lengths counts are known. -/
def TT (dl : Nat → Nat → Nat) (lab : Nat → Int) (x : Int) (k : Nat) : Nat → Nat → Option Nat := fun s l => if l ≤ k then some (cnt dl lab x l s) else none
end Go.Proofs.YtniamfaiamgncaaDoor
