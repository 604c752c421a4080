/- Expressions: plain data, and how they lie in memory. -/
import Derived.Test.YtnmdfhnfheekgaaDoorStx
import Derived.Test.YtnmdfhnfheekgaaDoorBlk
import Derived.Test.YtnmdfhnfheekgaaDoorProg
import Derived.WalkKit
import Derived.WalkSpells
import Derived.WalkLawsBesides
import Derived.RegionTactic
import Derived.BigRegion
import Derived.Handy
import Derived.Lib.Hide
import Derived.Deep.RegionWith
import Derived.StillTailTactics
import Derived.Outline
import Derived.Deep.CutBlock
import Derived.Deep.CutRange
namespace Go.Proofs.YtnmdfhnfheekgaaDoor
open Go Go.RowKit
/-- An expression: its kind, its place, its set, its text, its counts, and what stands in it. -/
inductive Xp where
  | mk (op at_ : Int) (set : BitVec 256) (text : ByteArray) (mn mx : Int) (args : List Xp)
namespace Xp
def op : Xp → Int | .mk o _ _ _ _ _ _ => o
def at_ : Xp → Int | .mk _ a _ _ _ _ _ => a
def set : Xp → BitVec 256 | .mk _ _ s _ _ _ _ => s
def text : Xp → ByteArray | .mk _ _ _ t _ _ _ => t
def mn : Xp → Int | .mk _ _ _ _ m _ _ => m
def mx : Xp → Int | .mk _ _ _ _ _ m _ => m
def args : Xp → List Xp | .mk _ _ _ _ _ _ l => l
end Xp
theorem Xp.ind {P : Xp → Prop} (h : ∀ x : Xp, (∀ y ∈ x.args, P y) → P x) : ∀ x, P x :=
  fun x => Xp.rec (motive_1 := P) (motive_2 := fun l => ∀ y ∈ l, P y) (fun _ _ _ _ _ _ _ ih => h _ ih) (fun _ hy => by cases hy)
    (fun _ _ h1 h2 y hy => by rcases List.mem_cons.1 hy with rfl | hy; exact h1; exact h2 y hy) x
/- How many expressions stand in one, itself too. -/
mutual
def nn : Xp → Nat | .mk _ _ _ _ _ _ l => nns l + 1
def nns : List Xp → Nat
  | [] => 0
  | x :: l => nn x + nns l
end
theorem nn_eq (x : Xp) : nn x = nns x.args + 1 := by cases x; simp [nn, Xp.args]
theorem nns_mem : ∀ {l : List Xp} {y : Xp}, y ∈ l → nn y ≤ nns l
  | [], _, h => by cases h
  | x :: l, y, h => by
    rcases List.mem_cons.1 h with rfl | h
    · simp only [nns]; omega
    · have := nns_mem h; simp only [nns]; omega
theorem nn_mem {x y : Xp} (h : y ∈ x.args) : nn y < nn x := by have := nns_mem h; rw [nn_eq x]; omega
theorem nn_pos (x : Xp) : 0 < nn x := by rw [nn_eq]; omega
theorem nns_len : ∀ l : List Xp, l.length ≤ nns l
  | [] => Nat.zero_le _
  | x :: l => by have := nns_len l; have := nn_pos x; simp only [nns, List.length_cons]; omega
theorem nns_append : ∀ (l m : List Xp), nns (l ++ m) = nns l + nns m
  | [], m => by simp [nns]
  | x :: l, m => by simp only [List.cons_append, nns, nns_append l m]; omega
/-- Numbers that are ints, a text that may be. -/
def I64 (n : Int) : Prop := -9223372036854775808 ≤ n ∧ n ≤ 9223372036854775807
def Xok (x : Xp) : Prop := I64 x.op ∧ I64 x.at_ ∧ I64 x.mn ∧ I64 x.mx ∧ x.text.size ≤ maxLen
/-- An expression's ten cells, where its list lies at 'a'; and as one value. -/
def xcs (x : Xp) (a : Option Addr) (c : Nat) : List Value :=
  [.int .i64 x.op, .int .i64 x.at_, .int .u64 (wd x.set 0), .int .u64 (wd x.set 1), .int .u64 (wd x.set 2), .int .u64 (wd x.set 3), .string x.text, .int .i64 x.mn, .int .i64 x.mx, .slice a x.args.length c]
abbrev xbx (x : Xp) (a : Option Addr) (c : Nat) : Array Value :=
  #[.int .i64 x.op, .int .i64 x.at_, .int .u64 (wd x.set 0), .int .u64 (wd x.set 1), .int .u64 (wd x.set 2), .int .u64 (wd x.set 3), .string x.text, .int .i64 x.mn, .int .i64 x.mx, .slice a x.args.length c]
abbrev xv (x : Xp) (a : Option Addr) (c : Nat) : Value := .agg (xbx x a c)
/-- The slice at 'a', with room for 'c', holds these expressions; all of it lies below B. -/
inductive Xat (w : World) (B : Nat) : Option Addr → Nat → List Xp → Prop
  | nil (a : Option Addr) (c : Nat) (h : c ≤ maxLen) : Xat w B a c []
  | put (b o c : Nat) (L : List Xp) (ga : Nat → Option Addr) (gc : Nat → Nat) (h1 : L.length ≤ c) (h2 : c ≤ maxLen) (hb : b < B)
      (hk : ∀ y ∈ L, Xok y)
      (hc : ∀ i (h : i < L.length) j, j < 10 → w.cell? ⟨b, o + i * 10 + j, none⟩ = (xcs L[i] (ga i) (gc i))[j]?)
      (hs : ∀ i (h : i < L.length), Xat w B (ga i) (gc i) L[i].args) : Xat w B (some ⟨b, o, none⟩) c L
section
variable {w w' : World} {B D : Nat} {a : Option Addr} {c : Nat} {L : List Xp}
theorem Xat.blw (h : Xat w B a c L) (hx : Below B w w') : Xat w' B a c L := by
  induction h with
  | nil a c h => exact .nil a c h
  | put b o c L ga gc h1 h2 hb hk hc _ ih => exact .put b o c L ga gc h1 h2 hb hk (fun i h j hj => by rw [hx.cell (p := ⟨b, o + i * 10 + j, none⟩) hb]; exact hc i h j hj) ih
theorem Xat.mono (h : Xat w B a c L) (hB : B ≤ D) : Xat w D a c L := by
  induction h with
  | nil a c h => exact .nil a c h
  | put b o c L ga gc h1 h2 hb hk hc _ ih => exact .put b o c L ga gc h1 h2 (Nat.lt_of_lt_of_le hb hB) hk hc ih
theorem Xat.ext (h : Xat w w.heap.size a c L) (hx : Ext w w') : Xat w' w'.heap.size a c L := (h.blw hx).mono hx.size
theorem Xat.cap (h : Xat w B a c L) : L.length ≤ c ∧ c ≤ maxLen := by
  cases h with
  | nil _ _ h => exact ⟨Nat.zero_le _, h⟩
  | put _ _ _ _ _ _ h1 h2 => exact ⟨h1, h2⟩
theorem Xat.len (h : Xat w B a c L) : L.length ≤ maxLen := Nat.le_trans h.cap.1 h.cap.2
/-- Where the list's elements lie. -/
theorem Xat.at (h : Xat w B a c L) (h0 : 0 < L.length) : ∃ b o, a = some ⟨b, o, none⟩ ∧ b < B ∧ ∃ (ga : Nat → Option Addr) (gc : Nat → Nat), ∀ i (h : i < L.length),
    Xok L[i] ∧ (∀ j, j < 10 → w.cell? ⟨b, o + i * 10 + j, none⟩ = (xcs L[i] (ga i) (gc i))[j]?) ∧ Xat w B (ga i) (gc i) L[i].args := by
  cases h with
  | nil => simp at h0
  | put b o c L ga gc h1 h2 hb hk hc hs => exact ⟨b, o, rfl, hb, ga, gc, fun i h => ⟨hk _ (List.getElem_mem h), hc i h, hs i h⟩⟩
end
/-- An expression as it is handed on. -/
def Xv (w : World) (B : Nat) (v : Value) (x : Xp) : Prop := ∃ a c, v = xv x a c ∧ Xok x ∧ Xat w B a c x.args
theorem Xv.blw {w w' : World} {B : Nat} {v : Value} {x : Xp} (h : Xv w B v x) (hx : Below B w w') : Xv w' B v x := by
  obtain ⟨a, c, hv, hk, h⟩ := h
  exact ⟨a, c, hv, hk, h.blw hx⟩
theorem Xv.mono {w : World} {B D : Nat} {v : Value} {x : Xp} (h : Xv w B v x) (hB : B ≤ D) : Xv w D v x := by
  obtain ⟨a, c, hv, hk, h⟩ := h
  exact ⟨a, c, hv, hk, h.mono hB⟩
theorem Xv.ext {w w' : World} {v : Value} {x : Xp} (h : Xv w w.heap.size v x) (hx : Ext w w') : Xv w' w'.heap.size v x := (h.blw hx).mono hx.size
end Go.Proofs.YtnmdfhnfheekgaaDoor
