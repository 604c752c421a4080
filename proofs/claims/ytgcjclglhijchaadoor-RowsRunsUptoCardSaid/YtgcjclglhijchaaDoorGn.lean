/- What layer 12 showed of lists of one's own, without the program that it was shown for (made by tplgen.py of Nbr Ren Whl Ptr Mrk Tak Ldg Prt Cls Lst2 Ddq). -/
import Derived.Test.YtgcjclglhijchaaDoorProg
import Derived.Test.YtgcjclglhijchaaDoorMpw
import Derived.Test.YtgcjclglhijchaaDoorOw
import Derived.WalkSpells
import Derived.Lib.Hide
import Derived.LoopTactic
import Derived.Outline
import Derived.Test.YtgcjclglhijchaaDoorDen
import Derived.Handy
import Derived.Test.YtgcjclglhijchaaDoorLkf
import Derived.RegionTactic
import Derived.Deep.CutBlock
import Derived.Deep.CutRange
import Derived.Test.YtgcjclglhijchaaDoorDfa
import Derived.BigQuiet
import Derived.Deep.QuietTactic
import Derived.BigRegion
import Derived.Test.YtgcjclglhijchaaDoorChm
import Derived.Deep.Upon
import Derived.Deep.MidRow
import Derived.Laws.Tables
import Derived.Laws.AppendOwnNone
import Derived.Deep.AppendLies
import Derived.Deep.LoopGhost
import Derived.Maps.AppendAt
namespace Go.Proofs.YtgcjclglhijchaaDoor
open Go Go.RowKit Go.Maps
end Go.Proofs.YtgcjclglhijchaaDoor
namespace Go.Proofs.YtgcjclglhijchaaDoor
open Go Go.RowKit
theorem info_int : (Tryd.prog.info? 3).map (fun i => (i.zero, i.size, i.bytes)) = some (some (.int .i64 0), 1, 8) := by kernel_rfl
theorem own_ne_map {P : Program} {w : World} {base e sz n k m b : Nat} {v : Value} {xs : List Value} {f : Value → Option Value} (h : w.ownsRow base e sz v n xs) (hm : MapAt P k w b m f) : v.ownBlock ≠ some b := by
  intro q
  obtain ⟨es, clock, hb, _⟩ := hm
  rcases h.2 with ⟨rfl, _⟩ | ⟨g, cap, cur, rfl, _, hg, _⟩
  · cases q
  · simp [Value.ownBlock] at q
    subst q
    rw [hb] at hg
    cases hg
end Go.Proofs.YtgcjclglhijchaaDoor
namespace Go.Proofs.YtgcjclglhijchaaDoor
open Go Go.RowKit
abbrev nv (x : Nat) : Value := .int .i64 (x : Int)
theorem own_set {w : World} {base e sz n b i : Nat} {v u : Value} {xs : List Value} (h : w.ownsRow base e sz v n xs) (hne : v.ownBlock ≠ some b) : (w.setCell ⟨b, i, none⟩ u).ownsRow base e sz v n xs :=
  h.kept (row := some b) ⟨rfl, rfl, rfl, by simp [World.setCell], fun k _ hk => Below.heap_setCell _ _ _ _ (fun e => hk (by rw [e]))⟩ (.inr hne)
def Dj (v v' : Value) : Prop := ∀ g, v.ownBlock = some g → v'.ownBlock ≠ some g
theorem own_ne_own {w : World} {base base' e e' sz sz' n n' : Nat} {v v' : Value} {xs xs' : List Value} (h : w.ownsRow base e sz v n xs) (h' : w.ownsRow base' e' sz' v' n' xs') (hne : e ≠ e') : ∀ g, v'.ownBlock = some g → v.ownBlock ≠ some g := by
  intro g hg q
  rcases h.2 with ⟨rfl, _⟩ | ⟨g1, cap, cur, rfl, _, hg1, _⟩
  · cases q
  · rcases h'.2 with ⟨rfl, _⟩ | ⟨g2, cap2, cur2, rfl, _, hg2, _⟩
    · cases hg
    · simp [Value.ownBlock] at q hg
      subst q
      subst hg
      rw [hg2] at hg1
      simp only [Option.some.injEq, Obj.cells.injEq] at hg1
      exact hne hg1.2.1.symm
end Go.Proofs.YtgcjclglhijchaaDoor
namespace Go.Proofs.YtgcjclglhijchaaDoor
open Go Go.RowKit
theorem drn_ext (w : World) (n : Nat) : Ext w (w.drewN n) := ⟨rfl, rfl, rfl, Nat.le_refl _, fun _ _ => rfl⟩
/-- Only blocks of S turn. -/
def Fr (S : Nat → Prop) (w w' : World) : Prop := w'.os = w.os ∧ w'.tape = w.tape ∧ w'.output = w.output ∧ w.heap.size ≤ w'.heap.size ∧ ∀ k, k < w.heap.size → ¬ S k → w'.heap[k]? = w.heap[k]?
section
variable {S S' : Nat → Prop} {w w' w2 : World}
theorem Fr.refl (S : Nat → Prop) (w : World) : Fr S w w := ⟨rfl, rfl, rfl, Nat.le_refl _, fun _ _ _ => rfl⟩
theorem Fr.trans (h : Fr S w w') (k : Fr S' w' w2) (hs : ∀ k, k < w.heap.size → S' k → S k) : Fr S w w2 :=
  ⟨k.1.trans h.1, k.2.1.trans h.2.1, k.2.2.1.trans h.2.2.1, Nat.le_trans h.2.2.2.1 k.2.2.2.1, fun i hi hn => (k.2.2.2.2 i (Nat.lt_of_lt_of_le hi h.2.2.2.1) (fun q => hn (hs i hi q))).trans (h.2.2.2.2 i hi hn)⟩
theorem Fr.mono (h : Fr S w w') (hs : ∀ k, k < w.heap.size → S k → S' k) : Fr S' w w' := ⟨h.1, h.2.1, h.2.2.1, h.2.2.2.1, fun i hi hn => h.2.2.2.2 i hi (fun q => hn (hs i hi q))⟩
theorem Fr.of_ext (h : Ext w w') : Fr S w w' := ⟨h.os, h.tape, h.output, h.size, fun k hk _ => h.block k hk⟩
theorem Fr.of_grown {row : Option Nat} (h : w.grownBy w' row) (hs : ∀ k, row = some k → S k) : Fr S w w' := ⟨h.os, h.tape, h.output, h.size, fun k hk hn => h.block k hk (fun e => hn (hs k e.symm))⟩
theorem Fr.set (h : Fr S w w') {b i : Nat} (hb : S b ∨ w.heap.size ≤ b) (u : Value) : Fr S w (w'.setCell ⟨b, i, none⟩ u) :=
  ⟨h.1, h.2.1, h.2.2.1, by simpa [World.setCell] using h.2.2.2.1, fun k hk hn => by
    rw [Below.heap_setCell _ _ _ _ (show k ≠ (⟨b, i, none⟩ : Addr).block from fun e => by
      have e : k = b := e
      subst e
      rcases hb with q | q
      · exact hn q
      · omega)]
    exact h.2.2.2.2 k hk hn⟩
theorem Fr.below {B : Nat} (h : Fr S w w') (hB : B ≤ w.heap.size) (hs : ∀ k, k < B → ¬ S k) : Below B w w' := ⟨h.1, h.2.1, h.2.2.1, h.2.2.2.1, fun k hk => h.2.2.2.2 k (by omega) (hs k hk)⟩
theorem Fr.blk {b : Nat} {vs : Array Value} {t : TypeId} (h : Fr S w w') (hb : Blk w b vs t) (hn : ¬ S b) : Blk w' b vs t := by
  have := hb.lt
  unfold Blk at *
  rw [h.2.2.2.2 b this hn]; exact hb
theorem Fr.cell {b o : Nat} {v : Value} (h : Fr S w w') (hv : w.cell? ⟨b, o, none⟩ = some v) (hn : ¬ S b) : w'.cell? ⟨b, o, none⟩ = some v := by
  rw [World.cell?_of_block (w := w) (h.2.2.2.2 b (World.block_lt_of_cell? w (⟨b, o, none⟩ : Addr) hv) hn)]; exact hv
theorem Fr.own {B e sz n : Nat} {v : Value} {xs : List Value} (h : Fr S w w') (ho : w.ownsRow B e sz v n xs) (hn : ∀ k, v.ownBlock = some k → ¬ S k) : w'.ownsRow B e sz v n xs := by
  obtain ⟨h1, h2 | ⟨g, cap, cur, hv, hb, hh, rest⟩⟩ := ho
  · exact ⟨h1, .inl h2⟩
  · exact ⟨h1, .inr ⟨g, cap, cur, hv, hb, by rw [h.2.2.2.2 g (Array.getElem?_eq_some_iff.1 hh).1 (hn g (by rw [hv]; rfl))]; exact hh, rest⟩⟩
end
/-- A slice whose cells lie in a block of Q. -/
def SlcQ (Q : Nat → Prop) (w : World) (v : Value) (n : Nat) (cs : List Value) : Prop :=
  ∃ a cap, v = .slice a n cap ∧ n ≤ cap ∧ cap ≤ maxLen ∧ (cs = [] ∨ ∃ b o, a = some ⟨b, o, none⟩ ∧ Q b ∧ b < w.heap.size ∧ ∀ i, i < cs.length → w.cell? ⟨b, o + i, none⟩ = cs[i]?)
def Nats (Q : Nat → Prop) (w : World) (v : Value) (L : List Nat) : Prop := SlcQ Q w v L.length (L.map nv)
theorem SlcQ.fr {Q S : Nat → Prop} {w w' : World} {v : Value} {n : Nat} {cs : List Value} (h : SlcQ Q w v n cs) (hx : Fr S w w') (hq : ∀ k, k < w.heap.size → Q k → ¬ S k) : SlcQ Q w' v n cs := by
  obtain ⟨a, cap, e, h1, h2, h | ⟨b, o, ha, hQ, hb, h⟩⟩ := h
  · exact ⟨a, cap, e, h1, h2, .inl h⟩
  · refine ⟨a, cap, e, h1, h2, .inr ⟨b, o, ha, hQ, Nat.lt_of_lt_of_le hb hx.2.2.2.1, fun i hi => ?_⟩⟩
    rw [World.cell?_of_block (w := w) (hx.2.2.2.2 b hb (hq b hb hQ))]; exact h i hi
theorem SlcQ.ext {Q : Nat → Prop} {w w' : World} {v : Value} {n : Nat} {cs : List Value} (h : SlcQ Q w v n cs) (hx : Ext w w') : SlcQ Q w' v n cs := h.fr (Fr.of_ext (S := fun _ => False) hx) (fun _ _ _ q => q)
theorem Nats.shape {Q : Nat → Prop} {w : World} {v : Value} {L : List Nat} (h : Nats Q w v L) : ∃ a cap, v = .slice a L.length cap := by
  obtain ⟨a, cap, e, _⟩ := h
  exact ⟨a, cap, e⟩
theorem Nats.cell {Q : Nat → Prop} {w : World} {a : Option Addr} {n cap : Nat} {L : List Nat} (h : Nats Q w (.slice a n cap) L) {k : Nat} (hk : k < L.length) : ∃ b o, a = some ⟨b, o, none⟩ ∧ Q b ∧ b < w.heap.size ∧ w.cell? ⟨b, o + k, none⟩ = some (.int .i64 ((L[k] : Nat) : Int)) := by
  obtain ⟨a', cap', e, h1, h2, h⟩ := h
  cases e
  rcases h with h | ⟨b, o, rfl, hQ, hb, h⟩
  · have := congrArg List.length h; rw [List.length_map, List.length_nil] at this; omega
  · refine ⟨b, o, rfl, hQ, hb, ?_⟩
    rw [h k (by simpa using hk)]
    simp [List.getElem?_eq_getElem hk]
/-- What parting writes. -/
theorem own_some {w : World} {B e sz n : Nat} {v : Value} {xs : List Value} (h : w.ownsRow B e sz v n xs) (hn : 0 < n) : ∃ g cap, v = .slice (some ⟨g, 0, none⟩) n cap ∧ n ≤ cap ∧ B ≤ g ∧ g < w.heap.size ∧ cap ≤ maxLen := by
  obtain ⟨_, ⟨_, h2⟩ | ⟨g, cap, cur, hv, hb, hh, h3, h4, _⟩⟩ := h
  · omega
  · exact ⟨g, cap, hv, h3, hb, (Array.getElem?_eq_some_iff.1 hh).1, h4⟩
end Go.Proofs.YtgcjclglhijchaaDoor
namespace Go.Proofs.YtgcjclglhijchaaDoor
open Go Go.RowKit
end Go.Proofs.YtgcjclglhijchaaDoor
namespace Go.Proofs.YtgcjclglhijchaaDoor
open Go Go.RowKit
end Go.Proofs.YtgcjclglhijchaaDoor
namespace Go.Proofs.YtgcjclglhijchaaDoor
open Go Go.RowKit Go.Maps
end Go.Proofs.YtgcjclglhijchaaDoor
namespace Go.Proofs.YtgcjclglhijchaaDoor
open Go Go.RowKit
abbrev nilS : Value := .slice none 0 0
/-- A list of one's own, told: nowhere, or from a block's beginning on. -/
def Nown (Q : Nat → Prop) (w : World) (v : Value) (L : List Nat) : Prop := (v = nilS ∧ L = []) ∨ ∃ g cap, v = .slice (some ⟨g, 0, none⟩) L.length cap ∧ Q g ∧ g < w.heap.size ∧ ∀ i (h : i < L.length), w.cell? ⟨g, i, none⟩ = some (.int .i64 ((L[i] : Nat) : Int))
theorem Nown.fr {Q S : Nat → Prop} {w w' : World} {v : Value} {L : List Nat} (h : Nown Q w v L) (hx : Fr S w w') (hq : ∀ k, k < w.heap.size → Q k → ¬ S k) : Nown Q w' v L := by
  rcases h with h | ⟨g, cap, e, hQ, hg, h⟩
  · exact .inl h
  · exact .inr ⟨g, cap, e, hQ, Nat.lt_of_lt_of_le hg hx.2.2.2.1, fun i hi => hx.cell (h i hi) (hq g hg hQ)⟩
/-- A block of numbers, or of lists of numbers. -/
def Cb (w : World) (g : Nat) : Prop := ∃ cur t, w.heap[g]? = some (.cells cur t (0, 0)) ∧ (t = 3 ∨ t = 26)
theorem own_cb {w : World} {B e sz n g : Nat} {v : Value} {xs : List Value} (h : w.ownsRow B e sz v n xs) (he : e = 3 ∨ e = 26) (hg : v.ownBlock = some g) : Cb w g := by
  obtain ⟨_, ⟨rfl, _⟩ | ⟨g', cap, cur, rfl, _, hh, _⟩⟩ := h
  · cases hg
  · cases hg
    exact ⟨cur, e, hh, he⟩
theorem Cb.fr {w w' : World} {S : Nat → Prop} {g : Nat} (h : Cb w g) (hx : Fr S w w') (hn : ¬ S g) : Cb w' g := by
  obtain ⟨cur, t, h1, h2⟩ := h
  exact ⟨cur, t, by rw [hx.2.2.2.2 g (Array.getElem?_eq_some_iff.1 h1).1 hn]; exact h1, h2⟩
theorem list_cell {w : World} {b t c : Nat} {F : List Value} (h : Blk w b F.toArray t) (hc : c < F.length) : w.cell? ⟨b, c, none⟩ = some (F.getD c nilS) := by
  rw [h.cell c, getD_get hc]; simp [hc]
theorem list_set {w : World} {b t c : Nat} {F : List Value} (h : Blk w b F.toArray t) (u : Value) : Blk (w.setCell ⟨b, c, none⟩ u) b (F.set c u).toArray t := by
  have := h.set c u
  simpa using this
theorem results_cell1 {fn : Func} {p : Tmp} {ty : TypeId} (h : fn.results = #[.cell p ty]) (tmps : Array Value) (P : Program) (w : World) :
    (results fn tmps).run P w = ((asAddr (tmps.getD p undef)).run P w).andThen fun a w₁ => (loadVar ty a).run P w₁ := by
  simp only [results, h]
  simp [Sem.run_bind, Result.andThen]
theorem info_sli : (Tryd.prog.info? 26).map (fun i => (i.zero, i.size, i.bytes)) = some (some nilS, 1, 24) := by kernel_rfl
end Go.Proofs.YtgcjclglhijchaaDoor
namespace Go.Proofs.YtgcjclglhijchaaDoor
open Go Go.RowKit
end Go.Proofs.YtgcjclglhijchaaDoor
namespace Go.Proofs.YtgcjclglhijchaaDoor
open Go Go.RowKit
end Go.Proofs.YtgcjclglhijchaaDoor
namespace Go.Proofs.YtgcjclglhijchaaDoor
open Go Go.RowKit
end Go.Proofs.YtgcjclglhijchaaDoor
namespace Go.Proofs.YtgcjclglhijchaaDoor
open Go Go.RowKit
section
variable {w wr : World} {B b mb n g : Nat} {v1 v2 v3 : Value} {F : List Value} {dl : Nat → Nat → Nat} {lab : Nat → Int} {X : List Spl}
end
end Go.Proofs.YtgcjclglhijchaaDoor
namespace Go.Proofs.YtgcjclglhijchaaDoor
open Go Go.RowKit
section
variable {dl : Nat → Nat → Nat} {cl : Nat → Int}
end
theorem own_ex {w w' : World} {B e sz n : Nat} {v : Value} {xs : List Value} (h : w.ownsRow B e sz v n xs) (hx : Ext w w') : w'.ownsRow B e sz v n xs := (Fr.of_ext (S := fun _ => False) hx).own h (fun _ _ q => q)
/-- An automaton of one's own, as it lies. -/
structure OwnD (w : World) (B : Nat) (vN vL : Value) (vs : List Value) (m : Dd) : Prop where
  rn : w.ownsRow B 26 1 vN m.nx.length vs
  rl : w.ownsRow B 3 1 vL m.lb.length (m.lb.map iv)
  en : ∀ j, j < m.nx.length → w.ownsRow B 3 1 (vs.getD j nilS) (m.nx.getD j []).length ((m.nx.getD j []).map iv)
  dl : ∀ j, j < m.nx.length → Dj vL (vs.getD j nilS)
  dd : ∀ j k, j < m.nx.length → k < m.nx.length → j ≠ k → Dj (vs.getD j nilS) (vs.getD k nilS)
end Go.Proofs.YtgcjclglhijchaaDoor
namespace Go.Proofs.YtgcjclglhijchaaDoor
open Go Go.RowKit
theorem OwnD.put {w : World} {B b k : Nat} {vN vL u : Value} {vs : List Value} {m : Dd} (h : OwnD w B vN vL vs m) (hb : b < B) : OwnD (w.setCell ⟨b, k, none⟩ u) B vN vL vs m :=
  ⟨own_set h.rn (fun q => by have := (h.rn.lt b q).1; omega), own_set h.rl (fun q => by have := (h.rl.lt b q).1; omega), fun j hj => own_set (h.en j hj) (fun q => by have := ((h.en j hj).lt b q).1; omega), h.dl, h.dd⟩
theorem OwnD.mono {w : World} {B B' : Nat} {vN vL : Value} {vs : List Value} {m : Dd} (h : OwnD w B vN vL vs m) (hb : B' ≤ B) : OwnD w B' vN vL vs m :=
  ⟨h.rn.mono hb, h.rl.mono hb, fun j hj => (h.en j hj).mono hb, h.dl, h.dd⟩
end Go.Proofs.YtgcjclglhijchaaDoor
namespace Go.Proofs.YtgcjclglhijchaaDoor
open Go Go.RowKit
theorem OwnD.ext {w w' : World} {B : Nat} {vN vL : Value} {vs : List Value} {m : Dd} (h : OwnD w B vN vL vs m) (hx : Ext w w') : OwnD w' B vN vL vs m :=
  ⟨own_ex h.rn hx, own_ex h.rl hx, fun j hj => own_ex (h.en j hj) hx, h.dl, h.dd⟩
theorem iv_one (x : Int) : ∀ u ∈ [iv x], u.oneCell' = true := by
  intro u hu
  rw [List.mem_singleton.1 hu]; rfl
theorem nat_cell {w : World} {B g n c : Nat} {L : List Nat} (h : w.ownsRow B 3 1 (.slice (some ⟨g, 0, none⟩) n c) n (L.map nv)) {i : Nat} (hi : i < n) (hl : L.length = n) : w.cell? ⟨g, i, none⟩ = some (.int .i64 ((L.getD i 0 : Nat) : Int)) := by
  rw [h.cellAt i (by omega), List.getElem?_map, List.getElem?_eq_getElem (by omega), getD_get (by omega)]
  rfl
instance : G.GOK Ext := ⟨fun w => Below.refl _ w, fun h k => bel_call h k, fun _ => ⟨rfl, rfl, rfl, Nat.le_refl _, fun _ _ => rfl⟩⟩
def RsF (l : List (Nat × (Value → World → Prop))) : Nat → Option (Value → World → Prop) := fun j => (l.find? fun p => p.1 == j).map fun p => p.2
theorem RsF_mono {Z : World → World → Prop} {l : List (Nat × (Value → World → Prop))} (h : ∀ p ∈ l, G.Mono Z p.2) : G.RsMono Z (RsF l) := by
  intro j R hj
  unfold RsF at hj
  obtain ⟨p, hp, rfl⟩ := Option.map_eq_some_iff.1 hj
  exact h p (List.mem_of_find?_eq_some hp)
end Go.Proofs.YtgcjclglhijchaaDoor
