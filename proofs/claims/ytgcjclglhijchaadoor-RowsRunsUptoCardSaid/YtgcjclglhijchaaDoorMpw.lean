/- A map of the call's own: what each key holds, and how many keys there are; look-up with ok, store, delete, len. -/
import Derived.Test.YtgcjclglhijchaaDoorBlk
import Derived.Maps.OwnOps
import Derived.Maps.OwnSet
import Derived.DeepKeys4
import Derived.Carry
namespace Go.Proofs.YtgcjclglhijchaaDoor
open Go Go.RowKit Go.Maps
/-- Block b is a map: a key holds v just if f says so; n keys in all. -/
def MapAt (P : Program) (k : TypeId) (w : World) (b n : Nat) (f : Value → Option Value) : Prop :=
  ∃ es clock, w.heap[b]? = some (.map es clock) ∧ es.size = n ∧ (∀ e ∈ es.toList, ∃ l, keyOf P k e.key = some l) ∧ (es.toList.map MapEntry.key).Nodup ∧
    (∀ e ∈ es.toList, f e.key = some e.val) ∧ ∀ key v, f key = some v → ∃ e ∈ es.toList, e.key = key
section
variable {P : Program} {k t e : TypeId} {w w' : World} {b n : Nat} {f : Value → Option Value}
theorem MapAt.lt (h : MapAt P k w b n f) : b < w.heap.size := by
  obtain ⟨es, clock, hb, _⟩ := h
  exact (Array.getElem?_eq_some_iff.1 hb).1
theorem MapAt.blk (h : MapAt P k w b n f) (hw : w'.heap[b]? = w.heap[b]?) : MapAt P k w' b n f := by
  obtain ⟨es, clock, hb, r⟩ := h
  exact ⟨es, clock, hw.trans hb, r⟩
theorem MapAt.ext (h : MapAt P k w b n f) (hx : Ext w w') : MapAt P k w' b n f := h.blk (hx.block b h.lt)
theorem MapAt.grown {row : Option Nat} (h : MapAt P k w b n f) (hg : w.grownBy w' row) (hne : some b ≠ row) : MapAt P k w' b n f := h.blk (hg.block b h.lt hne)
theorem MapAt.setCell (h : MapAt P k w b n f) {a : Addr} (ha : b ≠ a.block) (v : Value) : MapAt P k (w.setCell a v) b n f := h.blk (Below.heap_setCell _ _ _ _ ha)
theorem MapAt.congr {g : Value → Option Value} (h : MapAt P k w b n f) (hg : ∀ v, f v = g v) : MapAt P k w b n g := by
  have : f = g := funext hg
  rw [← this]; exact h
theorem MapAt.made (P : Program) (k : TypeId) (w : World) : MapAt P k (w.alloc (.map #[] 0)) w.heap.size 0 (fun _ => none) :=
  ⟨#[], 0, (MapKept.heap_alloc w _).1, rfl, by simp, by simp, by simp, by simp⟩
theorem MapAt.look (K : Keyed P k) (ht : P.underlying t = some (.map k e)) {z : Value} (hz : ∀ w, (zeroValue e).run P w = .ok z w) (h : MapAt P k w b n f) {key : Value} {kl : Lit} (hkey : keyOf P k key = some kl) :
    (Instr.lookup t (.map (some b)) key true).run P w = .ok (.tuple #[(f key).getD z, .bool (f key).isSome]) w := by
  obtain ⟨es, clock, hb, hn, hk, hd, hv, ha⟩ := h
  rcases K.find w hkey es.toList hk with ⟨h1, h2⟩ | ⟨j, e0, h1, h2, h3⟩
  · have e1 : f key = none := by
      cases hf : f key with
      | none => rfl
      | some v => obtain ⟨x, hx, e⟩ := ha _ _ hf; exact absurd e (h2 x hx)
    rw [e1]
    simp [Instr.lookup, run_underlying ht, MapKept.run_getObj_map hb, K.check w _ hkey, h1, hz w, Result.andThen]
  · have e1 := hv e0 (List.mem_of_getElem? h2)
    rw [h3] at e1
    rw [e1]
    simp [Instr.lookup, run_underlying ht, MapKept.run_getObj_map hb, K.check w _ hkey, h1, Result.andThen]
theorem MapAt.store_new (K : Keyed P k) (ht : P.underlying t = some (.map k e)) (h : MapAt P k w b n f) {key val : Value} {kl : Lit} (hkey : keyOf P k key = some kl) (hf : f key = none) {g : Value → Option Value} (g1 : g key = some val) (g2 : ∀ x, x ≠ key → g x = f x) :
    ∃ w', (Instr.mapUpdate t (.map (some b)) key val).run P w = .ok () w' ∧ MapAt P k w' b (n + 1) g ∧ w.grownBy w' (some b) ∧ w'.heap.size = w.heap.size := by
  obtain ⟨es, clock, hb, hn, hk, hd, hv, ha⟩ := h
  rcases K.find w hkey es.toList hk with ⟨h1, h2⟩ | ⟨j, e0, h1, h2, h3⟩
  · refine ⟨{ w with heap := w.heap.setIfInBounds b (.map (es.push ⟨key, val, clock⟩) (clock + 1)) }, by simp [Instr.mapUpdate, run_underlying ht, MapKept.run_getObj_map hb, K.check w false hkey, h1, MapKept.run_setObj_map _ hb, Result.andThen], ⟨es.push ⟨key, val, clock⟩, clock + 1, (MapKept.heap_set hb).1, by simp [hn], ?_, ?_, ?_, ?_⟩, ⟨rfl, rfl, rfl, by simp, fun k hk hn => (MapKept.heap_set hb).2 k fun q => hn (by rw [q])⟩, by simp⟩
    · intro x hx
      simp only [Array.toList_push, List.mem_append, List.mem_singleton] at hx
      rcases hx with hx | rfl
      · exact hk x hx
      · exact ⟨kl, hkey⟩
    · rw [Array.toList_push, List.map_append, List.nodup_append]
      refine ⟨hd, by simp, ?_⟩
      intro x hx y hy
      obtain ⟨z, hz, rfl⟩ := List.mem_map.1 hx
      simp at hy
      subst hy
      exact h2 z hz
    · intro x hx
      simp only [Array.toList_push, List.mem_append, List.mem_singleton] at hx
      rcases hx with hx | rfl
      · rw [g2 _ (h2 x hx)]; exact hv x hx
      · exact g1
    · intro x v hx
      simp only [Array.toList_push, List.mem_append, List.mem_singleton]
      by_cases e : x = key
      · exact ⟨_, .inr rfl, e.symm⟩
      · rw [g2 _ e] at hx
        obtain ⟨y, hy, e⟩ := ha _ _ hx
        exact ⟨y, .inl hy, e⟩
  · have e1 := hv e0 (List.mem_of_getElem? h2)
    rw [h3, hf] at e1
    cases e1
theorem MapAt.drop (K : Keyed P k) (ht : P.underlying t = some (.map k e)) {ty : TypeId} (h : MapAt P k w b n f) {key : Value} {kl : Lit} (hkey : keyOf P k key = some kl) {g : Value → Option Value} (g1 : g key = none) (g2 : ∀ x, x ≠ key → g x = f x) :
    ∃ w' n', (Builtin.delete_ #[t, k] ty #[.map (some b), key]).run P w = .ok (.tuple #[]) w' ∧ MapAt P k w' b n' g ∧ n' ≤ n ∧ w.grownBy w' (some b) ∧ w'.heap.size = w.heap.size := by
  obtain ⟨es, clock, hb, hn, hk, hd, hv, ha⟩ := h
  rcases K.find w hkey es.toList hk with ⟨h1, h2⟩ | ⟨j, e0, h1, h2, h3⟩
  · refine ⟨{ w with heap := w.heap.setIfInBounds b (.map es clock) }, n, by simp [Builtin.delete_, run_underlying ht, MapKept.run_getObj_map hb, K.check w _ hkey, h1, MapKept.run_setObj_map _ hb, Result.andThen], ⟨es, clock, (MapKept.heap_set hb).1, hn, hk, hd, ?_, ?_⟩, Nat.le_refl _, ⟨rfl, rfl, rfl, by simp, fun k hk hn => (MapKept.heap_set hb).2 k fun q => hn (by rw [q])⟩, by simp⟩
    · intro x hx
      rw [g2 _ (h2 x hx)]; exact hv x hx
    · intro x v hx
      by_cases e : x = key
      · rw [e, g1] at hx; cases hx
      · rw [g2 _ e] at hx; exact ha _ _ hx
  · have hjl : j < es.toList.length := (List.getElem?_eq_some_iff.1 h2).1
    have hjs : j < es.size := by simpa using hjl
    have hsub : (es.eraseIdxIfInBounds j).toList = es.toList.eraseIdx j := by
      unfold Array.eraseIdxIfInBounds
      rw [dif_pos hjs]
      simp
    have hne : ∀ x ∈ es.toList.eraseIdx j, x ∈ es.toList ∧ x.key ≠ key := by
      intro x hx
      obtain ⟨i, hij, hi⟩ := List.mem_eraseIdx_iff_getElem?.1 hx
      refine ⟨List.mem_of_getElem? hi, fun e => hij ?_⟩
      have a1 : (es.toList.map MapEntry.key)[i]? = some key := by rw [List.getElem?_map, hi]; simp [e]
      have a2 : (es.toList.map MapEntry.key)[j]? = some key := by rw [List.getElem?_map, h2]; simp [h3]
      obtain ⟨li, gi⟩ := List.getElem?_eq_some_iff.1 a1
      obtain ⟨lj, gj⟩ := List.getElem?_eq_some_iff.1 a2
      have hpw := List.pairwise_iff_getElem.1 hd
      rcases Nat.lt_trichotomy i j with q | q | q
      · exact absurd (gi.trans gj.symm) (hpw i j li lj q)
      · exact q
      · exact absurd (gj.trans gi.symm) (hpw j i lj li q)
    refine ⟨{ w with heap := w.heap.setIfInBounds b (.map (es.eraseIdxIfInBounds j) clock) }, (es.eraseIdxIfInBounds j).size, by simp [Builtin.delete_, run_underlying ht, MapKept.run_getObj_map hb, K.check w _ hkey, h1, MapKept.run_setObj_map _ hb, Result.andThen], ⟨es.eraseIdxIfInBounds j, clock, (MapKept.heap_set hb).1, rfl, ?_, ?_, ?_, ?_⟩, ?_, ⟨rfl, rfl, rfl, by simp, fun k hk hn => (MapKept.heap_set hb).2 k fun q => hn (by rw [q])⟩, by simp⟩
    · intro x hx
      rw [hsub] at hx
      exact hk x (hne x hx).1
    · rw [hsub]
      exact hd.sublist ((List.eraseIdx_sublist _ _).map _)
    · intro x hx
      rw [hsub] at hx
      rw [g2 _ (hne x hx).2]
      exact hv x (hne x hx).1
    · intro x v hx
      by_cases e : x = key
      · rw [e, g1] at hx; cases hx
      · rw [g2 _ e] at hx
        obtain ⟨y, hy, e2⟩ := ha _ _ hx
        refine ⟨y, ?_, e2⟩
        rw [hsub]
        obtain ⟨i, hi, gi⟩ := List.getElem_of_mem hy
        refine List.mem_eraseIdx_iff_getElem?.2 ⟨i, fun q => e ?_, by rw [List.getElem?_eq_getElem hi, gi]⟩
        subst q
        rw [List.getElem?_eq_getElem hi, gi] at h2
        cases h2
        rw [← e2, h3]
    · rw [← hn]; exact MapFrom.size_erase es j
theorem MapAt.len (h : MapAt P k w b n f) {ty : TypeId} (ht : P.underlying t = some (.map k e)) : (Builtin.len_ #[t] ty #[.map (some b)]).run P w = .ok (.int .i64 (n : Int)) w := by
  obtain ⟨es, clock, hb, hn, _⟩ := h
  subst hn
  simp [Builtin.len_, run_underlying ht, MapKept.run_getObj_map hb, Result.andThen, goInt]
end
section
variable {P : Program} (w : World) {ops : Array Oper} {rest : List Oper} {o : Oper} {a : Act} {Q : Exit → Act → World → Prop} {t k e : TypeId} {b n : Nat} {f : Value → Option Value}
theorem wpList_look_at (hg : o.guard = none) (m x : Operand) (hop : o.op = Op.lookup t m x true) (K : Keyed P k) (ht : P.underlying t = some (.map k e)) {z : Value} (hz : ∀ w, (zeroValue e).run P w = .ok z w)
    (hm : a.eval m = .map (some b)) (h : MapAt P k w b n f) (key : Value) (kl : Lit) (hx : a.eval x = key) (hkey : keyOf P k key = some kl) (v : Value) (ok : Bool) (hq : (f key).getD z = v ∧ (f key).isSome = ok)
    (hK : wpList P ops Q rest (a.put o.dst (.tuple #[v, .bool ok])) w) : wpList P ops Q (o :: rest) a w := by
  refine wpList_plain hg fun K' hK' => ?_
  have hrun := h.look K ht hz hkey
  rw [hq.1, hq.2] at hrun
  unfold Oper.wp
  simp [execOp, hop, hm, hx, hrun, Result.andThen]
  exact hK' _ _ hK
theorem wpList_put_at (hg : o.guard = none) (m x y : Operand) (hop : o.op = Op.mapUpdate t m x y ∨ o.op = Op.insert t m x y) (K : Keyed P k) (ht : P.underlying t = some (.map k e))
    (hm : a.eval m = .map (some b)) (h : MapAt P k w b n f) (key val : Value) (kl : Lit) (hx : a.eval x = key) (hy : a.eval y = val) (hkey : keyOf P k key = some kl) (hf : f key = none) (g : Value → Option Value) (g1 : g key = some val) (g2 : ∀ x, x ≠ key → g x = f x)
    (hK : ∀ w', MapAt P k w' b (n + 1) g → w.grownBy w' (some b) → w'.heap.size = w.heap.size → wpList P ops Q rest (a.put o.dst undef) w') : wpList P ops Q (o :: rest) a w := by
  refine wpList_plain hg fun K' hK' => ?_
  obtain ⟨w', hrun, h1, h2, h3⟩ := h.store_new K ht (val := val) hkey hf g1 g2
  unfold Oper.wp
  rcases hop with hop | hop <;> simp [execOp, hop, hm, hx, hy, hrun, Result.andThen] <;> exact hK' _ _ (hK w' h1 h2 h3)
theorem wpList_len_at (hg : o.guard = none) (m : Operand) (hop : o.op = Op.call { callee := Callee.builtin Builtin.len, args := #[m], argTypes := #[t] }) (ht : P.underlying t = some (.map k e))
    (hm : a.eval m = .map (some b)) (h : MapAt P k w b n f) (hK : wpList P ops Q rest (a.put o.dst (.int .i64 (n : Int))) w) : wpList P ops Q (o :: rest) a w := by
  refine wpList_plain hg fun K' hK' => ?_
  have hrun := fun ty => h.len (ty := ty) ht
  unfold Oper.wp
  simp [execOp, hop, resolve, invoke, builtin, hm, hrun, Result.andThen]
  exact hK' _ _ hK
end
end Go.Proofs.YtgcjclglhijchaaDoor
