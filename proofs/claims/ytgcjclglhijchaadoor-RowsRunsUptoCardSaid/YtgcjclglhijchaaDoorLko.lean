/- Worlds that grow, one block of whose cells may turn to what is said (or none): an append onto a list of one's own in a region whose order is open. -/
import Derived.Test.YtgcjclglhijchaaDoorStabG
import Derived.Test.YtgcjclglhijchaaDoorOw
import Derived.Laws.AppendOwn
import Derived.Deep.AppendLies
namespace Go.Proofs.YtgcjclglhijchaaDoor
open Go Go.RowKit
/-- w' is w grown, but that the first N cells of the block X may have turned to T. -/
def LkO (X : Option Nat) (N : Nat) (T : Nat → Option Value) (w w' : World) : Prop :=
  (w'.os = w.os ∧ w'.tape = w.tape ∧ w'.output = w.output ∧ w.heap.size ≤ w'.heap.size) ∧ (∀ k, k < w.heap.size → X ≠ some k → w'.heap[k]? = w.heap[k]?) ∧
  ∀ g, X = some g → ∀ c t f, w.heap[g]? = some (.cells c t f) → ∃ c', w'.heap[g]? = some (.cells c' t f) ∧ c'.size = c.size ∧ ∀ i, i < N → c'[i]? = c[i]? ∨ c'[i]? = T i
section
variable {X : Option Nat} {N : Nat} {T : Nat → Option Value} {w w' : World}
theorem LkO.of_ext (h : Ext w w') : LkO X N T w w' :=
  ⟨⟨h.os, h.tape, h.output, h.size⟩, fun k hk _ => h.block k hk, fun g _ c t f hc => ⟨c, by rw [h.block g (Array.getElem?_eq_some_iff.1 hc).1]; exact hc, rfl, fun _ _ => .inl rfl⟩⟩
theorem LkO.refl (u : World) : LkO X N T u u := LkO.of_ext (Below.refl _ u)
theorem LkO.trans {a b c : World} (h : LkO X N T a b) (k : LkO X N T b c) : LkO X N T a c := by
  obtain ⟨⟨h1, h2, h3, h4⟩, h5, h6⟩ := h
  obtain ⟨⟨k1, k2, k3, k4⟩, k5, k6⟩ := k
  refine ⟨⟨k1.trans h1, k2.trans h2, k3.trans h3, Nat.le_trans h4 k4⟩, fun i hi hg => (k5 i (Nat.lt_of_lt_of_le hi h4) hg).trans (h5 i hi hg), fun g hg c t f hc => ?_⟩
  obtain ⟨c1, e1, e2, e3⟩ := h6 g hg c t f hc
  obtain ⟨c2, f1, f2, f3⟩ := k6 g hg c1 t f e1
  refine ⟨c2, f1, f2.trans e2, fun i hi => ?_⟩
  rcases f3 i hi with h | h
  · rw [h]; exact e3 i hi
  · exact .inr h
theorem LkO.drawn (w : World) : LkO X N T w { w with drawn := w.drawn + 1 } := LkO.of_ext ⟨rfl, rfl, rfl, Nat.le_refl _, fun _ _ => rfl⟩
instance : G.GOK (LkO X N T) := ⟨LkO.refl, LkO.trans, LkO.drawn⟩
theorem LkO.blk {b : Nat} {vs : Array Value} {t : TypeId} (h : LkO X N T w w') (hb : Blk w b vs t) (hg : X ≠ some b) : Blk w' b vs t := by
  have := hb.lt
  unfold Blk at *
  rw [h.2.1 b this hg]; exact hb
theorem own_lko {b e sz m : Nat} {v : Value} {ys : List Value} (h : w.ownsRow b e sz v m ys) (hx : LkO X N T w w') (hT : ∀ i, i < ys.length → i < N ∧ T i = ys[i]?) : w'.ownsRow b e sz v m ys := by
  obtain ⟨h1, h2 | ⟨g', cap, cur, hv, hg, hh, h3, h4, h5, h6⟩⟩ := h
  · exact ⟨h1, .inl h2⟩
  · by_cases e1 : X = some g'
    · obtain ⟨c', k1, k2, k3⟩ := hx.2.2 g' e1 cur _ _ hh
      refine ⟨h1, .inr ⟨g', cap, c', hv, hg, k1, h3, h4, k2.trans h5, ?_⟩⟩
      apply List.ext_getElem?
      intro i
      rw [List.getElem?_take]
      by_cases hi : i < ys.length
      · rw [if_pos (by omega)]
        have e2 : cur[i]? = ys[i]? := by
          rw [← h6, List.getElem?_take, if_pos (by omega)]; simp
        have e3 := k3 i (hT i hi).1
        rw [e2, (hT i hi).2] at e3
        rw [Array.getElem?_toList]
        rcases e3 with e3 | e3 <;> exact e3
      · rw [if_neg (by omega), List.getElem?_eq_none (by omega)]
    · exact ⟨h1, .inr ⟨g', cap, cur, hv, hg, by rw [hx.2.1 g' (Array.getElem?_eq_some_iff.1 hh).1 e1]; exact hh, h3, h4, h5, h6⟩⟩
end
theorem run_append_lko {P : Program} (w : World) (t ty : TypeId) (base : Nat) (e : TypeId) (i : TypeInfo) (z : Value) (size bytes : Nat) (ht : P.underlying t = some (.slice e)) (hi : P.info? e = some i) (hz : i.zero = some z)
    (hsize : i.size = size) (hby : i.bytes = bytes) (hzs : z.cells.size = size) (hsz : 0 < size)
    (v : Value) (n : Nat) (xs : List Value) (hown : w.ownsRow base e size v n xs)
    (ad : Addr) (m c : Nat) (news : List Value) (hl : news.length = m * size) (hnews : ∀ j u, news[j]? = some u → w.cell? (ad.add j) = some u) (h1 : ∀ u ∈ news, u.oneCell' = true)
    (hm : 0 < m) (h63 : n + m ≤ maxLen) (hbytes : (n + m) * bytes ≤ 140737488355328) (hbase : base ≤ w.heap.size) :
    ∃ g cap w', (Builtin.append_ #[t, t] ty #[v, .slice (some ad) m c]).run P w = .ok (.slice (some ⟨g, 0, none⟩) (n + m) cap) w' ∧
      w'.ownsRow base e size (.slice (some ⟨g, 0, none⟩) (n + m) cap) (n + m) (xs ++ news) ∧ (v.ownBlock = some g ∨ g = w.heap.size) ∧ g < w'.heap.size ∧ LkO v.ownBlock (xs ++ news).length (fun j => (xs ++ news)[j]?) w w' := by
  obtain ⟨g, cap, w', hr, h2, h3, h4, h5⟩ := run_append_lies (P := P) w t ty base e i z size bytes ht hi hz hsize hby hzs hsz v n xs hown ad m c news hl hnews h1 hm h63 hbytes hbase _ rfl
  refine ⟨g, cap, w', hr, h2, h4, h5, ⟨h3.os, h3.tape, h3.output, h3.size⟩, fun k hk hne => h3.block k hk (Ne.symm hne), fun g0 hg0 cc tt f hc => ?_⟩
  rcases hown.2 with ⟨h, _⟩ | ⟨g', cap', cur, rfl, hbg, hg, hnc, hcm, hcs, htake⟩
  · rw [h] at hg0; cases hg0
  · obtain rfl : g' = g0 := Option.some.inj hg0
    by_cases hroom : n + m ≤ cap'
    · have hfit : n * i.size + news.length ≤ cur.size := by rw [hl, hcs, hsize, ← Nat.add_mul]; exact Nat.mul_le_mul_right _ hroom
      have hr2 := run_append_room (P := P) w t ty e i ht hi g' n cap' cur hg ad m c news (by rw [hsize]; exact hl) hnews h1 hroom hfit
      rw [hr] at hr2
      simp only [Result.ok.injEq] at hr2
      have e1 := hr2.1
      simp only [Value.slice.injEq, Option.some.injEq, Addr.mk.injEq, and_true, true_and] at e1
      obtain ⟨rfl, rfl⟩ := e1
      rcases h2.2 with ⟨e2, _⟩ | ⟨g2, cap2, cur2, e2, _, hg2, _, _, hs2, ht2⟩
      · cases e2
      simp only [Value.slice.injEq, Option.some.injEq, Addr.mk.injEq, and_true, true_and] at e2
      obtain ⟨rfl, rfl⟩ := e2
      rw [hg] at hc
      simp only [Option.some.injEq, Obj.cells.injEq] at hc
      obtain ⟨rfl, rfl, rfl⟩ := hc
      refine ⟨cur2, hg2, by rw [hcs, hs2], fun j hj => .inr ?_⟩
      have hlen : (xs ++ news).length = (n + m) * size := h2.1
      show cur2[j]? = (xs ++ news)[j]?
      rw [← ht2, List.getElem?_take, if_pos (by rw [← hlen]; exact hj), Array.getElem?_toList]
    · have hr2 := run_append_grow (P := P) w t ty e i z ht hi hz ⟨g', 0, none⟩ n cap' xs (by rw [hsize]; exact hown.1) (hown.cells (g := g') rfl) ad m c news (by rw [hsize]; exact hl) hnews (by omega) (by unfold maxLen at h63; omega) (growslice_fits (by omega) (by rw [hby]; exact hbytes))
      rw [hr] at hr2
      simp only [Result.ok.injEq] at hr2
      rw [hr2.2]
      exact ⟨cc, by rw [← hc]; exact heap_alloc_old w.drew _ (Array.getElem?_eq_some_iff.1 hg).1, rfl, fun _ _ => .inl rfl⟩
/-- At the list of a region's operations. -/
theorem wpList_append_lko {P : Program} (w : World) {ops : Array Oper} {rest : List Oper} {o : Oper} {a : Act} {Q : Exit → Act → World → Prop} (hgd : o.guard = none) (s x : Operand) (t : TypeId)
    (ho : o.op = .call { callee := .builtin .append, args := #[s, x], argTypes := #[t, t] })
    (base : Nat) (e : TypeId) (i : TypeInfo) (z : Value) (size bytes : Nat) (ht : P.underlying t = some (.slice e)) (hi : P.info? e = some i) (hz : i.zero = some z)
    (hsize : i.size = size) (hby : i.bytes = bytes) (hzs : z.cells.size = size) (hsz : 0 < size)
    (v : Value) (n : Nat) (xs : List Value) (hs : a.eval s = v) (hown : w.ownsRow base e size v n xs)
    (ad : Addr) (m c : Nat) (news : List Value) (hx : a.eval x = .slice (some ad) m c) (hl : news.length = m * size) (hnews : ∀ j u, news[j]? = some u → w.cell? (ad.add j) = some u) (h1 : ∀ u ∈ news, u.oneCell' = true)
    (hm : 0 < m) (h63 : n + m ≤ maxLen) (hbytes : (n + m) * bytes ≤ 140737488355328) (hbase : base ≤ w.heap.size)
    (h : ∀ g cap w', w'.ownsRow base e size (.slice (some ⟨g, 0, none⟩) (n + m) cap) (n + m) (xs ++ news) → (v.ownBlock = some g ∨ g = w.heap.size) → g < w'.heap.size → LkO v.ownBlock (xs ++ news).length (fun j => (xs ++ news)[j]?) w w' → wpList P ops Q rest (a.put o.dst (.slice (some ⟨g, 0, none⟩) (n + m) cap)) w') : wpList P ops Q (o :: rest) a w := by
  refine wpList_plain hgd fun K' hK' => ?_
  obtain ⟨g, cap, w', hr, h2, h4, h5, h6⟩ := run_append_lko (P := P) w t o.type base e i z size bytes ht hi hz hsize hby hzs hsz v n xs hown ad m c news hl hnews h1 hm h63 hbytes hbase
  unfold Oper.wp execOp
  simp only [ho, resolve, invoke, builtin, Sem.run_bind, Sem.run_pure, Result.andThen_ok, List.map_toArray, List.map_cons, List.map_nil, hs, hx, hr]
  exact hK' _ _ (h g cap w' h2 h4 h5 h6)
/-- What an append tells: the new list. -/
def AppR (H base e size n : Nat) (X : Option Nat) (ys : List Value) (v : Value) (w : World) : Prop := ∃ g cap, v = .slice (some ⟨g, 0, none⟩) n cap ∧ w.ownsRow base e size v n ys ∧ (X = some g ∨ H ≤ g) ∧ g < w.heap.size
theorem AppR_mono (H base e size n : Nat) (X : Option Nat) (ys : List Value) : G.Mono (LkO X ys.length (fun j => ys[j]?)) (AppR H base e size n X ys) := fun _ _ _ hx ⟨g, cap, h1, h2, h3, h4⟩ => ⟨g, cap, h1, own_lko h2 hx (fun _ hi => ⟨hi, rfl⟩), h3, Nat.lt_of_lt_of_le h4 hx.1.2.2.2⟩
end Go.Proofs.YtgcjclglhijchaaDoor
