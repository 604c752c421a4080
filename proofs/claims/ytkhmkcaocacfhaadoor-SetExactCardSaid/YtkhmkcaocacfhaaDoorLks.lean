/- Worlds that grow, one block of whose cells may turn to what is said: for an 'append' onto a list that the call has, in a region whose order is open. And the sets of a list's bytes, of spans. -/
import Derived.Test.YtkhmkcaocacfhaaDoorStabG
import Derived.Test.YtkhmkcaocacfhaaDoorSpans
namespace Go.Proofs.YtkhmkcaocacfhaaDoor
open Go Go.RowKit
/-- w' is w grown, but that the first N cells of block g may have turned to T; what stands behind them in that block is not looked at. -/
def LkS (g N : Nat) (T : Nat → Option Value) (w w' : World) : Prop :=
  (w'.os = w.os ∧ w'.tape = w.tape ∧ w'.output = w.output ∧ w.heap.size ≤ w'.heap.size) ∧ (∀ k, k < w.heap.size → k ≠ g → w'.heap[k]? = w.heap[k]?) ∧
  ∀ c t f, w.heap[g]? = some (.cells c t f) → ∃ c', w'.heap[g]? = some (.cells c' t f) ∧ c'.size = c.size ∧ ∀ i, i < N → c'[i]? = c[i]? ∨ c'[i]? = T i
section
variable {g N : Nat} {T : Nat → Option Value} {w w' : World}
theorem LkS.of_ext (h : Ext w w') : LkS g N T w w' :=
  ⟨⟨h.os, h.tape, h.output, h.size⟩, fun k hk _ => h.block k hk, fun c t f hc => ⟨c, by rw [h.block g (Array.getElem?_eq_some_iff.1 hc).1]; exact hc, rfl, fun _ _ => .inl rfl⟩⟩
theorem LkS.refl (u : World) : LkS g N T u u := LkS.of_ext (Below.refl _ u)
theorem LkS.trans {a b c : World} (h : LkS g N T a b) (k : LkS g N T b c) : LkS g N T a c := by
  obtain ⟨⟨h1, h2, h3, h4⟩, h5, h6⟩ := h
  obtain ⟨⟨k1, k2, k3, k4⟩, k5, k6⟩ := k
  refine ⟨⟨k1.trans h1, k2.trans h2, k3.trans h3, Nat.le_trans h4 k4⟩, fun i hi hg => (k5 i (Nat.lt_of_lt_of_le hi h4) hg).trans (h5 i hi hg), fun c t f hc => ?_⟩
  obtain ⟨c1, e1, e2, e3⟩ := h6 c t f hc
  obtain ⟨c2, f1, f2, f3⟩ := k6 c1 t f e1
  refine ⟨c2, f1, f2.trans e2, fun i hi => ?_⟩
  rcases f3 i hi with h | h
  · rw [h]; exact e3 i hi
  · exact .inr h
instance : G.GOK (LkS g N T) := ⟨LkS.refl, LkS.trans, fun _ => LkS.of_ext ⟨rfl, rfl, rfl, Nat.le_refl _, fun _ _ => rfl⟩⟩
theorem LkS.below {B : Nat} (h : LkS g N T w w') (hB : B ≤ w.heap.size) (hg : B ≤ g) : Below B w w' :=
  ⟨h.1.1, h.1.2.1, h.1.2.2.1, h.1.2.2.2, fun k hk => h.2.1 k (by omega) (by omega)⟩
theorem LkS.blk {b : Nat} {vs : Array Value} {t : TypeId} (h : LkS g N T w w') (hb : Blk w b vs t) (hg : b ≠ g) : Blk w' b vs t := by
  have := hb.lt
  unfold Blk at *
  rw [h.2.1 b this hg]; exact hb
theorem own_lks {b e sz m : Nat} {v : Value} {ys : List Value} (h : w.ownsRow b e sz v m ys) (hx : LkS g N T w w') (hT : ∀ i, i < ys.length → i < N ∧ T i = ys[i]?) : w'.ownsRow b e sz v m ys := by
  obtain ⟨h1, h2 | ⟨g', cap, cur, hv, hg, hh, h3, h4, h5, h6⟩⟩ := h
  · exact ⟨h1, .inl h2⟩
  · by_cases e1 : g' = g
    · subst e1
      obtain ⟨c', k1, k2, k3⟩ := hx.2.2 cur _ _ hh
      refine ⟨h1, .inr ⟨g', cap, c', hv, hg, k1, h3, h4, k2.trans h5, ?_⟩⟩
      apply List.ext_getElem?
      intro i
      rw [List.getElem?_take]
      by_cases hi : i < ys.length
      · rw [if_pos (by omega)]
        have e2 : cur[i]? = ys[i]? := by
          rw [← h6, List.getElem?_take, if_pos (by omega)]; simp
        have e3 := k3 i (hT i hi).1
        rw [e2, (hT i hi).2] at e3
        rw [Array.getElem?_toList]
        rcases e3 with e3 | e3 <;> exact e3
      · rw [if_neg (by omega), List.getElem?_eq_none (by omega)]
    · exact ⟨h1, .inr ⟨g', cap, cur, hv, hg, by rw [hx.2.1 g' (Array.getElem?_eq_some_iff.1 hh).1 e1]; exact hh, h3, h4, h5, h6⟩⟩
theorem own_lks' {b e sz m g' cap : Nat} {ys : List Value} (h : w.ownsRow b e sz (.slice (some ⟨g', 0, none⟩) m cap) m ys) (hx : LkS g N T w w') (hne : g' ≠ g) : w'.ownsRow b e sz (.slice (some ⟨g', 0, none⟩) m cap) m ys := by
  obtain ⟨h1, ⟨h2, _⟩ | ⟨g2, cap2, cur, hv, hg, hh, rest⟩⟩ := h
  · cases h2
  · have e1 := hv
    simp only [Value.slice.injEq, Option.some.injEq, Addr.mk.injEq, and_true, true_and] at e1
    obtain ⟨rfl, rfl⟩ := e1
    exact ⟨h1, .inr ⟨g', cap, cur, rfl, hg, by rw [hx.2.1 g' (Array.getElem?_eq_some_iff.1 hh).1 hne]; exact hh, rest⟩⟩
end
/-- 'append' of a list that is there: onto its own room, or anew. -/
theorem run_append_two {P : Program} (w : World) (base : Nat) (t ty e : TypeId) (i : TypeInfo) (z : Value) (size bytes : Nat) (ht : P.underlying t = some (.slice e)) (hi : P.info? e = some i) (hz : i.zero = some z)
    (hsize : i.size = size) (hby : i.bytes = bytes) (hzs : z.cells.size = size) (hsz : 0 < size)
    (g cap n : Nat) (xs : List Value) (hown : w.ownsRow base e size (.slice (some ⟨g, 0, none⟩) n cap) n xs)
    (a : Addr) (m c : Nat) (news : List Value) (hl : news.length = m * size) (hnews : ∀ j u, news[j]? = some u → w.cell? (a.add j) = some u) (h1 : ∀ u ∈ news, u.oneCell' = true)
    (h63 : n + m ≤ maxLen) (hbytes : (n + m) * bytes ≤ 140737488355328) (hbase : base ≤ w.heap.size) :
    ∃ v' w', (Builtin.append_ #[t, t] ty #[.slice (some ⟨g, 0, none⟩) n cap, .slice (some a) m c]).run P w = .ok v' w' ∧ w'.ownsRow base e size v' (n + m) (xs ++ news) ∧ w.grownBy w' (some g) ∧
      (w'.heap[g]? = w.heap[g]? ∨ v' = .slice (some ⟨g, 0, none⟩) (n + m) cap) := by
  obtain ⟨v', w', hr, h2, h3, _⟩ := run_append_own (P := P) w base t ty e i z size bytes ht hi hz hsize hby hzs hsz _ n xs hown a m c news hl hnews h1 h63 hbytes hbase
  refine ⟨v', w', hr, h2, h3, ?_⟩
  rcases hown.2 with ⟨h, _⟩ | ⟨g', cap', cur, h, hbg, hg, hnc, hcm, hcs, htake⟩
  · cases h
  · simp only [Value.slice.injEq, Option.some.injEq, Addr.mk.injEq, and_true, true_and] at h
    obtain ⟨rfl, rfl⟩ := h
    by_cases hroom : n + m ≤ cap
    · right
      have hfit : n * i.size + news.length ≤ cur.size := by rw [hl, hcs, hsize, ← Nat.add_mul]; exact Nat.mul_le_mul_right _ hroom
      have hr2 := run_append_room (P := P) w t ty e i ht hi g n cap cur hg a m c news (by rw [hsize]; exact hl) hnews h1 hroom hfit
      rw [hr] at hr2
      simp only [Result.ok.injEq] at hr2
      exact hr2.1
    · left
      have hr2 := run_append_grow (P := P) w t ty e i z ht hi hz ⟨g, 0, none⟩ n cap xs (by rw [hsize]; exact hown.1) (hown.cells (g := g) rfl) a m c news (by rw [hsize]; exact hl) hnews (by omega) (by unfold maxLen at h63; omega) (growslice_fits (by omega) (by rw [hby]; exact hbytes))
      rw [hr] at hr2
      simp only [Result.ok.injEq] at hr2
      rw [hr2.2]
      exact heap_alloc_old w.drew _ (Array.getElem?_eq_some_iff.1 hg).1
/-- .. as a step of a region whose order is open, under a guard. -/
theorem wpList_append_two {P : Program} {w : World} {ops : Array Oper} {o : Oper} {act : Act} {K : Act → World → Prop} {Q : Exit → Act → World → Prop} (hn : Region.wanted o (yielded ops act.tmps) = true) (s x : Operand) (base : Nat) (t e : TypeId) (i : TypeInfo) (z : Value) (size bytes : Nat)
    (ho : o.op = .call { callee := .builtin .append, args := #[s, x], argTypes := #[t, t] }) (ht : P.underlying t = some (.slice e)) (hi : P.info? e = some i) (hz : i.zero = some z)
    (hsize : i.size = size) (hby : i.bytes = bytes) (hzs : z.cells.size = size) (hsz : 0 < size)
    (g cap n : Nat) (xs : List Value) (hown : w.ownsRow base e size (.slice (some ⟨g, 0, none⟩) n cap) n xs) (hs : act.eval s = .slice (some ⟨g, 0, none⟩) n cap)
    (a : Addr) (m c : Nat) (news : List Value) (hx : act.eval x = .slice (some a) m c) (hl : news.length = m * size) (hnews : ∀ j u, news[j]? = some u → w.cell? (a.add j) = some u) (h1 : ∀ u ∈ news, u.oneCell' = true)
    (h63 : n + m ≤ maxLen) (hbytes : (n + m) * bytes ≤ 140737488355328) (hbase : base ≤ w.heap.size)
    (h : ∀ v' w', w'.ownsRow base e size v' (n + m) (xs ++ news) → LkS g (xs ++ news).length (fun j => (xs ++ news)[j]?) w w' → K (act.put o.dst v') w') : wpList P ops (Exit.then K Q) [o] act w := by
  obtain ⟨v', w', hr, h2, h3, h4⟩ := run_append_two (P := P) w base t o.type e i z size bytes ht hi hz hsize hby hzs hsz g cap n xs hown a m c news hl hnews h1 h63 hbytes hbase
  simp only [wpList]
  rw [if_pos hn]
  left
  unfold Oper.wp execOp
  simp only [ho, resolve, invoke, builtin, Sem.run_bind, Sem.run_pure, Result.andThen_ok, List.map_toArray, List.map_cons, List.map_nil, hs, hx, hr]
  refine h v' w' h2 ⟨⟨h3.os, h3.tape, h3.output, h3.size⟩, fun k hk hne => h3.block k hk (by simpa using hne), fun cc tt f hc => ?_⟩
  rcases h4 with h4 | rfl
  · exact ⟨cc, by rw [h4]; exact hc, rfl, fun _ _ => .inl rfl⟩
  · rcases hown.2 with ⟨e1, _⟩ | ⟨g1, cap1, cur1, e1, _, hg1, _, _, hs1, ht1⟩
    · cases e1
    rcases h2.2 with ⟨e2, _⟩ | ⟨g2, cap2, cur2, e2, _, hg2, _, _, hs2, ht2⟩
    · cases e2
    simp only [Value.slice.injEq, Option.some.injEq, Addr.mk.injEq, and_true, true_and] at e1 e2
    obtain ⟨rfl, rfl⟩ := e1
    obtain ⟨rfl, rfl⟩ := e2
    rw [hg1] at hc
    simp only [Option.some.injEq, Obj.cells.injEq] at hc
    obtain ⟨rfl, rfl, rfl⟩ := hc
    refine ⟨cur2, hg2, by rw [hs1, hs2], fun j hj => .inr ?_⟩
    have hlen : (xs ++ news).length = (n + m) * size := h2.1
    show cur2[j]? = (xs ++ news)[j]?
    rw [← ht2, List.getElem?_take, if_pos (by rw [← hlen]; exact hj), Array.getElem?_toList]
theorem u8n (n : Nat) (h : n < 256) : (UInt8.ofNat n).toNat = n := UInt8.toNat_ofNat_of_lt' h
/-- The bytes of a set of bytes, of spans. -/
theorem ofl_bit (l : List UInt8) (i : Nat) (hi : i < 256) : (ofl l).getLsbD i = l.any fun x => x.toNat == i := by
  have key : ∀ (l : List UInt8) (s : BitVec 256), (l.foldl (fun s x => s ||| 1#256 <<< x.toNat) s).getLsbD i = (s.getLsbD i || l.any fun x => x.toNat == i) := by
    intro l
    induction l with
    | nil => intro s; simp
    | cons x l ih =>
      intro s
      rw [List.foldl_cons, ih, BitVec.getLsbD_or, BitVec.getLsbD_shiftLeft, BitVec.getLsbD_one, List.any_cons, Bool.or_assoc]
      congr 2
      by_cases e : x.toNat = i
      · subst e; simp [hi]
      · have : (x.toNat == i) = false := by simpa using e
        rw [this]
        by_cases e2 : i < x.toNat
        · simp [e2]
        · have : ¬ i - x.toNat = 0 := by omega
          simp [this]
  unfold ofl
  rw [key]; simp
theorem ofs_bit (l : List (UInt8 × UInt8)) (i : Nat) : (ofs l).getLsbD i = l.any fun p => decide (p.1.toNat ≤ i ∧ i ≤ p.2.toNat) := by
  have key : ∀ (l : List (UInt8 × UInt8)) (s : BitVec 256), (l.foldl (fun s p => s ||| rng (p.1.toNat : Int) (p.2.toNat : Int)) s).getLsbD i = (s.getLsbD i || l.any fun p => decide (p.1.toNat ≤ i ∧ i ≤ p.2.toNat)) := by
    intro l
    induction l with
    | nil => intro s; simp
    | cons x l ih =>
      intro s
      have h1 := x.1.toNat_lt
      have h2 := x.2.toNat_lt
      rw [List.foldl_cons, ih, BitVec.getLsbD_or, rng_bit _ _ _ (by omega) (by omega) (by omega) (by omega), List.any_cons, Bool.or_assoc]
      congr 2
      rw [decide_eq_decide]; omega
  unfold ofs
  rw [key]; simp
theorem mem_lst (s : BitVec 256) (i : Nat) : i ∈ lstN s 4 ↔ i < 256 ∧ s.getLsbD i = true := by
  unfold lstN
  rw [List.mem_filter, List.mem_range]
theorem ofl_lst (s : BitVec 256) : ofl (lst s) = s := by
  apply BitVec.eq_of_getLsbD_eq
  intro i hi
  rw [ofl_bit _ _ hi, Bool.eq_iff_iff, List.any_eq_true]
  unfold lst
  constructor
  · rintro ⟨x, hx, he⟩
    obtain ⟨n, hn, rfl⟩ := List.mem_map.1 hx
    have := (mem_lst s n).1 hn
    rw [u8n _ (by omega)] at he
    have e : n = i := by simpa using he
    rw [← e]; exact this.2
  · intro h
    exact ⟨UInt8.ofNat i, List.mem_map.2 ⟨i, (mem_lst s i).2 ⟨hi, h⟩, rfl⟩, by rw [u8n _ (by omega)]; simp⟩
/-- Spans as bytes. -/
def sp8 (S : List (Nat × Nat)) : List (UInt8 × UInt8) := S.map fun p => (UInt8.ofNat p.1, UInt8.ofNat p.2)
theorem sp8_cells (S : List (Nat × Nat)) (h : ∀ p ∈ S, p.1 < 256 ∧ p.2 < 256) : scells (sp8 S) = spc S := by
  induction S with
  | nil => rfl
  | cons p S ih =>
    have hp := h p (by simp)
    have := ih fun q hq => h q (by simp [hq])
    simp only [sp8, List.map_cons, scells, List.flatMap_cons, spc, ub, nb] at *
    rw [this, u8n _ (by omega), u8n _ (by omega)]
theorem spn_lt (s : BitVec 256) : ∀ p ∈ spn s, p.1 < 256 ∧ p.2 < 256 :=
  spansN_all (· < 256) _ (lstN s 4) rfl (fun x hx => by have := lstN_lt s 4 x hx; omega)
theorem ofs_spn (s : BitVec 256) (S : List (Nat × Nat)) (hS : ∀ i, i < 256 → ((∃ p ∈ S, p.1 ≤ i ∧ i ≤ p.2) ↔ s.getLsbD i = true)) (hlt : ∀ p ∈ S, p.1 < 256 ∧ p.2 < 256) : ofs (sp8 S) = s := by
  apply BitVec.eq_of_getLsbD_eq
  intro i hi
  rw [ofs_bit, Bool.eq_iff_iff, List.any_eq_true, ← hS i hi]
  unfold sp8
  constructor
  · rintro ⟨x, hx, he⟩
    obtain ⟨p, hp, rfl⟩ := List.mem_map.1 hx
    have := hlt p hp
    rw [u8n _ (by omega), u8n _ (by omega)] at he
    exact ⟨p, hp, by simpa using he⟩
  · rintro ⟨p, hp, he⟩
    have := hlt p hp
    refine ⟨_, List.mem_map.2 ⟨p, hp, rfl⟩, ?_⟩
    rw [u8n _ (by omega), u8n _ (by omega)]
    simpa using he
theorem spn_mem (s : BitVec 256) (i : Nat) (hi : i < 256) : (∃ p ∈ spn s, p.1 ≤ i ∧ i ≤ p.2) ↔ s.getLsbD i = true := by
  rw [← (spn_inv s).mem i, mem_lst]
  exact ⟨fun h => h.2, fun h => ⟨hi, h⟩⟩
theorem ofs_one (s : BitVec 256) : ofs (sp8 (spn s)) = s := ofs_spn s _ (spn_mem s) (spn_lt s)
theorem ofs_two (s : BitVec 256) : ofs (sp8 (spn s ++ spn s)) = s :=
  ofs_spn s _ (fun i hi => by
    rw [← spn_mem s i hi]
    constructor
    · rintro ⟨p, hp, h⟩; exact ⟨p, by simpa using hp, h⟩
    · rintro ⟨p, hp, h⟩; exact ⟨p, by simpa using hp, h⟩) (fun p hp => spn_lt s p (by simpa using hp))
theorem Spans.of_own {w : World} {base e : Nat} {v : Value} {S : List (Nat × Nat)} (h : w.ownsRow base e 2 v S.length (spc S)) (hS : S.length ≤ 140737488355328) (hs : ∀ p ∈ S, p.1 < 256 ∧ p.2 < 256) : Spans w v (sp8 S) := by
  unfold Spans
  rw [sp8_cells S hs, show (sp8 S).length = S.length by simp [sp8]]
  exact Slc.of_own h hS
end Go.Proofs.YtkhmkcaocacfhaaDoor
