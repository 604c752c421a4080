/- A list that was told is written over, and beyond its end. -/
import Derived.Test.YtkhmkcaocacfhaaDoorKit2
namespace Go.Proofs.YtkhmkcaocacfhaaDoor
open Go Go.RowKit
/-- Where 'append' puts what it makes: onto the list's own block, or into a new one. -/
theorem run_append_where {P : Program} (w : World) (base : Nat) (t ty e : TypeId) (i : TypeInfo) (z : Value) (size bytes : Nat) (ht : P.underlying t = some (.slice e)) (hi : P.info? e = some i) (hz : i.zero = some z)
    (hsize : i.size = size) (hby : i.bytes = bytes) (hzs : z.cells.size = size) (hsz : 0 < size)
    (v : Value) (n : Nat) (xs : List Value) (hown : w.ownsRow base e size v n xs)
    (a : Addr) (m c : Nat) (hm0 : 0 < m) (news : List Value) (hl : news.length = m * size) (hnews : ∀ j u, news[j]? = some u → w.cell? (a.add j) = some u) (h1 : ∀ u ∈ news, u.oneCell' = true)
    (h63 : n + m ≤ maxLen) (hbytes : (n + m) * bytes ≤ 140737488355328) (hbase : base ≤ w.heap.size) :
    ∃ v' w' g' cap', (Builtin.append_ #[t, t] ty #[v, .slice (some a) m c]).run P w = .ok v' w' ∧ v' = .slice (some ⟨g', 0, none⟩) (n + m) cap' ∧ w'.ownsRow base e size v' (n + m) (xs ++ news) ∧ w.grownBy w' v.ownBlock ∧
      (v.ownBlock = some g' ∨ w.heap.size ≤ g') := by
  obtain ⟨v', w', hr, h2, h3, _⟩ := run_append_own (P := P) w base t ty e i z size bytes ht hi hz hsize hby hzs hsz v n xs hown a m c news hl hnews h1 h63 hbytes hbase
  rcases hown.2 with ⟨rfl, rfl⟩ | ⟨g, cap, cur, rfl, hbg, hg, hnc, hcm, hcs, htake⟩
  · have hr2 := run_append_nil (P := P) w t ty e i z ht hi hz a m c news (by rw [hsize]; exact hl) hnews (by omega) (by unfold maxLen at h63; omega) (by rw [hby]; have hb := hbytes; simp only [Nat.zero_add] at hb; omega)
    rw [hr] at hr2
    simp only [Result.ok.injEq] at hr2
    exact ⟨v', w', w.heap.size, grownCap w m 0 e, hr, by rw [hr2.1, Nat.zero_add], h2, h3, .inr (Nat.le_refl _)⟩
  · by_cases hroom : n + m ≤ cap
    · have hfit : n * i.size + news.length ≤ cur.size := by rw [hl, hcs, hsize, ← Nat.add_mul]; exact Nat.mul_le_mul_right _ hroom
      have hr2 := run_append_room (P := P) w t ty e i ht hi g n cap cur hg a m c news (by rw [hsize]; exact hl) hnews h1 hroom hfit
      rw [hr] at hr2
      simp only [Result.ok.injEq] at hr2
      exact ⟨v', w', g, _, hr, hr2.1, h2, h3, .inl rfl⟩
    · have hr2 := run_append_grow (P := P) w t ty e i z ht hi hz ⟨g, 0, none⟩ n cap xs (by rw [hsize]; exact hown.1) (hown.cells (g := g) rfl) a m c news (by rw [hsize]; exact hl) hnews (by omega) (by unfold maxLen at h63; omega) (growslice_fits (by omega) (by rw [hby]; exact hbytes))
      rw [hr] at hr2
      simp only [Result.ok.injEq] at hr2
      exact ⟨v', w', w.heap.size, _, hr, hr2.1, h2, h3, .inr (Nat.le_refl _)⟩
theorem wpList_append_where {P : Program} {w : World} {ops : Array Oper} {rest : List Oper} {o : Oper} {act : Act} {Q : Exit → Act → World → Prop} (hgd : o.guard = none) (s x : Operand) (base : Nat) (t e : TypeId) (i : TypeInfo) (z : Value) (size bytes : Nat)
    (ho : o.op = .call { callee := .builtin .append, args := #[s, x], argTypes := #[t, t] }) (ht : P.underlying t = some (.slice e)) (hi : P.info? e = some i) (hz : i.zero = some z)
    (hsize : i.size = size) (hby : i.bytes = bytes) (hzs : z.cells.size = size) (hsz : 0 < size)
    (v : Value) (n : Nat) (xs : List Value) (hown : w.ownsRow base e size v n xs) (hs : act.eval s = v)
    (a : Addr) (m c : Nat) (hm0 : 0 < m) (news : List Value) (hx : act.eval x = .slice (some a) m c) (hl : news.length = m * size) (hnews : ∀ j u, news[j]? = some u → w.cell? (a.add j) = some u) (h1 : ∀ u ∈ news, u.oneCell' = true)
    (h63 : n + m ≤ maxLen) (hbytes : (n + m) * bytes ≤ 140737488355328) (hbase : base ≤ w.heap.size)
    (h : ∀ g' cap' w', w'.ownsRow base e size (.slice (some ⟨g', 0, none⟩) (n + m) cap') (n + m) (xs ++ news) → w.grownBy w' v.ownBlock → (v.ownBlock = some g' ∨ w.heap.size ≤ g') → wpList P ops Q rest (act.put o.dst (.slice (some ⟨g', 0, none⟩) (n + m) cap')) w') : wpList P ops Q (o :: rest) act w := by
  refine wpList_plain hgd fun K hK => ?_
  obtain ⟨v', w', g', cap', hr, rfl, h2, h3, h4⟩ := run_append_where (P := P) w base t o.type e i z size bytes ht hi hz hsize hby hzs hsz v n xs hown a m c hm0 news hl hnews h1 h63 hbytes hbase
  unfold Oper.wp execOp
  simp only [ho, resolve, invoke, builtin, Sem.run_bind, Sem.run_pure, Result.andThen_ok, List.map_toArray, List.map_cons, List.map_nil, hs, hx, hr]
  exact hK _ _ (h g' cap' w' h2 h3 h4)
theorem cells_three_new (w : World) (a b c : Value) (t : TypeId) : ∀ (j : Nat) u, [a, b, c][j]? = some u → (w.alloc (.cells #[a, b, c] t)).cell? ((⟨w.heap.size, 0, none⟩ : Addr).add j) = some u := by
  intro j u hu
  have hadd : (⟨w.heap.size, 0, none⟩ : Addr).add j = ⟨w.heap.size, j, none⟩ := by unfold Addr.add; split <;> simp_all
  rw [hadd, (Blk.new w #[a, b, c] t).cell j]
  simpa using hu
/-- w' is w grown, but for block 'row'. -/
theorem grown_set {w0 w : World} {row : Option Nat} {g i : Nat} (h : w0.grownBy w row) (hg : row = some g ∨ w0.heap.size ≤ g) (u : Value) : w0.grownBy (w.setCell ⟨g, i, none⟩ u) row :=
  ⟨h.os, h.tape, h.output, by simpa using h.size, fun k hk hne => by
    have hkg : k ≠ g := by
      rintro rfl
      rcases hg with hg | hg
      · exact hne hg.symm
      · omega
    rw [Below.heap_setCell _ _ _ _ hkg]; exact h.block k hk hne⟩
theorem grown_alloc {w w' : World} {row : Option Nat} {o : Obj} (h : (w.alloc o).grownBy w' row) : w.grownBy w' row :=
  ⟨h.os, h.tape, h.output, by have := h.size; simp at this; omega, fun k hk hne => by rw [h.block k (by simp; omega) hne, Below.heap_alloc _ _ _ hk]⟩
set_option maxHeartbeats 1000000 in
set_option maxRecDepth 20000 in
theorem over_any (v : Value) (n base : Nat) (xs : List Value) (w : World) (hown : w.ownsRow base 5 1 v n xs) (hn : n ≤ 1000) (hb : base ≤ w.heap.size) :
    Calls Tryd.prog 66 #[v] w fun e w' => e = .returned (.tuple #[]) ∧ w.grownBy w' v.ownBlock := by
  obtain ⟨i0, hi0, hz0, hz1, hz2⟩ := info_parts info_u8
  have HO := Lib.hid hown
  clear hown
  go_enter Tryd.func66, Tryd.ntmps66
  go_wp2_with (at_builtin; refine wpList_append_where rfl (.tmp 3) (.tmp 4) base 26 5 i0 (.int .u8 0) 1 1 rfl Tryd.underlying26 hi0 hz0 hz1 hz2 rfl (by decide) v n xs (HO.out.alloc _) rfl ⟨w.heap.size, 0, none⟩ 3 3 (by omega) [_, _, _] rfl rfl (cells_three_new _ _ _ _ _) (by intro u hu; simp at hu; rcases hu with rfl | rfl | rfl <;> rfl) (by unfold maxLen; omega) (by omega) (by simp; omega) ?_; intro g cap w2 hown2 hgrow2 hwh)
  have hg2 := grown_alloc hgrow2
  have hwh2 : v.ownBlock = some g ∨ w.heap.size ≤ g := by
    rcases hwh with h | h
    · exact .inl h
    · exact .inr (by simp at h; omega)
  clear hgrow2 hwh
  go_loopw [2] (fun i wr => ∃ (k : Nat) (ys : List Value), k ≤ n + 3 ∧ i = .int .i64 k ∧ wr.ownsRow base 5 1 (.slice (some ⟨g, 0, none⟩) (n + 3) cap) (n + 3) ys ∧ w.grownBy wr v.ownBlock) (fun i _ => n + 3 - (intOf i).toNat)
  case atStart => exact ⟨0, _, Nat.zero_le _, rfl, hown2, hg2⟩
  case round =>
    clear hown2 hg2
    obtain ⟨k, ys, hk, rfl, hown, hg⟩ := hrel
    by_cases hlt : k < n + 3
    · have hlen : ys.length = n + 3 := by have := hown.1; omega
      have hc : wr.cell? ⟨g, k, none⟩ = some (ys[k]'(by omega)) := by rw [hown.cellAt k (by omega), List.getElem?_eq_getElem (by omega)]
      have hf : wr.frozen? ⟨g, k, none⟩ = false := hown.frozenAt _
      have HO2 := Lib.hid (And.intro hown hg)
      clear hown hg
      generalize ys[k]'(by omega) = y at hc
      go_wp2
      go_roundw
      case rel =>
        obtain ⟨s1, s2⟩ := HO2.out.1.stored k (.int .u8 90)
        exact ⟨k + 1, _, by omega, by go_num, s1, grown_set HO2.out.2 hwh2 _⟩
      case measure => simp [intOf]; omega
    · obtain rfl : k = n + 3 := by omega
      go_wp2
      go_end0
      exact ⟨rfl, hg⟩
theorem Lent.bytes {w : World} {base : Nat} {v : Value} {l : List UInt8} (h : Lent w base v l) (hl : l.length ≤ 140737488355328) : Bytes w v l := by
  obtain ⟨g, rfl, ho⟩ := h
  have hg := (ho.lt g rfl).2
  refine ⟨_, _, rfl, by omega, ⟨hl, by unfold maxLen; omega⟩, .inr ⟨g, 0, rfl, hg, fun i hi => ?_⟩⟩
  have hi' : i < l.length := by simpa using hi
  rw [Nat.zero_add, ho.cellAt i (by omega), List.getElem?_append_left hi]
theorem grown_ext {w0 w w' : World} {row : Option Nat} (h : w0.grownBy w row) (hE : Ext w w') : w0.grownBy w' row :=
  ⟨hE.os.trans h.os, hE.tape.trans h.tape, hE.output.trans h.output, Nat.le_trans h.size hE.size, fun k hk hne => (hE.block k (Nat.lt_of_lt_of_le hk h.size)).trans (h.block k hk hne)⟩
theorem grown_of_ext {w w' : World} {row : Option Nat} (hE : Ext w w') : w.grownBy w' row :=
  ⟨hE.os, hE.tape, hE.output, hE.size, fun k hk _ => hE.block k hk⟩
theorem eq_self (v u : Value) (a : List UInt8) (w : World) (hv : Bytes w v a) (hu : Bytes w u a) :
    Calls Tryd.prog 60 #[v, u] w fun e w' => e = .returned (.bool true) ∧ Below w.heap.size w w' := eq_same v u a a w hv hu rfl
set_option maxHeartbeats 1000000 in
set_option maxRecDepth 20000 in
theorem back_any (v u : Value) (l : List UInt8) (base : Nat) (w : World) (hv : Lent w base v l) (hu : Bytes w u l) (hl : l.length ≤ 140737488355328) :
    Calls Tryd.prog 17 #[v, u] w fun e w' => e = .returned (.bool true) ∧ w.grownBy w' v.ownBlock := by
  have HV := Lib.hid (And.intro (hv.bytes hl) hu)
  obtain ⟨g, rfl, hown⟩ := hv
  obtain ⟨au, cu, rfl, _⟩ := id hu
  have HO := Lib.hid hown
  clear hown hu
  go_enter Tryd.func17, Tryd.ntmps17
  go_wp2_with fail
  refine (eq_self _ _ l _ HV.out.1 HV.out.2).mono ?_
  rintro e w1 ⟨rfl, hE⟩
  have HO1 := Lib.hid (And.intro (own_below HO.out hE (Nat.le_refl _)) (grown_of_ext (row := some g) hE))
  clear hE HO HV
  go_wp2_with fail
  go_loopw [5, 7] (fun ok i wr => ∃ k : Nat, k ≤ 7 ∧ i = .int .i64 ((l.length + k : Nat) : Int) ∧ ok = .bool true ∧ ∃ n, wr = w1.drewN n) (fun _ i _ => l.length + 7 - (intOf i).toNat)
  case atStart => exact ⟨0, Nat.zero_le _, rfl, rfl, 0, rfl⟩
  case round =>
    obtain ⟨k, hk, rfl, rfl, hwr⟩ := hrel
    have HW := Lib.hid hwr
    clear hwr
    by_cases hlt : k < 7
    · have hc : wr.cell? ⟨g, l.length + k, none⟩ = some (.int .u8 165) := by
        obtain ⟨n, rfl⟩ := HW.out
        show w1.cell? _ = _
        rw [HO1.out.1.cellAt _ (by omega), List.getElem?_append_right (by simp), List.length_map, show l.length + k - l.length = k by omega, List.getElem?_replicate_of_lt hlt]
      go_wp2
      go_roundw
      case rel => exact ⟨k + 1, by omega, by go_num, rfl, HW.out⟩
      case measure => simp [intOf]; omega
    · obtain rfl : k = 7 := by omega
      have hown2 : wr.ownsRow base 5 1 (.slice (some ⟨g, 0, none⟩) (l.length + 7) (l.length + 7)) (l.length + 7) (l.map ub ++ mark 7) := by obtain ⟨n, rfl⟩ := HW.out; exact HO1.out.1
      have hg2 : w.grownBy wr (some g) := by obtain ⟨n, rfl⟩ := HW.out; exact grown_ext HO1.out.2 (below_drewN (Below.refl _ _) n)
      obtain ⟨wo, rfl⟩ : ∃ wo : World, wo = wr := ⟨_, rfl⟩
      have HO2 := Lib.hid (And.intro hown2 hg2)
      clear hown2 hg2 HW HO1
      go_wp2_with fail
      go_loopw [8] (fun i wr => ∃ (k : Nat) (ys : List Value), k ≤ l.length + 7 ∧ i = .int .i64 k ∧ wr.ownsRow base 5 1 (.slice (some ⟨g, 0, none⟩) (l.length + 7) (l.length + 7)) (l.length + 7) ys ∧ w.grownBy wr (some g)) (fun i _ => l.length + 7 - (intOf i).toNat)
      case atStart => exact ⟨0, _, Nat.zero_le _, rfl, HO2.out.1, HO2.out.2⟩
      case round =>
        obtain ⟨k, ys, hk, rfl, hown, hg⟩ := hrel
        by_cases hlt : k < l.length + 7
        · have hlen : ys.length = l.length + 7 := by have := hown.1; omega
          have hc : wr.cell? ⟨g, k, none⟩ = some (ys[k]'(by omega)) := by rw [hown.cellAt k (by omega), List.getElem?_eq_getElem (by omega)]
          have hf : wr.frozen? ⟨g, k, none⟩ = false := hown.frozenAt _
          have HO3 := Lib.hid (And.intro hown hg)
          clear hown hg
          generalize ys[k]'(by omega) = y at hc
          go_wp2
          go_roundw
          case rel =>
            obtain ⟨s1, s2⟩ := HO3.out.1.stored k (.int .u8 90)
            exact ⟨k + 1, _, by omega, by go_num, s1, grown_set HO3.out.2 (.inl rfl) _⟩
          case measure => simp [intOf]; omega
        · obtain rfl : k = l.length + 7 := by omega
          go_wp2
          go_ret
          exact ⟨rfl, hg⟩
end Go.Proofs.YtkhmkcaocacfhaaDoor
